/- sha.Sum: the sum of a text of up to 900000 bytes is SHA-256's, byte by byte. Condition: the table of constants lies in memory as the program's text lays it. -/
import Derived.Test.YtolipnjlbdbofaaDoorH
import Derived.Deep.RegionWith
import Derived.Deep.DeepCutAuto
namespace Go.Proofs.YtolipnjlbdbofaaDoor
open Go.RowKit
/-- zero bytes -/
def z32 : Array Value := bs (List.replicate 32 0)
/-- eight words as they stand written out -/
theorem c8_lit (v : W8) : c8 v = #[W32 v.a, W32 v.b, W32 v.c, W32 v.d, W32 v.e, W32 v.f, W32 v.g, W32 v.h] := rfl
theorem put8 {w : World} {g : Nat} {t : TypeId} {v : W8} (h : Has w g t (c8 v)) (r : W8) :
    Has ((((((((w.setCell ⟨g, 0, none⟩ (W32 r.a)).setCell ⟨g, 1, none⟩ (W32 r.b)).setCell ⟨g, 2, none⟩ (W32 r.c)).setCell ⟨g, 3, none⟩ (W32 r.d)).setCell ⟨g, 4, none⟩ (W32 r.e)).setCell ⟨g, 5, none⟩ (W32 r.f)).setCell ⟨g, 6, none⟩ (W32 r.g)).setCell ⟨g, 7, none⟩ (W32 r.h)) g t (c8 r) :=
  (((((((Has.setW (l := v.l) h 0 r.a).setW 1 r.b).setW 2 r.c).setW 3 r.d).setW 4 r.e).setW 5 r.f).setW 6 r.g).setW 7 r.h
theorem Has.other8 {w : World} {g g' : Nat} {t : TypeId} {cs : Array Value} (h : Has w g t cs) (hne : g ≠ g') (r : W8) :
    Has ((((((((w.setCell ⟨g', 0, none⟩ (W32 r.a)).setCell ⟨g', 1, none⟩ (W32 r.b)).setCell ⟨g', 2, none⟩ (W32 r.c)).setCell ⟨g', 3, none⟩ (W32 r.d)).setCell ⟨g', 4, none⟩ (W32 r.e)).setCell ⟨g', 5, none⟩ (W32 r.f)).setCell ⟨g', 6, none⟩ (W32 r.g)).setCell ⟨g', 7, none⟩ (W32 r.h)) g t cs :=
  (((((((h.other hne _).other hne _).other hne _).other hne _).other hne _).other hne _).other hne _).other hne _
theorem below_put8 {B : Nat} {a w : World} (h : Below B a w) {g' : Nat} (hp : B ≤ g') (r : W8) :
    Below B a ((((((((w.setCell ⟨g', 0, none⟩ (W32 r.a)).setCell ⟨g', 1, none⟩ (W32 r.b)).setCell ⟨g', 2, none⟩ (W32 r.c)).setCell ⟨g', 3, none⟩ (W32 r.d)).setCell ⟨g', 4, none⟩ (W32 r.e)).setCell ⟨g', 5, none⟩ (W32 r.f)).setCell ⟨g', 6, none⟩ (W32 r.g)).setCell ⟨g', 7, none⟩ (W32 r.h)) :=
  (((((((h.setCell hp _).setCell hp _).setCell hp _).setCell hp _).setCell hp _).setCell hp _).setCell hp _).setCell hp _
theorem blocks_lit (v : W8) (s : ByteArray) (hm : s.size ≤ 1000000) (r : W8) (hr : blksN v s.data.toList (s.size / 64) = r) (w : World) (hK : HasK w) :
    Calls Tryd.prog 30 #[.agg #[W32 v.a, W32 v.b, W32 v.c, W32 v.d, W32 v.e, W32 v.f, W32 v.g, W32 v.h], .string s] w fun e w' => e = .returned (.agg #[W32 r.a, W32 r.b, W32 r.c, W32 r.d, W32 r.e, W32 r.f, W32 r.g, W32 r.h]) ∧ Below w.heap.size w w' := by
  have h := blocks_any v s hm w hK
  rw [hr, c8_lit, c8_lit] at h
  exact h
/-- what memory holds in the midst of a sum -/
def SEnv (w : World) (st : W8) (wr : World) : Prop := Has wr w.heap.size 25 z32 ∧ Has wr (w.heap.size + 1) 41 (c8 st) ∧ Below w.heap.size w wr
set_option maxHeartbeats 1000000 in
theorem sum_any (s : ByteArray) (hm : s.size ≤ 900000) (w : World) (hK : HasK w) :
    Calls Tryd.prog 21 #[.string s] w fun e w' => e = .returned (.agg (bs (keyL (sumW s.data.toList)))) ∧ Below w.heap.size w w' := by
  have HK := Lib.hid hK
  clear hK
  go_enter Tryd.func21, Tryd.ntmps21
  go_wp2
  rw [show ((s.size : Int) - (s.size : Int) % 64) = ((64 * (s.size / 64) : Nat) : Int) from by omega]
  obtain ⟨p, hp⟩ : ∃ p, p = 64 * (s.size / 64) := ⟨_, rfl⟩
  rw [← hp]
  have hps : p ≤ s.size := by omega
  have HP := Lib.hid hp
  clear hp
  have E : SEnv w first8 ((w.alloc (.cells z32 25)).alloc (.cells (c8 first8) 41)) := ⟨(Has.fresh w 25 z32).alloc _, heap_alloc2_new w _ _, ((Below.refl _ _).alloc (Nat.le_refl _) _).alloc (by simp) _⟩
  change Code.wp _ _ _ _ ((w.alloc (.cells z32 25)).alloc (.cells (c8 first8) 41))
  generalize (w.alloc (.cells z32 25)).alloc (.cells (c8 first8) 41) = wr at E ⊢
  obtain ⟨st, hst⟩ : ∃ st, st = first8 := ⟨_, rfl⟩
  rw [← hst] at E
  obtain ⟨r, hr⟩ : ∃ r, blksN st (s.extract 0 p).data.toList ((s.extract 0 p).size / 64) = r := ⟨_, rfl⟩
  have HC := Lib.hid (blocks_lit st (s.extract 0 p) (by rw [ByteArray.size_extract]; omega) r hr)
  have HST := Lib.hid hst
  have HR := Lib.hid hr
  clear hst hr
  obtain ⟨xa, xb, xc, xd, xe, xf, xg, xh⟩ := st
  obtain ⟨v0, v1, v2, v3, v4, v5, v6, v7⟩ := E.2.1.c8_all
  simp only at HC
  go_region_with
    (first | (go_at_call 30; refine (HC.out _ (HK.out.below HK.out.lt E.2.2.drew)).mono ?_; rintro e w2 ⟨rfl, hb2⟩; have j2 := E.2.1.drew.below hb2 E.2.1.lt; have q0 := j2.frozen 0; have q1 := j2.frozen 1; have q2 := j2.frozen 2; have q3 := j2.frozen 3; have q4 := j2.frozen 4; have q5 := j2.frozen 5; have q6 := j2.frozen 6; have q7 := j2.frozen 7; obtain ⟨c0, c1, c2, c3, c4, c5, c6, c7⟩ := j2.c8_all))
  have E2 : SEnv w r _ := ⟨((E.1.drew.below hb2 E.1.lt).other8 (by omega) r), put8 j2 r, below_put8 (E.2.2.drew.trans (hb2.mono E.2.2.drew.size)) (by omega) r⟩
  clear v0 v1 v2 v3 v4 v5 v6 v7 q0 q1 q2 q3 q4 q5 q6 q7 c0 c1 c2 c3 c4 c5 c6 c7
  generalize World.setCell _ { block := w.heap.size + 1, off := 7 } (W32 r.h) = wr3 at E2 ⊢
  clear j2 hb2 w2 E wr HC
  obtain ⟨F, hF⟩ : ∃ F : ByteArray, F = ⟨(fillL s.size).toArray⟩ := ⟨_, rfl⟩
  have hfl := filling_any s.size (by omega)
  rw [← hF] at hfl
  have hFs : F.size ≤ 100 := by
    have e : F.size = (fillL s.size).length := by rw [hF]; rfl
    have := fillLen_lt s.size
    rw [e, fillL_length]; omega
  have HFL := Lib.hid hfl
  have HF := Lib.hid hF
  clear hfl hF
  obtain ⟨r2, hr2⟩ : ∃ r2, blksN r (s.extract p s.size ++ F).data.toList ((s.extract p s.size ++ F).size / 64) = r2 := ⟨_, rfl⟩
  have HC := Lib.hid (blocks_lit r (s.extract p s.size ++ F) (by rw [ByteArray.size_append, ByteArray.size_extract]; omega) r2 hr2)
  have HR2 := Lib.hid hr2
  clear hr2
  go_upto_region 4 with fail
  go_cut [27] (fun _ wx => SEnv w r2 wx)
  case first =>
    obtain ⟨xa, xb, xc, xd, xe, xf, xg, xh⟩ := r
    obtain ⟨v0, v1, v2, v3, v4, v5, v6, v7⟩ := E2.2.1.c8_all
    simp only at HC
    have hcat : ¬ (9223372036854775807 < s.size - p + F.size) := by omega
    go_region_with
      (first
        | (go_at_call 31; refine (HFL.out _).mono ?_; rintro e w2 ⟨rfl, hb2⟩; have j2 := E2.2.1.drew.below hb2 E2.2.1.lt; obtain ⟨c0, c1, c2, c3, c4, c5, c6, c7⟩ := j2.c8_all)
        | (go_at_call 30; refine (HC.out _ (HK.out.below HK.out.lt (E2.2.2.drew.trans (hb2.mono E2.2.2.drew.size)))).mono ?_; rintro e w3 ⟨rfl, hb3⟩; have j3 := j2.below hb3 j2.lt; have q0 := j3.frozen 0; have q1 := j3.frozen 1; have q2 := j3.frozen 2; have q3 := j3.frozen 3; have q4 := j3.frozen 4; have q5 := j3.frozen 5; have q6 := j3.frozen 6; have q7 := j3.frozen 7; obtain ⟨d0, d1, d2, d3, d4, d5, d6, d7⟩ := j3.c8_all))
    all_goals
      have E4 : SEnv w r2 _ := ⟨(((E2.1.drew.below hb2 E2.1.lt).below hb3 (Has.lt (E2.1.drew.below hb2 E2.1.lt))).other8 (by omega) r2), put8 j3 r2, below_put8 ((E2.2.2.drew.trans (hb2.mono E2.2.2.drew.size)).trans (hb3.mono (E2.2.2.drew.trans (hb2.mono E2.2.2.drew.size)).size)) (by omega) r2⟩
      go_wp2_with fail
      go_meet
      exact E4
  case rest =>
    clear HC HFL E2 wr3
    have hsum : r2 = sumW s.data.toList := by
      have h1 := sum_split s.data.toList p (by rw [len_list]; exact HP.out)
      have e1 : (s.extract 0 p).data.toList = s.data.toList.take p := by rw [ByteArray.data_extract, Array.toList_extract, List.extract_eq_take_drop]; simp
      have e2 : (s.extract 0 p).size / 64 = p / 64 := by rw [ByteArray.size_extract]; congr 1; omega
      have e3 : (s.extract p s.size ++ F).data.toList = s.data.toList.drop p ++ fillL s.data.toList.length := by
        rw [ByteArray.data_append, Array.toList_append, ByteArray.data_extract, Array.toList_extract, List.extract_eq_take_drop, HF.out, len_list, List.take_of_length_le (by simp)]
      have e4 : (s.extract p s.size ++ F).size = s.data.toList.length - p + fillLen s.data.toList.length := by
        have e : F.size = (fillL s.size).length := by rw [HF.out]; rfl
        rw [ByteArray.size_append, ByteArray.size_extract, e, fillL_length, len_list]; omega
      rw [← HR2.out, ← h1, e3, e4, ← HR.out, HST.out, e1, e2]
    have HS := Lib.hid hsum
    clear hsum HR HR2 HF HST HP hFs
    go_wp2
    go_loopw [28] (fun i wr => ∃ k : Nat, k ≤ 32 ∧ i = .int .i64 k ∧ Has wr w.heap.size 25 z32 ∧ Has wr (w.heap.size + 1) 41 (c8 r2) ∧ Has wr wc.heap.size 25 (bs (keyTo r2 k)) ∧ Below w.heap.size w wr) (fun i _ => 32 - (intOf i).toNat)
    case atStart => exact ⟨0, by omega, rfl, hcut.1.alloc _, hcut.2.1.alloc _, by rw [keyTo_zero]; exact Has.fresh wc 25 _, hcut.2.2.alloc hcut.2.2.size _⟩
    case round =>
      obtain ⟨k, hk, rfl, i2, i3, i5, hbr⟩ := hrel
      have hlt2 := hcut.2.1.lt
      by_cases hk32 : k < 32
      · have c3 := Has.word (l := r2.l) i3 (k / 4) (by show _ < 8; omega)
        have c5 := i5.byte k (by rw [keyTo_length _ _ hk]; exact hk32)
        have q5 := i5.frozen k
        have hb := kb_int r2 k
        have hset := keyTo_set r2 k hk32
        generalize kb r2 k = y at hb hset
        generalize r2.l.getD (k / 4) 0 = x at c3 hb
        have HB := Lib.hid hb
        have HSET := Lib.hid hset
        clear hb hset
        go_wp2
        rw [HB.out]
        go_roundw
        case rel =>
          refine ⟨k + 1, by omega, by go_num, i2.other (by show w.heap.size ≠ wc.heap.size; omega) _, i3.other (by show w.heap.size + 1 ≠ wc.heap.size; omega) _, ?_, hbr.setCell (by show w.heap.size ≤ wc.heap.size; omega) _⟩
          rw [← HSET.out]
          exact i5.setB _ _
        case measure => simp [intOf]; omega
      · have hk33 : k = 32 := by omega
        subst hk33
        rw [keyTo_done] at i5
        have hl : (keyL r2).length = 32 := by simp [keyL]
        have hfin : keyL r2 = keyL (sumW s.data.toList) := by rw [HS.out]
        generalize keyL r2 = L at i5 hl hfin
        have hI : (Tryd.prog.info? 25).map (·.size) = some (bs L).size := by rw [bs_size, hl]; exact (by kernel_rfl : (Tryd.prog.info? 25).map (·.size) = some 32)
        have hZ : z32.size = (bs L).size := by unfold z32; rw [bs_size, bs_size, hl]; rfl
        have HI := Lib.hid hI
        have HZ := Lib.hid hZ
        have HF := Lib.hid hfin
        have HL := Lib.hid hl
        clear hI hZ hfin hl
        go_wp2_with (first
          | (refine wpList_load_row rfl 25 (.tmp 5) rfl wc.heap.size rfl 25 (bs L) (0, 0) _ i5 Tryd.underlying25 rfl HI.out ?_)
          | (refine wpList_store_row rfl 25 (.tmp 2) (.tmp 44) rfl w.heap.size (bs L) rfl rfl 25 z32 i2 HI.out HZ.out (bs_one L) ?_))
        refine bodyPost_ret (v := .agg (bs L)) (results_cell_row rfl _ _ w.heap.size 25 (bs L) (0, 0) _ rfl (i2.setRow _) Tryd.underlying25 rfl HI.out) rfl ⟨by rw [HF.out], below_setRow hbr (Nat.le_refl _) _⟩
end Go.Proofs.YtolipnjlbdbofaaDoor
