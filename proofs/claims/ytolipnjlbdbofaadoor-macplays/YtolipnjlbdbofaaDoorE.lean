/- sha.Block: eight words behind a block are the document's; a text of fewer than 64 bytes leaves them. Condition: the table of constants lies in memory as the program's text lays it. -/
import Derived.Test.YtolipnjlbdbofaaDoorD
import Derived.Deep.WholeRow
namespace Go.Proofs.YtolipnjlbdbofaaDoor
open Go.RowKit
theorem c8_info (v : W8) : (Tryd.prog.info? 41).map (·.size) = some (c8 v).size := by
  have : (c8 v).size = 8 := rfl
  rw [this]; exact (by kernel_rfl : (Tryd.prog.info? 41).map (·.size) = some 8)
theorem c8_one (v : W8) : (c8 v).all (·.oneCell') = true := ws_one _
theorem ws64_info (l : List UInt32) (h : l.length = 64) : (Tryd.prog.info? 39).map (·.size) = some (ws l).size := by
  rw [ws_size, h]; exact (by kernel_rfl : (Tryd.prog.info? 39).map (·.size) = some 64)
set_option maxHeartbeats 400000 in
theorem block_short (v : W8) (s : ByteArray) (hs : s.size < 64) (w : World) :
    Calls Tryd.prog 34 #[.agg (c8 v), .string s] w fun e w' => e = .returned (.agg (c8 v)) ∧ Below w.heap.size w w' := by
  go_enter Tryd.func34, Tryd.ntmps34
  go_wp2_with (first
    | (refine wpList_load_row rfl 41 (.tmp 2) rfl w.heap.size rfl 41 (c8 v) (0, 0) _ ((Has.fresh w 41 _).alloc _) Tryd.underlying41 rfl (c8_info v) ?_)
    | (refine wpList_store_row rfl 41 (.tmp 4) (.tmp 16) rfl (w.heap.size + 1) (c8 v) rfl rfl 41 _ (heap_alloc2_new w _ _) (c8_info v) rfl (c8_one v) ?_))
  refine bodyPost_ret (v := .agg (c8 v)) (results_cell_row rfl _ _ (w.heap.size + 1) 41 (c8 v) (0, 0) _ rfl (Has.setRow (t := 41) (heap_alloc2_new w _ _) _) Tryd.underlying41 rfl (c8_info v)) rfl ⟨rfl, ?_⟩
  exact below_setRow (((Below.refl _ _).alloc (Nat.le_refl _) _).alloc (by simp) _) (by simp) _

theorem quiet_same {P : Program} {f : FuncId} {args : Array Value} {w : World} {n : Nat} {v : Value}
    (h : Calls P f args (w.drewN n) fun e w' => e = .returned v ∧ w.drewN n = w') : Calls P f args (w.drewN n) fun e w'' => e = .returned v ∧ ∃ m, w'' = w.drewN m :=
  h.mono fun _ _ ⟨he, hm⟩ => ⟨he, n, hm.symm⟩

/-- what memory holds in the midst of a block -/
def BEnv (w w1 : World) (v st : W8) (W : List UInt32) (wr : World) : Prop :=
  Has wr w.heap.size 41 (c8 v) ∧ Has wr (w.heap.size + 1) 41 z8 ∧ Has wr w1.heap.size 39 (ws W) ∧ Has wr (w1.heap.size + 1) 41 (c8 st) ∧ Below w.heap.size w wr
theorem BEnv.drewN {w w1 : World} {v st : W8} {W : List UInt32} {wr : World} (h : BEnv w w1 v st W wr) (n : Nat) : BEnv w w1 v st W (wr.drewN n) :=
  ⟨h.1, h.2.1, h.2.2.1, h.2.2.2.1, below_drewN h.2.2.2.2 n⟩
theorem BEnv.facts {w w1 : World} {v : W8} {xa xb xc xd xe xf xg xh : UInt32} {W : List UInt32} {wr : World} (h : BEnv w w1 v ⟨xa, xb, xc, xd, xe, xf, xg, xh⟩ W wr) (hl : W.length = 64) (hK : HasK w) (k : Nat) (hk : k < 64) :
    wr.cell? ⟨0, k, none⟩ = some (W32 (kk.getD k 0)) ∧ wr.cell? ⟨w1.heap.size, k, none⟩ = some (W32 (W.getD k 0)) ∧
    (wr.cell? ⟨w1.heap.size + 1, 0, none⟩ = some (W32 xa) ∧ wr.cell? ⟨w1.heap.size + 1, 1, none⟩ = some (W32 xb) ∧ wr.cell? ⟨w1.heap.size + 1, 2, none⟩ = some (W32 xc) ∧ wr.cell? ⟨w1.heap.size + 1, 3, none⟩ = some (W32 xd) ∧
    wr.cell? ⟨w1.heap.size + 1, 4, none⟩ = some (W32 xe) ∧ wr.cell? ⟨w1.heap.size + 1, 5, none⟩ = some (W32 xf) ∧ wr.cell? ⟨w1.heap.size + 1, 6, none⟩ = some (W32 xg) ∧ wr.cell? ⟨w1.heap.size + 1, 7, none⟩ = some (W32 xh)) :=
  ⟨(hK.below hK.lt h.2.2.2.2) k hk, h.2.2.1.word k (by omega), h.2.2.2.1.c8_all⟩

theorem copy8 {w : World} {g : Nat} {xa xb xc xd xe xf xg xh : UInt32} (h : Has w g 41 (c8 ⟨xa, xb, xc, xd, xe, xf, xg, xh⟩)) :
    (Builtin.copy_ #[64, 64] 3 #[.slice (some ⟨g, 1, none⟩) 7 7, .slice (some ⟨g, 0, none⟩) 7 8]).run Tryd.prog w = .ok (.int .i64 7) (w.setRow g (c8 ⟨xa, xa, xb, xc, xd, xe, xf, xg⟩)) :=
  run_copy_row Tryd.prog w 64 64 3 38 g 1 7 7 ⟨g, 0, none⟩ 7 8 _ 41 ([xa, xb, xc, xd, xe, xf, xg].map W32) Tryd.underlying64 (by kernel_rfl) h rfl
    (fun j v hv => by
      have hj : j < 7 := by
        rcases Nat.lt_or_ge j 7 with hj | hj
        · exact hj
        · rw [List.getElem?_eq_none (by simpa using hj)] at hv; cases hv
      have hadd : (⟨g, 0, none⟩ : Addr).add j = ⟨g, j, none⟩ := by unfold Addr.add; split <;> simp_all
      rw [hadd, h.cell]
      have : j = 0 ∨ j = 1 ∨ j = 2 ∨ j = 3 ∨ j = 4 ∨ j = 5 ∨ j = 6 := by omega
      rcases this with rfl | rfl | rfl | rfl | rfl | rfl | rfl <;> exact hv) (by simp [c8, ws, W8.l]) (by simp [Value.oneCell'])
theorem BEnv.turn {w w1 : World} {v st : W8} {W : List UInt32} {wr : World} (h : BEnv w w1 v st W wr) (h1 : w.heap.size + 1 < w1.heap.size) (st' : W8) : BEnv w w1 v st' W (wr.setRow (w1.heap.size + 1) (c8 st')) :=
  ⟨h.1.setRow_other (by omega) _, h.2.1.setRow_other (by omega) _, h.2.2.1.setRow_other (by omega) _, h.2.2.2.1.setRow _, below_setRow h.2.2.2.2 (by omega) _⟩
theorem BEnv.put {w w1 : World} {v st : W8} {W : List UInt32} {wr : World} (h : BEnv w w1 v st W wr) (h1 : w.heap.size + 1 < w1.heap.size) (i : Nat) (x : UInt32) (st' : W8) (hs : st'.l = st.l.set i x) : BEnv w w1 v st' W (wr.setCell ⟨w1.heap.size + 1, i, none⟩ (W32 x)) :=
  ⟨h.1.other (by simp; omega) _, h.2.1.other (by simp; omega) _, h.2.2.1.other (by simp) _, by have := h.2.2.2.1.setW i x; rw [← hs] at this; exact this, h.2.2.2.2.setCell (by simp; omega) _⟩

theorem setRow_then_new (w : World) (A B : Obj) (cs : Array Value) : (((w.alloc A).setRow w.heap.size cs).alloc B).heap[w.heap.size + 1]? = some B := by
  have h := heap_alloc_new ((w.alloc A).setRow w.heap.size cs) B
  have e : ((w.alloc A).setRow w.heap.size cs).heap.size = w.heap.size + 1 := by rw [size_setRow]; show (w.heap.push A).size = _; simp
  rwa [e] at h

theorem blk_fin (v : W8) (s : List UInt8) (W : List UInt32) (st : W8) (h : W = wl s 64) (hr : rounds v W 64 = st) : blk v s = addW v st := by
  unfold blk; rw [← h, hr]
theorem z8_size (r : W8) : z8.size = (c8 r).size := by
  unfold z8 c8; rw [ws_size, ws_size]; rfl

set_option maxHeartbeats 1000000 in
theorem block_long (v : W8) (s : ByteArray) (hs : 64 ≤ s.size) (hm : s.size ≤ 9223372036854775807) (w : World) (hK : HasK w) :
    Calls Tryd.prog 34 #[.agg (c8 v), .string s] w fun e w' => e = .returned (.agg (c8 (blk v s.data.toList))) ∧ Below w.heap.size w w' := by
  have HK := Lib.hid hK
  clear hK
  obtain ⟨W, hW⟩ : ∃ W, W = wl s.data.toList 64 := ⟨_, rfl⟩
  have hl : W.length = 64 := by rw [hW, wl_length]
  have HW := Lib.hid hW
  have HL := Lib.hid hl
  have hsp := spread_any s hs hm
  rw [← hW] at hsp
  have HS := Lib.hid hsp
  clear hW hl hsp
  have hsb : decide ((s.size : Int) < 64) = false := by simp; omega
  go_enter Tryd.func34, Tryd.ntmps34
  go_wp2_with (first
    | (go_at_call 36; refine (HS.out _).mono ?_; rintro e w1 ⟨rfl, hb1⟩)
    | (refine wpList_store_row rfl 39 (.tmp 5) (.tmp 18) rfl w1.heap.size (ws W) rfl rfl 39 _ (Has.fresh _ _ _) (ws64_info _ HL.out) (by rw [ws_size, HL.out]; rfl) (ws_one W) ?_)
    | (refine wpList_load_row rfl 41 (.tmp 2) rfl w.heap.size rfl 41 (c8 v) (0, 0) _ ?h2 Tryd.underlying41 rfl (c8_info v) ?_)
    | (refine wpList_store_row rfl 41 (.tmp 6) (.tmp 19) rfl (w1.heap.size + 1) (c8 v) rfl rfl 41 z8 ?h6 (c8_info v) rfl (c8_one v) ?_))
  case h2 => exact (((Has.fresh w 41 (c8 v)).alloc _).below hb1 (by simp; omega)).alloc _ |>.setRow_other (by have := hb1.size; simp at this; omega) _
  case h6 => exact setRow_then_new w1 _ _ _
  have hw1 : w.heap.size + 1 < w1.heap.size := by have := hb1.size; simp at this; omega
  go_loopw [20] (fun i wr => ∃ k : Nat, k ≤ 64 ∧ i = .int .i64 k ∧ BEnv w w1 v (rounds v W k) W wr) (fun i _ => 64 - (intOf i).toNat)
  case atStart =>
    have b1 : Below w.heap.size w w1 := (((Below.refl _ _).alloc (Nat.le_refl _) _).alloc (by simp) _).trans (hb1.mono (by simp; omega))
    refine ⟨0, by omega, rfl, ?_, ?_, ?_, ?_, ?_⟩
    · exact (((((Has.fresh w 41 (c8 v)).alloc _).below hb1 (by simp; omega)).alloc _).setRow_other (by omega) _).alloc _ |>.setRow_other (by omega) _
    · exact (((Has.below (t := 41) (cs := z8) (heap_alloc2_new w _ _) hb1 (by simp)).alloc _).setRow_other (by omega) _).alloc _ |>.setRow_other (by omega) _
    · exact (((Has.fresh w1 39 _).setRow _).alloc _).setRow_other (by omega) _
    · exact Has.setRow (t := 41) (setRow_then_new w1 _ _ _) _
    · exact below_setRow ((below_setRow (b1.alloc b1.size _) b1.size _).alloc (by simp; have := b1.size; omega) _) (by have := b1.size; omega) _
  case round =>
    obtain ⟨k, hk, rfl, E⟩ := hrel
    by_cases hlt : k < 64
    · have hkb : decide ((k : Int) < 64) = true := by simp; omega
      generalize hr : rounds v W k = st at E
      have HR := Lib.hid hr
      clear hr
      obtain ⟨xa, xb, xc, xd, xe, xf, xg, xh⟩ := st
      obtain ⟨f0, f1, v0, v1, v2, v3, v4, v5, v6, v7⟩ := E.facts HL.out HK.out k hlt
      go_wp2
      go_quiet (fail)
      clear f0 f1 v0 v1 v2 v3 v4 v5 v6 v7
      replace E := E.drewN nq
      generalize wr.drewN nq = wr2 at E ⊢
      clear nq wr
      obtain ⟨f0, f1, v0, v1, v2, v3, v4, v5, v6, v7⟩ := E.facts HL.out HK.out k hlt
      generalize hkk : kk.getD k 0 = kv at f0
      generalize hww : W.getD k 0 = wv at f1
      have HKK := Lib.hid hkk
      have HWW := Lib.hid hww
      clear hkk hww
      go_wp2
      go_quiet ((go_at_call 37; exact quiet_same (mixed_any _ _ _ _ (by omega) (by omega) (by omega) (by omega) (by omega) (by omega) _)))
      clear f0 f1 v0 v1 v2 v3 v4 v5 v6 v7
      replace E := E.drewN nq
      generalize wr2.drewN nq = wr3 at E ⊢
      clear nq wr2
      obtain ⟨f0, f1, v0, v1, v2, v3, v4, v5, v6, v7⟩ := E.facts HL.out HK.out k hlt
      simp only [notif32, and32, xor32]
      rw [sum5]
      generalize ht : xh + mix3 xe 6 11 25 + (xe &&& xf ^^^ ~~~xe &&& xg) + kv + wv = T
      have HT := Lib.hid ht
      clear ht
      go_wp2
      go_quiet ((go_at_call 37; exact quiet_same (mixed_any _ _ _ _ (by omega) (by omega) (by omega) (by omega) (by omega) (by omega) _)))
      clear f0 f1 v0 v1 v2 v3 v4 v5 v6 v7
      replace E := E.drewN nq
      generalize wr3.drewN nq = wr4 at E ⊢
      clear nq wr3
      obtain ⟨f0, f1, v0, v1, v2, v3, v4, v5, v6, v7⟩ := E.facts HL.out HK.out k hlt
      simp only [and32, xor32]
      rw [add32]
      generalize hu : mix3 xa 2 13 22 + (xa &&& xb ^^^ xa &&& xc ^^^ xb &&& xc) = U
      have HU := Lib.hid hu
      clear hu
      clear f0 f1 v0 v1 v2 v3 v4 v5 v6 v7
      have hcp := copy8 E.2.2.2.1.drew
      go_wp2
      go_region
      clear hcp
      replace E := (E.drewN 1).turn hw1 ⟨xa, xa, xb, xc, xd, xe, xf, xg⟩
      change BEnv _ _ _ _ _ (wr4.drew.setRow _ _) at E
      generalize wr4.drew.setRow (w1.heap.size + 1) (c8 ⟨xa, xa, xb, xc, xd, xe, xf, xg⟩) = wr5 at E ⊢
      clear wr4
      have v4 := E.2.2.2.1.c8_4
      have v0 := E.2.2.2.1.c8_0
      have q4 := E.2.2.2.1.frozen 4
      have q0 := E.2.2.2.1.frozen 0
      simp only at v4 v0
      go_wp2
      simp only [add32]
      go_roundw
      case rel =>
        refine ⟨k + 1, by omega, by go_num, ?_⟩
        have e1 : rounds v W (k + 1) = ⟨T + U, xa, xb, xc, xd + T, xe, xf, xg⟩ := by
          have h1 : tOf ⟨xa, xb, xc, xd, xe, xf, xg, xh⟩ kv wv = T := HT.out
          have h2 : uOf ⟨xa, xb, xc, xd, xe, xf, xg, xh⟩ = U := HU.out
          show rnd (rounds v W k) (kk.getD k 0) (W.getD k 0) = _
          rw [HR.out, HKK.out, HWW.out]
          unfold rnd
          rw [h1, h2]
        rw [e1]
        exact (E.put hw1 4 (xd + T) ⟨xa, xa, xb, xc, xd + T, xe, xf, xg⟩ rfl).put hw1 0 (T + U) _ rfl
      case measure => simp [intOf]; omega
    · have hk64 : k = 64 := by omega
      subst hk64
      generalize hr : rounds v W 64 = st at E
      have HR := Lib.hid hr
      clear hr
      have hkb : decide (((64 : Nat) : Int) < 64) = false := by decide
      go_wp2
      rw [show ((64 : Nat) : Int) = 64 from rfl]
      clear hkb
      go_loopw [82] (fun i wr => ∃ k : Nat, k ≤ 8 ∧ i = .int .i64 k ∧ Has wr w.heap.size 41 (ws (addTo v st k)) ∧ Has wr (w.heap.size + 1) 41 z8 ∧ Has wr (w1.heap.size + 1) 41 (c8 st) ∧ Below w.heap.size w wr) (fun i _ => 8 - (intOf i).toNat)
      case atStart => exact ⟨0, by omega, rfl, E.1, E.2.1, E.2.2.2.1, E.2.2.2.2⟩
      case round =>
        clear E hk hlt
        obtain ⟨k, hk, rfl, i2, i4, i6, hbr⟩ := hrel
        by_cases hlt : k < 8
        · have hkb : decide ((k : Int) < 8) = true := by simp; omega
          have c2 := i2.word k (by rw [addTo_length]; exact hlt)
          have q2 := i2.frozen k
          have c6 : _ = some (W32 (st.l.getD k 0)) := Has.word (l := st.l) i6 k hlt
          have hset := addTo_set v st k hlt
          rw [addTo_get v st k hlt] at c2
          generalize v.l.getD k 0 = y2 at c2 hset
          generalize st.l.getD k 0 = y6 at c6 hset
          have HS2 := Lib.hid hset
          clear hset
          go_wp2
          go_region
          simp only [add32]
          go_wp2
          go_roundw
          case rel =>
            refine ⟨k + 1, by omega, by go_num, ?_, ?_, ?_, ?_⟩
            · have h3 := i2.drew.setW k (y2 + y6)
              rw [HS2.out] at h3
              exact h3
            · exact i4.drew.other (by simp) _
            · exact i6.drew.other (by simp; omega) _
            · exact hbr.drew.setCell (by simp) _
          case measure => simp [intOf]; omega
        · have hk8 : k = 8 := by omega
          subst hk8
          rw [addTo_eight] at i2
          have HF := Lib.hid (blk_fin v s.data.toList W st HW.out HR.out)
          generalize addW v st = r at i2 HF
          have hI := Lib.hid (c8_info r)
          have hZ := Lib.hid (z8_size r)
          go_wp2_with (first
            | (refine wpList_load_row rfl 41 (.tmp 2) rfl w.heap.size rfl 41 (c8 r) (0, 0) _ i2 Tryd.underlying41 rfl hI.out ?_)
            | (refine wpList_store_row rfl 41 (.tmp 4) (.tmp 94) rfl (w.heap.size + 1) (c8 r) rfl rfl 41 z8 i4 hI.out hZ.out (c8_one r) ?_))
          refine bodyPost_ret (v := .agg (c8 r)) (results_cell_row rfl _ _ (w.heap.size + 1) 41 (c8 r) (0, 0) _ rfl (i4.setRow _) Tryd.underlying41 rfl hI.out) rfl ⟨by rw [HF.out], below_setRow hbr (by omega) _⟩
end Go.Proofs.YtolipnjlbdbofaaDoor
