/- The walk of law ShaBlocks. -/
import Derived.Test.YtpkmhdnpnbkhiaaDoorL
import Derived.Test.YtpkmhdnpnbkhiaaDoorQ
import Derived.Test.YtpkmhdnpnbkhiaaDoorRA
import Derived.Test.YtpkmhdnpnbkhiaaDoorU
namespace Go.Proofs.YtpkmhdnpnbkhiaaDoor
open Go.RowKit
theorem first_roots : ∀ i, i < 8 → rootW ((primesL 8).getD i 0) 2 = first8.l.getD i 0 ∧ (primesL 8).getD i 0 ≤ 1000 := by decide +kernel
/-- the first words, as far as they are laid -/
def firstTo (k : Nat) : List UInt32 := first8.l.take k ++ List.replicate (8 - k) 0
theorem firstTo_set : ∀ k, k < 8 → (firstTo k).set k (first8.l.getD k 0) = firstTo (k + 1) ∧ (firstTo k).length = 8 := by decide +kernel
theorem firstTo_done : firstTo 8 = first8.l := by decide +kernel
/-- what memory holds in the midst of the law -/
def GEnv (w : World) (v : W8) (g : Nat) (l : List UInt32) (W : World) : Prop := FEnv w w.heap.size v W ∧ Has W g 26 (ws l)
theorem GEnv.step {w : World} {g : Nat} {v : W8} {l : List UInt32} {W W' : World} (h : GEnv w v g l W) (hb : Below W.heap.size W W') : GEnv w v g l W' :=
  ⟨h.1.step hb, h.2.below hb h.2.lt⟩
theorem GEnv.put {w : World} {g : Nat} {v : W8} {l : List UInt32} {W : World} (h : GEnv w v g l W) (hg : w.heap.size < g) (i : Nat) (x : UInt32) : GEnv w v g (l.set i x) (W.setCell ⟨g, i, none⟩ (W32 x)) :=
  ⟨⟨h.1.1.other (by simp; omega) _, fun j hj => (((Below.refl g W).setCell (p := ⟨g, i, none⟩) (Nat.le_refl g) (W32 x)).cell (p := ⟨0, j, none⟩) (by show 0 < g; omega)).trans (h.1.2.1 j hj), h.1.2.2.setCell (by simp; omega) _⟩, h.2.setW i x⟩
theorem GEnv.row {w : World} {g : Nat} {v : W8} {l : List UInt32} {W : World} (h : GEnv w v g l W) (hg : w.heap.size < g) (l2 : List UInt32) : GEnv w v g l2 (W.setRow g (ws l2)) :=
  ⟨⟨h.1.1.setRow_other (by omega) _, fun j hj => ((below_setRow (Below.refl g W) (Nat.le_refl g) (ws l2)).cell (p := ⟨0, j, none⟩) (by show 0 < g; omega)).trans (h.1.2.1 j hj), below_setRow h.1.2.2 (by omega) _⟩, h.2.setRow _⟩
theorem GEnv.put8 {w : World} {g : Nat} {v st : W8} {W : World} (h : GEnv w v g st.l W) (hg : w.heap.size < g) (r : W8) : GEnv w v g r.l ((((((((W.setCell ⟨g, 0, none⟩ (W32 r.a)).setCell ⟨g, 1, none⟩ (W32 r.b)).setCell ⟨g, 2, none⟩ (W32 r.c)).setCell ⟨g, 3, none⟩ (W32 r.d)).setCell ⟨g, 4, none⟩ (W32 r.e)).setCell ⟨g, 5, none⟩ (W32 r.f)).setCell ⟨g, 6, none⟩ (W32 r.g)).setCell ⟨g, 7, none⟩ (W32 r.h)) :=
  ⟨⟨h.1.1.other8 (by omega) r, fun j hj => ((below_put8 (Below.refl g W) (Nat.le_refl g) r).cell (p := ⟨0, j, none⟩) (by show 0 < g; omega)).trans (h.1.2.1 j hj), below_put8 h.1.2.2 (by omega) r⟩, Go.Proofs.YtpkmhdnpnbkhiaaDoor.put8 (v := st) h.2 r⟩
theorem GEnv.drew {w : World} {g : Nat} {v : W8} {l : List UInt32} {W : World} (h : GEnv w v g l W) : GEnv w v g l W.drew := ⟨h.1.drew, h.2.drew⟩
theorem drop_at (b : ByteArray) (k : Nat) : (b.extract k b.size).data.toList = b.data.toList.drop k := by
  rw [ByteArray.data_extract, Array.toList_extract, List.extract_eq_take_drop]
  exact List.take_of_length_le (by simp)
set_option maxHeartbeats 400000 in
theorem blocksLaw_short (s : ByteArray) (v : W8) (hs : s.size ≤ 400) (w : World) (hK : HasK w) :
    Calls Tryd.prog 4 #[.string s, .agg (c8 v)] w fun e w' => e = .returned (.bool true) ∧ Below w.heap.size w w' := by
  have hs2 : decide (400 < (s.size : Int)) = false := by simp; omega
  go_enter Tryd.func4, Tryd.ntmps4
  have E : FEnv w w.heap.size v (w.alloc (.cells (c8 v) 26)) := ⟨Has.fresh w 26 _, hK.below hK.lt ((Below.refl _ _).alloc (Nat.le_refl _) _), (Below.refl _ _).alloc (Nat.le_refl _) _⟩
  go_wp2_with fail
  generalize (w.alloc (.cells (c8 v) 26)) = wr at E ⊢
  refine (awake_any _ E.2.1).mono ?_
  rintro e wq ⟨rfl, hbq⟩
  replace E := E.step hbq
  clear hbq wr
  go_wp2_with fail
  refine (fill_any s (by omega) _).mono ?_
  rintro e wr ⟨rfl, hbq⟩
  replace E := E.step hbq
  clear hbq wq
  obtain ⟨t, ht⟩ : ∃ t, t = filled s := ⟨_, rfl⟩
  have htl : t.data.toList = s.data.toList ++ fillL s.size := by rw [ht]; exact filled_list s
  have hts : t.size = s.size + fillLen s.size := by rw [ht]; exact filled_size s
  have htb : t.size ≤ 500 := by have := fillLen_lt s.size; omega
  rw [← ht]
  have HTL := Lib.hid htl
  have HTS := Lib.hid hts
  clear ht htl hts
  go_wp2
  have hg : w.heap.size < wr.heap.size := E.1.lt
  have G : GEnv w v wr.heap.size (firstTo 0) (wr.alloc (.cells (ws (firstTo 0)) 26)) := ⟨E.step ((Below.refl _ _).alloc (Nat.le_refl _) _), Has.fresh wr 26 _⟩
  clear E hK
  change Code.wp _ _ _ _ (wr.alloc (.cells (ws (firstTo 0)) 26))
  generalize wr.alloc (.cells (ws (firstTo 0)) 26) = wa at G ⊢
  generalize wr.heap.size = g at hg G ⊢
  clear wr
  go_loopw [7] (fun i wr => ∃ k : Nat, k ≤ 8 ∧ i = .int .i64 k ∧ GEnv w v g (firstTo k) wr) (fun i _ => 8 - (intOf i).toNat)
  case atStart => exact ⟨0, by omega, rfl, G⟩
  case round =>
    clear G wa
    obtain ⟨k, hk, rfl, G⟩ := hrel
    by_cases hk8 : k < 8
    · obtain ⟨hroot, hprb⟩ := first_roots k hk8
      obtain ⟨hset, hlen⟩ := firstTo_set k hk8
      have hpl := primesL_length 8 (by omega)
      generalize first8.l.getD k 0 = x at hroot hset
      have HSET := Lib.hid hset
      have HLEN := Lib.hid hlen
      have t1 : decide ((k : Int) < 8) = true := by simp; omega
      go_wp2_with fail
      refine (refPrimes_any 8 (by omega) _).mono ?_
      rintro e wp ⟨a, cap, rfl, hil, hbp⟩
      replace G := G.step hbp
      clear hbp wr
      obtain ⟨ga, _, rfl, hc⟩ := hil (by intro h; rw [h] at hpl; simp at hpl)
      have c1 := hc k (by omega)
      clear hc hpl hset hlen
      generalize (primesL 8).getD k 0 = pr at c1 hroot hprb
      have hrt := root2_any pr hprb wp
      rw [hroot] at hrt
      have HRT := Lib.hid hrt
      clear hrt hroot
      go_wp2_with (go_at_call 12; refine HRT.out.mono ?_; rintro e wr ⟨rfl, hbr⟩; replace G := G.step hbr; have c3 := G.2.word k (by rw [HLEN.out]; exact hk8); have q3 := G.2.frozen k)
      go_roundw
      case rel => exact ⟨k + 1, by omega, by go_num, by rw [← HSET.out]; exact G.put hg k x⟩
      case measure => simp [intOf]; omega
    · have hk2 : k = 8 := by omega
      subst hk2
      rw [firstTo_done] at G
      rw [show ((8 : Nat) : Int) = 8 from rfl]
      go_wp2
      have htm : t.size % 64 = 0 := by rw [HTS.out]; exact fill_mod s.size
      go_loopw [8] (fun i wr => ∃ k : Nat, 64 * k ≤ t.size ∧ i = .int .i64 ((64 * k : Nat) : Int) ∧ GEnv w v g (blksN first8 t.data.toList k).l wr) (fun i _ => t.size - (intOf i).toNat)
      case atStart => exact ⟨0, by omega, rfl, G⟩
      case round =>
        clear G
        obtain ⟨k, hk, rfl, G⟩ := hrel
        generalize hst : blksN first8 t.data.toList k = st at G
        by_cases hkt : 64 * k < t.size
        · obtain ⟨r, hr⟩ : ∃ r, blk st (t.extract (64 * k) t.size).data.toList = r := ⟨_, rfl⟩
          have hnext : blksN first8 t.data.toList (k + 1) = r := by
            show blk (blksN first8 t.data.toList k) (t.data.toList.drop (64 * k)) = r
            rw [hst, ← hr, drop_at]
          have HN := Lib.hid hnext
          have HC := Lib.hid (block_lit st (t.extract (64 * k) t.size) r hr (by rw [ByteArray.size_extract]; omega) (by rw [ByteArray.size_extract]; omega))
          clear hst hr hnext
          obtain ⟨at', hat⟩ : ∃ at', at' = 64 * k := ⟨_, rfl⟩
          rw [← hat] at HC ⊢
          have hat2 : at' + 64 ≤ t.size := by omega
          have HAT := Lib.hid hat
          clear hat
          obtain ⟨xa, xb, xc, xd, xe, xf, xg, xh⟩ := st
          obtain ⟨v0, v1, v2, v3, v4, v5, v6, v7⟩ := Has.c8_all (xa := xa) (xb := xb) (xc := xc) (xd := xd) (xe := xe) (xf := xf) (xg := xg) (xh := xh) G.2
          simp only at HC
          go_wp2
          go_region_with
            (first | (go_at_call 14; refine (HC.out _ G.drew.1.2.1).mono ?_; rintro e w2 ⟨rfl, hb2⟩; have G2 := G.drew.step hb2; have q0 := G2.2.frozen 0; have q1 := G2.2.frozen 1; have q2 := G2.2.frozen 2; have q3 := G2.2.frozen 3; have q4 := G2.2.frozen 4; have q5 := G2.2.frozen 5; have q6 := G2.2.frozen 6; have q7 := G2.2.frozen 7; obtain ⟨c0, c1, c2, c3, c4, c5, c6, c7⟩ := Has.c8_all (xa := xa) (xb := xb) (xc := xc) (xd := xd) (xe := xe) (xf := xf) (xg := xg) (xh := xh) G2.2))
          all_goals
            have G3 := G2.put8 hg r
            clear v0 v1 v2 v3 v4 v5 v6 v7 q0 q1 q2 q3 q4 q5 q6 q7 c0 c1 c2 c3 c4 c5 c6 c7
            generalize World.setCell _ { block := g, off := 7 } (W32 r.h) = wr3 at G3 ⊢
            have hAT := HAT.out
            go_wp2
            go_roundw
            case rel => exact ⟨k + 1, by omega, by rw [show 64 * (k + 1) = at' + 64 from by omega]; go_num, by rw [HN.out]; exact G3⟩
            case measure => simp [intOf]; omega
        · have hkt2 : 64 * k = t.size := by omega
          rw [hkt2]
          have hsum : st = sumW s.data.toList := by
            rw [← hst]; unfold sumW
            rw [HTL.out, len_list, ← HTS.out]
            congr 1
            omega
          have HS := Lib.hid hsum
          clear hst hsum hkt hkt2 hk
          have t1 : decide ((t.size : Int) + 64 ≤ (t.size : Int)) = false := by simp; omega
          have hsm := sum_any s (by omega)
          rw [← HS.out] at hsm
          have HSM := Lib.hid hsm
          clear hsm
          go_wp2_with fail
          refine (HSM.out _ G.1.2.1).mono ?_
          rintro e w2 ⟨rfl, hb2⟩
          replace G := G.step hb2
          clear hb2 wr HSM HS HTL HTS htm
          have hl : (keyL st).length = 32 := by simp [keyL]
          have hby : ∀ i, i < 32 → (keyL st).getD i 0 = kb st i := fun i hi => by simp [keyL, List.getD_eq_getElem?_getD, hi]
          generalize keyL st = L at hl hby ⊢
          have hI : (Tryd.prog.info? 32).map (·.size) = some (bs L).size := by rw [bs_size, hl]; exact (by kernel_rfl : (Tryd.prog.info? 32).map (·.size) = some 32)
          have hZ : z32.size = (bs L).size := by unfold z32; rw [bs_size, bs_size, hl]; rfl
          have HI := Lib.hid hI
          have HZ := Lib.hid hZ
          have HL := Lib.hid hl
          have HBY := Lib.hid hby
          clear hI hZ hl hby
          have hbn : Below w2.heap.size w2 ((w2.alloc (.cells z32 32)).setRow w2.heap.size (bs L)) := below_setRow ((Below.refl _ _).alloc (Nat.le_refl _) _) (Nat.le_refl _) _
          have hx : Has ((w2.alloc (.cells z32 32)).setRow w2.heap.size (bs L)) w2.heap.size 32 (bs L) := (Has.fresh w2 32 z32).setRow _
          replace G := G.step hbn
          clear hbn
          go_wp2_with (first
            | (refine wpList_store_row rfl 32 (.tmp 9) (.tmp 45) rfl w2.heap.size (bs L) rfl rfl 32 z32 (Has.fresh w2 32 z32) HI.out HZ.out (bs_one L) ?_))
          change Code.wp _ _ _ _ ((w2.alloc (.cells z32 32)).setRow w2.heap.size (bs L))
          generalize (w2.alloc (.cells z32 32)).setRow w2.heap.size (bs L) = wz at G hx ⊢
          generalize w2.heap.size = gx at hx ⊢
          clear w2 HI HZ
          go_loopw [10] (fun i wr => ∃ k : Nat, k ≤ 32 ∧ i = .int .i64 k ∧ GEnv w v g st.l wr ∧ Has wr gx 32 (bs L)) (fun i _ => 32 - (intOf i).toNat)
          case atStart => exact ⟨0, by omega, rfl, G, hx⟩
          case round =>
            clear G hx
            obtain ⟨k, hk, rfl, G, hx⟩ := hrel
            by_cases hk32 : k < 32
            · have c3 := G.2.word (k / 4) (by show _ < 8; omega)
              have c5 := hx.byte k (by rw [HL.out]; exact hk32)
              rw [HBY.out k hk32] at c5
              have hb := kb_int st k
              generalize kb st k = y at hb c5
              generalize st.l.getD (k / 4) 0 = x at c3 hb
              have HB := Lib.hid hb
              clear hb
              have t1 : decide ((k : Int) < 32) = true := by simp; omega
              go_wp2
              go_quiet (fail)
              have bq : Below wr.heap.size wr (wr.drewN nq) := below_drewN (Below.refl _ _) nq
              replace G := G.step bq
              replace hx := hx.drewN nq
              clear bq c3 c5
              generalize wr.drewN nq = wr2 at G hx ⊢
              have t4 : ((y.toNat : Int) != (y.toNat : Int)) = false := by simp
              rw [HB.out, t4]
              clear t4 HB
              go_wp2
              go_roundw
              case rel => exact ⟨k + 1, by omega, by go_num, G, hx⟩
              case measure => simp [intOf]; omega
            · have hk2 : k = 32 := by omega
              subst hk2
              rw [show ((32 : Nat) : Int) = 32 from rfl]
              go_wp2
              have E := G.1.drew
              clear G hx
              by_cases h3 : ¬ 63 < s.size
              · have h4 : decide ((63 : Int) < (s.size : Int)) = false := by simp; omega
                have h5 : ¬ ((63 : Int) < (s.size : Int)) := by omega
                have HC := Lib.hid (block_short_lit v s (by omega))
                have heq := fun r => same8 r
                obtain ⟨xa, xb, xc, xd, xe, xf, xg, xh⟩ := v
                have hq := heq ⟨xa, xb, xc, xd, xe, xf, xg, xh⟩
                clear heq
                simp only at HC hq
                go_region_held3 (fun w' => w'.cell? ⟨w.heap.size, 0, none⟩ = some (W32 xa) ∧ w'.cell? ⟨w.heap.size, 1, none⟩ = some (W32 xb) ∧ w'.cell? ⟨w.heap.size, 2, none⟩ = some (W32 xc) ∧ w'.cell? ⟨w.heap.size, 3, none⟩ = some (W32 xd) ∧ w'.cell? ⟨w.heap.size, 4, none⟩ = some (W32 xe) ∧ w'.cell? ⟨w.heap.size, 5, none⟩ = some (W32 xf) ∧ w'.cell? ⟨w.heap.size, 6, none⟩ = some (W32 xg) ∧ w'.cell? ⟨w.heap.size, 7, none⟩ = some (W32 xh))
                  (exact E.1.c8_all)
                  (first | (go_at_call 14; have hc := HC.out; (with_reducible refine (hc _).mono ?_); clear hc; rintro e w2 ⟨rfl, hb2⟩; replace E := E.step hb2) | fail)
                all_goals
                  go_wp2
                  go_ret
                  exact ⟨rfl, E.2.2⟩
              · have h4 : decide ((63 : Int) < (s.size : Int)) = true := by simp; omega
                have h5 : (63 : Int) < (s.size : Int) := by omega
                have h6 : (63 : Int) ≤ (s.size : Int) := by omega
                have h7 : 63 ≤ s.size := by omega
                have HC := Lib.hid (block_short_lit v (s.extract 0 63) (by rw [ByteArray.size_extract]; omega))
                have heq := fun r => same8 r
                obtain ⟨xa, xb, xc, xd, xe, xf, xg, xh⟩ := v
                have hq := heq ⟨xa, xb, xc, xd, xe, xf, xg, xh⟩
                clear heq
                simp only at HC hq
                go_region_held3 (fun w' => w'.cell? ⟨w.heap.size, 0, none⟩ = some (W32 xa) ∧ w'.cell? ⟨w.heap.size, 1, none⟩ = some (W32 xb) ∧ w'.cell? ⟨w.heap.size, 2, none⟩ = some (W32 xc) ∧ w'.cell? ⟨w.heap.size, 3, none⟩ = some (W32 xd) ∧ w'.cell? ⟨w.heap.size, 4, none⟩ = some (W32 xe) ∧ w'.cell? ⟨w.heap.size, 5, none⟩ = some (W32 xf) ∧ w'.cell? ⟨w.heap.size, 6, none⟩ = some (W32 xg) ∧ w'.cell? ⟨w.heap.size, 7, none⟩ = some (W32 xh))
                  (exact E.1.c8_all)
                  (first | (go_at_call 14; have hc := HC.out; (with_reducible refine (hc _).mono ?_); clear hc; rintro e w2 ⟨rfl, hb2⟩; replace E := E.step hb2) | fail)
                all_goals
                  go_wp2
                  go_ret
                  exact ⟨rfl, E.2.2⟩
set_option maxHeartbeats 400000 in
theorem blocksLaw_any (s : ByteArray) (v : W8) (w : World) (hK : HasK w) :
    Calls Tryd.prog 4 #[.string s, .agg (c8 v)] w fun e w' => e = .returned (.bool true) ∧ Below w.heap.size w w' := by
  by_cases h1 : 400 < s.size
  · have E : FEnv w w.heap.size v (w.alloc (.cells (c8 v) 26)) := ⟨Has.fresh w 26 _, hK.below hK.lt ((Below.refl _ _).alloc (Nat.le_refl _) _), (Below.refl _ _).alloc (Nat.le_refl _) _⟩
    go_enter Tryd.func4, Tryd.ntmps4
    go_wp2_with (go_at_call 10; refine (awake_any _ E.2.1).mono ?_; rintro e wq ⟨rfl, hbq⟩; replace E := E.step hbq)
    go_ret
    exact ⟨rfl, E.2.2⟩
  · exact blocksLaw_short s v (by omega) w hK
end Go.Proofs.YtpkmhdnpnbkhiaaDoor
