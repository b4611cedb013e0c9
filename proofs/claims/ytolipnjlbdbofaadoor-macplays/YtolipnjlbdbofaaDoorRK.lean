/- causeyref01.Sum: walked, of texts of up to 400 bytes. -/
import Derived.Test.YtolipnjlbdbofaaDoorRJ
namespace Go.Proofs.YtolipnjlbdbofaaDoor
open Go.RowKit
/-- a whole row is read in a still walk -/
theorem wpStill_load_row {P : Program} {ops : Array Oper} {rest : List Oper} {o : Oper} {a : Act} {w : World} {Q : Act → Prop} (hgd : o.guard = none) (ty : TypeId) (x : Operand) (ho : o.op = .load ty x)
    (g : Nat) (hx : a.eval x = .pointer (some ⟨g, 0, none⟩)) (t : TypeId) (cs : Array Value) (fr : Nat × Nat) (d : TypeDesc) (hg : w.heap[g]? = some (.cells cs t fr))
    (hu : P.underlying ty = some d) (hd : (match d with | .struct _ | .array _ _ => true | _ => false) = true) (hi : (P.info? ty).map (·.size) = some cs.size)
    (h : wpStill P ops w Q rest (a.put o.dst (.agg cs))) : wpStill P ops w Q (o :: rest) a := by
  have hw : Region.wanted o (yielded ops a.tmps) = true := by unfold Region.wanted; rw [hgd]
  show if Region.wanted o (yielded ops a.tmps) then o.still P a w (wpStill P ops w Q rest) else wpStill P ops w Q rest (a.put o.dst undef)
  rw [if_pos hw]
  unfold Oper.still execOp
  simp only [ho, hx, Instr.loadAt, Instr.sureAddr, Sem.run_bind, Sem.run_pure, Result.andThen_ok, run_loadVar_row w g t ty cs fr d hg hu hd hi]
  exact ⟨rfl, h⟩
def SE (w : World) (gk gh : Nat) (st : W8) (W : World) : Prop := Has W w.heap.size 23 z32 ∧ Has W gk 39 (ws kk) ∧ Has W gh 41 (c8 st) ∧ Below w.heap.size w W
theorem SE.step {w : World} {gk gh : Nat} {st : W8} {W W' : World} (h : SE w gk gh st W) (hb : Below W.heap.size W W') : SE w gk gh st W' :=
  ⟨h.1.below hb h.1.lt, h.2.1.below hb h.2.1.lt, h.2.2.1.below hb h.2.2.1.lt, h.2.2.2.trans (hb.mono h.2.2.2.size)⟩
theorem SE.drew {w : World} {gk gh : Nat} {st : W8} {W : World} (h : SE w gk gh st W) : SE w gk gh st W.drew := ⟨h.1, h.2.1, h.2.2.1, h.2.2.2.drew⟩
theorem SE.row {w : World} {gk gh : Nat} {st : W8} {W : World} (h : SE w gk gh st W) (h1 : w.heap.size < gk) (h2 : gk < gh) (r : W8) : SE w gk gh r (W.setRow gh (c8 r)) :=
  ⟨h.1.setRow_other (by omega) _, h.2.1.setRow_other (by omega) _, h.2.2.1.setRow _, below_setRow h.2.2.2 (by omega) _⟩
theorem SE.other {w : World} {gk gh : Nat} {st : W8} {W : World} (h : SE w gk gh st W) (h1 : w.heap.size < gk) (h2 : gk < gh) {go : Nat} (h3 : gh < go) (i : Nat) (u : Value) : SE w gk gh st (W.setCell ⟨go, i, none⟩ u) :=
  ⟨h.1.other (by show w.heap.size ≠ go; omega) _, h.2.1.other (by show gk ≠ go; omega) _, h.2.2.1.other (by show gh ≠ go; omega) _, h.2.2.2.setCell (by show w.heap.size ≤ go; omega) _⟩
theorem kk_info : (Tryd.prog.info? 39).map (·.size) = some (ws kk).size := ws64_info kk kk_len
theorem kk_same : (ws (List.replicate 64 0)).size = (ws kk).size := by rw [ws_size, ws_size, kk_len]; rfl
theorem blk_cut (v : W8) (t : ByteArray) (a : Nat) : blk v (t.extract a (a + 64)).data.toList = blk v (t.data.toList.drop a) := by
  refine blk_congr _ _ _ (fun i hi => ?_)
  rw [ByteArray.data_extract, Array.toList_extract, List.extract_eq_take_drop]
  simp only [List.getD_eq_getElem?_getD]
  rw [List.getElem?_take_of_lt (by omega)]
/-- the sum's bytes, as far as they are laid: whole words, and of one word the last bytes -/
def oL (r : W8) (k m : Nat) : List UInt8 := (List.range 32).map fun p => if p < 4 * k ∨ (4 * k + m ≤ p ∧ p < 4 * k + 4) then kb r p else 0
theorem oL_length (r : W8) (k m : Nat) : (oL r k m).length = 32 := by simp [oL]
theorem oL_set (r : W8) (k m : Nat) (hm : m < 4) : (oL r k (m + 1)).set (4 * k + m) (kb r (4 * k + m)) = oL r k m := by
  apply List.ext_getElem
  · simp [oL]
  · intro n h1 h2
    have hn : n < 32 := by simpa [oL] using h2
    rw [List.getElem_set]
    simp only [oL, List.getElem_map, List.getElem_range]
    by_cases h : 4 * k + m = n
    · subst h
      rw [if_pos rfl, if_pos (by omega)]
    · rw [if_neg h]
      by_cases h3 : n < 4 * k ∨ (4 * k + m ≤ n ∧ n < 4 * k + 4)
      · rw [if_pos h3, if_pos (by omega)]
      · rw [if_neg h3, if_neg (by omega)]
theorem oL_next (r : W8) (k : Nat) : oL r k 0 = oL r (k + 1) 4 := by
  unfold oL
  apply List.map_congr_left
  intro n _
  by_cases h3 : n < 4 * k ∨ (4 * k + 0 ≤ n ∧ n < 4 * k + 4)
  · rw [if_pos h3, if_pos (by omega)]
  · rw [if_neg h3, if_neg (by omega)]
theorem oL_zero (r : W8) : oL r 0 4 = List.replicate 32 0 := by
  apply List.ext_getElem
  · simp [oL]
  · intro n h1 h2
    rw [List.getElem_replicate]
    simp only [oL, List.getElem_map, List.getElem_range]
    rw [if_neg (by omega)]
theorem oL_done (r : W8) : oL r 8 4 = keyL r := by
  unfold oL keyL
  apply List.map_congr_left
  intro n hn
  rw [List.mem_range] at hn
  rw [if_pos (by omega)]
theorem kb_low (r : W8) (k m : Nat) (hm : m < 4) : ((((r.l.getD k 0).toNat / 256 ^ (3 - m) : Nat) : Int) % 256) = ((kb r (4 * k + m)).toNat : Int) := by
  unfold kb
  rw [show (4 * k + m) / 4 = k from by omega, show (4 * k + m) % 4 = m from by omega, UInt8.toNat_ofNat', show 24 - 8 * m = 8 * (3 - m) from by omega, Nat.pow_mul]
  simp
set_option maxRecDepth 100000 in
set_option maxHeartbeats 4000000 in
theorem refSum_any (s : ByteArray) (hs : s.size ≤ 400) (w : World) :
    Calls Tryd.prog 9 #[.string s] w fun e w' => e = .returned (.agg (bs (keyL (sumW s.data.toList)))) ∧ Below w.heap.size w w' := by
  have hA : Has (w.alloc (.cells z32 23)) w.heap.size 23 z32 ∧ Below w.heap.size w (w.alloc (.cells z32 23)) := ⟨Has.fresh w 23 _, (Below.refl _ _).alloc (Nat.le_refl _) _⟩
  go_enter Tryd.func9, Tryd.ntmps9
  go_wp2_with fail
  change Calls _ _ _ (w.alloc (.cells z32 23)) _
  generalize w.alloc (.cells z32 23) = wa at hA ⊢
  refine (refConstants_any _).mono ?_
  rintro e w1 ⟨rfl, hb1⟩
  replace hA : Has w1 w.heap.size 23 z32 ∧ Below w.heap.size w w1 := ⟨hA.1.below hb1 hA.1.lt, hA.2.trans (hb1.mono hA.2.size)⟩
  clear hb1 wa
  have hk1 : w.heap.size < w1.heap.size := hA.1.lt
  have hB : Has ((w1.alloc (.cells (ws (List.replicate 64 0)) 39)).setRow w1.heap.size (ws kk)) w1.heap.size 39 (ws kk) := (Has.fresh w1 39 _).setRow _
  have hb1 : Below w1.heap.size w1 ((w1.alloc (.cells (ws (List.replicate 64 0)) 39)).setRow w1.heap.size (ws kk)) := below_setRow ((Below.refl _ _).alloc (Nat.le_refl _) _) (Nat.le_refl _) _
  go_wp2_with (first
    | (refine wpList_store_row rfl 39 (.tmp 3) (.tmp 11) rfl w1.heap.size (ws kk) rfl rfl 39 (ws (List.replicate 64 0)) (Has.fresh w1 39 _) kk_info kk_same (ws_one kk) ?_))
  change Calls _ _ _ ((w1.alloc (.cells (ws (List.replicate 64 0)) 39)).setRow w1.heap.size (ws kk)) _
  generalize (w1.alloc (.cells (ws (List.replicate 64 0)) 39)).setRow w1.heap.size (ws kk) = wb at hB hb1 ⊢
  generalize hgk : w1.heap.size = gk at hB hk1 ⊢
  replace hA : Has wb w.heap.size 23 z32 ∧ Below w.heap.size w wb := ⟨hA.1.below hb1 hA.1.lt, hA.2.trans (hb1.mono hA.2.size)⟩
  clear hb1 hgk w1
  refine (refFirst_any _).mono ?_
  rintro e w2 ⟨rfl, hb2⟩
  replace hA : Has w2 w.heap.size 23 z32 ∧ Has w2 gk 39 (ws kk) ∧ Below w.heap.size w w2 := ⟨hA.1.below hb2 hA.1.lt, hB.below hb2 hB.lt, hA.2.trans (hb2.mono hA.2.size)⟩
  have hk2 : gk < w2.heap.size := hA.2.1.lt
  have E : SE w gk w2.heap.size first8 ((w2.alloc (.cells z8 41)).setRow w2.heap.size (c8 first8)) := by
    have hb : Below w2.heap.size w2 ((w2.alloc (.cells z8 41)).setRow w2.heap.size (c8 first8)) := below_setRow ((Below.refl _ _).alloc (Nat.le_refl _) _) (Nat.le_refl _) _
    exact ⟨hA.1.below hb hA.1.lt, hA.2.1.below hb hA.2.1.lt, (Has.fresh w2 41 z8).setRow _, hA.2.2.trans (hb.mono hA.2.2.size)⟩
  clear hA hB hb2 wb
  go_wp2_with (first
    | (refine wpList_store_row rfl 41 (.tmp 4) (.tmp 12) rfl w2.heap.size (c8 first8) rfl rfl 41 z8 (Has.fresh w2 41 z8) (c8_info first8) (z8_size first8) (c8_one first8) ?_))
  change Calls _ _ _ ((w2.alloc (.cells z8 41)).setRow w2.heap.size (c8 first8)) _
  generalize (w2.alloc (.cells z8 41)).setRow w2.heap.size (c8 first8) = wc at E ⊢
  generalize w2.heap.size = gh at E hk2 ⊢
  clear w2
  refine (refFill_any s hs _).mono ?_
  rintro e w3 ⟨rfl, hb3⟩
  replace E := E.step hb3
  clear hb3 wc
  obtain ⟨t, ht⟩ : ∃ t, t = filled s := ⟨_, rfl⟩
  have htl : t.data.toList = s.data.toList ++ fillL s.size := by rw [ht]; exact filled_list s
  have hts : t.size = s.size + fillLen s.size := by rw [ht]; exact filled_size s
  have htb : t.size ≤ 500 := by have := fillLen_lt s.size; omega
  have htm : t.size % 64 = 0 := by rw [hts]; exact fill_mod s.size
  rw [← ht]
  have HTL := Lib.hid htl
  have HTS := Lib.hid hts
  clear ht htl hts
  go_wp2
  go_loopw [6] (fun i wr => ∃ k : Nat, 64 * k ≤ t.size ∧ i = .int .i64 ((64 * k : Nat) : Int) ∧ SE w gk gh (blksN first8 t.data.toList k) wr) (fun i _ => t.size - (intOf i).toNat)
  case atStart => exact ⟨0, by omega, rfl, E⟩
  case round =>
    clear E
    obtain ⟨k, hk, rfl, E⟩ := hrel
    generalize hst : blksN first8 t.data.toList k = st at E
    by_cases hkt : 64 * k < t.size
    · obtain ⟨r, hr⟩ : ∃ r, blk st (t.extract (64 * k) (64 * k + 64)).data.toList = r := ⟨_, rfl⟩
      have hnext : blksN first8 t.data.toList (k + 1) = r := by
        show blk (blksN first8 t.data.toList k) (t.data.toList.drop (64 * k)) = r
        rw [hst, ← hr, blk_cut]
      have hcall := refBlock_any st (t.extract (64 * k) (64 * k + 64)) (by rw [ByteArray.size_extract]; omega)
      rw [hr] at hcall
      obtain ⟨A, hA⟩ : ∃ A, A = 64 * k := ⟨_, rfl⟩
      obtain ⟨A2, hA2⟩ : ∃ A2, A2 = 64 * k + 64 := ⟨_, rfl⟩
      rw [← hA, ← (show A2 = A + 64 from by omega)] at hcall
      rw [← hA]
      have hA3 : (A2 : Int) ≤ (t.size : Int) := by omega
      have hA4 : (A : Int) ≤ (A2 : Int) := by omega
      have hAlt : A < t.size := by omega
      have t1 : decide ((A : Int) < (t.size : Int)) = true := by simp; omega
      have eA : IntKind.i64.wrap ((A : Int) + 64) = (A2 : Int) := by rw [IntWalk.i64_in _ (by omega)]; omega
      have HN := Lib.hid hnext
      have HC := Lib.hid hcall
      have HA := Lib.hid (And.intro hA hA2)
      clear hnext hcall hA hA2 hst hr
      go_wp2
      replace E := E.drew
      refine wp_region_still_tail 7 (by kernel_rfl) (by kernel_rfl) ?_
      simp only [List.take_succ_cons, List.take_zero, List.drop_succ_cons, List.drop_zero]
      refine wpStill_load_row rfl 41 (.tmp 4) rfl gh rfl 41 (c8 st) (0, 0) _ E.2.2.1 Tryd.underlying41 rfl (c8_info st) ?_
      iterate 5 still_step
      refine wpStill_load_row rfl 39 (.tmp 3) rfl gk rfl 39 (ws kk) (0, 0) _ E.2.1 Tryd.underlying39 rfl kk_info ?_
      refine wpStill_nil ?_
      change wpList _ _ _ _ _ wr.drew
      generalize wr.drew = wr2 at E ⊢
      clear eA
      go_wp2_with (first
        | (go_at_call 19; have hc := HC.out; (with_reducible refine (hc _).mono ?_); clear hc; rintro e w4 ⟨rfl, hb4⟩; have E2 := E.step hb4)
        | (refine wpList_store_row rfl 41 (.tmp 4) (.tmp 28) rfl gh (c8 r) rfl rfl 41 (c8 st) E2.2.2.1 (c8_info r) (c8_same _ _) (c8_one r) ?_))
      have E3 := E2.row hk1 hk2 r
      obtain ⟨hA, hA2⟩ := HA.out
      go_roundw
      case rel => exact ⟨k + 1, by omega, by rw [show 64 * (k + 1) = A + 64 from by omega]; go_num, by rw [HN.out]; exact E3⟩
      case measure => simp [intOf]; omega
    · have hkt2 : 64 * k = t.size := by omega
      rw [hkt2]
      have hsum : st = sumW s.data.toList := by
        rw [← hst]; unfold sumW
        rw [HTL.out, len_list, ← HTS.out]
        congr 1
        omega
      have HS := Lib.hid hsum
      clear hst hsum hkt hkt2 hk
      have t1 : decide ((t.size : Int) < (t.size : Int)) = false := by simp
      go_wp2
      have hO : Has (wr.alloc (.cells (bs (oL st 0 4)) 23)) wr.heap.size 23 (bs (oL st 0 4)) := Has.fresh wr 23 _
      have E2 := E.step ((Below.refl wr.heap.size wr).alloc (Nat.le_refl _) (.cells (bs (oL st 0 4)) 23))
      have hgo : gh < wr.heap.size := E.2.2.1.lt
      rw [oL_zero] at hO E2
      change Code.wp _ _ _ _ (wr.alloc (.cells (bs (List.replicate 32 0)) 23))
      generalize wr.alloc (.cells (bs (List.replicate 32 0)) 23) = wd at hO E2 ⊢
      generalize wr.heap.size = go at hO hgo ⊢
      clear E wr
      go_loopw [8] (fun i wr => ∃ k : Nat, k ≤ 8 ∧ i = .int .i64 (k : Int) ∧ SE w gk gh st wr ∧ Has wr go 23 (bs (oL st k 4))) (fun i _ => 8 - (intOf i).toNat)
      case atStart => exact ⟨0, by omega, rfl, E2, by rw [oL_zero]; exact hO⟩
      case round =>
        clear E2 hO
        obtain ⟨k, hk, rfl, E, hO⟩ := hrel
        by_cases hk8 : k < 8
        · have hk8i : (k : Int) < 8 := by omega
          have t2 : decide ((k : Int) < 8) = true := by simp; omega
          have cx := Has.word (l := st.l) E.2.2.1 k (by show k < 8; exact hk8)
          have hkb := kb_low st k
          generalize st.l.getD k 0 = X at cx hkb
          have HKB := Lib.hid hkb
          clear hkb
          go_wp2
          go_loopw [9, 10] (fun x j wr => ∃ m : Nat, m ≤ 4 ∧ x = .int .u32 ((X.toNat / 256 ^ (4 - m) : Nat) : Int) ∧ j = .int .i64 ((m : Int) - 1) ∧ SE w gk gh st wr ∧ Has wr go 23 (bs (oL st k m))) (fun _ j _ => (intOf j + 1).toNat)
          case atStart => exact ⟨4, by omega, by simp, rfl, E, hO⟩
          case round =>
            clear E hO cx
            obtain ⟨m, hm, rfl, rfl, E, hO⟩ := hrel
            by_cases hm0 : 0 < m
            · obtain ⟨j, rfl⟩ : ∃ j, m = j + 1 := ⟨m - 1, by omega⟩
              have hi1 : ((j + 1 : Nat) : Int) - 1 = (j : Int) := by omega
              rw [hi1, show 4 - (j + 1) = 3 - j from by omega]
              have hb := HKB.out j (by omega)
              have hset := oL_set st k j (by omega)
              have hnx : X.toNat / 256 ^ (4 - j) = X.toNat / 256 ^ (3 - j) / 256 := by rw [show 4 - j = (3 - j) + 1 from by omega, Nat.pow_succ, Nat.div_div_eq_div_mul]
              have hXb : X.toNat / 256 ^ (3 - j) < 4294967296 := Nat.lt_of_le_of_lt (Nat.div_le_self _ _) (lt32 X)
              have co := hO.byte (4 * k + j) (by rw [oL_length]; omega)
              have qo := hO.frozen (4 * k + j)
              generalize X.toNat / 256 ^ (3 - j) = N at hb hnx hXb ⊢
              generalize kb st (4 * k + j) = y at hb hset
              have t3 : decide (0 ≤ (j : Int)) = true := by simp
              have hP : (4 * (k : Int) + (j : Int)) < 32 := by omega
              have HSET := Lib.hid hset
              have HNX := Lib.hid hnx
              have HBB := Lib.hid hb
              clear hset hnx hb hi1
              go_wp2
              rw [HBB.out]
              go_roundw
              case rel => exact ⟨j, by omega, by rw [HNX.out]; simp, rfl, E.other hk1 hk2 hgo _ _, by rw [← HSET.out]; exact hO.setB _ y⟩
              case measure => simp [intOf]
            · have hm1 : m = 0 := by omega
              subst hm1
              have t3 : decide (0 ≤ ((0 : Nat) : Int) - 1) = false := by decide
              rw [oL_next] at hO
              go_wp2
              go_roundw
              case rel => exact ⟨k + 1, by omega, by go_num, E, hO⟩
              case measure => simp [intOf]; omega
        · have hk2' : k = 8 := by omega
          subst hk2'
          rw [show ((8 : Nat) : Int) = 8 from rfl]
          rw [oL_done] at hO
          have hl : (keyL st).length = 32 := by simp [keyL]
          have hfin : keyL st = keyL (sumW s.data.toList) := by rw [HS.out]
          generalize keyL st = L at hO hl hfin
          have hI : (Tryd.prog.info? 23).map (·.size) = some (bs L).size := by rw [bs_size, hl]; exact (by kernel_rfl : (Tryd.prog.info? 23).map (·.size) = some 32)
          have hZ : z32.size = (bs L).size := by unfold z32; rw [bs_size, bs_size, hl]; rfl
          have HI := Lib.hid hI
          have HZ := Lib.hid hZ
          have HF := Lib.hid hfin
          clear hI hZ hfin hl
          go_wp2_with (first
            | (refine wpList_load_row rfl 23 (.tmp 7) rfl go rfl 23 (bs L) (0, 0) _ hO Tryd.underlying23 rfl HI.out ?_)
            | (refine wpList_store_row rfl 23 (.tmp 2) (.tmp 50) rfl w.heap.size (bs L) rfl rfl 23 z32 E.1 HI.out HZ.out (bs_one L) ?_))
          refine bodyPost_ret (v := .agg (bs L)) (results_cell_row rfl _ _ w.heap.size 23 (bs L) (0, 0) _ rfl (E.1.setRow _) Tryd.underlying23 rfl HI.out) rfl ⟨by rw [HF.out], below_setRow E.2.2.2 (Nat.le_refl _) _⟩
end Go.Proofs.YtolipnjlbdbofaaDoor
