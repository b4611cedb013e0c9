/- cha.blockOf: walked. -/
import Derived.Test.YtfhjokbbaoldiaaTH
import Derived.Test.YtfhjokbbaoldiaaHI
import Derived.Test.YtfhjokbbaoldiaaHG
namespace Go.Proofs.Ytfhjokbbaoldiaa
open Go.RowKit
/-- zero bytes of a block -/
def zb64 : Array Value := bs (List.replicate 64 0)
theorem infoB64 (l : List UInt8) (hl : l.length = 64) : (Try.prog.info? 53).map (·.size) = some (bs l).size := by
  rw [bs_size, hl]; exact (by kernel_rfl : (Try.prog.info? 53).map (·.size) = some 64)
theorem zb64_size (l : List UInt8) (hl : l.length = 64) : zb64.size = (bs l).size := by unfold zb64; rw [bs_size, bs_size, hl]; rfl
/-- the bytes of the first i words, zeros behind them -/
def bTo (xs : List UInt32) (i : Nat) : List UInt8 := bytesL (xs.take i) ++ List.replicate (64 - 4 * i) 0
theorem bTo_length (xs : List UInt32) (h : xs.length = 16) (i : Nat) (hi : i ≤ 16) : (bTo xs i).length = 64 := by
  unfold bTo; rw [List.length_append, bytesL_length, List.length_take, List.length_replicate, h]; omega
theorem bTo_zero (xs : List UInt32) : bTo xs 0 = List.replicate 64 0 := by simp [bTo, bytesL]
theorem bTo_done (xs : List UInt32) (h : xs.length = 16) : bTo xs 16 = bytesL xs := by
  unfold bTo; rw [List.take_of_length_le (by omega)]; simp
theorem bTo_next (xs : List UInt32) (h : xs.length = 16) (i : Nat) (hi : i < 16) : (bTo xs i).take (4 * i) ++ leB (xs.getD i 0) ++ (bTo xs i).drop (4 * i + 4) = bTo xs (i + 1) := by
  have hl : (bytesL (xs.take i)).length = 4 * i := by rw [bytesL_length, List.length_take, h]; omega
  have e1 : (bTo xs i).take (4 * i) = bytesL (xs.take i) := by unfold bTo; rw [← hl, List.take_left]
  have e2 : (bTo xs i).drop (4 * i + 4) = List.replicate (64 - 4 * (i + 1)) 0 := by
    unfold bTo
    rw [← List.drop_drop]
    conv => lhs; rw [← hl, List.drop_left]
    rw [List.drop_replicate, hl]
    congr 1
  have e3 : bytesL (xs.take (i + 1)) = bytesL (xs.take i) ++ leB (xs.getD i 0) := by
    rw [List.take_succ_eq_append_getElem (by omega), List.getD_eq_getElem?_getD, List.getElem?_eq_getElem (by omega)]
    unfold bytesL
    rw [List.flatMap_append]
    simp only [List.flatMap_cons, List.flatMap_nil, List.append_nil, Option.getD_some]
  rw [e1, e2]
  unfold bTo
  rw [e3]
theorem addL_length (a b : List UInt32) (ha : a.length = 16) (hb : b.length = 16) : (addL a b).length = 16 := by unfold addL; rw [List.length_zipWith, ha, hb]; rfl
theorem addL_get (a b : List UInt32) (i : Nat) (ha : i < a.length) (hb : i < b.length) : (addL a b).getD i 0 = a.getD i 0 + b.getD i 0 := by
  unfold addL
  rw [List.getD_eq_getElem?_getD, List.getD_eq_getElem?_getD, List.getD_eq_getElem?_getD, List.getElem?_eq_getElem ha, List.getElem?_eq_getElem hb, List.getElem?_eq_getElem (by rw [List.length_zipWith]; omega)]
  simp only [Option.getD_some, List.getElem_zipWith]
theorem copy4 {w : World} {g g6 : Nat} {L x : List UInt8} (h : Has w g 53 (bs L)) (hL : L.length = 64) (h6 : Has w g6 71 (bs x)) (hx : x.length = 4) (i : Nat) (hi : i < 16) :
    (Builtin.copy_ #[32, 32] 3 #[.slice (some ⟨g, 4 * i, none⟩) (64 - 4 * i) (64 - 4 * i), .slice (some ⟨g6, 0, none⟩) 4 4]).run Try.prog w = .ok (.int .i64 4) (w.setRow g (bs (L.take (4 * i) ++ x ++ L.drop (4 * i + 4)))) := by
  have h1 := run_copy_row (P := Try.prog) w 32 32 3 5 g (4 * i) (64 - 4 * i) (64 - 4 * i) ⟨g6, 0, none⟩ 4 4 (bs L) 53 (x.map B8) Try.underlying32 (by kernel_rfl) h
    (by rw [List.length_map, hx]; show 4 = min 4 (64 - 4 * i); omega)
    (fun j v hv => by rw [addr_add, h6.cell]; simpa [bs] using hv) (by rw [List.length_map, hx, bs_size, hL]; omega) (bl_one x)
  rw [List.length_map, hx] at h1
  rw [h1]
  have e : ((bs L).toList.take (4 * i) ++ x.map B8 ++ (bs L).toList.drop (4 * i + 4)).toArray = bs (L.take (4 * i) ++ x ++ L.drop (4 * i + 4)) := by
    unfold bs
    simp [List.map_append, List.map_take, List.map_drop]
  rw [e]
  rfl
theorem exec_alloc4 {o : Oper} {ev : Operand → Value} {w : World} (ho : o.op = .alloc 71) : (execOp ev o).run Try.prog w = .ok (.value (.pointer (some ⟨w.heap.size, 0, none⟩))) (w.alloc (.cells z4 71)) := by
  unfold execOp
  simp only [ho]
  go_simp
  rfl
/-- what memory holds in the midst of a block -/
def CEnv (w : World) (g4 : Nat) (v V : List UInt32) (L : List UInt8) (W : World) : Prop :=
  Has W w.heap.size 50 (ws v) ∧ Has W (w.heap.size + 1) 53 zb64 ∧ Has W (w.heap.size + 2) 50 (ws V) ∧ Has W g4 53 (bs L) ∧ Below w.heap.size w W
section
variable {w : World} {g4 : Nat} {v V : List UInt32} {L : List UInt8} {W W' : World}
theorem CEnv.drew (h : CEnv w g4 v V L W) : CEnv w g4 v V L W.drew := ⟨h.1, h.2.1, h.2.2.1, h.2.2.2.1, h.2.2.2.2.drew⟩
theorem CEnv.step (h : CEnv w g4 v V L W) (hb : Below W.heap.size W W') : CEnv w g4 v V L W' :=
  ⟨h.1.below hb h.1.lt, h.2.1.below hb h.2.1.lt, h.2.2.1.below hb h.2.2.1.lt, h.2.2.2.1.below hb h.2.2.2.1.lt, h.2.2.2.2.trans (hb.mono h.2.2.2.2.size)⟩
theorem CEnv.alloc (h : CEnv w g4 v V L W) (o : Obj) : CEnv w g4 v V L (W.alloc o) := h.step ((Below.refl _ _).alloc (Nat.le_refl _) o)
theorem CEnv.cells (h : CEnv w g4 v V L W) (hv : v.length = 16) (hV : V.length = 16) (i : Nat) (hi : i < 16) : W.cell? ⟨w.heap.size + 2, i, none⟩ = some (W32 (V.getD i 0)) ∧ W.cell? ⟨w.heap.size, i, none⟩ = some (W32 (v.getD i 0)) :=
  ⟨h.2.2.1.word i (by omega), h.1.word i (by omega)⟩
theorem CEnv.put (h : CEnv w g4 v V L W) (hg : w.heap.size + 2 < g4) (L' : List UInt8) : CEnv w g4 v V L' (W.setRow g4 (bs L')) :=
  ⟨h.1.setRow_other (by omega) _, h.2.1.setRow_other (by omega) _, h.2.2.1.setRow_other (by omega) _, h.2.2.2.1.setRow _, below_setRow h.2.2.2.2 (by omega) _⟩
theorem CEnv.other (h : CEnv w g4 v V L W) {g6 : Nat} (hb : w.heap.size + 2 < g6) (hne : g4 ≠ g6) (cs : Array Value) : CEnv w g4 v V L (W.setRow g6 cs) :=
  ⟨h.1.setRow_other (by omega) _, h.2.1.setRow_other (by omega) _, h.2.2.1.setRow_other (by omega) _, h.2.2.2.1.setRow_other hne _, below_setRow h.2.2.2.2 (by omega) _⟩
end
set_option maxRecDepth 20000 in
set_option maxHeartbeats 2000000 in
theorem blockOf_any (v : List UInt32) (hv : v.length = 16) (w : World) :
    Calls Try.prog 32 #[.agg (ws v)] w fun e w' => e = .returned (.agg (bs (blkB v))) ∧ Below w.heap.size w w' := by
  have hA : Has ((w.alloc (.cells (ws v) 50)).alloc (.cells zb64 53)) w.heap.size 50 (ws v) := (Has.fresh w 50 _).alloc _
  have hB : Has ((w.alloc (.cells (ws v) 50)).alloc (.cells zb64 53)) (w.heap.size + 1) 53 zb64 := heap_alloc2_new w _ _
  have hb : Below w.heap.size w ((w.alloc (.cells (ws v) 50)).alloc (.cells zb64 53)) := ((Below.refl _ _).alloc (Nat.le_refl _) _).alloc (by simp) _
  have hsz : ((w.alloc (.cells (ws v) 50)).alloc (.cells zb64 53)).heap.size = w.heap.size + 2 := by show ((w.heap.push _).push _).size = _; simp
  have HV := Lib.hid hv
  clear hv
  go_enter Try.func32, Try.ntmps32
  go_upto_region 1 with fail
  change Code.wp _ _ _ _ ((w.alloc (.cells (ws v) 50)).alloc (.cells zb64 53))
  generalize (w.alloc (.cells (ws v) 50)).alloc (.cells zb64 53) = w0 at hA hB hb hsz ⊢
  have hC : Has (w0.alloc (.cells z16 50)) (w.heap.size + 2) 50 z16 := by rw [← hsz]; exact Has.fresh w0 50 _
  have hA2 := (hA.alloc (.cells z16 50)).setRow_other (g' := w.heap.size + 2) (by omega) (ws v)
  have hB2 := (hB.alloc (.cells z16 50)).setRow_other (g' := w.heap.size + 2) (by omega) (ws v)
  have hC2 := hC.setRow (ws v)
  have hb2 := below_setRow (hb.alloc hb.size (.cells z16 50)) (g := w.heap.size + 2) (by omega) (ws v)
  go_upto_region 2 with (first
    | (refine wpList_load_row rfl 50 (.tmp 1) rfl w.heap.size rfl 50 (ws v) (0, 0) _ hA Try.underlying50 rfl (info16 v HV.out) ?_)
    | (refine wpList_store_row rfl 50 (.tmp 3) (.tmp 7) rfl (w.heap.size + 2) (ws v) rfl rfl 50 z16 hC (info16 v HV.out) (z16_size v HV.out) (ws_one v) ?_))
  change Code.wp _ _ _ _ ((w0.alloc (.cells z16 50)).setRow (w.heap.size + 2) (ws v))
  generalize (w0.alloc (.cells z16 50)).setRow (w.heap.size + 2) (ws v) = w1 at hA2 hB2 hC2 hb2 ⊢
  clear hA hB hC hb hsz w0
  go_wp2
  go_loopw [8] (fun i wr => ∃ j : Nat, j ≤ 10 ∧ i = .int .i64 (j : Int) ∧ Has wr w.heap.size 50 (ws v) ∧ Has wr (w.heap.size + 1) 53 zb64 ∧ Has wr (w.heap.size + 2) 50 (ws (dblN v j)) ∧ Below w.heap.size w wr) (fun i _ => 10 - (intOf i).toNat)
  case atStart => exact ⟨0, by omega, rfl, hA2, hB2, hC2, hb2⟩
  case round =>
    clear hA2 hB2 hC2 hb2 w1
    obtain ⟨j, hj, rfl, hA, hB, hC, hb⟩ := hrel
    have hl := dblN_length v j
    rw [HV.out] at hl
    by_cases hlt : j < 10
    · have hjb : decide ((j : Int) < 10) = true := by simp; omega
      have hn : dblN v (j + 1) = dbl (dblN v j) := rfl
      have hl2 := dblN_length v (j + 1)
      rw [HV.out] at hl2
      rw [hn] at hl2
      have hcall := dbl_any (dblN v j) hl
      generalize hm : dbl (dblN v j) = M at hcall hl2 hn
      generalize dblN v j = V at hC hl hcall
      clear hm
      have HC := Lib.hid hcall
      have HN := Lib.hid hn
      have HL := Lib.hid hl
      have HL2 := Lib.hid hl2
      clear hcall hn hl hl2
      go_wp2_with (refine wpList_load_row rfl 50 (.tmp 3) rfl (w.heap.size + 2) rfl 50 (ws V) (0, 0) _ hC Try.underlying50 rfl (info16 V HL.out) ?_)
      refine (HC.out _).mono ?_
      rintro e w2 ⟨rfl, hb1⟩
      replace hA := hA.below hb1 hA.lt
      replace hB := hB.below hb1 hB.lt
      replace hC := hC.below hb1 hC.lt
      replace hb := hb.trans (hb1.mono hb.size)
      clear hb1 HC
      go_wp2_with (refine wpList_store_row rfl 50 (.tmp 3) (.tmp 11) rfl (w.heap.size + 2) (ws M) rfl rfl 50 (ws V) hC (info16 M HL2.out) (by rw [ws_size, ws_size, HL.out, HL2.out]) (ws_one M) ?_)
      go_roundw
      case rel => exact ⟨j + 1, by omega, by go_num, hA.setRow_other (by omega) _, hB.setRow_other (by omega) _, by rw [HN.out]; exact hC.setRow _, below_setRow hb (by omega) _⟩
      case measure => simp [intOf]; omega
    · have hj2 : j = 10 := by omega
      subst hj2
      have hR : blkB v = bytesL (addL (dblN v 10) v) := rfl
      generalize dblN v 10 = V at hC hl hR
      obtain ⟨xs, hxs⟩ : ∃ xs, addL V v = xs := ⟨_, rfl⟩
      have hxl : xs.length = 16 := by rw [← hxs]; exact addL_length _ _ hl HV.out
      rw [hxs] at hR
      have HR := Lib.hid hR
      have HL := Lib.hid hl
      have HX := Lib.hid hxs
      have HXL := Lib.hid hxl
      clear hR hl hxs hxl hlt hj
      have E : CEnv w wr.heap.size v V (bTo xs 0) (wr.alloc (.cells zb64 53)) := by
        refine ⟨hA.alloc _, hB.alloc _, hC.alloc _, ?_, hb.alloc hb.size _⟩
        rw [bTo_zero]
        exact Has.fresh wr 53 _
      have hg : w.heap.size + 2 < wr.heap.size := hC.lt
      clear hA hB hC hb
      go_upto_region 7 with fail
      change Code.wp _ _ _ _ (wr.alloc (.cells zb64 53))
      generalize wr.alloc (.cells zb64 53) = w1 at E ⊢
      generalize wr.heap.size = g4 at E hg ⊢
      clear wr
      go_wp2
      rw [show ((10 : Nat) : Int) = 10 from rfl]
      go_loopw [13] (fun i wr => ∃ j : Nat, j ≤ 16 ∧ i = .int .i64 (j : Int) ∧ CEnv w g4 v V (bTo xs j) wr) (fun i _ => 16 - (intOf i).toNat)
      case atStart => exact ⟨0, by omega, rfl, E⟩
      case round =>
        clear E w1
        obtain ⟨j, hj, rfl, E⟩ := hrel
        by_cases hlt : j < 16
        · have hjb : decide ((j : Int) < 16) = true := by simp; omega
          go_wp2_with fail
          obtain ⟨c1, c2⟩ := E.drew.cells HV.out HL.out j hlt
          have hx : V.getD j 0 + v.getD j 0 = xs.getD j 0 := by rw [← HX.out, addL_get _ _ _ (by rw [HL.out]; exact hlt) (by rw [HV.out]; exact hlt)]
          have hnx := bTo_next xs HXL.out j hlt
          have hLl := bTo_length xs HXL.out j (by omega)
          rw [← hx] at hnx
          generalize V.getD j 0 = x1 at c1 hnx
          generalize v.getD j 0 = x2 at c2 hnx
          have hadd := addw32 x1 x2
          generalize x1 + x2 = x at hadd hnx
          clear hx
          have ji : ¬ ((16 : Int) ≤ (j : Int)) := by omega
          have HC := Lib.hid (bytesOf_any x)
          have H4 := Lib.hid (leB_length x)
          generalize leB x = n4 at HC H4 hnx
          have HNX := Lib.hid hnx
          have HLl := Lib.hid hLl
          clear hnx hLl
          generalize bTo xs j = L at E HNX HLl
          go_cut [6] (fun p wx => ∃ g6, p = .pointer (some ⟨g6, 0, none⟩) ∧ w.heap.size + 2 < g6 ∧ g4 ≠ g6 ∧ Has wx g6 71 (bs n4) ∧ CEnv w g4 v V L wx)
          case first =>
            refine wp_region_noPanic ?_
            refine wp_region_held_drew (S := fun w' => w'.cell? ⟨w.heap.size + 2, j, none⟩ = some (W32 x1) ∧ w'.cell? ⟨w.heap.size, j, none⟩ = some (W32 x2)) (by kernel_rfl) ⟨c1, c2⟩ (fun hS => ?_)
            refine take1 hS 0 16 (.int .i64 (j : Int)) _ rfl (by kernel_rfl) (by kernel_rfl) (by kernel_rfl) (fun _ _ _ h => h) rfl rfl (fun w' h => by go_simp) ?_
            simp only [Act.put, List.setIfInBounds_toArray, List.set_cons_zero, List.set_cons_succ]
            refine take1 hS 1 17 (.pointer (some ⟨w.heap.size + 2, j, none⟩)) _ rfl (by kernel_rfl) (by kernel_rfl) (by kernel_rfl) (fun _ _ _ h => h) rfl rfl (fun w' h => by go_simp) ?_
            simp only [Act.put, List.setIfInBounds_toArray, List.set_cons_zero, List.set_cons_succ]
            refine take1 hS 2 18 (W32 x1) _ rfl (by kernel_rfl) (by kernel_rfl) (by kernel_rfl) (fun _ _ _ h => h) rfl rfl (fun w' h => by obtain ⟨h1, h2⟩ := h; go_simp) ?_
            simp only [Act.put, List.setIfInBounds_toArray, List.set_cons_zero, List.set_cons_succ]
            refine take1 hS 3 19 (.int .i64 (j : Int)) _ rfl (by kernel_rfl) (by kernel_rfl) (by kernel_rfl) (fun _ _ _ h => h) rfl rfl (fun w' h => by go_simp) ?_
            simp only [Act.put, List.setIfInBounds_toArray, List.set_cons_zero, List.set_cons_succ]
            refine take1 hS 4 20 (.pointer (some ⟨w.heap.size, j, none⟩)) _ rfl (by kernel_rfl) (by kernel_rfl) (by kernel_rfl) (fun _ _ _ h => h) rfl rfl (fun w' h => by go_simp) ?_
            simp only [Act.put, List.setIfInBounds_toArray, List.set_cons_zero, List.set_cons_succ]
            refine take1 hS 5 21 (W32 x2) _ rfl (by kernel_rfl) (by kernel_rfl) (by kernel_rfl) (fun _ _ _ h => h) rfl rfl (fun w' h => by obtain ⟨h1, h2⟩ := h; go_simp) ?_
            simp only [Act.put, List.setIfInBounds_toArray, List.set_cons_zero, List.set_cons_succ]
            refine take1 hS 6 22 (W32 x) _ rfl (by kernel_rfl) (by kernel_rfl) (by kernel_rfl) (fun _ _ _ h => h) rfl rfl (fun w' h => by go_simp) ?_
            simp only [Act.put, List.setIfInBounds_toArray, List.set_cons_zero, List.set_cons_succ]
            replace E := E.drew
            have hsv : ∀ W, CEnv w g4 v V L W → W.cell? ⟨w.heap.size + 2, j, none⟩ = some (W32 x1) ∧ W.cell? ⟨w.heap.size, j, none⟩ = some (W32 x2) := by
              intro W h
              have e1 := h.2.2.1.cell j
              have e2 := h.1.cell j
              have e3 := E.2.2.1.cell j
              have e4 := E.1.cell j
              rw [e1, e2, ← e3, ← e4]
              exact hS
            have HSV := Lib.hid hsv
            clear hsv hadd ji
            generalize wr.drew = w1 at E hS c1 c2 ⊢
            refine wpAnyH_all (rs := [7, 8]) (by kernel_rfl) (by simp) ?_
            intro i hi
            simp only [List.mem_cons, List.not_mem_nil, or_false] at hi
            rcases hi with rfl | rfl
            · refine wpOp_call (d := 23) (f := 47) (args := #[W32 x]) (HC.out w1) rfl rfl rfl (by go_simp) ?_
              rintro e w2 ⟨rfl, hb1⟩
              replace E := E.step hb1
              refine ⟨_, rfl, HSV.out _ E, ?_⟩
              simp only [Act.put, List.setIfInBounds_toArray, List.set_cons_zero, List.set_cons_succ]
              have hN : Has (w2.alloc (.cells z4 71)) w2.heap.size 71 z4 := Has.fresh w2 71 _
              have h4 := E.2.2.2.1.lt
              replace E := E.alloc (.cells z4 71)
              refine onlyVal 8 6 (.pointer (some ⟨w2.heap.size, 0, none⟩)) (w2.alloc (.cells z4 71)) _ (by kernel_rfl) rfl rfl rfl (exec_alloc4 rfl) (HSV.out _ E) ?_
              simp only [Act.put, List.setIfInBounds_toArray, List.set_cons_zero, List.set_cons_succ]
              generalize w2.alloc (.cells z4 71) = w3 at E hN ⊢
              generalize w2.heap.size = g6 at h4 hN ⊢
              replace E := E.other (g6 := g6) (by omega) (by omega) (bs n4)
              refine onlySkip 9 (w3.setRow g6 (bs n4)) _ (by kernel_rfl) rfl rfl rfl (exec_store_row (P := Try.prog) (w := w3) 71 (.tmp 6) (.tmp 23) g6 (bs n4) hN (info4 n4 H4.out) (z4_size n4 H4.out) (bs_one n4) rfl rfl rfl) (HSV.out _ E) ?_
              refine wpAnyH_done (by kernel_rfl) ?_ _
              refine NoPanic.normal ?_
              go_wp2_with fail
              go_meet
              exact ⟨_, rfl, by omega, by omega, hN.setRow _, E⟩
            · have hN : Has (w1.alloc (.cells z4 71)) w1.heap.size 71 z4 := Has.fresh w1 71 _
              have h4 := E.2.2.2.1.lt
              replace E := E.alloc (.cells z4 71)
              refine wpOp_val (d := 6) (v := .pointer (some ⟨w1.heap.size, 0, none⟩)) (w' := w1.alloc (.cells z4 71)) rfl rfl rfl (exec_alloc4 rfl) ⟨HSV.out _ E, ?_⟩
              simp only [Act.put, List.setIfInBounds_toArray, List.set_cons_zero, List.set_cons_succ]
              generalize w1.alloc (.cells z4 71) = w2 at E hN ⊢
              generalize w1.heap.size = g6 at h4 hN ⊢
              refine onlyCall 7 23 47 #[W32 x] _ (by kernel_rfl) rfl rfl rfl (by go_simp) (HC.out w2) ?_
              rintro e w3 ⟨rfl, hb1⟩
              replace E := E.step hb1
              replace hN := hN.below hb1 hN.lt
              refine ⟨_, rfl, HSV.out _ E, ?_⟩
              simp only [Act.put, List.setIfInBounds_toArray, List.set_cons_zero, List.set_cons_succ]
              replace E := E.other (g6 := g6) (by omega) (by omega) (bs n4)
              refine onlySkip 9 (w3.setRow g6 (bs n4)) _ (by kernel_rfl) rfl rfl rfl (exec_store_row (P := Try.prog) (w := w3) 71 (.tmp 6) (.tmp 23) g6 (bs n4) hN (info4 n4 H4.out) (z4_size n4 H4.out) (bs_one n4) rfl rfl rfl) (HSV.out _ E) ?_
              refine wpAnyH_done (by kernel_rfl) ?_ _
              refine NoPanic.normal ?_
              go_wp2_with fail
              go_meet
              exact ⟨_, rfl, by omega, by omega, hN.setRow _, E⟩
          case rest =>
            clear E c1 c2 wr HC hadd
            obtain ⟨g6, rfl, hg6, hne, hN, E⟩ := hcut
            go_wp2_with fail
            clear ji
            obtain ⟨m, hm⟩ : ∃ m, 4 * j = m := ⟨_, rfl⟩
            have hcp := copy4 E.2.2.2.1.drew HLl.out hN.drew H4.out j hlt
            rw [HNX.out, hm] at hcp
            have em : IntKind.i64.wrap (4 * (j : Int)) = (m : Int) := by rw [IntWalk.i64_in _ (by omega)]; omega
            have m1 : (m : Int) ≤ 64 := by omega
            have m2 : m ≤ 64 := by omega
            have m3 : ¬ (64 = m) := by omega
            replace E := E.drew
            refine wp_region_noPanic ?_
            refine wp_region_held_drew (S := fun _ => True) (by kernel_rfl) trivial (fun hS => ?_)
            generalize wc.drew = w1 at E hcp hN ⊢
            refine take1 hS 0 24 (.int .i64 (j : Int)) _ rfl (by kernel_rfl) (by kernel_rfl) (by kernel_rfl) (fun _ _ _ h => h) rfl rfl (fun w' h => by go_simp) ?_
            simp only [Act.put, List.setIfInBounds_toArray, List.set_cons_zero, List.set_cons_succ]
            refine take1 hS 1 25 (.int .i64 (m : Int)) _ rfl (by kernel_rfl) (by kernel_rfl) (by kernel_rfl) (fun _ _ _ h => h) rfl rfl (fun w' h => by go_simp) ?_
            simp only [Act.put, List.setIfInBounds_toArray, List.set_cons_zero, List.set_cons_succ]
            refine take1 hS 2 26 (.slice (some ⟨g4, m, none⟩) (64 - m) (64 - m)) _ rfl (by kernel_rfl) (by kernel_rfl) (by kernel_rfl) (fun _ _ _ h => h) rfl rfl (fun w' h => by go_simp) ?_
            simp only [Act.put, List.setIfInBounds_toArray, List.set_cons_zero, List.set_cons_succ]
            refine take1 hS 3 27 (.slice (some ⟨g6, 0, none⟩) 4 4) _ rfl (by kernel_rfl) (by kernel_rfl) (by kernel_rfl) (fun _ _ _ h => h) rfl rfl (fun w' h => by go_simp) ?_
            simp only [Act.put, List.setIfInBounds_toArray, List.set_cons_zero, List.set_cons_succ]
            replace E := E.put hg (bTo xs (j + 1))
            refine onlyVal 4 28 (.int .i64 4) (w1.setRow g4 (bs (bTo xs (j + 1)))) _ (by kernel_rfl) rfl rfl rfl (by go_simp) trivial ?_
            simp only [Act.put, List.setIfInBounds_toArray, List.set_cons_zero, List.set_cons_succ]
            refine wpAnyH_done (by kernel_rfl) ?_ _
            refine NoPanic.normal ?_
            clear hcp hS em m1 m2 m3
            go_wp2
            go_roundw
            case rel => exact ⟨j + 1, by omega, by go_num, E⟩
            case measure => simp [intOf]; omega
        · have hj2 : j = 16 := by omega
          subst hj2
          rw [bTo_done xs HXL.out] at E
          have hl : (bytesL xs).length = 64 := by rw [bytesL_length, HXL.out]
          generalize bytesL xs = R at E HR hl
          have HRL := Lib.hid hl
          clear hl
          have i4 := E.2.2.2.1
          have i2 := E.2.1
          have hb := E.2.2.2.2
          clear E
          go_wp2_with (first
            | (refine wpList_load_row rfl 53 (.tmp 4) rfl g4 rfl 53 (bs R) (0, 0) _ i4 Try.underlying53 rfl (infoB64 R HRL.out) ?_)
            | (refine wpList_store_row rfl 53 (.tmp 2) (.tmp 30) rfl (w.heap.size + 1) (bs R) rfl rfl 53 zb64 i2 (infoB64 R HRL.out) (zb64_size R HRL.out) (bs_one R) ?_))
          refine bodyPost_ret (v := .agg (bs R)) (results_cell_row rfl _ _ (w.heap.size + 1) 53 (bs R) (0, 0) _ rfl (i2.setRow _) Try.underlying53 rfl (infoB64 R HRL.out)) rfl ⟨by rw [HR.out], below_setRow hb (by omega) _⟩
end Go.Proofs.Ytfhjokbbaoldiaa
