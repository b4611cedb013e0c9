/- cha.doubleRound, cha.wordAt, cha.bytesOf: walked. -/
import Derived.Test.YtfhjokbbaoldiaaTE
namespace Go.Proofs.Ytfhjokbbaoldiaa
open Go.RowKit
/-- sixteen zero words -/
def z16 : Array Value := ws (List.replicate 16 0)
theorem info16 (l : List UInt32) (h : l.length = 16) : (Try.prog.info? 50).map (·.size) = some (ws l).size := by
  rw [ws_size, h]; exact (by kernel_rfl : (Try.prog.info? 50).map (·.size) = some 16)
theorem z16_size (l : List UInt32) (h : l.length = 16) : z16.size = (ws l).size := by unfold z16; rw [ws_size, ws_size, h]; rfl
set_option maxHeartbeats 1000000 in
theorem dbl_any (l : List UInt32) (hl : l.length = 16) (w : World) :
    Calls Try.prog 49 #[.agg (ws l)] w fun e w' => e = .returned (.agg (ws (dbl l))) ∧ Below w.heap.size w w' := by
  have hmf : ∀ (fn : Fn) (first cap : Array Value) (w : World), (Instr.makeFunc fn first cap).run Try.prog w = .ok (.func fn first cap) w := fun _ _ _ _ => rfl
  have hA : Has ((w.alloc (.cells (ws l) 50)).alloc (.cells z16 50)) w.heap.size 50 (ws l) := (Has.fresh w 50 _).alloc _
  have hB : Has ((w.alloc (.cells (ws l) 50)).alloc (.cells z16 50)) (w.heap.size + 1) 50 z16 := heap_alloc2_new w _ _
  have hb : Below w.heap.size w ((w.alloc (.cells (ws l) 50)).alloc (.cells z16 50)) := ((Below.refl _ _).alloc (Nat.le_refl _) _).alloc (by simp) _
  have hd : dbl l = q4 (q4 (q4 (q4 (q4 (q4 (q4 (q4 l 0 4 8 12) 1 5 9 13) 2 6 10 14) 3 7 11 15) 0 5 10 15) 1 6 11 12) 2 7 8 13) 3 4 9 14 := rfl
  have HD := Lib.hid hd
  clear hd
  go_enter Try.func49, Try.ntmps49
  go_wp2_with fail
  change Calls _ _ _ ((w.alloc (.cells (ws l) 50)).alloc (.cells z16 50)) _
  generalize (w.alloc (.cells (ws l) 50)).alloc (.cells z16 50) = w0 at hA hB hb ⊢
  clear hmf
  refine (quarterAt_any l hl w.heap.size 0 4 8 12 (by omega) (by omega) (by omega) (by omega) _ hA).mono ?_
  rintro e w1 ⟨rfl, hA2, ho⟩
  replace hB := ho.has hB (by omega)
  replace hb := ho.below _ _ (Nat.le_refl _) hb
  have hl2 := q4_length l 0 4 8 12
  rw [hl] at hl2
  generalize hq : q4 l 0 4 8 12 = l0 at hA2 hl2
  have Q0 := Lib.hid hq
  clear hq ho hA w0 hl
  have hA := hA2
  have hl := hl2
  clear hA2 hl2
  go_wp2_with fail
  refine (quarterAt_any l0 hl w.heap.size 1 5 9 13 (by omega) (by omega) (by omega) (by omega) _ hA).mono ?_
  rintro e w2 ⟨rfl, hA2, ho⟩
  replace hB := ho.has hB (by omega)
  replace hb := ho.below _ _ (Nat.le_refl _) hb
  have hl2 := q4_length l0 1 5 9 13
  rw [hl] at hl2
  generalize hq : q4 l0 1 5 9 13 = l1 at hA2 hl2
  have Q1 := Lib.hid hq
  clear hq ho hA w1 hl
  have hA := hA2
  have hl := hl2
  clear hA2 hl2
  go_wp2_with fail
  refine (quarterAt_any l1 hl w.heap.size 2 6 10 14 (by omega) (by omega) (by omega) (by omega) _ hA).mono ?_
  rintro e w3 ⟨rfl, hA2, ho⟩
  replace hB := ho.has hB (by omega)
  replace hb := ho.below _ _ (Nat.le_refl _) hb
  have hl2 := q4_length l1 2 6 10 14
  rw [hl] at hl2
  generalize hq : q4 l1 2 6 10 14 = l2 at hA2 hl2
  have Q2 := Lib.hid hq
  clear hq ho hA w2 hl
  have hA := hA2
  have hl := hl2
  clear hA2 hl2
  go_wp2_with fail
  refine (quarterAt_any l2 hl w.heap.size 3 7 11 15 (by omega) (by omega) (by omega) (by omega) _ hA).mono ?_
  rintro e w4 ⟨rfl, hA2, ho⟩
  replace hB := ho.has hB (by omega)
  replace hb := ho.below _ _ (Nat.le_refl _) hb
  have hl2 := q4_length l2 3 7 11 15
  rw [hl] at hl2
  generalize hq : q4 l2 3 7 11 15 = l3 at hA2 hl2
  have Q3 := Lib.hid hq
  clear hq ho hA w3 hl
  have hA := hA2
  have hl := hl2
  clear hA2 hl2
  go_wp2_with fail
  refine (quarterAt_any l3 hl w.heap.size 0 5 10 15 (by omega) (by omega) (by omega) (by omega) _ hA).mono ?_
  rintro e w5 ⟨rfl, hA2, ho⟩
  replace hB := ho.has hB (by omega)
  replace hb := ho.below _ _ (Nat.le_refl _) hb
  have hl2 := q4_length l3 0 5 10 15
  rw [hl] at hl2
  generalize hq : q4 l3 0 5 10 15 = l4 at hA2 hl2
  have Q4 := Lib.hid hq
  clear hq ho hA w4 hl
  have hA := hA2
  have hl := hl2
  clear hA2 hl2
  go_wp2_with fail
  refine (quarterAt_any l4 hl w.heap.size 1 6 11 12 (by omega) (by omega) (by omega) (by omega) _ hA).mono ?_
  rintro e w6 ⟨rfl, hA2, ho⟩
  replace hB := ho.has hB (by omega)
  replace hb := ho.below _ _ (Nat.le_refl _) hb
  have hl2 := q4_length l4 1 6 11 12
  rw [hl] at hl2
  generalize hq : q4 l4 1 6 11 12 = l5 at hA2 hl2
  have Q5 := Lib.hid hq
  clear hq ho hA w5 hl
  have hA := hA2
  have hl := hl2
  clear hA2 hl2
  go_wp2_with fail
  refine (quarterAt_any l5 hl w.heap.size 2 7 8 13 (by omega) (by omega) (by omega) (by omega) _ hA).mono ?_
  rintro e w7 ⟨rfl, hA2, ho⟩
  replace hB := ho.has hB (by omega)
  replace hb := ho.below _ _ (Nat.le_refl _) hb
  have hl2 := q4_length l5 2 7 8 13
  rw [hl] at hl2
  generalize hq : q4 l5 2 7 8 13 = l6 at hA2 hl2
  have Q6 := Lib.hid hq
  clear hq ho hA w6 hl
  have hA := hA2
  have hl := hl2
  clear hA2 hl2
  go_wp2_with fail
  refine (quarterAt_any l6 hl w.heap.size 3 4 9 14 (by omega) (by omega) (by omega) (by omega) _ hA).mono ?_
  rintro e w8 ⟨rfl, hA2, ho⟩
  replace hB := ho.has hB (by omega)
  replace hb := ho.below _ _ (Nat.le_refl _) hb
  have hl2 := q4_length l6 3 4 9 14
  rw [hl] at hl2
  generalize hq : q4 l6 3 4 9 14 = l7 at hA2 hl2
  have Q7 := Lib.hid hq
  clear hq ho hA w7 hl
  have hA := hA2
  have hl := hl2
  clear hA2 hl2
  have hr : dbl l = l7 := by
    rw [HD.out, Q0.out, Q1.out, Q2.out, Q3.out, Q4.out, Q5.out, Q6.out, Q7.out]
  have HR := Lib.hid hr
  clear hr HD Q0 Q1 Q2 Q3 Q4 Q5 Q6 Q7
  have HL := Lib.hid hl
  clear hl
  go_wp2_with (first
    | (refine wpList_load_row rfl 50 (.tmp 1) rfl w.heap.size rfl 50 (ws l7) (0, 0) _ hA Try.underlying50 rfl (info16 l7 HL.out) ?_)
    | (refine wpList_store_row rfl 50 (.tmp 2) (.tmp 21) rfl (w.heap.size + 1) (ws l7) rfl rfl 50 z16 hB (info16 l7 HL.out) (z16_size l7 HL.out) (ws_one l7) ?_))
  refine bodyPost_ret (v := .agg (ws l7)) (results_cell_row rfl _ _ (w.heap.size + 1) 50 (ws l7) (0, 0) _ rfl (hB.setRow _) Try.underlying50 rfl (info16 l7 HL.out)) rfl ⟨by rw [HR.out], below_setRow hb (by omega) _⟩
/-- four zero bytes -/
def z4 : Array Value := bs (List.replicate 4 0)
theorem info4 (l : List UInt8) (h : l.length = 4) : (Try.prog.info? 71).map (·.size) = some (bs l).size := by
  rw [bs_size, h]; exact (by kernel_rfl : (Try.prog.info? 71).map (·.size) = some 4)
theorem leB_cells (x : UInt32) : #[Value.int .u8 ((x.toNat : Int) % 256), .int .u8 ((x.toNat : Int) / 256 % 256), .int .u8 ((x.toNat : Int) / 65536 % 256), .int .u8 ((x.toNat : Int) / 16777216 % 256)] = bs (leB x) := by
  have e : ∀ n : Nat, ((UInt8.ofNat n).toNat : Int) = (n : Int) % 256 := fun n => by rw [UInt8.toNat_ofNat']; simp
  unfold bs leB B8
  simp only [List.map_cons, List.map_nil, e]
  rfl
set_option maxHeartbeats 400000 in
theorem bytesOf_any (x : UInt32) (w : World) :
    Calls Try.prog 47 #[W32 x] w fun e w' => e = .returned (.agg (bs (leB x))) ∧ Below w.heap.size w w' := by
  have hc := Lib.hid (leB_cells x)
  go_enter Try.func47, Try.ntmps47
  go_wp2
  rw [hc.out]
  refine bodyPost_ret (v := .agg (bs (leB x))) (results_cell_row rfl _ _ w.heap.size 71 (bs (leB x)) (0, 0) _ rfl (Has.fresh w 71 _) Try.underlying71 rfl (info4 _ (leB_length x))) rfl ⟨rfl, (Below.refl _ _).alloc (Nat.le_refl _) _⟩
end Go.Proofs.Ytfhjokbbaoldiaa
