/- tun's whole: walked. -/
import Derived.Test.YthpbhimmfmablaaTUQ
import Derived.Test.YthpbhimmfmablaaTUL
import Derived.Test.YthpbhimmfmablaaSV
import Derived.Test.YthpbhimmfmablaaLS
namespace Go.Proofs.Ythpbhimmfmablaa
open Go.RowKit
/-- bodies, one behind the other -/
def joinB (bs : List ByteArray) : List UInt8 := (bs.map fun b => b.data.toList).flatten
theorem joinB_take (bs : List ByteArray) (k : Nat) (h : k < bs.length) : joinB (bs.take (k + 1)) = joinB (bs.take k) ++ (bs.getD k ⟨#[]⟩).data.toList := by
  unfold joinB
  rw [List.take_succ_eq_append_getElem h, List.map_append, List.flatten_append, List.getD_eq_getElem?_getD, List.getElem?_eq_getElem h]
  simp
theorem joinB_size (bs : List ByteArray) (m : Nat) (h : ∀ b, b ∈ bs → b.size ≤ m) : (joinB bs).length ≤ bs.length * m := by
  unfold joinB
  induction bs with
  | nil => simp
  | cons b bs ih =>
    have h1 := h b (by simp)
    have h2 := ih (fun b' hb => h b' (by simp [hb]))
    have hl : b.data.toList.length = b.size := len_list b
    rw [List.map_cons, List.flatten_cons, List.length_append, List.length_cons, Nat.succ_mul, hl]
    omega
theorem joinB_ne (bs : List ByteArray) (h0 : bs ≠ []) (h : ∀ b, b ∈ bs → 1 ≤ b.size) : joinB bs ≠ [] := by
  cases bs with
  | nil => exact absurd rfl h0
  | cons b bs =>
    intro e
    unfold joinB at e
    rw [List.map_cons, List.flatten_cons] at e
    have h1 := h b (by simp)
    have hl : b.data.toList.length = b.size := len_list b
    have := congrArg List.length e
    rw [List.length_append, List.length_nil] at this
    omega
theorem exec_body {o : Oper} {ev : Operand → Value} {w : World} (x : Operand) (n k c : Nat) (body : ByteArray) (ho : o.op = .field 66 x 3) (hx : ev x = .agg #[V64 n, .int .i64 (k : Int), .int .i64 (c : Int), .string body]) :
    (execOp ev o).run Try.prog w = .ok (.value (.string body)) w := by
  unfold execOp
  simp only [ho, hx]
  kernel_rfl
set_option maxRecDepth 20000 in
set_option maxHeartbeats 1000000 in
theorem whole_any (n c pb q : Nat) (bs : List ByteArray) (f : Nat → Option Value) (W : World) (hM : MapH .i64 3 W pb f q) (hc1 : 1 ≤ c) (hc3 : c ≤ 3) (hbs : bs.length = c) (hf : ∀ p, p < c → f p = some (.agg (pv n c p (bs.getD p ⟨#[]⟩))))
    (h1 : ∀ b, b ∈ bs → 1 ≤ b.size) (h512 : ∀ b, b ∈ bs → b.size ≤ 512) :
    Calls Try.prog 36 #[.agg (tv c pb)] W fun e W' => e = .returned (.string ⟨(joinB bs).toArray⟩) ∧ Below W.heap.size W W' := by
  have hall : bs.take c = bs := by rw [← hbs, List.take_length]
  have hne := joinB_ne bs (by intro e; rw [e] at hbs; simp at hbs; omega) h1
  have hst := fun k (h : k < c) => joinB_take bs k (by omega)
  have hjl : ∀ k, k ≤ c → (joinB (bs.take k)).length ≤ 1536 := fun k hk => by
    have := joinB_size (bs.take k) 512 (fun b hb => h512 b (List.mem_of_mem_take hb))
    rw [List.length_take] at this
    have h2 : min k bs.length ≤ 3 := by omega
    have h3 : min k bs.length * 512 ≤ 3 * 512 := Nat.mul_le_mul_right _ h2
    omega
  have hb5 : ∀ k, k < c → (bs.getD k ⟨#[]⟩).size ≤ 512 := fun k hk => by
    rw [List.getD_eq_getElem?_getD, List.getElem?_eq_getElem (by omega)]
    exact h512 _ (List.getElem_mem (by omega))
  have B0 : Below W.heap.size W (W.alloc (.cells (tv c pb) 80)) := (Below.refl _ _).alloc (Nat.le_refl _) _
  have T0 : Has (W.alloc (.cells (tv c pb) 80)) W.heap.size 80 (tv c pb) := Has.fresh W _ _
  have M0 := hM.kp (F := []) (Kp.of_below [] B0) (by simp)
  have pbl := hM.lt
  have hs0 : (W.alloc (.cells (tv c pb) 80)).heap.size = W.heap.size + 1 := by simp
  have HST := Lib.hid hst
  have HJL := Lib.hid hjl
  have HB5 := Lib.hid hb5
  have HF := Lib.hid hf
  have HALL := Lib.hid hall
  have HNE := Lib.hid hne
  clear hst hjl hb5 hf hall hne h1 h512 hM
  go_enter Try.func36, Try.ntmps36
  go_upto_region 1 with fail
  change Code.wp _ _ _ _ (W.alloc (.cells (tv c pb) 80))
  generalize W.alloc (.cells (tv c pb) 80) = W0 at *
  have I0 := Lib.fresh_isBuilder 91 5 W0
  have BB := (Below.refl W0.heap.size W0).alloc (Nat.le_refl _) (.cells #[.pointer none, .slice none 0 0] 91)
  rw [hs0] at I0 BB
  have HI := Lib.hid (And.intro I0 (And.intro BB (And.intro T0 (And.intro M0 B0))))
  clear I0 BB T0 M0 B0
  go_upto_region 2 with fail
  obtain ⟨I0, BB, T0, M0, B0⟩ := HI.out
  clear HI
  change Code.wp _ _ _ _ (W0.alloc (.cells #[.pointer none, .slice none 0 0] 91))
  have c0 : (W0.alloc (.cells #[.pointer none, .slice none 0 0] 91)).cell? ⟨W.heap.size, 0, none⟩ = some (.int .i64 (c : Int)) := by rw [(T0.alloc _).cell]; rfl
  generalize W0.alloc (.cells #[.pointer none, .slice none 0 0] 91) = W1 at *
  have HS0 := Lib.hid hs0
  clear hs0
  have HI := Lib.hid (And.intro I0 (And.intro BB (And.intro T0 (And.intro M0 B0))))
  clear I0 BB T0 M0 B0
  go_wp2
  clear c0
  go_loopw [7] (fun i wr => ∃ k : Nat, k ≤ c ∧ i = .int .i64 (k : Int) ∧ Lib.IsBuilder 91 5 (W.heap.size + 1) (W.heap.size + 1) (Lib.byteCells (joinB (bs.take k))) wr ∧ Below (W.heap.size + 1) W0 wr) (fun i _ => c - (intOf i).toNat)
  case atStart => exact ⟨0, by omega, rfl, HI.out.1, HI.out.2.1⟩
  case round =>
    obtain ⟨k, hk, rfl, hIB, hB⟩ := hrel
    obtain ⟨_, _, T0, M0, B0⟩ := HI.out
    have Tk := Has.below T0 hB (by omega)
    have Mk := M0.kept (hB.block pb (by omega))
    by_cases hlt : k < c
    · have t1 : decide ((k : Int) < (c : Int)) = true := by simp; omega
      have c1 : wr.cell? ⟨W.heap.size, 1, none⟩ = some (.map (some pb)) := by rw [Tk.cell]; rfl
      have hfk := HF.out k hlt
      have hw := writeString_any (W.heap.size + 1) (W.heap.size + 1) (Lib.byteCells (joinB (bs.take k))) (bs.getD k ⟨#[]⟩) wr hIB (by have := HJL.out k hk; have := HB5.out k hlt; rw [Lib.byteCells_length]; omega) (by have := hB.size; have := HS0.out; omega)
      have hcat : Lib.byteCells (joinB (bs.take k)) ++ Lib.strCells (bs.getD k ⟨#[]⟩) = Lib.byteCells (joinB (bs.take (k + 1))) := by
        rw [HST.out k hlt]
        unfold Lib.byteCells Lib.strCells
        rw [List.map_append]
      rw [hcat] at hw
      generalize bs.getD k ⟨#[]⟩ = body at *
      have HW := Lib.hid hw
      have HBB := Lib.hid hB
      have HMK := Lib.hid Mk
      clear hw hcat hIB hB Tk Mk T0 M0 B0
      go_wp2_with (first
        | (refine wpExec rfl (.agg #[V64 n, .int .i64 (k : Int), .int .i64 (c : Int), .string body]) (exec_look Try.underlying3 HMK.out map_pieces (zero_piece _) k (wf_p (by omega)) (.tmp 11) (.tmp 12) rfl rfl rfl _ (by rw [hfk]; rfl)) ?_)
        | (refine wpExec rfl (.string body) (exec_body (.tmp 13) n k c body rfl rfl) ?_)
        | (go_at_call 42; refine HW.out.mono ?_; rintro e w1 ⟨rfl, hb1, hb2⟩))
      go_roundw
      case rel => exact ⟨k + 1, by omega, by go_num, Or.inr hb1, HBB.out.trans hb2⟩
      case measure => simp [intOf]; omega
    · have hkc : k = c := by omega
      subst hkc
      have t1 : decide ((k : Int) < (k : Int)) = false := by simp
      rw [HALL.out] at hIB
      have hS := bsS_Builder_String (W.heap.size + 1) (W.heap.size + 1) (joinB bs) wr hIB HNE.out
      have HS := Lib.hid hS
      have HBB := Lib.hid (B0.trans (hB.mono (by omega)))
      clear hS hIB hB Tk Mk T0 M0 B0 hlt
      go_wp2_with (go_at_call 43; refine HS.out.mono ?_; rintro e w1 ⟨rfl, hb1⟩)
      go_ret
      exact ⟨rfl, HBB.out.trans (hb1.mono (by omega))⟩
end Go.Proofs.Ythpbhimmfmablaa
