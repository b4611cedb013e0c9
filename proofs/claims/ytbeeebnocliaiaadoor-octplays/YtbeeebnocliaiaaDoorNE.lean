/- The document's IpText, MacText, Sum16: walked. -/
import Derived.Test.YtbeeebnocliaiaaDoorND
import Derived.Test.YtbeeebnocliaiaaDoorOS
import Derived.Test.YtbeeebnocliaiaaDoorHM
namespace Go.Proofs.YtbeeebnocliaiaaDoor
open Go.RowKit
theorem ipL_four (a b c d : UInt8) : ipL [a, b, c, d] = (((((decL a ++ [46]) ++ decL b) ++ [46]) ++ decL c) ++ [46]) ++ decL d := by
  unfold ipL
  rw [List.map_cons, List.map_cons, List.map_cons, List.map_cons, List.map_nil, join_two, join_two, join_two, Lib.join_one]
  simp only [List.append_assoc]
set_option maxRecDepth 20000 in
set_option maxHeartbeats 2000000 in
theorem refIpText_any (a b c d : UInt8) (w : World) :
    Calls Tryd.prog 20 #[.agg (bs [a, b, c, d])] w fun e w' => e = .returned (S9 (ipL [a, b, c, d])) ∧ Below w.heap.size w w' := by
  have M : Mem w [(w.heap.size, 25, bs [a, b, c, d])] (w.alloc (.cells (bs [a, b, c, d]) 25)) := (Mem.init w).alloc _ rfl _ _
  have hd : ∀ x : UInt8, ∀ W, Calls Tryd.prog 30 #[.int .i64 (x.toNat : Int)] W fun e w' => e = .returned (S9 (decL x)) ∧ Below W.heap.size W w' := fun x W => by
    rw [decL_eq]
    exact dec_any x.toNat (by have := x.toNat_lt; omega) W
  have hw : ∀ x : UInt8, IntKind.i64.wrap (x.toNat : Int) = (x.toNat : Int) := fun x => IntWalk.i64_in _ (by have := x.toNat_lt; omega)
  have hwa := hw a
  have hwb := hw b
  have hwc := hw c
  have hwd := hw d
  have hl := ipL_four a b c d
  have la := decL_length a
  have lb := decL_length b
  have lc := decL_length c
  have ld := decL_length d
  have pa := hd a
  have pb := hd b
  have pc := hd c
  have pd := hd d
  generalize decL a = A at hl la pa
  generalize decL b = B at hl lb pb
  generalize decL c = C at hl lc pc
  generalize decL d = D at hl ld pd
  rw [hl]
  have PA := Lib.hid pa
  have PB := Lib.hid pb
  have PC := Lib.hid pc
  have PD := Lib.hid pd
  clear hd hw hl pa pb pc pd
  go_enter Tryd.func20, Tryd.ntmps20
  go_upto_region 1 with fail
  change Code.wp _ _ _ _ (w.alloc (.cells (bs [a, b, c, d]) 25))
  generalize w.alloc (.cells (bs [a, b, c, d]) 25) = w0 at M ⊢
  refine wp_region_noPanic ?_
  refine wp_region_flow (fin := ?fin1) 23 0 (by kernel_rfl) [.inl (.pointer (some ⟨w.heap.size, 0, none⟩)),
    .inl (B8 a),
    .inl (.int .i64 (a.toNat : Int)),
    .inl (S9 A),
    .inl (S9 (A ++ [46])),
    .inl (.pointer (some ⟨w.heap.size, 1, none⟩)),
    .inl (B8 b),
    .inl (.int .i64 (b.toNat : Int)),
    .inl (S9 B),
    .inl (S9 ((A ++ [46]) ++ B)),
    .inl (S9 (((A ++ [46]) ++ B) ++ [46])),
    .inl (.pointer (some ⟨w.heap.size, 2, none⟩)),
    .inl (B8 c),
    .inl (.int .i64 (c.toNat : Int)),
    .inl (S9 C),
    .inl (S9 ((((A ++ [46]) ++ B) ++ [46]) ++ C)),
    .inl (S9 (((((A ++ [46]) ++ B) ++ [46]) ++ C) ++ [46])),
    .inl (.pointer (some ⟨w.heap.size, 3, none⟩)),
    .inl (B8 d),
    .inl (.int .i64 (d.toNat : Int)),
    .inl (S9 D),
    .inl (S9 ((((((A ++ [46]) ++ B) ++ [46]) ++ C) ++ [46]) ++ D)),
    .inl (S9 ((((((A ++ [46]) ++ B) ++ [46]) ++ C) ++ [46]) ++ D))] rfl rfl (by kernel_rfl) ?hfin1 ?hE1 ?hend1
  case hfin1 =>
    intro G
    simp only [flowAll, flowVal, Act.put, List.setIfInBounds_toArray, List.set_cons_zero, List.set_cons_succ]
    exact rfl
  case hE1 =>
    intro G
    refine ⟨Or.inr (fun W hB => known_val rfl (by go_simp)),
      Or.inr (fun W hB => known_val rfl (by (have hc := ((M.drew.step hB).row 0 rfl).byte 0 (by show 0 < 4; omega); go_simp))),
      Or.inr (fun W hB => known_val rfl (by go_simp)),
      Or.inr (fun W hB => known_call 30 #[.int .i64 (a.toNat : Int)] (PA.out W) rfl (by go_simp)),
      Or.inr (fun W hB => known_val rfl (by exact exec_cat (.tmp 6) (.const (.string ⟨#[46]⟩)) ⟨A.toArray⟩ ⟨#[46]⟩ _ (cat_str A [46]) (by show ¬ (_ < A.length + 1); omega) rfl rfl rfl)),
      Or.inr (fun W hB => known_val rfl (by go_simp)),
      Or.inr (fun W hB => known_val rfl (by (have hc := ((M.drew.step hB).row 0 rfl).byte 1 (by show 1 < 4; omega); go_simp))),
      Or.inr (fun W hB => known_val rfl (by go_simp)),
      Or.inr (fun W hB => known_call 30 #[.int .i64 (b.toNat : Int)] (PB.out W) rfl (by go_simp)),
      Or.inr (fun W hB => known_val rfl (by exact exec_cat (.tmp 7) (.tmp 11) ⟨(A ++ [46]).toArray⟩ ⟨B.toArray⟩ _ (cat_str _ B) (by show ¬ (_ < (A ++ [46]).length + B.length); simp only [List.length_append, List.length_singleton]; omega) rfl rfl rfl)),
      Or.inr (fun W hB => known_val rfl (by exact exec_cat (.tmp 12) (.const (.string ⟨#[46]⟩)) ⟨((A ++ [46]) ++ B).toArray⟩ ⟨#[46]⟩ _ (cat_str _ [46]) (by show ¬ (_ < ((A ++ [46]) ++ B).length + 1); simp only [List.length_append, List.length_singleton]; omega) rfl rfl rfl)),
      Or.inr (fun W hB => known_val rfl (by go_simp)),
      Or.inr (fun W hB => known_val rfl (by (have hc := ((M.drew.step hB).row 0 rfl).byte 2 (by show 2 < 4; omega); go_simp))),
      Or.inr (fun W hB => known_val rfl (by go_simp)),
      Or.inr (fun W hB => known_call 30 #[.int .i64 (c.toNat : Int)] (PC.out W) rfl (by go_simp)),
      Or.inr (fun W hB => known_val rfl (by exact exec_cat (.tmp 13) (.tmp 17) ⟨(((A ++ [46]) ++ B) ++ [46]).toArray⟩ ⟨C.toArray⟩ _ (cat_str _ C) (by show ¬ (_ < (((A ++ [46]) ++ B) ++ [46]).length + C.length); simp only [List.length_append, List.length_singleton]; omega) rfl rfl rfl)),
      Or.inr (fun W hB => known_val rfl (by exact exec_cat (.tmp 18) (.const (.string ⟨#[46]⟩)) ⟨((((A ++ [46]) ++ B) ++ [46]) ++ C).toArray⟩ ⟨#[46]⟩ _ (cat_str _ [46]) (by show ¬ (_ < ((((A ++ [46]) ++ B) ++ [46]) ++ C).length + 1); simp only [List.length_append, List.length_singleton]; omega) rfl rfl rfl)),
      Or.inr (fun W hB => known_val rfl (by go_simp)),
      Or.inr (fun W hB => known_val rfl (by (have hc := ((M.drew.step hB).row 0 rfl).byte 3 (by show 3 < 4; omega); go_simp))),
      Or.inr (fun W hB => known_val rfl (by go_simp)),
      Or.inr (fun W hB => known_call 30 #[.int .i64 (d.toNat : Int)] (PD.out W) rfl (by go_simp)),
      Or.inr (fun W hB => known_val rfl (by exact exec_cat (.tmp 19) (.tmp 23) ⟨(((((A ++ [46]) ++ B) ++ [46]) ++ C) ++ [46]).toArray⟩ ⟨D.toArray⟩ _ (cat_str _ D) (by show ¬ (_ < (((((A ++ [46]) ++ B) ++ [46]) ++ C) ++ [46]).length + D.length); simp only [List.length_append, List.length_singleton]; omega) rfl rfl rfl)),
      Or.inr (fun W hB => known_val rfl (by go_simp)), trivial⟩
  intro G W hB hM
  replace M := M.drew.step hB
  clear hM hB G
  refine wpAny_end (by kernel_rfl) ?_ _
  refine NoPanic.normal ?_
  go_wp2
  go_ret
  exact ⟨rfl, M.below⟩
end Go.Proofs.YtbeeebnocliaiaaDoor
