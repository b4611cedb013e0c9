/- The document's Print: walked. -/
import Derived.Test.YtaoclfddamlcaaaWI
namespace Go.Proofs.Ytaoclfddamlcaaa
open Go.RowKit
set_option maxRecDepth 20000 in
set_option maxHeartbeats 1000000 in
theorem refPrint9_any (x : A9) (hx : x.Fit) (hr : rightO x.op = true) (w : World) : Calls Try.prog 16 #[.agg x.c] w fun e w' => e = .returned (.string ⟨x.bytes.toArray⟩) ∧ Below w.heap.size w w' := by
  have M : Mem w [(w.heap.size, 26, x.c)] (w.alloc (.cells x.c 26)) := (Mem.init w).alloc _ rfl _ _
  have hk : ∃ b : UInt8, x.op = (b.toNat : Int) ∧ headL ++ beTail x.op.toNat 2 = [0, 1, 8, 0, 6, 4, 0, b] := by
    rcases rightO_spec hr with e | e
    · exact ⟨1, e, by rw [e]; decide +kernel⟩
    · exact ⟨2, e, by rw [e]; decide +kernel⟩
  obtain ⟨b, hK, hA⟩ := hk
  have hbl := b.toNat_lt
  have hwr : IntKind.u8.wrap (b.toNat : Int) = (b.toNat : Int) := by
    show (b.toNat : Int) % 256 = b.toNat
    omega
  have hb : x.bytes = (((([0, 1, 8, 0, 6, 4, 0, b] ++ x.m) ++ x.i) ++ x.t) ++ x.w) := by
    rw [← hA]
    unfold A9.bytes
    simp only [List.append_assoc]
  rw [hb]
  have hlm := hx.m
  have hlt := hx.t
  have hli := hx.i
  have hlw := hx.w
  have hs1 : ([0, 1, 8, 0, 6, 4, 0, b] : List UInt8).length = 8 := rfl
  obtain ⟨A1, hA1⟩ : ∃ A1, ([0, 1, 8, 0, 6, 4, 0, b] : List UInt8) = A1 := ⟨_, rfl⟩
  rw [hA1] at hs1 ⊢
  have hc2 : (⟨A1.toArray⟩ : ByteArray) ++ ⟨x.m.toArray⟩ = ⟨(A1 ++ x.m).toArray⟩ := cat_str _ _
  have hs2 : (A1 ++ x.m).length = 14 := by rw [List.length_append, hs1, hlm]
  obtain ⟨A2, hA2⟩ : ∃ A2, A1 ++ x.m = A2 := ⟨_, rfl⟩
  rw [hA2] at hc2 hs2 ⊢
  have hc3 : (⟨A2.toArray⟩ : ByteArray) ++ ⟨x.i.toArray⟩ = ⟨(A2 ++ x.i).toArray⟩ := cat_str _ _
  have hs3 : (A2 ++ x.i).length = 18 := by rw [List.length_append, hs2, hli]
  obtain ⟨A3, hA3⟩ : ∃ A3, A2 ++ x.i = A3 := ⟨_, rfl⟩
  rw [hA3] at hc3 hs3 ⊢
  have hc4 : (⟨A3.toArray⟩ : ByteArray) ++ ⟨x.t.toArray⟩ = ⟨(A3 ++ x.t).toArray⟩ := cat_str _ _
  have hs4 : (A3 ++ x.t).length = 24 := by rw [List.length_append, hs3, hlt]
  obtain ⟨A4, hA4⟩ : ∃ A4, A3 ++ x.t = A4 := ⟨_, rfl⟩
  rw [hA4] at hc4 hs4 ⊢
  have hc5 : (⟨A4.toArray⟩ : ByteArray) ++ ⟨x.w.toArray⟩ = ⟨(A4 ++ x.w).toArray⟩ := cat_str _ _
  obtain ⟨R, hR0⟩ : ∃ R, A4 ++ x.w = R := ⟨_, rfl⟩
  rw [hR0] at hc5 ⊢
  have HCAT := Lib.hid (And.intro hc2 (And.intro hc3 (And.intro hc4 hc5)))
  have HLEN := Lib.hid (And.intro hs1 (And.intro hs2 (And.intro hs3 hs4)))
  have HL := Lib.hid (And.intro hlm (And.intro hlt (And.intro hli hlw)))
  have HK := Lib.hid hK
  have HA1 := Lib.hid hA1
  clear hA hb hr hc2 hc3 hc4 hc5 hs1 hs2 hs3 hs4 hA1 hA2 hA3 hA4 hR0 hlm hlt hli hlw hK hbl
  go_enter Try.func16, Try.ntmps16
  go_upto_region 1 with fail
  change Code.wp _ _ _ _ (w.alloc (.cells x.c 26))
  generalize w.alloc (.cells x.c 26) = W0 at M ⊢
  refine wp_region_noPanic ?_
  refine wp_region_flow (fin := ?fin1) 22 0 (by kernel_rfl) [.inl (.pointer (some ⟨w.heap.size, 0, none⟩)),
    .inl (.int .i64 (b.toNat : Int)),
    .inl (B8 b),
    .inr (5, bs [0, 1, 8, 0, 6, 4, 0, b], some 8),
    .inl (.string ⟨A1.toArray⟩),
    .inl (.pointer (some ⟨w.heap.size, 1, none⟩)),
    .inl (.slice (some ⟨w.heap.size, 1, none⟩) 6 6),
    .inl (.string ⟨x.m.toArray⟩),
    .inl (.string ⟨A2.toArray⟩),
    .inl (.pointer (some ⟨w.heap.size, 13, none⟩)),
    .inl (.slice (some ⟨w.heap.size, 13, none⟩) 4 4),
    .inl (.string ⟨x.i.toArray⟩),
    .inl (.string ⟨A3.toArray⟩),
    .inl (.pointer (some ⟨w.heap.size, 7, none⟩)),
    .inl (.slice (some ⟨w.heap.size, 7, none⟩) 6 6),
    .inl (.string ⟨x.t.toArray⟩),
    .inl (.string ⟨A4.toArray⟩),
    .inl (.pointer (some ⟨w.heap.size, 17, none⟩)),
    .inl (.slice (some ⟨w.heap.size, 17, none⟩) 4 4),
    .inl (.string ⟨x.w.toArray⟩),
    .inl (.string ⟨R.toArray⟩),
    .inl (.string ⟨R.toArray⟩)] rfl rfl (by kernel_rfl) ?hfin1 ?hE1 ?hend1
  case hfin1 =>
    intro G
    simp only [flowAll, flowVal, Act.put, List.setIfInBounds_toArray, List.set_cons_zero, List.set_cons_succ]
    exact rfl
  case hE1 =>
    intro G
    refine ⟨Or.inr (fun W hB hR => known_val rfl (by go_simp)),
      Or.inr (fun W hB hR => known_val rfl (by have := ((M.drew.step hB).row 0 rfl).aop; rw [HK.out] at this; go_simp)),
      Or.inr (fun W hB hR => known_val rfl (by go_simp)),
      ⟨rfl, fun W => made_slice (by unfold execOp; go_simp; rfl)⟩,
      Or.inr (fun W hB hR => known_val rfl (by have hrow := conv_bytes (hR 3 _ _ _ rfl (by kernel_rfl)) 8 8 rfl; rw [HA1.out] at hrow; go_simp)),
      Or.inr (fun W hB hR => known_val rfl (by go_simp)),
      Or.inr (fun W hB hR => known_val rfl (by go_simp)),
      Or.inr (fun W hB hR => known_val rfl (by have := conv_range (((M.drew.step hB).row 0 rfl).am) 6 6 HL.out.1; go_simp)),
      Or.inr (fun W hB hR => known_val rfl (by exact exec_cat (.tmp 7) (.tmp 10) _ _ _ HCAT.out.1 (by rw [str_size, str_size, HLEN.out.1, HL.out.1]; omega) rfl rfl rfl)),
      Or.inr (fun W hB hR => known_val rfl (by go_simp)),
      Or.inr (fun W hB hR => known_val rfl (by go_simp)),
      Or.inr (fun W hB hR => known_val rfl (by have := conv_range (((M.drew.step hB).row 0 rfl).ai hx) 4 4 HL.out.2.2.1; go_simp)),
      Or.inr (fun W hB hR => known_val rfl (by exact exec_cat (.tmp 11) (.tmp 14) _ _ _ HCAT.out.2.1 (by rw [str_size, str_size, HLEN.out.2.1, HL.out.2.2.1]; omega) rfl rfl rfl)),
      Or.inr (fun W hB hR => known_val rfl (by go_simp)),
      Or.inr (fun W hB hR => known_val rfl (by go_simp)),
      Or.inr (fun W hB hR => known_val rfl (by have := conv_range (((M.drew.step hB).row 0 rfl).at hx) 6 6 HL.out.2.1; go_simp)),
      Or.inr (fun W hB hR => known_val rfl (by exact exec_cat (.tmp 15) (.tmp 18) _ _ _ HCAT.out.2.2.1 (by rw [str_size, str_size, HLEN.out.2.2.1, HL.out.2.1]; omega) rfl rfl rfl)),
      Or.inr (fun W hB hR => known_val rfl (by go_simp)),
      Or.inr (fun W hB hR => known_val rfl (by go_simp)),
      Or.inr (fun W hB hR => known_val rfl (by have := conv_range (((M.drew.step hB).row 0 rfl).aw hx) 4 4 HL.out.2.2.2; go_simp)),
      Or.inr (fun W hB hR => known_val rfl (by exact exec_cat (.tmp 19) (.tmp 22) _ _ _ HCAT.out.2.2.2 (by rw [str_size, str_size, HLEN.out.2.2.2, HL.out.2.2.2]; omega) rfl rfl rfl)),
      Or.inr (fun W hB hR => known_val rfl (by go_simp)), trivial⟩
  intro G W hB hM
  replace M := M.drew.step hB
  clear hB hM
  refine wpAny_end (by kernel_rfl) ?_ _
  refine NoPanic.normal ?_
  go_wp2
  go_ret
  exact ⟨rfl, M.below⟩
end Go.Proofs.Ytaoclfddamlcaaa
