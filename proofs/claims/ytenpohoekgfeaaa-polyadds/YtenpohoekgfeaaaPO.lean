/- The walk of law PolyAdds. -/
import Derived.Test.YtenpohoekgfeaaaPN
import Derived.OpenShut
namespace Go.Proofs.Ytenpohoekgfeaaa
open Go.RowKit
theorem carry_step (N S B : Nat) (hB : 0 < B) : ((N % B + S % B) / B + N / B % 256 + S / B % 256) % 256 = (N + S) / B % 256 ∧
    ((N % B + S % B) / B + N / B % 256 + S / B % 256) / 256 = (N % (B * 256) + S % (B * 256)) / (B * 256) := by
  have e1 : (N + S) / B = (N % B + S % B) / B + (N / B + S / B) := by
    rw [← Nat.add_mul_div_left _ _ hB, Nat.mul_add]
    congr 1
    have h1 := Nat.div_add_mod N B
    have h2 := Nat.div_add_mod S B
    omega
  have e2 : (N % (B * 256) + S % (B * 256)) / (B * 256) = ((N % B + S % B) / B + (N / B % 256 + S / B % 256)) / 256 := by
    rw [← Nat.add_mul_div_left _ _ hB, Nat.mul_add, Nat.div_div_eq_div_mul, Nat.mod_mul, Nat.mod_mul]
    congr 1
    omega
  rw [e1, e2]
  exact ⟨by omega, by omega⟩
/-- the last 16 - j bytes made 0 -/
def yTo (k : List UInt8) (j : Nat) : List UInt8 := k.take 16 ++ (List.replicate j 0 ++ k.drop (16 + j))
theorem yTo_length (k : List UInt8) (hk : k.length = 32) (j : Nat) (h : j ≤ 16) : (yTo k j).length = 32 := by
  unfold yTo; rw [List.length_append, List.length_append, List.length_replicate, List.length_drop, List.length_take, hk]; omega
theorem yTo_set (k : List UInt8) (hk : k.length = 32) (j : Nat) (h : j < 16) : (yTo k j).set (16 + j) 0 = yTo k (j + 1) := by
  unfold yTo
  rw [List.set_append_right _ _ (by rw [List.length_take]; omega), List.length_take, hk, show 16 + j - min 16 32 = j from by omega,
    List.set_append_right _ _ (by simp), List.length_replicate, Nat.sub_self, List.drop_eq_getElem_cons (by omega), List.set_cons_zero, List.replicate_succ']
  simp [Nat.add_assoc]
theorem yTo_zero (k : List UInt8) : yTo k 0 = k := by unfold yTo; simp
theorem yTo_done (k : List UInt8) (hk : k.length = 32) : yTo k 16 = k.take 16 ++ List.replicate 16 0 := by
  unfold yTo; rw [List.drop_of_length_le (by omega), List.append_nil]
/-- the sum without the second half -/
theorem half_sum (k l : List UInt8) (hk : k.length = 32) : polyL (yTo k 16) l = leB (acc (nb ((clampL k).take 16)) l ((l.length + 15) / 16)) 16 := by
  have hy := yTo_length k hk 16 (by omega)
  have h1 : (clampL (yTo k 16)).take 16 = (clampL k).take 16 := by
    refine ext_getD _ _ (by rw [List.length_take, List.length_take, clampL_length, clampL_length, hy, hk]) (fun i hi => ?_)
    rw [List.length_take, clampL_length, hy] at hi
    have e : (yTo k 16).getD i 0 = k.getD i 0 := by
      unfold yTo
      rw [List.getD_eq_getElem?_getD, List.getElem?_append_left (by rw [List.length_take]; omega), List.getElem?_take_of_lt (by omega), ← List.getD_eq_getElem?_getD]
    rw [List.getD_eq_getElem?_getD, List.getElem?_take_of_lt (by omega), ← List.getD_eq_getElem?_getD, clampL_getD _ (by omega), e, List.getD_eq_getElem?_getD (l := (clampL k).take 16), List.getElem?_take_of_lt (by omega), ← List.getD_eq_getElem?_getD, clampL_getD _ (by omega)]
  have h2 : (clampL (yTo k 16)).drop 16 = List.replicate 16 0 := by
    rw [clamp_drop _ hy, yTo_done k hk, List.drop_append_of_le_length (by rw [List.length_take]; omega), List.drop_of_length_le (by rw [List.length_take]; omega), List.nil_append]
  unfold polyL polyN
  rw [h1, h2, show nb (List.replicate 16 0) = 0 from by decide, Nat.add_zero]
set_option maxHeartbeats 400000 in
theorem adds_over (k : List UInt8) (s : ByteArray) (hs : 400 < s.size) (w : World) :
    Calls Try.prog 7 #[.agg (bs k), .string s] w fun e w' => e = .returned (.bool true) ∧ Below w.heap.size w w' := by
  have hb : Below w.heap.size w (w.alloc (.cells (bs k) 23)) := (Below.refl _ _).alloc (Nat.le_refl _) _
  have t1 : decide (400 < (s.size : Int)) = true := by simp; omega
  go_enter Try.func7, Try.ntmps7
  go_upto_region 1 with fail
  generalize w.alloc (.cells (bs k) 23) = w0 at hb ⊢
  go_wp2_with fail
  go_at_call 9
  refine (awake4_any _).mono ?_
  rintro e w1 ⟨rfl, hb1⟩
  replace hb := hb.trans (hb1.mono hb.size)
  clear hb1 w0
  go_wp2_with fail
  go_at_call 9
  refine (awake4_any _).mono ?_
  rintro e w2 ⟨rfl, hb1⟩
  replace hb := hb.trans (hb1.mono hb.size)
  clear hb1 w1
  go_wp2
  go_ret
  exact ⟨rfl, hb⟩
theorem exec_alloc16 {o : Oper} {ev : Operand → Value} {w : World} (ho : o.op = .alloc 25) : (execOp ev o).run Try.prog w = .ok (.value (.pointer (some ⟨w.heap.size, 0, none⟩))) (w.alloc (.cells zb16 25)) := by
  unfold execOp
  simp only [ho]
  go_simp
  rfl
/-- what memory holds in the midst of the law -/
def DEnv (w : World) (g5 : Nat) (k z : List UInt8) (W : World) : Prop := Has W w.heap.size 23 (bs k) ∧ Has W g5 23 (bs z) ∧ w.heap.size < g5 ∧ Below w.heap.size w W
section
variable {w : World} {g5 : Nat} {k z : List UInt8} {W W' : World}
theorem DEnv.s (h : DEnv w g5 k z W) : Has W w.heap.size 23 (bs k) ∧ Has W g5 23 (bs z) := ⟨h.1, h.2.1⟩
theorem DEnv.drew (h : DEnv w g5 k z W) : DEnv w g5 k z W.drew := ⟨h.1, h.2.1, h.2.2.1, h.2.2.2.drew⟩
theorem DEnv.step (h : DEnv w g5 k z W) (hb : Below W.heap.size W W') : DEnv w g5 k z W' :=
  ⟨h.1.below hb h.1.lt, h.2.1.below hb h.2.1.lt, h.2.2.1, h.2.2.2.trans (hb.mono h.2.2.2.size)⟩
theorem DEnv.other (h : DEnv w g5 k z W) {g : Nat} (hg : g5 < g) (cs : Array Value) : DEnv w g5 k z (W.setRow g cs) :=
  ⟨h.1.setRow_other (by have := h.2.2.1; omega) _, h.2.1.setRow_other (by omega) _, h.2.2.1, below_setRow h.2.2.2 (by have := h.2.2.1; omega) _⟩
theorem DEnv.put (h : DEnv w g5 k z W) (i : Nat) (x : UInt8) : DEnv w g5 k (z.set i x) (W.setCell ⟨g5, i, none⟩ (B8 x)) :=
  ⟨h.1.other (by have := h.2.2.1; show w.heap.size ≠ g5; omega) _, h.2.1.setB i x, h.2.2.1, h.2.2.2.setCell (by have := h.2.2.1; show w.heap.size ≤ g5; omega) _⟩
end
set_option maxHeartbeats 4000000 in
theorem adds_short (k : List UInt8) (hk : k.length = 32) (s : ByteArray) (hs : s.size ≤ 400) (w : World) :
    Calls Try.prog 7 #[.agg (bs k), .string s] w fun e w' => e = .returned (.bool true) ∧ Below w.heap.size w w' := by
  have S2 := sum_any k hk s (by omega)
  have S1 := sum_any (yTo k 16) (yTo_length k hk 16 (by omega)) s (by omega)
  rw [half_sum k _ hk] at S1
  have hB : polyL k s.data.toList = leB (acc (nb ((clampL k).take 16)) s.data.toList ((s.data.toList.length + 15) / 16) + nb (k.drop 16)) 16 := by
    unfold polyL polyN
    rw [clamp_drop k hk]
  rw [hB] at S2
  generalize acc (nb ((clampL k).take 16)) s.data.toList ((s.data.toList.length + 15) / 16) = N at S1 S2
  have hlA := leB_length N 16
  have hlB := leB_length (N + nb (k.drop 16)) 16
  have hgA : ∀ j, j < 16 → ((leB N 16).getD j 0).toNat = N / 256 ^ j % 256 := fun j hj => by
    rw [leB_getD N 16 j hj, UInt8.toNat_ofNat', Nat.mod_eq_of_lt (Nat.mod_lt _ (by omega))]
  have hgB : ∀ j, j < 16 → ((leB (N + nb (k.drop 16)) 16).getD j 0).toNat = (N + nb (k.drop 16)) / 256 ^ j % 256 := fun j hj => by
    rw [leB_getD _ 16 j hj, UInt8.toNat_ofNat', Nat.mod_eq_of_lt (Nat.mod_lt _ (by omega))]
  have hgK : ∀ j, j < 16 → (k.getD (16 + j) 0).toNat = nb (k.drop 16) / 256 ^ j % 256 := fun j hj => by
    have h := leB_nb (k.drop 16)
    have h2 := leB_getD (nb (k.drop 16)) (k.drop 16).length j (by rw [List.length_drop, hk]; omega)
    rw [h] at h2
    rw [show k.getD (16 + j) 0 = (k.drop 16).getD j 0 from by rw [List.getD_eq_getElem?_getD (l := k.drop 16), List.getElem?_drop, ← List.getD_eq_getElem?_getD], h2, UInt8.toNat_ofNat', Nat.mod_eq_of_lt (Nat.mod_lt _ (by omega))]
  generalize nb (k.drop 16) = T at S2 hlB hgB hgK
  generalize leB (N + T) 16 = B at S2 hlB hgB
  generalize leB N 16 = A at S1 hlA hgA
  have HS1 := Lib.hid S1
  have HS2 := Lib.hid S2
  have HLA := Lib.hid hlA
  have HLB := Lib.hid hlB
  have HGA := Lib.hid hgA
  have HGB := Lib.hid hgB
  have HGK := Lib.hid hgK
  have HK := Lib.hid hk
  clear S1 S2 hlA hlB hgA hgB hgK hk hB
  have i1 : Has (w.alloc (.cells (bs k) 23)) w.heap.size 23 (bs k) := Has.fresh w 23 _
  have hb : Below w.heap.size w (w.alloc (.cells (bs k) 23)) := (Below.refl _ _).alloc (Nat.le_refl _) _
  have t1 : decide (400 < (s.size : Int)) = false := by simp; omega
  go_enter Try.func7, Try.ntmps7
  go_upto_region 1 with fail
  generalize w.alloc (.cells (bs k) 23) = w0 at i1 hb ⊢
  go_wp2_with fail
  go_at_call 9
  refine (awake4_any _).mono ?_
  rintro e w1 ⟨rfl, hb1⟩
  replace i1 := i1.below hb1 i1.lt
  replace hb := hb.trans (hb1.mono hb.size)
  clear hb1 w0
  have hg5 : w.heap.size < w1.heap.size := i1.lt
  have i5 : Has (w1.alloc (.cells zk32 23)) w1.heap.size 23 zk32 := Has.fresh w1 23 _
  go_upto_region 4 with (first
    | (refine wpList_load_row rfl 23 (.tmp 2) rfl w.heap.size rfl 23 (bs k) (0, 0) _ i1 Try.underlying23 rfl (infoKey k HK.out) ?_)
    | (refine wpList_store_row rfl 23 (.tmp 5) (.tmp 19) rfl w1.heap.size (bs k) rfl rfl 23 zk32 i5 (infoKey k HK.out) (zk32_size k HK.out) (bs_one k) ?_))
  change Code.wp _ _ _ _ ((w1.alloc (.cells zk32 23)).setRow w1.heap.size (bs k))
  replace i5 := i5.setRow (bs k)
  replace i1 := (i1.alloc (.cells zk32 23)).setRow_other (g' := w1.heap.size) (by omega) (bs k)
  replace hb := below_setRow (hb.alloc hb.size (.cells zk32 23)) (g := w1.heap.size) (by omega) (bs k)
  have E : DEnv w w1.heap.size k (yTo k 0) ((w1.alloc (.cells zk32 23)).setRow w1.heap.size (bs k)) := ⟨i1, by rw [yTo_zero]; exact i5, hg5, hb⟩
  generalize (w1.alloc (.cells zk32 23)).setRow w1.heap.size (bs k) = w2 at E ⊢
  generalize w1.heap.size = g5 at hg5 E ⊢
  clear i1 i5 hb w1
  go_wp2
  go_loopw [6] (fun i wr => ∃ (j : Nat), j ≤ 16 ∧ i = .int .i64 ((16 + j : Nat) : Int) ∧ DEnv w g5 k (yTo k j) wr) (fun i _ => 32 - (intOf i).toNat)
  case atStart => exact ⟨0, by omega, rfl, E⟩
  case round =>
    clear E w2
    obtain ⟨j, hj, rfl, E⟩ := hrel
    by_cases hlt : j < 16
    · have t2 : decide (((16 + j : Nat) : Int) < 32) = true := by simp; omega
      have h32 : ¬ ((32 : Int) ≤ ((16 + j : Nat) : Int)) := by omega
      have hw1 : IntKind.i64.wrap (((16 + j : Nat) : Int) + 1) = ((16 + (j + 1) : Nat) : Int) := by rw [IntWalk.i64_in _ (by omega)]; omega
      have c5 := E.2.1.byte (16 + j) (by rw [yTo_length k HK.out j hj]; omega)
      have f5 := E.2.1.frozen (16 + j)
      have E2 := E.put (16 + j) 0
      rw [yTo_set k HK.out j hlt] at E2
      have HE2 := Lib.hid E2
      clear E E2
      generalize (yTo k j).getD (16 + j) 0 = m at c5
      have hq32 : 16 + j < 32 := by omega
      generalize hqq : 16 + j = q at *
      generalize hqq2 : 16 + (j + 1) = q2 at *
      go_wp2
      go_roundw
      case rel => exact ⟨j + 1, by omega, by rw [hqq2], HE2.out⟩
      case measure => simp [intOf]; omega
    · have hj2 : j = 16 := by omega
      subst hj2
      have hlz := yTo_length k HK.out 16 (by omega)
      have t2 : decide (((16 + 16 : Nat) : Int) < 32) = false := by decide
      generalize yTo k 16 = z at HS1 hlz E
      have HLZ := Lib.hid hlz
      clear hlz
      go_wp2_with fail
      go_cut [7, 8] (fun p7 p8 wx => ∃ g7 g8, p7 = .pointer (some ⟨g7, 0, none⟩) ∧ p8 = .pointer (some ⟨g8, 0, none⟩) ∧ Has wx g7 25 (bs A) ∧ Has wx g8 25 (bs B) ∧ DEnv w g5 k z wx)
      case first =>
        refine wp_region_noPanic ?_
        refine wp_region_held_drew (S := fun W => Has W w.heap.size 23 (bs k) ∧ Has W g5 23 (bs z)) (by kernel_rfl) E.drew.s (fun hS => ?_)
        refine take1 hS 0 26 (.agg (bs z)) _ rfl (by kernel_rfl) (by kernel_rfl) (by kernel_rfl) (fun _ _ _ h => h) rfl rfl (fun w' h => by exact exec_load_row 23 (.tmp 5) g5 h.2 Try.underlying23 rfl (infoKey z HLZ.out) rfl rfl) ?_
        simp only [Act.put, List.setIfInBounds_toArray, List.set_cons_zero, List.set_cons_succ]
        refine take1 hS 1 27 (.string s) _ rfl (by kernel_rfl) (by kernel_rfl) (by kernel_rfl) (fun _ _ _ h => h) rfl rfl (fun w' h => by go_simp) ?_
        simp only [Act.put, List.setIfInBounds_toArray, List.set_cons_zero, List.set_cons_succ]
        refine take1 hS 3 29 (.agg (bs k)) _ rfl (by kernel_rfl) (by kernel_rfl) (by kernel_rfl) (fun _ _ _ h => h) rfl rfl (fun w' h => by exact exec_load_row 23 (.tmp 2) w.heap.size h.1 Try.underlying23 rfl (infoKey k HK.out) rfl rfl) ?_
        simp only [Act.put, List.setIfInBounds_toArray, List.set_cons_zero, List.set_cons_succ]
        refine take1 hS 4 30 (.string s) _ rfl (by kernel_rfl) (by kernel_rfl) (by kernel_rfl) (fun _ _ _ h => h) rfl rfl (fun w' h => by go_simp) ?_
        simp only [Act.put, List.setIfInBounds_toArray, List.set_cons_zero, List.set_cons_succ]
        replace E := E.drew
        clear hS
        generalize wr.drew = w20 at E ⊢
        refine wpAnyH_all (rs := [2, 6, 7]) (by kernel_rfl) (by simp) ?_
        intro i hi
        simp only [List.mem_cons, List.not_mem_nil, or_false] at hi
        rcases hi with rfl | rfl | rfl
        · refine wpOp_call (d := 28) (f := 11) (args := #[.agg (bs z), .string s]) (HS1.out w20) rfl rfl rfl (by go_simp) ?_
          rintro e w21 ⟨rfl, hb1⟩
          replace E := E.step hb1
          refine ⟨_, rfl, E.s, ?_⟩
          simp only [Act.put, List.setIfInBounds_toArray, List.set_cons_zero, List.set_cons_succ]
          clear hb1
          refine wpAnyH_all (rs := [5, 6, 7]) (by kernel_rfl) (by simp) ?_
          intro i hi
          simp only [List.mem_cons, List.not_mem_nil, or_false] at hi
          rcases hi with rfl | rfl | rfl
          · refine wpOp_call (d := 31) (f := 11) (args := #[.agg (bs k), .string s]) (HS2.out w21) rfl rfl rfl (by go_simp) ?_
            rintro e w22 ⟨rfl, hb1⟩
            replace E := E.step hb1
            refine ⟨_, rfl, E.s, ?_⟩
            simp only [Act.put, List.setIfInBounds_toArray, List.set_cons_zero, List.set_cons_succ]
            clear hb1
            refine wpAnyH_all (rs := [6, 7]) (by kernel_rfl) (by simp) ?_
            intro i hi
            simp only [List.mem_cons, List.not_mem_nil, or_false] at hi
            rcases hi with rfl | rfl
            · have hN7 : Has (w22.alloc (.cells zb16 25)) w22.heap.size 25 zb16 := Has.fresh w22 25 _
              have hl7 := E.2.1.lt
              replace E := E.step ((Below.refl _ _).alloc (Nat.le_refl _) (.cells zb16 25))
              refine wpOp_val (d := 7) (v := .pointer (some ⟨w22.heap.size, 0, none⟩)) (w' := w22.alloc (.cells zb16 25)) rfl rfl rfl (exec_alloc16 rfl) ⟨E.s, ?_⟩
              simp only [Act.put, List.setIfInBounds_toArray, List.set_cons_zero, List.set_cons_succ]
              generalize w22.alloc (.cells zb16 25) = w23 at E hN7 ⊢
              generalize w22.heap.size = g7 at hl7 hN7 ⊢
              have hN8 : Has (w23.alloc (.cells zb16 25)) w23.heap.size 25 zb16 := Has.fresh w23 25 _
              have hl8 := E.2.1.lt
              have hd8 := hN7.lt
              replace hN7 := hN7.alloc (.cells zb16 25)
              replace E := E.step ((Below.refl _ _).alloc (Nat.le_refl _) (.cells zb16 25))
              refine onlyVal 7 8 (.pointer (some ⟨w23.heap.size, 0, none⟩)) (w23.alloc (.cells zb16 25)) _ (by kernel_rfl) rfl rfl rfl (exec_alloc16 rfl) E.s ?_
              simp only [Act.put, List.setIfInBounds_toArray, List.set_cons_zero, List.set_cons_succ]
              generalize w23.alloc (.cells zb16 25) = w24 at E hN8 hN7 ⊢
              generalize w23.heap.size = g8 at hl8 hN8 hd8 ⊢
              refine onlySkip 8 (w24.setRow g7 (bs A)) _ (by kernel_rfl) rfl rfl rfl (exec_store_row (P := Try.prog) (w := w24) 25 (.tmp 7) (.tmp 28) g7 (bs A) hN7 (infoB16 A HLA.out) (zb16_size A HLA.out) (bs_one A) rfl rfl rfl) (E.other hl7 _).s ?_
              replace E := E.other hl7 (bs A)
              replace hN7 := hN7.setRow (bs A)
              replace hN8 := hN8.setRow_other (g' := g7) (by omega) (bs A)
              generalize w24.setRow g7 (bs A) = w25 at E hN7 hN8 ⊢
              simp only [Act.put]
              refine onlySkip 9 (w25.setRow g8 (bs B)) _ (by kernel_rfl) rfl rfl rfl (exec_store_row (P := Try.prog) (w := w25) 25 (.tmp 8) (.tmp 31) g8 (bs B) hN8 (infoB16 B HLB.out) (zb16_size B HLB.out) (bs_one B) rfl rfl rfl) (E.other hl8 _).s ?_
              replace E := E.other hl8 (bs B)
              replace hN8 := hN8.setRow (bs B)
              replace hN7 := hN7.setRow_other (g' := g8) (by omega) (bs B)
              generalize w25.setRow g8 (bs B) = w26 at E hN7 hN8 ⊢
              simp only [Act.put]
              refine wpAnyH_done (by kernel_rfl) ?_ _
              refine NoPanic.normal ?_
              go_wp2_with fail
              go_meet
              exact ⟨g7, g8, rfl, rfl, hN7, hN8, E⟩
            · have hN8 : Has (w22.alloc (.cells zb16 25)) w22.heap.size 25 zb16 := Has.fresh w22 25 _
              have hl8 := E.2.1.lt
              replace E := E.step ((Below.refl _ _).alloc (Nat.le_refl _) (.cells zb16 25))
              refine wpOp_val (d := 8) (v := .pointer (some ⟨w22.heap.size, 0, none⟩)) (w' := w22.alloc (.cells zb16 25)) rfl rfl rfl (exec_alloc16 rfl) ⟨E.s, ?_⟩
              simp only [Act.put, List.setIfInBounds_toArray, List.set_cons_zero, List.set_cons_succ]
              generalize w22.alloc (.cells zb16 25) = w23 at E hN8 ⊢
              generalize w22.heap.size = g8 at hl8 hN8 ⊢
              have hN7 : Has (w23.alloc (.cells zb16 25)) w23.heap.size 25 zb16 := Has.fresh w23 25 _
              have hl7 := E.2.1.lt
              have hd7 := hN8.lt
              replace hN8 := hN8.alloc (.cells zb16 25)
              replace E := E.step ((Below.refl _ _).alloc (Nat.le_refl _) (.cells zb16 25))
              refine onlyVal 6 7 (.pointer (some ⟨w23.heap.size, 0, none⟩)) (w23.alloc (.cells zb16 25)) _ (by kernel_rfl) rfl rfl rfl (exec_alloc16 rfl) E.s ?_
              simp only [Act.put, List.setIfInBounds_toArray, List.set_cons_zero, List.set_cons_succ]
              generalize w23.alloc (.cells zb16 25) = w24 at E hN7 hN8 ⊢
              generalize w23.heap.size = g7 at hl7 hN7 hd7 ⊢
              refine onlySkip 8 (w24.setRow g7 (bs A)) _ (by kernel_rfl) rfl rfl rfl (exec_store_row (P := Try.prog) (w := w24) 25 (.tmp 7) (.tmp 28) g7 (bs A) hN7 (infoB16 A HLA.out) (zb16_size A HLA.out) (bs_one A) rfl rfl rfl) (E.other hl7 _).s ?_
              replace E := E.other hl7 (bs A)
              replace hN7 := hN7.setRow (bs A)
              replace hN8 := hN8.setRow_other (g' := g7) (by omega) (bs A)
              generalize w24.setRow g7 (bs A) = w25 at E hN7 hN8 ⊢
              simp only [Act.put]
              refine onlySkip 9 (w25.setRow g8 (bs B)) _ (by kernel_rfl) rfl rfl rfl (exec_store_row (P := Try.prog) (w := w25) 25 (.tmp 8) (.tmp 31) g8 (bs B) hN8 (infoB16 B HLB.out) (zb16_size B HLB.out) (bs_one B) rfl rfl rfl) (E.other hl8 _).s ?_
              replace E := E.other hl8 (bs B)
              replace hN8 := hN8.setRow (bs B)
              replace hN7 := hN7.setRow_other (g' := g8) (by omega) (bs B)
              generalize w25.setRow g8 (bs B) = w26 at E hN7 hN8 ⊢
              simp only [Act.put]
              refine wpAnyH_done (by kernel_rfl) ?_ _
              refine NoPanic.normal ?_
              go_wp2_with fail
              go_meet
              exact ⟨g7, g8, rfl, rfl, hN7, hN8, E⟩
          · have hN7 : Has (w21.alloc (.cells zb16 25)) w21.heap.size 25 zb16 := Has.fresh w21 25 _
            have hl7 := E.2.1.lt
            replace E := E.step ((Below.refl _ _).alloc (Nat.le_refl _) (.cells zb16 25))
            refine wpOp_val (d := 7) (v := .pointer (some ⟨w21.heap.size, 0, none⟩)) (w' := w21.alloc (.cells zb16 25)) rfl rfl rfl (exec_alloc16 rfl) ⟨E.s, ?_⟩
            simp only [Act.put, List.setIfInBounds_toArray, List.set_cons_zero, List.set_cons_succ]
            generalize w21.alloc (.cells zb16 25) = w22 at E hN7 ⊢
            generalize w21.heap.size = g7 at hl7 hN7 ⊢
            refine wpAnyH_all (rs := [5, 7]) (by kernel_rfl) (by simp) ?_
            intro i hi
            simp only [List.mem_cons, List.not_mem_nil, or_false] at hi
            rcases hi with rfl | rfl
            · refine wpOp_call (d := 31) (f := 11) (args := #[.agg (bs k), .string s]) (HS2.out w22) rfl rfl rfl (by go_simp) ?_
              rintro e w23 ⟨rfl, hb1⟩
              replace E := E.step hb1
              replace hN7 := hN7.below hb1 hN7.lt
              refine ⟨_, rfl, E.s, ?_⟩
              simp only [Act.put, List.setIfInBounds_toArray, List.set_cons_zero, List.set_cons_succ]
              clear hb1
              have hN8 : Has (w23.alloc (.cells zb16 25)) w23.heap.size 25 zb16 := Has.fresh w23 25 _
              have hl8 := E.2.1.lt
              have hd8 := hN7.lt
              replace hN7 := hN7.alloc (.cells zb16 25)
              replace E := E.step ((Below.refl _ _).alloc (Nat.le_refl _) (.cells zb16 25))
              refine onlyVal 7 8 (.pointer (some ⟨w23.heap.size, 0, none⟩)) (w23.alloc (.cells zb16 25)) _ (by kernel_rfl) rfl rfl rfl (exec_alloc16 rfl) E.s ?_
              simp only [Act.put, List.setIfInBounds_toArray, List.set_cons_zero, List.set_cons_succ]
              generalize w23.alloc (.cells zb16 25) = w24 at E hN8 hN7 ⊢
              generalize w23.heap.size = g8 at hl8 hN8 hd8 ⊢
              refine onlySkip 8 (w24.setRow g7 (bs A)) _ (by kernel_rfl) rfl rfl rfl (exec_store_row (P := Try.prog) (w := w24) 25 (.tmp 7) (.tmp 28) g7 (bs A) hN7 (infoB16 A HLA.out) (zb16_size A HLA.out) (bs_one A) rfl rfl rfl) (E.other hl7 _).s ?_
              replace E := E.other hl7 (bs A)
              replace hN7 := hN7.setRow (bs A)
              replace hN8 := hN8.setRow_other (g' := g7) (by omega) (bs A)
              generalize w24.setRow g7 (bs A) = w25 at E hN7 hN8 ⊢
              simp only [Act.put]
              refine onlySkip 9 (w25.setRow g8 (bs B)) _ (by kernel_rfl) rfl rfl rfl (exec_store_row (P := Try.prog) (w := w25) 25 (.tmp 8) (.tmp 31) g8 (bs B) hN8 (infoB16 B HLB.out) (zb16_size B HLB.out) (bs_one B) rfl rfl rfl) (E.other hl8 _).s ?_
              replace E := E.other hl8 (bs B)
              replace hN8 := hN8.setRow (bs B)
              replace hN7 := hN7.setRow_other (g' := g8) (by omega) (bs B)
              generalize w25.setRow g8 (bs B) = w26 at E hN7 hN8 ⊢
              simp only [Act.put]
              refine wpAnyH_done (by kernel_rfl) ?_ _
              refine NoPanic.normal ?_
              go_wp2_with fail
              go_meet
              exact ⟨g7, g8, rfl, rfl, hN7, hN8, E⟩
            · have hN8 : Has (w22.alloc (.cells zb16 25)) w22.heap.size 25 zb16 := Has.fresh w22 25 _
              have hl8 := E.2.1.lt
              have hd8 := hN7.lt
              replace hN7 := hN7.alloc (.cells zb16 25)
              replace E := E.step ((Below.refl _ _).alloc (Nat.le_refl _) (.cells zb16 25))
              refine wpOp_val (d := 8) (v := .pointer (some ⟨w22.heap.size, 0, none⟩)) (w' := w22.alloc (.cells zb16 25)) rfl rfl rfl (exec_alloc16 rfl) ⟨E.s, ?_⟩
              simp only [Act.put, List.setIfInBounds_toArray, List.set_cons_zero, List.set_cons_succ]
              generalize w22.alloc (.cells zb16 25) = w23 at E hN8 hN7 ⊢
              generalize w22.heap.size = g8 at hl8 hN8 hd8 ⊢
              have hcall := HS2.out w23
              refine onlyCall 5 31 _ _ _ (by kernel_rfl) rfl rfl rfl (by go_simp) hcall ?_
              rintro e w24 ⟨rfl, hb1⟩
              replace E := E.step hb1
              replace hN7 := hN7.below hb1 hN7.lt
              replace hN8 := hN8.below hb1 hN8.lt
              refine ⟨_, rfl, E.s, ?_⟩
              simp only [Act.put, List.setIfInBounds_toArray, List.set_cons_zero, List.set_cons_succ]
              clear hb1
              clear hcall
              refine onlySkip 8 (w24.setRow g7 (bs A)) _ (by kernel_rfl) rfl rfl rfl (exec_store_row (P := Try.prog) (w := w24) 25 (.tmp 7) (.tmp 28) g7 (bs A) hN7 (infoB16 A HLA.out) (zb16_size A HLA.out) (bs_one A) rfl rfl rfl) (E.other hl7 _).s ?_
              replace E := E.other hl7 (bs A)
              replace hN7 := hN7.setRow (bs A)
              replace hN8 := hN8.setRow_other (g' := g7) (by omega) (bs A)
              generalize w24.setRow g7 (bs A) = w25 at E hN7 hN8 ⊢
              simp only [Act.put]
              refine onlySkip 9 (w25.setRow g8 (bs B)) _ (by kernel_rfl) rfl rfl rfl (exec_store_row (P := Try.prog) (w := w25) 25 (.tmp 8) (.tmp 31) g8 (bs B) hN8 (infoB16 B HLB.out) (zb16_size B HLB.out) (bs_one B) rfl rfl rfl) (E.other hl8 _).s ?_
              replace E := E.other hl8 (bs B)
              replace hN8 := hN8.setRow (bs B)
              replace hN7 := hN7.setRow_other (g' := g8) (by omega) (bs B)
              generalize w25.setRow g8 (bs B) = w26 at E hN7 hN8 ⊢
              simp only [Act.put]
              refine wpAnyH_done (by kernel_rfl) ?_ _
              refine NoPanic.normal ?_
              go_wp2_with fail
              go_meet
              exact ⟨g7, g8, rfl, rfl, hN7, hN8, E⟩
          · have hN8 : Has (w21.alloc (.cells zb16 25)) w21.heap.size 25 zb16 := Has.fresh w21 25 _
            have hl8 := E.2.1.lt
            replace E := E.step ((Below.refl _ _).alloc (Nat.le_refl _) (.cells zb16 25))
            refine wpOp_val (d := 8) (v := .pointer (some ⟨w21.heap.size, 0, none⟩)) (w' := w21.alloc (.cells zb16 25)) rfl rfl rfl (exec_alloc16 rfl) ⟨E.s, ?_⟩
            simp only [Act.put, List.setIfInBounds_toArray, List.set_cons_zero, List.set_cons_succ]
            generalize w21.alloc (.cells zb16 25) = w22 at E hN8 ⊢
            generalize w21.heap.size = g8 at hl8 hN8 ⊢
            refine wpAnyH_all (rs := [5, 6]) (by kernel_rfl) (by simp) ?_
            intro i hi
            simp only [List.mem_cons, List.not_mem_nil, or_false] at hi
            rcases hi with rfl | rfl
            · refine wpOp_call (d := 31) (f := 11) (args := #[.agg (bs k), .string s]) (HS2.out w22) rfl rfl rfl (by go_simp) ?_
              rintro e w23 ⟨rfl, hb1⟩
              replace E := E.step hb1
              replace hN8 := hN8.below hb1 hN8.lt
              refine ⟨_, rfl, E.s, ?_⟩
              simp only [Act.put, List.setIfInBounds_toArray, List.set_cons_zero, List.set_cons_succ]
              clear hb1
              have hN7 : Has (w23.alloc (.cells zb16 25)) w23.heap.size 25 zb16 := Has.fresh w23 25 _
              have hl7 := E.2.1.lt
              have hd7 := hN8.lt
              replace hN8 := hN8.alloc (.cells zb16 25)
              replace E := E.step ((Below.refl _ _).alloc (Nat.le_refl _) (.cells zb16 25))
              refine onlyVal 6 7 (.pointer (some ⟨w23.heap.size, 0, none⟩)) (w23.alloc (.cells zb16 25)) _ (by kernel_rfl) rfl rfl rfl (exec_alloc16 rfl) E.s ?_
              simp only [Act.put, List.setIfInBounds_toArray, List.set_cons_zero, List.set_cons_succ]
              generalize w23.alloc (.cells zb16 25) = w24 at E hN7 hN8 ⊢
              generalize w23.heap.size = g7 at hl7 hN7 hd7 ⊢
              refine onlySkip 8 (w24.setRow g7 (bs A)) _ (by kernel_rfl) rfl rfl rfl (exec_store_row (P := Try.prog) (w := w24) 25 (.tmp 7) (.tmp 28) g7 (bs A) hN7 (infoB16 A HLA.out) (zb16_size A HLA.out) (bs_one A) rfl rfl rfl) (E.other hl7 _).s ?_
              replace E := E.other hl7 (bs A)
              replace hN7 := hN7.setRow (bs A)
              replace hN8 := hN8.setRow_other (g' := g7) (by omega) (bs A)
              generalize w24.setRow g7 (bs A) = w25 at E hN7 hN8 ⊢
              simp only [Act.put]
              refine onlySkip 9 (w25.setRow g8 (bs B)) _ (by kernel_rfl) rfl rfl rfl (exec_store_row (P := Try.prog) (w := w25) 25 (.tmp 8) (.tmp 31) g8 (bs B) hN8 (infoB16 B HLB.out) (zb16_size B HLB.out) (bs_one B) rfl rfl rfl) (E.other hl8 _).s ?_
              replace E := E.other hl8 (bs B)
              replace hN8 := hN8.setRow (bs B)
              replace hN7 := hN7.setRow_other (g' := g8) (by omega) (bs B)
              generalize w25.setRow g8 (bs B) = w26 at E hN7 hN8 ⊢
              simp only [Act.put]
              refine wpAnyH_done (by kernel_rfl) ?_ _
              refine NoPanic.normal ?_
              go_wp2_with fail
              go_meet
              exact ⟨g7, g8, rfl, rfl, hN7, hN8, E⟩
            · have hN7 : Has (w22.alloc (.cells zb16 25)) w22.heap.size 25 zb16 := Has.fresh w22 25 _
              have hl7 := E.2.1.lt
              have hd7 := hN8.lt
              replace hN8 := hN8.alloc (.cells zb16 25)
              replace E := E.step ((Below.refl _ _).alloc (Nat.le_refl _) (.cells zb16 25))
              refine wpOp_val (d := 7) (v := .pointer (some ⟨w22.heap.size, 0, none⟩)) (w' := w22.alloc (.cells zb16 25)) rfl rfl rfl (exec_alloc16 rfl) ⟨E.s, ?_⟩
              simp only [Act.put, List.setIfInBounds_toArray, List.set_cons_zero, List.set_cons_succ]
              generalize w22.alloc (.cells zb16 25) = w23 at E hN7 hN8 ⊢
              generalize w22.heap.size = g7 at hl7 hN7 hd7 ⊢
              have hcall := HS2.out w23
              refine onlyCall 5 31 _ _ _ (by kernel_rfl) rfl rfl rfl (by go_simp) hcall ?_
              rintro e w24 ⟨rfl, hb1⟩
              replace E := E.step hb1
              replace hN7 := hN7.below hb1 hN7.lt
              replace hN8 := hN8.below hb1 hN8.lt
              refine ⟨_, rfl, E.s, ?_⟩
              simp only [Act.put, List.setIfInBounds_toArray, List.set_cons_zero, List.set_cons_succ]
              clear hb1
              clear hcall
              refine onlySkip 8 (w24.setRow g7 (bs A)) _ (by kernel_rfl) rfl rfl rfl (exec_store_row (P := Try.prog) (w := w24) 25 (.tmp 7) (.tmp 28) g7 (bs A) hN7 (infoB16 A HLA.out) (zb16_size A HLA.out) (bs_one A) rfl rfl rfl) (E.other hl7 _).s ?_
              replace E := E.other hl7 (bs A)
              replace hN7 := hN7.setRow (bs A)
              replace hN8 := hN8.setRow_other (g' := g7) (by omega) (bs A)
              generalize w24.setRow g7 (bs A) = w25 at E hN7 hN8 ⊢
              simp only [Act.put]
              refine onlySkip 9 (w25.setRow g8 (bs B)) _ (by kernel_rfl) rfl rfl rfl (exec_store_row (P := Try.prog) (w := w25) 25 (.tmp 8) (.tmp 31) g8 (bs B) hN8 (infoB16 B HLB.out) (zb16_size B HLB.out) (bs_one B) rfl rfl rfl) (E.other hl8 _).s ?_
              replace E := E.other hl8 (bs B)
              replace hN8 := hN8.setRow (bs B)
              replace hN7 := hN7.setRow_other (g' := g8) (by omega) (bs B)
              generalize w25.setRow g8 (bs B) = w26 at E hN7 hN8 ⊢
              simp only [Act.put]
              refine wpAnyH_done (by kernel_rfl) ?_ _
              refine NoPanic.normal ?_
              go_wp2_with fail
              go_meet
              exact ⟨g7, g8, rfl, rfl, hN7, hN8, E⟩
        · have hN7 : Has (w20.alloc (.cells zb16 25)) w20.heap.size 25 zb16 := Has.fresh w20 25 _
          have hl7 := E.2.1.lt
          replace E := E.step ((Below.refl _ _).alloc (Nat.le_refl _) (.cells zb16 25))
          refine wpOp_val (d := 7) (v := .pointer (some ⟨w20.heap.size, 0, none⟩)) (w' := w20.alloc (.cells zb16 25)) rfl rfl rfl (exec_alloc16 rfl) ⟨E.s, ?_⟩
          simp only [Act.put, List.setIfInBounds_toArray, List.set_cons_zero, List.set_cons_succ]
          generalize w20.alloc (.cells zb16 25) = w21 at E hN7 ⊢
          generalize w20.heap.size = g7 at hl7 hN7 ⊢
          refine wpAnyH_all (rs := [2, 7]) (by kernel_rfl) (by simp) ?_
          intro i hi
          simp only [List.mem_cons, List.not_mem_nil, or_false] at hi
          rcases hi with rfl | rfl
          · refine wpOp_call (d := 28) (f := 11) (args := #[.agg (bs z), .string s]) (HS1.out w21) rfl rfl rfl (by go_simp) ?_
            rintro e w22 ⟨rfl, hb1⟩
            replace E := E.step hb1
            replace hN7 := hN7.below hb1 hN7.lt
            refine ⟨_, rfl, E.s, ?_⟩
            simp only [Act.put, List.setIfInBounds_toArray, List.set_cons_zero, List.set_cons_succ]
            clear hb1
            refine wpAnyH_all (rs := [5, 7]) (by kernel_rfl) (by simp) ?_
            intro i hi
            simp only [List.mem_cons, List.not_mem_nil, or_false] at hi
            rcases hi with rfl | rfl
            · refine wpOp_call (d := 31) (f := 11) (args := #[.agg (bs k), .string s]) (HS2.out w22) rfl rfl rfl (by go_simp) ?_
              rintro e w23 ⟨rfl, hb1⟩
              replace E := E.step hb1
              replace hN7 := hN7.below hb1 hN7.lt
              refine ⟨_, rfl, E.s, ?_⟩
              simp only [Act.put, List.setIfInBounds_toArray, List.set_cons_zero, List.set_cons_succ]
              clear hb1
              have hN8 : Has (w23.alloc (.cells zb16 25)) w23.heap.size 25 zb16 := Has.fresh w23 25 _
              have hl8 := E.2.1.lt
              have hd8 := hN7.lt
              replace hN7 := hN7.alloc (.cells zb16 25)
              replace E := E.step ((Below.refl _ _).alloc (Nat.le_refl _) (.cells zb16 25))
              refine onlyVal 7 8 (.pointer (some ⟨w23.heap.size, 0, none⟩)) (w23.alloc (.cells zb16 25)) _ (by kernel_rfl) rfl rfl rfl (exec_alloc16 rfl) E.s ?_
              simp only [Act.put, List.setIfInBounds_toArray, List.set_cons_zero, List.set_cons_succ]
              generalize w23.alloc (.cells zb16 25) = w24 at E hN8 hN7 ⊢
              generalize w23.heap.size = g8 at hl8 hN8 hd8 ⊢
              refine onlySkip 8 (w24.setRow g7 (bs A)) _ (by kernel_rfl) rfl rfl rfl (exec_store_row (P := Try.prog) (w := w24) 25 (.tmp 7) (.tmp 28) g7 (bs A) hN7 (infoB16 A HLA.out) (zb16_size A HLA.out) (bs_one A) rfl rfl rfl) (E.other hl7 _).s ?_
              replace E := E.other hl7 (bs A)
              replace hN7 := hN7.setRow (bs A)
              replace hN8 := hN8.setRow_other (g' := g7) (by omega) (bs A)
              generalize w24.setRow g7 (bs A) = w25 at E hN7 hN8 ⊢
              simp only [Act.put]
              refine onlySkip 9 (w25.setRow g8 (bs B)) _ (by kernel_rfl) rfl rfl rfl (exec_store_row (P := Try.prog) (w := w25) 25 (.tmp 8) (.tmp 31) g8 (bs B) hN8 (infoB16 B HLB.out) (zb16_size B HLB.out) (bs_one B) rfl rfl rfl) (E.other hl8 _).s ?_
              replace E := E.other hl8 (bs B)
              replace hN8 := hN8.setRow (bs B)
              replace hN7 := hN7.setRow_other (g' := g8) (by omega) (bs B)
              generalize w25.setRow g8 (bs B) = w26 at E hN7 hN8 ⊢
              simp only [Act.put]
              refine wpAnyH_done (by kernel_rfl) ?_ _
              refine NoPanic.normal ?_
              go_wp2_with fail
              go_meet
              exact ⟨g7, g8, rfl, rfl, hN7, hN8, E⟩
            · have hN8 : Has (w22.alloc (.cells zb16 25)) w22.heap.size 25 zb16 := Has.fresh w22 25 _
              have hl8 := E.2.1.lt
              have hd8 := hN7.lt
              replace hN7 := hN7.alloc (.cells zb16 25)
              replace E := E.step ((Below.refl _ _).alloc (Nat.le_refl _) (.cells zb16 25))
              refine wpOp_val (d := 8) (v := .pointer (some ⟨w22.heap.size, 0, none⟩)) (w' := w22.alloc (.cells zb16 25)) rfl rfl rfl (exec_alloc16 rfl) ⟨E.s, ?_⟩
              simp only [Act.put, List.setIfInBounds_toArray, List.set_cons_zero, List.set_cons_succ]
              generalize w22.alloc (.cells zb16 25) = w23 at E hN8 hN7 ⊢
              generalize w22.heap.size = g8 at hl8 hN8 hd8 ⊢
              have hcall := HS2.out w23
              refine onlyCall 5 31 _ _ _ (by kernel_rfl) rfl rfl rfl (by go_simp) hcall ?_
              rintro e w24 ⟨rfl, hb1⟩
              replace E := E.step hb1
              replace hN7 := hN7.below hb1 hN7.lt
              replace hN8 := hN8.below hb1 hN8.lt
              refine ⟨_, rfl, E.s, ?_⟩
              simp only [Act.put, List.setIfInBounds_toArray, List.set_cons_zero, List.set_cons_succ]
              clear hb1
              clear hcall
              refine onlySkip 8 (w24.setRow g7 (bs A)) _ (by kernel_rfl) rfl rfl rfl (exec_store_row (P := Try.prog) (w := w24) 25 (.tmp 7) (.tmp 28) g7 (bs A) hN7 (infoB16 A HLA.out) (zb16_size A HLA.out) (bs_one A) rfl rfl rfl) (E.other hl7 _).s ?_
              replace E := E.other hl7 (bs A)
              replace hN7 := hN7.setRow (bs A)
              replace hN8 := hN8.setRow_other (g' := g7) (by omega) (bs A)
              generalize w24.setRow g7 (bs A) = w25 at E hN7 hN8 ⊢
              simp only [Act.put]
              refine onlySkip 9 (w25.setRow g8 (bs B)) _ (by kernel_rfl) rfl rfl rfl (exec_store_row (P := Try.prog) (w := w25) 25 (.tmp 8) (.tmp 31) g8 (bs B) hN8 (infoB16 B HLB.out) (zb16_size B HLB.out) (bs_one B) rfl rfl rfl) (E.other hl8 _).s ?_
              replace E := E.other hl8 (bs B)
              replace hN8 := hN8.setRow (bs B)
              replace hN7 := hN7.setRow_other (g' := g8) (by omega) (bs B)
              generalize w25.setRow g8 (bs B) = w26 at E hN7 hN8 ⊢
              simp only [Act.put]
              refine wpAnyH_done (by kernel_rfl) ?_ _
              refine NoPanic.normal ?_
              go_wp2_with fail
              go_meet
              exact ⟨g7, g8, rfl, rfl, hN7, hN8, E⟩
          · have hN8 : Has (w21.alloc (.cells zb16 25)) w21.heap.size 25 zb16 := Has.fresh w21 25 _
            have hl8 := E.2.1.lt
            have hd8 := hN7.lt
            replace hN7 := hN7.alloc (.cells zb16 25)
            replace E := E.step ((Below.refl _ _).alloc (Nat.le_refl _) (.cells zb16 25))
            refine wpOp_val (d := 8) (v := .pointer (some ⟨w21.heap.size, 0, none⟩)) (w' := w21.alloc (.cells zb16 25)) rfl rfl rfl (exec_alloc16 rfl) ⟨E.s, ?_⟩
            simp only [Act.put, List.setIfInBounds_toArray, List.set_cons_zero, List.set_cons_succ]
            generalize w21.alloc (.cells zb16 25) = w22 at E hN8 hN7 ⊢
            generalize w21.heap.size = g8 at hl8 hN8 hd8 ⊢
            have hcall := HS1.out w22
            refine onlyCall 2 28 _ _ _ (by kernel_rfl) rfl rfl rfl (by go_simp) hcall ?_
            rintro e w23 ⟨rfl, hb1⟩
            replace E := E.step hb1
            replace hN7 := hN7.below hb1 hN7.lt
            replace hN8 := hN8.below hb1 hN8.lt
            refine ⟨_, rfl, E.s, ?_⟩
            simp only [Act.put, List.setIfInBounds_toArray, List.set_cons_zero, List.set_cons_succ]
            clear hb1
            clear hcall
            have hcall := HS2.out w23
            refine onlyCall 5 31 _ _ _ (by kernel_rfl) rfl rfl rfl (by go_simp) hcall ?_
            rintro e w24 ⟨rfl, hb1⟩
            replace E := E.step hb1
            replace hN7 := hN7.below hb1 hN7.lt
            replace hN8 := hN8.below hb1 hN8.lt
            refine ⟨_, rfl, E.s, ?_⟩
            simp only [Act.put, List.setIfInBounds_toArray, List.set_cons_zero, List.set_cons_succ]
            clear hb1
            clear hcall
            refine onlySkip 8 (w24.setRow g7 (bs A)) _ (by kernel_rfl) rfl rfl rfl (exec_store_row (P := Try.prog) (w := w24) 25 (.tmp 7) (.tmp 28) g7 (bs A) hN7 (infoB16 A HLA.out) (zb16_size A HLA.out) (bs_one A) rfl rfl rfl) (E.other hl7 _).s ?_
            replace E := E.other hl7 (bs A)
            replace hN7 := hN7.setRow (bs A)
            replace hN8 := hN8.setRow_other (g' := g7) (by omega) (bs A)
            generalize w24.setRow g7 (bs A) = w25 at E hN7 hN8 ⊢
            simp only [Act.put]
            refine onlySkip 9 (w25.setRow g8 (bs B)) _ (by kernel_rfl) rfl rfl rfl (exec_store_row (P := Try.prog) (w := w25) 25 (.tmp 8) (.tmp 31) g8 (bs B) hN8 (infoB16 B HLB.out) (zb16_size B HLB.out) (bs_one B) rfl rfl rfl) (E.other hl8 _).s ?_
            replace E := E.other hl8 (bs B)
            replace hN8 := hN8.setRow (bs B)
            replace hN7 := hN7.setRow_other (g' := g8) (by omega) (bs B)
            generalize w25.setRow g8 (bs B) = w26 at E hN7 hN8 ⊢
            simp only [Act.put]
            refine wpAnyH_done (by kernel_rfl) ?_ _
            refine NoPanic.normal ?_
            go_wp2_with fail
            go_meet
            exact ⟨g7, g8, rfl, rfl, hN7, hN8, E⟩
        · have hN8 : Has (w20.alloc (.cells zb16 25)) w20.heap.size 25 zb16 := Has.fresh w20 25 _
          have hl8 := E.2.1.lt
          replace E := E.step ((Below.refl _ _).alloc (Nat.le_refl _) (.cells zb16 25))
          refine wpOp_val (d := 8) (v := .pointer (some ⟨w20.heap.size, 0, none⟩)) (w' := w20.alloc (.cells zb16 25)) rfl rfl rfl (exec_alloc16 rfl) ⟨E.s, ?_⟩
          simp only [Act.put, List.setIfInBounds_toArray, List.set_cons_zero, List.set_cons_succ]
          generalize w20.alloc (.cells zb16 25) = w21 at E hN8 ⊢
          generalize w20.heap.size = g8 at hl8 hN8 ⊢
          refine wpAnyH_all (rs := [2, 6]) (by kernel_rfl) (by simp) ?_
          intro i hi
          simp only [List.mem_cons, List.not_mem_nil, or_false] at hi
          rcases hi with rfl | rfl
          · refine wpOp_call (d := 28) (f := 11) (args := #[.agg (bs z), .string s]) (HS1.out w21) rfl rfl rfl (by go_simp) ?_
            rintro e w22 ⟨rfl, hb1⟩
            replace E := E.step hb1
            replace hN8 := hN8.below hb1 hN8.lt
            refine ⟨_, rfl, E.s, ?_⟩
            simp only [Act.put, List.setIfInBounds_toArray, List.set_cons_zero, List.set_cons_succ]
            clear hb1
            refine wpAnyH_all (rs := [5, 6]) (by kernel_rfl) (by simp) ?_
            intro i hi
            simp only [List.mem_cons, List.not_mem_nil, or_false] at hi
            rcases hi with rfl | rfl
            · refine wpOp_call (d := 31) (f := 11) (args := #[.agg (bs k), .string s]) (HS2.out w22) rfl rfl rfl (by go_simp) ?_
              rintro e w23 ⟨rfl, hb1⟩
              replace E := E.step hb1
              replace hN8 := hN8.below hb1 hN8.lt
              refine ⟨_, rfl, E.s, ?_⟩
              simp only [Act.put, List.setIfInBounds_toArray, List.set_cons_zero, List.set_cons_succ]
              clear hb1
              have hN7 : Has (w23.alloc (.cells zb16 25)) w23.heap.size 25 zb16 := Has.fresh w23 25 _
              have hl7 := E.2.1.lt
              have hd7 := hN8.lt
              replace hN8 := hN8.alloc (.cells zb16 25)
              replace E := E.step ((Below.refl _ _).alloc (Nat.le_refl _) (.cells zb16 25))
              refine onlyVal 6 7 (.pointer (some ⟨w23.heap.size, 0, none⟩)) (w23.alloc (.cells zb16 25)) _ (by kernel_rfl) rfl rfl rfl (exec_alloc16 rfl) E.s ?_
              simp only [Act.put, List.setIfInBounds_toArray, List.set_cons_zero, List.set_cons_succ]
              generalize w23.alloc (.cells zb16 25) = w24 at E hN7 hN8 ⊢
              generalize w23.heap.size = g7 at hl7 hN7 hd7 ⊢
              refine onlySkip 8 (w24.setRow g7 (bs A)) _ (by kernel_rfl) rfl rfl rfl (exec_store_row (P := Try.prog) (w := w24) 25 (.tmp 7) (.tmp 28) g7 (bs A) hN7 (infoB16 A HLA.out) (zb16_size A HLA.out) (bs_one A) rfl rfl rfl) (E.other hl7 _).s ?_
              replace E := E.other hl7 (bs A)
              replace hN7 := hN7.setRow (bs A)
              replace hN8 := hN8.setRow_other (g' := g7) (by omega) (bs A)
              generalize w24.setRow g7 (bs A) = w25 at E hN7 hN8 ⊢
              simp only [Act.put]
              refine onlySkip 9 (w25.setRow g8 (bs B)) _ (by kernel_rfl) rfl rfl rfl (exec_store_row (P := Try.prog) (w := w25) 25 (.tmp 8) (.tmp 31) g8 (bs B) hN8 (infoB16 B HLB.out) (zb16_size B HLB.out) (bs_one B) rfl rfl rfl) (E.other hl8 _).s ?_
              replace E := E.other hl8 (bs B)
              replace hN8 := hN8.setRow (bs B)
              replace hN7 := hN7.setRow_other (g' := g8) (by omega) (bs B)
              generalize w25.setRow g8 (bs B) = w26 at E hN7 hN8 ⊢
              simp only [Act.put]
              refine wpAnyH_done (by kernel_rfl) ?_ _
              refine NoPanic.normal ?_
              go_wp2_with fail
              go_meet
              exact ⟨g7, g8, rfl, rfl, hN7, hN8, E⟩
            · have hN7 : Has (w22.alloc (.cells zb16 25)) w22.heap.size 25 zb16 := Has.fresh w22 25 _
              have hl7 := E.2.1.lt
              have hd7 := hN8.lt
              replace hN8 := hN8.alloc (.cells zb16 25)
              replace E := E.step ((Below.refl _ _).alloc (Nat.le_refl _) (.cells zb16 25))
              refine wpOp_val (d := 7) (v := .pointer (some ⟨w22.heap.size, 0, none⟩)) (w' := w22.alloc (.cells zb16 25)) rfl rfl rfl (exec_alloc16 rfl) ⟨E.s, ?_⟩
              simp only [Act.put, List.setIfInBounds_toArray, List.set_cons_zero, List.set_cons_succ]
              generalize w22.alloc (.cells zb16 25) = w23 at E hN7 hN8 ⊢
              generalize w22.heap.size = g7 at hl7 hN7 hd7 ⊢
              have hcall := HS2.out w23
              refine onlyCall 5 31 _ _ _ (by kernel_rfl) rfl rfl rfl (by go_simp) hcall ?_
              rintro e w24 ⟨rfl, hb1⟩
              replace E := E.step hb1
              replace hN7 := hN7.below hb1 hN7.lt
              replace hN8 := hN8.below hb1 hN8.lt
              refine ⟨_, rfl, E.s, ?_⟩
              simp only [Act.put, List.setIfInBounds_toArray, List.set_cons_zero, List.set_cons_succ]
              clear hb1
              clear hcall
              refine onlySkip 8 (w24.setRow g7 (bs A)) _ (by kernel_rfl) rfl rfl rfl (exec_store_row (P := Try.prog) (w := w24) 25 (.tmp 7) (.tmp 28) g7 (bs A) hN7 (infoB16 A HLA.out) (zb16_size A HLA.out) (bs_one A) rfl rfl rfl) (E.other hl7 _).s ?_
              replace E := E.other hl7 (bs A)
              replace hN7 := hN7.setRow (bs A)
              replace hN8 := hN8.setRow_other (g' := g7) (by omega) (bs A)
              generalize w24.setRow g7 (bs A) = w25 at E hN7 hN8 ⊢
              simp only [Act.put]
              refine onlySkip 9 (w25.setRow g8 (bs B)) _ (by kernel_rfl) rfl rfl rfl (exec_store_row (P := Try.prog) (w := w25) 25 (.tmp 8) (.tmp 31) g8 (bs B) hN8 (infoB16 B HLB.out) (zb16_size B HLB.out) (bs_one B) rfl rfl rfl) (E.other hl8 _).s ?_
              replace E := E.other hl8 (bs B)
              replace hN8 := hN8.setRow (bs B)
              replace hN7 := hN7.setRow_other (g' := g8) (by omega) (bs B)
              generalize w25.setRow g8 (bs B) = w26 at E hN7 hN8 ⊢
              simp only [Act.put]
              refine wpAnyH_done (by kernel_rfl) ?_ _
              refine NoPanic.normal ?_
              go_wp2_with fail
              go_meet
              exact ⟨g7, g8, rfl, rfl, hN7, hN8, E⟩
          · have hN7 : Has (w21.alloc (.cells zb16 25)) w21.heap.size 25 zb16 := Has.fresh w21 25 _
            have hl7 := E.2.1.lt
            have hd7 := hN8.lt
            replace hN8 := hN8.alloc (.cells zb16 25)
            replace E := E.step ((Below.refl _ _).alloc (Nat.le_refl _) (.cells zb16 25))
            refine wpOp_val (d := 7) (v := .pointer (some ⟨w21.heap.size, 0, none⟩)) (w' := w21.alloc (.cells zb16 25)) rfl rfl rfl (exec_alloc16 rfl) ⟨E.s, ?_⟩
            simp only [Act.put, List.setIfInBounds_toArray, List.set_cons_zero, List.set_cons_succ]
            generalize w21.alloc (.cells zb16 25) = w22 at E hN7 hN8 ⊢
            generalize w21.heap.size = g7 at hl7 hN7 hd7 ⊢
            have hcall := HS1.out w22
            refine onlyCall 2 28 _ _ _ (by kernel_rfl) rfl rfl rfl (by go_simp) hcall ?_
            rintro e w23 ⟨rfl, hb1⟩
            replace E := E.step hb1
            replace hN7 := hN7.below hb1 hN7.lt
            replace hN8 := hN8.below hb1 hN8.lt
            refine ⟨_, rfl, E.s, ?_⟩
            simp only [Act.put, List.setIfInBounds_toArray, List.set_cons_zero, List.set_cons_succ]
            clear hb1
            clear hcall
            have hcall := HS2.out w23
            refine onlyCall 5 31 _ _ _ (by kernel_rfl) rfl rfl rfl (by go_simp) hcall ?_
            rintro e w24 ⟨rfl, hb1⟩
            replace E := E.step hb1
            replace hN7 := hN7.below hb1 hN7.lt
            replace hN8 := hN8.below hb1 hN8.lt
            refine ⟨_, rfl, E.s, ?_⟩
            simp only [Act.put, List.setIfInBounds_toArray, List.set_cons_zero, List.set_cons_succ]
            clear hb1
            clear hcall
            refine onlySkip 8 (w24.setRow g7 (bs A)) _ (by kernel_rfl) rfl rfl rfl (exec_store_row (P := Try.prog) (w := w24) 25 (.tmp 7) (.tmp 28) g7 (bs A) hN7 (infoB16 A HLA.out) (zb16_size A HLA.out) (bs_one A) rfl rfl rfl) (E.other hl7 _).s ?_
            replace E := E.other hl7 (bs A)
            replace hN7 := hN7.setRow (bs A)
            replace hN8 := hN8.setRow_other (g' := g7) (by omega) (bs A)
            generalize w24.setRow g7 (bs A) = w25 at E hN7 hN8 ⊢
            simp only [Act.put]
            refine onlySkip 9 (w25.setRow g8 (bs B)) _ (by kernel_rfl) rfl rfl rfl (exec_store_row (P := Try.prog) (w := w25) 25 (.tmp 8) (.tmp 31) g8 (bs B) hN8 (infoB16 B HLB.out) (zb16_size B HLB.out) (bs_one B) rfl rfl rfl) (E.other hl8 _).s ?_
            replace E := E.other hl8 (bs B)
            replace hN8 := hN8.setRow (bs B)
            replace hN7 := hN7.setRow_other (g' := g8) (by omega) (bs B)
            generalize w25.setRow g8 (bs B) = w26 at E hN7 hN8 ⊢
            simp only [Act.put]
            refine wpAnyH_done (by kernel_rfl) ?_ _
            refine NoPanic.normal ?_
            go_wp2_with fail
            go_meet
            exact ⟨g7, g8, rfl, rfl, hN7, hN8, E⟩
      case rest =>
        clear E
        obtain ⟨g7, g8, rfl, rfl, i7, i8, E⟩ := hcut
        obtain ⟨i1, _, _, hb⟩ := E
        have HJ := Lib.hid (And.intro i7 (And.intro i8 (And.intro i1 hb)))
        clear i7 i8 i1 hb
        go_wp2_with fail
        go_loopw [9, 10] (fun cv i wr => ∃ (j : Nat) (c : Nat), j ≤ 16 ∧ i = .int .i64 (j : Int) ∧ cv = .int .i64 (c : Int) ∧ c = (N % 256 ^ j + T % 256 ^ j) / 256 ^ j ∧ Has wr g7 25 (bs A) ∧ Has wr g8 25 (bs B) ∧ Has wr w.heap.size 23 (bs k) ∧ Below w.heap.size w wr) (fun _ i _ => 16 - (intOf i).toNat)
        case atStart => exact ⟨0, 0, by omega, rfl, rfl, by simp [Nat.mod_one], HJ.out⟩
        case round =>
          clear HJ
          obtain ⟨j, c, hj, rfl, rfl, hc, i7, i8, i1, hb⟩ := hrel
          by_cases hlt : j < 16
          · have t3 : decide ((j : Int) < 16) = true := by simp; omega
            have h16 : ¬ ((16 : Int) ≤ (j : Int)) := by omega
            have hq : IntKind.i64.wrap (16 + (j : Int)) = ((16 + j : Nat) : Int) := by rw [IntWalk.i64_in _ (by omega)]; omega
            have hq32 : ¬ ((32 : Int) ≤ ((16 + j : Nat) : Int)) := by omega
            obtain ⟨st1, st2⟩ := carry_step N T (256 ^ j) (Nat.pow_pos (by omega))
            rw [← hc, ← HGA.out j hlt, ← HGK.out j hlt, ← HGB.out j hlt] at st1
            rw [← hc, ← HGA.out j hlt, ← HGK.out j hlt, ← Nat.pow_succ] at st2
            have c7 := i7.drew.byte j (by rw [HLA.out]; omega)
            have c1 := i1.drew.byte (16 + j) (by rw [HK.out]; omega)
            have c8 := i8.drew.byte j (by rw [HLB.out]; omega)
            have ha := (A.getD j 0).toNat_lt
            have hkk := (k.getD (16 + j) 0).toNat_lt
            have hcc : c ≤ 1 := by
              have h1 := Nat.mod_lt N (Nat.pow_pos (n := j) (show 0 < 256 by omega))
              have h2 := Nat.mod_lt T (Nat.pow_pos (n := j) (show 0 < 256 by omega))
              rw [hc]
              refine Nat.le_of_lt_succ (Nat.div_lt_of_lt_mul ?_)
              omega
            generalize A.getD j 0 = a at st1 st2 c7 ha
            generalize k.getD (16 + j) 0 = x at st1 st2 c1 hkk
            generalize B.getD j 0 = y at st1 c8
            have hsum : (c : Int) + (a.toNat : Int) + (x.toNat : Int) = ((c + a.toNat + x.toNat : Nat) : Int) := by omega
            generalize hm : c + a.toNat + x.toNat = m at *
            have hby : IntKind.u8.wrap (m : Int) = (y.toNat : Int) := by rw [IntKind.wrap_u8']; omega
            have hdv : (m : Int).tdiv 256 = ((m / 256 : Nat) : Int) := tdivN m 256
            have hml : m < 600 := by omega
            generalize hqq : 16 + j = q at *
            generalize hm2 : m / 256 = m2 at *
            have HST := Lib.hid st2
            have HSM := Lib.hid hsum
            clear hsum
            have HI := Lib.hid (And.intro i7.drew (And.intro i8.drew (And.intro i1.drew hb.drew)))
            clear st1 st2 i7 i8 i1 hb hc
            go_wp2_with fail
            go_region
            rw [HSM.out]
            go_wp2
            go_roundw
            case rel =>
              iterate 27 apply Exists.intro
              refine ⟨?_, rfl⟩
              exact ⟨j + 1, m2, by omega, by go_num, rfl, HST.out, HI.out⟩
            case measure => simp [intOf]; omega
          · have hj2 : j = 16 := by omega
            subst hj2
            have t3 : decide (((16 : Nat) : Int) < 16) = false := by decide
            clear hc i7 i8 i1
            go_wp2
            go_ret
            exact ⟨rfl, hb⟩
theorem addsLaw_any (k : List UInt8) (hk : k.length = 32) (s : ByteArray) (w : World) :
    Calls Try.prog 7 #[.agg (bs k), .string s] w fun e w' => e = .returned (.bool true) ∧ Below w.heap.size w w' := by
  rcases Nat.lt_or_ge 400 s.size with h | h
  · exact adds_over k s h w
  · exact adds_short k hk s h w
end Go.Proofs.Ytenpohoekgfeaaa
