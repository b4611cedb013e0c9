/- causeyref04.Plus: walked. -/
import Derived.Test.YtfhjokbbaoldiaaIB
namespace Go.Proofs.Ytfhjokbbaoldiaa
open Go.RowKit
theorem num_take_any (B : Nat) (l : List Nat) (i : Nat) : num B (l.take (i + 1)) = num B (l.take i) + l.getD i 0 * B ^ i := by
  rcases Nat.lt_or_ge i l.length with h | h
  · exact num_take_succ B l i h
  · rw [List.take_of_length_le (by omega), List.take_of_length_le h, List.getD_eq_getElem?_getD, List.getElem?_eq_none h]
    simp
theorem num_snoc (B : Nat) (l : List Nat) (y : Nat) : num B (l ++ [y]) = num B l + y * B ^ l.length := by
  rw [num_append]; simp [num, Nat.mul_comm]
set_option maxHeartbeats 1000000 in
theorem plus_any (A B : List Nat) (dA : Dig 256 A) (dB : Dig 256 B) (hA0 : 0 < A.length) (hB0 : 0 < B.length) (hA1 : A.length ≤ 1000) (hB1 : B.length ≤ 1000) (va vb : Value) (w : World) (RA : Rd w.heap.size w va A) (RB : Rd w.heap.size w vb B) :
    Calls Try.prog 46 #[va, vb] w fun e w' => ∃ v o, e = .returned v ∧ Rd w'.heap.size w' v o ∧ Dig 256 o ∧ num 256 o = num 256 A + num 256 B ∧ B.length ≤ o.length ∧ o.length ≤ max A.length B.length + 1 ∧ Below w.heap.size w w' := by
  obtain ⟨aa, capA, rfl, hcA, hA⟩ := RA
  obtain ⟨ga, rfl, hga, cellA⟩ := hA hA0
  obtain ⟨ab, capB, rfl, hcB, hB⟩ := RB
  obtain ⟨gb, rfl, hgb, cellB⟩ := hB hB0
  obtain ⟨la, hla⟩ : ∃ la, la = A.length := ⟨_, rfl⟩
  obtain ⟨lb, hlb⟩ : ∃ lb, lb = B.length := ⟨_, rfl⟩
  obtain ⟨mx, hmx⟩ : ∃ mx, mx = max A.length B.length := ⟨_, rfl⟩
  have HA := Lib.hid cellA
  have HB := Lib.hid cellB
  have HLA := Lib.hid hla
  have HLB := Lib.hid hlb
  have hm1 : la ≤ mx := by omega
  have hm2 : lb ≤ mx := by omega
  have hm3 : mx ≤ 1000 := by omega
  have hla0 : 0 < la := by omega
  have hlb0 : 0 < lb := by omega
  have hm4 : mx ≤ la ∨ mx ≤ lb := by omega
  rw [← hmx, ← hla, ← hlb]
  rw [← hla] at hcA
  rw [← hlb] at hcB
  clear cellA cellB hA hB hla hlb hA0 hB0 hA1 hB1 hmx
  go_enter Try.func46, Try.ntmps46
  go_wp2
  go_loopw [5, 6, 7] (fun ov cv iv wr => ∃ (i c : Nat) (l : List Nat), iv = .int .i64 (i : Int) ∧ cv = .int .i64 (c : Int) ∧ c ≤ 1 ∧ l.length = i ∧ i ≤ mx + 1 ∧ Dig 256 l ∧ num 256 l + c * 256 ^ i = num 256 (A.take i) + num 256 (B.take i) ∧ Ow w.heap.size wr ov l ∧ Below w.heap.size w wr ∧ (mx < i → c = 0)) (fun _ _ iv _ => mx + 1 - (intOf iv).toNat)
  case atStart => exact ⟨0, 0, [], rfl, rfl, by omega, rfl, by omega, Dig.nil _, by simp [num], Ow.nil _ _, Below.refl _ _, fun _ => rfl⟩
  case round =>
    obtain ⟨i, c, l, rfl, rfl, hc, ll, hi, do', hn, how, hbl, hcz⟩ := hrel
    obtain ⟨av, capv, rfl⟩ := how.form
    have HOW := Lib.hid how
    by_cases hex : i < la ∨ i < lb ∨ 0 < c
    · have him : i ≤ mx := by omega
      obtain ⟨s, hs⟩ : ∃ s, s = (A.getD i 0 + B.getD i 0) + c := ⟨_, rfl⟩
      have hst := step_add 256 (num 256 l) _ c i s hn (A.getD i 0 + B.getD i 0) hs
      have hnx : num 256 (l ++ [s % 256]) + s / 256 * 256 ^ (i + 1) = num 256 (A.take (i + 1)) + num 256 (B.take (i + 1)) := by
        rw [num_snoc, ll, num_take_any 256 A, num_take_any 256 B, hst, Nat.add_mul]
        omega
      have hrem : (s : Int).tmod 256 = ((s % 256 : Nat) : Int) := tmodI s 256
      have hquo : (s : Int).tdiv 256 = ((s / 256 : Nat) : Int) := tdivI s 256
      generalize hs0 : s % 256 = s0 at *
      generalize hs11 : s / 256 = s1 at *
      clear hst hn how
      by_cases hA : i < la
      · by_cases hB : i < lb
        · have t1 : decide ((i : Int) < (la : Int)) = true := by simp; omega
          have t2 : decide ((i : Int) < (lb : Int)) = true := by simp; omega
          have hai : ¬ ((la : Int) ≤ (i : Int)) := by omega
          have hbi : ¬ ((lb : Int) ≤ (i : Int)) := by omega
          have c2 := (hbl.cell (p := ⟨ga, i, none⟩) hga).trans (HA.out i (by rw [← HLA.out]; omega))
          have c3 := (hbl.cell (p := ⟨gb, i, none⟩) hgb).trans (HB.out i (by rw [← HLB.out]; omega))
          have hdA : A.getD i 0 < 256 := dA.getD (by omega) i
          have hdB : B.getD i 0 < 256 := dB.getD (by omega) i
          have hsum : (c : Int) + (A.getD i 0 : Int) + (B.getD i 0 : Int) = (s : Int) := by omega
          generalize A.getD i 0 = x at *
          generalize B.getD i 0 = y at *
          have hsl : s < 600 := by omega
          have hs1 : s1 ≤ 1 := by omega
          have hz : mx < i + 1 → s1 = 0 := by omega
          have hs2 : s0 < 256 := by omega
          have HNX := Lib.hid hnx
          clear hnx hs
          have HB2 := Lib.hid hbl
          have hle : (l ++ [s0]).length = i + 1 := by rw [List.length_append, ll]; rfl
          have HLE := Lib.hid hle
          clear hle
          go_wp2_with (at_builtin; refine wpList_app1 rfl (.tmp 44) (.tmp 47) rfl rfl (HOW.out.alloc _) wr.heap.size 1 s0 rfl ((Has.fresh wr 3 #[I64 s0]).cell 0) (by omega) (by simp; have := hbl.size; omega) ?_; intro v2 w2 hown2 hb2; obtain ⟨a2, cap2, hv2⟩ := hown2.form; rw [hv2] at hown2 ⊢)
          go_roundw
          case rel => exact ⟨i + 1, s1, l ++ [s0], by go_num, rfl, hs1, HLE.out, by omega, do'.append (Dig.one hs2), HNX.out, by rw [HLE.out] at hown2; exact hown2, (HB2.out.alloc HB2.out.size _).trans hb2, hz⟩
          case measure => simp [intOf]; omega
        · have t1 : decide ((i : Int) < (la : Int)) = true := by simp; omega
          have t2 : decide ((i : Int) < (lb : Int)) = false := by simp; omega
          have hai : ¬ ((la : Int) ≤ (i : Int)) := by omega
          have hbi : ((lb : Int) ≤ (i : Int)) := by omega
          have c2 := (hbl.cell (p := ⟨ga, i, none⟩) hga).trans (HA.out i (by rw [← HLA.out]; omega))
          have ey : B.getD i 0 = 0 := by rw [List.getD_eq_getElem?_getD, List.getElem?_eq_none (by rw [← HLB.out]; omega)]; rfl
          rw [ey] at hs
          have hdA : A.getD i 0 < 256 := dA.getD (by omega) i
          have hdB : B.getD i 0 < 256 := dB.getD (by omega) i
          have hsum : (c : Int) + (A.getD i 0 : Int) = (s : Int) := by omega
          generalize A.getD i 0 = x at *
          have hsl : s < 600 := by omega
          have hs1 : s1 ≤ 1 := by omega
          have hz : mx < i + 1 → s1 = 0 := by omega
          have hs2 : s0 < 256 := by omega
          have HNX := Lib.hid hnx
          clear hnx hs
          have HB2 := Lib.hid hbl
          have hle : (l ++ [s0]).length = i + 1 := by rw [List.length_append, ll]; rfl
          have HLE := Lib.hid hle
          clear hle
          go_wp2_with (at_builtin; refine wpList_app1 rfl (.tmp 44) (.tmp 47) rfl rfl (HOW.out.alloc _) wr.heap.size 1 s0 rfl ((Has.fresh wr 3 #[I64 s0]).cell 0) (by omega) (by simp; have := hbl.size; omega) ?_; intro v2 w2 hown2 hb2; obtain ⟨a2, cap2, hv2⟩ := hown2.form; rw [hv2] at hown2 ⊢)
          go_roundw
          case rel => exact ⟨i + 1, s1, l ++ [s0], by go_num, rfl, hs1, HLE.out, by omega, do'.append (Dig.one hs2), HNX.out, by rw [HLE.out] at hown2; exact hown2, (HB2.out.alloc HB2.out.size _).trans hb2, hz⟩
          case measure => simp [intOf]; omega
      · by_cases hB : i < lb
        · have t1 : decide ((i : Int) < (la : Int)) = false := by simp; omega
          have t2 : decide ((i : Int) < (lb : Int)) = true := by simp; omega
          have hai : ((la : Int) ≤ (i : Int)) := by omega
          have hbi : ¬ ((lb : Int) ≤ (i : Int)) := by omega
          have c3 := (hbl.cell (p := ⟨gb, i, none⟩) hgb).trans (HB.out i (by rw [← HLB.out]; omega))
          have ex : A.getD i 0 = 0 := by rw [List.getD_eq_getElem?_getD, List.getElem?_eq_none (by rw [← HLA.out]; omega)]; rfl
          rw [ex] at hs
          have hdA : A.getD i 0 < 256 := dA.getD (by omega) i
          have hdB : B.getD i 0 < 256 := dB.getD (by omega) i
          have hsum : (c : Int) + (B.getD i 0 : Int) = (s : Int) := by omega
          generalize B.getD i 0 = y at *
          have hsl : s < 600 := by omega
          have hs1 : s1 ≤ 1 := by omega
          have hz : mx < i + 1 → s1 = 0 := by omega
          have hs2 : s0 < 256 := by omega
          have HNX := Lib.hid hnx
          clear hnx hs
          have HB2 := Lib.hid hbl
          have hle : (l ++ [s0]).length = i + 1 := by rw [List.length_append, ll]; rfl
          have HLE := Lib.hid hle
          clear hle
          go_wp2_with (at_builtin; refine wpList_app1 rfl (.tmp 44) (.tmp 47) rfl rfl (HOW.out.alloc _) wr.heap.size 1 s0 rfl ((Has.fresh wr 3 #[I64 s0]).cell 0) (by omega) (by simp; have := hbl.size; omega) ?_; intro v2 w2 hown2 hb2; obtain ⟨a2, cap2, hv2⟩ := hown2.form; rw [hv2] at hown2 ⊢)
          go_roundw
          case rel => exact ⟨i + 1, s1, l ++ [s0], by go_num, rfl, hs1, HLE.out, by omega, do'.append (Dig.one hs2), HNX.out, by rw [HLE.out] at hown2; exact hown2, (HB2.out.alloc HB2.out.size _).trans hb2, hz⟩
          case measure => simp [intOf]; omega
        · have t1 : decide ((i : Int) < (la : Int)) = false := by simp; omega
          have t2 : decide ((i : Int) < (lb : Int)) = false := by simp; omega
          have t3 : decide ((0 : Int) < (c : Int)) = true := by simp; omega
          have t4 : (0 : Int) < (c : Int) := by omega
          have hai : ((la : Int) ≤ (i : Int)) := by omega
          have hbi : ((lb : Int) ≤ (i : Int)) := by omega
          have ex : A.getD i 0 = 0 := by rw [List.getD_eq_getElem?_getD, List.getElem?_eq_none (by rw [← HLA.out]; omega)]; rfl
          rw [ex] at hs
          have ey : B.getD i 0 = 0 := by rw [List.getD_eq_getElem?_getD, List.getElem?_eq_none (by rw [← HLB.out]; omega)]; rfl
          rw [ey] at hs
          have hdA : A.getD i 0 < 256 := dA.getD (by omega) i
          have hdB : B.getD i 0 < 256 := dB.getD (by omega) i
          have hsum : c = s := by omega
          have hsl : s < 600 := by omega
          have hs1 : s1 ≤ 1 := by omega
          have hz : mx < i + 1 → s1 = 0 := by omega
          have hs2 : s0 < 256 := by omega
          have HNX := Lib.hid hnx
          clear hnx hs
          subst hsum
          have HB2 := Lib.hid hbl
          have hle : (l ++ [s0]).length = i + 1 := by rw [List.length_append, ll]; rfl
          have HLE := Lib.hid hle
          clear hle
          go_wp2_with (at_builtin; refine wpList_app1 rfl (.tmp 44) (.tmp 47) rfl rfl (HOW.out.alloc _) wr.heap.size 1 s0 rfl ((Has.fresh wr 3 #[I64 s0]).cell 0) (by omega) (by simp; have := hbl.size; omega) ?_; intro v2 w2 hown2 hb2; obtain ⟨a2, cap2, hv2⟩ := hown2.form; rw [hv2] at hown2 ⊢)
          go_roundw
          case rel => exact ⟨i + 1, s1, l ++ [s0], by go_num, rfl, hs1, HLE.out, by omega, do'.append (Dig.one hs2), HNX.out, by rw [HLE.out] at hown2; exact hown2, (HB2.out.alloc HB2.out.size _).trans hb2, hz⟩
          case measure => simp [intOf]; omega
    · have t1 : decide ((i : Int) < (la : Int)) = false := by simp; omega
      have t2 : decide ((i : Int) < (lb : Int)) = false := by simp; omega
      have t3 : decide ((0 : Int) < (c : Int)) = false := by simp; omega
      have hc0 : c = 0 := by omega
      subst hc0
      rw [Nat.zero_mul, Nat.add_zero, List.take_of_length_le (by rw [← HLA.out]; omega), List.take_of_length_le (by rw [← HLB.out]; omega)] at hn
      have hrd := how.rd
      rw [ll] at hrd
      have HR := Lib.hid (And.intro hrd (And.intro do' (And.intro hn (And.intro (show lb ≤ l.length by omega) (And.intro (show l.length ≤ mx + 1 by omega) hbl)))))
      clear hrd do' hn hbl how
      go_wp2
      go_ret
      exact ⟨_, rfl, l, HR.out⟩
end Go.Proofs.Ytfhjokbbaoldiaa
