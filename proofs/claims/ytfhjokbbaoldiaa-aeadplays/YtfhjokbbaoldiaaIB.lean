/- causeyref04.Times: walked. -/
import Derived.Test.YtfhjokbbaoldiaaIA
import Derived.Test.YtfhjokbbaoldiaaPD
namespace Go.Proofs.Ytfhjokbbaoldiaa
open Go.RowKit
set_option maxHeartbeats 1000000 in
theorem times_any (A B : List Nat) (dA : Dig 256 A) (dB : Dig 256 B) (hA0 : 0 < A.length) (hB0 : 0 < B.length) (hA1 : A.length ≤ 1000) (hB1 : B.length ≤ 1000) (va vb : Value) (w : World) (RA : Rd w.heap.size w va A) (RB : Rd w.heap.size w vb B) :
    Calls Try.prog 45 #[va, vb] w fun e w' => ∃ v o, e = .returned v ∧ Rd w'.heap.size w' v o ∧ o.length = A.length + B.length ∧ Dig 256 o ∧ num 256 o = num 256 A * num 256 B ∧ Below w.heap.size w w' := by
  obtain ⟨aa, capA, rfl, hcA, hA⟩ := RA
  obtain ⟨ga, rfl, hga, cellA⟩ := hA hA0
  obtain ⟨ab, capB, rfl, hcB, hB⟩ := RB
  obtain ⟨gb, rfl, hgb, cellB⟩ := hB hB0
  obtain ⟨n, hn⟩ : ∃ n, n = A.length + B.length := ⟨_, rfl⟩
  have hmk := make_ints n (by omega) w
  have hnn : IntKind.i64.wrap ((A.length : Int) + (B.length : Int)) = (n : Int) := by rw [IntWalk.i64_in _ (by omega)]; omega
  obtain ⟨la, hla⟩ : ∃ la, la = A.length := ⟨_, rfl⟩
  obtain ⟨lb, hlb⟩ : ∃ lb, lb = B.length := ⟨_, rfl⟩
  rw [← hla, ← hlb] at hnn
  have hE : Has (w.alloc (.cells (is (List.replicate n 0)) 3)) w.heap.size 3 (is (List.replicate n 0)) := Has.fresh w 3 _
  have hb : Below w.heap.size w (w.alloc (.cells (is (List.replicate n 0)) 3)) := (Below.refl _ _).alloc (Nat.le_refl _) _
  have HA := Lib.hid cellA
  have HB := Lib.hid cellB
  have HLA := Lib.hid hla
  have HLB := Lib.hid hlb
  have hnl : n = la + lb := by omega
  have hn1 : n ≤ la + lb := by omega
  have hn2 : la + lb ≤ n := by omega
  have hla0 : 0 < la ∧ la ≤ 1000 := by omega
  have hlb0 : 0 < lb ∧ lb ≤ 1000 := by omega
  rw [← hla, ← hlb, ← hnl]
  rw [← hla] at hcA
  rw [← hlb] at hcB
  clear cellA cellB hA hB hla hlb hn hnl hA0 hB0 hA1 hB1
  go_enter Try.func45, Try.ntmps45
  go_upto_region 2 with fail
  generalize w.alloc (.cells (is (List.replicate n 0)) 3) = w0 at hE hb ⊢
  clear hmk hnn
  go_wp2
  go_loopw [6] (fun i wr => ∃ (a : Nat) (o : List Nat), a ≤ la ∧ i = .int .i64 (a : Int) ∧ o.length = n ∧ Dig 256 o ∧ num 256 o = num 256 (A.take a) * num 256 B ∧ Has wr w.heap.size 3 (is o) ∧ Below w.heap.size w wr) (fun i _ => la - (intOf i).toNat)
  case atStart => exact ⟨0, _, by omega, rfl, List.length_replicate, Dig.zeros _ (by omega) _, by rw [num_zeros]; simp [num], hE, hb⟩
  case round =>
    clear hE hb w0
    obtain ⟨a, o, ha, rfl, lo, do', hn, hE, hb⟩ := hrel
    by_cases hlt : a < la
    · have t1 : decide ((a : Int) < (la : Int)) = true := by simp; omega
      have hP : num 256 (A.take a) < 256 ^ a := by
        have := num_lt 256 _ (dA.take a)
        rw [List.length_take, ← HLA.out, Nat.min_eq_left (by omega)] at this
        exact this
      have hY : num 256 B < 256 ^ lb := by
        have := num_lt 256 _ dB
        rw [← HLB.out] at this
        exact this
      have h0 := mul_top 256 (by omega) o a lb _ (num 256 B) (by omega) do' hn hP hY
      have hnx := num_take_succ 256 A a (by rw [← HLA.out]; omega)
      have hxa : A.getD a 0 < 256 := dA.getD (by omega) a
      generalize num 256 (A.take a) = P0 at hn hnx
      have HNX := Lib.hid hnx
      clear hnx hP hY
      have hstart : num 256 o + 0 * 256 ^ (a + 0) = P0 * num 256 B + A.getD a 0 * num 256 (B.take 0) * 256 ^ a := by simp [num, hn]
      go_wp2_with fail
      go_loopw [7, 8] (fun cv jv wi => ∃ (b c : Nat) (o : List Nat), b ≤ lb ∧ jv = .int .i64 (b : Int) ∧ cv = .int .i64 (c : Int) ∧ c < 256 ∧ o.length = n ∧ Dig 256 o ∧ num 256 o + c * 256 ^ (a + b) = P0 * num 256 B + A.getD a 0 * num 256 (B.take b) * 256 ^ a ∧ o.getD (a + lb) 0 = 0 ∧ Has wi w.heap.size 3 (is o) ∧ Below w.heap.size w wi) (fun _ j _ => lb - (intOf j).toNat)
      case atStart => exact ⟨0, 0, o, by omega, rfl, rfl, by omega, lo, do', hstart, h0, hE, hb⟩
      case round =>
        clear hstart hE hb h0 hn do' lo o
        obtain ⟨b, c, o, hb, rfl, rfl, hc, lo, do', hn, h0, hE, hbl⟩ := hrel
        by_cases hlt2 : b < lb
        · have t2 : decide ((b : Int) < (lb : Int)) = true := by simp; omega
          have hbl2 := hbl.drew
          have c1 := hE.drew.i64 (a + b) (by omega)
          have c2 := (hbl2.cell (p := ⟨ga, a, none⟩) hga).trans (HA.out a (by rw [← HLA.out]; omega))
          have c3 := (hbl2.cell (p := ⟨gb, b, none⟩) hgb).trans (HB.out b (by rw [← HLB.out]; omega))
          have h1 : o.getD (a + b) 0 < 256 := do'.getD (by omega) _
          have h2 : B.getD b 0 < 256 := dB.getD (by omega) b
          obtain ⟨s, hs⟩ : ∃ s, s = A.getD a 0 * B.getD b 0 + o.getD (a + b) 0 + c := ⟨_, rfl⟩
          have hst := mul_round 256 o a b c (P0 * num 256 B) (A.getD a 0) (B.getD b 0) (num 256 (B.take b)) s (by omega) hn hs
          rw [← num_take_succ 256 B b (by rw [← HLB.out]; omega)] at hst
          have hpp : A.getD a 0 * B.getD b 0 ≤ 255 * 255 := Nat.mul_le_mul (by omega) (by omega)
          have hs1 : s / 256 < 256 := by omega
          have hs2 : s % 256 < 256 := Nat.mod_lt _ (by omega)
          have hlo : (o.set (a + b) (s % 256)).length = n := by rw [List.length_set, lo]
          have hdo := do'.set (a + b) hs2
          have h00 : (o.set (a + b) (s % 256)).getD (a + lb) 0 = 0 := by rw [getD_set_other _ _ _ _ (by omega)]; exact h0
          have hq : IntKind.i64.wrap ((a : Int) + (b : Int)) = ((a + b : Nat) : Int) := by rw [IntWalk.i64_in _ (by omega)]; omega
          have hqn : ¬ ((n : Int) ≤ ((a + b : Nat) : Int)) := by omega
          have hqm : a + b < n := by omega
          have han : ¬ ((la : Int) ≤ (a : Int)) := by omega
          have hbn : ¬ ((lb : Int) ≤ (b : Int)) := by omega
          have hmul : (A.getD a 0 : Int) * (B.getD b 0 : Int) = ((A.getD a 0 * B.getD b 0 : Nat) : Int) := mulN _ _
          have f1 := hE.drew.frozen (a + b)
          have j1 := hE.drew.setI (a + b) (s % 256)
          have jb := hbl2.setCell (p := ⟨w.heap.size, a + b, none⟩) (Nat.le_refl _) (I64 (s % 256))
          have hrem : (s : Int).tmod 256 = ((s % 256 : Nat) : Int) := tmodI s 256
          have hquo : (s : Int).tdiv 256 = ((s / 256 : Nat) : Int) := tdivI s 256
          have hsl : s < 70000 := by omega
          generalize A.getD a 0 * B.getD b 0 = p at hs hpp hmul
          have hsum : (c : Int) + (o.getD (a + b) 0 : Int) + (p : Int) = (s : Int) := by omega
          generalize hs0 : s % 256 = s0 at *
          generalize hs11 : s / 256 = s1 at *
          generalize A.getD a 0 = x at *
          generalize B.getD b 0 = y at *
          generalize o.getD (a + b) 0 = m at *
          have HS := Lib.hid hst
          have HLO := Lib.hid hlo
          have HDO := Lib.hid hdo
          have H00 := Lib.hid h00
          have HJ := Lib.hid (And.intro j1 jb)
          have HSUM := Lib.hid hsum
          generalize hqq : a + b = q at *
          clear hst hlo hdo h00 j1 jb hsum hE hbl hbl2 lo do' hn h0 hs
          go_wp2_with fail
          go_region
          rw [HSUM.out]
          go_wp2
          go_roundw
          case rel => exact ⟨b + 1, s1, _, by omega, by go_num, rfl, hs1, HLO.out, HDO.out, HS.out, H00.out, HJ.out⟩
          case measure => simp [intOf]; omega
        · have hb3 : b = lb := by omega
          subst hb3
          rw [List.take_of_length_le (by rw [HLB.out]; exact Nat.le_refl _)] at hn
          have hrow := mul_row 256 o a b c P0 (A.getD a 0) (num 256 B) (by omega) hn h0
          rw [← HNX.out] at hrow
          have hlo : (o.set (a + b) c).length = n := by rw [List.length_set, lo]
          have hdo := do'.set (a + b) hc
          have cc := hE.i64 (a + b) (by omega)
          have ff := hE.frozen (a + b)
          have hq : IntKind.i64.wrap ((a : Int) + (b : Int)) = ((a + b : Nat) : Int) := by rw [IntWalk.i64_in _ (by omega)]; omega
          have hqn : ¬ ((n : Int) ≤ ((a + b : Nat) : Int)) := by omega
          have t2 : decide ((b : Int) < (b : Int)) = false := by simp
          have j1 := hE.setI (a + b) c
          have jb := hbl.setCell (p := ⟨w.heap.size, a + b, none⟩) (Nat.le_refl _) (I64 c)
          generalize o.getD (a + b) 0 = m at cc
          have HJ := Lib.hid (And.intro j1 jb)
          have HROW := Lib.hid hrow
          have HLO := Lib.hid hlo
          have HDO := Lib.hid hdo
          clear j1 jb hrow hlo hdo hn h0 lo do' hE hbl
          have hqm : a + b < n := by omega
          generalize hqq : a + b = q at *
          go_wp2
          go_roundw
          case rel => exact ⟨a + 1, _, by omega, by go_num, HLO.out, HDO.out, HROW.out, HJ.out⟩
          case measure => simp [intOf]; omega
    · have ha3 : a = la := by omega
      subst ha3
      rw [List.take_of_length_le (by rw [HLA.out]; exact Nat.le_refl _)] at hn
      have hrd := hE.rdI
      rw [lo] at hrd
      have t1 : decide ((a : Int) < (a : Int)) = false := by simp
      have HR := Lib.hid (And.intro hrd (And.intro lo (And.intro do' (And.intro hn hb))))
      clear hrd lo do' hn hb hE
      go_wp2
      go_ret
      exact ⟨_, o, rfl, HR.out⟩
end Go.Proofs.Ytfhjokbbaoldiaa
