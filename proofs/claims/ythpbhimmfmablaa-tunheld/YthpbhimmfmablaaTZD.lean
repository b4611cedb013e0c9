/- The law TunHeld: walked. -/
import Derived.Test.YthpbhimmfmablaaTZC
import Derived.Test.YthpbhimmfmablaaMP
namespace Go.Proofs.Ythpbhimmfmablaa
open Go.RowKit
set_option maxRecDepth 20000 in
set_option maxHeartbeats 1000000 in
theorem held12_no (n : Nat) (s : ByteArray) (h2 : s.size ≤ 512 ∨ 1536 < s.size) (w : World) : Calls Try.prog 8 #[.int .u8 (n : Int), .string s] w fun e w' => e = .returned (.bool true) ∧ Below w.heap.size w w' := by
  have AW := Lib.hid awake12_any
  by_cases h3 : s.size ≤ 512
  · have t2 : (s.size : Int) ≤ 512 := by omega
    clear h2
    go_enter Try.func8, Try.ntmps8
    go_wp2_with fail
    refine (AW.out _).mono ?_
    rintro e w1 ⟨rfl, hb1⟩
    have HB1 := Lib.hid hb1
    clear hb1
    go_wp2_with fail
    refine (AW.out _).mono ?_
    rintro e w2 ⟨rfl, hb2⟩
    have HB := Lib.hid (HB1.out.trans (hb2.mono HB1.out.size))
    clear hb2
    go_wp2
    go_ret
    exact ⟨rfl, HB.out⟩
  · have t2 : ¬ (s.size : Int) ≤ 512 := by omega
    have t3 : (1536 : Int) < (s.size : Int) := by omega
    clear h2
    go_enter Try.func8, Try.ntmps8
    go_wp2_with fail
    refine (AW.out _).mono ?_
    rintro e w1 ⟨rfl, hb1⟩
    have HB1 := Lib.hid hb1
    clear hb1
    go_wp2_with fail
    refine (AW.out _).mono ?_
    rintro e w2 ⟨rfl, hb2⟩
    have HB := Lib.hid (HB1.out.trans (hb2.mono HB1.out.size))
    clear hb2
    go_wp2
    go_ret
    exact ⟨rfl, HB.out⟩
set_option maxRecDepth 20000 in
set_option maxHeartbeats 1000000 in
theorem held12_go (n : Nat) (hn : n < 256) (s : ByteArray) (h1 : 512 < s.size) (h2 : s.size ≤ 1536) (w : World) : Calls Try.prog 8 #[.int .u8 (n : Int), .string s] w fun e w' => e = .returned (.bool true) ∧ Below w.heap.size w w' := by
  have AW := Lib.hid awake12_any
  have t2 : ¬ (s.size : Int) ≤ 512 := by omega
  have t3 : ¬ (1536 : Int) < (s.size : Int) := by omega
  have cc := fun (i : Nat) (hi : i < 20) W => cut_any i (by omega) s (by omega) h2 W
  have hc2 : 2 ≤ pieceN s.size := by unfold pieceN; omega
  have hc3 : pieceN s.size ≤ 3 := by unfold pieceN; omega
  have hl := fun i => cutL_length i s
  have htk : ∀ (S : List TS) (i : Nat), i < 20 → takeS S ((cutL i s).getD 0 ⟨#[]⟩) = joinS S i (pieceN s.size) 0 (chunk s 0) := fun S i hi => by
    rw [cutL_get i s 0 (by omega)]
    exact take_piece S i (by omega) s (by omega) h2 0 (by omega)
  generalize pieceN s.size = c at *
  have h0 := stH_zero c (chunk s 0)
  have hst := heldS_step c (chunk s 0) hc2 hc3
  have htw := heldS_twice c (chunk s 0) hc2 hc3
  have hnw := heldS_new c (chunk s 0) hc2 hc3
  have hlen := stH_len c (chunk s 0)
  have hstt : ∀ i, i < 20 → takeS (stH c (chunk s 0) i) ((cutL i s).getD 0 ⟨#[]⟩) = (stH c (chunk s 0) (i + 1), [], false, 0) := fun i hi => by rw [htk _ i hi, hst]
  have htwt : ∀ k i, i < 20 → k ≤ 8 → i < k → takeS (stH c (chunk s 0) k) ((cutL i s).getD 0 ⟨#[]⟩) = (stH c (chunk s 0) k, [], false, 10) := fun k i hi hk hik => by rw [htk _ i hi, htw k i hk hik]
  have hnwt : ∀ k, 8 < k → (takeS (stH c (chunk s 0) k) ((cutL 0 s).getD 0 ⟨#[]⟩)).2 = ([], false, 0) := fun k hk => by rw [htk _ 0 (by omega), hnw 0 k (by omega)]
  clear htk hst htw hnw
  generalize stH c (chunk s 0) = ST at *
  have HL := Lib.hid (fun i => And.intro (hl i) (And.intro hc2 hc3))
  have HS := Lib.hid hstt
  have HT := Lib.hid htwt
  have HN := Lib.hid hnwt
  have HLEN := Lib.hid hlen
  have HZ := Lib.hid h0
  have CC := Lib.hid cc
  clear hl hc2 hc3 hstt htwt hnwt hlen h0 cc h1 h2
  obtain ⟨k, hk⟩ : ∃ k, n % 20 = k := ⟨_, rfl⟩
  have hk20 : k < 20 := by omega
  have HK : Hid ((n : Int) % 20 = (k : Int)) := by
    show (n : Int) % 20 = (k : Int)
    omega
  clear hk
  go_enter Try.func8, Try.ntmps8
  go_wp2_with fail
  refine (AW.out _).mono ?_
  rintro e w1 ⟨rfl, hb1⟩
  have HB1 := Lib.hid hb1
  clear hb1
  have hJ := JS.fresh w1
  rw [← HZ.out] at hJ
  have hbj : Below w1.heap.size w1 (w1.alloc (.cells #[.map none, .slice none 0 0] 41)) := (Below.refl _ _).alloc (Nat.le_refl _) _
  have HJ := Lib.hid (And.intro hJ hbj)
  clear hJ hbj
  go_upto_region 5 with fail
  rw [HK.out]
  clear HK
  generalize w1.alloc (.cells #[.map none, .slice none 0 0] 41) = w3 at HJ ⊢
  obtain ⟨jb, hjb⟩ : ∃ jb, w1.heap.size = jb := ⟨_, rfl⟩
  rw [hjb] at HJ
  have HJB := Lib.hid hjb
  rw [hjb]
  clear hjb
  go_wp2
  go_loopw [7] (fun i wr => ∃ (j : Nat) (F : List Nat), j ≤ k ∧ i = .int .i64 (j : Int) ∧ JS jb wr jb F (ST j) ∧ Below jb w1 wr) (fun i _ => k - (intOf i).toNat)
  case atStart => exact ⟨0, _, by omega, rfl, HJ.out.1, HJ.out.2⟩
  case round =>
    obtain ⟨j, F, hj, rfl, hJ, hB⟩ := hrel
    by_cases hlt : j < k
    · have t4 : (j : Int) < (k : Int) := by omega
      have t5 : decide ((j : Int) < (k : Int)) = true := by simp; omega
      have hcb : jb ≤ wr.heap.size := by have := hB.size; have := HJB.out; omega
      have HJ2 := Lib.hid (And.intro hJ (And.intro hB hcb))
      clear hJ hB hcb
      go_wp2_with fail
      refine (CC.out j (by omega) _).mono ?_
      rintro e wa ⟨rfl, hba, hha⟩
      have hlc := HL.out j
      have c0 : wa.cell? ⟨wr.heap.size, 0, none⟩ = some (.string ((cutL j s).getD 0 ⟨#[]⟩)) := hha.text 0 (by omega)
      have hca : jb ≤ wa.heap.size := Nat.le_trans HJ2.out.2.2 hba.size
      have htw := take_any (HJ2.out.1.step hba) hca ((cutL j s).getD 0 ⟨#[]⟩)
      rw [HS.out j (by omega)] at htw
      have hBa : Below jb w1 wa := HJ2.out.2.1.trans (hba.mono HJ2.out.2.2)
      have HBA := Lib.hid (And.intro hBa (And.intro hca (HJ2.out.1.base)))
      generalize (cutL j s).getD 0 ⟨#[]⟩ = piece at c0 htw
      generalize wr.heap.size = gl at c0 ⊢
      have HTW := Lib.hid htw
      have c2 : ¬ (c : Int) < 2 := by omega
      have c1 : (0 : Int) < (c : Int) := by omega
      clear hlc htw hca hBa hba hha
      go_wp2_with fail
      refine HTW.out.mono ?_
      rintro e wb ⟨Fb, rfl, hJb, hKb, hFb⟩
      have hBb : Below jb w1 wb := HBA.out.1.trans (hKb.below jb HBA.out.2.1 HBA.out.2.2)
      have hh := held_any hJb
      rw [HLEN.out] at hh
      have HJb := Lib.hid (And.intro hJb hBb)
      have HH := Lib.hid hh
      clear HTW c0 hJb hKb hFb hBb hh
      go_wp2_with (go_at_call 14; refine HH.out.mono ?_; rintro e wc ⟨rfl, rfl⟩)
      refine ⟨⟨j + 1, Fb, by omega, by go_num, HJb.out.1, HJb.out.2⟩, by simp [intOf]; omega⟩
    · have hjk : j = k := by omega
      subst hjk
      have t5 : decide ((j : Int) < (j : Int)) = false := by simp
      have HJ3 := Lib.hid (And.intro hJ hB)
      clear hJ hB hlt HJ hj
      go_wp2
      go_loopw [13] (fun i wq => ∃ (i' : Nat) (F : List Nat) (S : List TS), i' ≤ j ∧ i = .int .i64 (i' : Int) ∧ JS jb wq jb F S ∧ Below jb w1 wq ∧ (j ≤ 8 → S = ST j) ∧ (8 < j → i' = 0 → S = ST j)) (fun i _ => j - (intOf i).toNat)
      case atStart => exact ⟨0, F, ST j, by omega, rfl, HJ3.out.1, HJ3.out.2, fun _ => rfl, fun _ _ => rfl⟩
      case round =>
        obtain ⟨i, F2, S, hi, rfl, hJ, hB, hs8, hs9⟩ := hrel
        by_cases hlt : i < j
        · have t4 : (i : Int) < (j : Int) := by omega
          have t6 : decide ((i : Int) < (j : Int)) = true := by simp; omega
          have hcb : jb ≤ wr.heap.size := by have := hB.size; have := HJB.out; omega
          have hnow : (j ≤ 8 → (takeS S ((cutL i s).getD 0 ⟨#[]⟩)).1 = ST j ∧ (takeS S ((cutL i s).getD 0 ⟨#[]⟩)).2.2.2 = 10) ∧ (8 < j → i = 0 → (takeS S ((cutL i s).getD 0 ⟨#[]⟩)).2.2.2 = 0) := by
            refine ⟨fun h8 => ?_, fun h8 h0 => ?_⟩
            · rw [hs8 h8, HT.out j i (by omega) h8 hlt]
              exact ⟨rfl, rfl⟩
            · rw [hs9 h8 h0, h0, HN.out j h8]
          have HNOW := Lib.hid hnow
          have HJ2 := Lib.hid (And.intro hJ (And.intro hB hcb))
          clear hJ hB hcb hs8 hs9 hnow
          go_wp2_with fail
          refine (CC.out i (by omega) _).mono ?_
          rintro e wa ⟨rfl, hba, hha⟩
          have hlc := HL.out i
          have c0 : wa.cell? ⟨wr.heap.size, 0, none⟩ = some (.string ((cutL i s).getD 0 ⟨#[]⟩)) := hha.text 0 (by omega)
          have hca : jb ≤ wa.heap.size := Nat.le_trans HJ2.out.2.2 hba.size
          have htw := take_any (HJ2.out.1.step hba) hca ((cutL i s).getD 0 ⟨#[]⟩)
          have hBa : Below jb w1 wa := HJ2.out.2.1.trans (hba.mono HJ2.out.2.2)
          have HBA := Lib.hid (And.intro hBa (And.intro hca (HJ2.out.1.base)))
          generalize (cutL i s).getD 0 ⟨#[]⟩ = piece at c0 htw HNOW
          generalize takeS S piece = R at *
          obtain ⟨S', T, q, e'⟩ := R
          generalize wr.heap.size = gl at c0 ⊢
          have HTW := Lib.hid htw
          have c1 : (0 : Int) < (c : Int) := by omega
          clear hlc htw hca hBa hba hha
          go_wp2_with fail
          refine HTW.out.mono ?_
          rintro e wb ⟨Fb, rfl, hJb, hKb, hFb⟩
          have hBb : Below jb w1 wb := HBA.out.1.trans (hKb.below jb HBA.out.2.1 HBA.out.2.2)
          have HJb := Lib.hid (And.intro hJb hBb)
          clear HTW c0 hJb hKb hFb hBb HJ2 HBA
          have hfin : ∃ (j_1 : Nat) (F : List Nat) (S : List TS), j_1 ≤ j ∧ Value.int .i64 ((i : Int) + 1) = .int .i64 (j_1 : Int) ∧ JS jb wb jb F S ∧ Below jb w1 wb ∧ (j ≤ 8 → S = ST j) ∧ (8 < j → j_1 = 0 → S = ST j) :=
            ⟨i + 1, Fb, S', by omega, by go_num, HJb.out.1, HJb.out.2, fun h => (HNOW.out.1 h).1, fun _ h => by omega⟩
          have HF := Lib.hid hfin
          clear hfin
          have hdec : j - (intOf (Value.int .i64 ((i : Int) + 1))).toNat < j - (intOf (Value.int .i64 (i : Int))).toNat := by simp [intOf]; omega
          have HD := Lib.hid hdec
          clear hdec
          by_cases h8 : j ≤ 8
          · have he := (HNOW.out.1 h8).2
            subst he
            have a1 : (j : Int) - 8 ≤ (i : Int) := by omega
            have a2 : (j : Int) ≤ 8 := by omega
            have a3 : ¬ (8 : Int) < (j : Int) := by omega
            clear h8
            go_wp2
            exact ⟨HF.out, HD.out⟩
          · have a2 : ¬ (j : Int) ≤ 8 := by omega
            have a3 : (8 : Int) < (j : Int) := by omega
            by_cases h0 : i = 0
            · have he := HNOW.out.2 (by omega) h0
              subst he
              have a1 : ¬ (j : Int) - 8 ≤ (i : Int) := by omega
              have a0 : ((i : Int) == 0) = true := by rw [beq_iff_eq]; omega
              clear h8 h0
              go_wp2
              exact ⟨HF.out, HD.out⟩
            · have a0 : ((i : Int) == 0) = false := by rw [beq_eq_false_iff_ne]; omega
              by_cases h9 : (j : Int) - 8 ≤ (i : Int)
              · clear h8 h0
                go_wp2
                exact ⟨HF.out, HD.out⟩
              · clear h8 h0
                go_wp2
                exact ⟨HF.out, HD.out⟩
        · have hij : i = j := by omega
          subst hij
          have hbw : Below w.heap.size w wr := HB1.out.trans (hB.mono (by have := HB1.out.size; have := HJB.out; omega))
          have HBW := Lib.hid hbw
          clear hJ hB hlt hbw hs8 hs9
          go_wp2
          go_ret
          exact ⟨rfl, HBW.out⟩
theorem held12_any (n : Nat) (hn : n < 256) (s : ByteArray) (w : World) : Calls Try.prog 8 #[.int .u8 (n : Int), .string s] w fun e w' => e = .returned (.bool true) ∧ Below w.heap.size w w' := by
  by_cases h : s.size ≤ 512 ∨ 1536 < s.size
  · exact held12_no n s h w
  · exact held12_go n hn s (by omega) (by omega) w
end Go.Proofs.Ythpbhimmfmablaa
