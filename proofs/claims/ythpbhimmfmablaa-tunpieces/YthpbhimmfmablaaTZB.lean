/- The law TunPieces: walked. -/
import Derived.Test.YthpbhimmfmablaaTZA
import Derived.Test.YthpbhimmfmablaaMP
namespace Go.Proofs.Ythpbhimmfmablaa
open Go.RowKit
theorem exec_neqS12 {P : Program} {o : Oper} {ev : Operand → Value} {w : World} (p q : Operand) (a b : ByteArray) (r : Bool) (hr : (a.data.toList == b.data.toList) = r) (ho : o.op = .binOp .neq 9 p q 9) (hp : ev p = .string a) (hq : ev q = .string b) : (execOp ev o).run P w = .ok (.value (.bool (!r))) w := by
  rw [← ByteArray.toList_eq, ← ByteArray.toList_eq] at hr
  unfold execOp
  simp only [ho, hp, hq]
  go_simp
set_option maxRecDepth 20000 in
set_option maxHeartbeats 1000000 in
theorem pieces_long (n t : Nat) (s : ByteArray) (back : Bool) (h : 2000 < s.size) (w : World) : Calls Try.prog 4 #[.int .u32 (n : Int), .string s, .int .u8 (t : Int), .bool back] w fun e w' => e = .returned (.bool true) ∧ Below w.heap.size w w' := by
  have AW := Lib.hid awake12_any
  have t1 : (2000 : Int) < (s.size : Int) := by omega
  go_enter Try.func4, Try.ntmps4
  go_wp2_with fail
  refine (AW.out _).mono ?_
  rintro e w1 ⟨rfl, hb1⟩
  have HB1 := Lib.hid hb1
  clear hb1
  go_wp2_with fail
  refine (AW.out _).mono ?_
  rintro e w2 ⟨rfl, hb2⟩
  have HB := Lib.hid (HB1.out.trans (hb2.mono HB1.out.size))
  clear hb2
  go_wp2
  go_ret
  exact ⟨rfl, HB.out⟩
set_option maxRecDepth 20000 in
set_option maxHeartbeats 1000000 in
theorem pieces_no (n t : Nat) (s : ByteArray) (back : Bool) (h : s.size ≤ 2000) (h2 : s.size < 1 ∨ 1536 < s.size) (w : World) : Calls Try.prog 4 #[.int .u32 (n : Int), .string s, .int .u8 (t : Int), .bool back] w fun e w' => e = .returned (.bool true) ∧ Below w.heap.size w w' := by
  have AW := Lib.hid awake12_any
  have t1 : ¬ (2000 : Int) < (s.size : Int) := by omega
  have HC := Lib.hid (fun W => cut_no n s h2 W)
  have H2 := Lib.hid h2
  clear h2
  by_cases h3 : s.size < 1
  · have t2 : (s.size : Int) < 1 := by omega
    go_enter Try.func4, Try.ntmps4
    go_wp2_with fail
    refine (AW.out _).mono ?_
    rintro e w1 ⟨rfl, hb1⟩
    have HB1 := Lib.hid hb1
    clear hb1
    go_wp2_with fail
    refine (HC.out _).mono ?_
    rintro e w2 ⟨rfl, rfl⟩
    go_wp2
    go_ret
    exact ⟨rfl, HB1.out⟩
  · have t2 : ¬ (s.size : Int) < 1 := by omega
    have t3 : (1536 : Int) < (s.size : Int) := by have := H2.out; omega
    go_enter Try.func4, Try.ntmps4
    go_wp2_with fail
    refine (AW.out _).mono ?_
    rintro e w1 ⟨rfl, hb1⟩
    have HB1 := Lib.hid hb1
    clear hb1
    go_wp2_with fail
    refine (HC.out _).mono ?_
    rintro e w2 ⟨rfl, rfl⟩
    go_wp2
    go_ret
    exact ⟨rfl, HB1.out⟩
set_option maxRecDepth 20000 in
set_option maxHeartbeats 1000000 in
theorem pieces_go (n t : Nat) (hn : n < 4294967296) (ht : t < 256) (s : ByteArray) (back : Bool) (h1 : 1 ≤ s.size) (h2 : s.size ≤ 1536) (w : World) : Calls Try.prog 4 #[.int .u32 (n : Int), .string s, .int .u8 (t : Int), .bool back] w fun e w' => e = .returned (.bool true) ∧ Below w.heap.size w w' := by
  have AW := Lib.hid awake12_any
  have t1 : ¬ (2000 : Int) < (s.size : Int) := by omega
  have t2 : ¬ (s.size : Int) < 1 := by omega
  have t3 : ¬ (1536 : Int) < (s.size : Int) := by omega
  have cc := fun W => cut_any n hn s h1 h2 W
  have hc1 : 1 ≤ pieceN s.size := by unfold pieceN; omega
  have hc3 : pieceN s.size ≤ 3 := by unfold pieceN; omega
  have hl := cutL_length n s
  have hget := cutL_get n s
  have htk := fun S i hi => take_piece S n hn s h1 h2 i hi
  have hjn := joinB_chunks s
  have hst := fun (r i : Nat) (hr : r < pieceN s.size) (hi : i < pieceN s.size) => steps n (pieceN s.size) r back (chunk s) i hc1 hc3 hr hi
  have hz : ∀ r, stP n (pieceN s.size) r back (chunk s) 0 = [] ∧ stP n (pieceN s.size) r back (chunk s) (pieceN s.size) = [] := fun r => ⟨by unfold stP; simp, by unfold stP; simp⟩
  have hkl : ∀ r i, kq (pieceN s.size) r back i < pieceN s.size := fun r i => by
    unfold kq
    have := Nat.mod_lt (i + r) (show 0 < pieceN s.size by omega)
    split <;> omega
  have htk2 : ∀ (S : List TS) (i : Nat), i < pieceN s.size → takeS S ((cutL n s).getD i ⟨#[]⟩) = joinS S n (pieceN s.size) i (chunk s i) := fun S i hi => by rw [hget i hi]; exact htk S i hi
  have hkd : ∀ r i, kq (pieceN s.size) r back i = if back then pieceN s.size - 1 - (i + r) % pieceN s.size else (i + r) % pieceN s.size := fun r i => rfl
  clear hget htk
  generalize pieceN s.size = c at *
  generalize cutL n s = L at *
  obtain ⟨r, hr⟩ : ∃ r, t % c = r := ⟨_, rfl⟩
  have hrc : r < c := by rw [← hr]; exact Nat.mod_lt _ (by omega)
  have HST := Lib.hid (fun i hi => hst r i hrc hi)
  have HZ := Lib.hid (hz r)
  have HKL := Lib.hid (hkl r)
  have HTK := Lib.hid htk2
  have HJN := Lib.hid hjn
  have HL := Lib.hid hl
  have CC := Lib.hid cc
  have HKD : Hid (∀ i, (if back then c - 1 - (i + t) % c else (i + t) % c) = kq c r back i) := fun i => by
    rw [hkd, ← hr, Nat.add_mod_mod]
  clear hst hz hkl htk2 hjn hl cc hkd hr
  generalize stP n c r back (chunk s) = ST at *
  generalize kq c r back = K at *
  go_enter Try.func4, Try.ntmps4
  go_wp2_with fail
  refine (AW.out _).mono ?_
  rintro e w1 ⟨rfl, hb1⟩
  have HB1 := Lib.hid hb1
  clear hb1
  go_wp2_with fail
  refine (CC.out _).mono ?_
  rintro e w2 ⟨rfl, hb2, hh⟩
  have hlt : w1.heap.size < w2.heap.size := hh.lt
  have HB2 := Lib.hid (And.intro (HB1.out.trans (hb2.mono HB1.out.size)) (And.intro hh hlt))
  have hJ := JS.fresh w2
  rw [← HZ.out.1] at hJ
  have hbj : Below w2.heap.size w2 (w2.alloc (.cells #[.map none, .slice none 0 0] 41)) := (Below.refl _ _).alloc (Nat.le_refl _) _
  have HJ := Lib.hid (And.intro hJ hbj)
  clear hb2 hh hJ hbj hlt
  go_wp2
  generalize w2.alloc (.cells #[.map none, .slice none 0 0] 41) = w3 at HJ ⊢
  generalize hgl : w1.heap.size = gl at HB2 ⊢
  obtain ⟨jb, hjb⟩ : ∃ jb, w2.heap.size = jb := ⟨_, rfl⟩
  rw [hjb] at HJ HB2
  have HJB := Lib.hid hjb
  rw [hjb]
  clear hjb hgl
  have h12 : (1 : Int) ≤ (c : Int) := by omega
  go_loopw [12, 13] (fun told i wr => ∃ (k : Nat) (F : List Nat), k ≤ c ∧ told = .int .i64 (if k = c then 1 else 0) ∧ i = .int .i64 (k : Int) ∧ JS jb wr jb F (ST k) ∧ Below jb w2 wr) (fun _ i _ => c - (intOf i).toNat)
  case atStart => exact ⟨0, _, by omega, by rw [if_neg (by omega)], rfl, HJ.out.1, HJ.out.2⟩
  case round =>
    obtain ⟨k, F, hk, rfl, rfl, hJ, hB⟩ := hrel
    by_cases hlt : k < c
    · rw [if_neg (by omega : ¬ k = c)]
      have t4 : (k : Int) < (c : Int) := by omega
      have t5 : decide ((k : Int) < (c : Int)) = true := by simp; omega
      have hcb : jb ≤ wr.heap.size := by have := hB.size; have := HJB.out; omega
      have HJ2 := Lib.hid (And.intro hJ (And.intro hB hcb))
      clear hJ hB hcb
      obtain ⟨m, hm⟩ : ∃ m, (k + t) % c = m := ⟨_, rfl⟩
      have hmc : m < c := by rw [← hm]; exact Nat.mod_lt _ (by omega)
      have hmod : ((k : Int) + (t : Int)) % (c : Int) = (m : Int) := by rw [← hm, Int.natCast_emod, Int.natCast_add]
      have hkd := HKD.out k
      rw [hm] at hkd
      have HKK := Lib.hid hkd
      clear hkd hm
      have HMOD := Lib.hid hmod
      clear hmod
      go_upto_region 12 with fail
      rw [HMOD.out]
      clear HMOD
      have hbk : (c : Int) - 1 - (m : Int) = ((c - 1 - m : Nat) : Int) := by omega
      cases back
      all_goals
        go_upto_region 14 with fail
        obtain ⟨q, hq⟩ : ∃ q, K k = q := ⟨_, rfl⟩
        have hqm := HKK.out
        simp only [if_true, if_false, Bool.false_eq_true] at hqm
        rw [hqm, hq]
        clear hbk hqm HKK hmc
        have hqc : q < c := by rw [← hq]; exact HKL.out k
        have hqi : (q : Int) < (c : Int) := by omega
        have hst := HST.out k hlt
        rw [hq] at hst
        have c0 : wr.cell? ⟨gl, q, none⟩ = some (.string (L.getD q ⟨#[]⟩)) := (HJ2.out.2.1.cell (p := ⟨gl, q, none⟩) HB2.out.2.2).trans (HB2.out.2.1.text q (by rw [HL.out]; exact hqc))
        have htk := HTK.out (ST k) q hqc
        rw [hst.1] at htk
        have htw := take_any HJ2.out.1 HJ2.out.2.2 (L.getD q ⟨#[]⟩)
        rw [htk] at htw
        have htk2 := HTK.out (ST (k + 1)) q hqc
        generalize hpc : L.getD q ⟨#[]⟩ = piece at c0 htw htk2
        have HPC := Lib.hid hpc
        clear hpc htk
        have HTW := Lib.hid htw
        have HT2 := Lib.hid (And.intro htk2 hst.2)
        have HC0 := Lib.hid (And.intro c0 hqi)
        clear htw htk2 hst hq
        go_wp2_with fail
        refine HTW.out.mono ?_
        rintro e wa ⟨Fa, rfl, hJa, hKa, hFa⟩
        clear HTW c0
        have hBa : Below jb w2 wa := HJ2.out.2.1.trans (hKa.below jb HJ2.out.2.2 (HJ2.out.1.base))
        have hcba : jb ≤ wa.heap.size := Nat.le_trans HJ2.out.2.2 hKa.size
        have HJa := Lib.hid (And.intro hJa (And.intro hBa hcba))
        clear hJa hKa hFa hBa hcba HJ2
        by_cases hk1 : k + 1 = c
        · have hk1' : ((k : Int) == (c : Int) - 1) = true := by rw [beq_iff_eq]; omega
          rw [if_pos hk1]
          have he : ((⟨(joinB (List.map (chunk s) (List.range c))).toArray⟩ : ByteArray).data.toList == s.data.toList) = true := by rw [HJN.out]; simp
          have HE := Lib.hid he
          have HK1 := Lib.hid hk1
          generalize joinB (List.map (chunk s) (List.range c)) = T at *
          have hdk : decide (k + 1 = c) = true := by simpa using hk1
          rw [hdk]
          clear he hk1 hdk
          go_wp2_with (first
            | (refine wpExec rfl (.bool (!true)) (exec_neqS12 (.tmp 95) (.tmp 96) _ _ true HE.out rfl rfl rfl) ?_)
            | (refine wpExecG rfl (.bool (!true)) (exec_neqS12 (.tmp 95) (.tmp 96) _ _ true HE.out rfl rfl rfl) ?_))
          refine ⟨⟨k + 1, Fa, by omega, by rw [if_pos HK1.out], by go_num, HJa.out.1, HJa.out.2.1⟩, by simp [intOf]; omega⟩
        · have hk1' : ((k : Int) == (c : Int) - 1) = false := by rw [beq_eq_false_iff_ne]; omega
          rw [if_neg hk1]
          have hdk : decide (k + 1 = c) = false := by simpa using hk1
          rw [hdk]
          have hk2 : k + 1 < c := by omega
          have HK2 := Lib.hid hk2
          clear hk1 hdk hk2
          have c0 : wa.cell? ⟨gl, q, none⟩ = some (.string piece) := (HJa.out.2.1.cell (p := ⟨gl, q, none⟩) HB2.out.2.2).trans (by
            have := HB2.out.2.1.text q (by rw [HL.out]; exact hqc)
            rw [this, HPC.out])
          have htw := take_any HJa.out.1 HJa.out.2.2 piece
          rw [HT2.out.1, HT2.out.2 HK2.out] at htw
          have HTW := Lib.hid htw
          clear htw
          go_wp2_with fail
          refine HTW.out.mono ?_
          rintro e wb ⟨Fb, rfl, hJb, hKb, hFb⟩
          clear HTW c0
          have hBb : Below jb w2 wb := HJa.out.2.1.trans (hKb.below jb HJa.out.2.2 (HJa.out.1.base))
          have HJb := Lib.hid (And.intro hJb hBb)
          clear hJb hKb hFb hBb HJa
          go_wp2
          refine ⟨⟨k + 1, Fb, by omega, by rw [if_neg (by have := HK2.out; omega)], by go_num, HJb.out.1, HJb.out.2⟩, by simp [intOf]; omega⟩
    · have hkc : k = c := by omega
      subst hkc
      have t5 : decide ((k : Int) < (k : Int)) = false := by simp
      rw [if_pos rfl]
      rw [HZ.out.2] at hJ
      have hh := held_any hJ
      have HH := Lib.hid hh
      have hbw : Below w.heap.size w wr := HB2.out.1.trans (hB.mono (by have := HB2.out.1.size; have := HJB.out; omega))
      have HBW := Lib.hid hbw
      clear hJ hh hbw hB hlt
      go_wp2_with (go_at_call 14; refine HH.out.mono ?_; rintro e wb ⟨rfl, rfl⟩)
      go_ret
      exact ⟨rfl, HBW.out⟩
theorem pieces_any (n t : Nat) (hn : n < 4294967296) (ht : t < 256) (s : ByteArray) (back : Bool) (w : World) : Calls Try.prog 4 #[.int .u32 (n : Int), .string s, .int .u8 (t : Int), .bool back] w fun e w' => e = .returned (.bool true) ∧ Below w.heap.size w w' := by
  by_cases h : 2000 < s.size
  · exact pieces_long n t s back h w
  by_cases h2 : s.size < 1 ∨ 1536 < s.size
  · exact pieces_no n t s back (by omega) h2 w
  · exact pieces_go n t hn ht s back (by omega) (by omega) w
end Go.Proofs.Ythpbhimmfmablaa
