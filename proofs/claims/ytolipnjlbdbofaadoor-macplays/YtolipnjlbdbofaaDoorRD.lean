import Derived.Test.YtolipnjlbdbofaaDoorRC
namespace Go.Proofs.YtolipnjlbdbofaaDoor
open Go.RowKit
theorem isList_one (w : World) (x : Nat) : IsList (w.alloc (.cells #[.int .i64 (x : Int)] 3)) (some ⟨w.heap.size, 0, none⟩) [x] := fun _ => by
  refine ⟨w.heap.size, by simp, rfl, fun i hi => ?_⟩
  have : i = 0 := by simpa using hi
  subst this
  exact (Has.fresh w 3 #[.int .i64 (x : Int)]).cell 0
theorem made_ns (n : Nat) : (madeCells (Value.int .i64 0).cells (n * 1)).toList = ns (List.replicate n 0) := by
  show (madeCells #[.int .i64 0] (n * 1)).toList = _
  rw [toList_madeCells_one, Nat.mul_one]
  simp [ns]
set_option maxHeartbeats 400000 in
theorem fits_any (x n p : Nat) (hx : x < 549755813888) (hn : n ≤ 1000) (hp : p = 2 ∨ p = 3) (w : World) :
    Calls Tryd.prog 33 #[.int .i64 x, .int .i64 n, .int .i64 p] w fun e w' => e = .returned (.bool (decide (x ^ p ≤ n * 256 ^ (4 * p)))) ∧ Below w.heap.size w w' := by
  obtain ⟨i0, hi0, hz0, hz1, hz2⟩ := info_parts int_info
  have hp3 : p ≤ 3 := by omega
  have hp2 : 2 ≤ p := by omega
  clear hp
  obtain ⟨R, hR⟩ : ∃ R, decide (x ^ p ≤ n * 256 ^ (4 * p)) = R := ⟨_, rfl⟩
  rw [hR]
  have HR := Lib.hid hR
  clear hR
  go_enter Tryd.func33, Tryd.ntmps33
  go_wp2
  go_loopw [7, 8] (fun v i wr => ∃ (k : Nat) (o : List Nat) (a : Option Addr) (cap : Nat), k ≤ p ∧ o.length ≤ 1 + 5 * k ∧ (∀ d ∈ o, d < 256) ∧ val o = x ^ k ∧ v = .slice a o.length cap ∧ i = .int .i64 (k : Int) ∧ IsList wr a o ∧ Below w.heap.size w wr) (fun _ i _ => p - (intOf i).toNat)
  case atStart => exact ⟨0, [1], _, _, by omega, by simp, by simp, rfl, rfl, rfl, isList_one w 1, (Below.refl _ _).alloc (Nat.le_refl _) _⟩
  case round =>
    obtain ⟨k, o, a, cap, hk, hol, hod, hval, rfl, rfl, hil, hbr⟩ := hrel
    by_cases hkp : k < p
    · have HT := Lib.hid (times_any o x a cap wr (by omega) hod hx hil)
      have HVAL := Lib.hid hval
      have HIL := Lib.hid hil
      clear hod hval hil
      have t1 : decide ((k : Int) < (p : Int)) = true := by first | (simp; done) | (simp; omega)
      go_wp2_with (go_at_call 35; refine HT.out.mono ?_; rintro e w2 ⟨a2, cap2, o2, rfl, hil2, hol2, hod2, hval2, hb2⟩)
      go_roundw
      case rel => exact ⟨k + 1, o2, a2, cap2, by omega, by omega, hod2, by rw [hval2, HVAL.out, Nat.pow_succ], rfl, by go_num, hil2, hbr.trans (hb2.mono hbr.size)⟩
      case measure => first | (simp [intOf]; done) | (simp [intOf]; omega)
    · have hkp2 : k = p := by omega
      subst hkp2
      have HOD := Lib.hid hod
      have HVAL := Lib.hid hval
      have HIL := Lib.hid hil
      clear hod hval hil
      have t1 : decide ((k : Int) < (k : Int)) = false := by simp
      generalize hoL : o.length = oL at hol ⊢
      have HOL := Lib.hid hoL
      clear hoL
      obtain ⟨q, hq⟩ : ∃ q, q = 4 * k := ⟨_, rfl⟩
      have E4 := Lib.hid (show (4 : Int) * (k : Int) = (q : Int) from by omega)
      have hq12 : q ≤ 12 := by omega
      have m1 : i0.bytes * q ≤ 281474976710656 := by rw [hz2]; omega
      have m2 : q ≤ maxLen := by unfold maxLen; omega
      have m3 : q + 1 ≤ maxLen := by unfold maxLen; omega
      have m4 : q + 1 + 1 ≤ maxLen := by unfold maxLen; omega
      have m5 : (q + 1) * 8 ≤ 140737488355328 := by omega
      have m6 : (q + 1 + 1) * 8 ≤ 140737488355328 := by omega
      have HQ := Lib.hid hq
      clear hq
      have hb0 : Below wr.heap.size wr wr := Below.refl _ _
      go_wp2_with (first
        | (refine wpList_make_full _ rfl (.tmp 23) (.tmp 23) 53 rfl wr.heap.size 3 i0 _ 1 Tryd.underlying53 hi0 hz0 hz1 .i64 .i64 _ _ q rfl rfl E4.out E4.out m1 m2 (Nat.le_refl _) ?_; intro w2 hown2 hg2; rw [made_ns] at hown2; have b2 : Below wr.heap.size wr w2 := hb0.grown hg2 (Nat.le_refl _) (fun k hk => by cases hk))
        | (at_builtin; refine wpList_append_own _ rfl (.tmp 25) (.tmp 28) 53 rfl wr.heap.size 3 i0 _ 1 8 Tryd.underlying53 hi0 hz0 hz1 hz2 rfl Nat.one_pos (.slice (some ⟨wr.heap.size, 0, none⟩) q q) q (ns (List.replicate q 0)) rfl (hown2.alloc _) ⟨w2.heap.size, 0, none⟩ 1 1 [.int .i64 ((n : Int) % 256)] rfl rfl (one_cell w2 _ 3) (one_int _) m3 m5 (Nat.le_trans b2.size (by simp)) ?_; intro v3 w3 hown3 hg3 _; obtain ⟨a3, cap3, hv3⟩ := own_form hown3; rw [hv3] at hown3 ⊢; have b3 : Below wr.heap.size wr w3 := (b2.alloc b2.size _).grown hg3 (Nat.le_trans b2.size (by simp)) (fun j hj => (hown2.lt j hj).1))
        | (at_builtin; refine wpList_append_own _ rfl (.tmp 30) (.tmp 33) 53 rfl wr.heap.size 3 i0 _ 1 8 Tryd.underlying53 hi0 hz0 hz1 hz2 rfl Nat.one_pos (.slice a3 (q + 1) cap3) (q + 1) (ns (List.replicate q 0) ++ [.int .i64 ((n : Int) % 256)]) rfl (hown3.alloc _) ⟨w3.heap.size, 0, none⟩ 1 1 [.int .i64 ((n : Int) / 256)] rfl rfl (one_cell w3 _ 3) (one_int _) m4 m6 (Nat.le_trans b3.size (by simp)) ?_; intro v4 w4 hown4 hg4 _; obtain ⟨a4, cap4, hv4⟩ := own_form hown4; rw [hv4] at hown4 ⊢; have b4 : Below wr.heap.size wr w4 := (b3.alloc b3.size _).grown hg4 (Nat.le_trans b3.size (by simp)) (fun j hj => (hown3.lt j hj).1)))
      all_goals
        obtain ⟨mm, hmm⟩ : ∃ mm : List Nat, mm = (List.replicate q 0 ++ [n % 256]) ++ [n / 256] := ⟨_, rfl⟩
        have hns : ns (List.replicate q 0) ++ [.int .i64 ((n : Int) % 256)] ++ [.int .i64 ((n : Int) / 256)] = ns mm := by rw [hmm]; simp [ns]
        rw [hns] at hown4
        obtain ⟨hmL, hilm⟩ := own_list hown4
        have hilo := HIL.out.below b4
        have bw : Below w.heap.size w w4 := hbr.trans (b4.mono hbr.size)
        have hmd : ∀ d ∈ mm, d < 256 := by
          rw [hmm]; intro d hd
          rw [List.mem_append, List.mem_append] at hd
          rcases hd with (hd | hd) | hd
          · rw [List.mem_replicate] at hd; omega
          · simp at hd; omega
          · simp at hd; omega
        have hvm : val mm = n * 256 ^ q := by rw [hmm]; exact val_limit q n
        have hRR : R = decide (val o ≤ val mm) := by rw [← HR.out, HVAL.out, hvm, HQ.out]
        have HRR := Lib.hid hRR
        have HMD := Lib.hid hmd
        have HILM := Lib.hid hilm
        have HILO := Lib.hid hilo
        have HML := Lib.hid hmL
        clear hns hvm hRR hmd hilm hilo hmL hmm hown4 hown3 hown2 hg4 hg3 hg2 b2 b3 b4 hb0 HVAL HIL m1 m2 m3 m4 m5 m6
      case inl =>
        have hh := h
        clear h
        obtain ⟨s, hs⟩ : ∃ s, s = q + 2 := ⟨_, rfl⟩
        have hs1 : (q : Int) + 1 = (s : Int) - 1 := by omega
        have hsM : q + 1 + 1 ≤ s := by omega
        have hsO : oL ≤ s := by omega
        have hs16 : s ≤ 16 := by omega
        rw [hs1]
        clear hh hs hs1
        generalize hM : q + 1 + 1 = M at HML hsM ⊢
        have hMb : M ≤ 14 := by omega
        clear hM
        generalize (4 : Int) * (k : Int) = z2
        generalize (n : Int) % 256 = z3
        generalize (n : Int) / 256 = z4
        go_loop [10, 11, 12] (fun i _ _ => ∃ j : Nat, j ≤ 16 ∧ i = .int .i64 ((j : Int) - 1) ∧ ((val o ≤ val mm) ↔ (vN o j ≤ vN mm j))) (fun i _ _ => (intOf i + 1).toNat)
        case atStart => exact ⟨s, hs16, rfl, by rw [vN_max o s (by rw [HOL.out]; exact hsO), vN_max mm s (by rw [HML.out]; exact hsM)]⟩
        case round =>
          obtain ⟨j, hj, rfl, hiff⟩ := hrel
          have HIFF := Lib.hid hiff
          clear hiff
          by_cases hj0 : 0 < j
          · obtain ⟨i, rfl⟩ : ∃ i, j = i + 1 := ⟨j - 1, by omega⟩
            have hne := cmp_ne o mm HOD.out HMD.out i
            have heq := cmp_eq o mm i
            have hda := getD_lt o HOD.out i
            have hdb := getD_lt mm HMD.out i
            have hca : i < oL → ∃ g, a = some ⟨g, 0, none⟩ ∧ w4.cell? ⟨g, i, none⟩ = some (.int .i64 ((o.getD i 0 : Nat) : Int)) := fun h => by
              obtain ⟨g, _, h1, h2⟩ := HILO.out (by intro h0; have := HOL.out; rw [h0] at this; simp at this; omega)
              exact ⟨g, h1, h2 i (by rw [HOL.out]; exact h)⟩
            have hcb : i < M → ∃ g, a4 = some ⟨g, 0, none⟩ ∧ w4.cell? ⟨g, i, none⟩ = some (.int .i64 ((mm.getD i 0 : Nat) : Int)) := fun h => by
              obtain ⟨g, _, h1, h2⟩ := HILM.out (by intro h0; have := HML.out; rw [h0] at this; simp at this; omega)
              exact ⟨g, h1, h2 i (by rw [HML.out]; exact h)⟩
            have hza : ¬ i < oL → o.getD i 0 = 0 := fun h => by rw [List.getD_eq_getElem?_getD, List.getElem?_eq_none (by rw [HOL.out]; omega)]; rfl
            have hzb : ¬ i < M → mm.getD i 0 = 0 := fun h => by rw [List.getD_eq_getElem?_getD, List.getElem?_eq_none (by rw [HML.out]; omega)]; rfl
            generalize o.getD i 0 = da at hne heq hda hca hza
            generalize mm.getD i 0 = db at hne heq hdb hcb hzb
            have hi1 : ((i + 1 : Nat) : Int) - 1 = (i : Int) := by omega
            rw [hi1]
            have HNE := Lib.hid hne
            have HEQ := Lib.hid heq
            clear hne heq hi1
            have t3 : decide (0 ≤ (i : Int)) = true := by simp
            have tca : decide ((i : Int) < (oL : Int)) = decide (i < oL) := by simp
            have tcb : decide ((i : Int) < (M : Int)) = decide (i < M) := by simp
            have hend : da ≠ db → R = decide (da < db) := fun h => by
              rw [HRR.out]
              have e1 := HIFF.out.trans (HNE.out h)
              simp only [e1]
            have hgo : da = db → ((val o ≤ val mm) ↔ (vN o i ≤ vN mm i)) := fun h => HIFF.out.trans (HEQ.out h)
            have HEND := Lib.hid hend
            have HGO := Lib.hid hgo
            have HCA := Lib.hid hca
            have HCB := Lib.hid hcb
            have HZA := Lib.hid hza
            have HZB := Lib.hid hzb
            clear hend hgo HIFF HNE HEQ hca hcb hza hzb HILM HILO HOD HMD HRR
            by_cases ca : i < oL
            · obtain ⟨ga, rfl, la⟩ := HCA.out ca
              by_cases cb : i < M
              · obtain ⟨gb, rfl, lb⟩ := HCB.out cb
                have tca2 : decide ((i : Int) < (oL : Int)) = true := by rw [tca]; simp [ca]
                have tcb2 : decide ((i : Int) < (M : Int)) = true := by rw [tcb]; simp [cb]
                clear tca tcb HCA HCB HZA HZB
                by_cases hd : da = db
                · subst hd
                  go_wp2
                  go_round
                  case rel => exact ⟨i, by omega, rfl, HGO.out rfl⟩
                  case measure => first | (simp [intOf]; done) | (simp [intOf]; omega)
                · have t6 : ((da : Int) != (db : Int)) = true := by first | (simp; done) | (simp; omega)
                  have HE := Lib.hid (HEND.out hd)
                  clear HEND HGO
                  go_wp2
                  go_ret
                  exact ⟨by rw [HE.out]; first | rfl | simp, bw⟩
              · have zb := HZB.out cb
                subst zb
                have tca2 : decide ((i : Int) < (oL : Int)) = true := by rw [tca]; simp [ca]
                have tcb2 : decide ((i : Int) < (M : Int)) = false := by rw [tcb]; simp [cb]
                clear tca tcb HCA HCB HZA HZB
                by_cases hd : da = 0
                · subst hd
                  go_wp2
                  go_round
                  case rel => exact ⟨i, by omega, rfl, HGO.out rfl⟩
                  case measure => first | (simp [intOf]; done) | (simp [intOf]; omega)
                · have t6 : ((da : Int) != (0 : Int)) = true := by first | (simp; done) | (simp; omega)
                  have HE := Lib.hid (HEND.out hd)
                  clear HEND HGO
                  go_wp2
                  go_ret
                  exact ⟨by rw [HE.out]; first | rfl | simp, bw⟩
            · have za := HZA.out ca
              subst za
              by_cases cb : i < M
              · obtain ⟨gb, rfl, lb⟩ := HCB.out cb
                have tca2 : decide ((i : Int) < (oL : Int)) = false := by rw [tca]; simp [ca]
                have tcb2 : decide ((i : Int) < (M : Int)) = true := by rw [tcb]; simp [cb]
                clear tca tcb HCA HCB HZA HZB
                by_cases hd : 0 = db
                · subst hd
                  go_wp2
                  go_round
                  case rel => exact ⟨i, by omega, rfl, HGO.out rfl⟩
                  case measure => first | (simp [intOf]; done) | (simp [intOf]; omega)
                · have t6 : ((0 : Int) != (db : Int)) = true := by first | (simp; done) | (simp; omega)
                  have HE := Lib.hid (HEND.out hd)
                  clear HEND HGO
                  go_wp2
                  go_ret
                  exact ⟨by rw [HE.out]; first | rfl | simp, bw⟩
              · have zb := HZB.out cb
                subst zb
                have tca2 : decide ((i : Int) < (oL : Int)) = false := by rw [tca]; simp [ca]
                have tcb2 : decide ((i : Int) < (M : Int)) = false := by rw [tcb]; simp [cb]
                clear tca tcb HCA HCB HZA HZB
                go_wp2
                go_round
                case rel => exact ⟨i, by omega, rfl, HGO.out rfl⟩
                case measure => first | (simp [intOf]; done) | (simp [intOf]; omega)
          · have hj1 : j = 0 := by omega
            subst hj1
            have hr1 : R = true := by rw [HRR.out]; simp [HIFF.out, vN]
            have t3 : decide (0 ≤ ((0 : Nat) : Int) - 1) = false := by decide
            subst hr1
            go_wp2
            go_ret
            exact ⟨rfl, bw⟩

      case inr =>
        have hh := h
        clear h
        obtain ⟨s, hs⟩ : ∃ s, s = oL := ⟨_, rfl⟩
        have hs1 : (oL : Int) - 1 = (s : Int) - 1 := by omega
        have hsM : q + 1 + 1 ≤ s := by omega
        have hsO : oL ≤ s := by omega
        have hs16 : s ≤ 16 := by omega
        rw [hs1]
        clear hh hs hs1
        generalize hM : q + 1 + 1 = M at HML hsM ⊢
        have hMb : M ≤ 14 := by omega
        clear hM
        generalize (4 : Int) * (k : Int) = z2
        generalize (n : Int) % 256 = z3
        generalize (n : Int) / 256 = z4
        go_loop [10, 11, 12] (fun i _ _ => ∃ j : Nat, j ≤ 16 ∧ i = .int .i64 ((j : Int) - 1) ∧ ((val o ≤ val mm) ↔ (vN o j ≤ vN mm j))) (fun i _ _ => (intOf i + 1).toNat)
        case atStart => exact ⟨s, hs16, rfl, by rw [vN_max o s (by rw [HOL.out]; exact hsO), vN_max mm s (by rw [HML.out]; exact hsM)]⟩
        case round =>
          obtain ⟨j, hj, rfl, hiff⟩ := hrel
          have HIFF := Lib.hid hiff
          clear hiff
          by_cases hj0 : 0 < j
          · obtain ⟨i, rfl⟩ : ∃ i, j = i + 1 := ⟨j - 1, by omega⟩
            have hne := cmp_ne o mm HOD.out HMD.out i
            have heq := cmp_eq o mm i
            have hda := getD_lt o HOD.out i
            have hdb := getD_lt mm HMD.out i
            have hca : i < oL → ∃ g, a = some ⟨g, 0, none⟩ ∧ w4.cell? ⟨g, i, none⟩ = some (.int .i64 ((o.getD i 0 : Nat) : Int)) := fun h => by
              obtain ⟨g, _, h1, h2⟩ := HILO.out (by intro h0; have := HOL.out; rw [h0] at this; simp at this; omega)
              exact ⟨g, h1, h2 i (by rw [HOL.out]; exact h)⟩
            have hcb : i < M → ∃ g, a4 = some ⟨g, 0, none⟩ ∧ w4.cell? ⟨g, i, none⟩ = some (.int .i64 ((mm.getD i 0 : Nat) : Int)) := fun h => by
              obtain ⟨g, _, h1, h2⟩ := HILM.out (by intro h0; have := HML.out; rw [h0] at this; simp at this; omega)
              exact ⟨g, h1, h2 i (by rw [HML.out]; exact h)⟩
            have hza : ¬ i < oL → o.getD i 0 = 0 := fun h => by rw [List.getD_eq_getElem?_getD, List.getElem?_eq_none (by rw [HOL.out]; omega)]; rfl
            have hzb : ¬ i < M → mm.getD i 0 = 0 := fun h => by rw [List.getD_eq_getElem?_getD, List.getElem?_eq_none (by rw [HML.out]; omega)]; rfl
            generalize o.getD i 0 = da at hne heq hda hca hza
            generalize mm.getD i 0 = db at hne heq hdb hcb hzb
            have hi1 : ((i + 1 : Nat) : Int) - 1 = (i : Int) := by omega
            rw [hi1]
            have HNE := Lib.hid hne
            have HEQ := Lib.hid heq
            clear hne heq hi1
            have t3 : decide (0 ≤ (i : Int)) = true := by simp
            have tca : decide ((i : Int) < (oL : Int)) = decide (i < oL) := by simp
            have tcb : decide ((i : Int) < (M : Int)) = decide (i < M) := by simp
            have hend : da ≠ db → R = decide (da < db) := fun h => by
              rw [HRR.out]
              have e1 := HIFF.out.trans (HNE.out h)
              simp only [e1]
            have hgo : da = db → ((val o ≤ val mm) ↔ (vN o i ≤ vN mm i)) := fun h => HIFF.out.trans (HEQ.out h)
            have HEND := Lib.hid hend
            have HGO := Lib.hid hgo
            have HCA := Lib.hid hca
            have HCB := Lib.hid hcb
            have HZA := Lib.hid hza
            have HZB := Lib.hid hzb
            clear hend hgo HIFF HNE HEQ hca hcb hza hzb HILM HILO HOD HMD HRR
            by_cases ca : i < oL
            · obtain ⟨ga, rfl, la⟩ := HCA.out ca
              by_cases cb : i < M
              · obtain ⟨gb, rfl, lb⟩ := HCB.out cb
                have tca2 : decide ((i : Int) < (oL : Int)) = true := by rw [tca]; simp [ca]
                have tcb2 : decide ((i : Int) < (M : Int)) = true := by rw [tcb]; simp [cb]
                clear tca tcb HCA HCB HZA HZB
                by_cases hd : da = db
                · subst hd
                  go_wp2
                  go_round
                  case rel => exact ⟨i, by omega, rfl, HGO.out rfl⟩
                  case measure => first | (simp [intOf]; done) | (simp [intOf]; omega)
                · have t6 : ((da : Int) != (db : Int)) = true := by first | (simp; done) | (simp; omega)
                  have HE := Lib.hid (HEND.out hd)
                  clear HEND HGO
                  go_wp2
                  go_ret
                  exact ⟨by rw [HE.out]; first | rfl | simp, bw⟩
              · have zb := HZB.out cb
                subst zb
                have tca2 : decide ((i : Int) < (oL : Int)) = true := by rw [tca]; simp [ca]
                have tcb2 : decide ((i : Int) < (M : Int)) = false := by rw [tcb]; simp [cb]
                clear tca tcb HCA HCB HZA HZB
                by_cases hd : da = 0
                · subst hd
                  go_wp2
                  go_round
                  case rel => exact ⟨i, by omega, rfl, HGO.out rfl⟩
                  case measure => first | (simp [intOf]; done) | (simp [intOf]; omega)
                · have t6 : ((da : Int) != (0 : Int)) = true := by first | (simp; done) | (simp; omega)
                  have HE := Lib.hid (HEND.out hd)
                  clear HEND HGO
                  go_wp2
                  go_ret
                  exact ⟨by rw [HE.out]; first | rfl | simp, bw⟩
            · have za := HZA.out ca
              subst za
              by_cases cb : i < M
              · obtain ⟨gb, rfl, lb⟩ := HCB.out cb
                have tca2 : decide ((i : Int) < (oL : Int)) = false := by rw [tca]; simp [ca]
                have tcb2 : decide ((i : Int) < (M : Int)) = true := by rw [tcb]; simp [cb]
                clear tca tcb HCA HCB HZA HZB
                by_cases hd : 0 = db
                · subst hd
                  go_wp2
                  go_round
                  case rel => exact ⟨i, by omega, rfl, HGO.out rfl⟩
                  case measure => first | (simp [intOf]; done) | (simp [intOf]; omega)
                · have t6 : ((0 : Int) != (db : Int)) = true := by first | (simp; done) | (simp; omega)
                  have HE := Lib.hid (HEND.out hd)
                  clear HEND HGO
                  go_wp2
                  go_ret
                  exact ⟨by rw [HE.out]; first | rfl | simp, bw⟩
              · have zb := HZB.out cb
                subst zb
                have tca2 : decide ((i : Int) < (oL : Int)) = false := by rw [tca]; simp [ca]
                have tcb2 : decide ((i : Int) < (M : Int)) = false := by rw [tcb]; simp [cb]
                clear tca tcb HCA HCB HZA HZB
                go_wp2
                go_round
                case rel => exact ⟨i, by omega, rfl, HGO.out rfl⟩
                case measure => first | (simp [intOf]; done) | (simp [intOf]; omega)
          · have hj1 : j = 0 := by omega
            subst hj1
            have hr1 : R = true := by rw [HRR.out]; simp [HIFF.out, vN]
            have t3 : decide (0 ≤ ((0 : Nat) : Int) - 1) = false := by decide
            subst hr1
            go_wp2
            go_ret
            exact ⟨rfl, bw⟩

end Go.Proofs.YtolipnjlbdbofaaDoor
