/- causeyref02.Sum: walked, of keys of up to 400 bytes and texts of up to 336. -/
import Derived.Test.YtolipnjlbdbofaaDoorRP
namespace Go.Proofs.YtolipnjlbdbofaaDoor
open Go.RowKit
theorem infoA (l : List UInt8) (hl : l.length = 32) : (Tryd.prog.info? 23).map (·.size) = some (bs l).size := by
  rw [bs_size, hl]; exact (by kernel_rfl : (Tryd.prog.info? 23).map (·.size) = some 32)
/-- what memory holds in the midst of the sum -/
def GEnv2 (w : World) (W : World) : Prop := Has W w.heap.size 23 z32 ∧ Below w.heap.size w W
theorem GEnv2.step {w W W' : World} (h : GEnv2 w W) (hb : Below W.heap.size W W') : GEnv2 w W' := ⟨h.1.below hb h.1.lt, h.2.trans (hb.mono h.2.size)⟩
set_option maxHeartbeats 2000000 in
theorem refMac_any (k s : ByteArray) (hk : k.size ≤ 400) (hs : s.size ≤ 336) (w : World) :
    Calls Tryd.prog 12 #[.string k, .string s] w fun e w' => e = .returned (.agg (bs (hmacL k.data.toList s.data.toList))) ∧ Below w.heap.size w w' := by
  have hR : hmacL k.data.toList s.data.toList = keyL (sumW (xorB (key64 k.data.toList) 92 ++ keyL (sumW (xorB (key64 k.data.toList) 54 ++ s.data.toList)))) := rfl
  have hL0 : ∀ k0 : ByteArray, (k0.size ≤ 64 ∧ k0 = k) ∨ (64 < k.size ∧ k0.data.toList = keyL (sumW k.data.toList)) → key64 k0.data.toList = key64 k.data.toList := by
    rintro k0 (⟨_, rfl⟩ | ⟨h1, h2⟩)
    · rfl
    · rw [key64_long k.data.toList (by rw [len_list]; exact h1), h2]
  have hLl := key64_length k.data.toList
  generalize key64 k.data.toList = L at hR hL0 hLl
  have hX1 : (xorB L 54).length = 64 := by rw [xorB_length, hLl]
  have hX2 : (xorB L 92).length = 64 := by rw [xorB_length, hLl]
  have s1 := refSum_any (⟨(xorB L 54).toArray⟩ ++ s) (by rw [cat_size]; omega)
  rw [cat_list] at s1
  have hK : (keyL (sumW (xorB L 54 ++ s.data.toList))).length = 32 := keyL_length _
  generalize keyL (sumW (xorB L 54 ++ s.data.toList)) = K at s1 hR hK
  have s2 := refSum_any (⟨(xorB L 92).toArray⟩ ++ ⟨K.toArray⟩) (by rw [cat_size, str_size]; omega)
  rw [cat_list, str_list] at s2
  have hRl : (keyL (sumW (xorB L 92 ++ K))).length = 32 := keyL_length _
  generalize keyL (sumW (xorB L 92 ++ K)) = R at s2 hR hRl
  have tx := refText_any K hK
  have HR := Lib.hid hR
  have S1 := Lib.hid s1
  have S2 := Lib.hid s2
  have TX := Lib.hid tx
  have HRL := Lib.hid hRl
  have hcat1 : ¬ (9223372036854775807 < (xorB L 54).length + s.size) := by omega
  have hcat2 : ¬ (9223372036854775807 < (xorB L 92).length + K.length) := by omega
  clear hR s1 s2 tx hLl hX1 hX2 hK hRl
  have E : GEnv2 w (w.alloc (.cells z32 23)) := ⟨Has.fresh w 23 _, (Below.refl _ _).alloc (Nat.le_refl _) _⟩
  by_cases hk64 : k.size ≤ 64
  · replace hL0 := hL0 k (Or.inl ⟨hk64, rfl⟩)
    obtain ⟨k0, hk0e⟩ : ∃ k0, k0 = k := ⟨_, rfl⟩
    rw [← hk0e] at hL0 hk64 ⊢
    have hk0 := hk64
    have HR' := HR.out
    rw [← hk0e] at HR'
    replace HR := Lib.hid HR'
    clear hk0e hk hk64 HR' k
    go_enter Tryd.func12, Tryd.ntmps12
    go_wp2_with fail
    change Code.wp _ _ _ _ (w.alloc (.cells z32 23))
    generalize w.alloc (.cells z32 23) = wr at E ⊢
    go_loop [0] (fun t => ∃ j : Nat, k0.size + j ≤ 64 ∧ t = .string (padS k0 j)) (fun t => 100 - strLen t)
    case atStart => exact ⟨0, by omega, by rw [padS_zero]⟩
    case round =>
      obtain ⟨j, hj, rfl⟩ := hrel
      have hsz := padS_size k0 j
      by_cases hc : k0.size + j < 64
      · have hnext := padS_succ k0 j
        have hm : strLen (.string (padS k0 (j + 1))) = (padS k0 j).size + 1 := by show (padS k0 (j + 1)).size = _; rw [padS_size, padS_size]; omega
        have HN := Lib.hid hnext
        have HMM := Lib.hid hm
        clear hnext hm
        generalize padS k0 j = t at hsz HN HMM ⊢
        have c2 : t.size < 64 := by omega
        have hcat : ¬ (9223372036854775807 < t.size + 1) := by omega
        clear hsz
        go_wp2
        rw [HN.out]
        go_round
        case rel => exact ⟨j + 1, by omega, rfl⟩
        case measure => rw [HMM.out]; show 100 - (t.size + 1) < 100 - t.size; omega
      · have hj2 : j = 64 - k0.size := by omega
        subst hj2
        have hPl : (padS k0 (64 - k0.size)).data.toList = L := by
          rw [← hL0, key64_short _ (by rw [len_list]; exact hk0)]
          show k0.data.toList ++ List.replicate (64 - k0.size) 0 = _
          rw [len_list]
        generalize padS k0 (64 - k0.size) = t at hsz hPl ⊢
        have c2 : t.size = 64 := by omega
        have w92 := refWith_any t (by omega) (by omega) 92
        have w54 := refWith_any t (by omega) (by omega) 54
        rw [hPl] at w92 w54
        have W92 := Lib.hid w92
        have W54 := Lib.hid w54
        clear hsz hPl w92 w54 hL0 hc hj
        go_wp2_with fail
        refine (W92.out _).mono ?_
        rintro e w1 ⟨rfl, hbq⟩
        replace E := E.step hbq
        clear hbq
        go_wp2_with fail
        refine (W54.out _).mono ?_
        rintro e w2 ⟨rfl, hbq⟩
        replace E := E.step hbq
        clear hbq
        go_wp2_with fail
        refine (S1.out _).mono ?_
        rintro e w3 ⟨rfl, hbq⟩
        replace E := E.step hbq
        clear hbq
        go_wp2_with fail
        refine (TX.out _).mono ?_
        rintro e w4 ⟨rfl, hbq⟩
        replace E := E.step hbq
        clear hbq
        go_wp2_with fail
        refine (S2.out _).mono ?_
        rintro e w5 ⟨rfl, hbq⟩
        replace E := E.step hbq
        clear hbq
        go_wp2_with (refine wpList_store_row rfl 23 (.tmp 4) (.tmp 25) rfl w.heap.size (bs R) rfl rfl 23 z32 E.1 (infoA R HRL.out) (z32_size R HRL.out) (bs_one R) ?_)
        refine bodyPost_ret (v := .agg (bs R)) (results_cell_row rfl _ _ w.heap.size 23 (bs R) (0, 0) _ rfl (E.1.setRow _) Tryd.underlying23 rfl (infoA R HRL.out)) rfl ⟨by rw [HR.out], below_setRow E.2 (Nat.le_refl _) _⟩
  · have hq := refSum_any k hk
    have hKK : (keyL (sumW k.data.toList)).length = 32 := keyL_length _
    replace hL0 := hL0 ⟨(keyL (sumW k.data.toList)).toArray⟩ (Or.inr ⟨by omega, rfl⟩)
    generalize keyL (sumW k.data.toList) = Kk at hq hKK hL0
    have tk := refText_any Kk hKK
    have HQ := Lib.hid hq
    have TK := Lib.hid tk
    clear hq tk
    obtain ⟨k0, hk0e⟩ : ∃ k0 : ByteArray, k0 = ⟨Kk.toArray⟩ := ⟨_, rfl⟩
    have hk0 : k0.size ≤ 64 := by rw [hk0e, str_size]; omega
    rw [← hk0e] at hL0 TK
    clear hk0e hKK
    go_enter Tryd.func12, Tryd.ntmps12
    go_wp2_with fail
    change Calls _ _ _ (w.alloc (.cells z32 23)) _
    generalize w.alloc (.cells z32 23) = wa at E ⊢
    refine (HQ.out _).mono ?_
    rintro e wb ⟨rfl, hbq⟩
    replace E := E.step hbq
    clear hbq HQ wa
    go_wp2_with fail
    refine (TK.out _).mono ?_
    rintro e wr ⟨rfl, hbq⟩
    replace E := E.step hbq
    clear hbq TK wb
    go_wp2_with fail
    go_loop [0] (fun t => ∃ j : Nat, k0.size + j ≤ 64 ∧ t = .string (padS k0 j)) (fun t => 100 - strLen t)
    case atStart => exact ⟨0, by omega, by rw [padS_zero]⟩
    case round =>
      obtain ⟨j, hj, rfl⟩ := hrel
      have hsz := padS_size k0 j
      by_cases hc : k0.size + j < 64
      · have hnext := padS_succ k0 j
        have hm : strLen (.string (padS k0 (j + 1))) = (padS k0 j).size + 1 := by show (padS k0 (j + 1)).size = _; rw [padS_size, padS_size]; omega
        have HN := Lib.hid hnext
        have HMM := Lib.hid hm
        clear hnext hm
        generalize padS k0 j = t at hsz HN HMM ⊢
        have c2 : t.size < 64 := by omega
        have hcat : ¬ (9223372036854775807 < t.size + 1) := by omega
        clear hsz
        go_wp2
        rw [HN.out]
        go_round
        case rel => exact ⟨j + 1, by omega, rfl⟩
        case measure => rw [HMM.out]; show 100 - (t.size + 1) < 100 - t.size; omega
      · have hj2 : j = 64 - k0.size := by omega
        subst hj2
        have hPl : (padS k0 (64 - k0.size)).data.toList = L := by
          rw [← hL0, key64_short _ (by rw [len_list]; exact hk0)]
          show k0.data.toList ++ List.replicate (64 - k0.size) 0 = _
          rw [len_list]
        generalize padS k0 (64 - k0.size) = t at hsz hPl ⊢
        have c2 : t.size = 64 := by omega
        have w92 := refWith_any t (by omega) (by omega) 92
        have w54 := refWith_any t (by omega) (by omega) 54
        rw [hPl] at w92 w54
        have W92 := Lib.hid w92
        have W54 := Lib.hid w54
        clear hsz hPl w92 w54 hL0 hc hj
        go_wp2_with fail
        refine (W92.out _).mono ?_
        rintro e w1 ⟨rfl, hbq⟩
        replace E := E.step hbq
        clear hbq
        go_wp2_with fail
        refine (W54.out _).mono ?_
        rintro e w2 ⟨rfl, hbq⟩
        replace E := E.step hbq
        clear hbq
        go_wp2_with fail
        refine (S1.out _).mono ?_
        rintro e w3 ⟨rfl, hbq⟩
        replace E := E.step hbq
        clear hbq
        go_wp2_with fail
        refine (TX.out _).mono ?_
        rintro e w4 ⟨rfl, hbq⟩
        replace E := E.step hbq
        clear hbq
        go_wp2_with fail
        refine (S2.out _).mono ?_
        rintro e w5 ⟨rfl, hbq⟩
        replace E := E.step hbq
        clear hbq
        go_wp2_with (refine wpList_store_row rfl 23 (.tmp 4) (.tmp 25) rfl w.heap.size (bs R) rfl rfl 23 z32 E.1 (infoA R HRL.out) (z32_size R HRL.out) (bs_one R) ?_)
        refine bodyPost_ret (v := .agg (bs R)) (results_cell_row rfl _ _ w.heap.size 23 (bs R) (0, 0) _ rfl (E.1.setRow _) Tryd.underlying23 rfl (infoA R HRL.out)) rfl ⟨by rw [HR.out], below_setRow E.2 (Nat.le_refl _) _⟩
end Go.Proofs.YtolipnjlbdbofaaDoor
