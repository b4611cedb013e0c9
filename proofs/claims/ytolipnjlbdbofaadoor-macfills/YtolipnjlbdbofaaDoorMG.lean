/- The walk of law MacFills. -/
import Derived.Test.YtolipnjlbdbofaaDoorME
import Derived.Test.YtolipnjlbdbofaaDoorRK
import Derived.Test.YtolipnjlbdbofaaDoorJ
import Derived.OpenShut
namespace Go.Proofs.YtolipnjlbdbofaaDoor
open Go.RowKit
theorem infoA (l : List UInt8) (hl : l.length = 32) : (Tryd.prog.info? 23).map (·.size) = some (bs l).size := by
  rw [bs_size, hl]; exact (by kernel_rfl : (Tryd.prog.info? 23).map (·.size) = some 32)
set_option maxHeartbeats 400000 in
theorem fillsLaw_over (k s : ByteArray) (n : UInt8) (h : 300 < k.size ∨ 300 < s.size) (w : World) (hT : HasK w) :
    Calls Tryd.prog 3 #[.string k, .string s, .int .u8 (n.toNat : Int)] w fun e w' => e = .returned (.bool true) ∧ Below w.heap.size w w' := by
  have E : HasK w ∧ Below w.heap.size w w := ⟨hT, Below.refl _ _⟩
  by_cases h1 : 300 < k.size
  · have t1 : decide (300 < (k.size : Int)) = true := by simp; omega
    go_enter Tryd.func3, Tryd.ntmps3
    go_wp2_with (go_at_call 8; refine (awake2_any _ E.1).mono ?_; rintro e wq ⟨rfl, hbq⟩; replace E : HasK wq ∧ Below w.heap.size w wq := ⟨E.1.below E.1.lt hbq, E.2.trans (hbq.mono E.2.size)⟩)
    go_ret
    exact ⟨rfl, E.2⟩
  · have t1 : decide (300 < (k.size : Int)) = false := by simp; omega
    have t2 : decide (300 < (s.size : Int)) = true := by simp; omega
    go_enter Tryd.func3, Tryd.ntmps3
    go_wp2_with (go_at_call 8; refine (awake2_any _ E.1).mono ?_; rintro e wq ⟨rfl, hbq⟩; replace E : HasK wq ∧ Below w.heap.size w wq := ⟨E.1.below E.1.lt hbq, E.2.trans (hbq.mono E.2.size)⟩)
    go_ret
    exact ⟨rfl, E.2⟩
/-- what memory holds in the midst of the law -/
def LEnv (w : World) (g : Nat) (K : List UInt8) (W : World) : Prop := Has W g 23 (bs K) ∧ HasK W ∧ Below w.heap.size w W
theorem LEnv.step {w : World} {g : Nat} {K : List UInt8} {W W' : World} (h : LEnv w g K W) (hb : Below W.heap.size W W') : LEnv w g K W' :=
  ⟨h.1.below hb h.1.lt, h.2.1.below h.2.1.lt hb, h.2.2.trans (hb.mono h.2.2.size)⟩
theorem LEnv.drew {w : World} {g : Nat} {K : List UInt8} {W : World} (h : LEnv w g K W) : LEnv w g K W.drew := ⟨h.1, h.2.1, h.2.2.drew⟩
set_option maxHeartbeats 1000000 in
theorem fillsLaw_long (k s : ByteArray) (n : UInt8) (hk : 64 < k.size) (hk2 : k.size ≤ 300) (hs : s.size ≤ 300) (w : World) (hT : HasK w) :
    Calls Tryd.prog 3 #[.string k, .string s, .int .u8 (n.toNat : Int)] w fun e w' => e = .returned (.bool true) ∧ Below w.heap.size w w' := by
  have hS := refSum_any k (by omega)
  have hR1 := macSum_any k s (by omega) (by omega)
  have hlong := hmacL_long k.data.toList s.data.toList (by rw [len_list]; exact hk)
  have hKl : (keyL (sumW k.data.toList)).length = 32 := keyL_length _
  generalize keyL (sumW k.data.toList) = K at hS hlong hKl
  have hR2 := macSum_any ⟨K.toArray⟩ s (by rw [str_size, hKl]; omega) (by omega)
  rw [str_list, ← hlong] at hR2
  have hRl := hmacL_length k.data.toList s.data.toList
  generalize hmacL k.data.toList s.data.toList = R at hR1 hR2 hRl
  have heq := sameKey R hRl
  have HS := Lib.hid hS
  have H1 := Lib.hid hR1
  have H2 := Lib.hid hR2
  have HKL := Lib.hid hKl
  clear hS hR1 hR2 hRl hlong
  have t1 : decide (300 < (k.size : Int)) = false := by simp; omega
  have t2 : decide (300 < (s.size : Int)) = false := by simp; omega
  have t3 : decide (64 < (k.size : Int)) = true := by simp; omega
  have E : HasK w ∧ Below w.heap.size w w := ⟨hT, Below.refl _ _⟩
  go_enter Tryd.func3, Tryd.ntmps3
  go_wp2_with fail
  refine (awake2_any _ E.1).mono ?_
  rintro e w1 ⟨rfl, hbq⟩
  replace E : HasK w1 ∧ Below w.heap.size w w1 := ⟨E.1.below E.1.lt hbq, E.2.trans (hbq.mono E.2.size)⟩
  clear hbq
  go_wp2_with fail
  refine (HS.out _).mono ?_
  rintro e w2 ⟨rfl, hbq⟩
  replace E : HasK w2 ∧ Below w.heap.size w w2 := ⟨E.1.below E.1.lt hbq, E.2.trans (hbq.mono E.2.size)⟩
  clear hbq w1 HS
  have hN : Has (w2.alloc (.cells z32 23)) w2.heap.size 23 z32 := Has.fresh w2 23 _
  have hN2 := hN.setRow (bs K)
  have hB : Below w2.heap.size w2 ((w2.alloc (.cells z32 23)).setRow w2.heap.size (bs K)) := below_setRow ((Below.refl _ _).alloc (Nat.le_refl _) _) (Nat.le_refl _) _
  go_upto_region 5 with
    (refine wpList_store_row rfl 23 (.tmp 7) (.tmp 27) rfl w2.heap.size (bs K) rfl rfl 23 z32 hN (infoA K HKL.out) (z32_size K HKL.out) (bs_one K) ?_)
  change Code.wp _ _ _ _ ((w2.alloc (.cells z32 23)).setRow w2.heap.size (bs K))
  clear hN
  generalize (w2.alloc (.cells z32 23)).setRow w2.heap.size (bs K) = wr at hN2 hB ⊢
  have F : LEnv w w2.heap.size K wr := ⟨hN2, E.1.below E.1.lt hB, E.2.trans (hB.mono E.2.size)⟩
  generalize w2.heap.size = g at F ⊢
  clear E hB hN2
  replace F := F.drew
  go_region_held3 (fun w' => (convert 27 9 (.slice (some ⟨g, 0, none⟩) 32 32)).run Tryd.prog w' = .ok (.string ⟨K.toArray⟩) w')
    (exact conv_bytes F.1 32 32 HKL.out)
    (first
      | (go_at_call_of 10 (Value.string k); refine (H1.out _ F.2.1).mono ?_; rintro e wq ⟨rfl, hbq⟩; replace F := F.step hbq)
      | (go_at_call_of 10 (Value.string ⟨K.toArray⟩); refine (H2.out _ F.2.1).mono ?_; rintro e wq ⟨rfl, hbq⟩; replace F := F.step hbq))
  all_goals
    go_wp2
    go_ret
    exact ⟨rfl, F.2.2⟩
set_option maxHeartbeats 1000000 in
theorem fillsLaw_short (k s : ByteArray) (n : UInt8) (hk : k.size ≤ 64) (hs : s.size ≤ 300) (w : World) (hT : HasK w) :
    Calls Tryd.prog 3 #[.string k, .string s, .int .u8 (n.toNat : Int)] w fun e w' => e = .returned (.bool true) ∧ Below w.heap.size w w' := by
  have hR1 := macSum_any k s (by omega) (by omega)
  have hR2 : ∀ j, k.size + j ≤ 64 → ∀ (w : World), HasK w → Calls Tryd.prog 10 #[.string (padS k j), .string s] w fun e w' => e = .returned (.agg (bs (hmacL k.data.toList s.data.toList))) ∧ Below w.heap.size w w' := by
    intro j hj w hw
    have h := macSum_any (padS k j) s (by rw [padS_size]; omega) (by omega) w hw
    have e : (padS k j).data.toList = k.data.toList ++ List.replicate j 0 := rfl
    rw [e, hmacL_pad _ _ _ (by rw [len_list]; exact hj)] at h
    exact h
  have hRl := hmacL_length k.data.toList s.data.toList
  generalize hmacL k.data.toList s.data.toList = R at hR1 hR2 hRl
  have heq := sameKey R hRl
  have H1 := Lib.hid hR1
  have H2 := Lib.hid hR2
  clear hR1 hR2 hRl
  have t1 : decide (300 < (k.size : Int)) = false := by simp; omega
  have t2 : decide (300 < (s.size : Int)) = false := by simp; omega
  have t3 : decide (64 < (k.size : Int)) = false := by simp; omega
  have hn : n.toNat < 256 := n.toNat_lt
  have E : HasK w ∧ Below w.heap.size w w := ⟨hT, Below.refl _ _⟩
  go_enter Tryd.func3, Tryd.ntmps3
  go_wp2_with fail
  refine (awake2_any _ E.1).mono ?_
  rintro e w1 ⟨rfl, hbq⟩
  replace E : HasK w1 ∧ Below w.heap.size w w1 := ⟨E.1.below E.1.lt hbq, E.2.trans (hbq.mono E.2.size)⟩
  clear hbq
  go_wp2_with fail
  go_loop [8, 9] (fun t i => ∃ j : Nat, j ≤ n.toNat ∧ k.size + j ≤ 64 ∧ t = .string (padS k j) ∧ i = .int .i64 (j : Int)) (fun _ i => 300 - (intOf i).toNat)
  case atStart => exact ⟨0, by omega, by omega, by rw [padS_zero], rfl⟩
  case round =>
    obtain ⟨j, hj, hj2, rfl, rfl⟩ := hrel
    have hsz := padS_size k j
    by_cases hc : j < n.toNat ∧ k.size + j < 64
    · have c1 : decide ((j : Int) < (n.toNat : Int)) = true := by simp; omega
      have c2 : decide (((padS k j).size : Int) < 64) = true := by simp; omega
      have hcat : ¬ (9223372036854775807 < (padS k j).size + 1) := by omega
      have hnext := padS_succ k j
      have HN := Lib.hid hnext
      clear hnext
      have hb64 : (padS k j).size ≤ 64 := by omega
      clear hsz
      generalize padS k j = t at c2 hcat HN hb64 ⊢
      go_wp2
      rw [HN.out]
      go_round
      case rel => exact ⟨j + 1, by omega, by omega, rfl, by go_num⟩
      case measure => simp [intOf]; omega
    · have hP := H2.out j hj2
      have hb64 : (padS k j).size ≤ 64 := by omega
      have c : n.toNat ≤ j ∨ (j < n.toNat ∧ (padS k j).size = 64) := by omega
      clear hsz
      generalize padS k j = t at c hP hb64 ⊢
      have HP := Lib.hid hP
      clear hP hc
      rcases c with c1 | ⟨c1, c2⟩
      · go_wp2_with fail
        refine (HP.out _ E.1).mono ?_
        rintro e w2 ⟨rfl, hbq⟩
        replace E : HasK w2 ∧ Below w.heap.size w w2 := ⟨E.1.below E.1.lt hbq, E.2.trans (hbq.mono E.2.size)⟩
        clear hbq
        go_wp2_with fail
        refine (H1.out _ E.1).mono ?_
        rintro e w3 ⟨rfl, hbq⟩
        replace E : HasK w3 ∧ Below w.heap.size w w3 := ⟨E.1.below E.1.lt hbq, E.2.trans (hbq.mono E.2.size)⟩
        clear hbq
        go_wp2
        go_ret
        exact ⟨rfl, E.2⟩
      · go_wp2_with fail
        refine (HP.out _ E.1).mono ?_
        rintro e w2 ⟨rfl, hbq⟩
        replace E : HasK w2 ∧ Below w.heap.size w w2 := ⟨E.1.below E.1.lt hbq, E.2.trans (hbq.mono E.2.size)⟩
        clear hbq
        go_wp2_with fail
        refine (H1.out _ E.1).mono ?_
        rintro e w3 ⟨rfl, hbq⟩
        replace E : HasK w3 ∧ Below w.heap.size w w3 := ⟨E.1.below E.1.lt hbq, E.2.trans (hbq.mono E.2.size)⟩
        clear hbq
        go_wp2
        go_ret
        exact ⟨rfl, E.2⟩
theorem fillsLaw_any (k s : ByteArray) (x : Int) (hx : (Lit.int .u8 x).wf = true) (w : World) (hT : HasK w) :
    Calls Tryd.prog 3 #[.string k, .string s, .int .u8 x] w fun e w' => e = .returned (.bool true) ∧ Below w.heap.size w w' := by
  have hb := bounds_u8 hx
  obtain ⟨n, rfl⟩ : ∃ n : UInt8, x = (n.toNat : Int) := ⟨UInt8.ofNat x.toNat, by rw [UInt8.toNat_ofNat', Nat.mod_eq_of_lt (by omega)]; omega⟩
  by_cases h : 300 < k.size ∨ 300 < s.size
  · exact fillsLaw_over k s n h w hT
  · by_cases h2 : 64 < k.size
    · exact fillsLaw_long k s n h2 (by omega) (by omega) w hT
    · exact fillsLaw_short k s n (by omega) (by omega) w hT
end Go.Proofs.YtolipnjlbdbofaaDoor
