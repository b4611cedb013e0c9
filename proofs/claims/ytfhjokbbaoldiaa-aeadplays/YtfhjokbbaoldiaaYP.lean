/- The walk of law AeadPlays. -/
import Derived.Test.YtfhjokbbaoldiaaYO
namespace Go.Proofs.Ytfhjokbbaoldiaa
open Go.RowKit
set_option maxRecDepth 20000 in
set_option maxHeartbeats 1000000 in
theorem aplays_over0 (k : List UInt8) (n : Nat) (b s : ByteArray)  (hb : 400 < b.size) (w : World) :
    Calls Try.prog 6 #[.agg (bs k), .int .u64 (n : Int), .string b, .string s] w fun e w' => e = .returned (.bool true) ∧ Below w.heap.size w w' := by
  have E := KEnv.fresh w k
  have HA := Lib.hid awake5_any
  have ttb : decide (400 < (b.size : Int)) = true := by simp; omega
  go_enter Try.func6, Try.ntmps6
  go_upto_region 1 with fail
  generalize w.alloc (.cells (bs k) 23) = w0 at E ⊢
  go_wp2_with fail
  refine (HA.out _).mono ?_
  rintro e w1 ⟨rfl, hb1⟩
  replace E := E.step hb1
  go_wp2_with fail
  refine (HA.out _).mono ?_
  rintro e w2 ⟨rfl, hb2⟩
  replace E := E.step hb2
  go_wp2
  go_ret
  exact ⟨rfl, E.2⟩
set_option maxRecDepth 20000 in
set_option maxHeartbeats 1000000 in
theorem aplays_over1 (k : List UInt8) (n : Nat) (b s : ByteArray) (hb : b.size ≤ 400) (hs : 400 < s.size) (w : World) :
    Calls Try.prog 6 #[.agg (bs k), .int .u64 (n : Int), .string b, .string s] w fun e w' => e = .returned (.bool true) ∧ Below w.heap.size w w' := by
  have E := KEnv.fresh w k
  have HA := Lib.hid awake5_any
  have ttb : decide (400 < (b.size : Int)) = false := by simp; omega
  have tts : decide (400 < (s.size : Int)) = true := by simp; omega
  go_enter Try.func6, Try.ntmps6
  go_upto_region 1 with fail
  generalize w.alloc (.cells (bs k) 23) = w0 at E ⊢
  go_wp2_with fail
  refine (HA.out _).mono ?_
  rintro e w1 ⟨rfl, hb1⟩
  replace E := E.step hb1
  go_wp2_with fail
  refine (HA.out _).mono ?_
  rintro e w2 ⟨rfl, hb2⟩
  replace E := E.step hb2
  go_wp2
  go_ret
  exact ⟨rfl, E.2⟩
set_option maxRecDepth 20000 in
set_option maxHeartbeats 1000000 in
theorem aplays_short (k : List UInt8) (hk : k.length = 32) (n : Nat) (hn : n < 2 ^ 64) (b s : ByteArray) (hbs : b.size ≤ 400) (hss : s.size ≤ 400) (w : World) :
    Calls Try.prog 6 #[.agg (bs k), .int .u64 (n : Int), .string b, .string s] w fun e w' => e = .returned (.bool true) ∧ Below w.heap.size w w' := by
  have h1 := nonce_any n
  have h8 := eight_any n hn
  have hcat : (⟨#[0, 0, 0, 0]⟩ : ByteArray) ++ ⟨(lowB n 8).toArray⟩ = ⟨(nonceL n).toArray⟩ := ext_lists _ _ (by
    rw [ByteArray.data_append, Array.toList_append, str_list, nonceL])
  have z8 : (⟨(lowB n 8).toArray⟩ : ByteArray).size = 8 := by rw [str_size, lowB_length]
  have hNs : (⟨(nonceL n).toArray⟩ : ByteArray).size = 12 := by rw [str_size, nonceL_length]
  generalize (⟨(nonceL n).toArray⟩ : ByteArray) = N at h1 hNs hcat
  generalize (⟨(lowB n 8).toArray⟩ : ByteArray) = E8 at h8 hcat z8
  have h2 := seal_any k hk N b s hNs (by omega) (by omega)
  have h3 := tag_any k hk N b s hNs (by omega) (by omega)
  have h4 := refSeal_any k hk N b s hNs (by omega) (by omega)
  have h5 := refTag_any k hk N b s hNs (by omega) (by omega)
  generalize (⟨(sealL k N.data.toList b.data.toList s.data.toList).toArray⟩ : ByteArray) = C at h2 h4
  generalize (⟨(tagL k N.data.toList b.data.toList s.data.toList).toArray⟩ : ByteArray) = T at h3 h5
  have H1 := Lib.hid h1
  have H2 := Lib.hid h2
  have H3 := Lib.hid h3
  have H4 := Lib.hid h4
  have H5 := Lib.hid h5
  have H8 := Lib.hid h8
  have HK := Lib.hid hk
  clear h1 h2 h3 h4 h5 h8 hk hNs hn
  have E := KEnv.fresh w k
  have HA := Lib.hid awake5_any
  have tb : decide (400 < (b.size : Int)) = false := by simp; omega
  have ts : decide (400 < (s.size : Int)) = false := by simp; omega
  have c1 : ¬ (9223372036854775807 < 4 + E8.size) := by omega
  go_enter Try.func6, Try.ntmps6
  go_upto_region 1 with fail
  generalize w.alloc (.cells (bs k) 23) = w0 at E ⊢
  go_wp2_with fail
  refine (HA.out _).mono ?_
  rintro e w1 ⟨rfl, hb1⟩
  replace E := E.step hb1
  clear hb1
  go_upto_region 3 with fail
  go_wp2_with fail
  refine (H8.out _).mono ?_
  rintro e w2 ⟨rfl, hb1⟩
  replace E := E.step hb1
  clear hb1
  go_wp2_with (refine wpList_load_row rfl 23 (.tmp 4) rfl w.heap.size rfl 23 (bs k) (0, 0) _ E.1 Try.underlying23 rfl (keyInfo k HK.out) ?_)
  refine (H2.out _).mono ?_
  rintro e w3 ⟨rfl, hb1⟩
  replace E := E.step hb1
  clear hb1
  go_wp2_with (refine wpList_load_row rfl 23 (.tmp 4) rfl w.heap.size rfl 23 (bs k) (0, 0) _ E.1 Try.underlying23 rfl (keyInfo k HK.out) ?_)
  refine (H3.out _).mono ?_
  rintro e w4 ⟨rfl, hb1⟩
  replace E := E.step hb1
  clear hb1
  go_wp2_with fail
  refine (H1.out _).mono ?_
  rintro e w5 ⟨rfl, hb1⟩
  replace E := E.step hb1
  clear hb1
  go_wp2_with (refine wpList_load_rowG rfl 23 (.tmp 4) rfl w.heap.size rfl 23 (bs k) (0, 0) _ E.1 Try.underlying23 rfl (keyInfo k HK.out) ?_)
  refine (H4.out _).mono ?_
  rintro e w6 ⟨rfl, hb1⟩
  replace E := E.step hb1
  clear hb1
  go_wp2_with (refine wpList_load_rowG rfl 23 (.tmp 4) rfl w.heap.size rfl 23 (bs k) (0, 0) _ E.1 Try.underlying23 rfl (keyInfo k HK.out) ?_)
  refine (H5.out _).mono ?_
  rintro e w7 ⟨rfl, hb1⟩
  replace E := E.step hb1
  clear hb1
  go_wp2
  go_ret
  exact ⟨rfl, E.2⟩
theorem aplaysLaw_any (k : List UInt8) (hk : k.length = 32) (n : Int) (hn : (Lit.int .u64 n).wf = true) (b s : ByteArray) (w : World) :
    Calls Try.prog 6 #[.agg (bs k), .int .u64 n, .string b, .string s] w fun e w' => e = .returned (.bool true) ∧ Below w.heap.size w w' := by
  have h64 := bounds_u64 hn
  obtain ⟨n, rfl⟩ : ∃ x : Nat, n = (x : Int) := ⟨n.toNat, by omega⟩
  by_cases hb : 400 < b.size
  · exact aplays_over0 k n b s hb w
  · by_cases hs : 400 < s.size
    · exact aplays_over1 k n b s (by omega) hs w
    · exact aplays_short k hk n (by omega) b s (by omega) (by omega) w
end Go.Proofs.Ytfhjokbbaoldiaa
