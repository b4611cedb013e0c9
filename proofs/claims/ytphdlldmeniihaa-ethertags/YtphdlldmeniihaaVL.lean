/- ether.Parse: whatever the text; ether.Print: whatever the frame; the law's awake. -/
import Derived.Test.YtphdlldmeniihaaVE
import Derived.Test.YtphdlldmeniihaaVF
import Derived.Test.YtphdlldmeniihaaVG
import Derived.Test.YtphdlldmeniihaaVI
import Derived.Test.YtphdlldmeniihaaVK
namespace Go.Proofs.Ytphdlldmeniihaa
open Go.RowKit
theorem parsed_short (s : ByteArray) (h : s.size < 14) (w : World) : Calls Try.prog 17 #[.string s] w fun e w' => Below w.heap.size w w' ∧ e = thrown 2 := by
  have t1 : decide ((14 : Int) ≤ (s.size : Int)) = false := by simp; omega
  have hb : Below w.heap.size w (w.alloc (.cells ez.c 32)) := (Below.refl _ _).alloc (Nat.le_refl _) _
  have HB := Lib.hid hb
  clear hb
  go_enter Try.func17, Try.ntmps17
  go_wp2_with (first
    | (go_at_call 19; refine (demand_any _ _ _).mono ?_; rintro e w1 ⟨he, rfl⟩; first | (replace he := he.trans demanded_yes; subst he) | (replace he := he.trans demanded_no; subst he)))
  exact ⟨rfl, HB.out, rfl⟩
theorem src_list (s : ByteArray) : (s.extract 6 s.size).data.toList.take 6 = (s.data.toList.drop 6).take 6 := by rw [rest_at]
theorem content_any (K : Nat) (hK : K < 65536) (B : ByteArray) (hB : B.size ≤ 1000000) :
    (∃ n, (contentF K B).1 = n ∧ n ≠ 0 ∧ ∀ W, Calls Try.prog 22 #[.int .i64 (K : Int), .string B] W fun e w' => e = thrown n ∧ w' = W) ∨
    ((contentF K B).1 = 0 ∧ ∀ W, Calls Try.prog 22 #[.int .i64 (K : Int), .string B] W fun e w' => e = .returned (.tuple #[.int .i64 (contentF K B).2.1, .string (contentF K B).2.2]) ∧ Below W.heap.size W w') := by
  unfold contentF
  by_cases h1 : K ≤ 1500
  · rw [if_pos h1]
    by_cases h2 : B.size < K
    · rw [if_pos h2]
      exact Or.inl ⟨2, rfl, by omega, fun W => content_short K h1 B h2 W⟩
    · rw [if_neg h2]
      exact Or.inr ⟨rfl, fun W => content_len K h1 B (by omega) W⟩
  · rw [if_neg h1]
    by_cases h2 : rightT (K : Int) = true
    · rw [if_pos h2]
      exact Or.inr ⟨rfl, fun W => content_type K (by omega) h2 B hB W⟩
    · rw [if_neg h2]
      exact Or.inl ⟨3, rfl, by omega, fun W => content_form K (by omega) (by simpa using h2) B W⟩
theorem parsed_body_plain (s : ByteArray) (hs : s.size ≤ 1000000) (h : 14 ≤ s.size) (hk : wd s 12 ≠ 33024) (R : Int × E8) (hR : bodyF (s.data.toList.take 6) ((s.data.toList.drop 6).take 6) (wd s 12) (s.extract 14 s.size) (-1) 0 = R) :
    (R.1 = 0 ∧ ∀ W, Calls Try.prog 17 #[.string s] W fun e w' => Below W.heap.size W w' ∧ e = .returned (.agg R.2.c)) ∨
    (R.1 ≠ 0 ∧ ∀ W, Calls Try.prog 17 #[.string s] W fun e w' => Below W.heap.size W w' ∧ e = thrown R.1) := by
  have hB : (s.extract 14 s.size).size = s.size - 14 := by rw [ByteArray.size_extract]; omega
  have hsrc := src_list s
  subst hR
  unfold bodyF
  by_cases h1 : 1500 < (s.extract 14 s.size).size
  · rw [if_pos h1]
    exact Or.inr ⟨by simp, fun W => parsed_plain_long s h hk (by omega) _ _ rfl hsrc W⟩
  · rw [if_neg h1]
    rcases content_any (wd s 12) (wd_lt s 12) (s.extract 14 s.size) (by omega) with ⟨n, hn, hn0, hc⟩ | ⟨hn, hc⟩
    · rw [hn, if_pos hn0]
      exact Or.inr ⟨hn0, fun W => parsed_plain_none s h hk (by omega) n hc _ _ rfl hsrc W⟩
    · rw [hn, if_neg (by simp), if_neg (by omega)]
      exact Or.inl ⟨rfl, fun W => parsed_plain_ok s h hk (by omega) _ _ hc _ _ rfl hsrc W⟩
theorem parsed_body_tag (s : ByteArray) (hs : s.size ≤ 1000000) (h : 18 ≤ s.size) (hk : wd s 12 = 33024) (hm : wd s 14 / 4096 % 2 ≠ 1) (R : Int × E8)
    (hR : bodyF (s.data.toList.take 6) ((s.data.toList.drop 6).take 6) (wd s 16) (s.extract 18 s.size) ((wd s 14 % 4096 : Nat) : Int) ((wd s 14 / 8192 : Nat) : Int) = R) :
    (R.1 = 0 ∧ ∀ W, Calls Try.prog 17 #[.string s] W fun e w' => Below W.heap.size W w' ∧ e = .returned (.agg R.2.c)) ∨
    (R.1 ≠ 0 ∧ ∀ W, Calls Try.prog 17 #[.string s] W fun e w' => Below W.heap.size W w' ∧ e = thrown R.1) := by
  have hB : (s.extract 18 s.size).size = s.size - 18 := by rw [ByteArray.size_extract]; omega
  have hsrc := src_list s
  have hm0 : wd s 14 / 4096 % 2 = 0 := by omega
  obtain ⟨V, hV⟩ : ∃ V, wd s 14 % 4096 = V := ⟨_, rfl⟩
  obtain ⟨Q, hQ⟩ : ∃ Q, wd s 14 / 8192 = Q := ⟨_, rfl⟩
  have hV2 : V < 4096 := by omega
  rw [hV, hQ] at hR
  subst hR
  unfold bodyF
  by_cases h1 : 1500 < (s.extract 18 s.size).size
  · rw [if_pos h1]
    exact Or.inr ⟨by simp, fun W => parsed_tag_long s h hk hm0 V Q hV hQ (by omega) _ _ rfl hsrc W⟩
  · rw [if_neg h1]
    rcases content_any (wd s 16) (wd_lt s 16) (s.extract 18 s.size) (by omega) with ⟨n, hn, hn0, hc⟩ | ⟨hn, hc⟩
    · rw [hn, if_pos hn0]
      exact Or.inr ⟨hn0, fun W => parsed_tag_none s h hk hm0 V Q hV hQ (by omega) n hc _ _ rfl hsrc W⟩
    · rw [hn, if_neg (by simp)]
      by_cases hv : V = 4095
      · rw [if_pos (by omega)]
        exact Or.inr ⟨by simp, fun W => parsed_tag_vlan s h hk hm0 V Q hV hQ (by omega) _ _ hc hv _ _ rfl hsrc W⟩
      · rw [if_neg (by omega)]
        exact Or.inl ⟨rfl, fun W => parsed_tag_ok s h hk hm0 V Q hV hQ (by omega) _ _ hc (by omega) _ _ rfl hsrc W⟩
theorem parsed_any (s : ByteArray) (hs : s.size ≤ 1000000) :
    ((parseF s).1 = 0 ∧ ∀ W, Calls Try.prog 17 #[.string s] W fun e w' => Below W.heap.size W w' ∧ e = .returned (.agg (parseF s).2.c)) ∨
    ((parseF s).1 ≠ 0 ∧ ∀ W, Calls Try.prog 17 #[.string s] W fun e w' => Below W.heap.size W w' ∧ e = thrown (parseF s).1) := by
  unfold parseF
  by_cases h0 : s.size < 14
  · rw [if_pos h0]
    exact Or.inr ⟨by simp, fun W => parsed_short s h0 W⟩
  · rw [if_neg h0]
    by_cases h1 : wd s 12 = 33024
    · rw [if_pos h1]
      by_cases h2 : s.size < 16
      · rw [if_pos h2]
        exact Or.inr ⟨by simp, fun W => parsed_tag_no s (by omega) h1 2 (fun W => readTag_short s h2 W) _ _ rfl rfl W⟩
      · rw [if_neg h2]
        by_cases h3 : wd s 14 / 4096 % 2 = 1
        · rw [if_pos h3]
          exact Or.inr ⟨by simp, fun W => parsed_tag_no s (by omega) h1 3 (fun W => readTag_form s (by omega) h3 W) _ _ rfl rfl W⟩
        · rw [if_neg h3]
          by_cases h4 : s.size < 18
          · rw [if_pos h4]
            exact Or.inr ⟨by simp, fun W => parsed_tag_no s (by omega) h1 2 (fun W => readTag_cut s (by omega) h4 (by omega) W) _ _ rfl rfl W⟩
          · rw [if_neg h4]
            exact parsed_body_tag s hs (by omega) h1 h3 _ rfl
    · rw [if_neg h1]
      exact parsed_body_plain s hs (by omega) h1 _ rfl
/-- Parse, whatever the text -/
theorem parse_any (s : ByteArray) (hs : s.size ≤ 1000000) (w : World) :
    Calls Try.prog 11 #[.string s] w fun e w' => e = .returned (.tuple #[.agg (parseF s).2.c, .int .i64 (parseF s).1]) ∧ Below w.heap.size w w' := by
  rcases parsed_any s hs with ⟨h0, hc⟩ | ⟨h0, hc⟩
  · have := parse_ok s (parseF s).2 (parse_six s) hc w
    rw [h0]
    exact this
  · have := parse_no s (parseF s).1 hc w
    rw [parse_err h0]
    exact this
/-- what Print answers -/
def printF (x : E8) : List UInt8 × Int := if x.right then (x.bytes, 0) else ([], 3)
/-- Print, whatever the frame -/
theorem print_any (x : E8) (hx : x.Six) (w : World) :
    Calls Try.prog 8 #[.agg x.c] w fun e w' => e = .returned (.tuple #[.string ⟨(printF x).1.toArray⟩, .int .i64 (printF x).2]) ∧ Below w.heap.size w w' := by
  unfold printF
  by_cases hr : x.right = true
  · rw [if_pos hr]
    obtain ⟨h1, h2, h3⟩ := right_spec hr
    have hk : x.kind < 65536 ∧ ((x.k = 0 ∧ x.b.size = x.kind) ∨ (x.k ≠ 0 ∧ x.k = x.kind)) := by
      unfold E8.kind
      rcases rightT_spec h1 with hk | hk
      · rw [if_pos hk]; exact ⟨by omega, Or.inl ⟨hk, rfl⟩⟩
      · rw [if_neg (by omega)]; exact ⟨by omega, Or.inr ⟨by omega, by omega⟩⟩
    have ht : x.tag.length ≤ 4 ∧ ∀ W, Calls Try.prog 13 #[.agg x.c] W fun e w' => e = .returned (.string ⟨x.tag.toArray⟩) ∧ Below W.heap.size W w' := by
      rcases h3 with ⟨hv, hp⟩ | ⟨V, Q, hv, hp, hV, hQ⟩
      · have ht : x.tag = [] := by unfold E8.tag; rw [if_pos hv]
        rw [ht]
        exact ⟨by simp, fun W => tagOf_none x hx hv W⟩
      · have ht : x.tag = tagL V Q := by unfold E8.tag; rw [if_neg (by omega), hv, hp]; rfl
        rw [ht]
        exact ⟨by rw [tagL_length]; omega, fun W => tagOf_tag x hx V Q hV hQ hv hp W⟩
    exact print_yes x hx hr x.kind hk.1 hk.2 x.tag ht.1 ht.2 h2 x.bytes rfl w
  · rw [if_neg hr]
    exact print_no x hx (by simpa using hr) w
end Go.Proofs.Ytphdlldmeniihaa
