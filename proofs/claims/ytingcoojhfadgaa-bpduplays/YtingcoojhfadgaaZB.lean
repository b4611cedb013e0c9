/- What bridges tell as bytes: what is printed; what any bytes are parsed as. No program is run here. -/
import Derived.Test.YtingcoojhfadgaaZA
import Derived.Test.YtingcoojhfadgaaON
import Derived.Test.YtingcoojhfadgaaWC
import Derived.Test.YtingcoojhfadgaaVK
namespace Go.Proofs.Ytingcoojhfadgaa
open Go.RowKit
/-- a word's flags, as a byte -/
def flagP (c a : Bool) : UInt8 := (if c then 1 else 0) ||| (if a then 128 else 0)
def B11.flag (x : B11) : UInt8 := flagP x.ch x.ack
def noticeL : List UInt8 := [66, 66, 3, 0, 0, 0, 128]
def wordL : List UInt8 := [66, 66, 3, 0, 0, 0, 0]
/-- its root, cost, bridge and port; its times -/
def B11.vec (x : B11) : List UInt8 := ((x.r ++ beTail x.cost.toNat 4) ++ x.b) ++ beTail x.port.toNat 2
def B11.times (x : B11) : List UInt8 := ((beTail x.age.toNat 2 ++ beTail x.top.toNat 2) ++ beTail x.hello.toNat 2) ++ beTail x.delay.toNat 2
/-- its bytes -/
def B11.bytes (x : B11) : List UInt8 := ((wordL ++ [x.flag]) ++ x.vec) ++ x.times
/-- are all numbers within a limit? -/
def inL (L : Int) (l : List Int) : Bool := l.all fun n => decide (0 ≤ n) && decide (n ≤ L)
def B11.young (x : B11) : Bool := decide (x.age < x.top)
/-- can it be printed? -/
def B11.right (x : B11) : Bool := inL 4294967295 [x.cost] && (inL 65535 [x.port, x.age, x.top, x.hello, x.delay] && x.young)
def print11 (x : B11) : List UInt8 × Int := if x.right then (x.bytes, 0) else ([], 3)
/-- what stands behind a word's head says -/
def says (m : ByteArray) : B11 :=
  ⟨cut9 m 1 8, cut9 m 13 8, (numP (cut9 m 9 4) 4 : Int), (numP (cut9 m 21 2) 2 : Int), (numP (cut9 m 23 2) 2 : Int), (numP (cut9 m 25 2) 2 : Int), (numP (cut9 m 27 2) 2 : Int), (numP (cut9 m 29 2) 2 : Int), bAt m 0 &&& 1 != 0, bAt m 0 &&& 128 != 0⟩
/-- may that be so? -/
def saysOk (m : ByteArray) : Bool := cut9 m 0 1 == [(says m).flag] && (says m).young
/-- what Parse answers: an error (or 0), whether it is a notice, a word -/
def parse11 (s : ByteArray) : Int × Bool × B11 :=
  if s.size < 7 then (2, false, bz) else
  if cut9 s 0 7 = noticeL then (0, true, bz) else
  if cut9 s 0 7 ≠ wordL then (3, false, bz) else
  if s.size < 38 then (2, false, bz) else
  if saysOk (s.extract 7 38) then (0, false, says (s.extract 7 38)) else (3, false, bz)
theorem vec_length {x : B11} (h : x.Fit) : x.vec.length = 22 := by
  unfold B11.vec
  simp [h.r, h.b, beTail_length]
theorem times_length (x : B11) : x.times.length = 8 := by
  unfold B11.times
  simp [beTail_length]
theorem B11.bytes_length {x : B11} (h : x.Fit) : x.bytes.length = 38 := by
  unfold B11.bytes
  rw [List.length_append, List.length_append, vec_length h, times_length]
  rfl
theorem says_fit (m : ByteArray) (h : m.size = 31) : (says m).Fit := ⟨cut9_length m 1 8 (by omega), cut9_length m 13 8 (by omega)⟩
theorem wf_small (n : Nat) (h : n < 4294967296) : (Lit.int .i64 (n : Int)).wf = true := by
  unfold Lit.wf
  simp only [decide_eq_true_eq, Bool.and_eq_true]
  exact ⟨by show (-9223372036854775808 : Int) ≤ (n : Int); omega, by show (n : Int) ≤ 9223372036854775807; omega⟩
theorem num2_lt (l : List UInt8) : numP l 2 < 65536 := numP_lt l 2
theorem num4_lt (l : List UInt8) : numP l 4 < 4294967296 := numP_lt l 4
theorem says_wf (m : ByteArray) : (says m).Wf :=
  ⟨wf_small _ (num4_lt _), wf_small _ (by have := num2_lt (cut9 m 21 2); omega), wf_small _ (by have := num2_lt (cut9 m 23 2); omega), wf_small _ (by have := num2_lt (cut9 m 25 2); omega), wf_small _ (by have := num2_lt (cut9 m 27 2); omega), wf_small _ (by have := num2_lt (cut9 m 29 2); omega)⟩
theorem parse11_fit (s : ByteArray) : (parse11 s).2.2.Fit ∧ (parse11 s).2.2.Wf := by
  unfold parse11
  split
  · exact ⟨bz_fit, bz_wf⟩
  split
  · exact ⟨bz_fit, bz_wf⟩
  split
  · exact ⟨bz_fit, bz_wf⟩
  split
  · exact ⟨bz_fit, bz_wf⟩
  split
  · exact ⟨says_fit _ (by rw [ByteArray.size_extract]; omega), says_wf _⟩
  · exact ⟨bz_fit, bz_wf⟩
/-- of an error, or a notice, a zero word -/
theorem parse11_zero (s : ByteArray) (h : (parse11 s).1 ≠ 0 ∨ (parse11 s).2.1 = true) : (parse11 s).2.2 = bz := by
  unfold parse11 at h ⊢
  repeat' split
  all_goals first | rfl | skip
  simp_all
theorem flags_back : ∀ c a : Bool, (flagP c a &&& 1 != 0) = c ∧ (flagP c a &&& 128 != 0) = a := by decide
theorem take_of (A B : List UInt8) (n : Nat) (h : A.length = n) : (A ++ B).take n = A := by
  subst h
  rw [List.take_left]
theorem drop_of (A B : List UInt8) (n : Nat) (h : A.length = n) : (A ++ B).drop n = B := by
  subst h
  rw [List.drop_left]
theorem parse11_notice (more : List UInt8) : parse11 ⟨(noticeL ++ more).toArray⟩ = (0, true, bz) := by
  have hs : (⟨(noticeL ++ more).toArray⟩ : ByteArray).size = 7 + more.length := by rw [str_size, List.length_append]; rfl
  have hc : cut9 ⟨(noticeL ++ more).toArray⟩ 0 7 = noticeL := by
    unfold cut9
    rw [str_list]
    exact take_of _ _ 7 rfl
  unfold parse11
  rw [if_neg (by omega), if_pos hc]
theorem inL_one {L n : Int} {l : List Int} (h : inL L l = true) (hn : n ∈ l) : 0 ≤ n ∧ n ≤ L := by
  unfold inL at h
  rw [List.all_eq_true] at h
  have := h n hn
  simpa using this
structure B11.Right (x : B11) : Prop where
  cost : 0 ≤ x.cost ∧ x.cost ≤ 4294967295
  port : 0 ≤ x.port ∧ x.port ≤ 65535
  age : 0 ≤ x.age ∧ x.age ≤ 65535
  top : 0 ≤ x.top ∧ x.top ≤ 65535
  hello : 0 ≤ x.hello ∧ x.hello ≤ 65535
  delay : 0 ≤ x.delay ∧ x.delay ≤ 65535
  young : x.age < x.top
theorem right11_spec {x : B11} : x.right = true ↔ x.Right := by
  constructor
  · intro h
    unfold B11.right at h
    simp only [Bool.and_eq_true] at h
    obtain ⟨h1, h2, h3⟩ := h
    exact ⟨inL_one h1 (by simp), inL_one h2 (by simp), inL_one h2 (by simp), inL_one h2 (by simp), inL_one h2 (by simp), inL_one h2 (by simp), by simpa [B11.young] using h3⟩
  · intro h
    unfold B11.right inL B11.young
    simp [h.cost, h.port, h.age, h.top, h.hello, h.delay, h.young]
/-- what stands at a printed word's places -/
theorem body_cuts {x : B11} (h : x.Fit) (m : ByteArray) (hm : m.data.toList = [x.flag] ++ (x.r ++ (beTail x.cost.toNat 4 ++ (x.b ++ (beTail x.port.toNat 2 ++ (beTail x.age.toNat 2 ++ (beTail x.top.toNat 2 ++ (beTail x.hello.toNat 2 ++ beTail x.delay.toNat 2)))))))) :
    cut9 m 0 1 = [x.flag] ∧ cut9 m 1 8 = x.r ∧ cut9 m 9 4 = beTail x.cost.toNat 4 ∧ cut9 m 13 8 = x.b ∧ cut9 m 21 2 = beTail x.port.toNat 2 ∧ cut9 m 23 2 = beTail x.age.toNat 2 ∧ cut9 m 25 2 = beTail x.top.toNat 2 ∧ cut9 m 27 2 = beTail x.hello.toNat 2 ∧ cut9 m 29 2 = beTail x.delay.toNat 2 := by
  have l1 := beTail_length x.cost.toNat 4
  have l2 := beTail_length x.port.toNat 2
  have l3 := beTail_length x.age.toNat 2
  have l4 := beTail_length x.top.toNat 2
  have l5 := beTail_length x.hello.toNat 2
  have l6 := beTail_length x.delay.toNat 2
  have hr := h.r
  have hb := h.b
  unfold cut9
  rw [hm]
  generalize beTail x.cost.toNat 4 = C1 at *
  generalize beTail x.port.toNat 2 = C2 at *
  generalize beTail x.age.toNat 2 = C3 at *
  generalize beTail x.top.toNat 2 = C4 at *
  generalize beTail x.hello.toNat 2 = C5 at *
  generalize beTail x.delay.toNat 2 = C6 at *
  generalize x.r = R at *
  generalize x.b = B at *
  have step : ∀ (A Z : List UInt8) (n k : Nat), A.length = n → (A ++ Z).drop (n + k) = Z.drop k := fun A Z n k hn => by
    rw [← List.drop_drop, drop_of A Z n hn]
  have d1 : ∀ Z, (([x.flag] : List UInt8) ++ Z).drop 1 = Z := fun Z => rfl
  refine ⟨rfl, ?_, ?_, ?_, ?_, ?_, ?_, ?_, ?_⟩
  · rw [d1, take_of _ _ 8 hr]
  · rw [show 9 = 1 + (8 + 0) from rfl, step _ _ 1 _ rfl, step _ _ 8 _ hr, List.drop_zero, take_of _ _ 4 l1]
  · rw [show 13 = 1 + (8 + (4 + 0)) from rfl, step _ _ 1 _ rfl, step _ _ 8 _ hr, step _ _ 4 _ l1, List.drop_zero, take_of _ _ 8 hb]
  · rw [show 21 = 1 + (8 + (4 + (8 + 0))) from rfl, step _ _ 1 _ rfl, step _ _ 8 _ hr, step _ _ 4 _ l1, step _ _ 8 _ hb, List.drop_zero, take_of _ _ 2 l2]
  · rw [show 23 = 1 + (8 + (4 + (8 + (2 + 0)))) from rfl, step _ _ 1 _ rfl, step _ _ 8 _ hr, step _ _ 4 _ l1, step _ _ 8 _ hb, step _ _ 2 _ l2, List.drop_zero, take_of _ _ 2 l3]
  · rw [show 25 = 1 + (8 + (4 + (8 + (2 + (2 + 0))))) from rfl, step _ _ 1 _ rfl, step _ _ 8 _ hr, step _ _ 4 _ l1, step _ _ 8 _ hb, step _ _ 2 _ l2, step _ _ 2 _ l3, List.drop_zero, take_of _ _ 2 l4]
  · rw [show 27 = 1 + (8 + (4 + (8 + (2 + (2 + (2 + 0)))))) from rfl, step _ _ 1 _ rfl, step _ _ 8 _ hr, step _ _ 4 _ l1, step _ _ 8 _ hb, step _ _ 2 _ l2, step _ _ 2 _ l3, step _ _ 2 _ l4, List.drop_zero, take_of _ _ 2 l5]
  · rw [show 29 = 1 + (8 + (4 + (8 + (2 + (2 + (2 + (2 + 0))))))) from rfl, step _ _ 1 _ rfl, step _ _ 8 _ hr, step _ _ 4 _ l1, step _ _ 8 _ hb, step _ _ 2 _ l2, step _ _ 2 _ l3, step _ _ 2 _ l4, step _ _ 2 _ l5, List.drop_zero, List.take_of_length_le (by omega)]
theorem bytes_body (x : B11) : x.bytes = wordL ++ ([x.flag] ++ (x.r ++ (beTail x.cost.toNat 4 ++ (x.b ++ (beTail x.port.toNat 2 ++ (beTail x.age.toNat 2 ++ (beTail x.top.toNat 2 ++ (beTail x.hello.toNat 2 ++ beTail x.delay.toNat 2)))))))) := by
  unfold B11.bytes B11.vec B11.times
  simp only [List.append_assoc]
theorem cut_one (m : ByteArray) (b : UInt8) (h : cut9 m 0 1 = [b]) : bAt m 0 = b := by
  unfold cut9 at h
  unfold bAt
  cases hl : m.data.toList with
  | nil => rw [hl] at h; simp at h
  | cons a l => rw [hl] at h; simpa using h
/-- what is printed is parsed as it was, whatever stands behind it -/
theorem parse11_print {x : B11} (h : x.Fit) (hr : x.right = true) (more : List UInt8) : parse11 ⟨(x.bytes ++ more).toArray⟩ = (0, false, x) := by
  have hl := B11.bytes_length h
  have hs : (⟨(x.bytes ++ more).toArray⟩ : ByteArray).size = 38 + more.length := by rw [str_size, List.length_append, hl]
  have R := right11_spec.1 hr
  have hc : cut9 ⟨(x.bytes ++ more).toArray⟩ 0 7 = wordL := by
    unfold cut9
    rw [str_list, bytes_body, List.append_assoc]
    exact take_of _ _ 7 rfl
  have hm : ((⟨(x.bytes ++ more).toArray⟩ : ByteArray).extract 7 38).data.toList = [x.flag] ++ (x.r ++ (beTail x.cost.toNat 4 ++ (x.b ++ (beTail x.port.toNat 2 ++ (beTail x.age.toNat 2 ++ (beTail x.top.toNat 2 ++ (beTail x.hello.toNat 2 ++ beTail x.delay.toNat 2))))))) := by
    rw [extract_list, str_list, bytes_body, List.append_assoc, drop_of _ _ 7 rfl]
    refine take_of _ _ 31 ?_
    simp [h.r, h.b, beTail_length]
  obtain ⟨m, hmd⟩ : ∃ m, (⟨(x.bytes ++ more).toArray⟩ : ByteArray).extract 7 38 = m := ⟨_, rfl⟩
  rw [hmd] at hm
  obtain ⟨k0, k1, k2, k3, k4, k5, k6, k7, k8⟩ := body_cuts h m hm
  have hb := cut_one m _ k0
  have hf := flags_back x.ch x.ack
  have hsay : says m = x := by
    unfold says
    rw [k1, k2, k3, k4, k5, k6, k7, k8, hb]
    obtain ⟨f1, f2⟩ := hf
    have f1' : (x.flag &&& 1 != 0) = x.ch := f1
    have f2' : (x.flag &&& 128 != 0) = x.ack := f2
    rw [f1', f2']
    rw [num_four _ (by have := R.cost; omega), num_two _ (by have := R.port; omega), num_two _ (by have := R.age; omega), num_two _ (by have := R.top; omega), num_two _ (by have := R.hello; omega), num_two _ (by have := R.delay; omega)]
    rw [Int.toNat_of_nonneg R.cost.1, Int.toNat_of_nonneg R.port.1, Int.toNat_of_nonneg R.age.1, Int.toNat_of_nonneg R.top.1, Int.toNat_of_nonneg R.hello.1, Int.toNat_of_nonneg R.delay.1]
  have hok : saysOk m = true := by
    unfold saysOk
    rw [hsay, k0]
    simp [B11.young, R.young]
  unfold parse11
  rw [if_neg (by omega), if_neg (by rw [hc]; decide), if_neg (by rw [hc]; simp), if_neg (by omega), hmd, if_pos hok, hsay]
/-- what is parsed as a word is right, and printed again -/
theorem parse11_word {s : ByteArray} {x : B11} (h : parse11 s = (0, false, x)) : x.right = true ∧ 38 ≤ s.size ∧ x.bytes = s.data.toList.take 38 := by
  unfold parse11 at h
  split at h
  · simp at h
  split at h
  · simp at h
  split at h
  · simp at h
  split at h
  · simp at h
  rename_i h7 hn hw h38
  split at h
  · rename_i hok
    simp only [Prod.mk.injEq, true_and] at h
    have hl : s.data.toList.length = s.size := by rw [len_list]
    have hw2 : cut9 s 0 7 = wordL := by simpa using hw
    have hms : (s.extract 7 38).size = 31 := by rw [ByteArray.size_extract]; omega
    have hml : (s.extract 7 38).data.toList = (s.data.toList.drop 7).take 31 := by rw [extract_list]
    generalize s.extract 7 38 = m at h hok hms hml
    unfold saysOk at hok
    rw [h] at hok
    simp only [Bool.and_eq_true, beq_iff_eq] at hok
    obtain ⟨k0, hy⟩ := hok
    have e2 : ∀ a, a + 2 ≤ m.size → beTail (numP (cut9 m a 2) 2) 2 = cut9 m a 2 := fun a ha => tail_two (cut9_length m a 2 ha)
    have e4 : beTail (numP (cut9 m 9 4) 4) 4 = cut9 m 9 4 := tail_four (cut9_length m 9 4 (by omega))
    have hx := h.symm
    unfold says at hx
    have hr : x.r = cut9 m 1 8 := by rw [hx]
    have hb : x.b = cut9 m 13 8 := by rw [hx]
    have b1 := num4_lt (cut9 m 9 4)
    have b2 := num2_lt (cut9 m 21 2)
    have b3 := num2_lt (cut9 m 23 2)
    have b4 := num2_lt (cut9 m 25 2)
    have b5 := num2_lt (cut9 m 27 2)
    have b6 := num2_lt (cut9 m 29 2)
    have c1 : x.cost = (numP (cut9 m 9 4) 4 : Int) := by rw [hx]
    have c2 : x.port = (numP (cut9 m 21 2) 2 : Int) := by rw [hx]
    have c3 : x.age = (numP (cut9 m 23 2) 2 : Int) := by rw [hx]
    have c4 : x.top = (numP (cut9 m 25 2) 2 : Int) := by rw [hx]
    have c5 : x.hello = (numP (cut9 m 27 2) 2 : Int) := by rw [hx]
    have c6 : x.delay = (numP (cut9 m 29 2) 2 : Int) := by rw [hx]
    refine ⟨?_, by omega, ?_⟩
    · rw [right11_spec]
      refine ⟨by rw [c1]; omega, by rw [c2]; omega, by rw [c3]; omega, by rw [c4]; omega, by rw [c5]; omega, by rw [c6]; omega, ?_⟩
      unfold B11.young at hy
      simpa using hy
    · rw [bytes_body, hr, hb, c1, c2, c3, c4, c5, c6]
      simp only [Int.toNat_natCast]
      rw [e4, e2 21 (by omega), e2 23 (by omega), e2 25 (by omega), e2 27 (by omega), e2 29 (by omega), ← k0]
      have hsplit : s.data.toList.take 38 = cut9 s 0 7 ++ m.data.toList := by
        rw [hml]
        unfold cut9
        rw [List.drop_zero, show 38 = 7 + 31 from rfl, List.take_add]
      rw [hsplit, hw2]
      congr 1
      have hmm : m.data.toList.length = 31 := by rw [len_list, hms]
      have hcut : ∀ (l : List UInt8) (a k : Nat), (l.drop a).take k ++ l.drop (a + k) = l.drop a := fun l a k => by
        rw [← List.drop_drop, List.take_append_drop]
      unfold cut9
      have hend : (m.data.toList.drop 29).take 2 = m.data.toList.drop 29 := List.take_of_length_le (by rw [List.length_drop]; omega)
      rw [hend, hcut _ 27 2, hcut _ 25 2, hcut _ 23 2, hcut _ 21 2, hcut _ 13 8, hcut _ 9 4, hcut _ 1 8, hcut _ 0 1, List.drop_zero]
  · simp at h
/-- unlike right words have unlike bytes -/
theorem bytes11_inj {x y : B11} (hx : x.Fit) (hy : y.Fit) (rx : x.right = true) (ry : y.right = true) (h : x.bytes = y.bytes) : x = y := by
  have h1 := parse11_print hx rx []
  have h2 := parse11_print hy ry []
  rw [h, h2] at h1
  simp only [Prod.mk.injEq, true_and] at h1
  exact h1.symm
end Go.Proofs.Ytingcoojhfadgaa
