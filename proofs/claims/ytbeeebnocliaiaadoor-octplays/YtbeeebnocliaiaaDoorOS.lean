/- Parts of a text between marks, and texts joined: plain mathematics; strings.Cut at a mark of one byte: walked. -/
import Derived.Test.YtbeeebnocliaiaaDoorOD
import Derived.Test.YtbeeebnocliaiaaDoorSX
import Derived.Shelf.RegionOpenPlain
import Derived.Lib.IndexLaws
import Derived.Lib.Slices
import Derived.Lib.Walk
import Derived.BigCall
import Derived.BigGuard
namespace Go.Proofs.YtbeeebnocliaiaaDoor
open Go.RowKit Go.Shelf
/-- what stands between a text's marks -/
def splitL (m : UInt8) : List UInt8 → List (List UInt8)
  | [] => [[]]
  | c :: r => if c = m then [] :: splitL m r else match splitL m r with
    | [] => [[c]]
    | x :: xs => (c :: x) :: xs
theorem splitL_ne (m : UInt8) (l : List UInt8) : splitL m l ≠ [] := by
  cases l with
  | nil => simp [splitL]
  | cons c r =>
    unfold splitL
    split
    · simp
    · split <;> simp
theorem splitL_mark (m : UInt8) (a r : List UInt8) (h : ∀ c ∈ a, c ≠ m) : splitL m (a ++ m :: r) = a :: splitL m r := by
  induction a with
  | nil => show (if m = m then [] :: splitL m r else _) = _; rw [if_pos rfl]
  | cons c a ih =>
    have e := ih (fun x hx => h x (List.mem_cons_of_mem _ hx))
    show (if c = m then [] :: splitL m (a ++ m :: r) else match splitL m (a ++ m :: r) with | [] => [[c]] | x :: xs => (c :: x) :: xs) = _
    rw [if_neg (h c (by simp)), e]
theorem splitL_none (m : UInt8) (a : List UInt8) (h : ∀ c ∈ a, c ≠ m) : splitL m a = [a] := by
  induction a with
  | nil => rfl
  | cons c a ih =>
    have e := ih (fun x hx => h x (List.mem_cons_of_mem _ hx))
    show (if c = m then [] :: splitL m a else match splitL m a with | [] => [[c]] | x :: xs => (c :: x) :: xs) = _
    rw [if_neg (h c (by simp)), e]
theorem join_two (x y : List UInt8) (r : List (List UInt8)) (sep : List UInt8) : Lib.join (x :: y :: r) sep = x ++ (sep ++ Lib.join (y :: r) sep) := by
  simp [Lib.join, List.intercalate]
theorem join_head (c : UInt8) (x : List UInt8) (r : List (List UInt8)) (sep : List UInt8) : Lib.join ((c :: x) :: r) sep = c :: Lib.join (x :: r) sep := by
  cases r with
  | nil => rw [Lib.join_one, Lib.join_one]
  | cons y r => rw [join_two, join_two]; rfl
/-- the parts, joined, are the text -/
theorem join_splitL (m : UInt8) (l : List UInt8) : Lib.join (splitL m l) [m] = l := by
  induction l with
  | nil => rfl
  | cons c r ih =>
    unfold splitL
    split
    · rename_i h
      have hne := splitL_ne m r
      obtain ⟨y, ys, hy⟩ : ∃ y ys, splitL m r = y :: ys := by
        cases hs : splitL m r with
        | nil => exact absurd hs hne
        | cons y ys => exact ⟨y, ys, rfl⟩
      rw [hy, join_two, ← hy, ih, h]
      rfl
    · split
      · rename_i hs
        exact absurd hs (splitL_ne m r)
      · rename_i x xs hs
        rw [join_head, ← hs, ih]
/-- what was joined of parts without marks has just these parts -/
theorem splitL_join (m : UInt8) (xs : List (List UInt8)) (hne : xs ≠ []) (h : ∀ x ∈ xs, ∀ c ∈ x, c ≠ m) : splitL m (Lib.join xs [m]) = xs := by
  induction xs with
  | nil => exact absurd rfl hne
  | cons x r ih =>
    cases r with
    | nil => rw [Lib.join_one]; exact splitL_none m x (h x (by simp))
    | cons y r =>
      rw [join_two]
      show splitL m (x ++ m :: Lib.join (y :: r) [m]) = _
      rw [splitL_mark m x _ (h x (by simp)), ih (by simp) (fun z hz => h z (List.mem_cons_of_mem _ hz))]
/-- a text ahead of its first mark, what stands behind that, and whether there is one -/
def cutL (m : UInt8) (l : List UInt8) : List UInt8 × List UInt8 × Bool :=
  if Lib.indexByte l m = -1 then (l, [], false) else (l.take (Lib.indexByte l m).toNat, l.drop ((Lib.indexByte l m).toNat + 1), true)
/-- what a cut says of the parts -/
theorem cutL_split (m : UInt8) (l : List UInt8) : ((cutL m l).2.2 = false ∧ (cutL m l).1 = l ∧ splitL m l = [l]) ∨
    ((cutL m l).2.2 = true ∧ splitL m l = (cutL m l).1 :: splitL m (cutL m l).2.1 ∧ (cutL m l).2.1.length < l.length) := by
  unfold cutL
  by_cases h : Lib.indexByte l m = -1
  · rw [if_pos h]
    left
    refine ⟨rfl, rfl, splitL_none m l (fun c hc he => ?_)⟩
    obtain ⟨k, hk⟩ := List.getElem?_of_mem hc
    exact Lib.indexByte_none h k (by rw [hk, he])
  · rw [if_neg h]
    right
    have hge := Lib.indexByte_ge l m
    obtain ⟨o, ho⟩ : ∃ o : Nat, Lib.indexByte l m = (o : Int) := ⟨(Lib.indexByte l m).toNat, by omega⟩
    obtain ⟨h1, h2⟩ := Lib.indexByte_some ho
    rw [ho, Int.toNat_natCast]
    have hlt : o < l.length := (List.getElem?_eq_some_iff.1 h1).1
    have hget : l[o]'hlt = m := (List.getElem?_eq_some_iff.1 h1).2
    have hl : l = l.take o ++ m :: l.drop (o + 1) := by
      rw [← hget, ← List.drop_eq_getElem_cons hlt, List.take_append_drop]
    refine ⟨rfl, ?_, ?_⟩
    · show splitL m l = l.take o :: splitL m (l.drop (o + 1))
      conv => lhs; rw [hl]
      refine splitL_mark m _ _ (fun c hc he => ?_)
      obtain ⟨k, hk⟩ := List.getElem?_of_mem hc
      have hkl := (List.getElem?_eq_some_iff.1 hk).1
      rw [List.length_take] at hkl
      rw [List.getElem?_take_of_lt (by omega)] at hk
      exact h2 k (by omega) (by rw [hk, he])
    · show (l.drop (o + 1)).length < l.length
      rw [List.length_drop]; omega
theorem cutL_size (m : UInt8) (l : List UInt8) : (cutL m l).1.length ≤ l.length ∧ (cutL m l).2.1.length ≤ l.length := by
  unfold cutL
  split
  · exact ⟨Nat.le_refl _, Nat.zero_le _⟩
  · exact ⟨by rw [List.length_take]; omega, by rw [List.length_drop]; omega⟩
set_option maxRecDepth 20000 in
set_option maxHeartbeats 2000000 in
theorem cut0_any (s : ByteArray) (m : UInt8) (hs : s.size ≤ 281474976710656) (w : World) :
    Calls Tryd.prog 43 #[.string s, .string ⟨#[m]⟩] w fun e w' => e = .returned (.tuple #[S9 (cutL m s.data.toList).1, S9 (cutL m s.data.toList).2.1, .bool (cutL m s.data.toList).2.2]) ∧ ∃ n, w' = w.drewN n := by
  have hx := fun W => indexS_stringslite_Index_one s m W
  by_cases h : Lib.indexByte s.data.toList m = -1
  · have hc : cutL m s.data.toList = (s.data.toList, [], false) := by unfold cutL; rw [if_pos h]
    rw [hc]
    rw [h] at hx
    have HX := Lib.hid hx
    clear hx h hc
    go_enter Tryd.func43, Tryd.ntmps43
    go_wp2_with (go_at_call 53; refine (HX.out _).mono ?_; rintro e w1 ⟨rfl, rfl⟩)
    go_ret3
    exact ⟨by show Ending.returned (.tuple #[.string s, .string ⟨#[]⟩, .bool false]) = Ending.returned (.tuple #[.string ⟨s.data.toList.toArray⟩, .string ⟨#[]⟩, .bool false]); rw [str_of], 0, rfl⟩
  · have hge := Lib.indexByte_ge s.data.toList m
    obtain ⟨o, ho⟩ : ∃ o : Nat, Lib.indexByte s.data.toList m = (o : Int) := ⟨(Lib.indexByte s.data.toList m).toNat, by omega⟩
    have hc : cutL m s.data.toList = (s.data.toList.take o, s.data.toList.drop (o + 1), true) := by unfold cutL; rw [if_neg h, ho, Int.toNat_natCast]
    obtain ⟨h1, _⟩ := Lib.indexByte_some ho
    have hlt : o < s.size := (List.getElem?_eq_some_iff.1 h1).1
    rw [hc]
    rw [ho] at hx
    have c1 : (0 : Int) ≤ (o : Int) := by omega
    have c2 : (o : Int) ≤ (s.size : Int) := by omega
    have c3 : (0 : Int) ≤ (o : Int) + 1 := by omega
    have c4 : (o : Int) + 1 ≤ (s.size : Int) := by omega
    have hw : IntKind.i64.wrap ((o : Int) + 1) = (o : Int) + 1 := IntWalk.i64_in _ (by omega)
    have hn1 : ((o : Int) + 1).toNat = o + 1 := by omega
    have e1 : (⟨(s.data.toList.take o).toArray⟩ : ByteArray) = s.extract 0 o := by
      apply ByteArray.ext
      apply Array.toList_inj.1
      rw [ByteArray.data_extract, Array.toList_extract, List.extract_eq_take_drop]
      simp
    have e2 : (⟨(s.data.toList.drop (o + 1)).toArray⟩ : ByteArray) = s.extract (o + 1) s.size := by
      apply ByteArray.ext
      apply Array.toList_inj.1
      rw [ByteArray.data_extract, Array.toList_extract, List.extract_eq_take_drop]
      rw [List.take_of_length_le]
      rw [List.length_drop]
      show s.size - (o + 1) ≤ s.size - (o + 1)
      omega
    have HX := Lib.hid hx
    have H1 := Lib.hid e1
    have H2 := Lib.hid e2
    clear hx h hc ho h1 e1 e2
    go_enter Tryd.func43, Tryd.ntmps43
    go_wp2_with (go_at_call 53; refine (HX.out _).mono ?_; rintro e w1 ⟨rfl, rfl⟩)
    have mixed : Tryd.prog.follows Departure.mixedOrders = true := by kernel_rfl
    go_region_o
    go_wp2
    go_ret3
    exact ⟨by show _ = Ending.returned (.tuple #[.string ⟨(List.take o s.data.toList).toArray⟩, .string ⟨(List.drop (o + 1) s.data.toList).toArray⟩, .bool true]); rw [H1.out, H2.out]; rfl, 1, rfl⟩
set_option maxRecDepth 20000 in
set_option maxHeartbeats 2000000 in
theorem cut_any (s : ByteArray) (m : UInt8) (hs : s.size ≤ 281474976710656) (w : World) :
    Calls Tryd.prog 36 #[.string s, .string ⟨#[m]⟩] w fun e w' => e = .returned (.tuple #[S9 (cutL m s.data.toList).1, S9 (cutL m s.data.toList).2.1, .bool (cutL m s.data.toList).2.2]) ∧ ∃ n, w' = w.drewN n := by
  have hc := fun W => cut0_any s m hs W
  generalize cutL m s.data.toList = o at hc ⊢
  have HC := Lib.hid hc
  clear hc
  go_enter Tryd.func36, Tryd.ntmps36
  go_wp2_with (go_at_call 43; refine (HC.out _).mono ?_; rintro e w1 ⟨rfl, n, rfl⟩)
  go_ret3
  exact ⟨rfl, _, rfl⟩
end Go.Proofs.YtbeeebnocliaiaaDoor
