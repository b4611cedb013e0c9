/- Questions and answers of ARP as values: their cells, in memory; what is copied into them; their bytes; what any bytes are parsed as. No program is run here. -/
import Derived.Test.YthpbhimmfmablaaWB
import Derived.Test.YthpbhimmfmablaaWA
namespace Go.Proofs.Ythpbhimmfmablaa
open Go.RowKit
/-- a question, or an answer -/
structure A9 where
  op : Int
  m : List UInt8
  t : List UInt8
  i : List UInt8
  w : List UInt8
/-- its cells -/
def A9.c (x : A9) : Array Value := (Value.int .i64 x.op :: (x.m ++ (x.t ++ (x.i ++ x.w))).map B8).toArray
/-- its addresses have six bytes each, or four -/
structure A9.Fit (x : A9) : Prop where
  m : x.m.length = 6
  t : x.t.length = 6
  i : x.i.length = 4
  w : x.w.length = 4
theorem six_of {l : List UInt8} (h : l.length = 6) : ∃ a b c d e f, l = [a, b, c, d, e, f] := by
  match l, h with
  | [a, b, c, d, e, f], _ => exact ⟨a, b, c, d, e, f, rfl⟩
theorem four_of {l : List UInt8} (h : l.length = 4) : ∃ a b c d, l = [a, b, c, d] := by
  match l, h with
  | [a, b, c, d], _ => exact ⟨a, b, c, d, rfl⟩
theorem A9.size {x : A9} (h : x.Fit) : x.c.size = 21 := by
  unfold A9.c
  simp [h.m, h.t, h.i, h.w]
theorem A9.one (x : A9) : x.c.all (·.oneCell') = true := by
  unfold A9.c
  simp [Value.oneCell']
section
variable {w : World} {g : Nat} {t : TypeId} {x : A9}
theorem Has.aop (h : Has w g t x.c) : w.cell? ⟨g, 0, none⟩ = some (.int .i64 x.op) := by rw [h.cell]; rfl
theorem part_at (A B C : List UInt8) (n : Nat) (hn : A.length = n) (v : Value) : ((v :: (A ++ (B ++ C)).map B8).drop (n + 1)).take (B.map B8).length = B.map B8 := by
  subst hn
  rw [List.drop_succ_cons, List.map_append, List.map_append, List.drop_append_of_le_length (by simp), List.drop_of_length_le (by simp), List.nil_append, List.take_left]
theorem Has.am (h : Has w g t x.c) : w.rangeAt g 1 (x.m.map B8) := rangeU h 1 _ (by
  have := part_at [] x.m (x.t ++ (x.i ++ x.w)) 0 rfl (Value.int .i64 x.op)
  exact this)
theorem Has.at (h : Has w g t x.c) (hx : x.Fit) : w.rangeAt g 7 (x.t.map B8) := rangeU h 7 _ (by
  have := part_at x.m x.t (x.i ++ x.w) 6 hx.m (Value.int .i64 x.op)
  exact this)
theorem Has.ai (h : Has w g t x.c) (hx : x.Fit) : w.rangeAt g 13 (x.i.map B8) := rangeU h 13 _ (by
  have := part_at (x.m ++ x.t) x.i x.w 12 (by rw [List.length_append, hx.m, hx.t]) (Value.int .i64 x.op)
  rw [List.append_assoc] at this
  exact this)
theorem Has.aw (h : Has w g t x.c) (hx : x.Fit) : w.rangeAt g 17 (x.w.map B8) := rangeU h 17 _ (by
  have := part_at (x.m ++ (x.t ++ x.i)) x.w [] 16 (by simp [hx.m, hx.t, hx.i]) (Value.int .i64 x.op)
  simp only [List.append_nil, List.append_assoc] at this
  exact this)
end
/-- six zero bytes, four zero bytes -/
def o4 : List UInt8 := [0, 0, 0, 0]
abbrev az : A9 := ⟨0, o6, o6, o4, o4⟩
theorem az_fit : az.Fit := ⟨rfl, rfl, rfl, rfl⟩
theorem part_set (A B C : List UInt8) (n k : Nat) (hn : A.length = n) (hk : B.length = k) (v : Value) (l : List UInt8) :
    ((v :: (A ++ (B ++ C)).map B8).take (n + 1) ++ Lib.byteCells l ++ (v :: (A ++ (B ++ C)).map B8).drop (n + 1 + k)).toArray = (v :: (A ++ (l ++ C)).map B8).toArray := by
  subst hn
  subst hk
  have e1 : (v :: (A ++ (B ++ C)).map B8).take (A.length + 1) = v :: A.map B8 := by
    rw [List.take_succ_cons, List.map_append, List.take_append_of_le_length (by simp), List.take_of_length_le (by simp)]
  have e2 : (v :: (A ++ (B ++ C)).map B8).drop (A.length + 1 + B.length) = C.map B8 := by
    rw [show A.length + 1 + B.length = (A.length + B.length) + 1 from by omega, List.drop_succ_cons, ← List.append_assoc, List.map_append, List.drop_append_of_le_length (by simp), List.drop_of_length_le (by simp), List.nil_append]
  rw [e1, e2]
  simp [Lib.byteCells]
theorem A9.set_m {x : A9} (h : x.Fit) (l : List UInt8) : (x.c.toList.take 1 ++ Lib.byteCells l ++ x.c.toList.drop (1 + 6)).toArray = A9.c { x with m := l } := part_set [] x.m (x.t ++ (x.i ++ x.w)) 0 6 rfl h.m _ l
theorem A9.set_t {x : A9} (h : x.Fit) (l : List UInt8) : (x.c.toList.take 7 ++ Lib.byteCells l ++ x.c.toList.drop (7 + 6)).toArray = A9.c { x with t := l } := part_set x.m x.t (x.i ++ x.w) 6 6 h.m h.t _ l
theorem A9.set_i {x : A9} (h : x.Fit) (l : List UInt8) : (x.c.toList.take 13 ++ Lib.byteCells l ++ x.c.toList.drop (13 + 4)).toArray = A9.c { x with i := l } := by
  have := part_set (x.m ++ x.t) x.i x.w 12 4 (by rw [List.length_append, h.m, h.t]) h.i (Value.int .i64 x.op) l
  simp only [List.append_assoc] at this
  rw [List.append_assoc]
  exact this
theorem A9.set_w {x : A9} (h : x.Fit) (l : List UInt8) : (x.c.toList.take 17 ++ Lib.byteCells l ++ x.c.toList.drop (17 + 4)).toArray = A9.c { x with w := l } := by
  have := part_set (x.m ++ (x.t ++ x.i)) x.w [] 16 4 (by simp [h.m, h.t, h.i]) h.w (Value.int .i64 x.op) l
  simp only [List.append_assoc, List.append_nil] at this
  rw [List.append_assoc]
  exact this
/-- may it have this number? -/
def rightO (k : Int) : Bool := k == 1 || k == 2
/-- what each body begins with -/
def headL : List UInt8 := [0, 1, 8, 0, 6, 4]
/-- its bytes -/
def A9.bytes (x : A9) : List UInt8 := headL ++ (beTail x.op.toNat 2 ++ (x.m ++ (x.i ++ (x.t ++ x.w))))
theorem A9.bytes_length {x : A9} (h : x.Fit) : x.bytes.length = 28 := by
  unfold A9.bytes
  simp [beTail_length, h.m, h.t, h.i, h.w, headL]
/-- what Print answers -/
def print9 (x : A9) : List UInt8 × Int := if rightO x.op then (x.bytes, 0) else ([], 3)
/-- some bytes of a text -/
def cut9 (s : ByteArray) (a n : Nat) : List UInt8 := (s.data.toList.drop a).take n
theorem cut9_length (s : ByteArray) (a n : Nat) (h : a + n ≤ s.size) : (cut9 s a n).length = n := by
  unfold cut9
  rw [List.length_take, List.length_drop, len_list]
  omega
/-- what stands at the places of a body -/
def body9 (s : ByteArray) : A9 := ⟨(wd s 6 : Int), cut9 s 8 6, cut9 s 18 6, cut9 s 14 4, cut9 s 24 4⟩
theorem body9_fit (s : ByteArray) (h : 28 ≤ s.size) : (body9 s).Fit := ⟨cut9_length s 8 6 (by omega), cut9_length s 18 6 (by omega), cut9_length s 14 4 (by omega), cut9_length s 24 4 (by omega)⟩
/-- what Parse answers: an error (or 0), a question or an answer -/
def parse9 (s : ByteArray) : Int × A9 :=
  if s.size < 28 then (2, az) else if cut9 s 0 6 ≠ headL then (3, az) else if rightO (wd s 6) then (0, body9 s) else (3, az)
theorem parse9_fit (s : ByteArray) : (parse9 s).2.Fit := by
  unfold parse9
  split
  · exact az_fit
  · split
    · exact az_fit
    · split
      · exact body9_fit s (by omega)
      · exact az_fit
theorem rightO_spec {k : Int} (h : rightO k = true) : k = 1 ∨ k = 2 := by
  unfold rightO at h
  simpa using h
theorem part_cut (A B C : List UInt8) (n k : Nat) (hn : A.length = n) (hk : B.length = k) : ((A ++ (B ++ C)).drop n).take k = B := by
  subst hn
  subst hk
  rw [List.drop_left, List.take_left]
/-- what is printed is parsed as it was, whatever stands behind it -/
theorem parse_print {x : A9} (h : x.Fit) (hr : rightO x.op = true) (more : List UInt8) : parse9 ⟨(x.bytes ++ more).toArray⟩ = (0, x) := by
  have hl := A9.bytes_length h
  have hs : (⟨(x.bytes ++ more).toArray⟩ : ByteArray).size = 28 + more.length := by rw [str_size, List.length_append, hl]
  have hb2 := beTail_length x.op.toNat 2
  have c0 : cut9 ⟨(x.bytes ++ more).toArray⟩ 0 6 = headL := by
    unfold cut9 A9.bytes
    rw [str_list]
    have := part_cut [] headL ((beTail x.op.toNat 2 ++ (x.m ++ (x.i ++ (x.t ++ x.w)))) ++ more) 0 6 rfl rfl
    rw [List.append_assoc]
    exact this
  have c8 : cut9 ⟨(x.bytes ++ more).toArray⟩ 8 6 = x.m := by
    unfold cut9 A9.bytes
    rw [str_list]
    have := part_cut (headL ++ beTail x.op.toNat 2) x.m ((x.i ++ (x.t ++ x.w)) ++ more) 8 6 (by simp [hb2, headL]) h.m
    simp only [List.append_assoc] at this ⊢
    exact this
  have c14 : cut9 ⟨(x.bytes ++ more).toArray⟩ 14 4 = x.i := by
    unfold cut9 A9.bytes
    rw [str_list]
    have := part_cut (headL ++ (beTail x.op.toNat 2 ++ x.m)) x.i ((x.t ++ x.w) ++ more) 14 4 (by simp [hb2, headL, h.m]) h.i
    simp only [List.append_assoc] at this ⊢
    exact this
  have c18 : cut9 ⟨(x.bytes ++ more).toArray⟩ 18 6 = x.t := by
    unfold cut9 A9.bytes
    rw [str_list]
    have := part_cut (headL ++ (beTail x.op.toNat 2 ++ (x.m ++ x.i))) x.t (x.w ++ more) 18 6 (by simp [hb2, headL, h.m, h.i]) h.t
    simp only [List.append_assoc] at this ⊢
    exact this
  have c24 : cut9 ⟨(x.bytes ++ more).toArray⟩ 24 4 = x.w := by
    unfold cut9 A9.bytes
    rw [str_list]
    have := part_cut (headL ++ (beTail x.op.toNat 2 ++ (x.m ++ (x.i ++ x.t)))) x.w more 24 4 (by simp [hb2, headL, h.m, h.i, h.t]) h.w
    simp only [List.append_assoc] at this ⊢
    exact this
  have hw : (wd ⟨(x.bytes ++ more).toArray⟩ 6 : Int) = x.op := by
    rw [wd_list, str_list]
    unfold A9.bytes
    rw [List.append_assoc, getAt headL _ 6 0 rfl, show 6 + 1 = 6 + 1 from rfl, getAt headL _ 6 1 rfl]
    rcases rightO_spec hr with e | e
    · rw [e, show beTail (1 : Int).toNat 2 = [0, 1] from by decide +kernel]; show (((0 : UInt8).toNat * 256 + (1 : UInt8).toNat : Nat) : Int) = 1; decide
    · rw [e, show beTail (2 : Int).toNat 2 = [0, 2] from by decide +kernel]; show (((0 : UInt8).toNat * 256 + (2 : UInt8).toNat : Nat) : Int) = 2; decide
  unfold parse9 body9
  rw [hs, if_neg (by omega), c0, if_neg (by simp), hw, hr, if_pos rfl, c8, c14, c18, c24]
end Go.Proofs.Ythpbhimmfmablaa
