/- What Parse answers, as a plain function of a text's bytes; what it answers of printed frames, cut or whole; what it answers is right, and printed again. No program is run here. -/
import Derived.Test.YthpbhimmfmablaaVJ
namespace Go.Proofs.Ythpbhimmfmablaa
open Go.RowKit
theorem ext_list {a b : ByteArray} (h : a.data.toList = b.data.toList) : a = b := by
  apply ByteArray.ext
  exact Array.toList_inj.1 h
theorem extract_list (s : ByteArray) (a b : Nat) : (s.extract a b).data.toList = (s.data.toList.drop a).take (b - a) := by simp
theorem getAt (A R : List UInt8) (n i : Nat) (h : A.length = n) : (A ++ R).getD (n + i) 0 = R.getD i 0 := by
  rw [List.getD_eq_getElem?_getD, List.getElem?_append_right (by omega), h, Nat.add_sub_cancel_left, ← List.getD_eq_getElem?_getD]
theorem wd_list (s : ByteArray) (i : Nat) : wd s i = (s.data.toList.getD i 0).toNat * 256 + (s.data.toList.getD (i + 1) 0).toNat := rfl
theorem bt2 (n : Nat) : beTail n 2 = [UInt8.ofNat (n / 256), UInt8.ofNat n] := by
  show [UInt8.ofNat (n / 256 ^ 1), UInt8.ofNat (n / 256 ^ 0)] = _
  rw [Nat.pow_one, Nat.pow_zero, Nat.div_one]
theorem tag_mark : beTail 33024 2 = [129, 0] := by decide +kernel
theorem tag_bytes (V Q : Nat) : tagL V Q = [129, 0, UInt8.ofNat ((Q * 8192 + V) / 256), UInt8.ofNat (Q * 8192 + V)] := by
  unfold tagL; rw [tag_mark, bt2]; rfl
theorem two_129 : (129 : UInt8).toNat * 256 + (0 : UInt8).toNat = 33024 := by decide
theorem bt_back (n : Nat) (h : n < 65536) : (UInt8.ofNat (n / 256)).toNat * 256 + (UInt8.ofNat n).toNat = n := by
  rw [UInt8.toNat_ofNat', UInt8.toNat_ofNat']; omega
theorem bt_join (a b : UInt8) : beTail (a.toNat * 256 + b.toNat) 2 = [a, b] := by
  have ha := a.toNat_lt
  have hb := b.toNat_lt
  rw [bt2]
  have e1 : UInt8.ofNat ((a.toNat * 256 + b.toNat) / 256) = a := by
    apply UInt8.toNat_inj.1; rw [UInt8.toNat_ofNat']; omega
  have e2 : UInt8.ofNat (a.toNat * 256 + b.toNat) = b := by
    apply UInt8.toNat_inj.1; rw [UInt8.toNat_ofNat']; omega
  rw [e1, e2]
/-- what stands behind a kind: an error (or 0), a type, a body -/
def contentF (k : Nat) (l : ByteArray) : Int × Int × ByteArray :=
  if k ≤ 1500 then (if l.size < k then (2, 0, ⟨#[]⟩) else (0, 0, l.extract 0 k)) else if rightT (k : Int) then (0, (k : Int), l) else (3, 0, ⟨#[]⟩)
/-- a frame behind its head: K its kind, B what is left, v and p its VLAN and priority -/
def bodyF (D S : List UInt8) (K : Nat) (B : ByteArray) (v p : Int) : Int × E8 :=
  if 1500 < B.size then (3, ez) else if (contentF K B).1 ≠ 0 then ((contentF K B).1, ez) else if v = 4095 then (12, ez) else (0, ⟨D, S, (contentF K B).2.1, (contentF K B).2.2, v, p⟩)
/-- what Parse answers: an error (or 0), a frame -/
def parseF (s : ByteArray) : Int × E8 :=
  if s.size < 14 then (2, ez)
  else if wd s 12 = 33024 then
    if s.size < 16 then (2, ez) else if wd s 14 / 4096 % 2 = 1 then (3, ez) else if s.size < 18 then (2, ez)
    else bodyF (s.data.toList.take 6) ((s.data.toList.drop 6).take 6) (wd s 16) (s.extract 18 s.size) ((wd s 14 % 4096 : Nat) : Int) ((wd s 14 / 8192 : Nat) : Int)
  else bodyF (s.data.toList.take 6) ((s.data.toList.drop 6).take 6) (wd s 12) (s.extract 14 s.size) (-1) 0
/-- what stands for a frame's type -/
def E8.kind (x : E8) : Nat := if x.k = 0 then x.b.size else x.k.toNat
/-- a frame's tag -/
def E8.tag (x : E8) : List UInt8 := if x.v = -1 then [] else tagL x.v.toNat x.p.toNat
/-- a frame's bytes -/
def E8.bytes (x : E8) : List UInt8 := x.d ++ x.s ++ x.tag ++ beTail x.kind 2 ++ x.b.data.toList
/-- how many bytes stand ahead of a frame's body -/
def E8.head (x : E8) : Nat := if x.v = -1 then 14 else 18
theorem tagL_length (V Q : Nat) : (tagL V Q).length = 4 := by
  unfold tagL; rw [List.length_append, beTail_length, beTail_length]
theorem tag_length (x : E8) : x.tag.length + 14 = x.head := by
  unfold E8.tag E8.head
  split
  · rfl
  · rw [tagL_length]
theorem bytes_length {x : E8} (h : x.Six) : x.bytes.length = x.head + x.b.size := by
  have := tag_length x
  have hb : x.b.data.toList.length = x.b.size := by rw [len_list]
  unfold E8.bytes
  simp only [List.length_append, h.d, h.s, beTail_length, hb]
  omega
theorem right_spec {x : E8} (h : x.right = true) : rightT x.k = true ∧ x.b.size ≤ 1500 ∧ ((x.v = -1 ∧ x.p = 0) ∨ ∃ V Q : Nat, x.v = V ∧ x.p = Q ∧ V ≤ 4094 ∧ Q ≤ 7) := by
  unfold E8.right at h
  simp only [Bool.and_eq_true, decide_eq_true_eq] at h
  obtain ⟨⟨h1, h2⟩, h3⟩ := h
  refine ⟨h1, h2, ?_⟩
  by_cases hv : x.v = -1
  · rw [if_pos hv] at h3
    exact Or.inl ⟨hv, by simpa using h3⟩
  · rw [if_neg hv] at h3
    simp only [Bool.and_eq_true, decide_eq_true_eq] at h3
    exact Or.inr ⟨x.v.toNat, x.p.toNat, by omega, by omega, by omega, by omega⟩
theorem rightT_spec {k : Int} (h : rightT k = true) : k = 0 ∨ (1536 ≤ k ∧ k ≤ 65535 ∧ k ≠ 33024) := by
  unfold rightT at h
  simp only [Bool.or_eq_true, Bool.and_eq_true, decide_eq_true_eq, beq_iff_eq, bne_iff_ne, ne_eq] at h
  rcases h with h | ⟨⟨h1, h2⟩, h3⟩
  · exact Or.inl h
  · exact Or.inr ⟨h1, h2, h3⟩
/-- a text laid of addresses, a kind, and what is left -/
theorem parse_plain {s B : ByteArray} {D S : List UInt8} {K : Nat} (hD : D.length = 6) (hS : S.length = 6) (hK : K < 65536) (hK2 : K ≠ 33024) (h : s.data.toList = D ++ S ++ beTail K 2 ++ B.data.toList) :
    parseF s = bodyF D S K B (-1) 0 := by
  have hB : B.data.toList.length = B.size := by rw [len_list]
  have hl : s.data.toList.length = s.size := by rw [len_list]
  have hsz : s.size = 14 + B.size := by
    rw [← hl, h]; simp only [List.length_append, hD, hS, beTail_length, hB]
  have e1 : s.data.toList.take 6 = D := by
    rw [h, List.append_assoc, List.append_assoc, List.take_append_of_le_length (by omega), List.take_of_length_le (by omega)]
  have e2 : (s.data.toList.drop 6).take 6 = S := by
    rw [h, List.append_assoc, List.append_assoc, List.drop_append_of_le_length (by omega), List.drop_of_length_le (by omega), List.nil_append, List.take_append_of_le_length (by omega), List.take_of_length_le (by omega)]
  have hDS : (D ++ S).length = 12 := by rw [List.length_append]; omega
  have e3 : wd s 12 = K := by
    have g := fun i => getAt (D ++ S) (beTail K 2 ++ B.data.toList) 12 i hDS
    rw [wd_list, h, List.append_assoc, show (12 : Nat) = 12 + 0 from rfl, g 0, show 12 + 0 + 1 = 12 + 1 from rfl, g 1, bt2]
    exact bt_back K hK
  have e4 : s.extract 14 s.size = B := by
    apply ext_list
    have h14 : (D ++ S ++ beTail K 2).length = 14 := by rw [List.length_append, hDS, beTail_length]
    rw [extract_list, h, List.drop_append_of_le_length (by omega), List.drop_of_length_le (by omega), List.nil_append, List.take_of_length_le (by omega)]
  unfold parseF
  rw [if_neg (by omega), e3, if_neg hK2, e1, e2, e4]
theorem parse_tag {s B : ByteArray} {D S : List UInt8} {K V Q : Nat} (hD : D.length = 6) (hS : S.length = 6) (hK : K < 65536) (hV : V < 4096) (hQ : Q < 8) (h : s.data.toList = D ++ S ++ tagL V Q ++ beTail K 2 ++ B.data.toList) :
    parseF s = bodyF D S K B (V : Int) (Q : Int) := by
  have hB : B.data.toList.length = B.size := by rw [len_list]
  have hl : s.data.toList.length = s.size := by rw [len_list]
  have hsz : s.size = 18 + B.size := by
    rw [← hl, h]; simp only [List.length_append, hD, hS, beTail_length, hB, tagL_length]
  have e1 : s.data.toList.take 6 = D := by
    rw [h, List.append_assoc, List.append_assoc, List.append_assoc, List.take_append_of_le_length (by omega), List.take_of_length_le (by omega)]
  have e2 : (s.data.toList.drop 6).take 6 = S := by
    rw [h, List.append_assoc, List.append_assoc, List.append_assoc, List.drop_append_of_le_length (by omega), List.drop_of_length_le (by omega), List.nil_append, List.take_append_of_le_length (by omega), List.take_of_length_le (by omega)]
  have hDS : (D ++ S).length = 12 := by rw [List.length_append]; omega
  have hDT : (D ++ S ++ tagL V Q).length = 16 := by rw [List.length_append, hDS, tagL_length]
  have g := fun i => getAt (D ++ S) (tagL V Q ++ (beTail K 2 ++ B.data.toList)) 12 i hDS
  have g2 := fun i => getAt (D ++ S ++ tagL V Q) (beTail K 2 ++ B.data.toList) 16 i hDT
  have e3 : wd s 12 = 33024 := by
    rw [wd_list, h, List.append_assoc, List.append_assoc, show (12 : Nat) = 12 + 0 from rfl, g 0, show 12 + 0 + 1 = 12 + 1 from rfl, g 1, tag_bytes]
    exact two_129
  have e5 : wd s 14 = Q * 8192 + V := by
    rw [wd_list, h, List.append_assoc, List.append_assoc, show (14 : Nat) = 12 + 2 from rfl, g 2, show 12 + 2 + 1 = 12 + 3 from rfl, g 3, tag_bytes]
    exact bt_back _ (by omega)
  have e6 : wd s 16 = K := by
    rw [wd_list, h, List.append_assoc, show (16 : Nat) = 16 + 0 from rfl, g2 0, show 16 + 0 + 1 = 16 + 1 from rfl, g2 1, bt2]
    exact bt_back K hK
  have e4 : s.extract 18 s.size = B := by
    apply ext_list
    have h14 : (D ++ S ++ tagL V Q ++ beTail K 2).length = 18 := by rw [List.length_append, hDT, beTail_length]
    rw [extract_list, h, List.drop_append_of_le_length (by omega), List.drop_of_length_le (by omega), List.nil_append, List.take_of_length_le (by omega)]
  unfold parseF
  rw [if_neg (by omega), e3, if_pos rfl, if_neg (by omega), e5, if_neg (by omega), if_neg (by omega), e1, e2, e4, e6, show (Q * 8192 + V) % 4096 = V from by omega, show (Q * 8192 + V) / 8192 = Q from by omega]
/-- a right frame with another body behind its head -/
theorem parse_head {x : E8} (hx : x.Six) (hr : x.right = true) {s B : ByteArray} (h : s.data.toList = x.d ++ x.s ++ x.tag ++ beTail x.kind 2 ++ B.data.toList) :
    parseF s = bodyF x.d x.s x.kind B x.v x.p := by
  obtain ⟨h1, h2, h3⟩ := right_spec hr
  have hk : x.kind < 65536 ∧ x.kind ≠ 33024 := by
    unfold E8.kind
    rcases rightT_spec h1 with hk | hk
    · rw [if_pos hk]; omega
    · rw [if_neg (by omega)]; omega
  rcases h3 with ⟨hv, hp⟩ | ⟨V, Q, hv, hp, hV, hQ⟩
  · have ht : x.tag = [] := by unfold E8.tag; rw [if_pos hv]
    rw [ht, List.append_nil] at h
    rw [parse_plain hx.d hx.s hk.1 hk.2 h, hv, hp]
  · have ht : x.tag = tagL V Q := by unfold E8.tag; rw [if_neg (by omega), hv, hp]; rfl
    rw [ht] at h
    rw [parse_tag hx.d hx.s hk.1 (by omega) (by omega) h, hv, hp]
/-- what is printed is parsed as it was -/
theorem parse_bytes {x : E8} (hx : x.Six) (hr : x.right = true) : parseF ⟨x.bytes.toArray⟩ = (0, x) := by
  rw [parse_head hx hr (B := x.b) rfl]
  obtain ⟨h1, h2, h3⟩ := right_spec hr
  have hv : x.v ≠ 4095 := by rcases h3 with ⟨hv, _⟩ | ⟨V, Q, hv, _, hV, _⟩ <;> omega
  have hc : contentF x.kind x.b = (0, x.k, x.b) := by
    rcases rightT_spec h1 with hk | hk
    · have hkd : x.kind = x.b.size := by unfold E8.kind; rw [if_pos hk]
      rw [hkd]
      unfold contentF
      rw [if_pos h2, if_neg (by omega), hk]
      have e : x.b.extract 0 x.b.size = x.b := by simp
      rw [e]
    · have hkd : x.kind = x.k.toNat := by unfold E8.kind; rw [if_neg (by omega)]
      rw [hkd]
      unfold contentF
      rw [if_neg (by omega), show ((x.k.toNat : Nat) : Int) = x.k from by omega, if_pos h1]
  unfold bodyF
  rw [if_neg (by omega), hc, if_neg (by simp), if_neg hv]
/-- what is cut off ahead of a frame's end -/
theorem parse_cut {x : E8} (hx : x.Six) (hr : x.right = true) (n : Nat) (hn : n < x.bytes.length) :
    parseF ⟨(x.bytes.take n).toArray⟩ = if x.k = 0 ∨ n < x.head then (2, ez) else (0, { x with b := x.b.extract 0 (n - x.head) }) := by
  have hl := bytes_length hx
  obtain ⟨h1, h2, h3⟩ := right_spec hr
  have hv : x.v ≠ 4095 := by rcases h3 with ⟨hv, _⟩ | ⟨V, Q, hv, _, hV, _⟩ <;> omega
  have hbl : x.b.data.toList.length = x.b.size := by rw [len_list]
  have ht := tag_length x
  have hhl : (x.d ++ x.s ++ x.tag ++ beTail x.kind 2).length = x.head := by
    simp only [List.length_append, hx.d, hx.s, beTail_length]; omega
  by_cases hh : n < x.head
  · rw [if_pos (Or.inr hh)]
    have hsz : (⟨(x.bytes.take n).toArray⟩ : ByteArray).size = n := by
      show (x.bytes.take n).length = n
      rw [List.length_take]; omega
    unfold parseF
    rw [hsz]
    by_cases h14 : n < 14
    · rw [if_pos h14]
    · rw [if_neg h14]
      have hv1 : x.v ≠ -1 := by
        intro e; unfold E8.head at hh; rw [if_pos e] at hh; omega
      have h18 : x.head = 18 := by unfold E8.head; rw [if_neg hv1]
      rcases h3 with ⟨e, _⟩ | ⟨V, Q, hv, hp, hV, hQ⟩
      · exact absurd e hv1
      · have ht : x.tag = tagL V Q := by unfold E8.tag; rw [if_neg (by omega), hv, hp]; rfl
        have hDS : (x.d ++ x.s).length = 12 := by rw [List.length_append, hx.d, hx.s]
        have hg : ∀ i, i < n → (x.bytes.take n).getD i 0 = x.bytes.getD i 0 := fun i hi => by
          rw [List.getD_eq_getElem?_getD, List.getElem?_take_of_lt hi, ← List.getD_eq_getElem?_getD]
        have hbd : ∀ i, x.bytes.getD (12 + i) 0 = (tagL V Q ++ (beTail x.kind 2 ++ x.b.data.toList)).getD i 0 := fun i => by
          unfold E8.bytes
          rw [ht, List.append_assoc, List.append_assoc, getAt _ _ 12 i hDS]
        have e3 : wd ⟨(x.bytes.take n).toArray⟩ 12 = 33024 := by
          rw [wd_list]
          show ((x.bytes.take n).getD 12 0).toNat * 256 + ((x.bytes.take n).getD 13 0).toNat = 33024
          rw [hg 12 (by omega), hg 13 (by omega), hbd 0, hbd 1, tag_bytes]
          exact two_129
        rw [e3, if_pos rfl]
        by_cases h16 : n < 16
        · rw [if_pos h16]
        · have e5 : wd ⟨(x.bytes.take n).toArray⟩ 14 = Q * 8192 + V := by
            rw [wd_list]
            show ((x.bytes.take n).getD 14 0).toNat * 256 + ((x.bytes.take n).getD 15 0).toNat = _
            rw [hg 14 (by omega), hg 15 (by omega), hbd 2, hbd 3, tag_bytes]
            exact bt_back _ (by omega)
          rw [if_neg h16, e5, if_neg (by omega), if_pos (by omega)]
  · have hcut : x.bytes.take n = x.d ++ x.s ++ x.tag ++ beTail x.kind 2 ++ (x.b.extract 0 (n - x.head)).data.toList := by
      unfold E8.bytes
      rw [List.take_append, hhl, List.take_of_length_le (by omega), extract_list]
      rfl
    rw [parse_head hx hr (B := x.b.extract 0 (n - x.head)) hcut]
    have hB : (x.b.extract 0 (n - x.head)).size = n - x.head := by rw [ByteArray.size_extract]; omega
    unfold bodyF
    rw [if_neg (by omega)]
    rcases rightT_spec h1 with hk | hk
    · have hkd : x.kind = x.b.size := by unfold E8.kind; rw [if_pos hk]
      have hc : contentF x.kind (x.b.extract 0 (n - x.head)) = (2, 0, ⟨#[]⟩) := by
        rw [hkd]
        unfold contentF
        rw [if_pos h2, if_pos (by omega)]
      rw [hc, if_pos (by simp), if_pos (Or.inl hk)]
    · have hkd : x.kind = x.k.toNat := by unfold E8.kind; rw [if_neg (by omega)]
      have hc : contentF x.kind (x.b.extract 0 (n - x.head)) = (0, x.k, x.b.extract 0 (n - x.head)) := by
        rw [hkd]
        unfold contentF
        rw [if_neg (by omega), show ((x.k.toNat : Nat) : Int) = x.k from by omega, if_pos h1]
      rw [hc, if_neg (by simp), if_neg hv, if_neg (by omega)]
theorem bodyF_six {D S : List UInt8} (hD : D.length = 6) (hS : S.length = 6) (K : Nat) (B : ByteArray) (v p : Int) : (bodyF D S K B v p).2.Six := by
  unfold bodyF
  split
  · exact ez_six
  · split
    · exact ez_six
    · split
      · exact ez_six
      · exact ⟨hD, hS⟩
theorem bodyF_err {D S : List UInt8} {K : Nat} {B : ByteArray} {v p : Int} (h : (bodyF D S K B v p).1 ≠ 0) : (bodyF D S K B v p).2 = ez := by
  unfold bodyF at h ⊢
  split
  · rfl
  · rename_i h1
    rw [if_neg h1] at h
    split
    · rfl
    · rename_i h2
      rw [if_neg h2] at h
      split
      · rfl
      · rename_i h3
        rw [if_neg h3] at h
        exact absurd rfl h
theorem parse_six (s : ByteArray) : (parseF s).2.Six := by
  have hl : s.data.toList.length = s.size := by rw [len_list]
  unfold parseF
  by_cases h0 : s.size < 14
  · rw [if_pos h0]; exact ez_six
  · have hD : (s.data.toList.take 6).length = 6 := by rw [List.length_take]; omega
    have hS : ((s.data.toList.drop 6).take 6).length = 6 := by rw [List.length_take, List.length_drop]; omega
    rw [if_neg h0]
    split
    · split
      · exact ez_six
      · split
        · exact ez_six
        · split
          · exact ez_six
          · exact bodyF_six hD hS _ _ _ _
    · exact bodyF_six hD hS _ _ _ _
theorem parse_err {s : ByteArray} (h : (parseF s).1 ≠ 0) : (parseF s).2 = ez := by
  unfold parseF at h ⊢
  by_cases h0 : s.size < 14
  · rw [if_pos h0]
  · rw [if_neg h0] at h ⊢
    by_cases h1 : wd s 12 = 33024
    · rw [if_pos h1] at h ⊢
      by_cases h2 : s.size < 16
      · rw [if_pos h2]
      · rw [if_neg h2] at h ⊢
        by_cases h3 : wd s 14 / 4096 % 2 = 1
        · rw [if_pos h3]
        · rw [if_neg h3] at h ⊢
          by_cases h4 : s.size < 18
          · rw [if_pos h4]
          · rw [if_neg h4] at h ⊢
            exact bodyF_err h
    · rw [if_neg h1] at h ⊢
      exact bodyF_err h
theorem two_at (s : ByteArray) (i : Nat) (h : i + 2 ≤ s.size) : beTail (wd s i) 2 = (s.data.toList.drop i).take 2 := by
  have hl : s.data.toList.length = s.size := by rw [len_list]
  rw [wd_list, bt_join]
  generalize s.data.toList = l at hl ⊢
  rw [List.drop_eq_getElem_cons (by omega), List.drop_eq_getElem_cons (by omega : i + 1 < l.length)]
  rw [List.getD_eq_getElem?_getD, List.getD_eq_getElem?_getD, List.getElem?_eq_getElem (by omega), List.getElem?_eq_getElem (by omega)]
  rfl
theorem rest_at (s : ByteArray) (i : Nat) : (s.extract i s.size).data.toList = s.data.toList.drop i := by
  have hl : s.data.toList.length = s.size := by rw [len_list]
  rw [extract_list, List.take_of_length_le (by rw [List.length_drop]; omega)]
theorem split_plain (s : ByteArray) (h : 14 ≤ s.size) :
    s.data.toList = s.data.toList.take 6 ++ (s.data.toList.drop 6).take 6 ++ beTail (wd s 12) 2 ++ (s.extract 14 s.size).data.toList := by
  rw [two_at s 12 (by omega), rest_at, ← List.take_add, ← List.take_add, List.take_append_drop]
theorem split_tag (s : ByteArray) (h : 18 ≤ s.size) (hm : wd s 12 = 33024) (h1 : wd s 14 / 4096 % 2 ≠ 1) :
    s.data.toList = s.data.toList.take 6 ++ (s.data.toList.drop 6).take 6 ++ tagL (wd s 14 % 4096) (wd s 14 / 8192) ++ beTail (wd s 16) 2 ++ (s.extract 18 s.size).data.toList := by
  have e : wd s 14 / 8192 * 8192 + wd s 14 % 4096 = wd s 14 := by omega
  unfold tagL
  rw [e, ← hm, two_at s 12 (by omega), two_at s 14 (by omega), two_at s 16 (by omega), rest_at, ← List.append_assoc, ← List.take_add, ← List.take_add, ← List.take_add, ← List.take_add, List.take_append_drop]
theorem content_ok {K : Nat} {B : ByteArray} (h : (contentF K B).1 = 0) :
    rightT (contentF K B).2.1 = true ∧ (contentF K B).2.2.size ≤ B.size ∧ (contentF K B).2.2.data.toList = B.data.toList.take (contentF K B).2.2.size ∧ (if (contentF K B).2.1 = 0 then (contentF K B).2.2.size else (contentF K B).2.1.toNat) = K := by
  have hB : B.data.toList.length = B.size := by rw [len_list]
  unfold contentF at h ⊢
  by_cases h1 : K ≤ 1500
  · rw [if_pos h1] at h ⊢
    by_cases h2 : B.size < K
    · rw [if_pos h2] at h
      simp at h
    · rw [if_neg h2]
      have hs : (B.extract 0 K).size = K := by rw [ByteArray.size_extract]; omega
      refine ⟨rfl, by show (B.extract 0 K).size ≤ _; omega, ?_, ?_⟩
      · show (B.extract 0 K).data.toList = B.data.toList.take (B.extract 0 K).size
        rw [hs, extract_list]
        rfl
      · show (if (0 : Int) = 0 then (B.extract 0 K).size else _) = K
        rw [if_pos rfl, hs]
  · rw [if_neg h1] at h ⊢
    by_cases h2 : rightT (K : Int) = true
    · rw [if_pos h2]
      refine ⟨h2, Nat.le_refl _, ?_, ?_⟩
      · show B.data.toList = B.data.toList.take B.size
        rw [List.take_of_length_le (by omega)]
      · show (if (K : Int) = 0 then B.size else (K : Int).toNat) = K
        rw [if_neg (by omega)]; rfl
    · rw [if_neg h2] at h
      simp at h
theorem take_front (P B : List UInt8) (m : Nat) (h : m ≤ B.length) : P ++ B.take m = (P ++ B).take (P ++ B.take m).length ∧ (P ++ B.take m).length ≤ (P ++ B).length := by
  have hl : (P ++ B.take m).length = P.length + m := by rw [List.length_append, List.length_take]; omega
  rw [hl, List.length_append]
  refine ⟨?_, by omega⟩
  rw [List.take_append, List.take_of_length_le (l := P) (by omega), Nat.add_sub_cancel_left]
/-- behind any head: what is parsed is right, and its bytes are the text's first ones -/
theorem bodyF_ok {D S H : List UInt8} {K : Nat} {B : ByteArray} {v p : Int} (h : (bodyF D S K B v p).1 = 0) (l : List UInt8) (hl : l = H ++ beTail K 2 ++ B.data.toList)
    (hH : ∀ k b, H = D ++ S ++ E8.tag ⟨D, S, k, b, v, p⟩) (hvp : v ≠ 4095 → (if v = -1 then p == 0 else decide (0 ≤ v) && decide (v ≤ 4094) && decide (0 ≤ p) && decide (p ≤ 7)) = true) :
    (bodyF D S K B v p).2.right = true ∧ (bodyF D S K B v p).2.bytes = l.take (bodyF D S K B v p).2.bytes.length ∧ (bodyF D S K B v p).2.bytes.length ≤ l.length := by
  unfold bodyF at h ⊢
  by_cases h1 : 1500 < B.size
  · rw [if_pos h1] at h
    simp at h
  · rw [if_neg h1] at h ⊢
    by_cases h2 : (contentF K B).1 ≠ 0
    · rw [if_pos h2] at h
      exact absurd h h2
    · rw [if_neg h2] at h ⊢
      by_cases h3 : v = 4095
      · rw [if_pos h3] at h
        simp at h
      · rw [if_neg h3]
        obtain ⟨c1, c2, c3, c4⟩ := content_ok (by simpa using h2)
        generalize (contentF K B).2.1 = k at c1 c4 ⊢
        generalize (contentF K B).2.2 = b at c2 c3 c4 ⊢
        refine ⟨?_, ?_⟩
        · unfold E8.right
          simp only [Bool.and_eq_true, decide_eq_true_eq]
          exact ⟨⟨c1, by omega⟩, hvp h3⟩
        · have hb : E8.bytes ⟨D, S, k, b, v, p⟩ = H ++ beTail K 2 ++ B.data.toList.take b.size := by
            have hk : E8.kind ⟨D, S, k, b, v, p⟩ = K := c4
            show D ++ S ++ E8.tag ⟨D, S, k, b, v, p⟩ ++ beTail (E8.kind ⟨D, S, k, b, v, p⟩) 2 ++ b.data.toList = _
            rw [hk, ← hH k b, c3]
          have hB : B.data.toList.length = B.size := by rw [len_list]
          rw [hb, hl]
          exact take_front _ _ _ (by omega)
/-- what is parsed is right, and its bytes are the text's first ones -/
theorem parse_right {s : ByteArray} (h : (parseF s).1 = 0) :
    (parseF s).2.right = true ∧ (parseF s).2.bytes = s.data.toList.take (parseF s).2.bytes.length ∧ (parseF s).2.bytes.length ≤ s.size := by
  have hl : s.data.toList.length = s.size := by rw [len_list]
  rw [← hl]
  unfold parseF at h ⊢
  by_cases h0 : s.size < 14
  · rw [if_pos h0] at h
    simp at h
  · rw [if_neg h0] at h ⊢
    by_cases h1 : wd s 12 = 33024
    · rw [if_pos h1] at h ⊢
      by_cases h2 : s.size < 16
      · rw [if_pos h2] at h
        simp at h
      · rw [if_neg h2] at h ⊢
        by_cases h3 : wd s 14 / 4096 % 2 = 1
        · rw [if_pos h3] at h
          simp at h
        · rw [if_neg h3] at h ⊢
          by_cases h4 : s.size < 18
          · rw [if_pos h4] at h
            simp at h
          · rw [if_neg h4] at h ⊢
            have hw := wd_lt s 14
            refine bodyF_ok h _ (split_tag s (by omega) h1 h3) (fun k b => ?_) (fun hv => ?_)
            · unfold E8.tag
              rw [if_neg (by show ¬ ((wd s 14 % 4096 : Nat) : Int) = -1; omega)]
              rfl
            · rw [if_neg (by omega)]
              simp only [Bool.and_eq_true, decide_eq_true_eq]
              omega
    · rw [if_neg h1] at h ⊢
      refine bodyF_ok h _ (H := s.data.toList.take 6 ++ (s.data.toList.drop 6).take 6) (split_plain s (by omega)) (fun k b => ?_) (fun hv => ?_)
      · unfold E8.tag
        rw [if_pos rfl, List.append_nil]
      · rw [if_pos rfl]; rfl
end Go.Proofs.Ythpbhimmfmablaa
