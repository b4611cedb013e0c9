/- Questions and answers of neighbours, printed and parsed again; cut off; with a byte changed. No program is run here. -/
import Derived.Test.YtkjkmnaiddjjnaaLB
namespace Go.Proofs.Ytkjkmnaiddjjnaa
open Go.RowKit
theorem getD_set (l : List UInt8) (i k : Nat) (v : UInt8) (hi : i < l.length) : (l.set i v).getD k 0 = if i = k then v else l.getD k 0 := by
  rw [List.getD_eq_getElem?_getD, List.getElem?_set]
  split
  · rename_i h
    subst h
    simp
  · rw [List.getD_eq_getElem?_getD]
/-- what a byte at place i adds -/
def wt (i : Nat) : Nat := if i % 2 = 0 then 256 else 1
theorem t16_step (l : List UInt8) (k : Nat) : t16 l (k + 1) = t16 l k + wt k * (l.getD k 0).toNat := by
  unfold wt
  by_cases h : k % 2 = 0
  · rw [if_pos h, t16_even l k h]; omega
  · rw [if_neg h, t16_odd l k (by omega)]; omega
theorem t16_set (l : List UInt8) (i : Nat) (v : UInt8) (hi : i < l.length) : ∀ k, t16 (l.set i v) k + (if i < k then wt i * (l.getD i 0).toNat else 0) = t16 l k + (if i < k then wt i * v.toNat else 0)
  | 0 => by simp [t16]
  | k + 1 => by
    have ih := t16_set l i v hi k
    rw [t16_step, t16_step, getD_set l i k v hi]
    by_cases h : i = k
    · subst h
      rw [if_pos rfl, if_pos (by omega), if_pos (by omega)]
      rw [if_neg (by omega), if_neg (by omega)] at ih
      omega
    · rw [if_neg h]
      by_cases h1 : i < k
      · rw [if_pos h1, if_pos h1] at ih
        rw [if_pos (by omega), if_pos (by omega)]
        omega
      · rw [if_neg h1, if_neg h1] at ih
        rw [if_neg (by omega), if_neg (by omega)]
        omega
/-- a byte that is changed changes the sum -/
theorem sum16_changed (l : List UInt8) (i : Nat) (v : UInt8) (hi : i < l.length) (hv : v ≠ l.getD i 0) : sum16 (l.set i v) ≠ sum16 l := by
  intro he
  have h1 := t16_set l i v hi l.length
  rw [if_pos hi, if_pos hi] at h1
  have e1 : sumL (l.set i v) = t16 (l.set i v) l.length := by unfold sumL; rw [List.length_set]
  have e2 : sumL l = t16 l l.length := rfl
  have c1 := c16_le (sumL (l.set i v))
  have c2 := c16_le (sumL l)
  unfold sum16 at he
  have hc : c16 (sumL (l.set i v)) = c16 (sumL l) := by omega
  rw [e1, e2] at hc
  generalize t16 (l.set i v) l.length = x at h1 hc
  generalize t16 l l.length = y at h1 hc
  have ho : (l.getD i 0).toNat ≠ v.toNat := fun e => hv (UInt8.toNat_inj.1 e.symm)
  have b1 := UInt8.toNat_lt (l.getD i 0)
  have b2 := UInt8.toNat_lt v
  generalize (l.getD i 0).toNat = p at h1 ho b1
  generalize v.toNat = q at h1 ho b2
  have hw : wt i = 256 ∨ wt i = 1 := by unfold wt; split <;> simp
  unfold c16 at hc
  rcases hw with hw | hw
  · rw [hw] at h1
    split at hc <;> split at hc <;> omega
  · rw [hw] at h1
    split at hc <;> split at hc <;> omega
theorem beTail2_inj {m n : Nat} (hm : m < 65536) (hn : n < 65536) (h : beTail m 2 = beTail n 2) : m = n := by
  rw [bt2, bt2] at h
  simp only [List.cons.injEq, and_true] at h
  rw [← bt_back m hm, ← bt_back n hn, h.1, h.2]
theorem sumB_changed (f t A B A' B' : List UInt8) (i : Nat) (v : UInt8) (hc : coverL f t A' B' = (coverL f t A B).set i v) (hi : i < (coverL f t A B).length) (hv : v ≠ (coverL f t A B).getD i 0) : sumB f t A' B' ≠ sumB f t A B := by
  intro h
  unfold sumB at h
  rw [hc] at h
  have b1 := sum16_le ((coverL f t A B).set i v)
  have b2 := sum16_le (coverL f t A B)
  exact sum16_changed _ i v hi hv (beTail2_inj (by omega) (by omega) h)
/-- what stands in a row of parts -/
theorem part_of {l A B C : List UInt8} (h : l = A ++ (B ++ C)) (s : ByteArray) (hs : s.data.toList = l) (n k : Nat) (hn : A.length = n) (hk : B.length = k) : cut9 s n k = B := by
  unfold cut9
  rw [hs, h]
  exact part_cut A B C n k hn hk
section
variable {s : ByteArray} {n : Nat} {f t rest : List UInt8}
/-- a body with this head -/
def lay10 (n : Nat) (f t rest : List UInt8) : List UInt8 := ((([96, 0, 0, 0] : List UInt8) ++ sizesL n) ++ (f ++ t)) ++ rest
theorem lay10_length (hf : f.length = 16) (ht : t.length = 16) : (lay10 n f t rest).length = 40 + rest.length := by
  unfold lay10
  simp only [List.length_append, sizesL_length, hf, ht, List.length_cons, List.length_nil]
theorem lay_drop (hf : f.length = 16) (ht : t.length = 16) : (lay10 n f t rest).drop 40 = rest := by
  unfold lay10
  have : ((([96, 0, 0, 0] : List UInt8) ++ sizesL n) ++ (f ++ t)).length = 40 := by simp only [List.length_append, sizesL_length, hf, ht, List.length_cons, List.length_nil]
  rw [← this, List.drop_left]
theorem lay_f (hs : s.data.toList = lay10 n f t rest) (hf : f.length = 16) : cut9 s 8 16 = f :=
  part_of (A := ([96, 0, 0, 0] : List UInt8) ++ sizesL n) (B := f) (C := t ++ rest) (by unfold lay10; simp only [List.append_assoc]) s hs 8 16 (by rw [List.length_append, sizesL_length]; rfl) hf
theorem lay_t (hs : s.data.toList = lay10 n f t rest) (hf : f.length = 16) (ht : t.length = 16) : cut9 s 24 16 = t :=
  part_of (A := (([96, 0, 0, 0] : List UInt8) ++ sizesL n) ++ f) (B := t) (C := rest) (by unfold lay10; simp only [List.append_assoc]) s hs 24 16 (by rw [List.length_append, List.length_append, sizesL_length, hf]; rfl) ht
theorem lay_n (hs : s.data.toList = lay10 n f t rest) (hn : n < 65536) : wd s 4 = n := by
  rw [wd_list, hs]
  have e : lay10 n f t rest = [96, 0, 0, 0] ++ ([UInt8.ofNat (n / 256), UInt8.ofNat n] ++ ([58, 255] ++ ((f ++ t) ++ rest))) := by
    unfold lay10 sizesL
    rw [bt2]
    simp only [List.append_assoc]
  rw [e]
  exact bt_back n hn
theorem lay_head (hs : s.data.toList = lay10 n f t rest) (hn : n < 65536) (hf : f.length = 16) (ht : t.length = 16) : headOk (s.extract 0 40) = true := by
  have hx : (s.extract 0 40).data.toList = lay10 n f t [] := by
    rw [extract_list, hs, List.drop_zero]
    have := lay10_length (n := n) (rest := []) hf ht
    unfold lay10 at this ⊢
    rw [List.append_nil] at this ⊢
    rw [List.take_append_of_le_length (by rw [this]; exact Nat.le_refl _), List.take_of_length_le (by rw [this]; exact Nat.le_refl _)]
  unfold headOk
  rw [lay_n hx hn]
  have h0 : bAt (s.extract 0 40) 0 = 96 := by
    unfold bAt
    rw [hx]
    rfl
  have h4 : cut9 (s.extract 0 40) 4 4 = sizesL n := part_of (A := [96, 0, 0, 0]) (B := sizesL n) (C := (f ++ t) ++ []) (by unfold lay10; simp only [List.append_assoc]) _ hx 4 4 rfl (sizesL_length n)
  rw [h0, h4]
  simp
theorem lay_msg (hs : s.data.toList = lay10 n f t rest) (hf : f.length = 16) (ht : t.length = 16) : s.extract 40 (40 + n) = ⟨(rest.take n).toArray⟩ := by
  apply ext_list
  rw [extract_list, hs, lay_drop hf ht, Nat.add_sub_cancel_left]
/-- what such a body is parsed as -/
theorem lay_parse (hs : s.data.toList = lay10 n f t rest) (hn : n = 24 ∨ n = 32) (hf : f.length = 16) (ht : t.length = 16) :
    parse10 s = if rest.length < n then (2, nz) else if msgOk ⟨(rest.take n).toArray⟩ then
      if cut9 ⟨(rest.take n).toArray⟩ 2 2 == sumB f t (cut9 ⟨(rest.take n).toArray⟩ 0 2) ((rest.take n).drop 4) then (0, { msgOf ⟨(rest.take n).toArray⟩ with f := f, t := t }) else (4, nz) else (3, nz) := by
  have hlen : s.size = 40 + rest.length := by rw [← len_list, hs, lay10_length hf ht]
  have h1 := lay_head hs (by omega) hf ht
  have h2 := lay_n hs (by omega)
  have h3 : sizeOk n = true := by rcases hn with rfl | rfl <;> rfl
  have h4 := lay_msg hs hf ht
  have h5 := lay_f hs hf
  have h6 := lay_t hs hf ht
  unfold parse10 sumOk saysOf
  rw [h1, h2, h3, h4, h5, h6, hlen]
  by_cases c : rest.length < n
  · rw [if_pos c]
    by_cases c2 : 40 + rest.length < 64
    · rw [if_pos c2]
    · rw [if_neg c2]
      simp only [Bool.and_self, if_true]
      rw [if_pos (by omega)]
  · rw [if_neg c, if_neg (by omega)]
    simp only [Bool.and_self, if_true]
    rw [if_neg (by omega)]
end
section
variable {x : N10}
theorem bytes_lay (x : N10) : x.bytes = lay10 x.msg.length x.f x.t x.msg := rfl
theorem N10.right_spec (h : x.right = true) : (∃ k : Nat, x.op = k ∧ (k = 1 ∨ k = 2)) ∧ (x.h = true ∨ (x.h = false ∧ x.m = o6)) := by
  unfold N10.right at h
  simp only [Bool.and_eq_true, Bool.or_eq_true, beq_iff_eq] at h
  refine ⟨?_, ?_⟩
  · rcases rightO_spec h.1 with e | e
    · exact ⟨1, e, Or.inl rfl⟩
    · exact ⟨2, e, Or.inr rfl⟩
  · cases hh : x.h with
    | true => exact Or.inl rfl
    | false =>
      rcases h.2 with e | e
      · rw [hh] at e; cases e
      · exact Or.inr ⟨rfl, e⟩
theorem msg_len (hx : x.Fit) : x.msg.length = 24 ∨ x.msg.length = 32 := by
  rw [N10.msg_length hx]
  cases x.h <;> simp
/-- a message's parts -/
theorem msg_read (hx : x.Fit) (hr : x.right = true) : msgOk ⟨x.msg.toArray⟩ = true ∧ { msgOf ⟨x.msg.toArray⟩ with f := x.f, t := x.t } = x ∧ cut9 ⟨x.msg.toArray⟩ 2 2 = sumB x.f x.t (startL x.op.toNat) x.beh ∧ cut9 ⟨x.msg.toArray⟩ 0 2 = startL x.op.toNat ∧ x.msg.drop 4 = x.beh := by
  obtain ⟨⟨k, hk, hk2⟩, hm⟩ := N10.right_spec hr
  have hkn : x.op.toNat = k := by rw [hk]; rfl
  have hl := N10.msg_length hx
  have hsz : (⟨x.msg.toArray⟩ : ByteArray).size = x.msg.length := rfl
  have hu := sumB_length x.f x.t (startL k) x.beh
  have e0 : x.msg = startL k ++ (sumB x.f x.t (startL k) x.beh ++ ((x.g ++ x.a) ++ x.stat)) := by
    unfold N10.msg N10.beh
    rw [hkn, List.append_assoc]
  have hb : bAt ⟨x.msg.toArray⟩ 0 = UInt8.ofNat (k + 134) := by
    unfold bAt
    rw [str_list, e0]
    rfl
  have hbn : (bAt ⟨x.msg.toArray⟩ 0).toNat = k + 134 := by
    rw [hb, UInt8.toNat_ofNat']
    rcases hk2 with rfl | rfl <;> rfl
  have c02 : cut9 ⟨x.msg.toArray⟩ 0 2 = startL k := part_of (A := []) (B := startL k) (C := sumB x.f x.t (startL k) x.beh ++ ((x.g ++ x.a) ++ x.stat)) e0 _ (str_list _) 0 2 rfl rfl
  have c22 : cut9 ⟨x.msg.toArray⟩ 2 2 = sumB x.f x.t (startL k) x.beh := part_of (A := startL k) (B := sumB x.f x.t (startL k) x.beh) (C := (x.g ++ x.a) ++ x.stat) e0 _ (str_list _) 2 2 rfl hu
  have c44 : cut9 ⟨x.msg.toArray⟩ 4 4 = x.g := part_of (A := startL k ++ sumB x.f x.t (startL k) x.beh) (B := x.g) (C := x.a ++ x.stat) (by rw [e0]; simp only [List.append_assoc]) _ (str_list _) 4 4 (by rw [List.length_append, hu]; rfl) hx.g
  have c8 : cut9 ⟨x.msg.toArray⟩ 8 16 = x.a := part_of (A := startL k ++ sumB x.f x.t (startL k) x.beh ++ x.g) (B := x.a) (C := x.stat) (by rw [e0]; simp only [List.append_assoc]) _ (str_list _) 8 16 (by rw [List.length_append, List.length_append, hu, hx.g]; rfl) hx.a
  have hop : ((bAt ⟨x.msg.toArray⟩ 0).toNat : Int) - 134 = x.op := by rw [hbn, hk]; omega
  have hro : rightO x.op = true := by rw [hk]; rcases hk2 with rfl | rfl <;> rfl
  have hd : x.msg.drop 4 = x.beh := by
    unfold N10.msg
    have : (startL x.op.toNat ++ sumB x.f x.t (startL x.op.toNat) x.beh).length = 4 := by rw [List.length_append, sumB_length]; rfl
    rw [← this, List.drop_left]
  rw [hkn]
  refine ⟨?_, ?_, c22, c02, hd⟩
  · unfold msgOk
    rw [hop, hro, c02, hbn, show k + 134 - 134 = k from by omega, hsz, hl]
    rcases hm with hh | ⟨hh, _⟩
    · have c24 : cut9 ⟨x.msg.toArray⟩ 24 2 = markL k := part_of (A := startL k ++ sumB x.f x.t (startL k) x.beh ++ x.g ++ x.a) (B := markL k) (C := x.m) (by rw [e0]; unfold N10.stat; rw [if_pos hh, hkn]; simp only [List.append_assoc]) _ (str_list _) 24 2 (by rw [List.length_append, List.length_append, List.length_append, hu, hx.g, hx.a]; rfl) rfl
      rw [c24]
      simp
    · rw [hh]
      simp
  · unfold msgOf
    rw [hop, c44, c8, hsz, hl]
    rcases hm with hh | ⟨hh, hz⟩
    · have c26 : cut9 ⟨x.msg.toArray⟩ 26 6 = x.m := part_of (A := startL k ++ sumB x.f x.t (startL k) x.beh ++ x.g ++ x.a ++ markL k) (B := x.m) (C := []) (by rw [e0]; unfold N10.stat; rw [if_pos hh, hkn]; simp only [List.append_assoc, List.append_nil]) _ (str_list _) 26 6 (by rw [List.length_append, List.length_append, List.length_append, List.length_append, hu, hx.g, hx.a]; rfl) hx.m
      rw [c26]
      cases x
      simp only at hh ⊢
      subst hh
      rfl
    · cases x
      simp only at hh hz ⊢
      subst hh hz
      rfl
/-- what is printed is parsed as it was, whatever stands behind it -/
theorem parse_print10 (hx : x.Fit) (hr : x.right = true) (more : List UInt8) : parse10 ⟨(x.bytes ++ more).toArray⟩ = (0, x) := by
  obtain ⟨h1, h2, h3, h4, h5⟩ := msg_read hx hr
  have hs : (⟨(x.bytes ++ more).toArray⟩ : ByteArray).data.toList = lay10 x.msg.length x.f x.t (x.msg ++ more) := by
    rw [str_list, bytes_lay]
    unfold lay10
    rw [List.append_assoc]
  rw [lay_parse hs (msg_len hx) hx.f hx.t, if_neg (by rw [List.length_append]; omega), List.take_left, h1, h3, h4, h5, h2]
  simp
/-- what is cut off ahead of its end is none -/
theorem parse_cut10 (hx : x.Fit) (n : Nat) (hn : n < x.bytes.length) : parse10 ((⟨x.bytes.toArray⟩ : ByteArray).extract 0 n) = (2, nz) := by
  have hl : x.bytes.length = 40 + x.msg.length := by rw [bytes_lay, lay10_length hx.f hx.t]
  have hml := msg_len hx
  by_cases h : n < 64
  · unfold parse10
    rw [if_pos (by rw [ByteArray.size_extract]; omega)]
  · have hs : ((⟨x.bytes.toArray⟩ : ByteArray).extract 0 n).data.toList = lay10 x.msg.length x.f x.t (x.msg.take (n - 40)) := by
      rw [extract_list, str_list, List.drop_zero, bytes_lay]
      have hh : ((([96, 0, 0, 0] : List UInt8) ++ sizesL x.msg.length) ++ (x.f ++ x.t)).length = 40 := by simp only [List.length_append, sizesL_length, hx.f, hx.t, List.length_cons, List.length_nil]
      unfold lay10
      rw [List.take_append, hh, List.take_of_length_le (by omega), Nat.sub_zero]
    rw [lay_parse hs hml hx.f hx.t, if_pos (by rw [List.length_take]; omega)]
/-- what is summed, with a byte of the message changed -/
theorem cover_set (f t A U B : List UInt8) (hf : f.length = 16) (ht : t.length = 16) (hA : A.length = 2) (hU : U.length = 2) (j : Nat) (v : UInt8) (hj : j < 2 ∨ 4 ≤ j) :
    coverL f t (((A ++ U) ++ B).set j v |>.take 2) (((A ++ U) ++ B).set j v |>.drop 4) = (coverL f t A B).set (40 + j) v := by
  have l0 := beTail_length 0 2
  have l4 : ∀ n, (beTail n 4).length = 4 := fun n => beTail_length n 4
  unfold coverL
  rcases hj with hj | hj
  · rw [List.set_append_left _ _ (by rw [List.length_append]; omega), List.set_append_left _ _ (by omega)]
    have e1 : ((A.set j v ++ U) ++ B).take 2 = A.set j v := by
      rw [List.append_assoc, List.take_append_of_le_length (by rw [List.length_set]; omega), List.take_of_length_le (by rw [List.length_set]; omega)]
    have e2 : ((A.set j v ++ U) ++ B).drop 4 = B := by
      have : (A.set j v ++ U).length = 4 := by rw [List.length_append, List.length_set]; omega
      rw [← this, List.drop_left]
    rw [e1, e2, List.set_append_right (s := f ++ t ++ beTail ((A ++ beTail 0 2) ++ B).length 4 ++ beTail 58 4) _ _ (by simp only [List.length_append, l4, hf, ht]; omega)]
    simp only [List.length_append, l4, hf, ht, List.length_set]
    rw [show 40 + j - (16 + 16 + 4 + 4) = j from by omega, List.set_append_left _ _ (by rw [List.length_append]; omega), List.set_append_left _ _ (by omega)]
  · rw [List.set_append_right _ _ (by rw [List.length_append]; omega), show (A ++ U).length = 4 from by rw [List.length_append]; omega]
    have e1 : ((A ++ U) ++ B.set (j - 4) v).take 2 = A := by
      rw [List.append_assoc, List.take_append_of_le_length (by omega), List.take_of_length_le (by omega)]
    have e2 : ((A ++ U) ++ B.set (j - 4) v).drop 4 = B.set (j - 4) v := by
      have : (A ++ U).length = 4 := by rw [List.length_append]; omega
      rw [← this, List.drop_left]
    rw [e1, e2, List.set_append_right (s := f ++ t ++ beTail ((A ++ beTail 0 2) ++ B).length 4 ++ beTail 58 4) _ _ (by simp only [List.length_append, l4, hf, ht]; omega)]
    simp only [List.length_append, l4, hf, ht, List.length_set]
    rw [show 40 + j - (16 + 16 + 4 + 4) = j from by omega, List.set_append_right (s := A ++ beTail 0 2) _ _ (by rw [List.length_append]; omega), show (A ++ beTail 0 2).length = 4 from by rw [List.length_append]; omega]
theorem cover_get (f t A U B : List UInt8) (hf : f.length = 16) (ht : t.length = 16) (hA : A.length = 2) (hU : U.length = 2) (j : Nat) (hj : j < 2 ∨ 4 ≤ j) :
    (coverL f t A B).getD (40 + j) 0 = ((A ++ U) ++ B).getD j 0 := by
  have l0 := beTail_length 0 2
  have l4 : ∀ n, (beTail n 4).length = 4 := fun n => beTail_length n 4
  unfold coverL
  rw [getAt (f ++ t ++ beTail ((A ++ beTail 0 2) ++ B).length 4 ++ beTail 58 4) _ 40 j (by simp only [List.length_append, l4, hf, ht])]
  rw [List.getD_eq_getElem?_getD, List.getD_eq_getElem?_getD]
  rcases hj with hj | hj
  · rw [List.append_assoc, List.append_assoc, List.getElem?_append_left (by omega), List.getElem?_append_left (by omega)]
  · rw [List.getElem?_append_right (by rw [List.length_append]; omega), List.getElem?_append_right (by rw [List.length_append]; omega)]
    simp only [List.length_append, hA, hU, l0]
theorem cover_len (f t A U B : List UInt8) (hf : f.length = 16) (ht : t.length = 16) (hU : U.length = 2) : (coverL f t A B).length = 40 + ((A ++ U) ++ B).length := by
  have l0 := beTail_length 0 2
  have l4 : ∀ n, (beTail n 4).length = 4 := fun n => beTail_length n 4
  unfold coverL
  simp only [List.length_append, l4, hf, ht, l0, hU]
/-- with a byte of the message changed it isn't parsed -/
theorem parse_spoilt10 (hx : x.Fit) (j : Nat) (hj : j < x.msg.length) (v : UInt8) (hv : v ≠ x.msg.getD j 0) :
    (parse10 ⟨(x.bytes.set (40 + j) v).toArray⟩).1 ≠ 0 ∧ (parse10 ⟨(x.bytes.set (40 + j) v).toArray⟩).2 = nz := by
  have hml := msg_len hx
  have hs : (⟨(x.bytes.set (40 + j) v).toArray⟩ : ByteArray).data.toList = lay10 x.msg.length x.f x.t (x.msg.set j v) := by
    rw [str_list, bytes_lay]
    have hh : ((([96, 0, 0, 0] : List UInt8) ++ sizesL x.msg.length) ++ (x.f ++ x.t)).length = 40 := by simp only [List.length_append, sizesL_length, hx.f, hx.t, List.length_cons, List.length_nil]
    unfold lay10
    rw [List.set_append_right _ _ (by omega), hh, Nat.add_sub_cancel_left]
  rw [lay_parse hs hml hx.f hx.t, if_neg (by rw [List.length_set]; omega), List.take_of_length_le (by rw [List.length_set]; exact Nat.le_refl _)]
  have hA : (startL x.op.toNat).length = 2 := rfl
  have hU := sumB_length x.f x.t (startL x.op.toNat) x.beh
  have hmsg : x.msg = (startL x.op.toNat ++ sumB x.f x.t (startL x.op.toNat) x.beh) ++ x.beh := rfl
  have hno : (cut9 ⟨(x.msg.set j v).toArray⟩ 2 2 == sumB x.f x.t (cut9 ⟨(x.msg.set j v).toArray⟩ 0 2) ((x.msg.set j v).drop 4)) = false := by
    rw [beq_eq_false_iff_ne]
    unfold cut9
    simp only [List.drop_zero]
    by_cases hj2 : j < 2 ∨ 4 ≤ j
    · have e1 : ((x.msg.set j v).drop 2).take 2 = sumB x.f x.t (startL x.op.toNat) x.beh := by
        have := part_cut (startL x.op.toNat) (sumB x.f x.t (startL x.op.toNat) x.beh) x.beh 2 2 hA hU
        rcases hj2 with h | h
        · rw [hmsg, List.set_append_left _ _ (by rw [List.length_append]; omega), List.set_append_left _ _ (by omega), List.append_assoc]
          exact part_cut ((startL x.op.toNat).set j v) _ _ 2 2 (by rw [List.length_set]; exact hA) hU
        · rw [hmsg, List.set_append_right _ _ (by rw [List.length_append]; omega), List.append_assoc]
          exact part_cut (startL x.op.toNat) _ _ 2 2 hA hU
      rw [e1]
      have hset := cover_set x.f x.t (startL x.op.toNat) (sumB x.f x.t (startL x.op.toNat) x.beh) x.beh hx.f hx.t hA hU j v hj2
      have hget := cover_get x.f x.t (startL x.op.toNat) (sumB x.f x.t (startL x.op.toNat) x.beh) x.beh hx.f hx.t hA hU j hj2
      have hlen := cover_len x.f x.t (startL x.op.toNat) (sumB x.f x.t (startL x.op.toNat) x.beh) x.beh hx.f hx.t hU
      rw [← hmsg] at hset hget hlen
      exact fun e => sumB_changed x.f x.t _ _ _ _ (40 + j) v hset (by rw [hlen]; omega) (by rw [hget]; exact hv) e.symm
    · have hj3 : 2 ≤ j ∧ j < 4 := by omega
      have e1 : (x.msg.set j v).take 2 = startL x.op.toNat := by
        rw [hmsg, List.append_assoc, List.set_append_right _ _ (by omega), List.take_append_of_le_length (by omega), List.take_of_length_le (by omega)]
      have e2 : (x.msg.set j v).drop 4 = x.beh := by
        rw [hmsg, List.set_append_left _ _ (by rw [List.length_append]; omega)]
        have : ((startL x.op.toNat ++ sumB x.f x.t (startL x.op.toNat) x.beh).set j v).length = 4 := by rw [List.length_set, List.length_append]; omega
        rw [← this, List.drop_left]
      have e3 : ((x.msg.set j v).drop 2).take 2 = (sumB x.f x.t (startL x.op.toNat) x.beh).set (j - 2) v := by
        rw [hmsg, List.append_assoc, List.set_append_right _ _ (by omega), hA, List.set_append_left _ _ (by omega)]
        exact part_cut (startL x.op.toNat) _ _ 2 2 hA (by rw [List.length_set]; exact hU)
      have hg : x.msg.getD j 0 = (sumB x.f x.t (startL x.op.toNat) x.beh).getD (j - 2) 0 := by
        rw [hmsg, List.append_assoc, show j = 2 + (j - 2) from by omega, getAt _ _ 2 (j - 2) hA, show 2 + (j - 2) - 2 = j - 2 from by omega, List.getD_eq_getElem?_getD, List.getD_eq_getElem?_getD, List.getElem?_append_left (by omega)]
      rw [e1, e2, e3]
      rw [hg] at hv
      intro e
      apply hv
      have := congrArg (fun l : List UInt8 => l.getD (j - 2) 0) e
      rw [getD_set _ _ _ _ (by omega), if_pos rfl] at this
      exact this
  rw [hno]
  cases msgOk ⟨(x.msg.set j v).toArray⟩ <;> simp
end
end Go.Proofs.Ytkjkmnaiddjjnaa
