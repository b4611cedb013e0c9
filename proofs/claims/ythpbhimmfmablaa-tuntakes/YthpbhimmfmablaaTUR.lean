/- tun's begin: walked. -/
import Derived.Test.YthpbhimmfmablaaTUQ
namespace Go.Proofs.Ythpbhimmfmablaa
open Go.RowKit
/-- a text without pieces -/
abbrev newT (n c pb : Nat) : TX := ⟨n, c, pb, List.replicate c none⟩
theorem newT_cnt (n c pb : Nat) : (newT n c pb).cnt = 0 := by
  unfold TX.cnt
  simp
theorem newT_f (n c pb p : Nat) : (newT n c pb).f p = none := by
  unfold TX.f
  have : (List.replicate c (none : Option ByteArray)).getD p none = none := by
    rw [List.getD_eq_getElem?_getD, List.getElem?_replicate]
    split <;> rfl
  rw [this]
  rfl
theorem txF_snoc {l : List TX} (t : TX) (h : ∀ u, u ∈ l → u.n ≠ t.n) (a : Nat) : txF (l ++ [t]) a = if a = t.n then some (.agg (tv t.c t.pb)) else txF l a := by
  unfold txF
  rw [List.find?_append]
  by_cases ha : a = t.n
  · rw [if_pos ha, List.find?_eq_none.2 (fun u hu => by simpa [ha] using h u hu)]
    simp [ha]
  · rw [if_neg ha]
    have : (t.n == a) = false := by simpa using fun e : t.n = a => ha e.symm
    simp [this]
/-- behind begin -/
theorem JInv.added {B jb m n c pb : Nat} {W0 W1 W2 W3 W4 : World} {ov ov' : Value} {l : List TX} (J : JInv B W0 jb (some m) ov l) (hl : l.length ≤ 7) (hB : B ≤ W0.heap.size)
    (hn : n < 4294967296) (hc1 : 1 ≤ c) (hc3 : c ≤ 3) (hnew : ∀ u, u ∈ l → u.n ≠ n)
    (b1 : Below W0.heap.size W0 W1) (hp : MapH .i64 3 W1 pb (fun _ => none) 0) (hpb : W0.heap.size ≤ pb)
    (h2 : MapH .u64 22 W2 m (fun x => if x = n then some (.agg (tv c pb)) else txF l x) (l.length + 1)) (k2 : Kp [m] W1 W2)
    (b3 : Below W2.heap.size W2 W3)
    (h4 : OwR 22 B W4 ov' ((l.map fun t => V64 t.n) ++ [V64 n])) (k4 : W3.grownBy W4 ov.ownBlock) (hat : ov'.ownBlock = ov.ownBlock ∨ ov'.ownBlock = some W3.heap.size) :
    JInv B (W4.setCell ⟨jb, 1, none⟩ ov') jb (some m) ov' (l ++ [newT n c pb]) ∧ Kp (foot jb (some m) ov l) W0 (W4.setCell ⟨jb, 1, none⟩ ov') ∧
      (∀ g, g ∈ foot jb (some m) ov' (l ++ [newT n c pb]) → g ∈ foot jb (some m) ov l ∨ W0.heap.size ≤ g) := by
  have hA := J.apart
  obtain ⟨a1, a2, a3, a4, a5, a6, a7⟩ := hA
  have hlt := J.lt
  have k1 : Kp [] W0 W1 := Kp.of_below [] b1
  have k3 : Kp [] W2 W3 := Kp.of_below [] b3
  have k4' : Kp ov.ownBlock.toList W3 W4 := ⟨k4.os, k4.tape, k4.output, k4.size, fun g hg hF => k4.block g hg (fun e => hF (by rw [← e]; simp))⟩
  have k5 := Kp.of_set W4 jb 1 ov'
  have hs3 : W0.heap.size ≤ W3.heap.size := Nat.le_trans b1.size (Nat.le_trans k2.size b3.size)
  have jlt : jb < W0.heap.size := J.cell.lt
  have hfresh : ∀ g, ov'.ownBlock = some g → (ov.ownBlock = some g ∨ g = W3.heap.size) := fun g hg => by
    rcases hat with h | h
    · left; rw [← h]; exact hg
    · right; rw [h] at hg; injection hg with hg; exact hg.symm
  have hplt : pb < W1.heap.size := hp.lt
  have hs13 : W1.heap.size ≤ W3.heap.size := Nat.le_trans k2.size b3.size
  have hin : ∀ t, t ∈ l → t.pb < W0.heap.size := fun t ht => hlt _ (mem_foot.2 (Or.inr (Or.inr (Or.inr ⟨t, ht, rfl⟩))))
  have hov : ∀ g, ov.ownBlock = some g → g < W0.heap.size := fun g hg => hlt _ (mem_foot.2 (Or.inr (Or.inr (Or.inl hg))))
  have hm : m < W0.heap.size := hlt _ (mem_foot.2 (Or.inr (Or.inl rfl)))
  have F1 : Kp (foot jb (some m) ov l) W0 W1 := k1.mono (by simp)
  have F2 : Kp (foot jb (some m) ov l) W0 W2 := F1.trans k2 (fun g hg _ => by simp at hg; subst hg; exact mem_foot.2 (Or.inr (Or.inl rfl)))
  have F3 : Kp (foot jb (some m) ov l) W0 W3 := F2.trans k3 (by simp)
  have F4 : Kp (foot jb (some m) ov l) W0 W4 := F3.trans k4' (fun g hg _ => mem_foot.2 (Or.inr (Or.inr (Or.inl (by simpa using hg)))))
  have kk : Kp (foot jb (some m) ov l) W0 (W4.setCell ⟨jb, 1, none⟩ ov') := F4.trans k5 (fun g hg _ => by simp at hg; subst hg; exact mem_foot.2 (Or.inl rfl))
  have hlast : ∀ t, t ∈ l ++ [newT n c pb] → t ∈ l ∨ t = newT n c pb := fun t ht => by simpa using ht
  have hft : ∀ g, g ∈ foot jb (some m) ov' (l ++ [newT n c pb]) → g ∈ foot jb (some m) ov l ∨ W0.heap.size ≤ g := fun g hg => by
    rcases mem_foot.1 hg with rfl | h | h | ⟨t, ht, rfl⟩
    · exact Or.inl (mem_foot.2 (Or.inl rfl))
    · exact Or.inl (mem_foot.2 (Or.inr (Or.inl h)))
    · rcases hfresh g h with h | rfl
      · exact Or.inl (mem_foot.2 (Or.inr (Or.inr (Or.inl h))))
      · exact Or.inr hs3
    · rcases hlast t ht with ht | rfl
      · exact Or.inl (mem_foot.2 (Or.inr (Or.inr (Or.inr ⟨t, ht, rfl⟩))))
      · exact Or.inr hpb
  refine ⟨⟨?_, ?_, (fun h => by cases h), fun m' hm' => ?_, fun t ht => ?_, fun t ht => ?_, ?_, by rw [List.length_append]; simp; omega, ⟨?_, ?_, ?_, ?_, ?_, ?_, ?_⟩, fun g hg => ?_⟩, kk, hft⟩
  · have c := (((J.cell.kp k1 (by simp)).kp k2 (by simp; exact fun e => a1 m rfl e.symm)).kp k3 (by simp)).kp k4' (by simp; exact fun e => a2 jb e rfl)
    exact c.set 1 ov'
  · have e : (l ++ [newT n c pb]).map (fun t => V64 t.n) = (l.map fun t => V64 t.n) ++ [V64 n] := by rw [List.map_append]; rfl
    rw [e]
    refine h4.kp k5 (fun g hg => ?_)
    simp
    rcases hfresh g hg with h | rfl
    · exact a2 g h
    · omega
  · injection hm' with hm'
    subst hm'
    refine (((h2.kp k3 (by simp)).kp k4' (by simp; exact fun e => a4 m m rfl e rfl)).kp k5 (by simp; exact a1 m rfl)).congr (fun a _ => ?_) (by simp)
    exact (txF_snoc (newT n c pb) hnew a).symm
  · rcases hlast t ht with ht | rfl
    · exact ((((((J.tx t ht).kp k1 (by simp)).kp k2 (by simp; exact fun e => a5 m t rfl ht e.symm)).kp k3 (by simp)).kp k4' (by simp; exact fun e => a6 _ t e ht rfl)).kp k5 (by simp; exact a3 t ht))
    · have hpm : pb ≠ m := by omega
      refine ((((hp.kp k2 (by simp; exact hpm)).kp k3 (by simp)).kp k4' (by simp; exact fun e => by have := hov _ e; omega)).kp k5 (by simp; omega)).congr (fun a _ => (newT_f n c pb a).symm) (newT_cnt n c pb).symm
  · rcases hlast t ht with ht | rfl
    · exact J.good t ht
    · exact ⟨hn, by simp, hc1, hc3⟩
  · rw [List.map_append, List.nodup_append]
    refine ⟨J.ns, by simp, fun a ha b hb => ?_⟩
    obtain ⟨u, hu, rfl⟩ := List.mem_map.1 ha
    simp at hb
    subst hb
    exact hnew u hu
  · exact a1
  · intro g hg
    rcases hfresh g hg with h | rfl
    · exact a2 g h
    · omega
  · intro t ht
    rcases hlast t ht with ht | rfl
    · exact a3 t ht
    · show pb ≠ jb; omega
  · intro m' g hm' hg
    injection hm' with hm'
    subst hm'
    rcases hfresh g hg with h | rfl
    · exact a4 m g rfl h
    · omega
  · intro m' t hm' ht
    injection hm' with hm'
    subst hm'
    rcases hlast t ht with ht | rfl
    · exact a5 m t rfl ht
    · show m ≠ pb; omega
  · intro g t hg ht
    rcases hfresh g hg with h | rfl
    · rcases hlast t ht with ht | rfl
      · exact a6 g t h ht
      · show g ≠ pb; have := hov g h; omega
    · rcases hlast t ht with ht | rfl
      · have := hin t ht; omega
      · show W3.heap.size ≠ pb; omega
  · rw [List.map_append, List.nodup_append]
    refine ⟨a7, by simp, fun a ha b hb => ?_⟩
    obtain ⟨u, hu, rfl⟩ := List.mem_map.1 ha
    simp at hb
    subst hb
    have := hin u hu
    omega
  · rcases hft g hg with h | h
    · exact J.base g h
    · omega
/-- behind the making of the first map -/
theorem JInv.mapped {B jb : Nat} {W : World} {ov : Value} {l : List TX} (J : JInv B W jb none ov l) (hB : B ≤ W.heap.size) : JInv B ((W.alloc (.map #[] 0)).setCell ⟨jb, 0, none⟩ (.map (some W.heap.size))) jb (some W.heap.size) ov l ∧ Kp [jb] W ((W.alloc (.map #[] 0)).setCell ⟨jb, 0, none⟩ (.map (some W.heap.size))) := by
  have hl := J.nomap rfl
  subst hl
  obtain ⟨a1, a2, a3, a4, a5, a6, a7⟩ := J.apart
  have hlt := J.lt
  have k1 : Kp [] W (W.alloc (.map #[] 0)) := Kp.of_below [] ((Below.refl _ _).alloc (Nat.le_refl _) _)
  have k2 := Kp.of_set (W.alloc (.map #[] 0)) jb 0 (.map (some W.heap.size))
  have jlt : jb < W.heap.size := J.cell.lt
  have hm : MapH .u64 22 (W.alloc (.map #[] 0)) W.heap.size (fun _ => none) 0 := MapH.empty _ _ W
  refine ⟨⟨?_, ?_, (fun h => by cases h), fun m' hm' => ?_, (fun t ht => by cases ht), (fun t ht => by cases ht), J.ns, J.len, ⟨?_, a2, a3, ?_, ?_, a6, a7⟩, fun g hg => ?_⟩, (k1.mono (F' := [jb]) (by simp)).trans k2 (by simp)⟩
  · exact (J.cell.kp k1 (by simp)).set 0 _
  · exact (J.own.kp k1 (by simp)).kp k2 (fun g hg => by simp; exact a2 g hg)
  · injection hm' with hm'
    subst hm'
    exact (hm.kp k2 (by simp; omega)).congr (fun a _ => rfl) rfl
  · intro m' hm'
    injection hm' with hm'
    omega
  · intro m' g hm' hg
    injection hm' with hm'
    have := hlt g (mem_foot.2 (Or.inr (Or.inr (Or.inl hg))))
    omega
  · intro m' t hm' ht
    cases ht
  · rcases mem_foot.1 hg with rfl | h | h | ⟨t, ht, rfl⟩
    · exact J.base _ (mem_foot.2 (Or.inl rfl))
    · injection h with h; omega
    · exact J.base g (mem_foot.2 (Or.inr (Or.inr (Or.inl h))))
    · cases ht
end Go.Proofs.Ythpbhimmfmablaa
