/- A joiner in memory; drop: walked. -/
import Derived.Test.YthpbhimmfmablaaTUN
import Derived.Test.YthpbhimmfmablaaWA
namespace Go.Proofs.Ythpbhimmfmablaa
open Go.RowKit
/-- a text of which pieces came: its number, how many pieces it has, its map's block, the bodies that came -/
structure TX where
  n : Nat
  c : Nat
  pb : Nat
  ps : List (Option ByteArray)
/-- a piece's cells -/
abbrev pv (n c p : Nat) (b : ByteArray) : Array Value := #[V64 n, .int .i64 (p : Int), .int .i64 (c : Int), .string b]
/-- a text's cells -/
abbrev tv (c pb : Nat) : Array Value := #[.int .i64 (c : Int), .map (some pb)]
def TX.f (t : TX) (p : Nat) : Option Value := (t.ps.getD p none).map fun b => .agg (pv t.n t.c p b)
def TX.cnt (t : TX) : Nat := (t.ps.filter Option.isSome).length
def txF (l : List TX) (a : Nat) : Option Value := (l.find? fun t => t.n == a).map fun t => .agg (tv t.c t.pb)
/-- its blocks -/
def foot (jb : Nat) (mb : Option Nat) (ov : Value) (l : List TX) : List Nat := jb :: (mb.toList ++ (ov.ownBlock.toList ++ l.map TX.pb))
/-- they are unlike -/
def Apart (jb : Nat) (mb : Option Nat) (ov : Value) (l : List TX) : Prop :=
  (∀ m, mb = some m → m ≠ jb) ∧ (∀ g, ov.ownBlock = some g → g ≠ jb) ∧ (∀ t, t ∈ l → t.pb ≠ jb) ∧ (∀ m g, mb = some m → ov.ownBlock = some g → m ≠ g) ∧ (∀ m t, mb = some m → t ∈ l → m ≠ t.pb) ∧ (∀ g t, ov.ownBlock = some g → t ∈ l → g ≠ t.pb) ∧ (l.map TX.pb).Nodup
structure TX.Good (t : TX) : Prop where
  n : t.n < 4294967296
  ps : t.ps.length = t.c
  c1 : 1 ≤ t.c
  c3 : t.c ≤ 3
structure JInv (B : Nat) (W : World) (jb : Nat) (mb : Option Nat) (ov : Value) (l : List TX) : Prop where
  cell : Has W jb 41 #[.map mb, ov]
  own : OwR 22 B W ov (l.map fun t => V64 t.n)
  nomap : mb = none → l = []
  map : ∀ m, mb = some m → MapH .u64 22 W m (txF l) l.length
  tx : ∀ t, t ∈ l → MapH .i64 3 W t.pb t.f t.cnt
  good : ∀ t, t ∈ l → t.Good
  ns : (l.map TX.n).Nodup
  len : l.length ≤ 8
  apart : Apart jb mb ov l
  base : ∀ g, g ∈ foot jb mb ov l → B ≤ g
section
variable {B jb : Nat} {W W' : World} {mb : Option Nat} {ov : Value} {l : List TX}
theorem mem_foot {g : Nat} : g ∈ foot jb mb ov l ↔ g = jb ∨ mb = some g ∨ ov.ownBlock = some g ∨ ∃ t, t ∈ l ∧ t.pb = g := by
  unfold foot
  simp [Option.mem_toList]
theorem JInv.lt (J : JInv B W jb mb ov l) : ∀ g, g ∈ foot jb mb ov l → g < W.heap.size := by
  intro g hg
  rcases mem_foot.1 hg with rfl | h | h | ⟨t, ht, rfl⟩
  · exact J.cell.lt
  · exact (J.map g h).lt
  · exact (J.own.lt g h).2
  · exact (J.tx t ht).lt
/-- kept while its blocks are -/
theorem JInv.kp {F : List Nat} (J : JInv B W jb mb ov l) (k : Kp F W W') (hF : ∀ g, g ∈ foot jb mb ov l → g ∉ F) : JInv B W' jb mb ov l where
  cell := J.cell.kp k (hF jb (mem_foot.2 (Or.inl rfl)))
  own := J.own.kp k (fun g hg => hF g (mem_foot.2 (Or.inr (Or.inr (Or.inl hg)))))
  nomap := J.nomap
  map := fun m hm => (J.map m hm).kp k (hF m (mem_foot.2 (Or.inr (Or.inl hm))))
  tx := fun t ht => (J.tx t ht).kp k (hF t.pb (mem_foot.2 (Or.inr (Or.inr (Or.inr ⟨t, ht, rfl⟩)))))
  good := J.good
  ns := J.ns
  len := J.len
  apart := J.apart
  base := J.base
theorem JInv.step (J : JInv B W jb mb ov l) (hb : Below W.heap.size W W') : JInv B W' jb mb ov l := J.kp (Kp.of_below [] hb) (fun _ _ h => by cases h)
theorem Apart.sub {l' : List TX} {ov' : Value} (h : Apart jb mb ov l) (hov : ov'.ownBlock = ov.ownBlock) (hl : l'.Sublist l) : Apart jb mb ov' l' := by
  obtain ⟨h1, h2, h3, h4, h5, h6, h7⟩ := h
  refine ⟨h1, ?_, fun t ht => h3 t (hl.subset ht), ?_, fun m t hm ht => h5 m t hm (hl.subset ht), ?_, h7.sublist (hl.map _)⟩
  · rw [hov]; exact h2
  · rw [hov]; exact h4
  · rw [hov]; exact fun g t hg ht => h6 g t hg (hl.subset ht)
end
/-- numbers of unlike texts are unlike -/
theorem txF_at {l : List TX} (hn : (l.map TX.n).Nodup) {t : TX} (ht : t ∈ l) : txF l t.n = some (.agg (tv t.c t.pb)) := by
  unfold txF
  induction l with
  | nil => cases ht
  | cons u l ih =>
    rw [List.map_cons, List.nodup_cons] at hn
    rw [List.find?_cons]
    rcases List.mem_cons.1 ht with rfl | ht
    · simp
    · have hne : ¬ u.n = t.n := fun e => hn.1 (by rw [e]; exact List.mem_map.2 ⟨t, ht, rfl⟩)
      have : (u.n == t.n) = false := by simpa using hne
      simp only [this]
      exact ih hn.2 ht
theorem txF_none {l : List TX} {a : Nat} (h : ∀ t, t ∈ l → t.n ≠ a) : txF l a = none := by
  unfold txF
  rw [List.find?_eq_none.2 (fun t ht => by simpa using h t ht)]
  rfl
theorem txF_erase {l : List TX} (hn : (l.map TX.n).Nodup) (i : Nat) (hi : i < l.length) (a : Nat) : txF (l.eraseIdx i) a = if a = (l[i]).n then none else txF l a := by
  induction l generalizing i with
  | nil => simp at hi
  | cons u l ih =>
    rw [List.map_cons, List.nodup_cons] at hn
    cases i with
    | zero =>
      rw [List.eraseIdx_cons_zero]
      simp only [List.getElem_cons_zero]
      by_cases ha : a = u.n
      · rw [if_pos ha]
        refine txF_none (fun t ht e => hn.1 ?_)
        rw [← ha, ← e]
        exact List.mem_map.2 ⟨t, ht, rfl⟩
      · rw [if_neg ha]
        unfold txF
        rw [List.find?_cons]
        have : (u.n == a) = false := by simpa using fun e : u.n = a => ha e.symm
        simp only [this]
    | succ i =>
      rw [List.eraseIdx_cons_succ]
      simp only [List.getElem_cons_succ]
      have hi' : i < l.length := by simpa using hi
      have h := ih hn.2 i hi'
      unfold txF at h ⊢
      rw [List.find?_cons, List.find?_cons]
      by_cases hu : u.n = a
      · have hne : a ≠ (l[i]).n := fun e => hn.1 (by rw [hu, e]; exact List.mem_map.2 ⟨l[i], List.getElem_mem hi', rfl⟩)
        have : (u.n == a) = true := by simpa using hu
        simp only [this, if_neg hne]
      · have : (u.n == a) = false := by simpa using hu
        simp only [this]
        exact h
theorem wpExecW {P : Program} {ops : Array Oper} {rest : List Oper} {o : Oper} {a : Act} {w : World} {Q : Exit → Act → World → Prop} (hg : o.guard = none) (v : Value) (w' : World) (hex : (execOp a.eval o).run P w = .ok (.value v) w')
    (h : wpList P ops Q rest (a.put o.dst v) w') : wpList P ops Q (o :: rest) a w :=
  wpList_plain hg fun K hK => by
    unfold Oper.wp
    rw [hex]
    exact hK _ _ h
theorem wpExecS {P : Program} {ops : Array Oper} {rest : List Oper} {o : Oper} {a : Act} {w : World} {Q : Exit → Act → World → Prop} (hg : o.guard = none) (w' : World) (hex : (execOp a.eval o).run P w = .ok .skip w')
    (h : wpList P ops Q rest (a.put o.dst undef) w') : wpList P ops Q (o :: rest) a w :=
  wpList_plain hg fun K hK => by
    unfold Oper.wp
    rw [hex]
    exact hK _ _ h
theorem wf_n {n : Nat} (h : n < 4294967296) : (Lit.int .u64 (n : Int)).wf = true := by
  simp [Lit.wf, IntKind.min, IntKind.max, IntKind.signed, IntKind.bits]; omega
theorem wf_p {p : Nat} (h : p < 4294967296) : (Lit.int .i64 (p : Int)).wf = true := by
  simp [Lit.wf, IntKind.min, IntKind.max, IntKind.signed, IntKind.bits]; omega
end Go.Proofs.Ythpbhimmfmablaa
