/- What join does to a joiner: plain facts. No program is run here. -/
import Derived.Test.YthpbhimmfmablaaTUS
import Derived.Test.YthpbhimmfmablaaTUT
namespace Go.Proofs.Ythpbhimmfmablaa
open Go.RowKit
theorem cnt_set : ∀ (ps : List (Option ByteArray)) (p : Nat) (b : ByteArray), p < ps.length → ps.getD p none = none → ((ps.set p (some b)).filter Option.isSome).length = (ps.filter Option.isSome).length + 1
  | [], p, b, h, _ => by simp at h
  | o :: ps, 0, b, _, h0 => by
    have : o = none := h0
    subst this
    simp
  | o :: ps, p + 1, b, h, h0 => by
    have ih := cnt_set ps p b (by simpa using h) h0
    rw [List.set_cons_succ]
    cases o with
    | none => simpa using ih
    | some x => simp [ih]
theorem cnt_le (ps : List (Option ByteArray)) : (ps.filter Option.isSome).length ≤ ps.length := List.length_filter_le _ _
theorem cnt_all : ∀ (ps : List (Option ByteArray)), (ps.filter Option.isSome).length = ps.length → ∀ q, q < ps.length → ps.getD q none = some ((ps.getD q none).getD ⟨#[]⟩)
  | [], _, q, h => by simp at h
  | o :: ps, h, q, hq => by
    cases o with
    | none =>
      have := cnt_le ps
      simp at h
      omega
    | some x =>
      cases q with
      | zero => rfl
      | succ q => exact cnt_all ps (by simpa using h) q (by simpa using hq)
/-- a text with one more piece -/
abbrev TX.put (t : TX) (p : Nat) (b : ByteArray) : TX := ⟨t.n, t.c, t.pb, t.ps.set p (some b)⟩
theorem put_f (t : TX) (p : Nat) (b : ByteArray) (hp : p < t.ps.length) (x : Nat) : (t.put p b).f x = if x = p then some (.agg (pv t.n t.c p b)) else t.f x := by
  unfold TX.f
  show ((t.ps.set p (some b)).getD x none).map _ = _
  rw [List.getD_eq_getElem?_getD, List.getElem?_set]
  by_cases h : x = p
  · subst h
    rw [if_pos rfl, if_pos hp, if_pos rfl]
    rfl
  · rw [if_neg (fun e => h e.symm), if_neg h, ← List.getD_eq_getElem?_getD]
theorem txF_set {l : List TX} (i : Nat) (hi : i < l.length) (t : TX) (h1 : t.n = (l[i]).n) (h2 : t.c = (l[i]).c) (h3 : t.pb = (l[i]).pb) (a : Nat) : txF (l.set i t) a = txF l a := by
  induction l generalizing i with
  | nil => simp at hi
  | cons u l ih =>
    cases i with
    | zero =>
      simp only [List.getElem_cons_zero] at h1 h2 h3
      unfold txF
      rw [List.set_cons_zero, List.find?_cons, List.find?_cons, h1]
      by_cases hu : u.n = a
      · have : (u.n == a) = true := by simpa using hu
        simp only [this]
        simp [h2, h3]
      · have : (u.n == a) = false := by simpa using hu
        simp only [this]
    | succ i =>
      simp only [List.getElem_cons_succ] at h1 h2 h3
      have hi' : i < l.length := by simpa using hi
      have h := ih i hi' h1 h2 h3
      unfold txF at h ⊢
      rw [List.set_cons_succ, List.find?_cons, List.find?_cons]
      by_cases hu : u.n = a
      · have : (u.n == a) = true := by simpa using hu
        simp only [this]
      · have : (u.n == a) = false := by simpa using hu
        simp only [this]
        exact h
theorem map_set_same {α β : Type} (g : α → β) (l : List α) (i : Nat) (hi : i < l.length) (x : α) (h : g x = g (l[i])) : (l.set i x).map g = l.map g := by
  rw [List.map_set, h]
  have : g (l[i]) = (l.map g)[i]'(by rw [List.length_map]; exact hi) := by rw [List.getElem_map]
  rw [this, List.set_getElem_self]
/-- a piece is put in -/
theorem JInv.putIn {B jb : Nat} {W W' : World} {mb : Option Nat} {ov : Value} {l : List TX} (J : JInv B W jb mb ov l) (i : Nat) (hi : i < l.length) (p : Nat) (b : ByteArray) (hp : p < (l[i]).c) (h0 : (l[i]).ps.getD p none = none)
    (hm : MapH .i64 3 W' (l[i]).pb (fun x => if x = p then some (.agg (pv (l[i]).n (l[i]).c p b)) else (l[i]).f x) ((l[i]).cnt + 1)) (k : Kp [(l[i]).pb] W W') :
    JInv B W' jb mb ov (l.set i ((l[i]).put p b)) ∧ foot jb mb ov (l.set i ((l[i]).put p b)) = foot jb mb ov l := by
  obtain ⟨a1, a2, a3, a4, a5, a6, a7⟩ := J.apart
  have hti : l[i] ∈ l := List.getElem_mem hi
  have hg := J.good _ hti
  have hpl : p < (l[i]).ps.length := by rw [hg.ps]; exact hp
  have hpb : (l.set i ((l[i]).put p b)).map TX.pb = l.map TX.pb := map_set_same TX.pb l i hi ((l[i]).put p b) rfl
  have hns : (l.set i ((l[i]).put p b)).map TX.n = l.map TX.n := map_set_same TX.n l i hi ((l[i]).put p b) rfl
  have hv : (l.set i ((l[i]).put p b)).map (fun t => V64 t.n) = l.map fun t => V64 t.n := map_set_same (fun t => V64 t.n) l i hi ((l[i]).put p b) rfl
  have hft : foot jb mb ov (l.set i ((l[i]).put p b)) = foot jb mb ov l := by unfold foot; rw [hpb]
  have hmem : ∀ t, t ∈ l.set i ((l[i]).put p b) → t ∈ l ∨ t = (l[i]).put p b := fun t ht => by
    rcases List.mem_or_eq_of_mem_set ht with h | h
    · exact Or.inl h
    · exact Or.inr h
  have hcnt : ((l[i]).put p b).cnt = (l[i]).cnt + 1 := cnt_set (l[i]).ps p b hpl h0
  refine ⟨⟨J.cell.kp k (by simp; exact fun e => a3 _ hti e.symm), ?_, fun h => absurd hi (by rw [J.nomap h]; simp), fun m hmb => ?_, fun t ht => ?_, fun t ht => ?_, by rw [hns]; exact J.ns, by rw [List.length_set]; exact J.len, ⟨a1, a2, fun t ht => ?_, a4, fun m t hmb ht => ?_, fun g t hg' ht => ?_, by rw [hpb]; exact a7⟩, by rw [hft]; exact J.base⟩, hft⟩
  · rw [hv]
    exact J.own.kp k (fun g hg' => by simp; exact a6 g _ hg' hti)
  · refine ((J.map m hmb).kp k (by simp; exact a5 m _ hmb hti)).congr (fun a _ => ?_) (by rw [List.length_set])
    exact (txF_set i hi ((l[i]).put p b) rfl rfl rfl a).symm
  · by_cases htb : t.pb = (l[i]).pb
    · have : t = (l[i]).put p b := by
        rcases hmem t ht with h | h
        · obtain ⟨j, hj, rfl⟩ := List.mem_iff_getElem.1 ht
          rw [List.length_set] at hj
          by_cases hji : i = j
          · subst hji
            rw [List.getElem_set_self]
          · exfalso
            rw [List.getElem_set_ne hji] at htb
            have hj' : j < (l.map TX.pb).length := by rw [List.length_map]; exact hj
            have hi' : i < (l.map TX.pb).length := by rw [List.length_map]; exact hi
            have e : (l.map TX.pb)[j] = (l.map TX.pb)[i] := by rw [List.getElem_map, List.getElem_map]; exact htb
            rcases Nat.lt_or_ge i j with h' | h'
            · exact (List.pairwise_iff_getElem.1 a7) i j hi' hj' h' e.symm
            · exact (List.pairwise_iff_getElem.1 a7) j i hj' hi' (by omega) e
        · exact h
      subst this
      exact hm.congr (fun x _ => (put_f _ p b hpl x).symm) hcnt.symm
    · rcases hmem t ht with h | h
      · exact (J.tx t h).kp k (by simp; exact htb)
      · exact absurd (by rw [h]) htb
  · rcases hmem t ht with h | h
    · exact J.good t h
    · subst h
      exact ⟨hg.n, by show ((l[i]).ps.set p (some b)).length = _; rw [List.length_set]; exact hg.ps, hg.c1, hg.c3⟩
  · rcases hmem t ht with h | h
    · exact a3 t h
    · subst h; exact a3 (l[i]) hti
  · rcases hmem t ht with h | h
    · exact a5 m t hmb h
    · subst h; exact a5 m (l[i]) hmb hti
  · rcases hmem t ht with h | h
    · exact a6 g t hg' h
    · subst h; exact a6 g (l[i]) hg' hti
/-- the texts looked up -/
theorem exec_texts {B jb : Nat} {W : World} {mb : Option Nat} {ov : Value} {l : List TX} (J : JInv B W jb mb ov l) {o : Oper} {ev : Operand → Value} (n : Nat) (hn : n < 4294967296) (m x : Operand) (ho : o.op = .lookup 38 m x true) (hm : ev m = .map mb) (hx : ev x = V64 n)
    (u : Value) (q : Bool) (hu : (txF l n).getD (.agg tz) = u) (hq : (txF l n).isSome = q) : (execOp ev o).run Try.prog W = .ok (.value (.tuple #[u, .bool q])) W := by
  cases hmb : mb with
  | none =>
    rw [hmb] at hm
    have hl := J.nomap hmb
    subst hl
    have h := exec_nilOk Try.underlying22 W map_texts (zero_text W) n (wf_n hn) m x ho hm hx
    rw [h, ← hu, ← hq]
    rfl
  | some mm =>
    rw [hmb] at hm
    exact exec_lookOk Try.underlying22 (J.map mm hmb) map_texts (zero_text W) n (wf_n hn) m x ho hm hx u q hu hq
end Go.Proofs.Ythpbhimmfmablaa
