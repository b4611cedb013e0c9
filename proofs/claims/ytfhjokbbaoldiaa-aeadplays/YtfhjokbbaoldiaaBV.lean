/- A byte appended to a row of the call's own, said of any operation. -/
import Derived.Test.YtfhjokbbaoldiaaBU
import Derived.Test.YtfhjokbbaoldiaaHG2
import Derived.Laws.BytesArg
namespace Go.Proofs.Ytfhjokbbaoldiaa
open Go.RowKit
/-- a row of the call's own, as a text -/
theorem conv_own {w : World} {base n cap : Nat} {a : Option Addr} {l : List UInt8} (h : w.ownsRow base 5 1 (.slice a n cap) n (l.map B8)) :
    (convert 32 9 (.slice a n cap)).run Try.prog w = .ok (.string ⟨l.toArray⟩) w := by
  have hl : l.length = n := by have := h.1; rw [List.length_map] at this; omega
  rcases Nat.eq_zero_or_pos n with h0 | h0
  · subst h0
    obtain rfl := List.length_eq_zero_iff.1 hl
    cases a with
    | none => exact run_convert_bytes_nil w 32 5 Try.underlying32 Try.underlying5 0 cap 9 Try.underlying9
    | some p =>
      exact run_convert_bytes_back (P := Try.prog) w 32 9 5 p cap [] Try.underlying32 Try.underlying5 Try.underlying9 (fun j hj => by cases hj)
  · obtain ⟨_, g, rfl, hr⟩ := own_bytes h h0
    exact conv_range hr cap n hl
theorem exec_append1 {o : Oper} {ev : Operand → Value} {w : World} (s x : Operand) {base n cap g c : Nat} {a : Option Addr} {l : List UInt8} {y : UInt8}
    (ho : o.op = .call { callee := .builtin .append, args := #[s, x], argTypes := #[32, 32] }) (hs : ev s = .slice a n cap) (hx : ev x = .slice (some ⟨g, 0, none⟩) 1 c)
    (hown : w.ownsRow base 5 1 (.slice a n cap) n (l.map B8)) (hcell : w.cell? ⟨g, 0, none⟩ = some (B8 y)) (hn : n ≤ 100000000) (hbase : base ≤ w.heap.size) :
    ∃ a2 cap2 w', (execOp ev o).run Try.prog w = .ok (.value (.slice a2 (n + 1) cap2)) w' ∧ w'.ownsRow base 5 1 (.slice a2 (n + 1) cap2) (n + 1) ((l ++ [y]).map B8) ∧ Below base w w' := by
  obtain ⟨i0, hi0, hz0, hz1, hz2⟩ := info_parts u8_info
  obtain ⟨v', w', hr, h2, h3, _⟩ := run_append_own (P := Try.prog) w base 32 o.type 5 i0 _ 1 1 Try.underlying32 hi0 hz0 hz1 hz2 rfl (by omega) (.slice a n cap) n (l.map B8) hown ⟨g, 0, none⟩ 1 c [B8 y] rfl
    (fun j u hu => by
      cases j with
      | zero => simp only [List.getElem?_cons_zero, Option.some.injEq] at hu; subst hu; exact hcell
      | succ j => simp at hu) (one_byte _) (by unfold maxLen; omega) (by omega) hbase
  obtain ⟨a2, cap2, rfl⟩ := ownB_form h2
  refine ⟨a2, cap2, w', ?_, by rw [List.map_append]; exact h2, (Below.refl base w).grown h3 hbase (fun j hj => (hown.lt j hj).1)⟩
  unfold execOp
  simp only [ho, resolve, invoke, builtin, Sem.run_bind, Sem.run_pure, Result.andThen_ok, List.map_toArray, List.map_cons, List.map_nil, hs, hx, hr]
/-- behind a gate, or without one: an append of one byte alone may come up -/
theorem append0 {md : Region.Mode} {ops : Array Oper} {Q : Exit → Act → World → Prop} {fuel : Nat} {listed : Array Bool} {ac : Act} {w : World} (i d : Nat) (s x : Operand) (o : Oper) (hr : Region.ready md ops listed = [i]) (hi : ops[i]? = some o)
    (hw : Region.wanted o (yielded ops ac.tmps) = true) (hd : o.dst = some d) {base n cap g c : Nat} {a : Option Addr} {l : List UInt8} {y : UInt8}
    (ho : o.op = .call { callee := .builtin .append, args := #[s, x], argTypes := #[32, 32] }) (hs : ac.eval s = .slice a n cap) (hx : ac.eval x = .slice (some ⟨g, 0, none⟩) 1 c)
    (hown : w.ownsRow base 5 1 (.slice a n cap) n (l.map B8)) (hcell : w.cell? ⟨g, 0, none⟩ = some (B8 y)) (hn : n ≤ 100000000) (hbase : base ≤ w.heap.size)
    (h : ∀ a2 cap2 w', w'.ownsRow base 5 1 (.slice a2 (n + 1) cap2) (n + 1) ((l ++ [y]).map B8) → Below base w w' → wpAny Try.prog md ops Q fuel (listed.setIfInBounds i true) (ac.put (some d) (.slice a2 (n + 1) cap2)) w') :
    wpAny Try.prog md ops Q (fuel + 1) listed ac w := by
  obtain ⟨a2, cap2, w', hex, h2, h3⟩ := exec_append1 s x ho hs hx hown hcell hn hbase
  exact val0 i d _ w' o hr hi hw hd hex (h a2 cap2 w' h2 h3)
end Go.Proofs.Ytfhjokbbaoldiaa
