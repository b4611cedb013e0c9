/- arp.Parse's closure: walked. -/
import Derived.Test.YtaoclfddamlcaaaWD
namespace Go.Proofs.Ytaoclfddamlcaaa
open Go.RowKit
/-- the closure takes the next bytes: its place is a cell of its own -/
theorem take_any (s : ByteArray) (a n : Nat) (ha : a ≤ 100) (hn : n ≤ 100) (h : a + n ≤ s.size) {w0 w : World} {L : List MRow} (M : Mem w0 L w) (i0 i1 : Nat) {g0 g1 : Nat} {t0 t1 : TypeId} (h0 : L[i0]? = some (g0, t0, #[.string s])) (h1 : L[i1]? = some (g1, t1, #[.int .i64 (a : Int)])) (hne : i0 ≠ i1) :
    Calls Try.prog 20 #[.int .i64 (n : Int), .pointer (some ⟨g1, 0, none⟩), .pointer (some ⟨g0, 0, none⟩)] w fun e w' => e = .returned (.string (s.extract a (a + n))) ∧ Mem w0 (L.set i1 (g1, t1, #[.int .i64 ((a + n : Nat) : Int)])) w' := by
  have hz : IntKind.i64.wrap ((a : Int) + (n : Int)) = ((a + n : Nat) : Int) := by rw [IntWalk.i64_in _ (by omega)]; omega
  have hz2 : IntKind.i64.wrap (((a + n : Nat) : Int) - (n : Int)) = (a : Int) := by rw [IntWalk.i64_in _ (by omega)]; omega
  have c1 := (M.row i1 h1).cell 0
  have f1 := (M.row i1 h1).frozen 0
  have M2 := M.setCell i1 h1 0 (.int .i64 ((a + n : Nat) : Int))
  have hlt := (List.getElem?_eq_some_iff.1 h1).1
  have k0 := (M2.row i0 (g := g0) (t := t0) (cs := #[.string s]) (by rw [List.getElem?_set_ne (fun e => hne e.symm)]; exact h0)).cell 0
  have k1 := (M2.row i1 (g := g1) (t := t1) (cs := #[.int .i64 ((a + n : Nat) : Int)]) (by rw [List.getElem?_set_self hlt]; rfl)).cell 0
  have hb : ((a + n : Nat) : Int) ≤ (s.size : Int) := by omega
  have hab : (a : Int) ≤ ((a + n : Nat) : Int) := by omega
  have HM := Lib.hid M2
  clear M M2 h0 h1 hne hlt h ha hn
  generalize a + n = b at *
  go_enter Try.func20, Try.ntmps20
  go_wp2
  go_ret
  exact ⟨rfl, HM.out⟩
/-- what two results read as, the first of which lies in a row -/
theorem results_row_reg {P : Program} {fn : Func} {p u : Tmp} {ty : TypeId} (h : fn.results = #[.cell p ty, .tmp u]) (tmps : Array Value) (w : World) (g : Nat) (t : TypeId) (cs : Array Value) (fr : Nat × Nat) (d : TypeDesc)
    (hp : tmps.getD p undef = .pointer (some ⟨g, 0, none⟩)) (hg : w.heap[g]? = some (.cells cs t fr))
    (hu : P.underlying ty = some d) (hd : (match d with | .struct _ | .array _ _ => true | _ => false) = true) (hi : (P.info? ty).map (·.size) = some cs.size)
    (v : Value) (hq : tmps.getD u undef = v) :
    (results fn tmps).run P w = .ok (.tuple #[.agg cs, v]) w := by
  have hp' : tmps[p]?.getD undef = .pointer (some ⟨g, 0, none⟩) := by simpa using hp
  have hq' : tmps[u]?.getD undef = v := by simpa using hq
  simp [results, h, hp', hq', asAddr, run_loadVar_row w g t ty cs fr d hg hu hd hi]
end Go.Proofs.Ytaoclfddamlcaaa
