/- oct.parts as a whole, and what oct.read keeps: walked. -/
import Derived.Test.YtbeeebnocliaiaaDoorOT
import Derived.Test.YtbeeebnocliaiaaDoorOR
namespace Go.Proofs.YtbeeebnocliaiaaDoor
open Go.RowKit Go.Shelf
/-- all that lay below B is as it was, but block g -/
structure ButB (g B : Nat) (w W : World) : Prop where
  os : W.os = w.os
  tape : W.tape = w.tape
  output : W.output = w.output
  size : w.heap.size ≤ W.heap.size
  block : ∀ k, k < B → k ≠ g → W.heap[k]? = w.heap[k]?
section
variable {g B : Nat} {a b c : World}
theorem ButB.of (h : Below B a b) : ButB g B a b := ⟨h.os, h.tape, h.output, h.size, fun k hk _ => h.block k hk⟩
theorem ButB.trans (h : ButB g B a b) (k : ButB g B b c) : ButB g B a c :=
  ⟨k.os.trans h.os, k.tape.trans h.tape, k.output.trans h.output, Nat.le_trans h.size k.size, fun i hi hn => (k.block i hi hn).trans (h.block i hi hn)⟩
theorem ButB.step {B' : Nat} (h : ButB g B a b) (k : Below B' b c) (hB : B ≤ B') : ButB g B a c := h.trans (ButB.of (k.mono hB))
theorem ButB.setCell (h : ButB g B a b) (p : Addr) (hp : p.block = g ∨ B ≤ p.block) (u : Value) : ButB g B a (b.setCell p u) :=
  ⟨h.os, h.tape, h.output, by simpa using h.size, fun k hk hn => (heap_setCell_other b p k u (by rcases hp with hp | hp <;> omega)).trans (h.block k hk hn)⟩
theorem ButB.grown {row : Option Nat} (h : ButB g B a b) (hg : b.grownBy c row) (hr : ∀ r, row = some r → B ≤ r) (hB : B ≤ b.heap.size) : ButB g B a c :=
  h.trans ⟨hg.os, hg.tape, hg.output, hg.size, fun k hk _ => hg.block k (by omega) (fun e => by have := hr k e.symm; omega)⟩
theorem ButB.has {k : Nat} {t : TypeId} {cs : Array Value} (h : ButB g B a b) (hk : Has a k t cs) (hB : k < B) (hn : k ≠ g) : Has b k t cs := (h.block k hB hn).trans hk
/-- where g is no block of w's -/
theorem ButB.below {n : Nat} (h : ButB g B a b) (hg : n ≤ g) (hB : n ≤ B) : Below n a b := ⟨h.os, h.tape, h.output, h.size, fun k hk => h.block k (by omega) (by omega)⟩
end
theorem Has.grown {g : Nat} {t : TypeId} {cs : Array Value} {W W' : World} {row : Option Nat} (h : Has W g t cs) (hg : W.grownBy W' row) (hr : ∀ r, row = some r → ∃ o : Obj, W.heap[r]? = some o ∧ o.isCells = false) : Has W' g t cs :=
  (hg.block g h.lt (fun e => by
    obtain ⟨_, h1, h2⟩ := hr g e.symm
    have h3 : W.heap[g]? = some (.cells cs t (0, 0)) := h
    rw [h3] at h1
    cases h1
    cases h2)).trans h
theorem keepsOthers_below {w w' : World} (h : Below w.heap.size w w') : KeepsOthers w w' :=
  ⟨h.size, fun k _ hk _ => (h.block k (Array.getElem?_eq_some_iff.1 hk).1).trans hk⟩
theorem parts_any (s : ByteArray) (m : UInt8) (w : World) :
    Calls Tryd.prog 31 #[.string s, .string ⟨#[m]⟩] w fun e w' => e = .returned (.func (.func 35) #[] #[.pointer (some ⟨w.heap.size, 0, none⟩), .pointer (some ⟨w.heap.size + 1, 0, none⟩)]) ∧
      w' = (w.alloc (.cells #[.string s] 9)).alloc (.cells #[.string ⟨#[m]⟩] 9) := by
  go_enter Tryd.func31, Tryd.ntmps31
  go_wp2
  go_ret
  exact ⟨rfl, rfl⟩
theorem grownBy_drewN (w : World) (k : Nat) : w.grownBy (w.drewN k) none := ⟨rfl, rfl, rfl, Nat.le_refl _, fun _ _ _ => rfl⟩
/-- what oct.parts answers goes through a text's parts -/
theorem parts_stops (s : ByteArray) (hs : s.size ≤ 1000000) (m : UInt8) (n : Nat) (hn : 1 ≤ n) (b0 b1 : Nat) (w : World) (h0 : w.cell? ⟨b0, 0, none⟩ = some (.string s)) (h1 : w.cell? ⟨b1, 0, none⟩ = some (.string ⟨#[m]⟩)) :
    SeqStopsK Fence.wide n Tryd.prog 35 #[.pointer (some ⟨b0, 0, none⟩), .pointer (some ⟨b1, 0, none⟩)] (fun x : PT => #[S9 x.1]) (KeepM b1) (fun xs => xs.map (·.1) = splitL m s.data.toList) (fun pre => pre.map (·.1) <+: splitL m s.data.toList) (splitL m s.data.toList).length w := by
  intro l J Jx W hW hJ hJx hY hj0
  exact parts1_any m s hs n hn l b0 b1 J Jx (fun pre W k hj => hJ pre W _ none hj (grownBy_drewN W k) (fun r e => by cases e)) hY W
    ((hW.cell (block_lt_of_cell h0)).trans h0) ((hW.cell (block_lt_of_cell h1)).trans h1) hj0
end Go.Proofs.YtbeeebnocliaiaaDoor
