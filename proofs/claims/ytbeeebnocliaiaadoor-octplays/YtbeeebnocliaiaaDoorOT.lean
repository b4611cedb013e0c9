/- oct.parts: what it goes through are a text's parts. -/
import Derived.Test.YtbeeebnocliaiaaDoorOS
import Derived.RangeFuncNested
import Derived.RangeFuncBound
import Derived.RangeFuncCalls
import Derived.RangeFuncLeaves
import Derived.RangeFuncWrites
import Derived.Shelf.Abstract
import Derived.Shelf.RegionOpen
import Derived.OwnWalkIn
import Derived.TacticsInMore
import Derived.LoopNIn
import Derived.LoopIn
namespace Go.Proofs.YtbeeebnocliaiaaDoor
open Go.RowKit Go.Shelf
attribute [local go_sem] Oper.semAt_some
/-- what a round keeps for the iterator: the mark's block -/
def KeepM (b : Nat) (W W' : World) : Prop := W'.heap[b]? = W.heap[b]?
theorem keepM_t {b : Nat} {A B C : World} (h : KeepM b A B) (k : KeepM b B C) : KeepM b A C := k.trans h
theorem keepM_b {b : Nat} {w : World} (hb : b < w.heap.size) (W : World) (l : Nat) (o o' : Obj) (hl : w.heap.size ≤ l) (_ : W.heap[l]? = some o) (_ : o.isCells = false) (_ : o.isWalk = false) : KeepM b W (W.putObj l o') :=
  World.putObj_heap_other (by omega)
/-- a part of a text that is no longer than a million bytes -/
abbrev PT := { x : List UInt8 // x.length ≤ 1000000 }
/-- how much is left to go through -/
def leftOf (left more : Value) : Nat := match left, more with
  | .string a, .bool true => a.size + 1
  | _, _ => 0
set_option maxRecDepth 100000 in
set_option maxHeartbeats 4000000 in
theorem parts1_any (m : UInt8) (s : ByteArray) (hs : s.size ≤ 1000000) (n : Nat) (hn : 1 ≤ n) (l bs0 bm : Nat) (J Jx : List PT → World → Prop)
    (hJd : ∀ pre W k, J pre W → J pre (W.drewN k))
    (hY : ∀ pre x W, J pre W → pre.length < (splitL m s.data.toList).length → YieldAt Fence.wide (n - 1) Tryd.prog l #[S9 x.1] W fun e W' =>
      (e = .returned (.bool true) ∧ J (pre ++ [x]) W' ∧ KeepM bm W W') ∨ (e = .returned (.bool false) ∧ Jx (pre ++ [x]) W'))
    (W : World) (hS : W.cell? ⟨bs0, 0, none⟩ = some (.string s)) (hM : W.cell? ⟨bm, 0, none⟩ = some (.string ⟨#[m]⟩)) (h0 : J [] W) :
    CallsIn Fence.wide n Tryd.prog 35 #[.func (.yield l) #[] #[], .pointer (some ⟨bs0, 0, none⟩), .pointer (some ⟨bm, 0, none⟩)] W fun e W' => (∃ v, e = .returned v) ∧
      ((∃ ys : List PT, ys.map (·.1) = splitL m s.data.toList ∧ J ys W') ∨ (∃ pre : List PT, pre.map (·.1) <+: splitL m s.data.toList ∧ Jx pre W')) := by
  have h6 : Fence.wide.fn 35 := trivial
  have hro : Fence.wide.round = none := rfl
  refine callsIn_of_wp Tryd.func35 rfl h6 ?_ hro
  simp only [Tryd.ntmps35, List.size_toArray, List.length_cons, List.length_nil, Nat.reduceAdd, Nat.reduceSub, Array.replicate_succ, Array.replicate_zero, List.push_toArray, List.append_toArray, List.nil_append, List.cons_append]
  gi_wp2
  gi_loopw [4, 5] (fun left more wr => ∃ (pre : List PT) (a : ByteArray) (b : Bool), left = .string a ∧ more = .bool b ∧ a.size ≤ s.size ∧ Hid ((b = true → splitL m s.data.toList = pre.map (·.1) ++ splitL m a.data.toList) ∧ (b = false → pre.map (·.1) = splitL m s.data.toList)) ∧ J pre wr ∧ wr.cell? ⟨bm, 0, none⟩ = some (.string ⟨#[m]⟩))
    (fun left more _ => leftOf left more)
  case atStart => exact ⟨[], s, true, rfl, rfl, Nat.le_refl _, Lib.hid ⟨fun _ => rfl, fun h => Bool.noConfusion h⟩, h0, hM⟩
  case round =>
    obtain ⟨pre, a, b, rfl, rfl, ha, hp, hJs, hMs⟩ := hrel
    cases b with
    | true =>
      have hcut := fun W => cut_any a m (by omega) W
      have hsp := cutL_split m a.data.toList
      have hsz := cutL_size m a.data.toList
      have hp1 := hp.out.1 rfl
      clear hp
      have hsa : a.data.toList.length = a.size := rfl
      generalize hcc : cutL m a.data.toList = c at hcut hsp hsz
      obtain ⟨x, r, f⟩ := c
      have HC := Lib.hid hcut
      have HSP := Lib.hid (And.intro hsp hsz)
      have HP := Lib.hid hp1
      clear hcut hsp hsz hp1 hcc hM hS
      gi_wp2_with fail
      refine ⟨trivial, ?_⟩
      refine (callsIn_wide.2 (HC.out _)).mono ?_
      rintro e w1 ⟨rfl, k, rfl⟩
      have hJd2 := hJd pre wr k hJs
      have hMd : (wr.drewN k).cell? ⟨bm, 0, none⟩ = some (.string ⟨#[m]⟩) := hMs
      have hlt : pre.length < (splitL m s.data.toList).length := by
        rw [HP.out, List.length_append, List.length_map]
        have := List.length_pos_iff.2 (splitL_ne m a.data.toList)
        omega
      have hx6 : x.length ≤ 1000000 := by have := HSP.out.2.1; omega
      obtain ⟨fn, tmps, assign, body, hy, hR⟩ := hY pre ⟨x, hx6⟩ (wr.drewN k) hJd2 hlt
      dsimp only at hy
      clear hJd2 hJs hMs HC
      generalize wr.drewN k = w2 at hMd hy hR ⊢
      clear hlt
      gi_wp2
      refine hR.mono ?_
      rintro e W3 (⟨rfl, hJ3, hk3⟩ | ⟨rfl, hJx3⟩)
      · have hM3 : W3.cell? ⟨bm, 0, none⟩ = some (.string ⟨#[m]⟩) := by
          unfold World.cell? at hMd ⊢
          rw [hk3]; exact hMd
        gi_wp2
        go_roundw
        case rel =>
          have hd := HSP.out
          refine ⟨pre ++ [⟨x, hx6⟩], ⟨r.toArray⟩, f, rfl, rfl, ?_, ?_, hJ3, hM3⟩
          · show r.length ≤ s.size
            omega
          · rcases hd.1 with ⟨rfl, hx, hs1⟩ | ⟨rfl, hs1, _⟩
            · exact Lib.hid ⟨fun h => Bool.noConfusion h, fun _ => by rw [HP.out, hs1, List.map_append, ← hx]; rfl⟩
            · exact Lib.hid ⟨fun _ => by rw [HP.out, hs1, List.map_append, List.append_assoc]; rfl, fun h => Bool.noConfusion h⟩
        case measure =>
          rcases HSP.out.1 with ⟨rfl, _, _⟩ | ⟨rfl, _, hl⟩
          · show 0 < a.size + 1
            omega
          · show r.length + 1 < a.size + 1
            omega
      · gi_wp2
        refine bodyPost_ret (results_none rfl _ _ _) rfl ?_
        refine ⟨⟨_, rfl⟩, .inr ⟨pre ++ [⟨x, hx6⟩], ?_, hJx3⟩⟩
        rw [HP.out, List.map_append]
        rcases HSP.out.1 with ⟨_, hx, hs1⟩ | ⟨_, hs1, _⟩
        · rw [hs1]; exact ⟨[], by rw [List.append_nil, ← hx]; rfl⟩
        · rw [hs1]; exact ⟨splitL m r, by rw [List.append_assoc]; rfl⟩
    | false =>
      have hp1 := hp.out.2 rfl
      have HP := Lib.hid hp1
      clear hp hp1
      gi_wp2
      go_end0
      exact ⟨⟨_, rfl⟩, .inl ⟨pre, HP.out, hJs⟩⟩
end Go.Proofs.YtbeeebnocliaiaaDoor
