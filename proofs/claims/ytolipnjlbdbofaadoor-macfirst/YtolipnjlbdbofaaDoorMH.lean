/- mac.keysOf and the function that it answers: walked. Condition: the table of constants lies in memory as the program's text lays it. -/
import Derived.Test.YtolipnjlbdbofaaDoorMD
import Derived.Deep.DeepCutAuto
namespace Go.Proofs.YtolipnjlbdbofaaDoor
open Go.RowKit
/-- all that was there is as it was, but one block -/
structure But (g : Nat) (w w' : World) : Prop where
  size : w.heap.size ≤ w'.heap.size
  block : ∀ k, k < w.heap.size → k ≠ g → w'.heap[k]? = w.heap[k]?
  below : ∀ B w0, B ≤ g → B ≤ w.heap.size → Below B w0 w → Below B w0 w'
theorem But.of {g : Nat} {w w' : World} (h : Below w.heap.size w w') : But g w w' :=
  ⟨h.size, fun k hk _ => h.block k hk, fun _ _ _ hs hb => hb.trans (h.mono hs)⟩
theorem But.has {g : Nat} {w w' : World} (h : But g w w') {k : Nat} {t : TypeId} {cs : Array Value} (hk : Has w k t cs) (hne : k ≠ g) : Has w' k t cs := (h.block k hk.lt hne).trans hk
theorem But.hasK {g : Nat} {w w' : World} (h : But g w w') (hk : HasK w) (hg : 0 < g) : HasK w' := fun i hi => by
  have e := h.block 0 hk.lt (by omega)
  have := hk i hi
  unfold World.cell? at this ⊢
  rw [e]; exact this
/-- what memory holds in the midst of the making of a key -/
def KEnv (w : World) (gr gi ga : Nat) (root : List UInt8) (info ahead : ByteArray) (W : World) : Prop :=
  Has W gr 25 (bs root) ∧ Has W gi 9 #[.string info] ∧ Has W ga 9 #[.string ahead] ∧ Has W w.heap.size 25 z32 ∧ HasK W ∧ Below w.heap.size w W
section
variable {w : World} {gr gi ga : Nat} {root : List UInt8} {info ahead : ByteArray} {W W' : World}
theorem KEnv.step (h : KEnv w gr gi ga root info ahead W) (hb : Below W.heap.size W W') : KEnv w gr gi ga root info ahead W' :=
  ⟨h.1.below hb h.1.lt, h.2.1.below hb h.2.1.lt, h.2.2.1.below hb h.2.2.1.lt, h.2.2.2.1.below hb h.2.2.2.1.lt, h.2.2.2.2.1.below h.2.2.2.2.1.lt hb, h.2.2.2.2.2.trans (hb.mono h.2.2.2.2.2.size)⟩
theorem KEnv.drew (h : KEnv w gr gi ga root info ahead W) : KEnv w gr gi ga root info ahead W.drew := ⟨h.1, h.2.1, h.2.2.1, h.2.2.2.1, h.2.2.2.2.1, h.2.2.2.2.2.drew⟩
theorem KEnv.alloc (h : KEnv w gr gi ga root info ahead W) (o : Obj) : KEnv w gr gi ga root info ahead (W.alloc o) := h.step ((Below.refl _ _).alloc (Nat.le_refl _) o)
theorem KEnv.held (h : KEnv w gr gi ga root info ahead W) (hl : root.length = 32) :
    (convert 27 9 (.slice (some ⟨gr, 0, none⟩) 32 32)).run Tryd.prog W = .ok (.string ⟨root.toArray⟩) W ∧ W.cell? ⟨ga, 0, none⟩ = some (.string ahead) ∧ W.cell? ⟨gi, 0, none⟩ = some (.string info) :=
  ⟨conv_bytes h.1 32 32 hl, h.2.2.1.cell 0, h.2.1.cell 0⟩
theorem KEnv.put (h : KEnv w gr gi ga root info ahead W) {b : Nat} (h0 : Has W b 25 z32) (hb : w.heap.size < b) (K : List UInt8) (hk : K.length = 32) (n0 : gr < w.heap.size) (n1 : gi < w.heap.size) (n2 : ga < w.heap.size) :
    KEnv w gr gi ga root info ahead (W.setCells b 0 (K.map B8)) ∧ Has (W.setCells b 0 (K.map B8)) b 25 (bs K) := by
  rw [setCells_bytes Tryd.prog h0 K (by unfold z32; rw [bs_size, hk]; rfl)]
  have hB := below_setRow h.2.2.2.2.2 (g := b) (by omega) (bs K)
  exact ⟨⟨h.1.setRow_other (by omega) _, h.2.1.setRow_other (by omega) _, h.2.2.1.setRow_other (by omega) _, h.2.2.2.1.setRow_other (by omega) _, fun i hi => ((below_setRow (Below.refl b W) (Nat.le_refl b) (bs K)).cell (p := ⟨0, i, none⟩) (by show 0 < b; omega)).trans (h.2.2.2.2.1 i hi), hB⟩, h0.setRow _⟩
theorem KEnv.row (h : KEnv w gr gi ga root info ahead W) (hW : Below W.heap.size W W') {b : Nat} (hb : W.heap.size ≤ b) (cs : Array Value) : KEnv w gr gi ga root info ahead (W'.setRow b cs) :=
  h.step (below_setRow hW hb cs)
end
theorem keysOf_any (root : List UInt8) (info : ByteArray) (w : World) :
    Calls Tryd.prog 23 #[.agg (bs root), .string info] w fun e w' => e = .returned (.func (.func 32) #[] #[.pointer (some ⟨w.heap.size, 0, none⟩), .pointer (some ⟨w.heap.size + 1 + 1, 0, none⟩), .pointer (some ⟨w.heap.size + 1, 0, none⟩)]) ∧
      w' = ((w.alloc (.cells (bs root) 25)).alloc (.cells #[.string info] 9)).alloc (.cells #[.string ⟨#[]⟩] 9) := by
  go_enter Tryd.func23, Tryd.ntmps23
  go_wp2
  go_ret
  exact ⟨rfl, rfl⟩
set_option maxHeartbeats 2000000 in
theorem nextKey_any (root : List UInt8) (info ahead : ByteArray) (c : UInt8) (gr gi ga : Nat) (w : World) (hT : HasK w) (hr : Has w gr 25 (bs root)) (hrl : root.length = 32)
    (hi : Has w gi 9 #[.string info]) (ha : Has w ga 9 #[.string ahead]) (s1 : info.size ≤ 50000) (s2 : ahead.size ≤ 40000) :
    Calls Tryd.prog 32 #[.int .u8 (c.toNat : Int), .pointer (some ⟨gr, 0, none⟩), .pointer (some ⟨ga, 0, none⟩), .pointer (some ⟨gi, 0, none⟩)] w
      fun e w' => e = .returned (.agg (bs (hmacL root (ahead.data.toList ++ info.data.toList ++ [c])))) ∧ But ga w w' ∧ Has w' ga 9 #[.string ⟨(hmacL root (ahead.data.toList ++ info.data.toList ++ [c])).toArray⟩] := by
  have hc := macSum_any ⟨root.toArray⟩ ((ahead ++ info) ++ ⟨#[c]⟩) (by rw [str_size, hrl]; omega) (by rw [ByteArray.size_append, ByteArray.size_append]; show _ + _ + 1 ≤ _; omega)
  have el : ((ahead ++ info) ++ ⟨#[c]⟩ : ByteArray).data.toList = ahead.data.toList ++ info.data.toList ++ [c] := by
    rw [ByteArray.data_append, Array.toList_append, ByteArray.data_append, Array.toList_append]
  rw [str_list, el] at hc
  have hKl := hmacL_length root (ahead.data.toList ++ info.data.toList ++ [c])
  generalize hmacL root (ahead.data.toList ++ info.data.toList ++ [c]) = K at hc hKl ⊢
  clear el
  have HC := Lib.hid hc
  have HKL := Lib.hid hKl
  have HRL := Lib.hid hrl
  clear hc
  have hcat1 : ¬ (9223372036854775807 < ahead.size + info.size) := by omega
  have hcat2 : ¬ (9223372036854775807 < ahead.size + info.size + 1) := by omega
  have B0 : Below w.heap.size w (w.alloc (.cells z32 25)) := (Below.refl _ _).alloc (Nat.le_refl _) _
  have E : KEnv w gr gi ga root info ahead (w.alloc (.cells z32 25)) := ⟨hr.alloc _, hi.alloc _, ha.alloc _, Has.fresh w 25 _, hT.below hT.lt B0, B0⟩
  have hga : ga < w.heap.size := ha.lt
  clear B0
  go_enter Tryd.func32, Tryd.ntmps32
  go_upto_region 1 with fail
  change Code.wp _ _ _ _ (w.alloc (.cells z32 25))
  have hsz : (w.alloc (.cells z32 25)).heap.size = w.heap.size + 1 := by show (w.heap.push _).size = _; simp
  generalize w.alloc (.cells z32 25) = wr at E hsz ⊢
  go_cut [6] (fun v wx => ∃ g6, v = .pointer (some ⟨g6, 0, none⟩) ∧ w.heap.size < g6 ∧ Has wx g6 25 (bs K) ∧ KEnv w gr gi ga root info ahead wx)
  case first =>
    replace E := E.drew
    have HSZ := Lib.hid hsz
    clear hsz
    have hl32 : (K.map B8).length = 32 := by rw [List.length_map, HKL.out]
    have hi32 : (Tryd.prog.info? 25).map (·.size) = some (K.map B8).length := by rw [hl32]; kernel_rfl
    have ho32 := bl_one K
    have r0 := hr.lt
    have r1 := hi.lt
    have r2 := ha.lt
    have thA : ∀ W : World, (W.alloc (.cells #[.int .u8 0, .int .u8 0, .int .u8 0, .int .u8 0, .int .u8 0, .int .u8 0, .int .u8 0, .int .u8 0, .int .u8 0, .int .u8 0, .int .u8 0, .int .u8 0, .int .u8 0, .int .u8 0, .int .u8 0, .int .u8 0, .int .u8 0, .int .u8 0, .int .u8 0, .int .u8 0, .int .u8 0, .int .u8 0, .int .u8 0, .int .u8 0, .int .u8 0, .int .u8 0, .int .u8 0, .int .u8 0, .int .u8 0, .int .u8 0, .int .u8 0, .int .u8 0] 25)).there W.heap.size 0 32 := fun W => (Has.fresh W 25 z32).there 32 (by decide)
    have cv1 := conv_bytes (Has.fresh wr.drew 5 (bs [c])) 1 1 rfl
    have cv2 := conv_bytes ((Has.fresh wr.drew 5 (bs [c])).alloc (.cells #[.int .u8 0, .int .u8 0, .int .u8 0, .int .u8 0, .int .u8 0, .int .u8 0, .int .u8 0, .int .u8 0, .int .u8 0, .int .u8 0, .int .u8 0, .int .u8 0, .int .u8 0, .int .u8 0, .int .u8 0, .int .u8 0, .int .u8 0, .int .u8 0, .int .u8 0, .int .u8 0, .int .u8 0, .int .u8 0, .int .u8 0, .int .u8 0, .int .u8 0, .int .u8 0, .int .u8 0, .int .u8 0, .int .u8 0, .int .u8 0, .int .u8 0, .int .u8 0] 25)) 1 1 rfl
    have cv3 := conv_bytes (l := [c]) (t := 5) (heap_alloc2_new wr.drew (.cells #[.int .u8 0, .int .u8 0, .int .u8 0, .int .u8 0, .int .u8 0, .int .u8 0, .int .u8 0, .int .u8 0, .int .u8 0, .int .u8 0, .int .u8 0, .int .u8 0, .int .u8 0, .int .u8 0, .int .u8 0, .int .u8 0, .int .u8 0, .int .u8 0, .int .u8 0, .int .u8 0, .int .u8 0, .int .u8 0, .int .u8 0, .int .u8 0, .int .u8 0, .int .u8 0, .int .u8 0, .int .u8 0, .int .u8 0, .int .u8 0, .int .u8 0, .int .u8 0] 25) (.cells (bs [c]) 5)) 1 1 rfl
    change (convert 27 9 (.slice (some ⟨wr.heap.size, 0, none⟩) 1 1)).run Tryd.prog (wr.alloc (.cells #[.int .u8 (c.toNat : Int)] 5)).drew = .ok (.string ⟨#[c]⟩) (wr.alloc (.cells #[.int .u8 (c.toNat : Int)] 5)).drew at cv1
    change (convert 27 9 (.slice (some ⟨wr.heap.size, 0, none⟩) 1 1)).run Tryd.prog ((wr.alloc (.cells #[.int .u8 (c.toNat : Int)] 5)).alloc (.cells #[.int .u8 0, .int .u8 0, .int .u8 0, .int .u8 0, .int .u8 0, .int .u8 0, .int .u8 0, .int .u8 0, .int .u8 0, .int .u8 0, .int .u8 0, .int .u8 0, .int .u8 0, .int .u8 0, .int .u8 0, .int .u8 0, .int .u8 0, .int .u8 0, .int .u8 0, .int .u8 0, .int .u8 0, .int .u8 0, .int .u8 0, .int .u8 0, .int .u8 0, .int .u8 0, .int .u8 0, .int .u8 0, .int .u8 0, .int .u8 0, .int .u8 0, .int .u8 0] 25)).drew = .ok (.string ⟨#[c]⟩) ((wr.alloc (.cells #[.int .u8 (c.toNat : Int)] 5)).alloc (.cells #[.int .u8 0, .int .u8 0, .int .u8 0, .int .u8 0, .int .u8 0, .int .u8 0, .int .u8 0, .int .u8 0, .int .u8 0, .int .u8 0, .int .u8 0, .int .u8 0, .int .u8 0, .int .u8 0, .int .u8 0, .int .u8 0, .int .u8 0, .int .u8 0, .int .u8 0, .int .u8 0, .int .u8 0, .int .u8 0, .int .u8 0, .int .u8 0, .int .u8 0, .int .u8 0, .int .u8 0, .int .u8 0, .int .u8 0, .int .u8 0, .int .u8 0, .int .u8 0] 25)).drew at cv2
    change (convert 27 9 (.slice (some ⟨wr.heap.size + 1, 0, none⟩) 1 1)).run Tryd.prog ((wr.alloc (.cells #[.int .u8 0, .int .u8 0, .int .u8 0, .int .u8 0, .int .u8 0, .int .u8 0, .int .u8 0, .int .u8 0, .int .u8 0, .int .u8 0, .int .u8 0, .int .u8 0, .int .u8 0, .int .u8 0, .int .u8 0, .int .u8 0, .int .u8 0, .int .u8 0, .int .u8 0, .int .u8 0, .int .u8 0, .int .u8 0, .int .u8 0, .int .u8 0, .int .u8 0, .int .u8 0, .int .u8 0, .int .u8 0, .int .u8 0, .int .u8 0, .int .u8 0, .int .u8 0] 25)).alloc (.cells #[.int .u8 (c.toNat : Int)] 5)).drew = .ok (.string ⟨#[c]⟩) ((wr.alloc (.cells #[.int .u8 0, .int .u8 0, .int .u8 0, .int .u8 0, .int .u8 0, .int .u8 0, .int .u8 0, .int .u8 0, .int .u8 0, .int .u8 0, .int .u8 0, .int .u8 0, .int .u8 0, .int .u8 0, .int .u8 0, .int .u8 0, .int .u8 0, .int .u8 0, .int .u8 0, .int .u8 0, .int .u8 0, .int .u8 0, .int .u8 0, .int .u8 0, .int .u8 0, .int .u8 0, .int .u8 0, .int .u8 0, .int .u8 0, .int .u8 0, .int .u8 0, .int .u8 0] 25)).alloc (.cells #[.int .u8 (c.toNat : Int)] 5)).drew at cv3
    refine wp_region_noPanic ?_
    go_region_held (fun w' => (convert 27 9 (.slice (some ⟨gr, 0, none⟩) 32 32)).run Tryd.prog w' = .ok (.string ⟨root.toArray⟩) w' ∧ w'.cell? ⟨ga, 0, none⟩ = some (.string ahead) ∧ w'.cell? ⟨gi, 0, none⟩ = some (.string info))
      (first | exact E.held HRL.out | exact F.held HRL.out | exact (F.alloc _).held HRL.out | exact G.1.held HRL.out | exact (E.alloc _).held HRL.out | exact ((E.alloc _).alloc _).held HRL.out)
      (first
        | (go_at_call 10; refine (HC.out _ (E.alloc (.cells #[.int .u8 (c.toNat : Int)] 5)).2.2.2.2.1).mono ?_; rintro e wq ⟨rfl, hbq⟩; have F := (E.alloc (.cells #[.int .u8 (c.toNat : Int)] 5)).step hbq; have th := thA wq; have G := (F.alloc (.cells z32 25)).put (Has.fresh wq 25 z32) (by have := F.2.2.2.1.lt; omega) K HKL.out r0 r1 r2)
        | (go_at_call 10; refine (HC.out _ ((E.alloc (.cells #[.int .u8 (c.toNat : Int)] 5)).alloc (.cells #[.int .u8 0, .int .u8 0, .int .u8 0, .int .u8 0, .int .u8 0, .int .u8 0, .int .u8 0, .int .u8 0, .int .u8 0, .int .u8 0, .int .u8 0, .int .u8 0, .int .u8 0, .int .u8 0, .int .u8 0, .int .u8 0, .int .u8 0, .int .u8 0, .int .u8 0, .int .u8 0, .int .u8 0, .int .u8 0, .int .u8 0, .int .u8 0, .int .u8 0, .int .u8 0, .int .u8 0, .int .u8 0, .int .u8 0, .int .u8 0, .int .u8 0, .int .u8 0] 25)).2.2.2.2.1).mono ?_; rintro e wq ⟨rfl, hbq⟩; have F := ((E.alloc (.cells #[.int .u8 (c.toNat : Int)] 5)).alloc (.cells #[.int .u8 0, .int .u8 0, .int .u8 0, .int .u8 0, .int .u8 0, .int .u8 0, .int .u8 0, .int .u8 0, .int .u8 0, .int .u8 0, .int .u8 0, .int .u8 0, .int .u8 0, .int .u8 0, .int .u8 0, .int .u8 0, .int .u8 0, .int .u8 0, .int .u8 0, .int .u8 0, .int .u8 0, .int .u8 0, .int .u8 0, .int .u8 0, .int .u8 0, .int .u8 0, .int .u8 0, .int .u8 0, .int .u8 0, .int .u8 0, .int .u8 0, .int .u8 0] 25)).step hbq; have h6 : Has wq (wr.heap.size + 1) 25 z32 := Has.below (w := ((wr.alloc (.cells #[.int .u8 (c.toNat : Int)] 5)).alloc (.cells #[.int .u8 0, .int .u8 0, .int .u8 0, .int .u8 0, .int .u8 0, .int .u8 0, .int .u8 0, .int .u8 0, .int .u8 0, .int .u8 0, .int .u8 0, .int .u8 0, .int .u8 0, .int .u8 0, .int .u8 0, .int .u8 0, .int .u8 0, .int .u8 0, .int .u8 0, .int .u8 0, .int .u8 0, .int .u8 0, .int .u8 0, .int .u8 0, .int .u8 0, .int .u8 0, .int .u8 0, .int .u8 0, .int .u8 0, .int .u8 0, .int .u8 0, .int .u8 0] 25)).drew) (heap_alloc2_new wr.drew _ _) hbq (by simp); have th := h6.there 32 (by decide); have G := F.put h6 (by have := HSZ.out; omega) K HKL.out r0 r1 r2)
        | (go_at_call 10; refine (HC.out _ ((E.alloc (.cells #[.int .u8 0, .int .u8 0, .int .u8 0, .int .u8 0, .int .u8 0, .int .u8 0, .int .u8 0, .int .u8 0, .int .u8 0, .int .u8 0, .int .u8 0, .int .u8 0, .int .u8 0, .int .u8 0, .int .u8 0, .int .u8 0, .int .u8 0, .int .u8 0, .int .u8 0, .int .u8 0, .int .u8 0, .int .u8 0, .int .u8 0, .int .u8 0, .int .u8 0, .int .u8 0, .int .u8 0, .int .u8 0, .int .u8 0, .int .u8 0, .int .u8 0, .int .u8 0] 25)).alloc (.cells #[.int .u8 (c.toNat : Int)] 5)).2.2.2.2.1).mono ?_; rintro e wq ⟨rfl, hbq⟩; have F := ((E.alloc (.cells #[.int .u8 0, .int .u8 0, .int .u8 0, .int .u8 0, .int .u8 0, .int .u8 0, .int .u8 0, .int .u8 0, .int .u8 0, .int .u8 0, .int .u8 0, .int .u8 0, .int .u8 0, .int .u8 0, .int .u8 0, .int .u8 0, .int .u8 0, .int .u8 0, .int .u8 0, .int .u8 0, .int .u8 0, .int .u8 0, .int .u8 0, .int .u8 0, .int .u8 0, .int .u8 0, .int .u8 0, .int .u8 0, .int .u8 0, .int .u8 0, .int .u8 0, .int .u8 0] 25)).alloc (.cells #[.int .u8 (c.toNat : Int)] 5)).step hbq; have h6 : Has wq wr.heap.size 25 z32 := Has.below (w := ((wr.alloc (.cells #[.int .u8 0, .int .u8 0, .int .u8 0, .int .u8 0, .int .u8 0, .int .u8 0, .int .u8 0, .int .u8 0, .int .u8 0, .int .u8 0, .int .u8 0, .int .u8 0, .int .u8 0, .int .u8 0, .int .u8 0, .int .u8 0, .int .u8 0, .int .u8 0, .int .u8 0, .int .u8 0, .int .u8 0, .int .u8 0, .int .u8 0, .int .u8 0, .int .u8 0, .int .u8 0, .int .u8 0, .int .u8 0, .int .u8 0, .int .u8 0, .int .u8 0, .int .u8 0] 25)).alloc (.cells #[.int .u8 (c.toNat : Int)] 5)).drew) ((Has.fresh wr.drew 25 _).alloc _) hbq (by simp; omega); have th := h6.there 32 (by decide); have G := F.put h6 (by have := HSZ.out; omega) K HKL.out r0 r1 r2))
    all_goals
      refine NoPanic.normal ?_
      go_wp2_with fail
      go_meet
      exact ⟨_, rfl, by have := HSZ.out; have := F.2.2.2.1.lt; omega, G.2, G.1⟩
  case rest =>
    obtain ⟨g6, rfl, hg6, hK6, E2⟩ := hcut
    have hcv := conv_bytes hK6 32 32 HKL.out
    have ca : wc.cell? ⟨ga, 0, none⟩ = some (.string ahead) := E2.2.2.1.cell 0
    have fa := E2.2.2.1.frozen 0
    go_upto_region 3 with fail
    have i6 := hK6.other (p := ⟨ga, 0, none⟩) (by show g6 ≠ ga; omega) (.string ⟨K.toArray⟩)
    have i5 := E2.2.2.2.1.other (p := ⟨ga, 0, none⟩) (by show w.heap.size ≠ ga; omega) (.string ⟨K.toArray⟩)
    have ia : Has (wc.setCell ⟨ga, 0, none⟩ (.string ⟨K.toArray⟩)) ga 9 #[.string ⟨K.toArray⟩] := E2.2.2.1.set 0 (.string ⟨K.toArray⟩)
    have hB := E2.2.2.2.2.2
    go_wp2_with (first
      | (refine wpList_load_row rfl 25 (.tmp 6) rfl g6 rfl 25 (bs K) (0, 0) _ i6 Tryd.underlying25 rfl (info32 K HKL.out) ?_)
      | (refine wpList_store_row rfl 25 (.tmp 5) (.tmp 19) rfl w.heap.size (bs K) rfl rfl 25 z32 i5 (info32 K HKL.out) (z32_size K HKL.out) (bs_one K) ?_))
    refine bodyPost_ret (v := .agg (bs K)) (results_cell_row rfl _ _ w.heap.size 25 (bs K) (0, 0) _ rfl (i5.setRow _) Tryd.underlying25 rfl (info32 K HKL.out)) rfl ⟨rfl, ⟨?_, ?_, ?_⟩, ia.setRow_other (by omega) _⟩
    · rw [size_setRow]; show _ ≤ (wc.setCell _ _).heap.size; have := hB.size; simpa using this
    · intro k hk hne
      rw [Go.setRow_other _ _ _ _ (by omega), heap_setCell_other _ _ _ _ (by show k ≠ ga; exact hne)]
      exact hB.block k hk
    · intro B w0 h1 h2 h3
      exact below_setRow ((h3.trans (hB.mono h2)).setCell (by show B ≤ ga; exact h1) _) h2 _
end Go.Proofs.YtolipnjlbdbofaaDoor
