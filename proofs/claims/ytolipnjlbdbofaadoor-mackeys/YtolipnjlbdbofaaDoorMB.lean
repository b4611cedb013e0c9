/- mac.madeOne and mac.filled: walked. Condition: the table of constants lies in memory as the program's text lays it. -/
import Derived.Test.YtolipnjlbdbofaaDoorI
import Derived.Test.YtolipnjlbdbofaaDoorMA
import Derived.Lib.BufferWrite
namespace Go.Proofs.YtolipnjlbdbofaaDoor
open Go.RowKit
theorem xor8 (a b : UInt8) : bits .xor .u8 (a.toNat : Int) (b.toNat : Int) = ((a ^^^ b).toNat : Int) := by
  rw [u8_xor_nat _ _ a.toNat_lt b.toNat_lt, UInt8.toNat_xor]
theorem addr_add (g j : Nat) : (⟨g, 0, none⟩ : Addr).add j = ⟨g, j, none⟩ := by unfold Addr.add; split <;> simp_all
/-- bytes of a block, as a text -/
theorem conv_bytes {w : World} {g : Nat} {t : TypeId} {l : List UInt8} (h : Has w g t (bs l)) (cap n : Nat) (hn : l.length = n) :
    (convert 27 9 (.slice (some ⟨g, 0, none⟩) n cap)).run Tryd.prog w = .ok (.string ⟨l.toArray⟩) w := by
  subst hn
  exact run_convert_bytes_back (P := Tryd.prog) w 27 9 5 ⟨g, 0, none⟩ cap l Tryd.underlying27 Tryd.underlying5 Tryd.underlying9 (fun j hj => by
    rw [addr_add, h.byte j hj, List.getD_eq_getElem?_getD, List.getElem?_eq_getElem hj]; rfl)
set_option maxHeartbeats 400000 in
theorem madeOne_any (l : List UInt8) (hl : l.length = 64) (c : UInt8) (w : World) :
    Calls Tryd.prog 22 #[.agg (bs l), .int .u8 (c.toNat : Int)] w fun e w' => e = .returned (.string ⟨(xorB l c).toArray⟩) ∧ Below w.heap.size w w' := by
  have hsz : (bs l).size = 64 := by rw [bs_size, hl]
  go_enter Tryd.func22, Tryd.ntmps22
  go_wp2
  go_loopw [6] (fun i wr => ∃ k : Nat, k ≤ 64 ∧ i = .int .i64 k ∧ Has wr w.heap.size 45 (bs (xTo l c k)) ∧ Below w.heap.size w wr) (fun i _ => 64 - (intOf i).toNat)
  case atStart => exact ⟨0, by omega, rfl, by rw [xTo_zero]; exact Has.fresh w 45 _, (Below.refl _ _).alloc (Nat.le_refl _) _⟩
  case round =>
    obtain ⟨k, hk, rfl, i1, hbr⟩ := hrel
    by_cases hk64 : k < 64
    · have c1 := i1.byte k (by rw [xTo_length]; omega)
      have q1 := i1.frozen k
      rw [xTo_get _ _ _ (by omega)] at c1
      have hset := xTo_set l c k (by omega)
      have hx := xor8 (l.getD k 0) c
      generalize l.getD k 0 = x at c1 hset hx
      generalize x ^^^ c = y at hset hx
      have HSET := Lib.hid hset
      have HX := Lib.hid hx
      clear hset hx
      go_wp2
      rw [HX.out]
      go_roundw
      case rel => exact ⟨k + 1, by omega, by go_num, by rw [← HSET.out]; exact i1.setB _ _, hbr.setCell (Nat.le_refl _) _⟩
      case measure => simp [intOf]; omega
    · have hk2 : k = 64 := by omega
      subst hk2
      rw [xTo_done _ _ _ (by omega)] at i1
      have hcv := conv_bytes i1 64 64 (by rw [xorB_length, hl])
      go_wp2
      go_ret
      exact ⟨rfl, hbr⟩
end Go.Proofs.YtolipnjlbdbofaaDoor
