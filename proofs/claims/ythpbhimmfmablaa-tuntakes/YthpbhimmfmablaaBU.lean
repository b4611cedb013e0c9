/- Bytes and texts over the program's own types: what several layers share. -/
import Derived.Test.YthpbhimmfmablaaRows
import Derived.Test.YthpbhimmfmablaaHR
import Derived.Test.YthpbhimmfmablaaQM
import Derived.WalkKit
import Derived.WalkSpells
import Derived.WalkLawsBesides
import Derived.BigQuiet
import Derived.Lib.Hide
import Derived.Lib.BufferWrite
namespace Go.Proofs.Ythpbhimmfmablaa
open Go.RowKit
theorem u8_info : (Try.prog.info? 5).map (fun i => (i.zero, i.size, i.bytes)) = some (some (.int .u8 0), 1, 1) := by kernel_rfl
theorem make_bytes (m : Nat) (hm : m ≤ 1000000) (w : World) :
    (Instr.makeSlice 60 (.int .i64 (m : Int)) (.int .i64 (m : Int))).run Try.prog w = .ok (.slice (some ⟨w.heap.size, 0, none⟩) m m) (w.alloc (.cells (bs (List.replicate m 0)) 5)) := by
  obtain ⟨i, hi, hz0, hz1, hz2⟩ := info_parts u8_info
  have h := run_make (P := Try.prog) w 60 5 i (.int .u8 0) Try.underlying60 hi hz0 .i64 .i64 m m (by omega) (by omega) (by rw [hz2]; omega) (by omega)
  rw [h, hz1, Int.toNat_natCast, Nat.mul_one, ← made_bs]
  rfl
theorem xor8 (a b : UInt8) : bits .xor .u8 (a.toNat : Int) (b.toNat : Int) = ((a ^^^ b).toNat : Int) := by
  rw [u8_xor_nat _ _ a.toNat_lt b.toNat_lt, UInt8.toNat_xor]
theorem addr_add (g j : Nat) : (⟨g, 0, none⟩ : Addr).add j = ⟨g, j, none⟩ := by unfold Addr.add; split <;> simp_all
/-- bytes of a block, as a text -/
theorem conv_bytes {w : World} {g : Nat} {t : TypeId} {l : List UInt8} (h : Has w g t (bs l)) (cap n : Nat) (hn : l.length = n) :
    (convert 60 9 (.slice (some ⟨g, 0, none⟩) n cap)).run Try.prog w = .ok (.string ⟨l.toArray⟩) w := by
  subst hn
  exact run_convert_bytes_back (P := Try.prog) w 60 9 5 ⟨g, 0, none⟩ cap l Try.underlying60 Try.underlying5 Try.underlying9 (fun j hj => by
    rw [addr_add, h.byte j hj, List.getD_eq_getElem?_getD, List.getElem?_eq_getElem hj]; rfl)
/-- bytes in the midst of a block, as a text -/
theorem conv_range {w : World} {g o : Nat} {l : List UInt8} (h : w.rangeAt g o (l.map B8)) (cap n : Nat) (hn : l.length = n) :
    (convert 60 9 (.slice (some ⟨g, o, none⟩) n cap)).run Try.prog w = .ok (.string ⟨l.toArray⟩) w := by
  subst hn
  exact run_convert_bytes_back (P := Try.prog) w 60 9 5 ⟨g, o, none⟩ cap l Try.underlying60 Try.underlying5 Try.underlying9 (fun j hj => by
    rw [Addr.add_mid]
    exact h j _ (by rw [List.getElem?_map, List.getElem?_eq_getElem hj]; rfl))
theorem str_list (l : List UInt8) : (⟨l.toArray⟩ : ByteArray).data.toList = l := rfl
theorem str_size (l : List UInt8) : (⟨l.toArray⟩ : ByteArray).size = l.length := rfl
theorem str_of (s : ByteArray) : (⟨s.data.toList.toArray⟩ : ByteArray) = s := by apply ByteArray.ext; simp
theorem cat_list (l : List UInt8) (s : ByteArray) : ((⟨l.toArray⟩ : ByteArray) ++ s).data.toList = l ++ s.data.toList := by rw [ByteArray.data_append, Array.toList_append]
theorem cat_size (l : List UInt8) (s : ByteArray) : ((⟨l.toArray⟩ : ByteArray) ++ s).size = l.length + s.size := by rw [ByteArray.size_append]; rfl
theorem cat_str (a b : List UInt8) : (⟨a.toArray⟩ : ByteArray) ++ ⟨b.toArray⟩ = ⟨(a ++ b).toArray⟩ := by
  apply ByteArray.ext
  apply Array.toList_inj.1
  rw [ByteArray.data_append, Array.toList_append]
/-- two texts, one behind the other -/
theorem exec_cat {o : Oper} {ev : Operand → Value} {w : World} (x y : Operand) (a b c : ByteArray) (hc : a ++ b = c) (hs : ¬ (9223372036854775807 < a.size + b.size)) (ho : o.op = .binOp .add 9 x y 9) (hx : ev x = .string a) (hy : ev y = .string b) :
    (execOp ev o).run Try.prog w = .ok (.value (.string c)) w := by
  subst hc
  unfold execOp
  simp only [ho, hx, hy]
  go_simp
/-- a row of the call's own, of bytes -/
theorem own_bytes {w : World} {base : Nat} {a : Option Addr} {cap n : Nat} {l : List UInt8} (h : w.ownsRow base 5 1 (.slice a n cap) n (l.map B8)) (hn : 0 < n) : l.length = n ∧ ∃ g, a = some ⟨g, 0, none⟩ ∧ w.rangeAt g 0 (l.map B8) := by
  have hl : l.length = n := by have := h.1; rw [List.length_map] at this; omega
  refine ⟨hl, ?_⟩
  rcases h.2 with ⟨_, h0⟩ | ⟨g, cap', cur, hv, hg, hh, hnc, hcm, hcur, htk⟩
  · omega
  · have ha : a = some ⟨g, 0, none⟩ := by injection hv
    subst ha
    refine ⟨g, rfl, fun j v hv2 => ?_⟩
    have hj : j < n := by
      have := (List.getElem?_eq_some_iff.1 hv2).1
      rw [List.length_map, hl] at this
      exact this
    have hc := h.cellAt (g := g) (cap := cap) j (by omega)
    rw [Nat.zero_add, hc]
    exact hv2
theorem ownB_form {w : World} {base : Nat} {v : Value} {n : Nat} {xs : List Value} (h : w.ownsRow base 5 1 v n xs) : ∃ a cap, v = .slice a n cap := by
  rcases h.2 with ⟨rfl, rfl⟩ | ⟨g, cap, _, rfl, _⟩
  · exact ⟨_, _, rfl⟩
  · exact ⟨_, _, rfl⟩
theorem one_byte (n : Int) : ∀ u ∈ [Value.int .u8 n], u.oneCell' = true := by
  intro u hu
  simp only [List.mem_singleton] at hu
  subst hu
  rfl
end Go.Proofs.Ythpbhimmfmablaa
