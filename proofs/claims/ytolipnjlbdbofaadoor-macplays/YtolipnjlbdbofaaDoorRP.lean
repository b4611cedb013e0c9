/- causeyref02.text, with and Sum: walked, of keys of up to 400 bytes and texts of up to 330. -/
import Derived.Test.YtolipnjlbdbofaaDoorRK
import Derived.Test.YtolipnjlbdbofaaDoorMD
namespace Go.Proofs.YtolipnjlbdbofaaDoor
open Go.RowKit
set_option maxHeartbeats 400000 in
theorem refText_any (l : List UInt8) (hl : l.length = 32) (w : World) :
    Calls Tryd.prog 24 #[.agg (bs l)] w fun e w' => e = .returned (.string ⟨l.toArray⟩) ∧ Below w.heap.size w w' := by
  have hcv := conv_bytes (Has.fresh w 23 (bs l)) 32 32 hl
  have hb : Below w.heap.size w (w.alloc (.cells (bs l) 23)) := (Below.refl _ _).alloc (Nat.le_refl _) _
  go_enter Tryd.func24, Tryd.ntmps24
  go_wp2
  go_ret
  exact ⟨rfl, hb⟩
/-- a row of the call's own, of bytes -/
theorem own_bytes {w : World} {base : Nat} {a : Option Addr} {cap n : Nat} {l : List UInt8} (h : w.ownsRow base 5 1 (.slice a n cap) n (l.map B8)) (hn : 0 < n) : l.length = n ∧ ∃ g, a = some ⟨g, 0, none⟩ ∧ w.rangeAt g 0 (l.map B8) := by
  have hl : l.length = n := by have := h.1; rw [List.length_map] at this; omega
  refine ⟨hl, ?_⟩
  rcases h.2 with ⟨_, h0⟩ | ⟨g, cap', cur, hv, hg, hh, hnc, hcm, hcur, htk⟩
  · omega
  · have ha : a = some ⟨g, 0, none⟩ := by injection hv
    subst ha
    refine ⟨g, rfl, fun j v hv2 => ?_⟩
    have hj : j < n := by
      have := (List.getElem?_eq_some_iff.1 hv2).1
      rw [List.length_map, hl] at this
      exact this
    have hc := h.cellAt (g := g) (cap := cap) j (by omega)
    rw [Nat.zero_add, hc]
    exact hv2
theorem ownB_form {w : World} {base : Nat} {v : Value} {n : Nat} {xs : List Value} (h : w.ownsRow base 5 1 v n xs) : ∃ a cap, v = .slice a n cap := by
  rcases h.2 with ⟨rfl, rfl⟩ | ⟨g, cap, _, rfl, _⟩
  · exact ⟨_, _, rfl⟩
  · exact ⟨_, _, rfl⟩
theorem one_byte (n : Int) : ∀ u ∈ [Value.int .u8 n], u.oneCell' = true := by
  intro u hu
  simp only [List.mem_singleton] at hu
  subst hu
  rfl
set_option maxHeartbeats 1000000 in
theorem refWith_any (s : ByteArray) (h0 : 0 < s.size) (hs : s.size ≤ 1000) (c : UInt8) (w : World) :
    Calls Tryd.prog 25 #[.string s, .int .u8 (c.toNat : Int)] w fun e w' => e = .returned (.string ⟨(xorB s.data.toList c).toArray⟩) ∧ Below w.heap.size w w' := by
  obtain ⟨i0, hi0, hz0, hz1, hz2⟩ := info_parts u8_info
  go_enter Tryd.func25, Tryd.ntmps25
  go_wp2
  go_loopw [5, 6] (fun v i wr => ∃ (k : Nat) (a : Option Addr) (cap : Nat), k ≤ s.size ∧ v = .slice a k cap ∧ i = .int .i64 (k : Int) ∧ wr.ownsRow w.heap.size 5 1 (.slice a k cap) k ((xorB (s.data.toList.take k) c).map B8) ∧ Below w.heap.size w wr) (fun _ i _ => s.size - (intOf i).toNat)
  case atStart => exact ⟨0, none, 0, by omega, rfl, rfl, World.ownsRow_nil _ _ _ _, Below.refl _ _⟩
  case round =>
    obtain ⟨k, a, cap, hk, rfl, rfl, hown, hbr⟩ := hrel
    by_cases hlt : k < s.size
    · have t1 : decide ((k : Int) < (s.size : Int)) = true := by simp; omega
      have hx := xor8 s[k] c
      have hnx : (xorB (s.data.toList.take (k + 1)) c).map B8 = (xorB (s.data.toList.take k) c).map B8 ++ [B8 (s[k] ^^^ c)] := by
        rw [List.take_succ_eq_append_getElem (by rw [len_list]; exact hlt)]
        simp only [xorB, List.map_append, List.map_cons, List.map_nil]
        rfl
      generalize hy : s[k] ^^^ c = y at hx hnx
      have HNX := Lib.hid hnx
      have HX := Lib.hid hx
      clear hnx hy hx
      go_wp2_with (at_builtin; rw [HX.out]; refine wpList_append_own _ rfl (.tmp 13) (.tmp 19) 27 rfl w.heap.size 5 i0 _ 1 1 Tryd.underlying27 hi0 hz0 hz1 hz2 rfl (by omega) (.slice a k cap) k _ rfl (hown.alloc _) ⟨wr.heap.size, 0, none⟩ 1 1 [.int .u8 (y.toNat : Int)] rfl rfl (fun j u hu => by cases j with | zero => (simp only [List.getElem?_cons_zero, Option.some.injEq] at hu; subst hu; exact (Has.fresh wr 5 #[B8 y]).cell 0) | succ j => simp at hu) (one_byte _) (by unfold maxLen; omega) (by omega) (by simp; have := hbr.size; omega) ?_; intro v2 w2 hown2 hg2 _; obtain ⟨a2, cap2, hv2⟩ := ownB_form hown2; rw [hv2] at hown2 ⊢)
      go_roundw
      case rel =>
        refine ⟨k + 1, a2, cap2, by omega, rfl, by go_num, ?_, (hbr.alloc hbr.size _).grown hg2 (by simp; have := hbr.size; omega) (fun j hj => (hown.lt j hj).1)⟩
        rw [HNX.out]
        exact hown2
      case measure => simp [intOf]; omega
    · have hk2 : k = s.size := by omega
      subst hk2
      rw [List.take_of_length_le (by rw [len_list]; exact Nat.le_refl _)] at hown
      obtain ⟨hl, g, rfl, hr⟩ := own_bytes hown h0
      have hcv := conv_range hr cap s.size hl
      have t1 : decide ((s.size : Int) < (s.size : Int)) = false := by simp
      have HOWN := Lib.hid hown
      clear hown hl
      go_wp2
      go_ret
      exact ⟨rfl, hbr⟩
end Go.Proofs.YtolipnjlbdbofaaDoor
