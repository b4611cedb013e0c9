/- aead.joined: walked. -/
import Derived.Test.YtfhjokbbaoldiaaYA
import Derived.Lib.AppendStr
namespace Go.Proofs.Ytfhjokbbaoldiaa
open Go.RowKit
/-- texts, one behind the other -/
def catL (ps : List ByteArray) : List UInt8 := ps.flatMap (fun p => p.data.toList)
theorem catL_take (ps : List ByteArray) (k : Nat) (h : k < ps.length) : catL (ps.take (k + 1)) = catL (ps.take k) ++ (ps.getD k ⟨#[]⟩).data.toList := by
  rw [List.take_succ_eq_append_getElem h, List.getD_eq_getElem?_getD, List.getElem?_eq_getElem h]
  simp only [catL, List.flatMap_append, List.flatMap_cons, List.flatMap_nil, List.append_nil, Option.getD_some]
theorem catL_take_le (ps : List ByteArray) (k : Nat) (h : k < ps.length) : (catL (ps.take k)).length + (ps.getD k ⟨#[]⟩).size ≤ (catL ps).length := by
  have e : catL ps = catL (ps.take (k + 1)) ++ catL (ps.drop (k + 1)) := by
    rw [catL, catL, catL, ← List.flatMap_append, List.take_append_drop]
  rw [e, catL_take ps k h, List.length_append, List.length_append, len_list]
  omega
set_option maxRecDepth 20000 in
set_option maxHeartbeats 1000000 in
theorem joined_any (ps : List ByteArray) (hp : ps.length ≤ 1000) (ht : (catL ps).length ≤ 4000000) (g cap : Nat) (w : World) (hg : g < w.heap.size) (hr : w.rangeAt g 0 (ps.map .string)) :
    Calls Try.prog 19 #[.slice (some ⟨g, 0, none⟩) ps.length cap] w fun e w' => e = .returned (.string ⟨(catL ps).toArray⟩) ∧ Below w.heap.size w w' := by
  obtain ⟨i0, hi0, hz0, hz1, hz2⟩ := info_parts u8_info
  have HR := Lib.hid hr
  clear hr
  obtain ⟨m, hm⟩ : ∃ m, ps.length = m := ⟨_, rfl⟩
  rw [hm] at hp ⊢
  have HM := Lib.hid hm
  clear hm
  go_enter Try.func19, Try.ntmps19
  go_wp2
  go_loopw [3, 8] (fun v i wr => ∃ (k : Nat) (a : Option Addr) (n cap : Nat), k ≤ m ∧ v = .slice a n cap ∧ i = .int .i64 (k : Int) ∧ n = (catL (ps.take k)).length ∧ wr.ownsRow w.heap.size 5 1 (.slice a n cap) n ((catL (ps.take k)).map B8) ∧ Below w.heap.size w wr) (fun _ i _ => m - (intOf i).toNat)
  case atStart => exact ⟨0, none, 0, 0, by omega, rfl, rfl, rfl, World.ownsRow_nil _ _ _ _, Below.refl _ _⟩
  case round =>
    obtain ⟨k, a, n, cap2, hk, rfl, rfl, hn, hown, hbr⟩ := hrel
    by_cases hlt : k < m
    · have t1 : decide ((k : Int) < (m : Int)) = true := by simp; omega
      have hkp : k < ps.length := by rw [HM.out]; exact hlt
      have hnx := catL_take ps k hkp
      have hle := catL_take_le ps k hkp
      have hc : wr.cell? ⟨g, k, none⟩ = some (.string (ps.getD k ⟨#[]⟩)) := by
        have h1 := HR.out k (.string (ps.getD k ⟨#[]⟩)) (by rw [List.getElem?_map, List.getD_eq_getElem?_getD, List.getElem?_eq_getElem hkp]; rfl)
        rw [Nat.zero_add] at h1
        rw [← h1]
        exact hbr.cell (p := ⟨g, k, none⟩) hg
      generalize ps.getD k ⟨#[]⟩ = p at hnx hle hc
      rw [← hn] at hle
      have hsum : n + p.size = (catL (ps.take (k + 1))).length := by rw [hnx, List.length_append, len_list, hn]
      have hxs : (catL (ps.take (k + 1))).map B8 = (catL (ps.take k)).map B8 ++ Lib.strCells p := by
        rw [hnx, List.map_append]; rfl
      generalize (catL (ps.take k)).map B8 = xs at hown hxs
      have HN := Lib.hid (And.intro hsum hxs)
      clear hsum hxs hnx hn
      go_wp2_with (at_builtin; refine Lib.wpList_append_own_string _ rfl (.tmp 12) (.tmp 13) 32 9 rfl w.heap.size 5 i0 Try.underlying32 Try.underlying9 hi0 hz0 hz1 hz2 (.slice a n cap2) n xs rfl hown p rfl (by unfold maxLen; omega) (by omega) hbr.size ?_; intro v2 w2 hown2 hg2 _; obtain ⟨a2, cap3, hv2⟩ := ownB_form hown2; rw [hv2] at hown2 ⊢)
      go_roundw
      case rel =>
        obtain ⟨e1, e2⟩ := HN.out
        exact ⟨k + 1, a2, n + p.size, cap3, by omega, rfl, by go_num, e1, by rw [e2]; exact hown2, hbr.grown hg2 hbr.size (fun j hj => (hown.lt j hj).1)⟩
      case measure => simp [intOf]; omega
    · have hk2 : k = m := by omega
      subst hk2
      rw [← HM.out, List.take_length] at hown
      have hcv := conv_own hown
      have t1 : decide ((k : Int) < (k : Int)) = false := by simp
      have HOWN := Lib.hid hown
      clear hown hn
      go_wp2
      go_ret
      exact ⟨rfl, hbr⟩
end Go.Proofs.Ytfhjokbbaoldiaa
