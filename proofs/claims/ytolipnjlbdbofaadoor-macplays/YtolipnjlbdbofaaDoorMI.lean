/- mac.Keys: walked. Condition: the table of constants lies in memory as the program's text lays it. -/
import Derived.Test.YtolipnjlbdbofaaDoorMH
namespace Go.Proofs.YtolipnjlbdbofaaDoor
open Go.RowKit
theorem made_zeros (m n : Nat) (hm : 0 < m) : madeCells (bs (List.replicate m 0)) n = bs (List.replicate n 0) := by
  have hz : bs (List.replicate m 0) = Array.replicate m (B8 0) := by
    unfold bs; rw [List.map_replicate, List.toArray_replicate]
  have hz2 : bs (List.replicate n 0) = Array.replicate n (B8 0) := by
    unfold bs; rw [List.map_replicate, List.toArray_replicate]
  rw [hz, hz2]
  unfold madeCells
  apply Array.ext
  · simp
  · intro i h1 h2
    simp only [Array.getElem_map, Array.getElem_range, Array.getElem_replicate, Array.size_replicate]
    rw [getElem!_pos _ _ (by simpa using Nat.mod_lt _ hm), Array.getElem_replicate]
/-- k keys, one behind the other -/
def flatK (root info : List UInt8) : Nat → List UInt8
  | 0 => []
  | k + 1 => flatK root info k ++ keyN root info (k + 1)
theorem flatK_length (root info : List UInt8) (k : Nat) : (flatK root info k).length = 32 * k := by
  induction k with
  | zero => rfl
  | succ k ih => show (flatK root info k ++ keyN root info (k + 1)).length = _; rw [List.length_append, ih, keyN_length]; omega
/-- k keys, zero bytes behind up to n -/
def keysTo (root info : List UInt8) (n k : Nat) : List UInt8 := flatK root info k ++ List.replicate (32 * (n - k)) 0
theorem keysTo_length (root info : List UInt8) (n k : Nat) (h : k ≤ n) : (keysTo root info n k).length = 32 * n := by
  unfold keysTo; rw [List.length_append, flatK_length, List.length_replicate]; omega
theorem keysTo_done (root info : List UInt8) (n : Nat) : keysTo root info n n = flatK root info n := by simp [keysTo]
theorem keysTo_next (root info : List UInt8) (n k : Nat) (h : k < n) :
    (keysTo root info n k).take (32 * k) ++ keyN root info (k + 1) ++ (keysTo root info n k).drop (32 * k + (keyN root info (k + 1)).length) = keysTo root info n (k + 1) := by
  have hf := flatK_length root info k
  unfold keysTo
  rw [List.take_left' hf, keyN_length, List.drop_append, hf, List.drop_of_length_le (by omega), List.nil_append, List.drop_replicate]
  show _ = (flatK root info k ++ keyN root info (k + 1)) ++ _
  congr 2
  omega
/-- the j-th key of k of them -/
theorem flatK_get (root info : List UInt8) (k j : Nat) (h : j < k) : ((flatK root info k).drop (32 * j)).take (keyN root info (j + 1)).length = keyN root info (j + 1) := by
  induction k with
  | zero => omega
  | succ k ih =>
    show ((flatK root info k ++ keyN root info (k + 1)).drop (32 * j)).take _ = _
    have hf := flatK_length root info k
    by_cases hjk : j < k
    · rw [List.drop_append_of_le_length (by omega), List.take_append_of_le_length (by rw [List.length_drop, hf, keyN_length]; omega)]
      exact ih hjk
    · have hj : j = k := by omega
      subst hj
      rw [← hf, List.drop_left, List.take_length]
theorem key_info : (Tryd.prog.info? 25).map (fun i => (i.zero, i.size, i.bytes)) = some (some (.agg z32), 32, 32) := by kernel_rfl
theorem make_keys (m : Nat) (hm : m ≤ 255) (w : World) :
    (Instr.makeSlice 29 (.int .i64 (m : Int)) (.int .i64 (m : Int))).run Tryd.prog w = .ok (.slice (some ⟨w.heap.size, 0, none⟩) m m) (w.alloc (.cells (bs (List.replicate (32 * m) 0)) 25)) := by
  obtain ⟨i, hi, hz0, hz1, hz2⟩ := info_parts key_info
  have h := run_make (P := Tryd.prog) w 29 25 i (.agg z32) Tryd.underlying29 hi hz0 .i64 .i64 m m (by omega) (by omega) (by rw [hz2]; omega) (by omega)
  rw [h, hz1, Int.toNat_natCast, Nat.mul_comm m 32]
  have e : madeCells (Value.agg z32).cells (32 * m) = bs (List.replicate (32 * m) 0) := made_zeros 32 (32 * m) (by omega)
  rw [e]
set_option maxHeartbeats 400000 in
theorem keys_none (root : List UInt8) (info : ByteArray) (n : Int) (hn : n < 0 ∨ 255 < n) (w : World) :
    Calls Tryd.prog 11 #[.agg (bs root), .string info, .int .i64 n] w fun e w' => e = .returned (.slice none 0 0) ∧ Below w.heap.size w w' := by
  have hb : Below w.heap.size w (w.alloc (.cells (bs root) 25)) := (Below.refl _ _).alloc (Nat.le_refl _) _
  by_cases h : n < 0
  · go_enter Tryd.func11, Tryd.ntmps11
    go_wp2
    go_ret
    exact ⟨rfl, hb⟩
  · have h2 : 255 < n := by omega
    go_enter Tryd.func11, Tryd.ntmps11
    go_wp2
    go_ret
    exact ⟨rfl, hb⟩
/-- what memory holds in the midst of the making of keys -/
def YEnv (w : World) (gr gi ga gk : Nat) (root : List UInt8) (info : ByteArray) (ahead ks : List UInt8) (W : World) : Prop :=
  Has W gr 25 (bs root) ∧ Has W gi 9 #[.string info] ∧ Has W ga 9 #[.string ⟨ahead.toArray⟩] ∧ Has W gk 25 (bs ks) ∧ HasK W ∧ Below w.heap.size w W
theorem keysOf_has (root : List UInt8) (info : ByteArray) (w : World) (hT : HasK w) :
    Calls Tryd.prog 23 #[.agg (bs root), .string info] w fun e w' => ∃ gr gi ga, e = .returned (.func (.func 32) #[] #[.pointer (some ⟨gr, 0, none⟩), .pointer (some ⟨ga, 0, none⟩), .pointer (some ⟨gi, 0, none⟩)]) ∧
      w.heap.size ≤ ga ∧ gr ≠ ga ∧ gi ≠ ga ∧ Has w' gr 25 (bs root) ∧ Has w' gi 9 #[.string info] ∧ Has w' ga 9 #[.string ⟨#[]⟩] ∧ HasK w' ∧ Below w.heap.size w w' := by
  refine (keysOf_any root info w).mono ?_
  rintro e w' ⟨rfl, rfl⟩
  have hb : Below w.heap.size w (((w.alloc (.cells (bs root) 25)).alloc (.cells #[.string info] 9)).alloc (.cells #[.string ⟨#[]⟩] 9)) := (((Below.refl _ _).alloc (Nat.le_refl _) _).alloc (by simp) _).alloc (by simp; omega) _
  refine ⟨_, _, _, rfl, by omega, by omega, by omega, ((Has.fresh w 25 _).alloc _).alloc _, Has.alloc (heap_alloc2_new w _ _) _, ?_, hT.below hT.lt hb, hb⟩
  have h := heap_alloc2_new (w.alloc (.cells (bs root) 25)) (.cells #[.string info] 9) (.cells #[.string ⟨#[]⟩] 9)
  have e : (w.alloc (.cells (bs root) 25)).heap.size = w.heap.size + 1 := by show (w.heap.push _).size = _; simp
  rw [e] at h
  exact h
theorem ofNat_toNat (k : Nat) (h : k < 255) : ((UInt8.ofNat (k + 1)).toNat : Int) = (k : Int) + 1 := by
  rw [UInt8.toNat_ofNat', Nat.mod_eq_of_lt (by omega)]; omega
set_option maxHeartbeats 2000000 in
theorem keys_any (root : List UInt8) (hrl : root.length = 32) (info : ByteArray) (hs : info.size ≤ 50000) (n : Nat) (hn : n ≤ 255) (w : World) (hT : HasK w) :
    Calls Tryd.prog 11 #[.agg (bs root), .string info, .int .i64 (n : Int)] w fun e w' => ∃ g, e = .returned (.slice (some ⟨g, 0, none⟩) n n) ∧ w.heap.size ≤ g ∧ Has w' g 25 (bs (flatK root info.data.toList n)) ∧ Below w.heap.size w w' := by
  have b1 : decide ((n : Int) < 0) = false := by simp
  have b2 : decide (255 < (n : Int)) = false := by simp; omega
  have HRL := Lib.hid hrl
  have hA : Has (w.alloc (.cells (bs root) 25)) w.heap.size 25 (bs root) := Has.fresh w 25 _
  have hb : Below w.heap.size w (w.alloc (.cells (bs root) 25)) := (Below.refl _ _).alloc (Nat.le_refl _) _
  have HKO := Lib.hid (keysOf_has root info)
  go_enter Tryd.func11, Tryd.ntmps11
  go_wp2_with (refine wpList_load_row rfl 25 (.tmp 3) rfl w.heap.size rfl 25 (bs root) (0, 0) _ hA Tryd.underlying25 rfl (info32 root HRL.out) ?_)
  clear hA
  generalize w.alloc (.cells (bs root) 25) = wa at hb ⊢
  refine (HKO.out _ (hT.below hT.lt hb)).mono ?_
  rintro e w1 ⟨gr, gi, ga, rfl, l1, l2, l3, h1, h2, h3, hK1, hb1⟩
  have l0 : w.heap.size ≤ ga := Nat.le_trans hb.size l1
  replace hb := hb.trans (hb1.mono hb.size)
  clear hb1 HKO l1 wa
  have hmk := make_keys n hn w1
  have F : YEnv w gr gi ga w1.heap.size root info (keyN root info.data.toList 0) (keysTo root info.data.toList n 0) (w1.alloc (.cells (bs (List.replicate (32 * n) 0)) 25)) := by
    have e : keysTo root info.data.toList n 0 = List.replicate (32 * n) 0 := by simp [keysTo, flatK]
    rw [e]
    exact ⟨h1.alloc _, h2.alloc _, h3.alloc _, Has.fresh w1 25 _, hK1.below hK1.lt ((Below.refl _ _).alloc (Nat.le_refl _) _), hb.alloc hb.size _⟩
  have n1 : gr < w1.heap.size := h1.lt
  have n2 : gi < w1.heap.size := h2.lt
  have n3 : ga < w1.heap.size := h3.lt
  have n4 : w.heap.size ≤ w1.heap.size := hb.size
  clear h1 h2 h3 hK1 hb
  go_wp2
  clear hmk
  generalize w1.alloc (.cells (bs (List.replicate (32 * n) 0)) 25) = w2 at F ⊢
  generalize w1.heap.size = gk at F n1 n2 n3 n4 ⊢
  clear w1
  go_loopw [22] (fun i wr => ∃ k : Nat, k ≤ n ∧ i = .int .i64 (k : Int) ∧ YEnv w gr gi ga gk root info (keyN root info.data.toList k) (keysTo root info.data.toList n k) wr) (fun i _ => n - (intOf i).toNat)
  case atStart => exact ⟨0, by omega, rfl, F⟩
  case round =>
    clear F w2
    obtain ⟨k, hk, rfl, F⟩ := hrel
    by_cases hkn : k < n
    · have hc := nextKey_any root info ⟨(keyN root info.data.toList k).toArray⟩ (UInt8.ofNat (k + 1)) gr gi ga wr F.2.2.2.2.1 F.1 HRL.out F.2.1 F.2.2.1 hs (by rw [str_size]; have := keyN_le root info.data.toList k; omega)
      rw [str_list] at hc
      have e1 : hmacL root (keyN root info.data.toList k ++ info.data.toList ++ [UInt8.ofNat (k + 1)]) = keyN root info.data.toList (k + 1) := rfl
      rw [e1] at hc
      have hnx := keysTo_next root info.data.toList n k hkn
      have hkl := keysTo_length root info.data.toList n k hk
      have hl := keyN_length root info.data.toList k
      have hct := ofNat_toNat k (by omega)
      generalize hKe : keyN root info.data.toList (k + 1) = K at hc hnx hl e1
      have HKE := Lib.hid hKe
      clear hKe
      generalize keyN root info.data.toList k = A at F
      generalize keysTo root info.data.toList n k = L at F hnx hkl
      rw [hct] at hc
      have HC := Lib.hid hc
      have HNX := Lib.hid hnx
      have HKL := Lib.hid hkl
      have HL := Lib.hid hl
      have t1 : decide ((k : Int) < (n : Int)) = true := by simp; omega
      clear hc hnx hkl hl hct e1
      go_wp2_with fail
      refine HC.out.mono ?_
      rintro e w4 ⟨rfl, hbut, h3⟩
      have G : YEnv w gr gi ga gk root info K L w4 := ⟨hbut.has F.1 l2, hbut.has F.2.1 l3, h3, hbut.has F.2.2.2.1 (by omega), hbut.hasK F.2.2.2.2.1 (by have := hT.lt; omega), hbut.below _ _ l0 (F.2.2.2.2.2.size) F.2.2.2.2.2⟩
      clear F HC hbut h3
      have th : w4.there gk (k * 32) (bs K).size := G.2.2.2.1.thereMid (k * 32) (bs K).size (by have h1 := HKL.out; have h2 := HL.out; rw [bs_size, bs_size]; omega)
      go_wp2_with (refine wpList_store_mid rfl 25 (.tmp 32) (.tmp 31) rfl gk (k * 32) (bs K) rfl rfl th (info32 K HL.out) (bs_one K) ?_)
      have hset := setCells_midB Tryd.prog G.2.2.2.1 (k * 32) K (by have h1 := HKL.out; have h2 := HL.out; omega)
      change w4.setCells gk (k * 32) (bs K).toList = _ at hset
      rw [hset]
      have hnx := HNX.out
      rw [Nat.mul_comm 32 k] at hnx
      rw [hnx]
      go_roundw
      case rel =>
        refine ⟨k + 1, by omega, by go_num, ?_⟩
        rw [HKE.out]
        exact ⟨G.1.setRow_other (by omega) _, G.2.1.setRow_other (by omega) _, G.2.2.1.setRow_other (by omega) _, G.2.2.2.1.setRow _, fun i hi => ((below_setRow (Below.refl gk w4) (Nat.le_refl gk) _).cell (p := ⟨0, i, none⟩) (by show 0 < gk; omega)).trans (G.2.2.2.2.1 i hi), below_setRow G.2.2.2.2.2 n4 _⟩
      case measure => simp [intOf]; omega
    · have hkn2 : k = n := by omega
      subst hkn2
      rw [keysTo_done] at F
      have t1 : decide ((k : Int) < (k : Int)) = false := by simp
      go_wp2
      go_ret
      exact ⟨gk, rfl, n4, F.2.2.2.1, F.2.2.2.2.2⟩
end Go.Proofs.YtolipnjlbdbofaaDoor
