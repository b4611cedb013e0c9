/- aead.Nonce, aead.covered, aead.firstKey: walked. -/
import Derived.Test.YtfhjokbbaoldiaaYB
import Derived.Test.YtfhjokbbaoldiaaTK
import Derived.Test.YtfhjokbbaoldiaaPI
namespace Go.Proofs.Ytfhjokbbaoldiaa
open Go.RowKit
theorem range_new (w : World) (t : TypeId) (l : List Value) : (w.alloc (.cells l.toArray t)).rangeAt w.heap.size 0 l := by
  intro j v hv
  rw [Nat.zero_add, (Has.fresh w t l.toArray).cell j, List.getElem?_toArray]
  exact hv
/-- joined, of parts just laid -/
theorem joined_new (ps : List ByteArray) (hp : ps.length ≤ 1000) (ht : (catL ps).length ≤ 4000000) (w : World) :
    Calls Try.prog 19 #[.slice (some ⟨w.heap.size, 0, none⟩) ps.length ps.length] (w.alloc (.cells (ps.map .string).toArray 9)) fun e w' => e = .returned (.string ⟨(catL ps).toArray⟩) ∧ Below w.heap.size w w' := by
  refine (joined_any ps hp ht w.heap.size ps.length _ (by show _ < (w.heap.push _).size; simp) (range_new w 9 _)).mono ?_
  rintro e w' ⟨rfl, hb⟩
  exact ⟨rfl, ((Below.refl w.heap.size w).alloc (Nat.le_refl _) _).trans (hb.mono (by show _ ≤ (w.heap.push _).size; simp))⟩
def nonceL (n : Nat) : List UInt8 := [0, 0, 0, 0] ++ lowB n 8
theorem nonceL_length (n : Nat) : (nonceL n).length = 12 := by unfold nonceL; rw [List.length_append, lowB_length]; rfl
set_option maxRecDepth 20000 in
set_option maxHeartbeats 1000000 in
theorem nonce_any (n : Nat) (w : World) :
    Calls Try.prog 12 #[.int .u64 (n : Int)] w fun e w' => e = .returned (.string ⟨(nonceL n).toArray⟩) ∧ Below w.heap.size w w' := by
  have h1 := number5_any n
  have hc : catL [⟨#[0, 0, 0, 0]⟩, ⟨(lowB n 8).toArray⟩] = nonceL n := by unfold catL nonceL; simp
  have h2 := joined_new [⟨#[0, 0, 0, 0]⟩, ⟨(lowB n 8).toArray⟩] (by simp) (by rw [hc, nonceL_length]; omega)
  rw [hc] at h2
  have H1 := Lib.hid h1
  have H2 := Lib.hid h2
  clear h1 h2 hc
  go_enter Try.func12, Try.ntmps12
  go_wp2_with fail
  refine (H1.out _).mono ?_
  rintro e w1 ⟨rfl, hb1⟩
  go_wp2_with fail
  refine (H2.out w1).mono ?_
  rintro e w2 ⟨rfl, hb2⟩
  go_wp2
  go_ret
  exact ⟨rfl, hb1.trans (hb2.mono hb1.size)⟩
/-- copy into an array of 32 bytes, of a text that has as many at least -/
theorem copy_long {w : World} {g : Nat} {cur : Array Value} (h : Has w g 23 cur) (hcs : cur.size = 32) (s : ByteArray) (hs : 32 ≤ s.size) :
    (Builtin.copy_ #[32, 9] 3 #[.slice (some ⟨g, 0, none⟩) 32 32, .string s]).run Try.prog w = .ok (.int .i64 32) (w.setRow g (bs (s.data.toList.take 32))) := by
  have hl32 : (s.data.toList.take 32).length = 32 := by rw [List.length_take, len_list]; omega
  have hlen : (Lib.byteCells (s.data.toList.take 32)).length = 32 := by unfold Lib.byteCells; rw [List.length_map, hl32]
  have hst := run_storeCells_at Try.prog g 0 23 (Lib.byteCells (s.data.toList.take 32)) 0 cur w h (by rw [hlen, hcs]; omega) (Lib.byteCells_one _)
  have hmin : Nat.min s.size 32 = 32 := Nat.min_eq_right hs
  have htk : List.take 32 (List.map (fun b : UInt8 => Value.int IntKind.u8 (b.toNat : Int)) s.data.toList) = Lib.byteCells (s.data.toList.take 32) := by
    rw [← List.map_take]; rfl
  rw [hlen] at hst
  simp only [Nat.add_zero] at hst
  have hrow : (cur.toList.take 0 ++ Lib.byteCells (s.data.toList.take 32) ++ cur.toList.drop (0 + 32)).toArray = bs (s.data.toList.take 32) := by
    rw [List.take_zero, List.nil_append, List.drop_of_length_le (by rw [Array.length_toList, hcs]; omega), List.append_nil]
    rfl
  have hs1 : (Try.prog.info? 5).map (·.size) = some 1 := by kernel_rfl
  cases hq : Try.prog.info? 5 with
  | none => simp [hq] at hs1
  | some i =>
    simp [Builtin.copy_, run_underlying Try.underlying32, Builtin.lenOf, Builtin.firstCells, sizeOf, typeInfo, hq, hmin]
    rw [htk, hst]
    simp only [Result.andThen]
    rw [hrow]
    rfl
set_option maxRecDepth 20000 in
set_option maxHeartbeats 1000000 in
theorem firstKey_any (s : ByteArray) (hs : 32 ≤ s.size) (w : World) :
    Calls Try.prog 24 #[.string s] w fun e w' => e = .returned (.agg (bs (s.data.toList.take 32))) ∧ Below w.heap.size w w' := by
  have hA : Has ((w.alloc (.cells zk32 23)).alloc (.cells zk32 23)) w.heap.size 23 zk32 := (Has.fresh w 23 _).alloc _
  have hB : Has ((w.alloc (.cells zk32 23)).alloc (.cells zk32 23)) (w.heap.size + 1) 23 zk32 := heap_alloc2_new w _ _
  have hb : Below w.heap.size w ((w.alloc (.cells zk32 23)).alloc (.cells zk32 23)) := ((Below.refl _ _).alloc (Nat.le_refl _) _).alloc (by simp) _
  have hl : (s.data.toList.take 32).length = 32 := by rw [List.length_take, len_list]; omega
  have hcpy := fun W (h : Has W (w.heap.size + 1) 23 zk32) => copy_long h (by unfold zk32; rw [bs_size]; rfl) s hs
  generalize s.data.toList.take 32 = L at hl hcpy ⊢
  go_enter Try.func24, Try.ntmps24
  go_upto_region 2 with fail
  change Code.wp _ _ _ _ ((w.alloc (.cells zk32 23)).alloc (.cells zk32 23))
  generalize (w.alloc (.cells zk32 23)).alloc (.cells zk32 23) = wr at hA hB hb ⊢
  have hcp := hcpy _ hB
  clear hcpy
  have HL := Lib.hid hl
  clear hl hs
  have i2 := hB.setRow (bs L)
  have i1 := hA.setRow_other (g' := w.heap.size + 1) (by omega) (bs L)
  have hbb := below_setRow hb (g := w.heap.size + 1) (by omega) (bs L)
  clear hA hB hb
  go_wp2_with (first
    | (refine wpList_load_row rfl 23 (.tmp 3) rfl (w.heap.size + 1) rfl 23 (bs L) (0, 0) _ i2 Try.underlying23 rfl (keyInfo L HL.out) ?_)
    | (refine wpList_store_row rfl 23 (.tmp 2) (.tmp 7) rfl w.heap.size (bs L) rfl rfl 23 zk32 i1 (keyInfo L HL.out) (zk32_size L HL.out) (bs_one L) ?_))
  refine bodyPost_ret (v := .agg (bs L)) (results_cell_row rfl _ _ w.heap.size 23 (bs L) (0, 0) _ rfl (i1.setRow _) Try.underlying23 rfl (keyInfo L HL.out)) rfl ⟨rfl, below_setRow hbb (Nat.le_refl _) _⟩
/-- what a tag is the sum of -/
def covL (b m : List UInt8) : List UInt8 := b ++ padL b.length ++ m ++ padL m.length ++ lowB b.length 8 ++ lowB m.length 8
theorem padL_length (n : Nat) : (padL n).length < 16 := by unfold padL; rw [List.length_replicate]; omega
theorem covL_length (b m : List UInt8) : (covL b m).length ≤ b.length + m.length + 46 := by
  unfold covL
  simp only [List.length_append, lowB_length]
  have := padL_length b.length
  have := padL_length m.length
  omega
set_option maxRecDepth 20000 in
set_option maxHeartbeats 1000000 in
theorem covered_any (b m : ByteArray) (hb : b.size ≤ 400000) (hm : m.size ≤ 400000) (w : World) :
    Calls Try.prog 25 #[.string b, .string m] w fun e w' => e = .returned (.string ⟨(covL b.data.toList m.data.toList).toArray⟩) ∧ Below w.heap.size w w' := by
  have hF := filling_any
  have h1 := number5_any
  have hc : catL [b, ⟨(padL b.size).toArray⟩, m, ⟨(padL m.size).toArray⟩, ⟨(lowB b.size 8).toArray⟩, ⟨(lowB m.size 8).toArray⟩] = covL b.data.toList m.data.toList := by unfold catL covL; simp
  have hcl := covL_length b.data.toList m.data.toList
  rw [len_list, len_list] at hcl
  have h2 := joined_new [b, ⟨(padL b.size).toArray⟩, m, ⟨(padL m.size).toArray⟩, ⟨(lowB b.size 8).toArray⟩, ⟨(lowB m.size 8).toArray⟩] (by simp) (by rw [hc]; omega)
  rw [hc] at h2
  have u1 : IntKind.u64.wrap (b.size : Int) = (b.size : Int) := wrapN _ (by omega)
  have u2 : IntKind.u64.wrap (m.size : Int) = (m.size : Int) := wrapN _ (by omega)
  have HF := Lib.hid hF
  have H1 := Lib.hid h1
  have H2 := Lib.hid h2
  clear hF h1 h2 hc hcl
  go_enter Try.func25, Try.ntmps25
  go_wp2_with fail
  refine (HF.out b _).mono ?_
  rintro e w1 ⟨rfl, hb1⟩
  go_wp2_with fail
  refine (HF.out m _).mono ?_
  rintro e w2 ⟨rfl, hb2⟩
  replace hb1 := hb1.trans (hb2.mono hb1.size)
  clear hb2
  go_wp2_with fail
  refine (H1.out b.size _).mono ?_
  rintro e w3 ⟨rfl, hb2⟩
  replace hb1 := hb1.trans (hb2.mono hb1.size)
  clear hb2
  go_wp2_with fail
  refine (H1.out m.size _).mono ?_
  rintro e w4 ⟨rfl, hb2⟩
  replace hb1 := hb1.trans (hb2.mono hb1.size)
  clear hb2
  go_wp2_with fail
  refine (H2.out w4).mono ?_
  rintro e w5 ⟨rfl, hb2⟩
  go_wp2
  go_ret
  exact ⟨rfl, hb1.trans (hb2.mono hb1.size)⟩
end Go.Proofs.Ytfhjokbbaoldiaa
