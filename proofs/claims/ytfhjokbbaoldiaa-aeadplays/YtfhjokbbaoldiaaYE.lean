/- aead.Open: walked. -/
import Derived.Test.YtfhjokbbaoldiaaYD
import Derived.Test.YtfhjokbbaoldiaaYS
namespace Go.Proofs.Ytfhjokbbaoldiaa
open Go.RowKit
set_option maxRecDepth 20000 in
set_option maxHeartbeats 400000 in
theorem open_not (k : List UInt8) (n b s : ByteArray) (hn : n.size ≠ 12) (w : World) :
    Calls Try.prog 13 #[.agg (bs k), .string n, .string b, .string s] w fun e w' => e = .returned (.tuple #[.string ⟨#[]⟩, .int .i64 1]) ∧ Below w.heap.size w w' := by
  have hb : Below w.heap.size w (w.alloc (.cells (bs k) 23)) := (Below.refl _ _).alloc (Nat.le_refl _) _
  have t1 : ((n.size : Int) != 12) = true := by simp; omega
  go_enter Try.func13, Try.ntmps13
  go_wp2
  go_ret2
  exact ⟨rfl, hb⟩
set_option maxRecDepth 20000 in
set_option maxHeartbeats 400000 in
theorem open_short (k : List UInt8) (n b s : ByteArray) (hn : n.size = 12) (hs : s.size < 16) (w : World) :
    Calls Try.prog 13 #[.agg (bs k), .string n, .string b, .string s] w fun e w' => e = .returned (.tuple #[.string ⟨#[]⟩, .int .i64 2]) ∧ Below w.heap.size w w' := by
  have hb : Below w.heap.size w (w.alloc (.cells (bs k) 23)) := (Below.refl _ _).alloc (Nat.le_refl _) _
  have t1 : ((n.size : Int) != 12) = false := by simp; omega
  have t2 : decide ((s.size : Int) < 16) = true := by simp; omega
  go_enter Try.func13, Try.ntmps13
  go_wp2
  go_ret2
  exact ⟨rfl, hb⟩
set_option maxRecDepth 20000 in
set_option maxHeartbeats 1000000 in
theorem open_good (k : List UInt8) (hk : k.length = 32) (n b s : ByteArray) (hn : n.size = 12) (hbs : b.size ≤ 400000) (m : Nat) (hm : s.size = m + 16) (hss : s.size ≤ 400000)
    (M T : ByteArray) (hM : s.extract 0 m = M) (hT : s.extract m (m + 16) = T) (he : T = ⟨(tagL k n.data.toList b.data.toList M.data.toList).toArray⟩) (w : World) :
    Calls Try.prog 13 #[.agg (bs k), .string n, .string b, .string s] w fun e w' => e = .returned (.tuple #[.string ⟨(maskT k n.data.toList M.data.toList).toArray⟩, .int .i64 0]) ∧ Below w.heap.size w w' := by
  have hMs : M.size ≤ 400000 := by rw [← hM, ByteArray.size_extract]; omega
  have hTs : T.size ≤ 9223372036854775807 := by rw [← hT, ByteArray.size_extract]; omega
  have h1 := tag_any k hk n b M hn hbs hMs
  obtain ⟨G, hG⟩ : ∃ G, tagL k n.data.toList b.data.toList M.data.toList = G := ⟨_, rfl⟩
  rw [hG] at h1 he
  have h2 := fun W => same_any T ⟨G.toArray⟩ W hTs
  rw [show decide (T = ⟨G.toArray⟩) = true from decide_eq_true he] at h2
  have h3 := mask3_any k hk 1 n M hn (by omega)
  have e0 : W32 1 = .int .u32 1 := rfl
  rw [e0] at h3
  clear e0
  have hmt : maskL (fst0 k 1 n.data.toList) M.data.toList = maskT k n.data.toList M.data.toList := by rw [maskT]
  rw [hmt] at h3
  generalize maskT k n.data.toList M.data.toList = R at h3 hmt ⊢
  have H3 := Lib.hid h3
  clear h3 hmt
  have HK := Lib.hid hk
  have HM := Lib.hid hM
  have HT := Lib.hid hT
  have H1 := Lib.hid h1
  have H2 := Lib.hid h2
  clear hk hM hT h1 h2 hMs hTs hG he
  have hA : Has (w.alloc (.cells (bs k) 23)) w.heap.size 23 (bs k) := Has.fresh w 23 _
  have hb : Below w.heap.size w (w.alloc (.cells (bs k) 23)) := (Below.refl _ _).alloc (Nat.le_refl _) _
  have t1 : ((n.size : Int) != 12) = false := by simp; omega
  have t2 : decide ((s.size : Int) < 16) = false := by simp; omega
  have t3 : IntKind.i64.wrap ((s.size : Int) - 16) = (m : Int) := by rw [IntWalk.i64_in _ (by omega)]; omega
  have t4 : (m : Int) ≤ (s.size : Int) := by omega
  have t5 : ¬ ((s.size : Int) < (m : Int)) := by omega
  go_enter Try.func13, Try.ntmps13
  go_upto_region 5 with fail
  generalize w.alloc (.cells (bs k) 23) = w0 at hA hb ⊢
  go_quiet (fail)
  rw [HM.out, HT.out]
  replace hA := hA.drewN nq
  replace hb := below_drewN hb nq
  generalize w0.drewN nq = w1 at hA hb ⊢
  clear t1 t2 t3 t4 t5 HM HT
  go_wp2_with (refine wpList_load_row rfl 23 (.tmp 4) rfl w.heap.size rfl 23 (bs k) (0, 0) _ hA Try.underlying23 rfl (infoKey k HK.out) ?_)
  refine (H1.out _).mono ?_
  rintro e w2 ⟨rfl, hb1⟩
  replace hb := hb.trans (hb1.mono hb.size)
  replace hA := hA.below hb1 hA.lt
  clear hb1
  go_wp2_with fail
  refine (H2.out _).mono ?_
  rintro e w3 ⟨rfl, hb1⟩
  replace hb := hb.trans (hb1.mono hb.size)
  replace hA := hA.below hb1 hA.lt
  clear hb1
  go_wp2_with (refine wpList_load_row rfl 23 (.tmp 4) rfl w.heap.size rfl 23 (bs k) (0, 0) _ hA Try.underlying23 rfl (infoKey k HK.out) ?_)
  refine (H3.out _).mono ?_
  rintro e w4 ⟨rfl, hb1⟩
  replace hb := hb.trans (hb1.mono hb.size)
  clear hb1
  go_wp2
  go_ret2
  exact ⟨rfl, hb⟩
set_option maxRecDepth 20000 in
set_option maxHeartbeats 1000000 in
theorem open_bad (k : List UInt8) (hk : k.length = 32) (n b s : ByteArray) (hn : n.size = 12) (hbs : b.size ≤ 400000) (m : Nat) (hm : s.size = m + 16) (hss : s.size ≤ 400000)
    (M T : ByteArray) (hM : s.extract 0 m = M) (hT : s.extract m (m + 16) = T) (he : T ≠ ⟨(tagL k n.data.toList b.data.toList M.data.toList).toArray⟩) (w : World) :
    Calls Try.prog 13 #[.agg (bs k), .string n, .string b, .string s] w fun e w' => e = .returned (.tuple #[.string ⟨#[]⟩, .int .i64 5]) ∧ Below w.heap.size w w' := by
  have hMs : M.size ≤ 400000 := by rw [← hM, ByteArray.size_extract]; omega
  have hTs : T.size ≤ 9223372036854775807 := by rw [← hT, ByteArray.size_extract]; omega
  have h1 := tag_any k hk n b M hn hbs hMs
  obtain ⟨G, hG⟩ : ∃ G, tagL k n.data.toList b.data.toList M.data.toList = G := ⟨_, rfl⟩
  rw [hG] at h1 he
  have h2 := fun W => same_any T ⟨G.toArray⟩ W hTs
  rw [show decide (T = ⟨G.toArray⟩) = false from decide_eq_false he] at h2
  have HK := Lib.hid hk
  have HM := Lib.hid hM
  have HT := Lib.hid hT
  have H1 := Lib.hid h1
  have H2 := Lib.hid h2
  clear hk hM hT h1 h2 hMs hTs hG he
  have hA : Has (w.alloc (.cells (bs k) 23)) w.heap.size 23 (bs k) := Has.fresh w 23 _
  have hb : Below w.heap.size w (w.alloc (.cells (bs k) 23)) := (Below.refl _ _).alloc (Nat.le_refl _) _
  have t1 : ((n.size : Int) != 12) = false := by simp; omega
  have t2 : decide ((s.size : Int) < 16) = false := by simp; omega
  have t3 : IntKind.i64.wrap ((s.size : Int) - 16) = (m : Int) := by rw [IntWalk.i64_in _ (by omega)]; omega
  have t4 : (m : Int) ≤ (s.size : Int) := by omega
  have t5 : ¬ ((s.size : Int) < (m : Int)) := by omega
  go_enter Try.func13, Try.ntmps13
  go_upto_region 5 with fail
  generalize w.alloc (.cells (bs k) 23) = w0 at hA hb ⊢
  go_quiet (fail)
  rw [HM.out, HT.out]
  replace hA := hA.drewN nq
  replace hb := below_drewN hb nq
  generalize w0.drewN nq = w1 at hA hb ⊢
  clear t1 t2 t3 t4 t5 HM HT
  go_wp2_with (refine wpList_load_row rfl 23 (.tmp 4) rfl w.heap.size rfl 23 (bs k) (0, 0) _ hA Try.underlying23 rfl (infoKey k HK.out) ?_)
  refine (H1.out _).mono ?_
  rintro e w2 ⟨rfl, hb1⟩
  replace hb := hb.trans (hb1.mono hb.size)
  replace hA := hA.below hb1 hA.lt
  clear hb1
  go_wp2_with fail
  refine (H2.out _).mono ?_
  rintro e w3 ⟨rfl, hb1⟩
  replace hb := hb.trans (hb1.mono hb.size)
  replace hA := hA.below hb1 hA.lt
  clear hb1
  go_wp2
  go_ret2
  exact ⟨rfl, hb⟩
end Go.Proofs.Ytfhjokbbaoldiaa
