/- aead.Tag, aead.Seal: walked. -/
import Derived.Test.YtfhjokbbaoldiaaYC
import Derived.Test.YtfhjokbbaoldiaaPJ
namespace Go.Proofs.Ytfhjokbbaoldiaa
open Go.RowKit
/-- the key of a one-time sum -/
def okeyL (k n : List UInt8) : List UInt8 := (blkB (fst0 k 0 n)).take 32
theorem okeyL_length (k n : List UInt8) : (okeyL k n).length = 32 := by
  unfold okeyL; rw [List.length_take, blkB_length _ (fst0_length _ _ _)]; rfl
/-- a tag -/
def tagL (k n b m : List UInt8) : List UInt8 := polyL (okeyL k n) (covL b m)
theorem polyL_length (k l : List UInt8) : (polyL k l).length = 16 := lowB_length _ _
theorem tagL_length (k n b m : List UInt8) : (tagL k n b m).length = 16 := lowB_length _ _
set_option maxRecDepth 20000 in
set_option maxHeartbeats 1000000 in
theorem tag_any (k : List UInt8) (hk : k.length = 32) (n b m : ByteArray) (hn : n.size = 12) (hbs : b.size ≤ 400000) (hms : m.size ≤ 400000) (w : World) :
    Calls Try.prog 15 #[.agg (bs k), .string n, .string b, .string m] w fun e w' => e = .returned (.tuple #[.string ⟨(tagL k n.data.toList b.data.toList m.data.toList).toArray⟩, .int .i64 0]) ∧ Below w.heap.size w w' := by
  have h1 := block3_any k hk 0 n hn
  have e0 : W32 0 = .int .u32 0 := rfl
  rw [e0] at h1
  clear e0
  obtain ⟨B, hB⟩ : ∃ B, blkB (fst0 k 0 n.data.toList) = B := ⟨_, rfl⟩
  have hBl : B.length = 64 := by rw [← hB]; exact blkB_length _ (fst0_length _ _ _)
  rw [hB] at h1
  have h2 := firstKey_any ⟨B.toArray⟩ (by rw [str_size]; omega)
  rw [str_list] at h2
  obtain ⟨K, hK⟩ : ∃ K, B.take 32 = K := ⟨_, rfl⟩
  have hKl : K.length = 32 := by rw [← hK, List.length_take]; omega
  rw [hK] at h2
  have h3 := covered_any b m hbs hms
  obtain ⟨C, hC⟩ : ∃ C, covL b.data.toList m.data.toList = C := ⟨_, rfl⟩
  have hCl : C.length ≤ 900000 := by
    have := covL_length b.data.toList m.data.toList
    rw [len_list, len_list, hC] at this
    omega
  rw [hC] at h3
  have h4 := polySum_any K hKl ⟨C.toArray⟩ (by rw [str_size]; omega)
  rw [str_list] at h4
  have hR : tagL k n.data.toList b.data.toList m.data.toList = polyL K C := by rw [tagL, okeyL, hB, hK, hC]
  have hl : (polyL K C).length = 16 := polyL_length _ _
  rw [hR]
  clear hR hB hK hC hBl hCl hKl
  generalize polyL K C = R at h4 hl ⊢
  have H1 := Lib.hid h1
  have H2 := Lib.hid h2
  have H3 := Lib.hid h3
  have H4 := Lib.hid h4
  have HL := Lib.hid hl
  have HK := Lib.hid hk
  clear h1 h2 h3 h4 hl hk
  have hA : Has (w.alloc (.cells (bs k) 23)) w.heap.size 23 (bs k) := Has.fresh w 23 _
  have hb : Below w.heap.size w (w.alloc (.cells (bs k) 23)) := (Below.refl _ _).alloc (Nat.le_refl _) _
  go_enter Try.func15, Try.ntmps15
  go_upto_region 1 with fail
  generalize w.alloc (.cells (bs k) 23) = w0 at hA hb ⊢
  go_wp2_with (refine wpList_load_row rfl 23 (.tmp 4) rfl w.heap.size rfl 23 (bs k) (0, 0) _ hA Try.underlying23 rfl (infoKey k HK.out) ?_)
  refine (H1.out _).mono ?_
  rintro e w1 ⟨rfl, hb1⟩
  replace hb := hb.trans (hb1.mono hb.size)
  clear hb1 hA
  go_wp2_with fail
  refine (H2.out _).mono ?_
  rintro e w2 ⟨rfl, hb1⟩
  replace hb := hb.trans (hb1.mono hb.size)
  clear hb1 w1
  go_wp2_with fail
  refine (H3.out _).mono ?_
  rintro e w3 ⟨rfl, hb1⟩
  replace hb := hb.trans (hb1.mono hb.size)
  clear hb1 w2
  go_wp2_with fail
  refine (H4.out _).mono ?_
  rintro e w4 ⟨rfl, hb1⟩
  replace hb := hb.trans (hb1.mono hb.size)
  clear hb1 w3
  have hN : Has (w4.alloc (.cells zb16 42)) w4.heap.size 42 zb16 := Has.fresh w4 42 _
  have hN2 := hN.setRow (bs R)
  have hb2 := below_setRow (hb.alloc hb.size (.cells zb16 42)) (g := w4.heap.size) hb.size (bs R)
  go_upto_region 5 with
    (refine wpList_store_row rfl 42 (.tmp 12) (.tmp 27) rfl w4.heap.size (bs R) rfl rfl 42 zb16 hN (infoB16 R HL.out) (zb16_size R HL.out) (bs_one R) ?_)
  change Code.wp _ _ _ _ ((w4.alloc (.cells zb16 42)).setRow w4.heap.size (bs R))
  generalize (w4.alloc (.cells zb16 42)).setRow w4.heap.size (bs R) = w5 at hN2 hb2 ⊢
  have hcv := conv_bytes hN2 16 16 HL.out
  clear hN
  go_wp2
  go_ret2
  exact ⟨rfl, hb2⟩
/-- a sealed text -/
def maskT (k n s : List UInt8) : List UInt8 := maskL (fst0 k 1 n) s
theorem maskT_length (k n s : List UInt8) : (maskT k n s).length = s.length := maskL_length _ _
def sealL (k n b s : List UInt8) : List UInt8 := maskT k n s ++ tagL k n b (maskT k n s)
theorem sealL_length (k n b s : List UInt8) : (sealL k n b s).length = s.length + 16 := by unfold sealL; rw [List.length_append, maskT_length, tagL_length]
set_option maxRecDepth 20000 in
set_option maxHeartbeats 1000000 in
theorem seal_not (k : List UInt8) (hk : k.length = 32) (n b s : ByteArray) (hn : n.size ≠ 12) (w : World) :
    Calls Try.prog 11 #[.agg (bs k), .string n, .string b, .string s] w fun e w' => e = .returned (.tuple #[.string ⟨#[]⟩, .int .i64 1]) ∧ Below w.heap.size w w' := by
  have h1 := mask3_not k 1 n s hn
  have e0 : W32 1 = .int .u32 1 := rfl
  rw [e0] at h1
  clear e0
  have H1 := Lib.hid h1
  have HK := Lib.hid hk
  clear h1 hk
  have hA : Has (w.alloc (.cells (bs k) 23)) w.heap.size 23 (bs k) := Has.fresh w 23 _
  have hb : Below w.heap.size w (w.alloc (.cells (bs k) 23)) := (Below.refl _ _).alloc (Nat.le_refl _) _
  go_enter Try.func11, Try.ntmps11
  go_upto_region 1 with fail
  generalize w.alloc (.cells (bs k) 23) = w0 at hA hb ⊢
  go_wp2_with (refine wpList_load_row rfl 23 (.tmp 4) rfl w.heap.size rfl 23 (bs k) (0, 0) _ hA Try.underlying23 rfl (infoKey k HK.out) ?_)
  refine (H1.out _).mono ?_
  rintro e w1 ⟨rfl, hb1⟩
  replace hb := hb.trans (hb1.mono hb.size)
  clear hb1 hA
  go_wp2
  go_ret2
  exact ⟨rfl, hb⟩
set_option maxRecDepth 20000 in
set_option maxHeartbeats 1000000 in
theorem seal_any (k : List UInt8) (hk : k.length = 32) (n b s : ByteArray) (hn : n.size = 12) (hbs : b.size ≤ 400000) (hss : s.size ≤ 400000) (w : World) :
    Calls Try.prog 11 #[.agg (bs k), .string n, .string b, .string s] w fun e w' => e = .returned (.tuple #[.string ⟨(sealL k n.data.toList b.data.toList s.data.toList).toArray⟩, .int .i64 0]) ∧ Below w.heap.size w w' := by
  have h1 := mask3_any k hk 1 n s hn (by omega)
  have e0 : W32 1 = .int .u32 1 := rfl
  rw [e0] at h1
  clear e0
  obtain ⟨M, hM⟩ : ∃ M, maskL (fst0 k 1 n.data.toList) s.data.toList = M := ⟨_, rfl⟩
  have hMl : M.length = s.size := by rw [← hM, maskL_length, len_list]
  rw [hM] at h1
  have h2 := tag_any k hk n b ⟨M.toArray⟩ hn hbs (by rw [str_size, hMl]; exact hss)
  rw [str_list] at h2
  obtain ⟨T, hT⟩ : ∃ T, tagL k n.data.toList b.data.toList M = T := ⟨_, rfl⟩
  have hTl : T.length = 16 := by rw [← hT]; exact tagL_length _ _ _ _
  rw [hT] at h2
  have hS : sealL k n.data.toList b.data.toList s.data.toList = M ++ T := by rw [sealL, maskT, hM, hT]
  have hc : catL [⟨M.toArray⟩, ⟨T.toArray⟩] = M ++ T := by unfold catL; simp
  have h3 := joined_new [⟨M.toArray⟩, ⟨T.toArray⟩] (by simp) (by rw [hc, List.length_append]; omega)
  rw [hc] at h3
  rw [hS]
  clear hS hc hM hT hMl hTl
  generalize M ++ T = S at h3 ⊢
  have H1 := Lib.hid h1
  have H2 := Lib.hid h2
  have H3 := Lib.hid h3
  have HK := Lib.hid hk
  clear h1 h2 h3 hk
  have hA : Has (w.alloc (.cells (bs k) 23)) w.heap.size 23 (bs k) := Has.fresh w 23 _
  have hb : Below w.heap.size w (w.alloc (.cells (bs k) 23)) := (Below.refl _ _).alloc (Nat.le_refl _) _
  go_enter Try.func11, Try.ntmps11
  go_upto_region 1 with fail
  generalize w.alloc (.cells (bs k) 23) = w0 at hA hb ⊢
  go_wp2_with (refine wpList_load_row rfl 23 (.tmp 4) rfl w.heap.size rfl 23 (bs k) (0, 0) _ hA Try.underlying23 rfl (infoKey k HK.out) ?_)
  refine (H1.out _).mono ?_
  rintro e w1 ⟨rfl, hb1⟩
  replace hb := hb.trans (hb1.mono hb.size)
  replace hA := hA.below hb1 hA.lt
  clear hb1
  go_wp2_with (refine wpList_load_row rfl 23 (.tmp 4) rfl w.heap.size rfl 23 (bs k) (0, 0) _ hA Try.underlying23 rfl (infoKey k HK.out) ?_)
  refine (H2.out _).mono ?_
  rintro e w2 ⟨rfl, hb1⟩
  replace hb := hb.trans (hb1.mono hb.size)
  clear hb1 hA
  go_wp2_with fail
  refine (H3.out w2).mono ?_
  rintro e w3 ⟨rfl, hb1⟩
  replace hb := hb.trans (hb1.mono hb.size)
  clear hb1
  go_wp2
  go_ret2
  exact ⟨rfl, hb⟩
end Go.Proofs.Ytfhjokbbaoldiaa
