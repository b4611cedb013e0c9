/- The walk of law AeadSpoilt. -/
import Derived.Test.YtfhjokbbaoldiaaYG
import Derived.Test.YtfhjokbbaoldiaaTK
namespace Go.Proofs.Ytfhjokbbaoldiaa
open Go.RowKit
set_option maxRecDepth 20000 in
set_option maxHeartbeats 1000000 in
theorem spoilt_over0 (k : List UInt8) (n : Nat) (a y : UInt8) (b s : ByteArray)  (hb : 400 < b.size) (w : World) :
    Calls Try.prog 5 #[.agg (bs k), .int .u64 (n : Int), .string b, .string s, .int .u8 (a.toNat : Int), .int .u8 (y.toNat : Int)] w fun e w' => e = .returned (.bool true) ∧ Below w.heap.size w w' := by
  have E := KEnv.fresh w k
  have HA := Lib.hid awake5_any
  have ttb : decide (400 < (b.size : Int)) = true := by simp; omega
  go_enter Try.func5, Try.ntmps5
  go_upto_region 1 with fail
  generalize w.alloc (.cells (bs k) 23) = w0 at E ⊢
  go_wp2_with fail
  refine (HA.out _).mono ?_
  rintro e w1 ⟨rfl, hb1⟩
  replace E := E.step hb1
  go_wp2_with fail
  refine (HA.out _).mono ?_
  rintro e w2 ⟨rfl, hb2⟩
  replace E := E.step hb2
  go_wp2
  go_ret
  exact ⟨rfl, E.2⟩
set_option maxRecDepth 20000 in
set_option maxHeartbeats 1000000 in
theorem spoilt_over1 (k : List UInt8) (n : Nat) (a y : UInt8) (b s : ByteArray) (hb : b.size ≤ 400) (hs : 400 < s.size) (w : World) :
    Calls Try.prog 5 #[.agg (bs k), .int .u64 (n : Int), .string b, .string s, .int .u8 (a.toNat : Int), .int .u8 (y.toNat : Int)] w fun e w' => e = .returned (.bool true) ∧ Below w.heap.size w w' := by
  have E := KEnv.fresh w k
  have HA := Lib.hid awake5_any
  have ttb : decide (400 < (b.size : Int)) = false := by simp; omega
  have tts : decide (400 < (s.size : Int)) = true := by simp; omega
  go_enter Try.func5, Try.ntmps5
  go_upto_region 1 with fail
  generalize w.alloc (.cells (bs k) 23) = w0 at E ⊢
  go_wp2_with fail
  refine (HA.out _).mono ?_
  rintro e w1 ⟨rfl, hb1⟩
  replace E := E.step hb1
  go_wp2_with fail
  refine (HA.out _).mono ?_
  rintro e w2 ⟨rfl, hb2⟩
  replace E := E.step hb2
  go_wp2
  go_ret
  exact ⟨rfl, E.2⟩
set_option maxRecDepth 20000 in
set_option maxHeartbeats 1000000 in
theorem spoiltZ_over0 (k : List UInt8) (n : Nat) (a y : UInt8) (b s : ByteArray) (hb : b.size ≤ 400) (hs : s.size ≤ 400) (hy : y.toNat = 0) (w : World) :
    Calls Try.prog 5 #[.agg (bs k), .int .u64 (n : Int), .string b, .string s, .int .u8 (a.toNat : Int), .int .u8 (y.toNat : Int)] w fun e w' => e = .returned (.bool true) ∧ Below w.heap.size w w' := by
  have E := KEnv.fresh w k
  have HA := Lib.hid awake5_any
  have ttb : decide (400 < (b.size : Int)) = false := by simp; omega
  have tts : decide (400 < (s.size : Int)) = false := by simp; omega
  have tty : ((y.toNat : Int) == 0) = true := by rw [hy]; rfl
  go_enter Try.func5, Try.ntmps5
  go_upto_region 1 with fail
  generalize w.alloc (.cells (bs k) 23) = w0 at E ⊢
  go_wp2_with fail
  refine (HA.out _).mono ?_
  rintro e w1 ⟨rfl, hb1⟩
  replace E := E.step hb1
  go_wp2_with fail
  refine (HA.out _).mono ?_
  rintro e w2 ⟨rfl, hb2⟩
  replace E := E.step hb2
  go_wp2
  go_ret
  exact ⟨rfl, E.2⟩
theorem set_right (A B : List UInt8) (q : Nat) (z : UInt8) : (A ++ B).set (A.length + q) z = A ++ B.set q z := by
  rw [List.set_append_right _ _ (by omega), Nat.add_sub_cancel_left]
theorem getD_right (A B : List UInt8) (q : Nat) : (A ++ B).getD (A.length + q) 0 = B.getD q 0 := by
  rw [List.getD_eq_getElem?_getD, List.getElem?_append_right (by omega), Nat.add_sub_cancel_left, List.getD_eq_getElem?_getD]
theorem set_unlike (B : List UInt8) (q : Nat) (hq : q < B.length) (y : UInt8) (hy : y ≠ 0) : B.set q (B.getD q 0 ^^^ y) ≠ B := by
  intro h
  have h2 : (B.set q (B.getD q 0 ^^^ y)).getD q 0 = B.getD q 0 := congrArg (fun l : List UInt8 => l.getD q 0) h
  generalize B.getD q 0 = x at h2
  rw [List.getD_eq_getElem?_getD, List.getElem?_set_self hq, Option.getD_some] at h2
  apply hy
  have h3 : x ^^^ (x ^^^ y) = x ^^^ x := by rw [h2]
  rw [← UInt8.xor_assoc, UInt8.xor_self, UInt8.zero_xor] at h3
  exact h3
theorem open_spoilt (k : List UInt8) (hk : k.length = 32) (N b s : ByteArray) (hNs : N.size = 12) (hbs : b.size ≤ 400) (hss : s.size ≤ 400) (q : Nat) (hq : q < 16) (y : UInt8) (hy : y ≠ 0) (L : List UInt8) (hL : sealL k N.data.toList b.data.toList s.data.toList = L) (w : World) :
    Calls Try.prog 13 #[.agg (bs k), .string N, .string b, .string ⟨(L.set (s.size + q) (L.getD (s.size + q) 0 ^^^ y)).toArray⟩] w fun e w' => e = .returned (.tuple #[.string ⟨#[]⟩, .int .i64 5]) ∧ Below w.heap.size w w' := by
  rw [sealL] at hL
  obtain ⟨A, hA⟩ : ∃ A, maskT k N.data.toList s.data.toList = A := ⟨_, rfl⟩
  rw [hA] at hL
  obtain ⟨B, hB⟩ : ∃ B, tagL k N.data.toList b.data.toList A = B := ⟨_, rfl⟩
  rw [hB] at hL
  have hAl : A.length = s.size := by rw [← hA, maskT_length, len_list]
  have hBl : B.length = 16 := by rw [← hB, tagL_length]
  subst hL
  rw [← hAl, set_right, getD_right]
  have hne := set_unlike B q (by omega) y hy
  have hBl2 : (B.set q (B.getD q 0 ^^^ y)).length = 16 := by rw [List.length_set, hBl]
  generalize B.set q (B.getD q 0 ^^^ y) = B2 at hne hBl2 ⊢
  refine open_bad k hk N b ⟨(A ++ B2).toArray⟩ hNs (by omega) A.length (by rw [str_size, List.length_append, hBl2]) (by rw [str_size, List.length_append]; omega) ⟨A.toArray⟩ ⟨B2.toArray⟩ (extract_head _ _) (extract_tail _ _ _ (by rw [hBl2])) ?_ w
  intro h
  have h2 : B2 = tagL k N.data.toList b.data.toList A := congrArg (fun x : ByteArray => x.data.toList) h
  rw [hB] at h2
  exact hne h2
theorem KEnv.alloc {w : World} {k : List UInt8} {W : World} (h : KEnv w k W) (o : Obj) : KEnv w k (W.alloc o) := ⟨h.1.alloc o, h.2.alloc h.2.size o⟩
theorem KEnv.setOther {w : World} {k : List UInt8} {W : World} (h : KEnv w k W) (g p : Nat) (hg : w.heap.size < g) (v : Value) : KEnv w k (W.setCell ⟨g, p, none⟩ v) :=
  ⟨h.1.other (p := ⟨g, p, none⟩) (by show _ ≠ g; omega) v, h.2.setCell (p := ⟨g, p, none⟩) (by show _ ≤ g; omega) v⟩
set_option maxRecDepth 20000 in
set_option maxHeartbeats 1000000 in
theorem spoilt_short (k : List UInt8) (hk : k.length = 32) (n : Nat) (b s : ByteArray) (a y : UInt8) (hy : y ≠ 0) (hbs : b.size ≤ 400) (hss : s.size ≤ 400) (w : World) :
    Calls Try.prog 5 #[.agg (bs k), .int .u64 (n : Int), .string b, .string s, .int .u8 (a.toNat : Int), .int .u8 (y.toNat : Int)] w fun e w' => e = .returned (.bool true) ∧ Below w.heap.size w w' := by
  have h1 := nonce_any n
  have hNs : (⟨(nonceL n).toArray⟩ : ByteArray).size = 12 := by rw [str_size, nonceL_length]
  generalize (⟨(nonceL n).toArray⟩ : ByteArray) = N at h1 hNs
  have h2 := seal_any k hk N b s hNs (by omega) (by omega)
  have h3 := open_spoilt k hk N b s hNs hbs hss (a.toNat % 16) (by omega) y hy _ rfl
  have hLl := sealL_length k N.data.toList b.data.toList s.data.toList
  rw [len_list] at hLl
  generalize sealL k N.data.toList b.data.toList s.data.toList = L at h2 h3 hLl
  obtain ⟨C, hC⟩ : ∃ C : ByteArray, (⟨L.toArray⟩ : ByteArray) = C := ⟨_, rfl⟩
  have hCL : C.data.toList = L := by rw [← hC]
  have hCs : C.size = s.size + 16 := by rw [← len_list, hCL, hLl]
  rw [hC] at h2
  obtain ⟨r, hr⟩ : ∃ r, a.toNat % 16 = r := ⟨_, rfl⟩
  obtain ⟨p, hp⟩ : ∃ p, s.size + r = p := ⟨_, rfl⟩
  rw [hr, hp] at h3
  have hx := xor8 (L.getD p 0) y
  obtain ⟨x, hx0⟩ : ∃ x, L.getD p 0 = x := ⟨_, rfl⟩
  rw [hx0] at h3 hx
  generalize x ^^^ y = z at h3 hx
  obtain ⟨D, hD⟩ : ∃ D : ByteArray, (⟨(L.set p z).toArray⟩ : ByteArray) = D := ⟨_, rfl⟩
  rw [hD] at h3
  have hy0 : y.toNat ≠ 0 := fun h => hy (UInt8.toNat_inj.1 h)
  have H1 := Lib.hid h1
  have H2 := Lib.hid h2
  have H3 := Lib.hid h3
  have HK := Lib.hid hk
  have HX := Lib.hid hx
  have HX0 := Lib.hid hx0
  have HD := Lib.hid hD
  have HCL := Lib.hid hCL
  have HLL := Lib.hid hLl
  clear h1 h2 h3 hk hx hx0 hD hCL hLl hC
  have E := KEnv.fresh w k
  have HA := Lib.hid awake5_any
  have tb : decide (400 < (b.size : Int)) = false := by simp; omega
  have ts : decide (400 < (s.size : Int)) = false := by simp; omega
  have ty : ((y.toNat : Int) == 0) = false := by rw [beq_eq_false_iff_ne]; omega
  have t16 : decide ((C.size : Int) < 16) = false := by simp; omega
  have t56 : IntKind.i64.wrap ((C.size : Int) - 16) = (s.size : Int) := by rw [IntWalk.i64_in _ (by omega)]; omega
  have ha := a.toNat_lt
  have t58 : IntKind.i64.wrap (a.toNat : Int) = (a.toNat : Int) := by rw [IntWalk.i64_in _ (by omega)]
  have t59 : (a.toNat : Int).tmod 16 = (r : Int) := by rw [← hr]; exact tmodN a.toNat 16
  have t59' : IntKind.i64.wrap (r : Int) = (r : Int) := by rw [IntWalk.i64_in _ (by omega)]
  have t60 : IntKind.i64.wrap ((s.size : Int) + (r : Int)) = (p : Int) := by rw [IntWalk.i64_in _ (by omega)]; omega
  have hpC : p < C.size := by omega
  have hpI : (p : Int) < (C.size : Int) := by omega
  have hpL : p < s.size + 16 := by omega
  have HCS := Lib.hid hCs
  clear hy hy0 hNs hCs
  go_enter Try.func5, Try.ntmps5
  go_upto_region 1 with fail
  generalize w.alloc (.cells (bs k) 23) = w0 at E ⊢
  go_wp2_with fail
  refine (HA.out _).mono ?_
  rintro e w1 ⟨rfl, hb1⟩
  replace E := E.step hb1
  clear hb1
  go_upto_region 3 with fail
  refine wp_region_noPanic ?_
  refine wp_region_held_drew (S := fun W => Has W w.heap.size 23 (bs k)) (by kernel_rfl) E.1.drew (fun hS => ?_)
  replace E := E.drew
  generalize w1.drew = w2 at E hS ⊢
  refine take1 hS 0 36 (.agg (bs k)) _ rfl (by kernel_rfl) (by kernel_rfl) (by kernel_rfl) (fun _ _ _ h => h) rfl rfl (fun w' h => by exact exec_load_row 23 (.tmp 6) w.heap.size h Try.underlying23 rfl (keyInfo k HK.out) rfl rfl) ?_
  simp only [Act.put, List.setIfInBounds_toArray, List.set_cons_zero, List.set_cons_succ]
  refine take1 hS 1 37 (.int .u64 (n : Int)) _ rfl (by kernel_rfl) (by kernel_rfl) (by kernel_rfl) (fun _ _ _ h => h) rfl rfl (fun w' h => by go_simp) ?_
  simp only [Act.put, List.setIfInBounds_toArray, List.set_cons_zero, List.set_cons_succ]
  refine take1 hS 3 39 (.string b) _ rfl (by kernel_rfl) (by kernel_rfl) (by kernel_rfl) (fun _ _ _ h => h) rfl rfl (fun w' h => by go_simp) ?_
  simp only [Act.put, List.setIfInBounds_toArray, List.set_cons_zero, List.set_cons_succ]
  refine take1 hS 4 40 (.string s) _ rfl (by kernel_rfl) (by kernel_rfl) (by kernel_rfl) (fun _ _ _ h => h) rfl rfl (fun w' h => by go_simp) ?_
  simp only [Act.put, List.setIfInBounds_toArray, List.set_cons_zero, List.set_cons_succ]
  have hcall := H1.out w2
  refine onlyCall 2 38 _ _ _ (by kernel_rfl) rfl rfl rfl (by go_simp) hcall ?_
  rintro e w3 ⟨rfl, hb1⟩
  replace E := E.step hb1
  replace hS := E.1
  refine ⟨_, rfl, hS, ?_⟩
  simp only [Act.put, List.setIfInBounds_toArray, List.set_cons_zero, List.set_cons_succ]
  clear hcall hb1
  have hcall := H2.out w3
  refine onlyCall 5 41 _ _ _ (by kernel_rfl) rfl rfl rfl (by go_simp) hcall ?_
  rintro e w4 ⟨rfl, hb1⟩
  replace E := E.step hb1
  replace hS := E.1
  refine ⟨_, rfl, hS, ?_⟩
  simp only [Act.put, List.setIfInBounds_toArray, List.set_cons_zero, List.set_cons_succ]
  clear hcall hb1
  refine take1 hS 6 35 (.tuple #[.string C, .int .i64 0]) _ rfl (by kernel_rfl) (by kernel_rfl) (by kernel_rfl) (fun _ _ _ h => h) rfl rfl (fun w' h => by go_simp) ?_
  simp only [Act.put, List.setIfInBounds_toArray, List.set_cons_zero, List.set_cons_succ]
  refine take1 hS 7 42 (.string C) _ rfl (by kernel_rfl) (by kernel_rfl) (by kernel_rfl) (fun _ _ _ h => h) rfl rfl (fun w' h => by go_simp) ?_
  simp only [Act.put, List.setIfInBounds_toArray, List.set_cons_zero, List.set_cons_succ]
  refine take1 hS 8 43 (.int .i64 0) _ rfl (by kernel_rfl) (by kernel_rfl) (by kernel_rfl) (fun _ _ _ h => h) rfl rfl (fun w' h => by go_simp) ?_
  simp only [Act.put, List.setIfInBounds_toArray, List.set_cons_zero, List.set_cons_succ]
  refine take1 hS 9 13 (.string C) _ rfl (by kernel_rfl) (by kernel_rfl) (by kernel_rfl) (fun _ _ _ h => h) rfl rfl (fun w' h => by go_simp) ?_
  simp only [Act.put, List.setIfInBounds_toArray, List.set_cons_zero, List.set_cons_succ]
  refine take1 hS 10 14 (.int .i64 0) _ rfl (by kernel_rfl) (by kernel_rfl) (by kernel_rfl) (fun _ _ _ h => h) rfl rfl (fun w' h => by go_simp) ?_
  simp only [Act.put, List.setIfInBounds_toArray, List.set_cons_zero, List.set_cons_succ]
  refine wpAnyH_done (by kernel_rfl) ?_ _
  refine NoPanic.normal ?_
  clear hS
  have hcv := run_bytes_of_string (P := Try.prog) w4 9 32 5 C Try.underlying9 Try.underlying32 Try.underlying5
  have hrow := rowB_bytes w4.drew C (grownCap w4 C.size 0 5) 5 (bytesRow C (grownCap w4 C.size 0 5)).size (by unfold bytesRow; simp)
  have E2 := (E.drew).alloc (.cells (bytesRow C (grownCap w4 C.size 0 5)) 5 ((bytesRow C (grownCap w4 C.size 0 5)).size, (bytesRow C (grownCap w4 C.size 0 5)).size + 1))
  have hgk : w.heap.size < w4.heap.size := E.1.lt
  go_upto_region 5 with fail
  change Code.wp _ _ _ _ (w4.drew.alloc (.cells (bytesRow C (grownCap w4 C.size 0 5)) 5 ((bytesRow C (grownCap w4 C.size 0 5)).size, (bytesRow C (grownCap w4 C.size 0 5)).size + 1)))
  clear hcv E
  have hrow2 : RowB _ w4.heap.size C.data.toList := hrow
  clear hrow
  generalize w4.drew.alloc (.cells (bytesRow C (grownCap w4 C.size 0 5)) 5 ((bytesRow C (grownCap w4 C.size 0 5)).size, (bytesRow C (grownCap w4 C.size 0 5)).size + 1)) = w5 at hrow2 E2 ⊢
  have hcap := grownCap_ge w4 C.size 0 5
  generalize grownCap w4 C.size 0 5 = cap at hcap ⊢
  generalize w4.heap.size = g at hrow2 hgk ⊢
  rw [HCL.out] at hrow2
  obtain ⟨c1, f1⟩ := hrow2.2 p (by rw [HLL.out]; exact hpL)
  rw [HX0.out] at c1
  go_upto_region 8 with fail
  rw [HX.out]
  have hrow3 := hrow2.set p (by rw [HLL.out]; exact hpL) z
  have E3 := E2.setOther g p hgk (B8 z)
  change Code.wp _ _ _ _ (w5.setCell ⟨g, p, none⟩ (B8 z))
  generalize w5.setCell ⟨g, p, none⟩ (B8 z) = w6 at hrow3 E3 ⊢
  clear c1 f1 hrow2 E2 HX0 HX HCL t56 t58 t59 t59' t60 hpC hpI hcap ha
  have hln : (L.set p z).length = C.size := by rw [List.length_set, HLL.out, HCS.out]
  have hcv : ∀ W, RowB W g (L.set p z) → (convert 32 9 (.slice (some ⟨g, 0, none⟩) C.size cap)).run Try.prog W = .ok (.string D) W := fun W h => by
    rw [← HD.out]
    exact conv_rowB h cap C.size hln
  have E := E3
  clear E3
  refine wp_region_noPanic ?_
  refine wp_region_held_drew (S := fun W => Has W w.heap.size 23 (bs k) ∧ (convert 32 9 (.slice (some ⟨g, 0, none⟩) C.size cap)).run Try.prog W = .ok (.string D) W) (by kernel_rfl) ⟨E.1.drew, hcv _ hrow3.drew⟩ (fun hS => ?_)
  replace E := E.drew
  replace hrow3 := hrow3.drew
  generalize w6.drew = w7 at E hrow3 hS ⊢
  refine take1 hS 0 67 (.agg (bs k)) _ rfl (by kernel_rfl) (by kernel_rfl) (by kernel_rfl) (fun _ _ _ h => h) rfl rfl (fun w' h => by exact exec_load_row 23 (.tmp 6) w.heap.size h.1 Try.underlying23 rfl (keyInfo k HK.out) rfl rfl) ?_
  simp only [Act.put, List.setIfInBounds_toArray, List.set_cons_zero, List.set_cons_succ]
  refine take1 hS 1 68 (.int .u64 (n : Int)) _ rfl (by kernel_rfl) (by kernel_rfl) (by kernel_rfl) (fun _ _ _ h => h) rfl rfl (fun w' h => by go_simp) ?_
  simp only [Act.put, List.setIfInBounds_toArray, List.set_cons_zero, List.set_cons_succ]
  refine take1 hS 3 70 (.string b) _ rfl (by kernel_rfl) (by kernel_rfl) (by kernel_rfl) (fun _ _ _ h => h) rfl rfl (fun w' h => by go_simp) ?_
  simp only [Act.put, List.setIfInBounds_toArray, List.set_cons_zero, List.set_cons_succ]
  refine take1 hS 4 71 (.slice (some ⟨g, 0, none⟩) C.size cap) _ rfl (by kernel_rfl) (by kernel_rfl) (by kernel_rfl) (fun _ _ _ h => h) rfl rfl (fun w' h => by go_simp) ?_
  simp only [Act.put, List.setIfInBounds_toArray, List.set_cons_zero, List.set_cons_succ]
  refine take1 hS 5 72 (.string D) _ rfl (by kernel_rfl) (by kernel_rfl) (by kernel_rfl) (fun _ _ _ h => h) rfl rfl (fun w' h => by have hcv1 := h.2; clear hcv; first | (go_simp; done) | (unfold execOp; simp [hcv1, Act.eval])) ?_
  simp only [Act.put, List.setIfInBounds_toArray, List.set_cons_zero, List.set_cons_succ]
  have hcall := H1.out w7
  refine onlyCall 2 69 _ _ _ (by kernel_rfl) rfl rfl rfl (by go_simp) hcall ?_
  rintro e w8 ⟨rfl, hb1⟩
  replace E := E.step hb1
  replace hrow3 := hrow3.below hb1 hrow3.1
  replace hS := And.intro E.1 (hcv _ hrow3)
  refine ⟨_, rfl, hS, ?_⟩
  simp only [Act.put, List.setIfInBounds_toArray, List.set_cons_zero, List.set_cons_succ]
  clear hcall hb1
  have hcall := H3.out w8
  refine onlyCall 6 73 _ _ _ (by kernel_rfl) rfl rfl rfl (by go_simp) hcall ?_
  rintro e w9 ⟨rfl, hb1⟩
  replace E := E.step hb1
  replace hrow3 := hrow3.below hb1 hrow3.1
  replace hS := And.intro E.1 (hcv _ hrow3)
  refine ⟨_, rfl, hS, ?_⟩
  simp only [Act.put, List.setIfInBounds_toArray, List.set_cons_zero, List.set_cons_succ]
  clear hcall hb1
  refine take1 hS 7 66 (.tuple #[.string ⟨#[]⟩, .int .i64 5]) _ rfl (by kernel_rfl) (by kernel_rfl) (by kernel_rfl) (fun _ _ _ h => h) rfl rfl (fun w' h => by go_simp) ?_
  simp only [Act.put, List.setIfInBounds_toArray, List.set_cons_zero, List.set_cons_succ]
  refine take1 hS 8 74 (.string ⟨#[]⟩) _ rfl (by kernel_rfl) (by kernel_rfl) (by kernel_rfl) (fun _ _ _ h => h) rfl rfl (fun w' h => by go_simp) ?_
  simp only [Act.put, List.setIfInBounds_toArray, List.set_cons_zero, List.set_cons_succ]
  refine take1 hS 9 75 (.int .i64 5) _ rfl (by kernel_rfl) (by kernel_rfl) (by kernel_rfl) (fun _ _ _ h => h) rfl rfl (fun w' h => by go_simp) ?_
  simp only [Act.put, List.setIfInBounds_toArray, List.set_cons_zero, List.set_cons_succ]
  refine take1 hS 10 16 (.string ⟨#[]⟩) _ rfl (by kernel_rfl) (by kernel_rfl) (by kernel_rfl) (fun _ _ _ h => h) rfl rfl (fun w' h => by go_simp) ?_
  simp only [Act.put, List.setIfInBounds_toArray, List.set_cons_zero, List.set_cons_succ]
  refine take1 hS 11 17 (.int .i64 5) _ rfl (by kernel_rfl) (by kernel_rfl) (by kernel_rfl) (fun _ _ _ h => h) rfl rfl (fun w' h => by go_simp) ?_
  simp only [Act.put, List.setIfInBounds_toArray, List.set_cons_zero, List.set_cons_succ]
  refine wpAnyH_done (by kernel_rfl) ?_ _
  refine NoPanic.normal ?_
  clear hS
  clear hcv
  go_wp2
  go_ret
  exact ⟨rfl, E.2⟩
theorem spoiltLaw_any (k : List UInt8) (hk : k.length = 32) (n : Int) (hn : (Lit.int .u64 n).wf = true) (b s : ByteArray) (a : Int) (ha : (Lit.int .u8 a).wf = true) (y : Int) (hy : (Lit.int .u8 y).wf = true) (w : World) :
    Calls Try.prog 5 #[.agg (bs k), .int .u64 n, .string b, .string s, .int .u8 a, .int .u8 y] w fun e w' => e = .returned (.bool true) ∧ Below w.heap.size w w' := by
  obtain ⟨n, rfl⟩ : ∃ x : Nat, n = (x : Int) := by
    have hb := bounds_u64 hn
    exact ⟨n.toNat, by omega⟩
  obtain ⟨a, rfl⟩ : ∃ x : UInt8, a = (x.toNat : Int) := by
    have hb := bounds_u8 ha
    exact ⟨UInt8.ofNat a.toNat, by rw [UInt8.toNat_ofNat', Nat.mod_eq_of_lt (by omega)]; omega⟩
  obtain ⟨y, rfl⟩ : ∃ x : UInt8, y = (x.toNat : Int) := by
    have hb := bounds_u8 hy
    exact ⟨UInt8.ofNat y.toNat, by rw [UInt8.toNat_ofNat', Nat.mod_eq_of_lt (by omega)]; omega⟩
  by_cases hb : 400 < b.size
  · exact spoilt_over0 k n a y b s hb w
  · by_cases hs : 400 < s.size
    · exact spoilt_over1 k n a y b s (by omega) hs w
    · by_cases h0 : y = 0
      · exact spoiltZ_over0 k n a y b s (by omega) (by omega) (by rw [h0]; rfl) w
      · exact spoilt_short k hk n b s a y h0 (by omega) (by omega) w
end Go.Proofs.Ytfhjokbbaoldiaa
