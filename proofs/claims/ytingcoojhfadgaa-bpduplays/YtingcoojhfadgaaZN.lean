/- The document's Parse: walked, whatever the text. -/
import Derived.Test.YtingcoojhfadgaaZM
namespace Go.Proofs.Ytingcoojhfadgaa
open Go.RowKit
theorem seg_one {L : List (List Value)} {i off : Nat} {B : List Value} (hB : L[i]? = some B) (ho : segAt L i = off) (k : Nat) (hk : k < B.length) (v : Value) : (segC L).setIfInBounds (off + k) v = segC (L.set i (B.set k v)) := by
  unfold segC
  rw [(seg_split L i B (B.set k v) hB).1, (seg_split L i B (B.set k v) hB).2, List.setIfInBounds_toArray, List.set_append_right _ _ (by rw [segAt_flat]; omega), segAt_flat, ho, Nat.add_sub_cancel_left, List.set_append_left _ _ hk]
/-- filled so far -/
def fl8 (R : List UInt8) (k : Nat) : List UInt8 := R.take k ++ List.replicate (8 - k) 0
theorem fl8_length (R : List UInt8) (k : Nat) (hR : R.length = 8) (hk : k ≤ 8) : (fl8 R k).length = 8 := padZ_length R 8 k (by omega) hk
theorem fl8_set (R : List UInt8) (k : Nat) (hR : R.length = 8) (hk : k < 8) : (fl8 R k).set k (R.getD k 0) = fl8 R (k + 1) := padZ_set R 8 k (by omega) hk
theorem fl8_done (R : List UInt8) (hR : R.length = 8) : fl8 R 8 = R := by
  unfold fl8
  rw [List.take_of_length_le (by omega)]
  simp
theorem set_bytes (l : List UInt8) (k : Nat) (b : UInt8) : (l.map B8).set k (.int .u8 (b.toNat : Int)) = (l.set k b).map B8 := by rw [List.map_set]
section
variable {r b : List UInt8} {c p a t h d : Int} {y z : Bool}
theorem set11_rk (hx : (B11.mk r b c p a t h d y z).Fit) (k : Nat) (hk : k < 8) (v : UInt8) : (B11.mk r b c p a t h d y z).c.setIfInBounds k (.int .u8 (v.toNat : Int)) = (B11.mk (r.set k v) b c p a t h d y z).c := by
  have := seg_one (L := (B11.mk r b c p a t h d y z).segs) (i := 0) (off := 0) (B := r.map B8) rfl rfl k (by rw [List.length_map, hx.r]; exact hk) (.int .u8 (v.toNat : Int))
  rw [Nat.zero_add, set_bytes] at this
  exact this
theorem set11_bk (hx : (B11.mk r b c p a t h d y z).Fit) (k : Nat) (hk : k < 8) (v : UInt8) : (B11.mk r b c p a t h d y z).c.setIfInBounds (8 + k) (.int .u8 (v.toNat : Int)) = (B11.mk r (b.set k v) c p a t h d y z).c := by
  have := seg_one (L := (B11.mk r b c p a t h d y z).segs) (i := 1) (off := 8) (B := b.map B8) rfl (B11.at1 hx) k (by rw [List.length_map, hx.b]; exact hk) (.int .u8 (v.toNat : Int))
  rw [set_bytes] at this
  exact this
theorem set11_ch (hx : (B11.mk r b c p a t h d y z).Fit) (v : Bool) : (B11.mk r b c p a t h d y z).c.setIfInBounds 22 (.bool v) = (B11.mk r b c p a t h d v z).c := seg_put (L := (B11.mk r b c p a t h d y z).segs) (i := 8) rfl (B11.at8 hx)
theorem set11_ack (hx : (B11.mk r b c p a t h d y z).Fit) (v : Bool) : (B11.mk r b c p a t h d y z).c.setIfInBounds 23 (.bool v) = (B11.mk r b c p a t h d y v).c := seg_put (L := (B11.mk r b c p a t h d y z).segs) (i := 9) rfl (B11.at9 hx)
variable {w : World} {g : Nat} {ty : TypeId} {x : B11}
theorem Has.b_rk (hh : Has w g ty x.c) (hx : x.Fit) (k : Nat) (hk : k < 8) : w.cell? ⟨g, k, none⟩ = some (B8 (x.r.getD k 0)) := by
  have := hh.b_r k (B8 (x.r.getD k 0)) (by rw [List.getElem?_map, List.getD_eq_getElem?_getD, List.getElem?_eq_getElem (by rw [hx.r]; exact hk)]; rfl)
  rw [Nat.zero_add] at this
  exact this
theorem Has.b_bk (hh : Has w g ty x.c) (hx : x.Fit) (k : Nat) (hk : k < 8) : w.cell? ⟨g, 8 + k, none⟩ = some (B8 (x.b.getD k 0)) :=
  hh.b_b hx k (B8 (x.b.getD k 0)) (by rw [List.getElem?_map, List.getD_eq_getElem?_getD, List.getElem?_eq_getElem (by rw [hx.b]; exact hk)]; rfl)
end
theorem cut_of (s : ByteArray) (a n : Nat) (h : a + n ≤ 31) : cut9 (s.extract 7 38) a n = cut9 s (7 + a) n := by
  unfold cut9
  rw [extract_list, List.drop_take, List.take_take, List.drop_drop, Nat.min_eq_left (by omega)]
theorem cut_get (s : ByteArray) (a n k : Nat) (h : k < n) : (cut9 s a n).getD k 0 = bAt s (a + k) := by
  unfold cut9 bAt
  rw [List.getD_eq_getElem?_getD, List.getD_eq_getElem?_getD, List.getElem?_take_of_lt h, List.getElem?_drop]
theorem flag_facts (b : UInt8) : ((b.toNat : Int) % 2 == 1) = (b &&& 1 != 0) ∧ decide ((128 : Int) ≤ (b.toNat : Int)) = (b &&& 128 != 0) ∧ ([b] == [flagP (b &&& 1 != 0) (b &&& 128 != 0)]) = (b.toNat == 0 || b.toNat == 1 || b.toNat == 128 || b.toNat == 129) := by
  have key : ∀ n : Fin 256, (((n.val % 2 : Nat) == 1) = (UInt8.ofNat n.val &&& 1 != 0)) ∧ (decide (128 ≤ n.val) = (UInt8.ofNat n.val &&& 128 != 0)) ∧ ([UInt8.ofNat n.val] == [flagP (UInt8.ofNat n.val &&& 1 != 0) (UInt8.ofNat n.val &&& 128 != 0)]) = (n.val == 0 || n.val == 1 || n.val == 128 || n.val == 129) := by decide +kernel
  have hb := key ⟨b.toNat, b.toNat_lt⟩
  simp only [UInt8.ofNat_toNat] at hb
  obtain ⟨h1, h2, h3⟩ := hb
  refine ⟨?_, ?_, h3⟩
  · rw [← h1]
    rw [Bool.eq_iff_iff, beq_iff_eq, beq_iff_eq]
    omega
  · rw [← h2]
    rw [Bool.eq_iff_iff, decide_eq_true_eq, decide_eq_true_eq]
    omega
theorem refNumberAt (s : ByteArray) (a n e : Nat) (he : a + n = e) (hn : n ≤ 7) (h : e ≤ s.size) (w : World) : Calls Try.prog 26 #[.string (s.extract a e)] w fun r w' => r = .returned (.int .i64 (numP (cut9 s a n) n : Int)) ∧ w' = w := by
  subst he
  have hs : (s.extract a (a + n)).size = n := by rw [ByteArray.size_extract]; omega
  have := refNumber_any (s.extract a (a + n)) (by omega) w
  rw [hs, ext_cut11] at this
  exact this
set_option maxRecDepth 20000 in
set_option maxHeartbeats 1000000 in
theorem refParse11_short (s : ByteArray) (h : s.size < 7) (w : World) : Calls Try.prog 16 #[.string s] w fun e w' => e = .returned (.tuple #[.agg bz.c, .bool false, .int .i64 2]) ∧ Below w.heap.size w w' := by
  have M : Mem w [(w.heap.size, 24, bz.c)] (w.alloc (.cells bz.c 24)) := (Mem.init w).alloc _ rfl _ _
  have h7 : (s.size : Int) < 7 := by omega
  go_enter Try.func16, Try.ntmps16
  go_upto_region 1 with fail
  change Code.wp _ _ _ _ (w.alloc (.cells bz.c 24))
  generalize w.alloc (.cells bz.c 24) = W0 at M ⊢
  have r1 := M.row 0 rfl
  have HM := Lib.hid (M.store 0 rfl bz.c)
  clear M
  go_wp2_with (first
    | (refine wpExec rfl (.agg bz.c) (build11rz rfl) ?_)
    | (refine wpList_store_row rfl 24 (.tmp 2) (.tmp 10) rfl w.heap.size bz.c rfl rfl 24 bz.c r1 (r11_info bz_fit) rfl (B11.one _) ?_))
  exact bodyPost_ret (v := .tuple #[.agg bz.c, .bool false, .int .i64 2]) (results_row_reg2 rfl _ _ w.heap.size 24 bz.c (0, 0) _ rfl (HM.out.row 0 rfl) Try.underlying24 rfl (r11_info bz_fit) _ _ rfl rfl) rfl ⟨rfl, HM.out.below⟩
set_option maxRecDepth 20000 in
set_option maxHeartbeats 1000000 in
theorem refParse11_told (s : ByteArray) (h : 7 ≤ s.size) (hn : cut9 s 0 7 = noticeL) (w : World) : Calls Try.prog 16 #[.string s] w fun e w' => e = .returned (.tuple #[.agg bz.c, .bool true, .int .i64 0]) ∧ Below w.heap.size w w' := by
  have M : Mem w [(w.heap.size, 24, bz.c)] (w.alloc (.cells bz.c 24)) := (Mem.init w).alloc _ rfl _ _
  have h7 : ¬ (s.size : Int) < 7 := by omega
  have h72 : (7 : Int) ≤ (s.size : Int) := by omega
  have he1 : ((s.extract 0 7).data.toList == (⟨noticeL.toArray⟩ : ByteArray).data.toList) = true := by
    rw [cut0, str_list]
    simpa using hn
  have HE1 := Lib.hid he1
  clear he1 hn
  go_enter Try.func16, Try.ntmps16
  go_upto_region 1 with fail
  change Code.wp _ _ _ _ (w.alloc (.cells bz.c 24))
  generalize w.alloc (.cells bz.c 24) = W0 at M ⊢
  have r1 := M.row 0 rfl
  have HM := Lib.hid (M.store 0 rfl bz.c)
  clear M
  go_wp2_with (first
    | (refine wpExec rfl (.bool true) (exec_eqS (.tmp 12) (.const (.string ⟨noticeL.toArray⟩)) _ _ true HE1.out rfl rfl rfl) ?_)
    | (refine wpExec rfl (.agg bz.c) (build11rz rfl) ?_)
    | (refine wpList_store_row rfl 24 (.tmp 2) (.tmp 14) rfl w.heap.size bz.c rfl rfl 24 bz.c r1 (r11_info bz_fit) rfl (B11.one _) ?_))
  exact bodyPost_ret (v := .tuple #[.agg bz.c, .bool true, .int .i64 0]) (results_row_reg2 rfl _ _ w.heap.size 24 bz.c (0, 0) _ rfl (HM.out.row 0 rfl) Try.underlying24 rfl (r11_info bz_fit) _ _ rfl rfl) rfl ⟨rfl, HM.out.below⟩
set_option maxRecDepth 20000 in
set_option maxHeartbeats 1000000 in
theorem refParse11_form (s : ByteArray) (h : 7 ≤ s.size) (hn : cut9 s 0 7 ≠ noticeL) (hw : cut9 s 0 7 ≠ wordL) (w : World) : Calls Try.prog 16 #[.string s] w fun e w' => e = .returned (.tuple #[.agg bz.c, .bool false, .int .i64 3]) ∧ Below w.heap.size w w' := by
  have M : Mem w [(w.heap.size, 24, bz.c)] (w.alloc (.cells bz.c 24)) := (Mem.init w).alloc _ rfl _ _
  have h7 : ¬ (s.size : Int) < 7 := by omega
  have h72 : (7 : Int) ≤ (s.size : Int) := by omega
  have he1 : ((s.extract 0 7).data.toList == (⟨noticeL.toArray⟩ : ByteArray).data.toList) = false := by
    rw [cut0, str_list]
    simpa using hn
  have he2 : ((s.extract 0 7).data.toList == (⟨wordL.toArray⟩ : ByteArray).data.toList) = false := by
    rw [cut0, str_list]
    simpa using hw
  have HE1 := Lib.hid he1
  clear he1 hn
  have HE2 := Lib.hid he2
  clear he2 hw
  go_enter Try.func16, Try.ntmps16
  go_upto_region 1 with fail
  change Code.wp _ _ _ _ (w.alloc (.cells bz.c 24))
  generalize w.alloc (.cells bz.c 24) = W0 at M ⊢
  have r1 := M.row 0 rfl
  have HM := Lib.hid (M.store 0 rfl bz.c)
  clear M
  go_wp2_with (first
    | (refine wpExec rfl (.bool false) (exec_eqS (.tmp 12) (.const (.string ⟨noticeL.toArray⟩)) _ _ false HE1.out rfl rfl rfl) ?_)
    | (refine wpExec rfl (.bool (!false)) (exec_neqS (.tmp 16) (.const (.string ⟨wordL.toArray⟩)) _ _ false HE2.out rfl rfl rfl) ?_)
    | (refine wpExec rfl (.agg bz.c) (build11rz rfl) ?_)
    | (refine wpList_store_row rfl 24 (.tmp 2) (.tmp 18) rfl w.heap.size bz.c rfl rfl 24 bz.c r1 (r11_info bz_fit) rfl (B11.one _) ?_))
  exact bodyPost_ret (v := .tuple #[.agg bz.c, .bool false, .int .i64 3]) (results_row_reg2 rfl _ _ w.heap.size 24 bz.c (0, 0) _ rfl (HM.out.row 0 rfl) Try.underlying24 rfl (r11_info bz_fit) _ _ rfl rfl) rfl ⟨rfl, HM.out.below⟩
set_option maxRecDepth 20000 in
set_option maxHeartbeats 1000000 in
theorem refParse11_cut (s : ByteArray) (h : 7 ≤ s.size) (hn : cut9 s 0 7 ≠ noticeL) (hw : cut9 s 0 7 = wordL) (h38 : s.size < 38) (w : World) : Calls Try.prog 16 #[.string s] w fun e w' => e = .returned (.tuple #[.agg bz.c, .bool false, .int .i64 2]) ∧ Below w.heap.size w w' := by
  have M : Mem w [(w.heap.size, 24, bz.c)] (w.alloc (.cells bz.c 24)) := (Mem.init w).alloc _ rfl _ _
  have h7 : ¬ (s.size : Int) < 7 := by omega
  have h72 : (7 : Int) ≤ (s.size : Int) := by omega
  have he1 : ((s.extract 0 7).data.toList == (⟨noticeL.toArray⟩ : ByteArray).data.toList) = false := by
    rw [cut0, str_list]
    simpa using hn
  have he2 : ((s.extract 0 7).data.toList == (⟨wordL.toArray⟩ : ByteArray).data.toList) = true := by
    rw [cut0, str_list]
    simpa using hw
  have HE1 := Lib.hid he1
  clear he1 hn
  have HE2 := Lib.hid he2
  clear he2 hw
  have h8 : (s.size : Int) < 38 := by omega
  go_enter Try.func16, Try.ntmps16
  go_upto_region 1 with fail
  change Code.wp _ _ _ _ (w.alloc (.cells bz.c 24))
  generalize w.alloc (.cells bz.c 24) = W0 at M ⊢
  have r1 := M.row 0 rfl
  have HM := Lib.hid (M.store 0 rfl bz.c)
  clear M
  go_wp2_with (first
    | (refine wpExec rfl (.bool false) (exec_eqS (.tmp 12) (.const (.string ⟨noticeL.toArray⟩)) _ _ false HE1.out rfl rfl rfl) ?_)
    | (refine wpExec rfl (.bool (!true)) (exec_neqS (.tmp 16) (.const (.string ⟨wordL.toArray⟩)) _ _ true HE2.out rfl rfl rfl) ?_)
    | (refine wpExec rfl (.agg bz.c) (build11rz rfl) ?_)
    | (refine wpList_store_row rfl 24 (.tmp 2) (.tmp 22) rfl w.heap.size bz.c rfl rfl 24 bz.c r1 (r11_info bz_fit) rfl (B11.one _) ?_))
  exact bodyPost_ret (v := .tuple #[.agg bz.c, .bool false, .int .i64 2]) (results_row_reg2 rfl _ _ w.heap.size 24 bz.c (0, 0) _ rfl (HM.out.row 0 rfl) Try.underlying24 rfl (r11_info bz_fit) _ _ rfl rfl) rfl ⟨rfl, HM.out.below⟩
set_option maxRecDepth 20000 in
set_option maxHeartbeats 4000000 in
theorem refParse11_word (s : ByteArray) (hn : cut9 s 0 7 ≠ noticeL) (hw : cut9 s 0 7 = wordL) (h38 : 38 ≤ s.size) (Z : B11) (E : Int) (hy : saysOk (s.extract 7 38) = true → Z = says (s.extract 7 38) ∧ E = 0) (hz : saysOk (s.extract 7 38) = false → Z = bz ∧ E = 3) (w : World) :
    Calls Try.prog 16 #[.string s] w fun e w' => e = .returned (.tuple #[.agg Z.c, .bool false, .int .i64 E]) ∧ Below w.heap.size w w' := by
  have M : Mem w [(w.heap.size, 24, bz.c)] (w.alloc (.cells bz.c 24)) := (Mem.init w).alloc _ rfl _ _
  have h7 : ¬ (s.size : Int) < 7 := by omega
  have h72 : (7 : Int) ≤ (s.size : Int) := by omega
  have he1 : ((s.extract 0 7).data.toList == (⟨noticeL.toArray⟩ : ByteArray).data.toList) = false := by
    rw [cut0, str_list]
    simpa using hn
  have he2 : ((s.extract 0 7).data.toList == (⟨wordL.toArray⟩ : ByteArray).data.toList) = true := by
    rw [cut0, str_list]
    simpa using hw
  have HE1 := Lib.hid he1
  clear he1 hn
  have HE2 := Lib.hid he2
  clear he2 hw
  have h8 : ¬ (s.size : Int) < 38 := by omega
  have hok : saysOk (s.extract 7 38) = (cut9 (s.extract 7 38) 0 1 == [(says (s.extract 7 38)).flag] && (says (s.extract 7 38)).young) := rfl
  have hb7 : bAt (s.extract 7 38) 0 = bAt s 7 := bAt_extract s 7 38 0 (by omega)
  have hc7 : cut9 (s.extract 7 38) 0 1 = [bAt s 7] := by
    have hl := cut9_length (s.extract 7 38) 0 1 (by rw [ByteArray.size_extract]; omega)
    have hg := cut_get (s.extract 7 38) 0 1 0 (by omega)
    rw [Nat.add_zero, hb7] at hg
    match cut9 (s.extract 7 38) 0 1, hl, hg with
    | [a], _, hg => rw [← hg]; rfl
  have hsay : says (s.extract 7 38) = ⟨cut9 s 8 8, cut9 s 20 8, (numP (cut9 s 16 4) 4 : Int), (numP (cut9 s 28 2) 2 : Int), (numP (cut9 s 30 2) 2 : Int), (numP (cut9 s 32 2) 2 : Int), (numP (cut9 s 34 2) 2 : Int), (numP (cut9 s 36 2) 2 : Int), bAt s 7 &&& 1 != 0, bAt s 7 &&& 128 != 0⟩ := by
    unfold says
    rw [hb7, cut_of s 1 8 (by omega), cut_of s 13 8 (by omega), cut_of s 9 4 (by omega), cut_of s 21 2 (by omega), cut_of s 23 2 (by omega), cut_of s 25 2 (by omega), cut_of s 27 2 (by omega), cut_of s 29 2 (by omega)]
  have hflag : (says (s.extract 7 38)).flag = flagP (bAt s 7 &&& 1 != 0) (bAt s 7 &&& 128 != 0) := by rw [hsay]; rfl
  have hyoung : (says (s.extract 7 38)).young = decide ((numP (cut9 s 30 2) 2 : Int) < (numP (cut9 s 32 2) 2 : Int)) := by rw [hsay]; rfl
  obtain ⟨q1, q2, q3⟩ := flag_facts (bAt s 7)
  rw [hc7, hflag, q3, hyoung] at hok
  rw [hok, hsay] at hy
  rw [hok] at hz
  obtain ⟨fb, hfb⟩ : ∃ fb, (bAt s 7).toNat = fb := ⟨_, rfl⟩
  have hfl : fb < 256 := by rw [← hfb]; exact UInt8.toNat_lt _
  rw [hfb] at q1 q2 hy hz
  generalize (bAt s 7 &&& 1 != 0) = ch at q1 hy
  generalize (bAt s 7 &&& 128 != 0) = ack at q2 hy
  have gR : ∀ k, k < 8 → bAt s (8 + k) = (cut9 s 8 8).getD k 0 := fun k hk => (cut_get s 8 8 k hk).symm
  have gB : ∀ k, k < 8 → bAt s (20 + k) = (cut9 s 20 8).getD k 0 := fun k hk => (cut_get s 20 8 k hk).symm
  have lR := cut9_length s 8 8 (by omega)
  have lB := cut9_length s 20 8 (by omega)
  generalize cut9 s 8 8 = R at *
  generalize cut9 s 20 8 = B at *
  have nC := fun W => refNumberAt s 16 4 20 rfl (by omega) (by omega) W
  generalize numP (cut9 s 16 4) 4 = C at *
  have HNC := Lib.hid nC
  have nP := fun W => refNumberAt s 28 2 30 rfl (by omega) (by omega) W
  generalize numP (cut9 s 28 2) 2 = P at *
  have HNP := Lib.hid nP
  have nA := fun W => refNumberAt s 30 2 32 rfl (by omega) (by omega) W
  generalize numP (cut9 s 30 2) 2 = A at *
  have HNA := Lib.hid nA
  have nT := fun W => refNumberAt s 32 2 34 rfl (by omega) (by omega) W
  generalize numP (cut9 s 32 2) 2 = T at *
  have HNT := Lib.hid nT
  have nH := fun W => refNumberAt s 34 2 36 rfl (by omega) (by omega) W
  generalize numP (cut9 s 34 2) 2 = H at *
  have HNH := Lib.hid nH
  have nD := fun W => refNumberAt s 36 2 38 rfl (by omega) (by omega) W
  generalize numP (cut9 s 36 2) 2 = D at *
  have HND := Lib.hid nD
  have HFB := Lib.hid (And.intro (show 7 < s.size by omega) hfb)
  have HR := Lib.hid gR
  have HB := Lib.hid gB
  have HLR := Lib.hid lR
  have HLB := Lib.hid lB
  have HQ := Lib.hid (And.intro q1 q2)
  have HZ := Lib.hid (And.intro hy hz)
  have H38 := Lib.hid h38
  have u20 : (20 : Int) ≤ (s.size : Int) := by omega
  have u30 : (30 : Int) ≤ (s.size : Int) := by omega
  have u32 : (32 : Int) ≤ (s.size : Int) := by omega
  have u34 : (34 : Int) ≤ (s.size : Int) := by omega
  have u36 : (36 : Int) ≤ (s.size : Int) := by omega
  have u38 : (38 : Int) ≤ (s.size : Int) := by omega
  clear nC nP nA nT nH nD hfb gR gB lR lB q1 q2 q3 hy hz hok hb7 hc7 hsay hflag hyoung h38
  go_enter Try.func16, Try.ntmps16
  go_upto_region 1 with fail
  change Code.wp _ _ _ _ (w.alloc (.cells bz.c 24))
  generalize w.alloc (.cells bz.c 24) = W0 at M ⊢
  go_upto_region 9 with (first
    | (refine wpExec rfl (.bool false) (exec_eqS (.tmp 12) (.const (.string ⟨noticeL.toArray⟩)) _ _ false HE1.out rfl rfl rfl) ?_)
    | (refine wpExec rfl (.bool (!true)) (exec_neqS (.tmp 16) (.const (.string ⟨wordL.toArray⟩)) _ _ true HE2.out rfl rfl rfl) ?_))
  clear HE1 HE2 h7 h72 h8
  go_upto_region 10 with fail
  replace M := M.alloc _ rfl 24 bz.c
  simp only [List.cons_append, List.nil_append] at M
  change Code.wp _ _ _ _ (W0.alloc (.cells bz.c 24))
  generalize W0.alloc (.cells bz.c 24) = W1 at M ⊢
  generalize W0.heap.size = gw at M ⊢
  go_upto_region 11 with fail
  go_loopw [6] (fun i wr => ∃ k : Nat, k ≤ 8 ∧ i = .int .i64 (k : Int) ∧ Mem w [(w.heap.size, 24, bz.c), (gw, 24, (B11.mk (fl8 R k) (fl8 B k) 0 0 0 0 0 0 false false).c)] wr) (fun i _ => 8 - (intOf i).toNat)
  case atStart => exact ⟨0, by omega, rfl, M⟩
  case round =>
    obtain ⟨k, hk, rfl, M⟩ := hrel
    by_cases hlt : k < 8
    · have t1 : decide ((k : Int) < 8) = true := by simp; omega
      have tk : (k : Int) < 8 := by omega
      have x0 : (B11.mk (fl8 R k) (fl8 B k) 0 0 0 0 0 0 false false).Fit := ⟨fl8_length R k HLR.out hk, fl8_length B k HLB.out hk⟩
      have x1 : (B11.mk (fl8 R (k + 1)) (fl8 B k) 0 0 0 0 0 0 false false).Fit := ⟨fl8_length R (k + 1) HLR.out (by omega), x0.b⟩
      have h38 := H38.out
      obtain ⟨a, hA⟩ : ∃ a, 8 + k = a := ⟨_, rfl⟩
      obtain ⟨b, hB⟩ : ∃ b, 20 + k = b := ⟨_, rfl⟩
      have za : IntKind.i64.wrap (8 + (k : Int)) = (a : Int) := by rw [IntWalk.i64_in _ (by omega)]; omega
      have zb : IntKind.i64.wrap (20 + (k : Int)) = (b : Int) := by rw [IntWalk.i64_in _ (by omega)]; omega
      have ea : bAt s a = R.getD k 0 := by rw [← hA]; exact HR.out k hlt
      have eb : bAt s b = B.getD k 0 := by rw [← hB]; exact HB.out k hlt
      have EA := Lib.hid (And.intro (show a < s.size by omega) ea)
      have EB := Lib.hid (And.intro (show b < s.size by omega) eb)
      have HA := Lib.hid hA
      clear hA hB ea eb h38
      have ck := (M.row 1 rfl).b_rk x0 k hlt
      have fk := (M.row 1 rfl).frozen k
      replace M := M.setCell 1 rfl k (.int .u8 ((R.getD k 0).toNat : Int))
      simp only [List.set_cons_zero, List.set_cons_succ] at M
      rw [set11_rk x0 k hlt, fl8_set R k HLR.out hlt] at M
      have HM := Lib.hid M
      clear M
      go_upto_region 14 with (first
        | (refine wpExec rfl (.int .u8 ((R.getD k 0).toNat : Int)) (by rw [← EA.out.2]; exact exec_index _ _ s a EA.out.1 rfl rfl rfl) ?_))
      change Code.wp _ _ _ _ (wr.setCell ⟨gw, k, none⟩ (.int .u8 ((R.getD k 0).toNat : Int)))
      have M := HM.out
      clear HM ck fk
      generalize wr.setCell ⟨gw, k, none⟩ (.int .u8 ((R.getD k 0).toNat : Int)) = W2 at M ⊢
      have ck := (M.row 1 rfl).b_bk x1 k hlt
      have fk := (M.row 1 rfl).frozen (8 + k)
      replace M := M.setCell 1 rfl (8 + k) (.int .u8 ((B.getD k 0).toNat : Int))
      simp only [List.set_cons_zero, List.set_cons_succ] at M
      rw [set11_bk x1 k hlt, fl8_set B k HLB.out hlt] at M
      have HM := Lib.hid M
      clear M
      go_wp2_with (first
        | (refine wpExec rfl (.int .u8 ((B.getD k 0).toNat : Int)) (by rw [← EB.out.2]; exact exec_index _ _ s b EB.out.1 rfl rfl rfl) ?_))
      go_roundw
      case rel => exact ⟨k + 1, by omega, by go_num, HM.out⟩
      case measure => simp [intOf]; omega
    · have hk2 : k = 8 := by omega
      subst hk2
      clear hlt hk
      rw [fl8_done R HLR.out, fl8_done B HLB.out] at M
      have t1 : decide (((8 : Nat) : Int) < 8) = false := by decide
      have x0 : (B11.mk R B 0 0 0 0 0 0 false false).Fit := ⟨HLR.out, HLB.out⟩
      clear HR HB
      go_wp2_with fail
      refine (HNC.out _).mono ?_
      rintro e w0 ⟨rfl, rfl⟩
      have cc := (M.row 1 rfl).b_cost x0
      have cz := (M.row 1 rfl).frozen 16
      replace M := M.setCell 1 rfl 16 (.int .i64 (C : Int))
      simp only [List.set_cons_zero, List.set_cons_succ] at M
      rw [set11_cost x0] at M
      have x1 : (B11.mk R B (C : Int) 0 0 0 0 0 false false).Fit := ⟨x0.r, x0.b⟩
      have HM := Lib.hid M
      clear M
      go_upto_region 16 with fail
      clear cc cz
      have M := HM.out
      clear HM
      change Code.wp _ _ _ _ (World.setCell _ ⟨gw, 16, none⟩ (.int .i64 (C : Int)))
      generalize World.setCell _ ⟨gw, 16, none⟩ (.int .i64 (C : Int)) = V0 at M ⊢
      go_wp2_with fail
      refine (HNP.out _).mono ?_
      rintro e w1 ⟨rfl, rfl⟩
      have cc := (M.row 1 rfl).b_port x1
      have cz := (M.row 1 rfl).frozen 17
      replace M := M.setCell 1 rfl 17 (.int .i64 (P : Int))
      simp only [List.set_cons_zero, List.set_cons_succ] at M
      rw [set11_port x1] at M
      have x2 : (B11.mk R B (C : Int) (P : Int) 0 0 0 0 false false).Fit := ⟨x1.r, x1.b⟩
      have HM := Lib.hid M
      clear M
      go_upto_region 17 with fail
      clear cc cz
      have M := HM.out
      clear HM
      change Code.wp _ _ _ _ (World.setCell _ ⟨gw, 17, none⟩ (.int .i64 (P : Int)))
      generalize World.setCell _ ⟨gw, 17, none⟩ (.int .i64 (P : Int)) = V1 at M ⊢
      go_wp2_with fail
      refine (HNA.out _).mono ?_
      rintro e w2 ⟨rfl, rfl⟩
      have cc := (M.row 1 rfl).b_age x2
      have cz := (M.row 1 rfl).frozen 18
      replace M := M.setCell 1 rfl 18 (.int .i64 (A : Int))
      simp only [List.set_cons_zero, List.set_cons_succ] at M
      rw [set11_age x2] at M
      have x3 : (B11.mk R B (C : Int) (P : Int) (A : Int) 0 0 0 false false).Fit := ⟨x2.r, x2.b⟩
      have HM := Lib.hid M
      clear M
      go_upto_region 18 with fail
      clear cc cz
      have M := HM.out
      clear HM
      change Code.wp _ _ _ _ (World.setCell _ ⟨gw, 18, none⟩ (.int .i64 (A : Int)))
      generalize World.setCell _ ⟨gw, 18, none⟩ (.int .i64 (A : Int)) = V2 at M ⊢
      go_wp2_with fail
      refine (HNT.out _).mono ?_
      rintro e w3 ⟨rfl, rfl⟩
      have cc := (M.row 1 rfl).b_top x3
      have cz := (M.row 1 rfl).frozen 19
      replace M := M.setCell 1 rfl 19 (.int .i64 (T : Int))
      simp only [List.set_cons_zero, List.set_cons_succ] at M
      rw [set11_top x3] at M
      have x4 : (B11.mk R B (C : Int) (P : Int) (A : Int) (T : Int) 0 0 false false).Fit := ⟨x3.r, x3.b⟩
      have HM := Lib.hid M
      clear M
      go_upto_region 19 with fail
      clear cc cz
      have M := HM.out
      clear HM
      change Code.wp _ _ _ _ (World.setCell _ ⟨gw, 19, none⟩ (.int .i64 (T : Int)))
      generalize World.setCell _ ⟨gw, 19, none⟩ (.int .i64 (T : Int)) = V3 at M ⊢
      go_wp2_with fail
      refine (HNH.out _).mono ?_
      rintro e w4 ⟨rfl, rfl⟩
      have cc := (M.row 1 rfl).b_hello x4
      have cz := (M.row 1 rfl).frozen 20
      replace M := M.setCell 1 rfl 20 (.int .i64 (H : Int))
      simp only [List.set_cons_zero, List.set_cons_succ] at M
      rw [set11_hello x4] at M
      have x5 : (B11.mk R B (C : Int) (P : Int) (A : Int) (T : Int) (H : Int) 0 false false).Fit := ⟨x4.r, x4.b⟩
      have HM := Lib.hid M
      clear M
      go_upto_region 20 with fail
      clear cc cz
      have M := HM.out
      clear HM
      change Code.wp _ _ _ _ (World.setCell _ ⟨gw, 20, none⟩ (.int .i64 (H : Int)))
      generalize World.setCell _ ⟨gw, 20, none⟩ (.int .i64 (H : Int)) = V4 at M ⊢
      go_wp2_with fail
      refine (HND.out _).mono ?_
      rintro e w5 ⟨rfl, rfl⟩
      have cc := (M.row 1 rfl).b_delay x5
      have cz := (M.row 1 rfl).frozen 21
      replace M := M.setCell 1 rfl 21 (.int .i64 (D : Int))
      simp only [List.set_cons_zero, List.set_cons_succ] at M
      rw [set11_delay x5] at M
      have x6 : (B11.mk R B (C : Int) (P : Int) (A : Int) (T : Int) (H : Int) (D : Int) false false).Fit := ⟨x5.r, x5.b⟩
      have HM := Lib.hid M
      clear M
      go_upto_region 21 with fail
      clear cc cz
      have M := HM.out
      clear HM
      change Code.wp _ _ _ _ (World.setCell _ ⟨gw, 21, none⟩ (.int .i64 (D : Int)))
      generalize World.setCell _ ⟨gw, 21, none⟩ (.int .i64 (D : Int)) = V5 at M ⊢
      have e1 := HQ.out.1
      have cc := (M.row 1 rfl).b_ch x6
      have cz := (M.row 1 rfl).frozen 22
      replace M := M.setCell 1 rfl 22 (.bool ch)
      simp only [List.set_cons_zero, List.set_cons_succ] at M
      rw [set11_ch x6] at M
      have x7 : (B11.mk R B (C : Int) (P : Int) (A : Int) (T : Int) (H : Int) (D : Int) ch false).Fit := ⟨x6.r, x6.b⟩
      have HM := Lib.hid M
      clear M
      go_upto_region 22 with (first
        | (refine wpExecG rfl (.int .u8 (fb : Int)) (by rw [← HFB.out.2]; exact exec_index _ _ s 7 HFB.out.1 rfl rfl rfl) ?_))
      clear cc cz e1
      have M := HM.out
      clear HM
      change Code.wp _ _ _ _ (World.setCell _ ⟨gw, 22, none⟩ (.bool ch))
      generalize World.setCell _ ⟨gw, 22, none⟩ (.bool ch) = V6 at M ⊢
      have e1 := HQ.out.2
      have cc := (M.row 1 rfl).b_ack x7
      have cz := (M.row 1 rfl).frozen 23
      replace M := M.setCell 1 rfl 23 (.bool ack)
      simp only [List.set_cons_zero, List.set_cons_succ] at M
      rw [set11_ack x7] at M
      have x8 : (B11.mk R B (C : Int) (P : Int) (A : Int) (T : Int) (H : Int) (D : Int) ch ack).Fit := ⟨x6.r, x6.b⟩
      have HM := Lib.hid M
      clear M
      go_upto_region 23 with (first
        | (refine wpExecG rfl (.int .u8 (fb : Int)) (by rw [← HFB.out.2]; exact exec_index _ _ s 7 HFB.out.1 rfl rfl rfl) ?_))
      clear cc cz e1
      have M := HM.out
      clear HM
      change Code.wp _ _ _ _ (World.setCell _ ⟨gw, 23, none⟩ (.bool ack))
      generalize World.setCell _ ⟨gw, 23, none⟩ (.bool ack) = V7 at M ⊢
      have ca := (M.row 1 rfl).b_age x8
      have ct := (M.row 1 rfl).b_top x8
      have r0 := M.row 0 rfl
      have r1 := M.row 1 rfl
      have HM0 := Lib.hid (M.store 0 rfl bz.c)
      have HM1 := Lib.hid (M.store 0 rfl (B11.mk R B (C : Int) (P : Int) (A : Int) (T : Int) (H : Int) (D : Int) ch ack).c)
      clear M x0 x1 x2 x3 x4 x5 x6 x7
      obtain ⟨hzy, hzn⟩ := HZ.out
      by_cases hyo : (A : Int) < (T : Int)
      · have ty : ¬ T ≤ A := by omega
        by_cases f0 : fb = 0
        · have hZE := hzy (by simp [f0, hyo])
          obtain ⟨hZ, hE⟩ := hZE
          have m0 : ((fb : Int) != 0) = false := by simp; omega
          clear hzy hzn hyo HZ f0 hfl
          go_wp2_with (first
            | (refine wpExecG rfl (.int .u8 (fb : Int)) (by rw [← HFB.out.2]; exact exec_index _ _ s 7 HFB.out.1 rfl rfl rfl) ?_)
            | (refine wpExec rfl (.agg (B11.mk R B (C : Int) (P : Int) (A : Int) (T : Int) (H : Int) (D : Int) ch ack).c) (exec_load_row 24 (.tmp 5) gw r1 Try.underlying24 rfl (r11_info x8) rfl rfl) ?_)
            | (refine wpList_store_row rfl 24 (.tmp 2) (.tmp 100) rfl w.heap.size (B11.mk R B (C : Int) (P : Int) (A : Int) (T : Int) (H : Int) (D : Int) ch ack).c rfl rfl 24 bz.c r0 (r11_info x8) (by rw [B11.size x8]; rfl) (B11.one _) ?_))
          exact bodyPost_ret (v := .tuple #[.agg (B11.mk R B (C : Int) (P : Int) (A : Int) (T : Int) (H : Int) (D : Int) ch ack).c, .bool false, .int .i64 0]) (results_row_reg2 rfl _ _ w.heap.size 24 (B11.mk R B (C : Int) (P : Int) (A : Int) (T : Int) (H : Int) (D : Int) ch ack).c (0, 0) _ rfl (HM1.out.row 0 rfl) Try.underlying24 rfl (r11_info x8) _ _ rfl rfl) rfl ⟨by first | rfl | rw [hZ, hE], HM1.out.below⟩
        by_cases f1 : fb = 1
        · have hZE := hzy (by simp [f1, hyo])
          obtain ⟨hZ, hE⟩ := hZE
          have m0 : ((fb : Int) != 0) = true := by simp; omega
          have m1 : ((fb : Int) != 1) = false := by simp; omega
          clear hzy hzn hyo HZ f0 f1 hfl
          go_wp2_with (first
            | (refine wpExecG rfl (.int .u8 (fb : Int)) (by rw [← HFB.out.2]; exact exec_index _ _ s 7 HFB.out.1 rfl rfl rfl) ?_)
            | (refine wpExec rfl (.agg (B11.mk R B (C : Int) (P : Int) (A : Int) (T : Int) (H : Int) (D : Int) ch ack).c) (exec_load_row 24 (.tmp 5) gw r1 Try.underlying24 rfl (r11_info x8) rfl rfl) ?_)
            | (refine wpList_store_row rfl 24 (.tmp 2) (.tmp 100) rfl w.heap.size (B11.mk R B (C : Int) (P : Int) (A : Int) (T : Int) (H : Int) (D : Int) ch ack).c rfl rfl 24 bz.c r0 (r11_info x8) (by rw [B11.size x8]; rfl) (B11.one _) ?_))
          exact bodyPost_ret (v := .tuple #[.agg (B11.mk R B (C : Int) (P : Int) (A : Int) (T : Int) (H : Int) (D : Int) ch ack).c, .bool false, .int .i64 0]) (results_row_reg2 rfl _ _ w.heap.size 24 (B11.mk R B (C : Int) (P : Int) (A : Int) (T : Int) (H : Int) (D : Int) ch ack).c (0, 0) _ rfl (HM1.out.row 0 rfl) Try.underlying24 rfl (r11_info x8) _ _ rfl rfl) rfl ⟨by first | rfl | rw [hZ, hE], HM1.out.below⟩
        by_cases f128 : fb = 128
        · have hZE := hzy (by simp [f128, hyo])
          obtain ⟨hZ, hE⟩ := hZE
          have m0 : ((fb : Int) != 0) = true := by simp; omega
          have m1 : ((fb : Int) != 1) = true := by simp; omega
          have m128 : ((fb : Int) != 128) = false := by simp; omega
          clear hzy hzn hyo HZ f0 f1 f128 hfl
          go_wp2_with (first
            | (refine wpExecG rfl (.int .u8 (fb : Int)) (by rw [← HFB.out.2]; exact exec_index _ _ s 7 HFB.out.1 rfl rfl rfl) ?_)
            | (refine wpExec rfl (.agg (B11.mk R B (C : Int) (P : Int) (A : Int) (T : Int) (H : Int) (D : Int) ch ack).c) (exec_load_row 24 (.tmp 5) gw r1 Try.underlying24 rfl (r11_info x8) rfl rfl) ?_)
            | (refine wpList_store_row rfl 24 (.tmp 2) (.tmp 100) rfl w.heap.size (B11.mk R B (C : Int) (P : Int) (A : Int) (T : Int) (H : Int) (D : Int) ch ack).c rfl rfl 24 bz.c r0 (r11_info x8) (by rw [B11.size x8]; rfl) (B11.one _) ?_))
          exact bodyPost_ret (v := .tuple #[.agg (B11.mk R B (C : Int) (P : Int) (A : Int) (T : Int) (H : Int) (D : Int) ch ack).c, .bool false, .int .i64 0]) (results_row_reg2 rfl _ _ w.heap.size 24 (B11.mk R B (C : Int) (P : Int) (A : Int) (T : Int) (H : Int) (D : Int) ch ack).c (0, 0) _ rfl (HM1.out.row 0 rfl) Try.underlying24 rfl (r11_info x8) _ _ rfl rfl) rfl ⟨by first | rfl | rw [hZ, hE], HM1.out.below⟩
        by_cases f129 : fb = 129
        · have hZE := hzy (by simp [f129, hyo])
          obtain ⟨hZ, hE⟩ := hZE
          have m0 : ((fb : Int) != 0) = true := by simp; omega
          have m1 : ((fb : Int) != 1) = true := by simp; omega
          have m128 : ((fb : Int) != 128) = true := by simp; omega
          have m129 : ((fb : Int) != 129) = false := by simp; omega
          clear hzy hzn hyo HZ f0 f1 f128 f129 hfl
          go_wp2_with (first
            | (refine wpExecG rfl (.int .u8 (fb : Int)) (by rw [← HFB.out.2]; exact exec_index _ _ s 7 HFB.out.1 rfl rfl rfl) ?_)
            | (refine wpExec rfl (.agg (B11.mk R B (C : Int) (P : Int) (A : Int) (T : Int) (H : Int) (D : Int) ch ack).c) (exec_load_row 24 (.tmp 5) gw r1 Try.underlying24 rfl (r11_info x8) rfl rfl) ?_)
            | (refine wpList_store_row rfl 24 (.tmp 2) (.tmp 100) rfl w.heap.size (B11.mk R B (C : Int) (P : Int) (A : Int) (T : Int) (H : Int) (D : Int) ch ack).c rfl rfl 24 bz.c r0 (r11_info x8) (by rw [B11.size x8]; rfl) (B11.one _) ?_))
          exact bodyPost_ret (v := .tuple #[.agg (B11.mk R B (C : Int) (P : Int) (A : Int) (T : Int) (H : Int) (D : Int) ch ack).c, .bool false, .int .i64 0]) (results_row_reg2 rfl _ _ w.heap.size 24 (B11.mk R B (C : Int) (P : Int) (A : Int) (T : Int) (H : Int) (D : Int) ch ack).c (0, 0) _ rfl (HM1.out.row 0 rfl) Try.underlying24 rfl (r11_info x8) _ _ rfl rfl) rfl ⟨by first | rfl | rw [hZ, hE], HM1.out.below⟩
        have hZE := hzn (by simp [f0, f1, f128, f129])
        obtain ⟨hZ, hE⟩ := hZE
        have m0 : ((fb : Int) != 0) = true := by simp; omega
        have m1 : ((fb : Int) != 1) = true := by simp; omega
        have m128 : ((fb : Int) != 128) = true := by simp; omega
        have m129 : ((fb : Int) != 129) = true := by simp; omega
        clear hzy hzn hyo HZ f0 f1 f128 f129 hfl ty
        go_wp2_with (first
          | (refine wpExecG rfl (.int .u8 (fb : Int)) (by rw [← HFB.out.2]; exact exec_index _ _ s 7 HFB.out.1 rfl rfl rfl) ?_)
          | (refine wpExec rfl (.agg bz.c) (build11rz rfl) ?_)
          | (refine wpList_store_row rfl 24 (.tmp 2) (.tmp 99) rfl w.heap.size bz.c rfl rfl 24 bz.c r0 (r11_info bz_fit) rfl (B11.one _) ?_))
        exact bodyPost_ret (v := .tuple #[.agg bz.c, .bool false, .int .i64 3]) (results_row_reg2 rfl _ _ w.heap.size 24 bz.c (0, 0) _ rfl (HM0.out.row 0 rfl) Try.underlying24 rfl (r11_info bz_fit) _ _ rfl rfl) rfl ⟨by first | rfl | rw [hZ, hE], HM0.out.below⟩
      · have ty : T ≤ A := by omega
        by_cases f0 : fb = 0
        · have hZE := hzn (by simp [hyo])
          obtain ⟨hZ, hE⟩ := hZE
          have m0 : ((fb : Int) != 0) = false := by simp; omega
          clear hzy hzn hyo HZ f0 hfl
          go_wp2_with (first
            | (refine wpExecG rfl (.int .u8 (fb : Int)) (by rw [← HFB.out.2]; exact exec_index _ _ s 7 HFB.out.1 rfl rfl rfl) ?_)
            | (refine wpExec rfl (.agg bz.c) (build11rz rfl) ?_)
            | (refine wpList_store_row rfl 24 (.tmp 2) (.tmp 99) rfl w.heap.size bz.c rfl rfl 24 bz.c r0 (r11_info bz_fit) rfl (B11.one _) ?_))
          exact bodyPost_ret (v := .tuple #[.agg bz.c, .bool false, .int .i64 3]) (results_row_reg2 rfl _ _ w.heap.size 24 bz.c (0, 0) _ rfl (HM0.out.row 0 rfl) Try.underlying24 rfl (r11_info bz_fit) _ _ rfl rfl) rfl ⟨by first | rfl | rw [hZ, hE], HM0.out.below⟩
        by_cases f1 : fb = 1
        · have hZE := hzn (by simp [hyo])
          obtain ⟨hZ, hE⟩ := hZE
          have m0 : ((fb : Int) != 0) = true := by simp; omega
          have m1 : ((fb : Int) != 1) = false := by simp; omega
          clear hzy hzn hyo HZ f0 f1 hfl
          go_wp2_with (first
            | (refine wpExecG rfl (.int .u8 (fb : Int)) (by rw [← HFB.out.2]; exact exec_index _ _ s 7 HFB.out.1 rfl rfl rfl) ?_)
            | (refine wpExec rfl (.agg bz.c) (build11rz rfl) ?_)
            | (refine wpList_store_row rfl 24 (.tmp 2) (.tmp 99) rfl w.heap.size bz.c rfl rfl 24 bz.c r0 (r11_info bz_fit) rfl (B11.one _) ?_))
          exact bodyPost_ret (v := .tuple #[.agg bz.c, .bool false, .int .i64 3]) (results_row_reg2 rfl _ _ w.heap.size 24 bz.c (0, 0) _ rfl (HM0.out.row 0 rfl) Try.underlying24 rfl (r11_info bz_fit) _ _ rfl rfl) rfl ⟨by first | rfl | rw [hZ, hE], HM0.out.below⟩
        by_cases f128 : fb = 128
        · have hZE := hzn (by simp [hyo])
          obtain ⟨hZ, hE⟩ := hZE
          have m0 : ((fb : Int) != 0) = true := by simp; omega
          have m1 : ((fb : Int) != 1) = true := by simp; omega
          have m128 : ((fb : Int) != 128) = false := by simp; omega
          clear hzy hzn hyo HZ f0 f1 f128 hfl
          go_wp2_with (first
            | (refine wpExecG rfl (.int .u8 (fb : Int)) (by rw [← HFB.out.2]; exact exec_index _ _ s 7 HFB.out.1 rfl rfl rfl) ?_)
            | (refine wpExec rfl (.agg bz.c) (build11rz rfl) ?_)
            | (refine wpList_store_row rfl 24 (.tmp 2) (.tmp 99) rfl w.heap.size bz.c rfl rfl 24 bz.c r0 (r11_info bz_fit) rfl (B11.one _) ?_))
          exact bodyPost_ret (v := .tuple #[.agg bz.c, .bool false, .int .i64 3]) (results_row_reg2 rfl _ _ w.heap.size 24 bz.c (0, 0) _ rfl (HM0.out.row 0 rfl) Try.underlying24 rfl (r11_info bz_fit) _ _ rfl rfl) rfl ⟨by first | rfl | rw [hZ, hE], HM0.out.below⟩
        by_cases f129 : fb = 129
        · have hZE := hzn (by simp [hyo])
          obtain ⟨hZ, hE⟩ := hZE
          have m0 : ((fb : Int) != 0) = true := by simp; omega
          have m1 : ((fb : Int) != 1) = true := by simp; omega
          have m128 : ((fb : Int) != 128) = true := by simp; omega
          have m129 : ((fb : Int) != 129) = false := by simp; omega
          clear hzy hzn hyo HZ f0 f1 f128 f129 hfl
          go_wp2_with (first
            | (refine wpExecG rfl (.int .u8 (fb : Int)) (by rw [← HFB.out.2]; exact exec_index _ _ s 7 HFB.out.1 rfl rfl rfl) ?_)
            | (refine wpExec rfl (.agg bz.c) (build11rz rfl) ?_)
            | (refine wpList_store_row rfl 24 (.tmp 2) (.tmp 99) rfl w.heap.size bz.c rfl rfl 24 bz.c r0 (r11_info bz_fit) rfl (B11.one _) ?_))
          exact bodyPost_ret (v := .tuple #[.agg bz.c, .bool false, .int .i64 3]) (results_row_reg2 rfl _ _ w.heap.size 24 bz.c (0, 0) _ rfl (HM0.out.row 0 rfl) Try.underlying24 rfl (r11_info bz_fit) _ _ rfl rfl) rfl ⟨by first | rfl | rw [hZ, hE], HM0.out.below⟩
        have hZE := hzn (by simp [f0, f1, f128, f129])
        obtain ⟨hZ, hE⟩ := hZE
        have m0 : ((fb : Int) != 0) = true := by simp; omega
        have m1 : ((fb : Int) != 1) = true := by simp; omega
        have m128 : ((fb : Int) != 128) = true := by simp; omega
        have m129 : ((fb : Int) != 129) = true := by simp; omega
        clear hzy hzn hyo HZ f0 f1 f128 f129 hfl ty
        go_wp2_with (first
          | (refine wpExecG rfl (.int .u8 (fb : Int)) (by rw [← HFB.out.2]; exact exec_index _ _ s 7 HFB.out.1 rfl rfl rfl) ?_)
          | (refine wpExec rfl (.agg bz.c) (build11rz rfl) ?_)
          | (refine wpList_store_row rfl 24 (.tmp 2) (.tmp 99) rfl w.heap.size bz.c rfl rfl 24 bz.c r0 (r11_info bz_fit) rfl (B11.one _) ?_))
        exact bodyPost_ret (v := .tuple #[.agg bz.c, .bool false, .int .i64 3]) (results_row_reg2 rfl _ _ w.heap.size 24 bz.c (0, 0) _ rfl (HM0.out.row 0 rfl) Try.underlying24 rfl (r11_info bz_fit) _ _ rfl rfl) rfl ⟨by first | rfl | rw [hZ, hE], HM0.out.below⟩
theorem refParse11_any (s : ByteArray) (w : World) : Calls Try.prog 16 #[.string s] w fun e w' => e = .returned (.tuple #[.agg (parse11 s).2.2.c, .bool (parse11 s).2.1, .int .i64 (parse11 s).1]) ∧ Below w.heap.size w w' := by
  unfold parse11
  by_cases h : s.size < 7
  · rw [if_pos h]
    exact refParse11_short s h w
  rw [if_neg h]
  by_cases hn : cut9 s 0 7 = noticeL
  · rw [if_pos hn]
    exact refParse11_told s (by omega) hn w
  rw [if_neg hn]
  by_cases hw : cut9 s 0 7 ≠ wordL
  · rw [if_pos hw]
    exact refParse11_form s (by omega) hn hw w
  rw [if_neg hw]
  have hw2 : cut9 s 0 7 = wordL := by simpa using hw
  by_cases h38 : s.size < 38
  · rw [if_pos h38]
    exact refParse11_cut s (by omega) hn hw2 h38 w
  rw [if_neg h38]
  cases hok : saysOk (s.extract 7 38) with
  | true => exact refParse11_word s hn hw2 (by omega) _ _ (fun _ => ⟨rfl, rfl⟩) (fun h2 => by rw [hok] at h2; cases h2) w
  | false => exact refParse11_word s hn hw2 (by omega) _ _ (fun h2 => by rw [hok] at h2; cases h2) (fun _ => ⟨rfl, rfl⟩) w
end Go.Proofs.Ytingcoojhfadgaa
