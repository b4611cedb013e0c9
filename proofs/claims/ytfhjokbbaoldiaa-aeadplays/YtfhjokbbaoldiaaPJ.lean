/- poly.Sum: walked. -/
import Derived.Test.YtfhjokbbaoldiaaPI
import Derived.Test.YtfhjokbbaoldiaaHI
namespace Go.Proofs.Ytfhjokbbaoldiaa
open Go.RowKit
/-- the j-th 16 bytes of a text -/
def blkL (l : List UInt8) (j : Nat) : List UInt8 := (l.drop (16 * j)).take 16
/-- their number, with a byte 1 behind -/
def blkN (l : List UInt8) (j : Nat) : Nat := nb (blkL l j) + 256 ^ (blkL l j).length
/-- a, behind j times 16 bytes -/
def acc (r : Nat) (l : List UInt8) : Nat → Nat
  | 0 => 0
  | j + 1 => (acc r l j + blkN l j) * r % 1361129467683753853853498429727072845819
def polyN (k l : List UInt8) : Nat := acc (nb ((clampL k).take 16)) l ((l.length + 15) / 16) + nb ((clampL k).drop 16)
/-- a text's sum -/
def polyL (k l : List UInt8) : List UInt8 := lowB (polyN k l) 16
theorem fld_mod (L : Nat) : fld L % 1361129467683753853853498429727072845819 = L % 1361129467683753853853498429727072845819 := by
  unfold fld
  have hx : L = 1361129467683753853853498429727072845824 * (L / 1361129467683753853853498429727072845824) + L % 1361129467683753853853498429727072845824 := (Nat.div_add_mod L _).symm
  generalize L / 1361129467683753853853498429727072845824 = q at *
  generalize L % 1361129467683753853853498429727072845824 = r at *
  subst hx
  rw [show 1361129467683753853853498429727072845824 * q + r = r + 5 * q + 1361129467683753853853498429727072845819 * q from by omega, Nat.add_mul_mod_self_left]
theorem acc_lt (r : Nat) (l : List UInt8) (j : Nat) : acc r l j < 1361129467683753853853498429727072845819 := by
  cases j with
  | zero => exact (by decide : 0 < 1361129467683753853853498429727072845819)
  | succ j => exact Nat.mod_lt _ (by decide)
theorem nb16 (l : List UInt8) (h : l.length ≤ 16) : nb l < 340282366920938463463374607431768211456 := by
  refine Nat.lt_of_lt_of_le (nb_lt l) ?_
  exact Nat.le_trans (Nat.pow_le_pow_right (by omega) h) (by decide)
theorem blkL_le (l : List UInt8) (j : Nat) : (blkL l j).length ≤ 16 := by unfold blkL; rw [List.length_take]; omega
theorem blkN_lt (l : List UInt8) (j : Nat) : blkN l j < 680564733841876926926749214863536422912 := by
  have h1 := nb16 _ (blkL_le l j)
  have h2 : 256 ^ (blkL l j).length ≤ 256 ^ 16 := Nat.pow_le_pow_right (by omega) (blkL_le l j)
  have h3 : (256 : Nat) ^ 16 = 340282366920938463463374607431768211456 := by decide
  unfold blkN
  omega
theorem prod_lt {a r : Nat} (ha : a < 2041694201525630780780247644590609268736) (hr : r < 340282366920938463463374607431768211456) : a * r < 694752535786125602361643690389618330888306853384043440537014126411187642236928 := by
  have h1 : a * r ≤ 2041694201525630780780247644590609268736 * 340282366920938463463374607431768211456 := Nat.mul_le_mul (Nat.le_of_lt ha) (Nat.le_of_lt hr)
  have h2 : 2041694201525630780780247644590609268736 * 340282366920938463463374607431768211456 < 694752535786125602361643690389618330888306853384043440537014126411187642236928 := by decide
  omega
theorem exec_alloc3 {o : Oper} {ev : Operand → Value} {w : World} (ho : o.op = .alloc 58) : (execOp ev o).run Try.prog w = .ok (.value (.pointer (some ⟨w.heap.size, 0, none⟩))) (w.alloc (.cells z3 58)) := by
  unfold execOp
  simp only [ho]
  go_simp
  rfl
def szOf : Value → Nat
  | .string s => s.size
  | _ => 0
/-- what memory holds in the midst of a sum -/
def SumEnv (w : World) (g5 g6 : Nat) (c : List UInt8) (r a : List Nat) (W : World) : Prop :=
  Has W w.heap.size 23 (bs c) ∧ Has W (w.heap.size + 1) 42 zb16 ∧ Has W g5 58 (us r) ∧ Has W g6 58 (us a) ∧ Below w.heap.size w W
section
variable {w : World} {g5 g6 : Nat} {c : List UInt8} {r a : List Nat} {W W' : World}
theorem SumEnv.drew (h : SumEnv w g5 g6 c r a W) : SumEnv w g5 g6 c r a W.drew := ⟨h.1, h.2.1, h.2.2.1, h.2.2.2.1, h.2.2.2.2.drew⟩
theorem SumEnv.step (h : SumEnv w g5 g6 c r a W) (hb : Below W.heap.size W W') : SumEnv w g5 g6 c r a W' :=
  ⟨h.1.below hb h.1.lt, h.2.1.below hb h.2.1.lt, h.2.2.1.below hb h.2.2.1.lt, h.2.2.2.1.below hb h.2.2.2.1.lt, h.2.2.2.2.trans (hb.mono h.2.2.2.2.size)⟩
theorem SumEnv.alloc (h : SumEnv w g5 g6 c r a W) (o : Obj) : SumEnv w g5 g6 c r a (W.alloc o) := h.step ((Below.refl _ _).alloc (Nat.le_refl _) o)
theorem SumEnv.other (h : SumEnv w g5 g6 c r a W) {g : Nat} (h1 : w.heap.size + 1 < g) (h5 : g5 ≠ g) (h6 : g6 ≠ g) (cs : Array Value) : SumEnv w g5 g6 c r a (W.setRow g cs) :=
  ⟨h.1.setRow_other (by omega) _, h.2.1.setRow_other (by omega) _, h.2.2.1.setRow_other h5 _, h.2.2.2.1.setRow_other h6 _, below_setRow h.2.2.2.2 (by omega) _⟩
theorem SumEnv.put (h : SumEnv w g5 g6 c r a W) (h1 : w.heap.size + 1 < g6) (h5 : g5 ≠ g6) (a' : List Nat) : SumEnv w g5 g6 c r a' (W.setRow g6 (us a')) :=
  ⟨h.1.setRow_other (by omega) _, h.2.1.setRow_other (by omega) _, h.2.2.1.setRow_other h5 _, h.2.2.2.1.setRow _, below_setRow h.2.2.2.2 (by omega) _⟩
end
set_option maxRecDepth 20000 in
set_option maxHeartbeats 2000000 in
theorem polySum_any (k : List UInt8) (hk : k.length = 32) (s : ByteArray) (hs : s.size ≤ 1000000) (w : World) :
    Calls Try.prog 23 #[.agg (bs k), .string s] w fun e w' => e = .returned (.agg (bs (polyL k s.data.toList))) ∧ Below w.heap.size w w' := by
  have HCL := Lib.hid (clamp_any k hk)
  have hlc : (clampL k).length = 32 := by rw [clampL_length, hk]
  obtain ⟨R, hR⟩ : ∃ R, R = polyL k s.data.toList := ⟨_, rfl⟩
  rw [← hR]
  unfold polyL polyN at hR
  generalize clampL k = c at HCL hlc hR
  have hlr : (c.take 16).length = 16 := by rw [List.length_take]; omega
  have HNR := Lib.hid (number_any ⟨(c.take 16).toArray⟩ (by rw [str_size]; omega))
  rw [str_list] at HNR
  have hrb : nb (c.take 16) < 340282366920938463463374607431768211456 := nb16 _ (by omega)
  have hldr : (dg 18446744073709551616 (nb (c.take 16)) 3).length = 3 := dg_length _ _ _
  generalize hrr : nb (c.take 16) = r at *
  have HRR := Lib.hid hR
  have HLC := Lib.hid hlc
  have HLR := Lib.hid hlr
  have HDR := Lib.hid hldr
  have HKL := Lib.hid hk
  have HRB := Lib.hid hrb
  clear hR hlc hlr hldr hk hrb hrr
  have hE := two_new w (bs k) zb16 23 42
  go_enter Try.func23, Try.ntmps23
  go_upto_region 1 with fail
  change Code.wp _ _ _ _ ((w.alloc (.cells (bs k) 23)).alloc (.cells zb16 42))
  generalize (w.alloc (.cells (bs k) 23)).alloc (.cells zb16 42) = w0 at hE ⊢
  obtain ⟨i1, i2, hb⟩ := hE
  go_wp2_with (refine wpList_load_row rfl 23 (.tmp 2) rfl w.heap.size rfl 23 (bs k) (0, 0) _ i1 Try.underlying23 rfl (keyInfo k HKL.out) ?_)
  go_at_call 33
  refine (HCL.out _).mono ?_
  rintro e w1 ⟨rfl, hb1⟩
  replace i1 := i1.below hb1 i1.lt
  replace i2 := i2.below hb1 i2.lt
  replace hb := hb.trans (hb1.mono hb.size)
  clear hb1 w0 HCL
  go_upto_region 2 with (refine wpList_store_row rfl 23 (.tmp 2) (.tmp 10) rfl w.heap.size (bs c) rfl rfl 23 (bs k) i1 (keyInfo c HLC.out) (by rw [bs_size, bs_size, HKL.out, HLC.out]) (bs_one c) ?_)
  change Code.wp _ _ _ _ (w1.setRow w.heap.size (bs c))
  replace i1 := i1.setRow (bs c)
  replace i2 := i2.setRow_other (g' := w.heap.size) (by omega) (bs c)
  replace hb := below_setRow hb (g := w.heap.size) (Nat.le_refl _) (bs c)
  generalize w1.setRow w.heap.size (bs c) = w2 at i1 i2 hb ⊢
  clear w1
  have hcv := conv_range (i1.rangeMid 0 (c.take 16) (by rw [HLR.out, List.drop_zero])) 32 16 HLR.out
  go_wp2_with fail
  go_at_call 34
  refine (HNR.out _).mono ?_
  rintro e w3 ⟨rfl, hb1⟩
  replace i1 := i1.below hb1 i1.lt
  replace i2 := i2.below hb1 i2.lt
  replace hb := hb.trans (hb1.mono hb.size)
  clear hb1 w2 HNR hcv
  generalize hrd : dg 18446744073709551616 r 3 = rd at HDR ⊢
  have i3 : Has (w3.alloc (.cells z3 58)) w3.heap.size 58 z3 := Has.fresh w3 58 _
  have hg5 : w.heap.size + 1 < w3.heap.size := i2.lt
  go_upto_region 3 with (refine wpList_store_row rfl 58 (.tmp 5) (.tmp 13) rfl w3.heap.size (us rd) rfl rfl 58 z3 i3 (info3 rd HDR.out) (z3_size rd HDR.out) (us_one rd) ?_)
  change Code.wp _ _ _ _ ((w3.alloc (.cells z3 58)).setRow w3.heap.size (us rd))
  replace i3 := i3.setRow (us rd)
  replace i1 := (i1.alloc (.cells z3 58)).setRow_other (g' := w3.heap.size) (by omega) (us rd)
  replace i2 := (i2.alloc (.cells z3 58)).setRow_other (g' := w3.heap.size) (by omega) (us rd)
  replace hb := below_setRow (hb.alloc hb.size (.cells z3 58)) (g := w3.heap.size) (by omega) (us rd)
  generalize (w3.alloc (.cells z3 58)).setRow w3.heap.size (us rd) = w4 at i1 i2 i3 hb ⊢
  generalize w3.heap.size = g5 at hg5 i1 i2 i3 hb ⊢
  clear w3
  have hz : us (dg 18446744073709551616 (acc r s.data.toList 0) 3) = z3 := by rw [show acc r s.data.toList 0 = 0 from rfl, us3]; rfl
  have E : SumEnv w g5 w4.heap.size c rd (dg 18446744073709551616 (acc r s.data.toList 0) 3) (w4.alloc (.cells z3 58)) :=
    ⟨i1.alloc _, i2.alloc _, i3.alloc _, by rw [hz]; exact Has.fresh w4 58 _, hb.alloc hb.size _⟩
  have hg6 : g5 < w4.heap.size := i3.lt
  clear hz i1 i2 i3 hb
  go_upto_region 4 with fail
  change Code.wp _ _ _ _ (w4.alloc (.cells z3 58))
  generalize w4.alloc (.cells z3 58) = w5 at E ⊢
  generalize w4.heap.size = g6 at hg6 E ⊢
  clear w4
  have hll : s.data.toList.length = s.size := len_list s
  go_loopw [1] (fun sv wr => ∃ (j : Nat) (t : ByteArray), 16 * j < s.size + 16 ∧ sv = .string t ∧ t.data.toList = s.data.toList.drop (16 * j) ∧ SumEnv w g5 g6 c rd (dg 18446744073709551616 (acc r s.data.toList j) 3) wr) (fun sv _ => szOf sv)
  case atStart => exact ⟨0, s, by omega, rfl, rfl, E⟩
  case round =>
    clear E w5
    obtain ⟨j, t, hj, rfl, ht, E⟩ := hrel
    have hts : t.size = s.size - 16 * j := by rw [← len_list t, ht, List.length_drop, hll]
    by_cases hpos : 0 < t.size
    · have hpi : (0 : Int) < (t.size : Int) := by omega
      have t1 : decide ((0 : Int) < (t.size : Int)) = true := by simp; omega
      obtain ⟨m, hm⟩ : ∃ m, m = min 16 t.size := ⟨_, rfl⟩
      have hm16 : m ≤ 16 := by omega
      have hmt : m ≤ t.size := by omega
      have hm0 : 0 < m := by omega
      obtain ⟨b, hbb⟩ : ∃ b, b = t.extract 0 m := ⟨_, rfl⟩
      obtain ⟨t2, htt⟩ : ∃ t2, t2 = t.extract m t.size := ⟨_, rfl⟩
      have hbl : b.data.toList = blkL s.data.toList j := by
        rw [hbb, ByteArray.data_extract, Array.toList_extract, List.extract_eq_take_drop, ht]
        unfold blkL
        rw [Nat.sub_zero, List.drop_zero, hm]
        rcases Nat.lt_or_ge t.size 16 with h | h
        · rw [Nat.min_eq_right (by omega), List.take_of_length_le (by rw [List.length_drop, hll]; omega), List.take_of_length_le (by rw [List.length_drop, hll]; omega)]
        · rw [Nat.min_eq_left (by omega)]
      have ht2l : t2.data.toList = s.data.toList.drop (16 * (j + 1)) := by
        rw [htt, ByteArray.data_extract, Array.toList_extract, List.extract_eq_take_drop, ht, List.take_of_length_le (by rw [List.length_drop, List.length_drop, hll]; omega), List.drop_drop]
        rcases Nat.lt_or_ge t.size 16 with h | h
        · rw [List.drop_of_length_le (by rw [hll]; omega), List.drop_of_length_le (by rw [hll]; omega)]
        · rw [hm, Nat.min_eq_left (by omega), show 16 * j + 16 = 16 * (j + 1) from by omega]
      have ht2s : t2.size < t.size := by rw [htt, ByteArray.size_extract]; omega
      have hbs : b.size = m := by rw [hbb, ByteArray.size_extract]; omega
      have hM := marked_any b (by omega)
      have hbs2 : b.size = (blkL s.data.toList j).length := by rw [← hbl, len_list]
      have hbe : nb b.data.toList + 256 ^ b.size = blkN s.data.toList j := by unfold blkN; rw [hbl, hbs2]
      rw [hbe] at hM
      have hA := added_any (acc r s.data.toList j) (blkN s.data.toList j)
      have hal := acc_lt r s.data.toList j
      have hbn := blkN_lt s.data.toList j
      have hpl := prod_lt (a := acc r s.data.toList j + blkN s.data.toList j) (r := r) (by omega) HRB.out
      have hP := product_any (acc r s.data.toList j + blkN s.data.toList j) r (by omega) (by have := HRB.out; omega)
      have hFo := folded_any ((acc r s.data.toList j + blkN s.data.toList j) * r) (by omega)
      have hRe := rest_any (fld ((acc r s.data.toList j + blkN s.data.toList j) * r)) (by unfold fld; omega)
      rw [fld_mod] at hRe
      have hac : (acc r s.data.toList j + blkN s.data.toList j) * r % 1361129467683753853853498429727072845819 = acc r s.data.toList (j + 1) := rfl
      rw [hac] at hRe
      rw [hrd] at hP
      have la : (dg 18446744073709551616 (acc r s.data.toList j) 3).length = 3 := dg_length _ _ _
      have lg : (dg 18446744073709551616 (acc r s.data.toList j + blkN s.data.toList j) 3).length = 3 := dg_length _ _ _
      have ln : (dg 18446744073709551616 (acc r s.data.toList (j + 1)) 3).length = 3 := dg_length _ _ _
      generalize dg 18446744073709551616 (acc r s.data.toList j) 3 = ad at hA la E
      generalize dg 18446744073709551616 (blkN s.data.toList j) 3 = md at hA hM
      generalize dg 18446744073709551616 (acc r s.data.toList j + blkN s.data.toList j) 3 = gd at hA hP lg
      generalize dg 18446744073709551616 ((acc r s.data.toList j + blkN s.data.toList j) * r) 6 = pd at hP hFo
      generalize dg 18446744073709551616 (fld ((acc r s.data.toList j + blkN s.data.toList j) * r)) 3 = fd at hFo hRe
      generalize hnd : dg 18446744073709551616 (acc r s.data.toList (j + 1)) 3 = nd at hRe ln
      have HM := Lib.hid hM
      have HA := Lib.hid hA
      have HP := Lib.hid hP
      have HFo := Lib.hid hFo
      have HRe := Lib.hid hRe
      have HAD := Lib.hid la
      have HGD := Lib.hid lg
      have HND := Lib.hid ln
      have HNE := Lib.hid hnd
      have HT2 := Lib.hid (And.intro ht2l ht2s)
      have HBB := Lib.hid hbb
      have HTT := Lib.hid htt
      have hjs : 16 * (j + 1) < s.size + 16 := by omega
      clear hM hA hP hFo hRe la lg ln hbl ht2l ht2s hbs hbs2 hbe hal hbn hpl hac hnd hbb htt
      go_upto_region 5 with fail
      go_cut [7] (fun z wx => z = .int .i64 (m : Int) ∧ SumEnv w g5 g6 c rd ad wx)
      case first =>
        rcases Nat.lt_or_ge t.size 16 with h | h
        · have hm2 : m = t.size := by omega
          clear hm
          subst hm2
          have h1 : (t.size : Int) < 16 := by omega
          have hc : min (16 : Int) (t.size : Int) = (t.size : Int) := by omega
          clear hts
          go_wp2_with fail
          go_meet
          exact ⟨rfl, E⟩
        · have hm2 : m = 16 := by omega
          clear hm
          subst hm2
          have h1 : ¬ ((t.size : Int) < 16) := by omega
          have hc : min (16 : Int) (t.size : Int) = 16 := by omega
          clear hts
          go_wp2_with fail
          go_meet
          exact ⟨rfl, E⟩
      case rest =>
        clear E wr hts hm
        obtain ⟨rfl, E⟩ := hcut
        go_wp2_with fail
        have hmi : (m : Int) ≤ (t.size : Int) := by omega
        go_cut [8] (fun p wx => ∃ g8, p = .pointer (some ⟨g8, 0, none⟩) ∧ w.heap.size + 1 < g8 ∧ g5 ≠ g8 ∧ g6 ≠ g8 ∧ Has wx g8 58 (us gd) ∧ SumEnv w g5 g6 c rd ad wx)
        case first =>
          refine wp_region_noPanic ?_
          refine wp_region_held_drew (S := fun W => SumEnv w g5 g6 c rd ad W) (by kernel_rfl) E.drew (fun hS => ?_)
          refine take1 hS 0 20 (.agg (us ad)) _ rfl (by kernel_rfl) (by kernel_rfl) (by kernel_rfl) (fun _ _ _ h => h) rfl rfl (fun w' h => by exact exec_load_row 58 (.tmp 6) g6 h.2.2.2.1 Try.underlying58 rfl (info3 ad HAD.out) rfl rfl) ?_
          simp only [Act.put, List.setIfInBounds_toArray, List.set_cons_zero, List.set_cons_succ]
          refine take1 hS 1 21 (.string t) _ rfl (by kernel_rfl) (by kernel_rfl) (by kernel_rfl) (fun _ _ _ h => h) rfl rfl (fun w' h => by go_simp) ?_
          simp only [Act.put, List.setIfInBounds_toArray, List.set_cons_zero, List.set_cons_succ]
          refine take1 hS 2 22 (.int .i64 (m : Int)) _ rfl (by kernel_rfl) (by kernel_rfl) (by kernel_rfl) (fun _ _ _ h => h) rfl rfl (fun w' h => by go_simp) ?_
          simp only [Act.put, List.setIfInBounds_toArray, List.set_cons_zero, List.set_cons_succ]
          refine take1 hS 3 23 (.string b) _ rfl (by kernel_rfl) (by kernel_rfl) (by kernel_rfl) (fun _ _ _ h => h) rfl rfl (fun w' h => by rw [HBB.out]; go_simp) ?_
          simp only [Act.put, List.setIfInBounds_toArray, List.set_cons_zero, List.set_cons_succ]
          replace E := E.drew
          generalize wc.drew = w1 at E hS ⊢
          clear hS
          refine wpAnyH_all (rs := [4, 6]) (by kernel_rfl) (by simp) ?_
          intro i hi
          simp only [List.mem_cons, List.not_mem_nil, or_false] at hi
          rcases hi with rfl | rfl
          · refine wpOp_call (d := 24) (f := 36) (args := #[.string b]) (HM.out w1) rfl rfl rfl (by go_simp) ?_
            rintro e w2 ⟨rfl, hb1⟩
            replace E := E.step hb1
            refine ⟨_, rfl, E, ?_⟩
            simp only [Act.put, List.setIfInBounds_toArray, List.set_cons_zero, List.set_cons_succ]
            refine wpAnyH_all (rs := [5, 6]) (by kernel_rfl) (by simp) ?_
            intro i hi
            simp only [List.mem_cons, List.not_mem_nil, or_false] at hi
            rcases hi with rfl | rfl
            · refine wpOp_call (d := 25) (f := 35) (args := #[.agg (us ad), .agg (us md)]) (HA.out w2) rfl rfl rfl (by go_simp) ?_
              rintro e w3 ⟨rfl, hb1⟩
              replace E := E.step hb1
              refine ⟨_, rfl, E, ?_⟩
              simp only [Act.put, List.setIfInBounds_toArray, List.set_cons_zero, List.set_cons_succ]
              have hN : Has (w3.alloc (.cells z3 58)) w3.heap.size 58 z3 := Has.fresh w3 58 _
              have h8 := E.2.2.2.1.lt
              replace E := E.alloc (.cells z3 58)
              refine onlyVal 6 8 (.pointer (some ⟨w3.heap.size, 0, none⟩)) (w3.alloc (.cells z3 58)) _ (by kernel_rfl) rfl rfl rfl (exec_alloc3 rfl) E ?_
              simp only [Act.put, List.setIfInBounds_toArray, List.set_cons_zero, List.set_cons_succ]
              generalize w3.alloc (.cells z3 58) = w4 at E hN ⊢
              generalize w3.heap.size = g8 at h8 hN ⊢
              refine onlySkip 7 (w4.setRow g8 (us gd)) _ (by kernel_rfl) rfl rfl rfl (exec_store_row (P := Try.prog) (w := w4) 58 (.tmp 8) (.tmp 25) g8 (us gd) hN (info3 gd HGD.out) (z3_size gd HGD.out) (us_one gd) rfl rfl rfl) (E.other (by omega) (by omega) (by omega) _) ?_
              refine wpAnyH_done (by kernel_rfl) ?_ _
              refine NoPanic.normal ?_
              go_wp2_with fail
              go_meet
              exact ⟨g8, rfl, by omega, by omega, by omega, hN.setRow _, E.other (by omega) (by omega) (by omega) _⟩
            · have hN : Has (w2.alloc (.cells z3 58)) w2.heap.size 58 z3 := Has.fresh w2 58 _
              have h8 := E.2.2.2.1.lt
              replace E := E.alloc (.cells z3 58)
              refine wpOp_val (d := 8) (v := .pointer (some ⟨w2.heap.size, 0, none⟩)) (w' := w2.alloc (.cells z3 58)) rfl rfl rfl (exec_alloc3 rfl) ⟨E, ?_⟩
              simp only [Act.put, List.setIfInBounds_toArray, List.set_cons_zero, List.set_cons_succ]
              generalize w2.alloc (.cells z3 58) = w3 at E hN ⊢
              generalize w2.heap.size = g8 at h8 hN ⊢
              have hcall := HA.out w3
              refine onlyCall 5 25 _ _ _ (by kernel_rfl) rfl rfl rfl (by go_simp) hcall ?_
              rintro e w4 ⟨rfl, hb1⟩
              replace E := E.step hb1
              replace hN := hN.below hb1 hN.lt
              refine ⟨_, rfl, E, ?_⟩
              simp only [Act.put, List.setIfInBounds_toArray, List.set_cons_zero, List.set_cons_succ]
              refine onlySkip 7 (w4.setRow g8 (us gd)) _ (by kernel_rfl) rfl rfl rfl (exec_store_row (P := Try.prog) (w := w4) 58 (.tmp 8) (.tmp 25) g8 (us gd) hN (info3 gd HGD.out) (z3_size gd HGD.out) (us_one gd) rfl rfl rfl) (E.other (by omega) (by omega) (by omega) _) ?_
              refine wpAnyH_done (by kernel_rfl) ?_ _
              refine NoPanic.normal ?_
              go_wp2_with fail
              go_meet
              exact ⟨g8, rfl, by omega, by omega, by omega, hN.setRow _, E.other (by omega) (by omega) (by omega) _⟩
          · have hN : Has (w1.alloc (.cells z3 58)) w1.heap.size 58 z3 := Has.fresh w1 58 _
            have h8 := E.2.2.2.1.lt
            replace E := E.alloc (.cells z3 58)
            refine wpOp_val (d := 8) (v := .pointer (some ⟨w1.heap.size, 0, none⟩)) (w' := w1.alloc (.cells z3 58)) rfl rfl rfl (exec_alloc3 rfl) ⟨E, ?_⟩
            simp only [Act.put, List.setIfInBounds_toArray, List.set_cons_zero, List.set_cons_succ]
            generalize w1.alloc (.cells z3 58) = w2 at E hN ⊢
            generalize w1.heap.size = g8 at h8 hN ⊢
            have hcall := HM.out w2
            refine onlyCall 4 24 _ _ _ (by kernel_rfl) rfl rfl rfl (by go_simp) hcall ?_
            rintro e w3 ⟨rfl, hb1⟩
            replace E := E.step hb1
            replace hN := hN.below hb1 hN.lt
            refine ⟨_, rfl, E, ?_⟩
            simp only [Act.put, List.setIfInBounds_toArray, List.set_cons_zero, List.set_cons_succ]
            clear hcall hb1
            have hcall := HA.out w3
            refine onlyCall 5 25 _ _ _ (by kernel_rfl) rfl rfl rfl (by go_simp) hcall ?_
            rintro e w4 ⟨rfl, hb1⟩
            replace E := E.step hb1
            replace hN := hN.below hb1 hN.lt
            refine ⟨_, rfl, E, ?_⟩
            simp only [Act.put, List.setIfInBounds_toArray, List.set_cons_zero, List.set_cons_succ]
            refine onlySkip 7 (w4.setRow g8 (us gd)) _ (by kernel_rfl) rfl rfl rfl (exec_store_row (P := Try.prog) (w := w4) 58 (.tmp 8) (.tmp 25) g8 (us gd) hN (info3 gd HGD.out) (z3_size gd HGD.out) (us_one gd) rfl rfl rfl) (E.other (by omega) (by omega) (by omega) _) ?_
            refine wpAnyH_done (by kernel_rfl) ?_ _
            refine NoPanic.normal ?_
            go_wp2_with fail
            go_meet
            exact ⟨g8, rfl, by omega, by omega, by omega, hN.setRow _, E.other (by omega) (by omega) (by omega) _⟩
        case rest =>
          clear E
          obtain ⟨g8, rfl, h81, h85, h86, hN, E⟩ := hcut
          have l3 := E.2.2.1
          go_wp2_with (first
            | (refine wpList_load_row rfl 58 (.tmp 8) rfl g8 rfl 58 (us gd) (0, 0) _ hN Try.underlying58 rfl (info3 gd HGD.out) ?_)
            | (refine wpList_load_row rfl 58 (.tmp 5) rfl g5 rfl 58 (us rd) (0, 0) _ l3 Try.underlying58 rfl (info3 rd HDR.out) ?_))
          go_at_call 39
          refine (HP.out _).mono ?_
          rintro e w1 ⟨rfl, hb1⟩
          replace E := E.step hb1
          clear hb1 hN l3
          go_wp2_with fail
          go_at_call 38
          refine (HFo.out _).mono ?_
          rintro e w2 ⟨rfl, hb1⟩
          replace E := E.step hb1
          clear hb1 w1
          go_wp2_with fail
          go_at_call 37
          refine (HRe.out _).mono ?_
          rintro e w3 ⟨rfl, hb1⟩
          replace E := E.step hb1
          clear hb1 w2
          have l6 := E.2.2.2.1
          go_upto_region 8 with (refine wpList_store_row rfl 58 (.tmp 6) (.tmp 30) rfl g6 (us nd) rfl rfl 58 (us ad) l6 (info3 nd HND.out) (by rw [us_size, us_size, HND.out, HAD.out]) (us_one nd) ?_)
          change Code.wp _ _ _ _ (w3.setRow g6 (us nd))
          replace E := E.put (by omega) (by omega) nd
          generalize w3.setRow g6 (us nd) = w4 at E ⊢
          clear l6 w3
          have hsl := HTT.out
          go_wp2
          rw [← hsl]
          go_roundw
          case rel => exact ⟨j + 1, t2, hjs, rfl, HT2.out.1, by rw [HNE.out]; exact E⟩
          case measure => simp [szOf]; exact HT2.out.2
    · have hjn : (s.data.toList.length + 15) / 16 = j := by rw [hll]; omega
      have hRR := HRR.out
      rw [hjn] at hRR
      have hld : (c.drop 16).length = 16 := by rw [List.length_drop, HLC.out]
      have hN2 := number_any ⟨(c.drop 16).toArray⟩ (by rw [str_size]; omega)
      rw [str_list] at hN2
      have hA := added_any (acc r s.data.toList j) (nb (c.drop 16))
      have hLo := lowest_any (acc r s.data.toList j + nb (c.drop 16))
      rw [← hRR] at hLo
      have lR : R.length = 16 := by rw [hRR, lowB_length]
      have la : (dg 18446744073709551616 (acc r s.data.toList j) 3).length = 3 := dg_length _ _ _
      generalize dg 18446744073709551616 (acc r s.data.toList j) 3 = ad at hA la E
      generalize dg 18446744073709551616 (nb (c.drop 16)) 3 = td at hA hN2
      generalize dg 18446744073709551616 (acc r s.data.toList j + nb (c.drop 16)) 3 = od at hA hLo
      have HN2 := Lib.hid hN2
      have HA := Lib.hid hA
      have HLo := Lib.hid hLo
      have HAD := Lib.hid la
      have HLR2 := Lib.hid lR
      have HLD := Lib.hid hld
      have t0 : t.size = 0 := by omega
      have t1 : decide ((0 : Int) < (t.size : Int)) = false := decide_eq_false (by omega)
      have t2 : ¬ ((0 : Int) < (t.size : Int)) := by omega
      clear hN2 hA hLo la lR hld hRR hjn HRR hts t0
      go_wp2_with fail
      refine wp_region_noPanic ?_
      refine wp_region_held_drew (S := fun W => Has W w.heap.size 23 (bs c) ∧ Has W g6 58 (us ad)) (by kernel_rfl) ⟨E.1.drew, E.2.2.2.1.drew⟩ (fun hS => ?_)
      refine take1 hS 0 34 (.agg (us ad)) _ rfl (by kernel_rfl) (by kernel_rfl) (by kernel_rfl) (fun _ _ _ h => h) rfl rfl (fun w' h => by exact exec_load_row 58 (.tmp 6) g6 h.2 Try.underlying58 rfl (info3 ad HAD.out) rfl rfl) ?_
      simp only [Act.put, List.setIfInBounds_toArray, List.set_cons_zero, List.set_cons_succ]
      refine take1 hS 1 35 (.slice (some ⟨w.heap.size, 16, none⟩) 16 16) _ rfl (by kernel_rfl) (by kernel_rfl) (by kernel_rfl) (fun _ _ _ h => h) rfl rfl (fun w' h => by go_simp) ?_
      simp only [Act.put, List.setIfInBounds_toArray, List.set_cons_zero, List.set_cons_succ]
      refine take1 hS 2 36 (.string ⟨(c.drop 16).toArray⟩) _ rfl (by kernel_rfl) (by kernel_rfl) (by kernel_rfl) (fun _ _ _ h => h) rfl rfl (fun w' h => by have := conv_range (h.1.rangeMid 16 (c.drop 16) (by rw [HLD.out, List.take_of_length_le (by rw [HLD.out]; exact Nat.le_refl _)])) 16 16 HLD.out; go_simp) ?_
      simp only [Act.put, List.setIfInBounds_toArray, List.set_cons_zero, List.set_cons_succ]
      replace E := E.drew
      generalize wr.drew = w1 at E hS ⊢
      clear hS
      have hcall := HN2.out w1
      refine onlyCall 3 37 _ _ _ (by kernel_rfl) rfl rfl rfl (by go_simp) hcall ?_
      rintro e w2 ⟨rfl, hb1⟩
      replace E := E.step hb1
      refine ⟨_, rfl, ⟨E.1, E.2.2.2.1⟩, ?_⟩
      simp only [Act.put, List.setIfInBounds_toArray, List.set_cons_zero, List.set_cons_succ]
      clear hcall hb1
      have hcall := HA.out w2
      refine onlyCall 4 38 _ _ _ (by kernel_rfl) rfl rfl rfl (by go_simp) hcall ?_
      rintro e w3 ⟨rfl, hb1⟩
      replace E := E.step hb1
      refine ⟨_, rfl, ⟨E.1, E.2.2.2.1⟩, ?_⟩
      simp only [Act.put, List.setIfInBounds_toArray, List.set_cons_zero, List.set_cons_succ]
      clear hcall hb1
      have hcall := HLo.out w3
      refine onlyCall 5 39 _ _ _ (by kernel_rfl) rfl rfl rfl (by go_simp) hcall ?_
      rintro e w4 ⟨rfl, hb1⟩
      replace E := E.step hb1
      refine ⟨_, rfl, ⟨E.1, E.2.2.2.1⟩, ?_⟩
      simp only [Act.put, List.setIfInBounds_toArray, List.set_cons_zero, List.set_cons_succ]
      clear hcall hb1
      refine onlySkip 6 (w4.setRow (w.heap.size + 1) (bs R)) _ (by kernel_rfl) rfl rfl rfl (exec_store_row (P := Try.prog) (w := w4) 42 (.tmp 4) (.tmp 39) (w.heap.size + 1) (bs R) E.2.1 (infoB16 R HLR2.out) (zb16_size R HLR2.out) (bs_one R) rfl rfl rfl) ⟨E.1.setRow_other (by omega) _, E.2.2.2.1.setRow_other (by omega) _⟩ ?_
      refine wpAnyH_done (by kernel_rfl) ?_ _
      refine NoPanic.normal ?_
      go_wp2
      refine bodyPost_ret (v := .agg (bs R)) (results_cell_row rfl _ _ (w.heap.size + 1) 42 (bs R) (0, 0) _ rfl (E.2.1.setRow _) Try.underlying42 rfl (infoB16 R HLR2.out)) rfl ⟨rfl, below_setRow E.2.2.2.2 (by omega) _⟩
end Go.Proofs.Ytfhjokbbaoldiaa
