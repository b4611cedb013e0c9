/- poly.number, poly.marked and poly.lowest: walked. -/
import Derived.Test.YtfhjokbbaoldiaaPG
namespace Go.Proofs.Ytfhjokbbaoldiaa
open Go.RowKit
theorem pow_bytes (q r : Nat) : 2 ^ (8 * r) * 18446744073709551616 ^ q = 256 ^ (8 * q + r) := by
  rw [show 18446744073709551616 = 2 ^ 64 from rfl, show (256 : Nat) = 2 ^ 8 from rfl, ← Nat.pow_mul, ← Nat.pow_mul, ← Nat.pow_add]
  congr 1
  omega
theorem byte_fits (x b r : Nat) (hx : x < 2 ^ (8 * r)) (hb : b < 256) (hr : r < 8) : x + b * 2 ^ (8 * r) < 18446744073709551616 := by
  have h1 : (b + 1) * 2 ^ (8 * r) ≤ 256 * 2 ^ (8 * r) := Nat.mul_le_mul_right _ (by omega)
  have h2 : 256 * 2 ^ (8 * r) ≤ 2 ^ 64 := by
    rw [show (256 : Nat) = 2 ^ 8 from rfl, ← Nat.pow_add]
    exact Nat.pow_le_pow_right (by omega) (by omega)
  rw [Nat.add_mul, Nat.one_mul] at h1
  have h3 : (2 : Nat) ^ 64 = 18446744073709551616 := rfl
  omega
theorem or_byte (x b r : Nat) (hx : x < 2 ^ (8 * r)) (hb : b < 256) (hr : r < 8) : bits .or .u64 (x : Int) (IntKind.u64.wrap (IntKind.u64.wrap (b : Int) * 2 ^ (8 * r))) = ((x + b * 2 ^ (8 * r) : Nat) : Int) := by
  have hf := byte_fits x b r hx hb hr
  have e1 : IntKind.u64.wrap (b : Int) = (b : Int) := by rw [IntKind.wrap_u64]; omega
  have e2 : IntKind.u64.wrap ((b : Int) * 2 ^ (8 * r)) = ((b * 2 ^ (8 * r) : Nat) : Int) := by
    rw [show (b : Int) * 2 ^ (8 * r) = ((b * 2 ^ (8 * r) : Nat) : Int) from by simp, wrapN _ (by omega)]
  rw [e1, e2, u64_or_nat _ _ (by omega) (by omega), Nat.or_comm, nat_join (8 * r) _ _ (Nat.mul_mod_left _ _) hx, Nat.add_comm]
/-- a byte is laid into a number's words -/
theorem dg_byte (N b j : Nat) (hN : N < 256 ^ j) (hb : b < 256) (hj : j < 24) : (dg 18446744073709551616 N 3).getD (j / 8) 0 < 2 ^ (8 * (j % 8)) ∧
    (dg 18446744073709551616 N 3).set (j / 8) ((dg 18446744073709551616 N 3).getD (j / 8) 0 + b * 2 ^ (8 * (j % 8))) = dg 18446744073709551616 (N + b * 256 ^ j) 3 := by
  have hp := pow_bytes (j / 8) (j % 8)
  rw [show 8 * (j / 8) + j % 8 = j from by omega] at hp
  have hx : (dg 18446744073709551616 N 3).getD (j / 8) 0 < 2 ^ (8 * (j % 8)) := by
    rw [dg_getD _ _ _ _ (by omega)]
    refine Nat.lt_of_le_of_lt (Nat.mod_le _ _) ?_
    refine Nat.div_lt_of_lt_mul ?_
    rw [Nat.mul_comm, hp]
    exact hN
  refine ⟨hx, ?_⟩
  have hs := num_set 18446744073709551616 (dg 18446744073709551616 N 3) (j / 8) ((dg 18446744073709551616 N 3).getD (j / 8) 0 + b * 2 ^ (8 * (j % 8))) (by rw [dg_length]; omega)
  refine dg_of (by omega) ((dg_dig 18446744073709551616 N 3 (by omega)).set _ (byte_fits _ b _ hx hb (by omega))) (by rw [List.length_set, dg_length]) ?_
  rw [Nat.add_mul, Nat.mul_assoc, hp, num_dg] at hs
  have h24 : 256 ^ (j + 1) ≤ 256 ^ 24 := Nat.pow_le_pow_right (by omega) (by omega)
  have h1 : (b + 1) * 256 ^ j ≤ 256 * 256 ^ j := Nat.mul_le_mul_right _ (by omega)
  rw [Nat.pow_succ'] at h24
  rw [Nat.add_mul, Nat.one_mul] at h1
  have e24 : (256 : Nat) ^ 24 = 18446744073709551616 ^ 3 := by decide
  rw [e24] at h24
  have hl1 : N < 18446744073709551616 ^ 3 := by omega
  have hl2 : N + b * 256 ^ j < 18446744073709551616 ^ 3 := by omega
  rw [Nat.mod_eq_of_lt hl1] at hs
  rw [Nat.mod_eq_of_lt hl2]
  omega
theorem nb_take_lt (l : List UInt8) (j : Nat) : nb (l.take j) < 256 ^ j := by
  refine Nat.lt_of_lt_of_le (nb_lt _) (Nat.pow_le_pow_right (by omega) ?_)
  rw [List.length_take]
  omega
theorem tdivN (a : Nat) (b : Nat) : (a : Int).tdiv (b : Int) = ((a / b : Nat) : Int) := rfl
theorem tmodN (a : Nat) (b : Nat) : (a : Int).tmod (b : Int) = ((a % b : Nat) : Int) := rfl
set_option maxRecDepth 20000 in
set_option maxHeartbeats 1000000 in
theorem number_any (s : ByteArray) (hs : s.size ≤ 16) (w : World) :
    Calls Try.prog 34 #[.string s] w fun e w' => e = .returned (.agg (us (dg 18446744073709551616 (nb s.data.toList) 3))) ∧ Below w.heap.size w w' := by
  have hE := two_new w z3 z3 58 58
  have hz : us (dg 18446744073709551616 (nb (s.data.toList.take 0)) 3) = z3 := by rw [List.take_zero, show nb [] = 0 from rfl, us3]; rfl
  have hd : nb (s.data.toList.take s.size) = nb s.data.toList := by rw [List.take_of_length_le (by rw [len_list]; exact Nat.le_refl _)]
  rw [← hd]
  obtain ⟨R, hR⟩ : ∃ R, R = dg 18446744073709551616 (nb (s.data.toList.take s.size)) 3 := ⟨_, rfl⟩
  rw [← hR]
  have HR := Lib.hid hR
  clear hR
  have HD := Lib.hid hz
  clear hz hd
  go_enter Try.func34, Try.ntmps34
  go_upto_region 2 with fail
  change Code.wp _ _ _ _ ((w.alloc (.cells z3 58)).alloc (.cells z3 58))
  generalize (w.alloc (.cells z3 58)).alloc (.cells z3 58) = w0 at hE ⊢
  go_wp2
  go_loopw [7] (fun i wr => ∃ (j : Nat), j ≤ s.size ∧ i = .int .i64 (j : Int) ∧ Has wr w.heap.size 58 z3 ∧ Has wr (w.heap.size + 1) 58 (us (dg 18446744073709551616 (nb (s.data.toList.take j)) 3)) ∧ Below w.heap.size w wr) (fun i _ => s.size - (intOf i).toNat)
  case atStart => exact ⟨0, by omega, rfl, hE.1, by rw [HD.out]; exact hE.2.1, hE.2.2⟩
  case round =>
    clear hE w0
    obtain ⟨j, hj, rfl, i1, i2, hb⟩ := hrel
    by_cases hlt : j < s.size
    · have t1 : decide ((j : Int) < (s.size : Int)) = true := by simp; omega
      have hq : (j : Int).tdiv 8 = ((j / 8 : Nat) : Int) := tdivN j 8
      have hq3 : ¬ ((3 : Int) ≤ ((j / 8 : Nat) : Int)) := by omega
      have hr : (j : Int).tmod 8 = ((j % 8 : Nat) : Int) := tmodN j 8
      have c1 := i2.drew.u64 (j / 8) (by rw [dg_length]; omega)
      have f1 := i2.drew.frozen (j / 8)
      have hbt : (bAt s j).toNat < 256 := (bAt s j).toNat_lt
      obtain ⟨hx, hset⟩ := dg_byte (nb (s.data.toList.take j)) (bAt s j).toNat j (nb_take_lt _ _) hbt (by omega)
      have hnt : nb (s.data.toList.take (j + 1)) = nb (s.data.toList.take j) + (bAt s j).toNat * 256 ^ j := nb_take_succ _ j (by rw [len_list]; exact hlt)
      rw [← hnt] at hset
      have hor := or_byte _ _ (j % 8) hx hbt (by omega)
      rw [← bAt_eq s j hlt] at hor hset
      have j2 := i2.setU (j / 8) ((dg 18446744073709551616 (nb (s.data.toList.take j)) 3).getD (j / 8) 0 + s[j].toNat * 2 ^ (8 * (j % 8)))
      rw [hset] at j2
      have j1 := i1.other (p := ⟨w.heap.size + 1, j / 8, none⟩) (by show w.heap.size ≠ w.heap.size + 1; omega) (U64 ((dg 18446744073709551616 (nb (s.data.toList.take j)) 3).getD (j / 8) 0 + s[j].toNat * 2 ^ (8 * (j % 8))))
      have jb := hb.setCell (p := ⟨w.heap.size + 1, j / 8, none⟩) (by show w.heap.size ≤ w.heap.size + 1; omega) (U64 ((dg 18446744073709551616 (nb (s.data.toList.take j)) 3).getD (j / 8) 0 + s[j].toNat * 2 ^ (8 * (j % 8))))
      generalize (dg 18446744073709551616 (nb (s.data.toList.take j)) 3).getD (j / 8) 0 + s[j].toNat * 2 ^ (8 * (j % 8)) = y at hor j1 j2 jb
      generalize (dg 18446744073709551616 (nb (s.data.toList.take j)) 3).getD (j / 8) 0 = x at c1 hor
      have HJ := Lib.hid (And.intro j1.drew (And.intro j2.drew jb.drew))
      have HOR := Lib.hid hor
      clear j1 j2 jb hor hx hset hnt hbt i1 i2 hb
      generalize hqq : j / 8 = q at *
      generalize hrr : j % 8 = r at *
      go_wp2_with fail
      go_region
      rw [HOR.out]
      go_wp2
      go_roundw
      case rel => exact ⟨j + 1, by omega, by go_num, HJ.out⟩
      case measure => simp [intOf]; omega
    · have hj2 : j = s.size := by omega
      subst hj2
      have hl : (dg 18446744073709551616 (nb (s.data.toList.take s.size)) 3).length = 3 := dg_length _ _ _
      rw [← HR.out] at i2 hl
      have HL := Lib.hid hl
      clear HR
      have t1 : decide ((s.size : Int) < (s.size : Int)) = false := by simp
      clear hl HD
      go_wp2_with (first
        | (refine wpList_load_row rfl 58 (.tmp 3) rfl (w.heap.size + 1) rfl 58 (us R) (0, 0) _ i2 Try.underlying58 rfl (info3 R HL.out) ?_)
        | (refine wpList_store_row rfl 58 (.tmp 2) (.tmp 25) rfl w.heap.size (us R) rfl rfl 58 z3 i1 (info3 R HL.out) (z3_size R HL.out) (us_one R) ?_))
      refine bodyPost_ret (v := .agg (us R)) (results_cell_row rfl _ _ w.heap.size 58 (us R) (0, 0) _ rfl (i1.setRow _) Try.underlying58 rfl (info3 R HL.out)) rfl ⟨rfl, below_setRow hb (Nat.le_refl _) _⟩
set_option maxRecDepth 20000 in
set_option maxHeartbeats 1000000 in
theorem marked_any (s : ByteArray) (hs : s.size ≤ 16) (w : World) :
    Calls Try.prog 36 #[.string s] w fun e w' => e = .returned (.agg (us (dg 18446744073709551616 (nb s.data.toList + 256 ^ s.size) 3))) ∧ Below w.heap.size w w' := by
  have HN := Lib.hid (number_any s hs)
  have hb0 := nb_lt s.data.toList
  rw [len_list] at hb0
  obtain ⟨hx, hset⟩ := dg_byte (nb s.data.toList) 1 s.size hb0 (by omega) (by omega)
  rw [Nat.one_mul, Nat.one_mul] at hset
  have hor := or_byte _ 1 (s.size % 8) hx (by omega) (by omega)
  have hl : (dg 18446744073709551616 (nb s.data.toList) 3).length = 3 := dg_length _ _ _
  have hl2 : (dg 18446744073709551616 (nb s.data.toList + 256 ^ s.size) 3).length = 3 := dg_length _ _ _
  rw [Nat.one_mul, show IntKind.u64.wrap ((1 : Nat) : Int) = 1 from rfl, Int.one_mul] at hor
  generalize dg 18446744073709551616 (nb s.data.toList + 256 ^ s.size) 3 = R at hset hl2 ⊢
  generalize dg 18446744073709551616 (nb s.data.toList) 3 = o at HN hx hset hor hl
  have hq : (s.size : Int).tdiv 8 = ((s.size / 8 : Nat) : Int) := tdivN s.size 8
  have hq3 : ¬ ((3 : Int) ≤ ((s.size / 8 : Nat) : Int)) := by omega
  have hr : (s.size : Int).tmod 8 = ((s.size % 8 : Nat) : Int) := tmodN s.size 8
  have hqn : s.size / 8 < 3 := by omega
  have hrn : s.size % 8 < 8 := by omega
  generalize s.size % 8 = r at *
  generalize s.size / 8 = q at *
  generalize o.getD q 0 + 2 ^ (8 * r) = y at hset hor
  have HSET := Lib.hid hset
  have HL := Lib.hid hl
  have HL2 := Lib.hid hl2
  clear hx hset hl hl2 hb0
  have hF := Has.fresh w 58 z3
  have hbf : Below w.heap.size w (w.alloc (.cells z3 58)) := (Below.refl _ _).alloc (Nat.le_refl _) _
  go_enter Try.func36, Try.ntmps36
  go_upto_region 1 with fail
  change Code.wp _ _ _ _ (w.alloc (.cells z3 58))
  generalize w.alloc (.cells z3 58) = w0 at hF hbf ⊢
  go_wp2_with fail
  go_at_call 34
  refine (HN.out _).mono ?_
  rintro e w1 ⟨rfl, hb1⟩
  replace hF := hF.below hb1 hF.lt
  replace hbf := hbf.trans (hb1.mono hbf.size)
  clear hb1 w0 HN
  have i2 : Has (w1.alloc (.cells z3 58)) w1.heap.size 58 z3 := Has.fresh w1 58 _
  go_upto_region 2 with (refine wpList_store_row rfl 58 (.tmp 3) (.tmp 5) rfl w1.heap.size (us o) rfl rfl 58 z3 i2 (info3 o HL.out) (z3_size o HL.out) (us_one o) ?_)
  change Code.wp _ _ _ _ ((w1.alloc (.cells z3 58)).setRow w1.heap.size (us o))
  have hne : w.heap.size < w1.heap.size := hF.lt
  replace i2 := i2.setRow (us o)
  replace hF := (hF.alloc (.cells z3 58)).setRow_other (g' := w1.heap.size) (by omega) (us o)
  replace hbf := below_setRow (hbf.alloc hbf.size (.cells z3 58)) (g := w1.heap.size) (by omega) (us o)
  generalize (w1.alloc (.cells z3 58)).setRow w1.heap.size (us o) = w2 at i2 hF hbf ⊢
  generalize w1.heap.size = g at hne i2 hF hbf ⊢
  clear w1
  have c1 := i2.drew.u64 q (by rw [HL.out]; omega)
  have f1 := i2.drew.frozen q
  have j2 := (i2.setU q y).drew
  rw [HSET.out] at j2
  have j1 := (hF.other (p := ⟨g, q, none⟩) (by show w.heap.size ≠ g; omega) (U64 y)).drew
  have jb := (hbf.setCell (p := ⟨g, q, none⟩) (by show w.heap.size ≤ g; omega) (U64 y)).drew
  generalize o.getD q 0 = x at c1 hor
  have HOR := Lib.hid hor
  have HJ := Lib.hid (And.intro j1 (And.intro j2 jb))
  clear j1 j2 jb hor i2 hF hbf hne
  have hwq : IntKind.i64.wrap (q : Int) = (q : Int) := by rw [IntWalk.i64_in _ (by omega)]
  have hwr : IntKind.i64.wrap (r : Int) = (r : Int) := by rw [IntWalk.i64_in _ (by omega)]
  have hw8 : IntKind.i64.wrap (8 * (r : Int)) = 8 * (r : Int) := by rw [IntWalk.i64_in _ (by omega)]
  simp only [Act.put]
  go_region
  rw [HOR.out]
  obtain ⟨j1, j2, jb⟩ := HJ.out
  clear HJ c1 f1 HOR
  generalize (w2.setCell ⟨g, q, none⟩ (U64 y)).drew = w3 at j1 j2 jb ⊢
  go_wp2_with (first
    | (refine wpList_load_row rfl 58 (.tmp 3) rfl g rfl 58 (us R) (0, 0) _ j2 Try.underlying58 rfl (info3 R HL2.out) ?_)
    | (refine wpList_store_row rfl 58 (.tmp 2) (.tmp 18) rfl w.heap.size (us R) rfl rfl 58 z3 j1 (info3 R HL2.out) (z3_size R HL2.out) (us_one R) ?_))
  refine bodyPost_ret (v := .agg (us R)) (results_cell_row rfl _ _ w.heap.size 58 (us R) (0, 0) _ rfl (j1.setRow _) Try.underlying58 rfl (info3 R HL2.out)) rfl ⟨rfl, below_setRow jb (Nat.le_refl _) _⟩
/-- a byte of a number, out of its words -/
theorem word_byte (N j k : Nat) (hj : j < 8 * k) : (dg 18446744073709551616 N k).getD (j / 8) 0 / 2 ^ (8 * (j % 8)) % 256 = N / 256 ^ j % 256 := by
  rw [dg_getD _ _ _ _ (by omega)]
  have hp := pow_bytes (j / 8) (j % 8)
  rw [show 8 * (j / 8) + j % 8 = j from by omega] at hp
  have hK : 18446744073709551616 = 2 ^ (8 * (j % 8)) * (256 * 2 ^ (56 - 8 * (j % 8))) := by
    rw [show (256 : Nat) = 2 ^ 8 from rfl, ← Nat.pow_add, ← Nat.pow_add, show 8 * (j % 8) + (8 + (56 - 8 * (j % 8))) = 64 from by omega]
  have e : ∀ m, m % 18446744073709551616 / 2 ^ (8 * (j % 8)) % 256 = m / 2 ^ (8 * (j % 8)) % 256 := fun m => by
    rw [hK, Nat.mod_mul_right_div_self, Nat.mod_mul_right_mod]
  rw [e, Nat.div_div_eq_div_mul, Nat.mul_comm, hp]
theorem padB_set (xs : List UInt8) (n j : Nat) (hj : j < xs.length) (hn : j < n) : (xs.take j ++ List.replicate (n - j) 0).set j (xs.getD j 0) = xs.take (j + 1) ++ List.replicate (n - (j + 1)) 0 := by
  have hl : (xs.take j).length = j := by rw [List.length_take]; omega
  rw [List.set_append_right _ _ (by omega), hl, Nat.sub_self, show n - j = (n - (j + 1)) + 1 from by omega, List.replicate_succ, List.set_cons_zero, List.take_succ_eq_append_getElem hj, List.getD_eq_getElem?_getD, List.getElem?_eq_getElem hj]
  simp only [Option.getD_some, List.append_assoc, List.cons_append, List.nil_append]
theorem padB_length (xs : List UInt8) (n j : Nat) (hj : j ≤ xs.length) (hn : j ≤ n) : (xs.take j ++ List.replicate (n - j) 0).length = n := by
  rw [List.length_append, List.length_take, List.length_replicate]; omega
def zb16 : Array Value := bs (List.replicate 16 0)
theorem infoB16 (l : List UInt8) (hl : l.length = 16) : (Try.prog.info? 42).map (·.size) = some (bs l).size := by
  rw [bs_size, hl]; exact (by kernel_rfl : (Try.prog.info? 42).map (·.size) = some 16)
theorem zb16_size (l : List UInt8) (hl : l.length = 16) : zb16.size = (bs l).size := by unfold zb16; rw [bs_size, bs_size, hl]; rfl
theorem shr_byte (x r : Nat) : IntKind.u8.wrap ((x : Int) / 2 ^ (8 * r)) = ((x / 2 ^ (8 * r) % 256 : Nat) : Int) := by
  rw [IntKind.wrap_u8']
  simp
set_option maxRecDepth 20000 in
set_option maxHeartbeats 1000000 in
theorem lowest_any (N : Nat) (w : World) :
    Calls Try.prog 40 #[.agg (us (dg 18446744073709551616 N 3))] w fun e w' => e = .returned (.agg (bs (lowB N 16))) ∧ Below w.heap.size w w' := by
  have hE := three_new w (us (dg 18446744073709551616 N 3)) zb16 zb16 58 42 42
  have hby : ∀ j, j < 16 → (dg 18446744073709551616 N 3).getD (j / 8) 0 / 2 ^ (8 * (j % 8)) % 256 = ((lowB N 16).getD j 0).toNat := fun j hj => by
    rw [word_byte N j 3 (by omega), lowB_getD N 16 j hj, UInt8.toNat_ofNat', Nat.mod_eq_of_lt (Nat.mod_lt _ (by omega))]
  have hll := lowB_length N 16
  have hlx : (dg 18446744073709551616 N 3).length = 3 := dg_length _ _ _
  generalize lowB N 16 = R at hby hll ⊢
  generalize dg 18446744073709551616 N 3 = xs at hE hby hlx ⊢
  have HBY := Lib.hid hby
  have HLL := Lib.hid hll
  have HLX := Lib.hid hlx
  clear hby hll hlx
  go_enter Try.func40, Try.ntmps40
  go_upto_region 2 with fail
  change Code.wp _ _ _ _ (((w.alloc (.cells (us xs) 58)).alloc (.cells zb16 42)).alloc (.cells zb16 42))
  generalize ((w.alloc (.cells (us xs) 58)).alloc (.cells zb16 42)).alloc (.cells zb16 42) = w0 at hE ⊢
  go_wp2
  go_loopw [5] (fun i wr => ∃ (j : Nat), j ≤ 16 ∧ i = .int .i64 (j : Int) ∧ Has wr w.heap.size 58 (us xs) ∧ Has wr (w.heap.size + 1) 42 zb16 ∧ Has wr (w.heap.size + 2) 42 (bs (R.take j ++ List.replicate (16 - j) 0)) ∧ Below w.heap.size w wr) (fun i _ => 16 - (intOf i).toNat)
  case atStart => exact ⟨0, by omega, rfl, hE⟩
  case round =>
    clear hE w0
    obtain ⟨j, hj, rfl, i1, i2, i3, hb⟩ := hrel
    by_cases hlt : j < 16
    · have t1 : decide ((j : Int) < 16) = true := by simp; omega
      have hj16 : ¬ ((16 : Int) ≤ (j : Int)) := by omega
      have hq : (j : Int).tdiv 8 = ((j / 8 : Nat) : Int) := tdivN j 8
      have hq3 : ¬ ((3 : Int) ≤ ((j / 8 : Nat) : Int)) := by omega
      have hr : (j : Int).tmod 8 = ((j % 8 : Nat) : Int) := tmodN j 8
      have c1 := i1.u64 (j / 8) (by rw [HLX.out]; omega)
      have hby := shr_byte (xs.getD (j / 8) 0) (j % 8)
      rw [HBY.out j hlt] at hby
      have c3 := i3.byte j (by rw [padB_length R 16 j (by rw [HLL.out]; omega) (by omega)]; omega)
      have f3 := i3.frozen j
      have j3 := i3.setB j (R.getD j 0)
      rw [padB_set R 16 j (by rw [HLL.out]; omega) (by omega)] at j3
      have j1 := i1.other (p := ⟨w.heap.size + 2, j, none⟩) (by show w.heap.size ≠ w.heap.size + 2; omega) (B8 (R.getD j 0))
      have j2 := i2.other (p := ⟨w.heap.size + 2, j, none⟩) (by show w.heap.size + 1 ≠ w.heap.size + 2; omega) (B8 (R.getD j 0))
      have jb := hb.setCell (p := ⟨w.heap.size + 2, j, none⟩) (by show w.heap.size ≤ w.heap.size + 2; omega) (B8 (R.getD j 0))
      generalize R.getD j 0 = y at hby j1 j2 j3 jb
      generalize (List.take j R ++ List.replicate (16 - j) 0).getD j 0 = m at c3
      generalize xs.getD (j / 8) 0 = x at c1 hby
      have HJ := Lib.hid (And.intro j1 (And.intro j2 (And.intro j3 jb)))
      have hrn : j % 8 < 8 := by omega
      have hqn : j / 8 < 3 := by omega
      clear j1 j2 j3 jb i1 i2 i3 hb
      generalize hqq : j / 8 = q at *
      generalize hrr : j % 8 = r at *
      have hwq : IntKind.i64.wrap (q : Int) = (q : Int) := by rw [IntWalk.i64_in _ (by omega)]
      have hwr : IntKind.i64.wrap (r : Int) = (r : Int) := by rw [IntWalk.i64_in _ (by omega)]
      have hw8 : IntKind.i64.wrap (8 * (r : Int)) = 8 * (r : Int) := by rw [IntWalk.i64_in _ (by omega)]
      go_wp2
      go_roundw
      case rel => exact ⟨j + 1, by omega, by go_num, HJ.out⟩
      case measure => simp [intOf]; omega
    · have hj2 : j = 16 := by omega
      subst hj2
      rw [Nat.sub_self, List.replicate_zero, List.append_nil, List.take_of_length_le (by rw [HLL.out]; omega)] at i3
      clear i1
      go_wp2_with (first
        | (refine wpList_load_row rfl 42 (.tmp 3) rfl (w.heap.size + 2) rfl 42 (bs R) (0, 0) _ i3 Try.underlying42 rfl (infoB16 R HLL.out) ?_)
        | (refine wpList_store_row rfl 42 (.tmp 2) (.tmp 20) rfl (w.heap.size + 1) (bs R) rfl rfl 42 zb16 i2 (infoB16 R HLL.out) (zb16_size R HLL.out) (bs_one R) ?_))
      refine bodyPost_ret (v := .agg (bs R)) (results_cell_row rfl _ _ (w.heap.size + 1) 42 (bs R) (0, 0) _ rfl (i2.setRow _) Try.underlying42 rfl (infoB16 R HLL.out)) rfl ⟨rfl, below_setRow hb (by omega) _⟩
end Go.Proofs.Ytfhjokbbaoldiaa
