/- The law OctBack: walked. -/
import Derived.Test.YtbeeebnocliaiaaDoorOZ
import Derived.Test.YtbeeebnocliaiaaDoorOC
import Derived.Test.YtbeeebnocliaiaaDoorNA
import Derived.Test.YtbeeebnocliaiaaDoorMP
namespace Go.Proofs.YtbeeebnocliaiaaDoor
open Go.ChangeShapes Go.WideShapes Go.ChangeAt Go.RowKit
theorem num_two (n : Nat) (h : n < 65536) : numP (beTail n 2) 2 = n := by
  show (0 * 256 + (UInt8.ofNat (n / 256 ^ 1)).toNat) * 256 + (UInt8.ofNat (n / 256 ^ 0)).toNat = n
  rw [UInt8.toNat_ofNat', UInt8.toNat_ofNat', Nat.pow_one, Nat.pow_zero, Nat.div_one]
  omega
theorem num_four (n : Nat) (h : n < 4294967296) : numP (beTail n 4) 4 = n := by
  show (((0 * 256 + (UInt8.ofNat (n / 256 ^ 3)).toNat) * 256 + (UInt8.ofNat (n / 256 ^ 2)).toNat) * 256 + (UInt8.ofNat (n / 256 ^ 1)).toNat) * 256 + (UInt8.ofNat (n / 256 ^ 0)).toNat = n
  rw [UInt8.toNat_ofNat', UInt8.toNat_ofNat', UInt8.toNat_ofNat', UInt8.toNat_ofNat', Nat.pow_one, Nat.pow_zero, Nat.div_one]
  have e3 : n / 256 ^ 3 = n / 16777216 := rfl
  have e2 : n / 256 ^ 2 = n / 65536 := rfl
  rw [e3, e2]
  omega
theorem four_any (n : Int) (h0 : -9223372036854775808 ≤ n) (h1 : n ≤ 9223372036854775807) (w : World) :
    Calls Tryd.prog 9 #[.int .i64 n] w fun e w' => e = .returned (.string ⟨(numL n 4).toArray⟩) ∧ Below w.heap.size w w' := by
  have hc := fun W => number_any n 4 (by omega) (by omega) h0 h1 W
  have HC := Lib.hid hc
  clear hc
  go_enter Tryd.func9, Tryd.ntmps9
  go_wp2_with (go_at_call 24; refine (HC.out _).mono ?_; rintro e w1 ⟨rfl, hb1⟩)
  go_ret
  exact ⟨rfl, hb1⟩
theorem fourB_any (n : Nat) (h : n < 4294967296) (w : World) :
    Calls Tryd.prog 9 #[.int .i64 (n : Int)] w fun e w' => e = .returned (S9 (beTail n 4)) ∧ Below w.heap.size w w' := by
  have hc := four_any (n : Int) (by omega) (by omega) w
  have e : numL (n : Int) 4 = beTail n 4 := by
    unfold numL
    rw [if_pos ⟨by omega, by show (n : Int) < 4294967296; omega⟩, Int.toNat_natCast]
  rw [e] at hc
  exact hc
theorem twoB_any (n : Nat) (h : n < 65536) (w : World) :
    Calls Tryd.prog 10 #[.int .i64 (n : Int)] w fun e w' => e = .returned (S9 (beTail n 2)) ∧ Below w.heap.size w w' := by
  have hc := two_any (n : Int) (by omega) (by omega) w
  have e : numL (n : Int) 2 = beTail n 2 := by
    unfold numL
    rw [if_pos ⟨by omega, by show (n : Int) < 65536; omega⟩, Int.toNat_natCast]
  rw [e] at hc
  exact hc
theorem numB_any (n z : Nat) (hz : z ≤ 7) (h : numP (beTail n z) z = n) (w : World) :
    Calls Tryd.prog 8 #[S9 (beTail n z)] w fun e w' => e = .returned (.tuple #[.int .i64 (n : Int), .int .i64 0]) ∧ w' = w := by
  have hl := beTail_length n z
  have hc := numberIn_any ⟨(beTail n z).toArray⟩ (by show (beTail n z).length ≤ 7; omega) w
  have e : (⟨(beTail n z).toArray⟩ : ByteArray).size = z := hl
  rw [e] at hc
  have e2 : (⟨(beTail n z).toArray⟩ : ByteArray).data.toList = beTail n z := rfl
  rw [e2, h] at hc
  exact hc
set_option maxRecDepth 20000 in
set_option maxHeartbeats 4000000 in
theorem backLaw7_any (n : Int) (m : List UInt8) (hm : m.length = 6) (a : List UInt8) (ha : a.length = 4) (wf : (Lit.int .u32 n).wf = true) (w : World) (hT : HasT w) (hE : HasE w) :
    Calls Tryd.prog 3 #[.int .u32 n, .agg (bs m), .agg (bs a)] w fun e w' => e = .returned (.bool true) ∧ Below w.heap.size w w' := by
  have hn := bounds_u32 wf
  obtain ⟨k, rfl⟩ := Int.eq_ofNat_of_zero_le hn.1
  have hk : k < 4294967296 := by omega
  have M : Mem w [(w.heap.size, 24, bs m), (w.heap.size + 1, 25, bs a)] ((w.alloc (.cells (bs m) 24)).alloc (.cells (bs a) 25)) :=
    ((Mem.init w).alloc _ rfl _ _).alloc _ (by simp) _ _
  have p1 := fourB_any k hk
  have p2 := numB_any k 4 (by omega) (num_four k hk)
  have p3 := twoB_any (k % 65536) (by omega)
  have p4 := numB_any (k % 65536) 2 (by omega) (num_two (k % 65536) (by omega))
  have p5 := macText_any m hm
  have p6 := fun W h => readMac_ok m hm W h
  have p7 := fun W h => ipText_any a ha W h
  have p8 := fun W h h2 => readIp_ok a ha W h h2
  have e1 := eq_mac m m hm hm
  have e2 := eq_ip a a ha ha
  rw [beq_self_eq_true] at e1 e2
  generalize beTail k 4 = F at p1 p2
  generalize beTail (k % 65536) 2 = D at p3 p4
  generalize macL m = S at p5 p6
  generalize ipL a = X at p7 p8
  obtain ⟨m0, m1, m2, m3, m4, m5, rfl⟩ := six m hm
  obtain ⟨a0, a1, a2, a3, rfl⟩ := four a ha
  have P1 := Lib.hid p1
  have P2 := Lib.hid p2
  have P3 := Lib.hid p3
  have P4 := Lib.hid p4
  have P5 := Lib.hid p5
  have P6 := Lib.hid p6
  have P7 := Lib.hid p7
  have P8 := Lib.hid p8
  have HK := Lib.hid hk
  have hmod : ((k : Int) % 65536) = ((k % 65536 : Nat) : Int) := by omega
  have hmod2 : (k : Int).tmod 65536 = ((k % 65536 : Nat) : Int) := by rw [Int.tmod_eq_emod_of_nonneg (by omega)]; omega
  obtain ⟨q, hq⟩ : ∃ q, k % 65536 = q := ⟨_, rfl⟩
  have hq2 : q < 65536 := by omega
  rw [hq] at hmod hmod2 P3 P4
  have hw1 : IntKind.i64.wrap (k : Int) = (k : Int) := IntWalk.i64_in _ (by omega)
  have hw2 : IntKind.i64.wrap (q : Int) = (q : Int) := IntWalk.i64_in _ (by omega)
  have hw3 : IntKind.u32.wrap (q : Int) = (q : Int) := by rw [IntKind.wrap_u32']; omega
  have e1 : ∀ w, (Op.equalIn 10000 24 (.agg #[B8 m0, B8 m1, B8 m2, B8 m3, B8 m4, B8 m5]) (.agg #[B8 m0, B8 m1, B8 m2, B8 m3, B8 m4, B8 m5])).run Tryd.prog w = .ok true w := e1
  have e2 : ∀ w, (Op.equalIn 10000 25 (.agg #[B8 a0, B8 a1, B8 a2, B8 a3]) (.agg #[B8 a0, B8 a1, B8 a2, B8 a3])).run Tryd.prog w = .ok true w := e2
  clear p1 p2 p3 p4 p5 p6 p7 p8 hk hm ha hn wf hq
  go_enter Tryd.func3, Tryd.ntmps3
  go_wp2_with fail
  change Calls Tryd.prog _ _ ((w.alloc (.cells (bs [m0, m1, m2, m3, m4, m5]) 24)).alloc (.cells (bs [a0, a1, a2, a3]) 25)) _
  generalize (w.alloc (.cells (bs [m0, m1, m2, m3, m4, m5]) 24)).alloc (.cells (bs [a0, a1, a2, a3]) 25) = w0 at M ⊢
  refine (awake_any _).mono ?_
  rintro e w1 ⟨rfl, hb⟩
  replace M := M.step hb
  clear hb
  go_wp2_with fail
  refine (P1.out _).mono ?_
  rintro e w2 ⟨rfl, hb⟩
  replace M := M.step hb
  clear hb
  go_wp2_with fail
  refine (P2.out _).mono ?_
  rintro e w3 ⟨rfl, rfl⟩
  go_wp2_with fail
  refine (P3.out _).mono ?_
  rintro e w4 ⟨rfl, hb⟩
  replace M := M.step hb
  clear hb
  go_wp2_with fail
  refine (P4.out _).mono ?_
  rintro e w5 ⟨rfl, rfl⟩
  have cm0 := (M.row 0 rfl).byte 0 (by show 0 < 6; omega)
  have cm1 := (M.row 0 rfl).byte 1 (by show 1 < 6; omega)
  have cm2 := (M.row 0 rfl).byte 2 (by show 2 < 6; omega)
  have cm3 := (M.row 0 rfl).byte 3 (by show 3 < 6; omega)
  have cm4 := (M.row 0 rfl).byte 4 (by show 4 < 6; omega)
  have cm5 := (M.row 0 rfl).byte 5 (by show 5 < 6; omega)
  go_wp2_with fail
  refine (P5.out _).mono ?_
  rintro e w6 ⟨rfl, hb⟩
  replace M := M.step hb
  clear hb cm0 cm1 cm2 cm3 cm4 cm5
  go_wp2_with fail
  refine (P6.out _ (hE.below M.below)).mono ?_
  rintro e w7 ⟨rfl, hb⟩
  replace M := M.step hb
  clear hb
  have hbs : bs [m0, m1, m2, m3, m4, m5] = #[B8 m0, B8 m1, B8 m2, B8 m3, B8 m4, B8 m5] := rfl
  have hbt : bs [a0, a1, a2, a3] = #[B8 a0, B8 a1, B8 a2, B8 a3] := rfl
  rw [hbs]
  go_upto_region 6 with fail
  change Code.wp _ _ _ _ (w7.alloc (.cells (bs [m0, m1, m2, m3, m4, m5]) 24))
  replace M := M.alloc _ rfl 24 (bs [m0, m1, m2, m3, m4, m5])
  generalize w7.alloc (.cells (bs [m0, m1, m2, m3, m4, m5]) 24) = w8 at M ⊢
  generalize w7.heap.size = g8 at M ⊢
  have ci0 := (M.row 1 rfl).byte 0 (by show 0 < 4; omega)
  have ci1 := (M.row 1 rfl).byte 1 (by show 1 < 4; omega)
  have ci2 := (M.row 1 rfl).byte 2 (by show 2 < 4; omega)
  have ci3 := (M.row 1 rfl).byte 3 (by show 3 < 4; omega)
  go_wp2_with fail
  refine (P7.out _ (hT.below M.below)).mono ?_
  rintro e w9 ⟨rfl, hb⟩
  replace M := M.step hb
  clear hb ci0 ci1 ci2 ci3
  go_wp2_with fail
  refine (P8.out _ (hE.below M.below) (hT.below M.below)).mono ?_
  rintro e w10 ⟨rfl, hb⟩
  replace M := M.step hb
  clear hb
  rw [hbt]
  go_upto_region 7 with fail
  change Code.wp _ _ _ _ (w10.alloc (.cells (bs [a0, a1, a2, a3]) 25))
  replace M := M.alloc _ rfl 25 (bs [a0, a1, a2, a3])
  generalize w10.alloc (.cells (bs [a0, a1, a2, a3]) 25) = w11 at M ⊢
  generalize w10.heap.size = g11 at M ⊢
  have cm0 := (M.row 0 rfl).byte 0 (by show 0 < 6; omega)
  have cm1 := (M.row 0 rfl).byte 1 (by show 1 < 6; omega)
  have cm2 := (M.row 0 rfl).byte 2 (by show 2 < 6; omega)
  have cm3 := (M.row 0 rfl).byte 3 (by show 3 < 6; omega)
  have cm4 := (M.row 0 rfl).byte 4 (by show 4 < 6; omega)
  have cm5 := (M.row 0 rfl).byte 5 (by show 5 < 6; omega)
  have ci0 := (M.row 1 rfl).byte 0 (by show 0 < 4; omega)
  have ci1 := (M.row 1 rfl).byte 1 (by show 1 < 4; omega)
  have ci2 := (M.row 1 rfl).byte 2 (by show 2 < 4; omega)
  have ci3 := (M.row 1 rfl).byte 3 (by show 3 < 4; omega)
  have dm0 := (M.row 2 rfl).byte 0 (by show 0 < 6; omega)
  have dm1 := (M.row 2 rfl).byte 1 (by show 1 < 6; omega)
  have dm2 := (M.row 2 rfl).byte 2 (by show 2 < 6; omega)
  have dm3 := (M.row 2 rfl).byte 3 (by show 3 < 6; omega)
  have dm4 := (M.row 2 rfl).byte 4 (by show 4 < 6; omega)
  have dm5 := (M.row 2 rfl).byte 5 (by show 5 < 6; omega)
  have di0 := (M.row 3 rfl).byte 0 (by show 0 < 4; omega)
  have di1 := (M.row 3 rfl).byte 1 (by show 1 < 4; omega)
  have di2 := (M.row 3 rfl).byte 2 (by show 2 < 4; omega)
  have di3 := (M.row 3 rfl).byte 3 (by show 3 < 4; omega)
  have HM := Lib.hid M.below
  clear M
  go_wp2
  go_ret
  exact ⟨rfl, HM.out⟩
end Go.Proofs.YtbeeebnocliaiaaDoor
