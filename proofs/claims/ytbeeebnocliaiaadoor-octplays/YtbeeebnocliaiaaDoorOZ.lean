/- What oct.ReadMac and oct.ReadIp answer, said of texts; the law OctOnly: walked. -/
import Derived.Test.YtbeeebnocliaiaaDoorOY
namespace Go.Proofs.YtbeeebnocliaiaaDoor
open Go.RowKit
theorem str_is {s : ByteArray} {l : List UInt8} (h : s.data.toList = l) : s = ⟨l.toArray⟩ := by
  rw [← h, str_of]
theorem readMac_ok (l : List UInt8) (hl : l.length = 6) (w : World) (hE : HasE w) :
    Calls Tryd.prog 11 #[S9 (macL l)] w fun e w' => e = .returned (.tuple #[.agg (bs l), .int .i64 0]) ∧ Below w.heap.size w w' :=
  (readMac_any ⟨(macL l).toArray⟩ (by show (macL l).length ≤ _; rw [macL_length l hl]; omega) w hE).mono fun e w' h => by
    rcases h.2 with ⟨l', hl', he, hr⟩ | ⟨hno, _⟩
    · obtain rfl := macL_inj hl hl' he
      exact ⟨hr, h.1⟩
    · exact absurd rfl (hno l hl)
theorem readMac_bad (s : ByteArray) (hs : s.size ≤ 1000000) (hno : ∀ l : List UInt8, l.length = 6 → s.data.toList ≠ macL l) (w : World) (hE : HasE w) :
    Calls Tryd.prog 11 #[.string s] w fun e w' => e = .returned (.tuple #[.agg #[.int .u8 0, .int .u8 0, .int .u8 0, .int .u8 0, .int .u8 0, .int .u8 0], .int .i64 3]) ∧ Below w.heap.size w w' :=
  (readMac_any s hs w hE).mono fun e w' h => by
    rcases h.2 with ⟨l', hl', he, _⟩ | ⟨_, hr⟩
    · exact absurd he (hno l' hl')
    · exact ⟨hr, h.1⟩
theorem readIp_ok (l : List UInt8) (hl : l.length = 4) (w : World) (hE : HasE w) (hT : HasT w) :
    Calls Tryd.prog 13 #[S9 (ipL l)] w fun e w' => e = .returned (.tuple #[.agg (bs l), .int .i64 0]) ∧ Below w.heap.size w w' :=
  (readIp_any ⟨(ipL l).toArray⟩ (by show (ipL l).length ≤ _; have := ipL_length l hl; omega) w hE hT).mono fun e w' h => by
    rcases h.2 with ⟨l', hl', he, hr⟩ | ⟨hno, _⟩
    · obtain rfl := ipL_inj hl hl' he
      exact ⟨hr, h.1⟩
    · exact absurd rfl (hno l hl)
theorem readIp_bad (s : ByteArray) (hs : s.size ≤ 1000000) (hno : ∀ l : List UInt8, l.length = 4 → s.data.toList ≠ ipL l) (w : World) (hE : HasE w) (hT : HasT w) :
    Calls Tryd.prog 13 #[.string s] w fun e w' => e = .returned (.tuple #[.agg #[.int .u8 0, .int .u8 0, .int .u8 0, .int .u8 0], .int .i64 3]) ∧ Below w.heap.size w w' :=
  (readIp_any s hs w hE hT).mono fun e w' h => by
    rcases h.2 with ⟨l', hl', he, _⟩ | ⟨_, hr⟩
    · exact absurd he (hno l' hl')
    · exact ⟨hr, h.1⟩
theorem same_mac0 (w : World) : (Op.equalIn 10000 24 (.agg #[.int .u8 0, .int .u8 0, .int .u8 0, .int .u8 0, .int .u8 0, .int .u8 0]) (.agg #[.int .u8 0, .int .u8 0, .int .u8 0, .int .u8 0, .int .u8 0, .int .u8 0])).run Tryd.prog w = .ok true w := eq_mac [0, 0, 0, 0, 0, 0] [0, 0, 0, 0, 0, 0] rfl rfl w
theorem same_ip0 (w : World) : (Op.equalIn 10000 25 (.agg #[.int .u8 0, .int .u8 0, .int .u8 0, .int .u8 0]) (.agg #[.int .u8 0, .int .u8 0, .int .u8 0, .int .u8 0])).run Tryd.prog w = .ok true w := eq_ip [0, 0, 0, 0] [0, 0, 0, 0] rfl rfl w
theorem macCases (s : ByteArray) : (∃ l : List UInt8, l.length = 6 ∧ s = ⟨(macL l).toArray⟩) ∨ ∀ l : List UInt8, l.length = 6 → s.data.toList ≠ macL l := by
  by_cases h : ∃ l : List UInt8, l.length = 6 ∧ s.data.toList = macL l
  · obtain ⟨l, hl, he⟩ := h
    exact Or.inl ⟨l, hl, str_is he⟩
  · exact Or.inr fun l hl he => h ⟨l, hl, he⟩
theorem ipCases (s : ByteArray) : (∃ l : List UInt8, l.length = 4 ∧ s = ⟨(ipL l).toArray⟩) ∨ ∀ l : List UInt8, l.length = 4 → s.data.toList ≠ ipL l := by
  by_cases h : ∃ l : List UInt8, l.length = 4 ∧ s.data.toList = ipL l
  · obtain ⟨l, hl, he⟩ := h
    exact Or.inl ⟨l, hl, str_is he⟩
  · exact Or.inr fun l hl he => h ⟨l, hl, he⟩
set_option maxRecDepth 20000 in
set_option maxHeartbeats 4000000 in
theorem onlyMI (S : List UInt8) (hS : S.length = 17) (m0 m1 m2 m3 m4 m5 : UInt8) (X : List UInt8) (hX : X.length ≤ 15) (a0 a1 a2 a3 : UInt8) (w : World) (hT : HasT w) (hE : HasE w)
    (hRM : ∀ W, HasE W → Calls Tryd.prog 11 #[S9 S] W fun e w' => e = .returned (.tuple #[.agg #[B8 m0, B8 m1, B8 m2, B8 m3, B8 m4, B8 m5], .int .i64 0]) ∧ Below W.heap.size W w')
    (hRI : ∀ W, HasE W → HasT W → Calls Tryd.prog 13 #[S9 X] W fun e w' => e = .returned (.tuple #[.agg #[B8 a0, B8 a1, B8 a2, B8 a3], .int .i64 0]) ∧ Below W.heap.size W w')
    (hTM : ∀ W, Calls Tryd.prog 12 #[.agg #[B8 m0, B8 m1, B8 m2, B8 m3, B8 m4, B8 m5]] W fun e w' => e = .returned (S9 S) ∧ Below W.heap.size W w')
    (hTI : ∀ W, HasT W → Calls Tryd.prog 14 #[.agg #[B8 a0, B8 a1, B8 a2, B8 a3]] W fun e w' => e = .returned (S9 X) ∧ Below W.heap.size W w') :
    Calls Tryd.prog 4 #[S9 S, S9 X] w fun e w' => e = .returned (.bool true) ∧ Below w.heap.size w w' := by
  have z1 := same_mac0
  have z2 := same_ip0
  have t0 : decide ((1000 : Int) < (S.length : Int)) = false := by simp; omega
  have t1 : decide ((1000 : Int) < (X.length : Int)) = false := by simp; omega
  have HRM := Lib.hid hRM
  have HRI := Lib.hid hRI
  have HTM := Lib.hid hTM
  have HTI := Lib.hid hTI
  clear hRM hRI hTM hTI
  go_enter Tryd.func4, Tryd.ntmps4
  go_wp2_with fail
  refine (awake_any _).mono ?_
  rintro e w1 ⟨rfl, hb1⟩
  go_wp2_with fail
  refine (HRM.out w1 (hE.below hb1)).mono ?_
  rintro e w2 ⟨rfl, hb2⟩
  have B2 : Below w.heap.size w w2 := hb1.trans (hb2.mono hb1.size)
  clear hb1 hb2
  go_wp2_with fail
  change Calls Tryd.prog _ _ (w2.alloc (.cells #[B8 m0, B8 m1, B8 m2, B8 m3, B8 m4, B8 m5] 24)) _
  have M3 := Has.fresh w2 24 #[B8 m0, B8 m1, B8 m2, B8 m3, B8 m4, B8 m5]
  have B3 : Below w.heap.size w (w2.alloc (.cells #[B8 m0, B8 m1, B8 m2, B8 m3, B8 m4, B8 m5] 24)) := B2.alloc B2.size _
  generalize w2.alloc (.cells #[B8 m0, B8 m1, B8 m2, B8 m3, B8 m4, B8 m5] 24) = w3 at M3 B3 ⊢
  generalize w2.heap.size = gm at M3 ⊢
  clear B2 w2
  refine (HRI.out w3 (hE.below B3) (hT.below B3)).mono ?_
  rintro e w4 ⟨rfl, hb4⟩
  have M4 := M3.below hb4 M3.lt
  have B4 : Below w.heap.size w w4 := B3.trans (hb4.mono B3.size)
  clear hb4 B3 M3
  have M5 := M4.alloc (.cells #[B8 a0, B8 a1, B8 a2, B8 a3] 25)
  have I5 := Has.fresh w4 25 #[B8 a0, B8 a1, B8 a2, B8 a3]
  have B5 : Below w.heap.size w (w4.alloc (.cells #[B8 a0, B8 a1, B8 a2, B8 a3] 25)) := B4.alloc B4.size _
  clear M4 B4
  go_upto_region 5 with fail
  change Code.wp _ _ _ _ (w4.alloc (.cells #[B8 a0, B8 a1, B8 a2, B8 a3] 25))
  generalize w4.alloc (.cells #[B8 a0, B8 a1, B8 a2, B8 a3] 25) = w5 at M5 I5 B5 ⊢
  generalize w4.heap.size = gi at I5 ⊢
  clear w4
  have cm0 := M5.cell 0
  have cm1 := M5.cell 1
  have cm2 := M5.cell 2
  have cm3 := M5.cell 3
  have cm4 := M5.cell 4
  have cm5 := M5.cell 5
  have ci0 := I5.cell 0
  have ci1 := I5.cell 1
  have ci2 := I5.cell 2
  have ci3 := I5.cell 3
  go_wp2_with fail
  refine (HTM.out _).mono ?_
  rintro e w6 ⟨rfl, hb6⟩
  have M6 := M5.below hb6 M5.lt
  have I6 := I5.below hb6 I5.lt
  have B6 : Below w.heap.size w w6 := B5.trans (hb6.mono B5.size)
  clear cm0 cm1 cm2 cm3 cm4 cm5 ci0 ci1 ci2 ci3 M5 I5 B5 hb6
  have cm0 := M6.cell 0
  have cm1 := M6.cell 1
  have cm2 := M6.cell 2
  have cm3 := M6.cell 3
  have cm4 := M6.cell 4
  have cm5 := M6.cell 5
  have ci0 := I6.cell 0
  have ci1 := I6.cell 1
  have ci2 := I6.cell 2
  have ci3 := I6.cell 3
  go_wp2_with fail
  refine (HTI.out _ (hT.below B6)).mono ?_
  rintro e w7 ⟨rfl, hb7⟩
  have B7 : Below w.heap.size w w7 := B6.trans (hb7.mono B6.size)
  go_wp2_with fail
  go_ret
  exact ⟨rfl, B7⟩
set_option maxRecDepth 20000 in
set_option maxHeartbeats 4000000 in
theorem onlyMJ (S : List UInt8) (hS : S.length = 17) (m0 m1 m2 m3 m4 m5 : UInt8) (t : ByteArray) (ht : t.size ≤ 1000) (w : World) (hT : HasT w) (hE : HasE w)
    (hRM : ∀ W, HasE W → Calls Tryd.prog 11 #[S9 S] W fun e w' => e = .returned (.tuple #[.agg #[B8 m0, B8 m1, B8 m2, B8 m3, B8 m4, B8 m5], .int .i64 0]) ∧ Below W.heap.size W w')
    (hRI : ∀ W, HasE W → HasT W → Calls Tryd.prog 13 #[.string t] W fun e w' => e = .returned (.tuple #[.agg #[.int .u8 0, .int .u8 0, .int .u8 0, .int .u8 0], .int .i64 3]) ∧ Below W.heap.size W w')
    (hTM : ∀ W, Calls Tryd.prog 12 #[.agg #[B8 m0, B8 m1, B8 m2, B8 m3, B8 m4, B8 m5]] W fun e w' => e = .returned (S9 S) ∧ Below W.heap.size W w') :
    Calls Tryd.prog 4 #[S9 S, .string t] w fun e w' => e = .returned (.bool true) ∧ Below w.heap.size w w' := by
  have z1 := same_mac0
  have z2 := same_ip0
  have t0 : decide ((1000 : Int) < (S.length : Int)) = false := by simp; omega
  have t1 : decide ((1000 : Int) < (t.size : Int)) = false := by simp; omega
  have HRM := Lib.hid hRM
  have HRI := Lib.hid hRI
  have HTM := Lib.hid hTM
  clear hRM hRI hTM
  go_enter Tryd.func4, Tryd.ntmps4
  go_wp2_with fail
  refine (awake_any _).mono ?_
  rintro e w1 ⟨rfl, hb1⟩
  go_wp2_with fail
  refine (HRM.out w1 (hE.below hb1)).mono ?_
  rintro e w2 ⟨rfl, hb2⟩
  have B2 : Below w.heap.size w w2 := hb1.trans (hb2.mono hb1.size)
  clear hb1 hb2
  go_wp2_with fail
  change Calls Tryd.prog _ _ (w2.alloc (.cells #[B8 m0, B8 m1, B8 m2, B8 m3, B8 m4, B8 m5] 24)) _
  have M3 := Has.fresh w2 24 #[B8 m0, B8 m1, B8 m2, B8 m3, B8 m4, B8 m5]
  have B3 : Below w.heap.size w (w2.alloc (.cells #[B8 m0, B8 m1, B8 m2, B8 m3, B8 m4, B8 m5] 24)) := B2.alloc B2.size _
  generalize w2.alloc (.cells #[B8 m0, B8 m1, B8 m2, B8 m3, B8 m4, B8 m5] 24) = w3 at M3 B3 ⊢
  generalize w2.heap.size = gm at M3 ⊢
  clear B2 w2
  refine (HRI.out w3 (hE.below B3) (hT.below B3)).mono ?_
  rintro e w4 ⟨rfl, hb4⟩
  have M4 := M3.below hb4 M3.lt
  have B4 : Below w.heap.size w w4 := B3.trans (hb4.mono B3.size)
  clear hb4 B3 M3
  have M5 := M4.alloc (.cells #[.int .u8 0, .int .u8 0, .int .u8 0, .int .u8 0] 25)
  have I5 := Has.fresh w4 25 #[.int .u8 0, .int .u8 0, .int .u8 0, .int .u8 0]
  have B5 : Below w.heap.size w (w4.alloc (.cells #[.int .u8 0, .int .u8 0, .int .u8 0, .int .u8 0] 25)) := B4.alloc B4.size _
  clear M4 B4
  go_upto_region 5 with fail
  change Code.wp _ _ _ _ (w4.alloc (.cells #[.int .u8 0, .int .u8 0, .int .u8 0, .int .u8 0] 25))
  generalize w4.alloc (.cells #[.int .u8 0, .int .u8 0, .int .u8 0, .int .u8 0] 25) = w5 at M5 I5 B5 ⊢
  generalize w4.heap.size = gi at I5 ⊢
  clear w4
  have cm0 := M5.cell 0
  have cm1 := M5.cell 1
  have cm2 := M5.cell 2
  have cm3 := M5.cell 3
  have cm4 := M5.cell 4
  have cm5 := M5.cell 5
  have ci0 := I5.cell 0
  have ci1 := I5.cell 1
  have ci2 := I5.cell 2
  have ci3 := I5.cell 3
  go_wp2_with fail
  refine (HTM.out _).mono ?_
  rintro e w6 ⟨rfl, hb6⟩
  have M6 := M5.below hb6 M5.lt
  have I6 := I5.below hb6 I5.lt
  have B6 : Below w.heap.size w w6 := B5.trans (hb6.mono B5.size)
  clear cm0 cm1 cm2 cm3 cm4 cm5 ci0 ci1 ci2 ci3 M5 I5 B5 hb6
  have cm0 := M6.cell 0
  have cm1 := M6.cell 1
  have cm2 := M6.cell 2
  have cm3 := M6.cell 3
  have cm4 := M6.cell 4
  have cm5 := M6.cell 5
  have ci0 := I6.cell 0
  have ci1 := I6.cell 1
  have ci2 := I6.cell 2
  have ci3 := I6.cell 3
  go_wp2_with fail
  go_ret
  exact ⟨rfl, B6⟩
set_option maxRecDepth 20000 in
set_option maxHeartbeats 4000000 in
theorem onlyNI (s : ByteArray) (hs : s.size ≤ 1000) (X : List UInt8) (hX : X.length ≤ 15) (a0 a1 a2 a3 : UInt8) (w : World) (hT : HasT w) (hE : HasE w)
    (hRM : ∀ W, HasE W → Calls Tryd.prog 11 #[.string s] W fun e w' => e = .returned (.tuple #[.agg #[.int .u8 0, .int .u8 0, .int .u8 0, .int .u8 0, .int .u8 0, .int .u8 0], .int .i64 3]) ∧ Below W.heap.size W w')
    (hRI : ∀ W, HasE W → HasT W → Calls Tryd.prog 13 #[S9 X] W fun e w' => e = .returned (.tuple #[.agg #[B8 a0, B8 a1, B8 a2, B8 a3], .int .i64 0]) ∧ Below W.heap.size W w')
    (hTI : ∀ W, HasT W → Calls Tryd.prog 14 #[.agg #[B8 a0, B8 a1, B8 a2, B8 a3]] W fun e w' => e = .returned (S9 X) ∧ Below W.heap.size W w') :
    Calls Tryd.prog 4 #[.string s, S9 X] w fun e w' => e = .returned (.bool true) ∧ Below w.heap.size w w' := by
  have z1 := same_mac0
  have z2 := same_ip0
  have t0 : decide ((1000 : Int) < (s.size : Int)) = false := by simp; omega
  have t1 : decide ((1000 : Int) < (X.length : Int)) = false := by simp; omega
  have HRM := Lib.hid hRM
  have HRI := Lib.hid hRI
  have HTI := Lib.hid hTI
  clear hRM hRI hTI
  go_enter Tryd.func4, Tryd.ntmps4
  go_wp2_with fail
  refine (awake_any _).mono ?_
  rintro e w1 ⟨rfl, hb1⟩
  go_wp2_with fail
  refine (HRM.out w1 (hE.below hb1)).mono ?_
  rintro e w2 ⟨rfl, hb2⟩
  have B2 : Below w.heap.size w w2 := hb1.trans (hb2.mono hb1.size)
  clear hb1 hb2
  go_wp2_with fail
  change Calls Tryd.prog _ _ (w2.alloc (.cells #[.int .u8 0, .int .u8 0, .int .u8 0, .int .u8 0, .int .u8 0, .int .u8 0] 24)) _
  have M3 := Has.fresh w2 24 #[.int .u8 0, .int .u8 0, .int .u8 0, .int .u8 0, .int .u8 0, .int .u8 0]
  have B3 : Below w.heap.size w (w2.alloc (.cells #[.int .u8 0, .int .u8 0, .int .u8 0, .int .u8 0, .int .u8 0, .int .u8 0] 24)) := B2.alloc B2.size _
  generalize w2.alloc (.cells #[.int .u8 0, .int .u8 0, .int .u8 0, .int .u8 0, .int .u8 0, .int .u8 0] 24) = w3 at M3 B3 ⊢
  generalize w2.heap.size = gm at M3 ⊢
  clear B2 w2
  refine (HRI.out w3 (hE.below B3) (hT.below B3)).mono ?_
  rintro e w4 ⟨rfl, hb4⟩
  have M4 := M3.below hb4 M3.lt
  have B4 : Below w.heap.size w w4 := B3.trans (hb4.mono B3.size)
  clear hb4 B3 M3
  have M5 := M4.alloc (.cells #[B8 a0, B8 a1, B8 a2, B8 a3] 25)
  have I5 := Has.fresh w4 25 #[B8 a0, B8 a1, B8 a2, B8 a3]
  have B5 : Below w.heap.size w (w4.alloc (.cells #[B8 a0, B8 a1, B8 a2, B8 a3] 25)) := B4.alloc B4.size _
  clear M4 B4
  go_upto_region 5 with fail
  change Code.wp _ _ _ _ (w4.alloc (.cells #[B8 a0, B8 a1, B8 a2, B8 a3] 25))
  generalize w4.alloc (.cells #[B8 a0, B8 a1, B8 a2, B8 a3] 25) = w5 at M5 I5 B5 ⊢
  generalize w4.heap.size = gi at I5 ⊢
  clear w4
  have cm0 := M5.cell 0
  have cm1 := M5.cell 1
  have cm2 := M5.cell 2
  have cm3 := M5.cell 3
  have cm4 := M5.cell 4
  have cm5 := M5.cell 5
  have ci0 := I5.cell 0
  have ci1 := I5.cell 1
  have ci2 := I5.cell 2
  have ci3 := I5.cell 3
  go_wp2_with fail
  refine (HTI.out _ (hT.below B5)).mono ?_
  rintro e w7 ⟨rfl, hb7⟩
  have B7 : Below w.heap.size w w7 := B5.trans (hb7.mono B5.size)
  go_wp2_with fail
  go_ret
  exact ⟨rfl, B7⟩
set_option maxRecDepth 20000 in
set_option maxHeartbeats 4000000 in
theorem onlyNJ (s : ByteArray) (hs : s.size ≤ 1000) (t : ByteArray) (ht : t.size ≤ 1000) (w : World) (hT : HasT w) (hE : HasE w)
    (hRM : ∀ W, HasE W → Calls Tryd.prog 11 #[.string s] W fun e w' => e = .returned (.tuple #[.agg #[.int .u8 0, .int .u8 0, .int .u8 0, .int .u8 0, .int .u8 0, .int .u8 0], .int .i64 3]) ∧ Below W.heap.size W w')
    (hRI : ∀ W, HasE W → HasT W → Calls Tryd.prog 13 #[.string t] W fun e w' => e = .returned (.tuple #[.agg #[.int .u8 0, .int .u8 0, .int .u8 0, .int .u8 0], .int .i64 3]) ∧ Below W.heap.size W w') :
    Calls Tryd.prog 4 #[.string s, .string t] w fun e w' => e = .returned (.bool true) ∧ Below w.heap.size w w' := by
  have z1 := same_mac0
  have z2 := same_ip0
  have t0 : decide ((1000 : Int) < (s.size : Int)) = false := by simp; omega
  have t1 : decide ((1000 : Int) < (t.size : Int)) = false := by simp; omega
  have HRM := Lib.hid hRM
  have HRI := Lib.hid hRI
  clear hRM hRI
  go_enter Tryd.func4, Tryd.ntmps4
  go_wp2_with fail
  refine (awake_any _).mono ?_
  rintro e w1 ⟨rfl, hb1⟩
  go_wp2_with fail
  refine (HRM.out w1 (hE.below hb1)).mono ?_
  rintro e w2 ⟨rfl, hb2⟩
  have B2 : Below w.heap.size w w2 := hb1.trans (hb2.mono hb1.size)
  clear hb1 hb2
  go_wp2_with fail
  change Calls Tryd.prog _ _ (w2.alloc (.cells #[.int .u8 0, .int .u8 0, .int .u8 0, .int .u8 0, .int .u8 0, .int .u8 0] 24)) _
  have M3 := Has.fresh w2 24 #[.int .u8 0, .int .u8 0, .int .u8 0, .int .u8 0, .int .u8 0, .int .u8 0]
  have B3 : Below w.heap.size w (w2.alloc (.cells #[.int .u8 0, .int .u8 0, .int .u8 0, .int .u8 0, .int .u8 0, .int .u8 0] 24)) := B2.alloc B2.size _
  generalize w2.alloc (.cells #[.int .u8 0, .int .u8 0, .int .u8 0, .int .u8 0, .int .u8 0, .int .u8 0] 24) = w3 at M3 B3 ⊢
  generalize w2.heap.size = gm at M3 ⊢
  clear B2 w2
  refine (HRI.out w3 (hE.below B3) (hT.below B3)).mono ?_
  rintro e w4 ⟨rfl, hb4⟩
  have M4 := M3.below hb4 M3.lt
  have B4 : Below w.heap.size w w4 := B3.trans (hb4.mono B3.size)
  clear hb4 B3 M3
  have M5 := M4.alloc (.cells #[.int .u8 0, .int .u8 0, .int .u8 0, .int .u8 0] 25)
  have I5 := Has.fresh w4 25 #[.int .u8 0, .int .u8 0, .int .u8 0, .int .u8 0]
  have B5 : Below w.heap.size w (w4.alloc (.cells #[.int .u8 0, .int .u8 0, .int .u8 0, .int .u8 0] 25)) := B4.alloc B4.size _
  clear M4 B4
  go_upto_region 5 with fail
  change Code.wp _ _ _ _ (w4.alloc (.cells #[.int .u8 0, .int .u8 0, .int .u8 0, .int .u8 0] 25))
  generalize w4.alloc (.cells #[.int .u8 0, .int .u8 0, .int .u8 0, .int .u8 0] 25) = w5 at M5 I5 B5 ⊢
  generalize w4.heap.size = gi at I5 ⊢
  clear w4
  have cm0 := M5.cell 0
  have cm1 := M5.cell 1
  have cm2 := M5.cell 2
  have cm3 := M5.cell 3
  have cm4 := M5.cell 4
  have cm5 := M5.cell 5
  have ci0 := I5.cell 0
  have ci1 := I5.cell 1
  have ci2 := I5.cell 2
  have ci3 := I5.cell 3
  go_wp2_with fail
  go_ret
  exact ⟨rfl, B5⟩
set_option maxRecDepth 20000 in
set_option maxHeartbeats 4000000 in
theorem onlyLaw7_any (s t : ByteArray) (w : World) (hT : HasT w) (hE : HasE w) :
    Calls Tryd.prog 4 #[.string s, .string t] w fun e w' => e = .returned (.bool true) ∧ Below w.heap.size w w' := by
  by_cases hsz : s.size ≤ 1000
  · by_cases htz : t.size ≤ 1000
    · rcases macCases s with ⟨l, hl, rfl⟩ | hm <;> rcases ipCases t with ⟨k, hk, rfl⟩ | hi
      · obtain ⟨m0, m1, m2, m3, m4, m5, rfl⟩ := six l hl
        obtain ⟨a0, a1, a2, a3, rfl⟩ := four k hk
        exact onlyMI _ (macL_length _ hl) m0 m1 m2 m3 m4 m5 _ (ipL_length _ hk).2 a0 a1 a2 a3 w hT hE (fun W h => readMac_ok _ hl W h) (fun W h h2 => readIp_ok _ hk W h h2) (fun W => macText_any _ hl W) (fun W h => ipText_any _ hk W h)
      · obtain ⟨m0, m1, m2, m3, m4, m5, rfl⟩ := six l hl
        exact onlyMJ _ (macL_length _ hl) m0 m1 m2 m3 m4 m5 t htz w hT hE (fun W h => readMac_ok _ hl W h) (fun W h h2 => readIp_bad t (by omega) hi W h h2) (fun W => macText_any _ hl W)
      · obtain ⟨a0, a1, a2, a3, rfl⟩ := four k hk
        exact onlyNI s hsz _ (ipL_length _ hk).2 a0 a1 a2 a3 w hT hE (fun W h => readMac_bad s (by omega) hm W h) (fun W h h2 => readIp_ok _ hk W h h2) (fun W h => ipText_any _ hk W h)
      · exact onlyNJ s hsz t htz w hT hE (fun W h => readMac_bad s (by omega) hm W h) (fun W h h2 => readIp_bad t (by omega) hi W h h2)
    · have t0 : decide ((1000 : Int) < (s.size : Int)) = false := by simp; omega
      have t1 : decide ((1000 : Int) < (t.size : Int)) = true := by simp; omega
      go_enter Tryd.func4, Tryd.ntmps4
      go_wp2_with fail
      refine (awake_any _).mono ?_
      rintro e w1 ⟨rfl, hb1⟩
      go_wp2_with fail
      refine (awake_any _).mono ?_
      rintro e w2 ⟨rfl, hb2⟩
      go_wp2_with fail
      go_ret
      exact ⟨rfl, hb1.trans (hb2.mono hb1.size)⟩
  · have t0 : decide ((1000 : Int) < (s.size : Int)) = true := by simp; omega
    go_enter Tryd.func4, Tryd.ntmps4
    go_wp2_with fail
    refine (awake_any _).mono ?_
    rintro e w1 ⟨rfl, hb1⟩
    go_wp2_with fail
    refine (awake_any _).mono ?_
    rintro e w2 ⟨rfl, hb2⟩
    go_wp2_with fail
    go_ret
    exact ⟨rfl, hb1.trans (hb2.mono hb1.size)⟩
end Go.Proofs.YtbeeebnocliaiaaDoor
