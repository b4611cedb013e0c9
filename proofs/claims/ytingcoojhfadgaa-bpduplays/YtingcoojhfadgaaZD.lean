/- bpdu.Print: walked. -/
import Derived.Test.YtingcoojhfadgaaZC
namespace Go.Proofs.Ytingcoojhfadgaa
open Go.RowKit
theorem four_int (n : Int) (h : 0 ≤ n ∧ n ≤ 4294967295) (w : World) : Calls Try.prog 23 #[.int .i64 n] w fun e w' => e = .returned (.string ⟨(beTail n.toNat 4).toArray⟩) ∧ Below w.heap.size w w' := by
  have := fourN n.toNat (by omega) w
  rw [Int.toNat_of_nonneg h.1] at this
  exact this
theorem two_int (n : Int) (h : 0 ≤ n ∧ n ≤ 65535) (w : World) : Calls Try.prog 24 #[.int .i64 n] w fun e w' => e = .returned (.string ⟨(beTail n.toNat 2).toArray⟩) ∧ Below w.heap.size w w' := by
  have := two_nat n.toNat (by omega) w
  rw [Int.toNat_of_nonneg h.1] at this
  exact this
theorem within_flow {W : World} {g : Nat} (L : Int) (l : List Int) (hl : l.length ≤ 1000) (h : Has W g 3 (l.map (Value.int .i64)).toArray) (n : Nat) (hn : l.length = n) (b : Bool) (hb : inL L l = b) :
    Calls Try.prog 21 #[.int .i64 L, .slice (some ⟨g, 0, none⟩) n n] W fun e W' => e = .returned (.bool b) ∧ Below W.heap.size W W' := by
  subst hn
  have hr : W.rangeAt g 0 (l.map (Value.int .i64)) := rangeU h 0 _ (by
    rw [List.drop_zero]
    exact List.take_of_length_le (by simp))
  refine (within_any L l hl g l.length W hr).mono ?_
  rintro e w' ⟨rfl, rfl⟩
  exact ⟨by rw [hb], Below.refl _ _⟩
set_option maxRecDepth 20000 in
set_option maxHeartbeats 1000000 in
theorem print11_cost (x : B11) (hx : x.Fit) (h1 : inL 4294967295 [x.cost] = false) (w : World) : Calls Try.prog 11 #[.agg x.c] w fun e w' => e = .returned (.tuple #[.string ⟨([] : List UInt8).toArray⟩, .int .i64 3]) ∧ Below w.heap.size w w' := by
  have M : Mem w [(w.heap.size, 28, x.c)] (w.alloc (.cells x.c 28)) := (Mem.init w).alloc _ rfl _ _
  have HA := Lib.hid (And.intro h1 True.intro)
  clear h1
  go_enter Try.func11, Try.ntmps11
  go_upto_region 1 with fail
  change Code.wp _ _ _ _ (w.alloc (.cells x.c 28))
  generalize w.alloc (.cells x.c 28) = W0 at M ⊢
  refine wp_region_noPanic ?_
  refine wp_region_flow_text (fin := ?fin1) 25 0 (by kernel_rfl) [.inl (.pointer (some ⟨w.heap.size, 16, none⟩)),
    .inl (.int .i64 x.cost),
    .inr (3, #[.int .i64 x.cost], some 1),
    .inl (.bool false),
    .inl (.bool true),
    .inl (.bool true),
    .inl undef,
    .inl undef,
    .inl undef,
    .inl undef,
    .inl undef,
    .inl undef,
    .inl undef,
    .inl undef,
    .inl undef,
    .inl undef,
    .inl undef,
    .inl undef,
    .inl undef,
    .inl (.bool true),
    .inl (.bool true),
    .inl undef,
    .inl undef,
    .inl undef,
    .inl (.bool true)] rfl rfl (by kernel_rfl) ?hfin1 ?hE1 ?hend1
  case hfin1 =>
    intro G
    simp only [flowAll, flowVal, Act.put, List.setIfInBounds_toArray, List.set_cons_zero, List.set_cons_succ]
    exact rfl
  case hE1 =>
    intro G
    refine ⟨Or.inr (fun W hB hR => known_val rfl (by go_simp)),
      Or.inr (fun W hB hR => known_val rfl (by have := ((M.step hB).row 0 rfl).b_cost hx; go_simp)),
      ⟨rfl, fun W => made_slice (by unfold execOp; go_simp)⟩,
      Or.inr (fun W hB hR => known_call 21 #[.int .i64 4294967295, .slice (some ⟨G 2, 0, none⟩) 1 1] (within_flow 4294967295 [x.cost] (by simp) (hR 2 _ _ _ rfl (by kernel_rfl)) 1 rfl _ HA.out.1) rfl (by go_simp)),
      Or.inr (fun W hB hR => known_val rfl (by go_simp)),
      Or.inr (fun W hB hR => known_val rfl (by go_simp)),
      Or.inr (fun W hB hR => Or.inr ⟨rfl, rfl⟩),
      Or.inr (fun W hB hR => Or.inr ⟨rfl, rfl⟩),
      Or.inr (fun W hB hR => Or.inr ⟨rfl, rfl⟩),
      Or.inr (fun W hB hR => Or.inr ⟨rfl, rfl⟩),
      Or.inr (fun W hB hR => Or.inr ⟨rfl, rfl⟩),
      Or.inr (fun W hB hR => Or.inr ⟨rfl, rfl⟩),
      Or.inr (fun W hB hR => Or.inr ⟨rfl, rfl⟩),
      Or.inr (fun W hB hR => Or.inr ⟨rfl, rfl⟩),
      Or.inr (fun W hB hR => Or.inr ⟨rfl, rfl⟩),
      Or.inr (fun W hB hR => Or.inr ⟨rfl, rfl⟩),
      Or.inr (fun W hB hR => Or.inr ⟨rfl, rfl⟩),
      Or.inr (fun W hB hR => Or.inr ⟨rfl, rfl⟩),
      Or.inr (fun W hB hR => Or.inr ⟨rfl, rfl⟩),
      Or.inr (fun W hB hR => known_val rfl (by go_simp)),
      Or.inr (fun W hB hR => known_val rfl (by go_simp)),
      Or.inr (fun W hB hR => Or.inr ⟨rfl, rfl⟩),
      Or.inr (fun W hB hR => Or.inr ⟨rfl, rfl⟩),
      Or.inr (fun W hB hR => Or.inr ⟨rfl, rfl⟩),
      Or.inr (fun W hB hR => known_val rfl (by go_simp)), trivial⟩
  intro G W hB hM
  replace M := M.step hB
  clear hB hM
  refine wpAny_end (by kernel_rfl) ?_ _
  refine NoPanic.normal ?_
  go_wp2
  go_ret2
  exact ⟨rfl, M.below⟩
set_option maxRecDepth 20000 in
set_option maxHeartbeats 1000000 in
theorem print11_two (x : B11) (hx : x.Fit) (h1 : inL 4294967295 [x.cost] = true) (h2 : inL 65535 [x.port, x.age, x.top, x.hello, x.delay] = false) (w : World) : Calls Try.prog 11 #[.agg x.c] w fun e w' => e = .returned (.tuple #[.string ⟨([] : List UInt8).toArray⟩, .int .i64 3]) ∧ Below w.heap.size w w' := by
  have M : Mem w [(w.heap.size, 28, x.c)] (w.alloc (.cells x.c 28)) := (Mem.init w).alloc _ rfl _ _
  have HA := Lib.hid (And.intro h1 (And.intro h2 True.intro))
  clear h1 h2
  go_enter Try.func11, Try.ntmps11
  go_upto_region 1 with fail
  change Code.wp _ _ _ _ (w.alloc (.cells x.c 28))
  generalize w.alloc (.cells x.c 28) = W0 at M ⊢
  refine wp_region_noPanic ?_
  refine wp_region_flow_text (fin := ?fin2) 25 0 (by kernel_rfl) [.inl (.pointer (some ⟨w.heap.size, 16, none⟩)),
    .inl (.int .i64 x.cost),
    .inr (3, #[.int .i64 x.cost], some 1),
    .inl (.bool true),
    .inl (.bool false),
    .inl (.bool false),
    .inl (.pointer (some ⟨w.heap.size, 17, none⟩)),
    .inl (.int .i64 x.port),
    .inl (.pointer (some ⟨w.heap.size, 18, none⟩)),
    .inl (.int .i64 x.age),
    .inl (.pointer (some ⟨w.heap.size, 19, none⟩)),
    .inl (.int .i64 x.top),
    .inl (.pointer (some ⟨w.heap.size, 20, none⟩)),
    .inl (.int .i64 x.hello),
    .inl (.pointer (some ⟨w.heap.size, 21, none⟩)),
    .inl (.int .i64 x.delay),
    .inr (3, #[.int .i64 x.port, .int .i64 x.age, .int .i64 x.top, .int .i64 x.hello, .int .i64 x.delay], some 5),
    .inl (.bool false),
    .inl (.bool true),
    .inl (.bool true),
    .inl (.bool true),
    .inl undef,
    .inl undef,
    .inl undef,
    .inl (.bool true)] rfl rfl (by kernel_rfl) ?hfin2 ?hE2 ?hend2
  case hfin2 =>
    intro G
    simp only [flowAll, flowVal, Act.put, List.setIfInBounds_toArray, List.set_cons_zero, List.set_cons_succ]
    exact rfl
  case hE2 =>
    intro G
    refine ⟨Or.inr (fun W hB hR => known_val rfl (by go_simp)),
      Or.inr (fun W hB hR => known_val rfl (by have := ((M.step hB).row 0 rfl).b_cost hx; go_simp)),
      ⟨rfl, fun W => made_slice (by unfold execOp; go_simp)⟩,
      Or.inr (fun W hB hR => known_call 21 #[.int .i64 4294967295, .slice (some ⟨G 2, 0, none⟩) 1 1] (within_flow 4294967295 [x.cost] (by simp) (hR 2 _ _ _ rfl (by kernel_rfl)) 1 rfl _ HA.out.1) rfl (by go_simp)),
      Or.inr (fun W hB hR => known_val rfl (by go_simp)),
      Or.inr (fun W hB hR => known_val rfl (by go_simp)),
      Or.inr (fun W hB hR => known_val rfl (by go_simp)),
      Or.inr (fun W hB hR => known_val rfl (by have := ((M.step hB).row 0 rfl).b_port hx; go_simp)),
      Or.inr (fun W hB hR => known_val rfl (by go_simp)),
      Or.inr (fun W hB hR => known_val rfl (by have := ((M.step hB).row 0 rfl).b_age hx; go_simp)),
      Or.inr (fun W hB hR => known_val rfl (by go_simp)),
      Or.inr (fun W hB hR => known_val rfl (by have := ((M.step hB).row 0 rfl).b_top hx; go_simp)),
      Or.inr (fun W hB hR => known_val rfl (by go_simp)),
      Or.inr (fun W hB hR => known_val rfl (by have := ((M.step hB).row 0 rfl).b_hello hx; go_simp)),
      Or.inr (fun W hB hR => known_val rfl (by go_simp)),
      Or.inr (fun W hB hR => known_val rfl (by have := ((M.step hB).row 0 rfl).b_delay hx; go_simp)),
      ⟨rfl, fun W => made_slice (by unfold execOp; go_simp)⟩,
      Or.inr (fun W hB hR => known_call 21 #[.int .i64 65535, .slice (some ⟨G 16, 0, none⟩) 5 5] (within_flow 65535 [x.port, x.age, x.top, x.hello, x.delay] (by simp) (hR 16 _ _ _ rfl (by kernel_rfl)) 5 rfl _ HA.out.2.1) rfl (by go_simp)),
      Or.inr (fun W hB hR => known_val rfl (by go_simp)),
      Or.inr (fun W hB hR => known_val rfl (by go_simp)),
      Or.inr (fun W hB hR => known_val rfl (by go_simp)),
      Or.inr (fun W hB hR => Or.inr ⟨rfl, rfl⟩),
      Or.inr (fun W hB hR => Or.inr ⟨rfl, rfl⟩),
      Or.inr (fun W hB hR => Or.inr ⟨rfl, rfl⟩),
      Or.inr (fun W hB hR => known_val rfl (by go_simp)), trivial⟩
  intro G W hB hM
  replace M := M.step hB
  clear hB hM
  refine wpAny_end (by kernel_rfl) ?_ _
  refine NoPanic.normal ?_
  go_wp2
  go_ret2
  exact ⟨rfl, M.below⟩
set_option maxRecDepth 20000 in
set_option maxHeartbeats 1000000 in
theorem print11_old (x : B11) (hx : x.Fit) (h1 : inL 4294967295 [x.cost] = true) (h2 : inL 65535 [x.port, x.age, x.top, x.hello, x.delay] = true) (h3 : x.young = false) (w : World) : Calls Try.prog 11 #[.agg x.c] w fun e w' => e = .returned (.tuple #[.string ⟨([] : List UInt8).toArray⟩, .int .i64 3]) ∧ Below w.heap.size w w' := by
  have M : Mem w [(w.heap.size, 28, x.c)] (w.alloc (.cells x.c 28)) := (Mem.init w).alloc _ rfl _ _
  have hy := fun W => rightAge_any x hx W
  rw [h3] at hy
  have HA := Lib.hid (And.intro h1 (And.intro h2 hy))
  clear hy
  clear h1 h2 h3
  go_enter Try.func11, Try.ntmps11
  go_upto_region 1 with fail
  change Code.wp _ _ _ _ (w.alloc (.cells x.c 28))
  generalize w.alloc (.cells x.c 28) = W0 at M ⊢
  refine wp_region_noPanic ?_
  refine wp_region_flow_text (fin := ?fin3) 25 0 (by kernel_rfl) [.inl (.pointer (some ⟨w.heap.size, 16, none⟩)),
    .inl (.int .i64 x.cost),
    .inr (3, #[.int .i64 x.cost], some 1),
    .inl (.bool true),
    .inl (.bool false),
    .inl (.bool false),
    .inl (.pointer (some ⟨w.heap.size, 17, none⟩)),
    .inl (.int .i64 x.port),
    .inl (.pointer (some ⟨w.heap.size, 18, none⟩)),
    .inl (.int .i64 x.age),
    .inl (.pointer (some ⟨w.heap.size, 19, none⟩)),
    .inl (.int .i64 x.top),
    .inl (.pointer (some ⟨w.heap.size, 20, none⟩)),
    .inl (.int .i64 x.hello),
    .inl (.pointer (some ⟨w.heap.size, 21, none⟩)),
    .inl (.int .i64 x.delay),
    .inr (3, #[.int .i64 x.port, .int .i64 x.age, .int .i64 x.top, .int .i64 x.hello, .int .i64 x.delay], some 5),
    .inl (.bool true),
    .inl (.bool false),
    .inl (.bool false),
    .inl (.bool false),
    .inl (.agg x.c),
    .inl (.bool false),
    .inl (.bool true),
    .inl (.bool true)] rfl rfl (by kernel_rfl) ?hfin3 ?hE3 ?hend3
  case hfin3 =>
    intro G
    simp only [flowAll, flowVal, Act.put, List.setIfInBounds_toArray, List.set_cons_zero, List.set_cons_succ]
    exact rfl
  case hE3 =>
    intro G
    refine ⟨Or.inr (fun W hB hR => known_val rfl (by go_simp)),
      Or.inr (fun W hB hR => known_val rfl (by have := ((M.step hB).row 0 rfl).b_cost hx; go_simp)),
      ⟨rfl, fun W => made_slice (by unfold execOp; go_simp)⟩,
      Or.inr (fun W hB hR => known_call 21 #[.int .i64 4294967295, .slice (some ⟨G 2, 0, none⟩) 1 1] (within_flow 4294967295 [x.cost] (by simp) (hR 2 _ _ _ rfl (by kernel_rfl)) 1 rfl _ HA.out.1) rfl (by go_simp)),
      Or.inr (fun W hB hR => known_val rfl (by go_simp)),
      Or.inr (fun W hB hR => known_val rfl (by go_simp)),
      Or.inr (fun W hB hR => known_val rfl (by go_simp)),
      Or.inr (fun W hB hR => known_val rfl (by have := ((M.step hB).row 0 rfl).b_port hx; go_simp)),
      Or.inr (fun W hB hR => known_val rfl (by go_simp)),
      Or.inr (fun W hB hR => known_val rfl (by have := ((M.step hB).row 0 rfl).b_age hx; go_simp)),
      Or.inr (fun W hB hR => known_val rfl (by go_simp)),
      Or.inr (fun W hB hR => known_val rfl (by have := ((M.step hB).row 0 rfl).b_top hx; go_simp)),
      Or.inr (fun W hB hR => known_val rfl (by go_simp)),
      Or.inr (fun W hB hR => known_val rfl (by have := ((M.step hB).row 0 rfl).b_hello hx; go_simp)),
      Or.inr (fun W hB hR => known_val rfl (by go_simp)),
      Or.inr (fun W hB hR => known_val rfl (by have := ((M.step hB).row 0 rfl).b_delay hx; go_simp)),
      ⟨rfl, fun W => made_slice (by unfold execOp; go_simp)⟩,
      Or.inr (fun W hB hR => known_call 21 #[.int .i64 65535, .slice (some ⟨G 16, 0, none⟩) 5 5] (within_flow 65535 [x.port, x.age, x.top, x.hello, x.delay] (by simp) (hR 16 _ _ _ rfl (by kernel_rfl)) 5 rfl _ HA.out.2.1) rfl (by go_simp)),
      Or.inr (fun W hB hR => known_val rfl (by go_simp)),
      Or.inr (fun W hB hR => known_val rfl (by go_simp)),
      Or.inr (fun W hB hR => known_val rfl (by go_simp)),
      Or.inr (fun W hB hR => known_val rfl (by exact exec_load_row 28 (.tmp 1) w.heap.size ((M.step hB).row 0 rfl) Try.underlying28 rfl (b11_info hx) rfl rfl)),
      Or.inr (fun W hB hR => known_call 22 #[.agg x.c] (HA.out.2.2 W) rfl (by go_simp)),
      Or.inr (fun W hB hR => known_val rfl (by go_simp)),
      Or.inr (fun W hB hR => known_val rfl (by go_simp)), trivial⟩
  intro G W hB hM
  replace M := M.step hB
  clear hB hM
  refine wpAny_end (by kernel_rfl) ?_ _
  refine NoPanic.normal ?_
  go_wp2
  go_ret2
  exact ⟨rfl, M.below⟩
set_option maxRecDepth 20000 in
set_option maxHeartbeats 1000000 in
theorem print11_yes (x : B11) (hx : x.Fit) (h1 : inL 4294967295 [x.cost] = true) (h2 : inL 65535 [x.port, x.age, x.top, x.hello, x.delay] = true) (h3 : x.young = true) (w : World) : Calls Try.prog 11 #[.agg x.c] w fun e w' => e = .returned (.tuple #[.string ⟨x.bytes.toArray⟩, .int .i64 0]) ∧ Below w.heap.size w w' := by
  have M : Mem w [(w.heap.size, 28, x.c)] (w.alloc (.cells x.c 28)) := (Mem.init w).alloc _ rfl _ _
  have hy := fun W => rightAge_any x hx W
  rw [h3] at hy
  have HA := Lib.hid (And.intro h1 (And.intro h2 hy))
  clear hy
  have R : x.Right := right11_spec.1 (by unfold B11.right; rw [h1, h2, h3]; rfl)
  have q1 := fun W => four_int x.cost R.cost W
  have q2 := fun W => two_int x.port R.port W
  have q3 := fun W => two_int x.age R.age W
  have q4 := fun W => two_int x.top R.top W
  have q5 := fun W => two_int x.hello R.hello W
  have q6 := fun W => two_int x.delay R.delay W
  have qf := fun W => flagsOf_any x hx W
  have l1 := beTail_length x.cost.toNat 4
  have l2 := beTail_length x.port.toNat 2
  have l3 := beTail_length x.age.toNat 2
  have l4 := beTail_length x.top.toNat 2
  have l5 := beTail_length x.hello.toNat 2
  have l6 := beTail_length x.delay.toNat 2
  have lr := hx.r
  have lb := hx.b
  have hbytes : x.bytes = ((wordL ++ [x.flag]) ++ x.vec) ++ x.times := rfl
  have hvec : x.vec = ((x.r ++ beTail x.cost.toNat 4) ++ x.b) ++ beTail x.port.toNat 2 := rfl
  have htimes : x.times = ((beTail x.age.toNat 2 ++ beTail x.top.toNat 2) ++ beTail x.hello.toNat 2) ++ beTail x.delay.toNat 2 := rfl
  generalize x.bytes = R at hbytes ⊢
  generalize x.vec = V at hvec hbytes
  generalize x.times = U at htimes hbytes
  generalize x.flag = fl at hbytes qf
  generalize beTail x.cost.toNat 4 = T1 at *
  generalize beTail x.port.toNat 2 = T2 at *
  generalize beTail x.age.toNat 2 = T3 at *
  generalize beTail x.top.toNat 2 = T4 at *
  generalize beTail x.hello.toNat 2 = T5 at *
  generalize beTail x.delay.toNat 2 = T6 at *
  have c1 : (⟨x.r.toArray⟩ : ByteArray) ++ ⟨T1.toArray⟩ = ⟨(x.r ++ T1).toArray⟩ := cat_str _ _
  have s1 : (x.r ++ T1).length = 12 := by rw [List.length_append]; omega
  generalize x.r ++ T1 = V1 at c1 s1 hvec
  have c2 : (⟨V1.toArray⟩ : ByteArray) ++ ⟨x.b.toArray⟩ = ⟨(V1 ++ x.b).toArray⟩ := cat_str _ _
  have s2 : (V1 ++ x.b).length = 20 := by rw [List.length_append]; omega
  generalize V1 ++ x.b = V2 at c2 s2 hvec
  have c3 : (⟨V2.toArray⟩ : ByteArray) ++ ⟨T2.toArray⟩ = ⟨V.toArray⟩ := by rw [hvec]; exact cat_str _ _
  have sV : V.length = 22 := by rw [hvec, List.length_append]; omega
  have c4 : (⟨T3.toArray⟩ : ByteArray) ++ ⟨T4.toArray⟩ = ⟨(T3 ++ T4).toArray⟩ := cat_str _ _
  have s4 : (T3 ++ T4).length = 4 := by rw [List.length_append]; omega
  generalize T3 ++ T4 = U1 at c4 s4 htimes
  have c5 : (⟨U1.toArray⟩ : ByteArray) ++ ⟨T5.toArray⟩ = ⟨(U1 ++ T5).toArray⟩ := cat_str _ _
  have s5 : (U1 ++ T5).length = 6 := by rw [List.length_append]; omega
  generalize U1 ++ T5 = U2 at c5 s5 htimes
  have c6 : (⟨U2.toArray⟩ : ByteArray) ++ ⟨T6.toArray⟩ = ⟨U.toArray⟩ := by rw [htimes]; exact cat_str _ _
  have sU : U.length = 8 := by rw [htimes, List.length_append]; omega
  have c7 : (⟨wordL.toArray⟩ : ByteArray) ++ ⟨[fl].toArray⟩ = ⟨(wordL ++ [fl]).toArray⟩ := cat_str _ _
  have s7 : (wordL ++ [fl]).length = 8 := rfl
  generalize wordL ++ [fl] = R1 at c7 s7 hbytes
  have c8 : (⟨R1.toArray⟩ : ByteArray) ++ ⟨V.toArray⟩ = ⟨(R1 ++ V).toArray⟩ := cat_str _ _
  have s8 : (R1 ++ V).length = 30 := by rw [List.length_append]; omega
  generalize R1 ++ V = R2 at c8 s8 hbytes
  have c9 : (⟨R2.toArray⟩ : ByteArray) ++ ⟨U.toArray⟩ = ⟨R.toArray⟩ := by rw [hbytes]; exact cat_str _ _
  have b1 : ¬ (9223372036854775807 < (⟨x.r.toArray⟩ : ByteArray).size + (⟨T1.toArray⟩ : ByteArray).size) := by rw [str_size, str_size, lr, l1]; decide
  have b2 : ¬ (9223372036854775807 < (⟨V1.toArray⟩ : ByteArray).size + (⟨x.b.toArray⟩ : ByteArray).size) := by rw [str_size, str_size, s1, lb]; decide
  have b3 : ¬ (9223372036854775807 < (⟨V2.toArray⟩ : ByteArray).size + (⟨T2.toArray⟩ : ByteArray).size) := by rw [str_size, str_size, s2, l2]; decide
  have b4 : ¬ (9223372036854775807 < (⟨T3.toArray⟩ : ByteArray).size + (⟨T4.toArray⟩ : ByteArray).size) := by rw [str_size, str_size, l3, l4]; decide
  have b5 : ¬ (9223372036854775807 < (⟨U1.toArray⟩ : ByteArray).size + (⟨T5.toArray⟩ : ByteArray).size) := by rw [str_size, str_size, s4, l5]; decide
  have b6 : ¬ (9223372036854775807 < (⟨U2.toArray⟩ : ByteArray).size + (⟨T6.toArray⟩ : ByteArray).size) := by rw [str_size, str_size, s5, l6]; decide
  have b7 : ¬ (9223372036854775807 < (⟨wordL.toArray⟩ : ByteArray).size + (⟨[fl].toArray⟩ : ByteArray).size) := by rw [str_size, str_size]; show ¬ 9223372036854775807 < 7 + 1; decide
  have b8 : ¬ (9223372036854775807 < (⟨R1.toArray⟩ : ByteArray).size + (⟨V.toArray⟩ : ByteArray).size) := by rw [str_size, str_size, s7, sV]; decide
  have b9 : ¬ (9223372036854775807 < (⟨R2.toArray⟩ : ByteArray).size + (⟨U.toArray⟩ : ByteArray).size) := by rw [str_size, str_size, s8, sU]; decide
  have C1 := Lib.hid (And.intro c1 b1)
  have C2 := Lib.hid (And.intro c2 b2)
  have C3 := Lib.hid (And.intro c3 b3)
  have C4 := Lib.hid (And.intro c4 b4)
  have C5 := Lib.hid (And.intro c5 b5)
  have C6 := Lib.hid (And.intro c6 b6)
  have C7 := Lib.hid (And.intro c7 b7)
  have C8 := Lib.hid (And.intro c8 b8)
  have C9 := Lib.hid (And.intro c9 b9)
  have Q1 := Lib.hid q1
  have Q2 := Lib.hid q2
  have Q3 := Lib.hid q3
  have Q4 := Lib.hid q4
  have Q5 := Lib.hid q5
  have Q6 := Lib.hid q6
  have QF := Lib.hid qf
  have HL := Lib.hid (And.intro lr lb)
  clear h1 h2 h3 q1 q2 q3 q4 q5 q6 qf l1 l2 l3 l4 l5 l6 lr lb hbytes hvec htimes c1 c2 c3 c4 c5 c6 c7 c8 c9 b1 b2 b3 b4 b5 b6 b7 b8 b9 s1 s2 sV s4 s5 sU s7 s8
  go_enter Try.func11, Try.ntmps11
  go_upto_region 1 with fail
  change Code.wp _ _ _ _ (w.alloc (.cells x.c 28))
  generalize w.alloc (.cells x.c 28) = W0 at M ⊢
  refine wp_region_noPanic ?_
  refine wp_region_flow_text (fin := ?fin4) 25 0 (by kernel_rfl) [.inl (.pointer (some ⟨w.heap.size, 16, none⟩)),
    .inl (.int .i64 x.cost),
    .inr (3, #[.int .i64 x.cost], some 1),
    .inl (.bool true),
    .inl (.bool false),
    .inl (.bool false),
    .inl (.pointer (some ⟨w.heap.size, 17, none⟩)),
    .inl (.int .i64 x.port),
    .inl (.pointer (some ⟨w.heap.size, 18, none⟩)),
    .inl (.int .i64 x.age),
    .inl (.pointer (some ⟨w.heap.size, 19, none⟩)),
    .inl (.int .i64 x.top),
    .inl (.pointer (some ⟨w.heap.size, 20, none⟩)),
    .inl (.int .i64 x.hello),
    .inl (.pointer (some ⟨w.heap.size, 21, none⟩)),
    .inl (.int .i64 x.delay),
    .inr (3, #[.int .i64 x.port, .int .i64 x.age, .int .i64 x.top, .int .i64 x.hello, .int .i64 x.delay], some 5),
    .inl (.bool true),
    .inl (.bool false),
    .inl (.bool false),
    .inl (.bool false),
    .inl (.agg x.c),
    .inl (.bool true),
    .inl (.bool false),
    .inl (.bool false)] rfl rfl (by kernel_rfl) ?hfin4 ?hE4 ?hend4
  case hfin4 =>
    intro G
    simp only [flowAll, flowVal, Act.put, List.setIfInBounds_toArray, List.set_cons_zero, List.set_cons_succ]
    exact rfl
  case hE4 =>
    intro G
    refine ⟨Or.inr (fun W hB hR => known_val rfl (by go_simp)),
      Or.inr (fun W hB hR => known_val rfl (by have := ((M.step hB).row 0 rfl).b_cost hx; go_simp)),
      ⟨rfl, fun W => made_slice (by unfold execOp; go_simp)⟩,
      Or.inr (fun W hB hR => known_call 21 #[.int .i64 4294967295, .slice (some ⟨G 2, 0, none⟩) 1 1] (within_flow 4294967295 [x.cost] (by simp) (hR 2 _ _ _ rfl (by kernel_rfl)) 1 rfl _ HA.out.1) rfl (by go_simp)),
      Or.inr (fun W hB hR => known_val rfl (by go_simp)),
      Or.inr (fun W hB hR => known_val rfl (by go_simp)),
      Or.inr (fun W hB hR => known_val rfl (by go_simp)),
      Or.inr (fun W hB hR => known_val rfl (by have := ((M.step hB).row 0 rfl).b_port hx; go_simp)),
      Or.inr (fun W hB hR => known_val rfl (by go_simp)),
      Or.inr (fun W hB hR => known_val rfl (by have := ((M.step hB).row 0 rfl).b_age hx; go_simp)),
      Or.inr (fun W hB hR => known_val rfl (by go_simp)),
      Or.inr (fun W hB hR => known_val rfl (by have := ((M.step hB).row 0 rfl).b_top hx; go_simp)),
      Or.inr (fun W hB hR => known_val rfl (by go_simp)),
      Or.inr (fun W hB hR => known_val rfl (by have := ((M.step hB).row 0 rfl).b_hello hx; go_simp)),
      Or.inr (fun W hB hR => known_val rfl (by go_simp)),
      Or.inr (fun W hB hR => known_val rfl (by have := ((M.step hB).row 0 rfl).b_delay hx; go_simp)),
      ⟨rfl, fun W => made_slice (by unfold execOp; go_simp)⟩,
      Or.inr (fun W hB hR => known_call 21 #[.int .i64 65535, .slice (some ⟨G 16, 0, none⟩) 5 5] (within_flow 65535 [x.port, x.age, x.top, x.hello, x.delay] (by simp) (hR 16 _ _ _ rfl (by kernel_rfl)) 5 rfl _ HA.out.2.1) rfl (by go_simp)),
      Or.inr (fun W hB hR => known_val rfl (by go_simp)),
      Or.inr (fun W hB hR => known_val rfl (by go_simp)),
      Or.inr (fun W hB hR => known_val rfl (by go_simp)),
      Or.inr (fun W hB hR => known_val rfl (by exact exec_load_row 28 (.tmp 1) w.heap.size ((M.step hB).row 0 rfl) Try.underlying28 rfl (b11_info hx) rfl rfl)),
      Or.inr (fun W hB hR => known_call 22 #[.agg x.c] (HA.out.2.2 W) rfl (by go_simp)),
      Or.inr (fun W hB hR => known_val rfl (by go_simp)),
      Or.inr (fun W hB hR => known_val rfl (by go_simp)), trivial⟩
  intro G W hB hM
  replace M := M.step hB
  clear hB hM
  refine wpAny_end (by kernel_rfl) ?_ _
  refine NoPanic.normal ?_
  go_upto_region 3 with fail
  refine wp_region_noPanic ?_
  refine wp_region_flow (fin := ?fin5) 16 0 (by kernel_rfl) [.inl (.pointer (some ⟨w.heap.size, 0, none⟩)),
    .inl (.slice (some ⟨w.heap.size, 0, none⟩) 8 8),
    .inl (.string ⟨x.r.toArray⟩),
    .inl (.pointer (some ⟨w.heap.size, 16, none⟩)),
    .inl (.int .i64 x.cost),
    .inl (.string ⟨T1.toArray⟩),
    .inl (.string ⟨V1.toArray⟩),
    .inl (.pointer (some ⟨w.heap.size, 8, none⟩)),
    .inl (.slice (some ⟨w.heap.size, 8, none⟩) 8 8),
    .inl (.string ⟨x.b.toArray⟩),
    .inl (.string ⟨V2.toArray⟩),
    .inl (.pointer (some ⟨w.heap.size, 17, none⟩)),
    .inl (.int .i64 x.port),
    .inl (.string ⟨T2.toArray⟩),
    .inl (.string ⟨V.toArray⟩),
    .inl (.string ⟨V.toArray⟩)] rfl rfl (by kernel_rfl) ?hfin5 ?hE5 ?hend5
  case hfin5 =>
    intro G
    simp only [flowAll, flowVal, Act.put, List.setIfInBounds_toArray, List.set_cons_zero, List.set_cons_succ]
    exact rfl
  case hE5 =>
    intro G
    refine ⟨Or.inr (fun W hB hR => known_val rfl (by go_simp)),
      Or.inr (fun W hB hR => known_val rfl (by go_simp)),
      Or.inr (fun W hB hR => known_val rfl (by have := conv_range (((M.drew.step hB).row 0 rfl).b_r) 8 8 HL.out.1; go_simp)),
      Or.inr (fun W hB hR => known_val rfl (by go_simp)),
      Or.inr (fun W hB hR => known_val rfl (by have := ((M.drew.step hB).row 0 rfl).b_cost hx; go_simp)),
      Or.inr (fun W hB hR => known_call 23 #[.int .i64 x.cost] (Q1.out W) rfl (by go_simp)),
      Or.inr (fun W hB hR => known_val rfl (by exact exec_cat (.tmp 33) (.tmp 36) _ _ _ C1.out.1 C1.out.2 rfl rfl rfl)),
      Or.inr (fun W hB hR => known_val rfl (by go_simp)),
      Or.inr (fun W hB hR => known_val rfl (by go_simp)),
      Or.inr (fun W hB hR => known_val rfl (by have := conv_range (((M.drew.step hB).row 0 rfl).b_b hx) 8 8 HL.out.2; go_simp)),
      Or.inr (fun W hB hR => known_val rfl (by exact exec_cat (.tmp 37) (.tmp 40) _ _ _ C2.out.1 C2.out.2 rfl rfl rfl)),
      Or.inr (fun W hB hR => known_val rfl (by go_simp)),
      Or.inr (fun W hB hR => known_val rfl (by have := ((M.drew.step hB).row 0 rfl).b_port hx; go_simp)),
      Or.inr (fun W hB hR => known_call 24 #[.int .i64 x.port] (Q2.out W) rfl (by go_simp)),
      Or.inr (fun W hB hR => known_val rfl (by exact exec_cat (.tmp 41) (.tmp 44) _ _ _ C3.out.1 C3.out.2 rfl rfl rfl)),
      Or.inr (fun W hB hR => known_val rfl (by go_simp)), trivial⟩
  intro G W hB hM
  replace M := M.drew.step hB
  clear hB hM
  refine wpAny_end (by kernel_rfl) ?_ _
  refine NoPanic.normal ?_
  clear G
  go_upto_region 4 with fail
  refine wp_region_noPanic ?_
  refine wp_region_flow (fin := ?fin6) 16 0 (by kernel_rfl) [.inl (.pointer (some ⟨w.heap.size, 18, none⟩)),
    .inl (.int .i64 x.age),
    .inl (.string ⟨T3.toArray⟩),
    .inl (.pointer (some ⟨w.heap.size, 19, none⟩)),
    .inl (.int .i64 x.top),
    .inl (.string ⟨T4.toArray⟩),
    .inl (.string ⟨U1.toArray⟩),
    .inl (.pointer (some ⟨w.heap.size, 20, none⟩)),
    .inl (.int .i64 x.hello),
    .inl (.string ⟨T5.toArray⟩),
    .inl (.string ⟨U2.toArray⟩),
    .inl (.pointer (some ⟨w.heap.size, 21, none⟩)),
    .inl (.int .i64 x.delay),
    .inl (.string ⟨T6.toArray⟩),
    .inl (.string ⟨U.toArray⟩),
    .inl (.string ⟨U.toArray⟩)] rfl rfl (by kernel_rfl) ?hfin6 ?hE6 ?hend6
  case hfin6 =>
    intro G
    simp only [flowAll, flowVal, Act.put, List.setIfInBounds_toArray, List.set_cons_zero, List.set_cons_succ]
    exact rfl
  case hE6 =>
    intro G
    refine ⟨Or.inr (fun W hB hR => known_val rfl (by go_simp)),
      Or.inr (fun W hB hR => known_val rfl (by have := ((M.drew.step hB).row 0 rfl).b_age hx; go_simp)),
      Or.inr (fun W hB hR => known_call 24 #[.int .i64 x.age] (Q3.out W) rfl (by go_simp)),
      Or.inr (fun W hB hR => known_val rfl (by go_simp)),
      Or.inr (fun W hB hR => known_val rfl (by have := ((M.drew.step hB).row 0 rfl).b_top hx; go_simp)),
      Or.inr (fun W hB hR => known_call 24 #[.int .i64 x.top] (Q4.out W) rfl (by go_simp)),
      Or.inr (fun W hB hR => known_val rfl (by exact exec_cat (.tmp 48) (.tmp 51) _ _ _ C4.out.1 C4.out.2 rfl rfl rfl)),
      Or.inr (fun W hB hR => known_val rfl (by go_simp)),
      Or.inr (fun W hB hR => known_val rfl (by have := ((M.drew.step hB).row 0 rfl).b_hello hx; go_simp)),
      Or.inr (fun W hB hR => known_call 24 #[.int .i64 x.hello] (Q5.out W) rfl (by go_simp)),
      Or.inr (fun W hB hR => known_val rfl (by exact exec_cat (.tmp 52) (.tmp 55) _ _ _ C5.out.1 C5.out.2 rfl rfl rfl)),
      Or.inr (fun W hB hR => known_val rfl (by go_simp)),
      Or.inr (fun W hB hR => known_val rfl (by have := ((M.drew.step hB).row 0 rfl).b_delay hx; go_simp)),
      Or.inr (fun W hB hR => known_call 24 #[.int .i64 x.delay] (Q6.out W) rfl (by go_simp)),
      Or.inr (fun W hB hR => known_val rfl (by exact exec_cat (.tmp 56) (.tmp 59) _ _ _ C6.out.1 C6.out.2 rfl rfl rfl)),
      Or.inr (fun W hB hR => known_val rfl (by go_simp)), trivial⟩
  intro G W hB hM
  replace M := M.drew.step hB
  clear hB hM
  refine wpAny_end (by kernel_rfl) ?_ _
  refine NoPanic.normal ?_
  clear G
  go_upto_region 5 with fail
  refine wp_region_noPanic ?_
  refine wp_region_flow_text (fin := ?fin7) 9 0 (by kernel_rfl) [.inl (.agg x.c),
    .inl (.string ⟨[fl].toArray⟩),
    .inl (.string ⟨R1.toArray⟩),
    .inl (.string ⟨V.toArray⟩),
    .inl (.string ⟨R2.toArray⟩),
    .inl (.string ⟨U.toArray⟩),
    .inl (.string ⟨R.toArray⟩),
    .inl (.string ⟨R.toArray⟩),
    .inl (.int .i64 0)] rfl rfl (by kernel_rfl) ?hfin7 ?hE7 ?hend7
  case hfin7 =>
    intro G
    simp only [flowAll, flowVal, Act.put, List.setIfInBounds_toArray, List.set_cons_zero, List.set_cons_succ]
    exact rfl
  case hE7 =>
    intro G
    refine ⟨Or.inr (fun W hB hR => known_val rfl (by exact exec_load_row 28 (.tmp 1) w.heap.size ((M.step hB).row 0 rfl) Try.underlying28 rfl (b11_info hx) rfl rfl)),
      Or.inr (fun W hB hR => known_call 25 #[.agg x.c] (QF.out W) rfl (by go_simp)),
      Or.inr (fun W hB hR => known_val rfl (by exact exec_cat (.const (.string ⟨wordL.toArray⟩)) (.tmp 62) _ _ _ C7.out.1 C7.out.2 rfl rfl rfl)),
      Or.inr (fun W hB hR => known_val rfl (by go_simp)),
      Or.inr (fun W hB hR => known_val rfl (by exact exec_cat (.tmp 63) (.tmp 64) _ _ _ C8.out.1 C8.out.2 rfl rfl rfl)),
      Or.inr (fun W hB hR => known_val rfl (by go_simp)),
      Or.inr (fun W hB hR => known_val rfl (by exact exec_cat (.tmp 65) (.tmp 66) _ _ _ C9.out.1 C9.out.2 rfl rfl rfl)),
      Or.inr (fun W hB hR => known_val rfl (by go_simp)),
      Or.inr (fun W hB hR => known_val rfl (by go_simp)), trivial⟩
  intro G W hB hM
  replace M := M.step hB
  clear hB hM
  refine wpAny_end (by kernel_rfl) ?_ _
  refine NoPanic.normal ?_
  go_wp2
  go_ret2
  exact ⟨rfl, M.below⟩
/-- Print, whatever the word -/
theorem print11_any (x : B11) (hx : x.Fit) (w : World) :
    Calls Try.prog 11 #[.agg x.c] w fun e w' => e = .returned (.tuple #[.string ⟨(print11 x).1.toArray⟩, .int .i64 (print11 x).2]) ∧ Below w.heap.size w w' := by
  unfold print11 B11.right
  cases h1 : inL 4294967295 [x.cost] with
  | false => exact print11_cost x hx h1 w
  | true =>
    cases h2 : inL 65535 [x.port, x.age, x.top, x.hello, x.delay] with
    | false => exact print11_two x hx h1 h2 w
    | true =>
      cases h3 : x.young with
      | false => exact print11_old x hx h1 h2 h3 w
      | true => exact print11_yes x hx h1 h2 h3 w
end Go.Proofs.Ytingcoojhfadgaa
