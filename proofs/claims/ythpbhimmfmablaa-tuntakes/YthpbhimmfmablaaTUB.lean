/- Datagrams as values; tun.Print: walked. -/
import Derived.Test.YthpbhimmfmablaaTUA
import Derived.Test.YthpbhimmfmablaaWC
namespace Go.Proofs.Ythpbhimmfmablaa
open Go.RowKit
/-- a datagram -/
structure G12 where
  k : Int
  n : Nat
  b : ByteArray
/-- its cells -/
abbrev G12.c (x : G12) : Array Value := #[.int .i64 x.k, .int .u64 (x.n : Int), .string x.b]
abbrev gz : G12 := ⟨0, 0, ⟨#[]⟩⟩
section
variable {x : G12} {w : World} {g : Nat} {t : TypeId}
theorem Has.g_k (h : Has w g t x.c) : w.cell? ⟨g, 0, none⟩ = some (.int .i64 x.k) := by rw [h.cell]; rfl
theorem Has.g_n (h : Has w g t x.c) : w.cell? ⟨g, 1, none⟩ = some (.int .u64 (x.n : Int)) := by rw [h.cell]; rfl
theorem Has.g_b (h : Has w g t x.c) : w.cell? ⟨g, 2, none⟩ = some (.string x.b) := by rw [h.cell]; rfl
theorem g12_info : (Try.prog.info? 29).map (·.size) = some x.c.size := by kernel_rfl
theorem G12.one (x : G12) : x.c.all (·.oneCell') = true := by simp [Value.oneCell']
end
/-- what is printed -/
def print12 (x : G12) : ByteArray × Int :=
  if x.k = 1 ∨ x.k = 2 then (if x.n = 0 ∧ x.b.size = 48 then (⟨[lowB1 x.k].toArray⟩ ++ x.b, 0) else (⟨#[]⟩, 3))
  else if x.k = 3 then (if 16 ≤ x.b.size then (⟨(3 :: beTail x.n 8).toArray⟩ ++ x.b, 0) else (⟨#[]⟩, 3)) else (⟨#[]⟩, 3)
theorem beTail_split (n : Nat) (h : n < 18446744073709551616) : beTail n 8 = beTail (n / 4294967296 % 4294967296) 4 ++ beTail (n % 4294967296) 4 := by
  have e : n / 4294967296 % 4294967296 = n / 4294967296 := Nat.mod_eq_of_lt (by omega)
  rw [e]
  show [UInt8.ofNat (n / 256 ^ 7), UInt8.ofNat (n / 256 ^ 6), UInt8.ofNat (n / 256 ^ 5), UInt8.ofNat (n / 256 ^ 4), UInt8.ofNat (n / 256 ^ 3), UInt8.ofNat (n / 256 ^ 2), UInt8.ofNat (n / 256 ^ 1), UInt8.ofNat (n / 256 ^ 0)] =
    [UInt8.ofNat (n / 4294967296 / 256 ^ 3), UInt8.ofNat (n / 4294967296 / 256 ^ 2), UInt8.ofNat (n / 4294967296 / 256 ^ 1), UInt8.ofNat (n / 4294967296 / 256 ^ 0), UInt8.ofNat (n % 4294967296 / 256 ^ 3), UInt8.ofNat (n % 4294967296 / 256 ^ 2), UInt8.ofNat (n % 4294967296 / 256 ^ 1), UInt8.ofNat (n % 4294967296 / 256 ^ 0)]
  have h8 : ∀ a b : Nat, a % 256 = b % 256 → UInt8.ofNat a = UInt8.ofNat b := fun a b h => by
    apply UInt8.toNat_inj.1
    rw [UInt8.toNat_ofNat', UInt8.toNat_ofNat']
    exact h
  have p4 : 4294967296 * 256 ^ 3 = 256 ^ 7 := rfl
  rw [Nat.div_div_eq_div_mul, Nat.div_div_eq_div_mul, Nat.div_div_eq_div_mul, Nat.div_div_eq_div_mul]
  have q7 : (4294967296 * 256 ^ 3 : Nat) = 256 ^ 7 := rfl
  have q6 : (4294967296 * 256 ^ 2 : Nat) = 256 ^ 6 := rfl
  have q5 : (4294967296 * 256 ^ 1 : Nat) = 256 ^ 5 := rfl
  have q4 : (4294967296 * 256 ^ 0 : Nat) = 256 ^ 4 := rfl
  rw [q7, q6, q5, q4]
  have r3 : (256 ^ 3 : Nat) = 16777216 := rfl
  have r2 : (256 ^ 2 : Nat) = 65536 := rfl
  have r1 : (256 ^ 1 : Nat) = 256 := rfl
  have r0 : (256 ^ 0 : Nat) = 1 := rfl
  rw [r3, r2, r1, r0]
  rw [h8 (n / 16777216) (n % 4294967296 / 16777216) (by omega), h8 (n / 65536) (n % 4294967296 / 65536) (by omega), h8 (n / 256) (n % 4294967296 / 256) (by omega), h8 (n / 1) (n % 4294967296 / 1) (by omega)]
set_option maxRecDepth 20000 in
set_option maxHeartbeats 1000000 in
theorem print12_none (x : G12) (h : x.k ≠ 1) (h2 : x.k ≠ 2) (h3 : x.k ≠ 3) (w : World) : Calls Try.prog 10 #[.agg x.c] w fun e w' => e = .returned (.tuple #[.string ⟨#[]⟩, .int .i64 3]) ∧ Below w.heap.size w w' := by
  have hB : Below w.heap.size w (w.alloc (.cells x.c 29)) := (Below.refl _ _).alloc (Nat.le_refl _) _
  obtain ⟨k, n, b⟩ := x
  simp only at h h2 h3
  go_enter Try.func10, Try.ntmps10
  go_wp2
  go_ret2
  exact ⟨rfl, hB⟩
set_option maxRecDepth 20000 in
set_option maxHeartbeats 1000000 in
theorem print12_n1 (x : G12) (h : x.k = 1) (hn : x.n ≠ 0) (w : World) : Calls Try.prog 10 #[.agg x.c] w fun e w' => e = .returned (.tuple #[.string ⟨#[]⟩, .int .i64 3]) ∧ Below w.heap.size w w' := by
  have hB : Below w.heap.size w (w.alloc (.cells x.c 29)) := (Below.refl _ _).alloc (Nat.le_refl _) _
  obtain ⟨k, n, b⟩ := x
  simp only at h hn
  subst h
  have hn2 : ((n : Int) == 0) = false := by simp; omega
  go_enter Try.func10, Try.ntmps10
  go_wp2
  go_ret2
  exact ⟨rfl, hB⟩
set_option maxRecDepth 20000 in
set_option maxHeartbeats 1000000 in
theorem print12_n2 (x : G12) (h : x.k = 2) (hn : x.n ≠ 0) (w : World) : Calls Try.prog 10 #[.agg x.c] w fun e w' => e = .returned (.tuple #[.string ⟨#[]⟩, .int .i64 3]) ∧ Below w.heap.size w w' := by
  have hB : Below w.heap.size w (w.alloc (.cells x.c 29)) := (Below.refl _ _).alloc (Nat.le_refl _) _
  obtain ⟨k, n, b⟩ := x
  simp only at h hn
  subst h
  have hn2 : ((n : Int) == 0) = false := by simp; omega
  go_enter Try.func10, Try.ntmps10
  go_wp2
  go_ret2
  exact ⟨rfl, hB⟩
set_option maxRecDepth 20000 in
set_option maxHeartbeats 1000000 in
theorem print12_s1 (x : G12) (h : x.k = 1) (hn : x.n = 0) (hs : x.b.size ≠ 48) (w : World) : Calls Try.prog 10 #[.agg x.c] w fun e w' => e = .returned (.tuple #[.string ⟨#[]⟩, .int .i64 3]) ∧ Below w.heap.size w w' := by
  have hB : Below w.heap.size w (w.alloc (.cells x.c 29)) := (Below.refl _ _).alloc (Nat.le_refl _) _
  obtain ⟨k, n, b⟩ := x
  simp only at h hn hs
  subst h
  subst hn
  have hs2 : ((b.size : Int) == 48) = false := by simp; omega
  go_enter Try.func10, Try.ntmps10
  go_wp2
  go_ret2
  exact ⟨rfl, hB⟩
set_option maxRecDepth 20000 in
set_option maxHeartbeats 1000000 in
theorem print12_s2 (x : G12) (h : x.k = 2) (hn : x.n = 0) (hs : x.b.size ≠ 48) (w : World) : Calls Try.prog 10 #[.agg x.c] w fun e w' => e = .returned (.tuple #[.string ⟨#[]⟩, .int .i64 3]) ∧ Below w.heap.size w w' := by
  have hB : Below w.heap.size w (w.alloc (.cells x.c 29)) := (Below.refl _ _).alloc (Nat.le_refl _) _
  obtain ⟨k, n, b⟩ := x
  simp only at h hn hs
  subst h
  subst hn
  have hs2 : ((b.size : Int) == 48) = false := by simp; omega
  go_enter Try.func10, Try.ntmps10
  go_wp2
  go_ret2
  exact ⟨rfl, hB⟩
set_option maxRecDepth 20000 in
set_option maxHeartbeats 1000000 in
theorem print12_few (x : G12) (h : x.k = 3) (hs : x.b.size < 16) (w : World) : Calls Try.prog 10 #[.agg x.c] w fun e w' => e = .returned (.tuple #[.string ⟨#[]⟩, .int .i64 3]) ∧ Below w.heap.size w w' := by
  have hB : Below w.heap.size w (w.alloc (.cells x.c 29)) := (Below.refl _ _).alloc (Nat.le_refl _) _
  obtain ⟨k, n, b⟩ := x
  simp only at h hs
  subst h
  have hs2 : ¬ (16 : Int) ≤ (b.size : Int) := by omega
  go_enter Try.func10, Try.ntmps10
  go_wp2
  go_ret2
  exact ⟨rfl, hB⟩
set_option maxRecDepth 20000 in
set_option maxHeartbeats 1000000 in
theorem print12_g1 (b : ByteArray) (hs : b.size = 48) (w : World) : Calls Try.prog 10 #[.agg (G12.mk 1 0 b).c] w fun e w' => e = .returned (.tuple #[.string (⟨[lowB1 1].toArray⟩ ++ b), .int .i64 0]) ∧ Below w.heap.size w w' := by
  have M : Mem w [(w.heap.size, 29, (G12.mk 1 0 b).c)] (w.alloc (.cells (G12.mk 1 0 b).c 29)) := (Mem.init w).alloc _ rfl _ _
  have hs2 : ((b.size : Int) == 48) = true := by simp; omega
  go_enter Try.func10, Try.ntmps10
  go_upto_region 5 with fail
  change Code.wp _ _ _ _ (w.alloc (.cells (G12.mk 1 0 b).c 29))
  generalize w.alloc (.cells (G12.mk 1 0 b).c 29) = W0 at M ⊢
  refine wp_region_noPanic ?_
  refine wp_region_flow (fin := ?fin1) 8 0 (by kernel_rfl) [.inl (.pointer (some ⟨w.heap.size, 0, none⟩)),
    .inl (.int .i64 1),
    .inl (.string ⟨[lowB1 1].toArray⟩),
    .inl (.pointer (some ⟨w.heap.size, 2, none⟩)),
    .inl (.string b),
    .inl (.string (⟨[lowB1 1].toArray⟩ ++ b)),
    .inl (.string (⟨[lowB1 1].toArray⟩ ++ b)),
    .inl (.int .i64 0)] rfl rfl (by kernel_rfl) ?hfin1 ?hE1 ?hend1
  case hfin1 =>
    intro G
    simp only [flowAll, flowVal, Act.put, List.setIfInBounds_toArray, List.set_cons_zero, List.set_cons_succ]
    exact rfl
  case hE1 =>
    intro G
    refine ⟨Or.inr (fun W hB hR => known_val rfl (by go_simp)),
      Or.inr (fun W hB hR => known_val rfl (by have := ((M.drew.step hB).row 0 rfl).g_k; go_simp)),
      Or.inr (fun W hB hR => known_call 21 #[.int .i64 1] (oneByte_any 1 _) rfl (by go_simp)),
      Or.inr (fun W hB hR => known_val rfl (by go_simp)),
      Or.inr (fun W hB hR => known_val rfl (by have := ((M.drew.step hB).row 0 rfl).g_b; go_simp)),
      Or.inr (fun W hB hR => known_val rfl (by exact exec_cat _ _ _ _ _ rfl (by rw [str_size, hs]; decide) rfl rfl rfl)),
      Or.inr (fun W hB hR => known_val rfl (by go_simp)),
      Or.inr (fun W hB hR => known_val rfl (by go_simp)), trivial⟩
  intro G W hB hM
  replace M := M.drew.step hB
  clear hB hM
  refine wpAny_end (by kernel_rfl) ?_ _
  refine NoPanic.normal ?_
  go_wp2
  go_ret2
  exact ⟨rfl, M.below⟩
set_option maxRecDepth 20000 in
set_option maxHeartbeats 1000000 in
theorem print12_g2 (b : ByteArray) (hs : b.size = 48) (w : World) : Calls Try.prog 10 #[.agg (G12.mk 2 0 b).c] w fun e w' => e = .returned (.tuple #[.string (⟨[lowB1 2].toArray⟩ ++ b), .int .i64 0]) ∧ Below w.heap.size w w' := by
  have M : Mem w [(w.heap.size, 29, (G12.mk 2 0 b).c)] (w.alloc (.cells (G12.mk 2 0 b).c 29)) := (Mem.init w).alloc _ rfl _ _
  have hs2 : ((b.size : Int) == 48) = true := by simp; omega
  go_enter Try.func10, Try.ntmps10
  go_upto_region 5 with fail
  change Code.wp _ _ _ _ (w.alloc (.cells (G12.mk 2 0 b).c 29))
  generalize w.alloc (.cells (G12.mk 2 0 b).c 29) = W0 at M ⊢
  refine wp_region_noPanic ?_
  refine wp_region_flow (fin := ?fin2) 8 0 (by kernel_rfl) [.inl (.pointer (some ⟨w.heap.size, 0, none⟩)),
    .inl (.int .i64 2),
    .inl (.string ⟨[lowB1 2].toArray⟩),
    .inl (.pointer (some ⟨w.heap.size, 2, none⟩)),
    .inl (.string b),
    .inl (.string (⟨[lowB1 2].toArray⟩ ++ b)),
    .inl (.string (⟨[lowB1 2].toArray⟩ ++ b)),
    .inl (.int .i64 0)] rfl rfl (by kernel_rfl) ?hfin2 ?hE2 ?hend2
  case hfin2 =>
    intro G
    simp only [flowAll, flowVal, Act.put, List.setIfInBounds_toArray, List.set_cons_zero, List.set_cons_succ]
    exact rfl
  case hE2 =>
    intro G
    refine ⟨Or.inr (fun W hB hR => known_val rfl (by go_simp)),
      Or.inr (fun W hB hR => known_val rfl (by have := ((M.drew.step hB).row 0 rfl).g_k; go_simp)),
      Or.inr (fun W hB hR => known_call 21 #[.int .i64 2] (oneByte_any 2 _) rfl (by go_simp)),
      Or.inr (fun W hB hR => known_val rfl (by go_simp)),
      Or.inr (fun W hB hR => known_val rfl (by have := ((M.drew.step hB).row 0 rfl).g_b; go_simp)),
      Or.inr (fun W hB hR => known_val rfl (by exact exec_cat _ _ _ _ _ rfl (by rw [str_size, hs]; decide) rfl rfl rfl)),
      Or.inr (fun W hB hR => known_val rfl (by go_simp)),
      Or.inr (fun W hB hR => known_val rfl (by go_simp)), trivial⟩
  intro G W hB hM
  replace M := M.drew.step hB
  clear hB hM
  refine wpAny_end (by kernel_rfl) ?_ _
  refine NoPanic.normal ?_
  go_wp2
  go_ret2
  exact ⟨rfl, M.below⟩
set_option maxRecDepth 20000 in
set_option maxHeartbeats 1000000 in
theorem print12_s (n : Nat) (b : ByteArray) (hn : n < 18446744073709551616) (hs : 16 ≤ b.size) (hs1 : b.size ≤ 1000000) (w : World) : Calls Try.prog 10 #[.agg (G12.mk 3 n b).c] w fun e w' => e = .returned (.tuple #[.string (⟨(3 :: beTail n 8).toArray⟩ ++ b), .int .i64 0]) ∧ Below w.heap.size w w' := by
  have M : Mem w [(w.heap.size, 29, (G12.mk 3 n b).c)] (w.alloc (.cells (G12.mk 3 n b).c 29)) := (Mem.init w).alloc _ rfl _ _
  have hs2 : (16 : Int) ≤ (b.size : Int) := by omega
  have hsp := beTail_split n hn
  have l1 := beTail_length (n / 4294967296 % 4294967296) 4
  have l2 := beTail_length (n % 4294967296) 4
  have hp1 := fun W => printWord_any (n / 4294967296) W
  have hp2 := fun W => printWord_any n W
  have hd : ((n : Int) / 4294967296) = ((n / 4294967296 : Nat) : Int) := by omega
  rw [hsp]
  generalize beTail (n / 4294967296 % 4294967296) 4 = A at *
  generalize beTail (n % 4294967296) 4 = B at *
  generalize n / 4294967296 = m at *
  clear hsp
  have HP1 := Lib.hid hp1
  have HP2 := Lib.hid hp2
  clear hp1 hp2
  go_enter Try.func10, Try.ntmps10
  go_upto_region 8 with fail
  change Code.wp _ _ _ _ (w.alloc (.cells (G12.mk 3 n b).c 29))
  generalize w.alloc (.cells (G12.mk 3 n b).c 29) = W0 at M ⊢
  refine wp_region_noPanic ?_
  refine wp_region_flow (fin := ?fin3) 17 0 (by kernel_rfl) [.inl (.pointer (some ⟨w.heap.size, 0, none⟩)),
    .inl (.int .i64 3),
    .inl (.string ⟨[(3 : UInt8)].toArray⟩),
    .inl (.pointer (some ⟨w.heap.size, 1, none⟩)),
    .inl (.int .u64 (n : Int)),
    .inl (.int .u64 (m : Int)),
    .inl (.string ⟨A.toArray⟩),
    .inl (.string ⟨((3 : UInt8) :: A).toArray⟩),
    .inl (.pointer (some ⟨w.heap.size, 1, none⟩)),
    .inl (.int .u64 (n : Int)),
    .inl (.string ⟨B.toArray⟩),
    .inl (.string ⟨(((3 : UInt8) :: A) ++ B).toArray⟩),
    .inl (.pointer (some ⟨w.heap.size, 2, none⟩)),
    .inl (.string b),
    .inl (.string (⟨(((3 : UInt8) :: A) ++ B).toArray⟩ ++ b)),
    .inl (.string (⟨(((3 : UInt8) :: A) ++ B).toArray⟩ ++ b)),
    .inl (.int .i64 0)] rfl rfl (by kernel_rfl) ?hfin3 ?hE3 ?hend3
  case hfin3 =>
    intro G
    simp only [flowAll, flowVal, Act.put, List.setIfInBounds_toArray, List.set_cons_zero, List.set_cons_succ]
    exact rfl
  case hE3 =>
    intro G
    refine ⟨Or.inr (fun W hB hR => known_val rfl (by go_simp)),
      Or.inr (fun W hB hR => known_val rfl (by have := ((M.drew.step hB).row 0 rfl).g_k; go_simp)),
      Or.inr (fun W hB hR => known_call 21 #[.int .i64 3] (oneByte_any 3 _) rfl (by go_simp)),
      Or.inr (fun W hB hR => known_val rfl (by go_simp)),
      Or.inr (fun W hB hR => known_val rfl (by have := ((M.drew.step hB).row 0 rfl).g_n; go_simp)),
      Or.inr (fun W hB hR => known_val rfl (by go_simp)),
      Or.inr (fun W hB hR => known_call 22 #[.int .u64 (m : Int)] (HP1.out _) rfl (by go_simp)),
      Or.inr (fun W hB hR => known_val rfl (by exact exec_cat _ _ _ _ _ (cat_str [3] A) (by rw [str_size, str_size, l1]; decide) rfl rfl rfl)),
      Or.inr (fun W hB hR => known_val rfl (by go_simp)),
      Or.inr (fun W hB hR => known_val rfl (by have := ((M.drew.step hB).row 0 rfl).g_n; go_simp)),
      Or.inr (fun W hB hR => known_call 22 #[.int .u64 (n : Int)] (HP2.out _) rfl (by go_simp)),
      Or.inr (fun W hB hR => known_val rfl (by exact exec_cat _ _ _ _ _ (cat_str _ B) (by rw [str_size, str_size, l2, List.length_cons, l1]; decide) rfl rfl rfl)),
      Or.inr (fun W hB hR => known_val rfl (by go_simp)),
      Or.inr (fun W hB hR => known_val rfl (by have := ((M.drew.step hB).row 0 rfl).g_b; go_simp)),
      Or.inr (fun W hB hR => known_val rfl (by exact exec_cat _ _ _ _ _ rfl (by rw [str_size, List.length_append, List.length_cons, l1, l2]; omega) rfl rfl rfl)),
      Or.inr (fun W hB hR => known_val rfl (by go_simp)),
      Or.inr (fun W hB hR => known_val rfl (by go_simp)), trivial⟩
  intro G W hB hM
  replace M := M.drew.step hB
  clear hB hM
  refine wpAny_end (by kernel_rfl) ?_ _
  refine NoPanic.normal ?_
  go_wp2
  go_ret2
  exact ⟨rfl, M.below⟩
/-- Print, whatever the datagram -/
theorem print12_any (x : G12) (hn : x.n < 18446744073709551616) (hs : x.b.size ≤ 1000000) (w : World) : Calls Try.prog 10 #[.agg x.c] w fun e w' => e = .returned (.tuple #[.string (print12 x).1, .int .i64 (print12 x).2]) ∧ Below w.heap.size w w' := by
  unfold print12
  by_cases h1 : x.k = 1
  · rw [if_pos (Or.inl h1)]
    by_cases h2 : x.n = 0
    · by_cases h3 : x.b.size = 48
      · rw [if_pos ⟨h2, h3⟩]
        obtain ⟨k, n, b⟩ := x
        simp only at h1 h2
        subst h1
        subst h2
        exact print12_g1 b h3 w
      · rw [if_neg (fun h => h3 h.2)]
        exact print12_s1 x h1 h2 h3 w
    · rw [if_neg (fun h => h2 h.1)]
      exact print12_n1 x h1 h2 w
  by_cases h1b : x.k = 2
  · rw [if_pos (Or.inr h1b)]
    by_cases h2 : x.n = 0
    · by_cases h3 : x.b.size = 48
      · rw [if_pos ⟨h2, h3⟩]
        obtain ⟨k, n, b⟩ := x
        simp only at h1b h2
        subst h1b
        subst h2
        exact print12_g2 b h3 w
      · rw [if_neg (fun h => h3 h.2)]
        exact print12_s2 x h1b h2 h3 w
    · rw [if_neg (fun h => h2 h.1)]
      exact print12_n2 x h1b h2 w
  rw [if_neg (fun h => h.elim h1 h1b)]
  by_cases h3 : x.k = 3
  · rw [if_pos h3]
    by_cases h4 : 16 ≤ x.b.size
    · rw [if_pos h4]
      obtain ⟨k, n, b⟩ := x
      simp only at h3
      subst h3
      exact print12_s n b hn h4 hs w
    · rw [if_neg h4]
      exact print12_few x h3 (by omega) w
  · rw [if_neg h3]
    exact print12_none x h1 h1b h3 w
end Go.Proofs.Ythpbhimmfmablaa
