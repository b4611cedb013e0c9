/- curve.product: walked. -/
import Derived.Test.YtdikkdediofieaaEE
namespace Go.Proofs.Ytdikkdediofieaa
open Go.RowKit
/-- what memory holds in the midst of a product -/
def MulEnv (w : World) (xs ys o : List Nat) (W : World) : Prop :=
  Has W w.heap.size 39 (us xs) ∧ Has W (w.heap.size + 1) 39 (us ys) ∧ Has W (w.heap.size + 1 + 1) 39 z4 ∧ Has W (w.heap.size + 1 + 1 + 1) 53 (us o) ∧ Below w.heap.size w W
section
variable {w : World} {xs ys o : List Nat} {W W' : World}
theorem MulEnv.drew (h : MulEnv w xs ys o W) : MulEnv w xs ys o W.drew := ⟨h.1, h.2.1, h.2.2.1, h.2.2.2.1, h.2.2.2.2.drew⟩
theorem MulEnv.put (h : MulEnv w xs ys o W) (j s : Nat) : MulEnv w xs ys (o.set j s) (W.setCell ⟨w.heap.size + 1 + 1 + 1, j, none⟩ (U64 s)) :=
  ⟨h.1.other (by show w.heap.size ≠ w.heap.size + 1 + 1 + 1; omega) _, h.2.1.other (by show w.heap.size + 1 ≠ w.heap.size + 1 + 1 + 1; omega) _, h.2.2.1.other (by show w.heap.size + 1 + 1 ≠ w.heap.size + 1 + 1 + 1; omega) _, h.2.2.2.1.setU j s,
    h.2.2.2.2.setCell (by show w.heap.size ≤ w.heap.size + 1 + 1 + 1; omega) _⟩
theorem MulEnv.step (h : MulEnv w xs ys o W) (hb : Below W.heap.size W W') : MulEnv w xs ys o W' :=
  ⟨h.1.below hb h.1.lt, h.2.1.below hb h.2.1.lt, h.2.2.1.below hb h.2.2.1.lt, h.2.2.2.1.below hb h.2.2.2.1.lt, h.2.2.2.2.trans (hb.mono h.2.2.2.2.size)⟩
end
theorem four_new (w : World) (a b c d : Array Value) (ta tb tc td : TypeId) : Has ((((w.alloc (.cells a ta)).alloc (.cells b tb)).alloc (.cells c tc)).alloc (.cells d td)) w.heap.size ta a ∧
    Has ((((w.alloc (.cells a ta)).alloc (.cells b tb)).alloc (.cells c tc)).alloc (.cells d td)) (w.heap.size + 1) tb b ∧ Has ((((w.alloc (.cells a ta)).alloc (.cells b tb)).alloc (.cells c tc)).alloc (.cells d td)) (w.heap.size + 1 + 1) tc c ∧
    Has ((((w.alloc (.cells a ta)).alloc (.cells b tb)).alloc (.cells c tc)).alloc (.cells d td)) (w.heap.size + 1 + 1 + 1) td d ∧ Below w.heap.size w ((((w.alloc (.cells a ta)).alloc (.cells b tb)).alloc (.cells c tc)).alloc (.cells d td)) := by
  obtain ⟨i1, i2, i3, hb⟩ := three_new w a b c ta tb tc
  refine ⟨i1.alloc _, i2.alloc _, i3.alloc _, ?_, hb.alloc (by simp; omega) _⟩
  have h := Has.fresh (((w.alloc (.cells a ta)).alloc (.cells b tb)).alloc (.cells c tc)) td d
  rw [alloc_size, alloc_size, alloc_size] at h
  exact h
theorem zeros_getD (n k : Nat) : (List.replicate n 0).getD k 0 = 0 := by rw [List.getD_eq_getElem?_getD, List.getElem?_replicate]; split <;> rfl
/-- one word of a row of the product -/
theorem mul_round (o ys : List Nat) (x T i j c s : Nat) (hi : i < 4) (hj : j < 4) (lo : o.length = 8) (ly : ys.length = 4) (hn : num 18446744073709551616 o + c * 18446744073709551616 ^ (i + j) = T + x * num 18446744073709551616 (ys.take j) * 18446744073709551616 ^ i)
    (hs : s = x * ys.getD j 0 + o.getD (i + j) 0 + c) : num 18446744073709551616 (o.set (i + j) (s % 18446744073709551616)) + s / 18446744073709551616 * 18446744073709551616 ^ (i + (j + 1)) = T + x * num 18446744073709551616 (ys.take (j + 1)) * 18446744073709551616 ^ i := by
  have hst := step_mul 18446744073709551616 o (i + j) s (x * ys.getD j 0) c (by omega) hs
  rw [show i + (j + 1) = i + j + 1 from rfl, hst, hn, num_take_succ 18446744073709551616 ys j (by omega), Nat.mul_add, Nat.add_mul, Nat.pow_add, ← Nat.add_assoc]
  congr 1
  simp only [Nat.mul_assoc, Nat.mul_left_comm, Nat.mul_comm]
/-- a row's last word -/
theorem row_end (o xs ys : List Nat) (x i c : Nat) (hi : i < 4) (lo : o.length = 8) (lx : xs.length = 4) (hx : x = xs.getD i 0) (hz : o.getD (i + 4) 0 = 0)
    (hn : num 18446744073709551616 o + c * 18446744073709551616 ^ (i + 4) = num 18446744073709551616 (xs.take i) * num 18446744073709551616 ys + x * num 18446744073709551616 ys * 18446744073709551616 ^ i) : num 18446744073709551616 (o.set (i + 4) c) = num 18446744073709551616 (xs.take (i + 1)) * num 18446744073709551616 ys := by
  have h := num_set 18446744073709551616 o (i + 4) c (by omega)
  rw [hz, Nat.zero_mul, Nat.add_zero] at h
  rw [h, hn, num_take_succ 18446744073709551616 xs i (by omega), Nat.add_mul, ← hx]
  congr 1
  simp only [Nat.mul_assoc, Nat.mul_left_comm, Nat.mul_comm]
set_option maxHeartbeats 2000000 in
theorem product_any (X Y : Nat) (hX : X < 57896044618658097711785492504343953926634992332820282019728792003956564819968) (hY : Y < 57896044618658097711785492504343953926634992332820282019728792003956564819968) (w : World) :
    Calls Try.prog 24 #[.agg (us (dg 18446744073709551616 X 4)), .agg (us (dg 18446744073709551616 Y 4))] w fun e w' => e = .returned (.agg (us (dg 18446744073709551616 (X * Y % 57896044618658097711785492504343953926634992332820282019728792003956564819949) 4))) ∧ Below w.heap.size w w' := by
  obtain ⟨xs, hxs⟩ : ∃ xs, xs = dg 18446744073709551616 X 4 := ⟨_, rfl⟩
  obtain ⟨ys, hys⟩ : ∃ ys, ys = dg 18446744073709551616 Y 4 := ⟨_, rfl⟩
  obtain ⟨zs, hzs⟩ : ∃ zs, zs = dg 18446744073709551616 (X * Y % 57896044618658097711785492504343953926634992332820282019728792003956564819949) 4 := ⟨_, rfl⟩
  have e4 : (18446744073709551616 : Nat) ^ 4 = 115792089237316195423570985008687907853269984665640564039457584007913129639936 := by decide
  have lx : xs.length = 4 := by rw [hxs, dg_length]
  have ly : ys.length = 4 := by rw [hys, dg_length]
  have lz : zs.length = 4 := by rw [hzs, dg_length]
  have dx : Dig 18446744073709551616 xs := by rw [hxs]; exact dg_dig _ _ _ (by omega)
  have dy : Dig 18446744073709551616 ys := by rw [hys]; exact dg_dig _ _ _ (by omega)
  have nx : num 18446744073709551616 xs = X := by rw [hxs, num_dg, e4]; omega
  have ny : num 18446744073709551616 ys = Y := by rw [hys, num_dg, e4]; omega
  rw [← hxs, ← hys, ← hzs]
  have hXY : X * Y < 3351951982485649274893506249551461531869841455148098344430890360930441007518386744200468574541725856922507964546621512713438470702986642486608412251521024 := Nat.lt_of_lt_of_le (Nat.mul_lt_mul'' hX hY) (by decide)
  have hfo : ∀ o : List Nat, o.length = 8 → Dig 18446744073709551616 o → num 18446744073709551616 o = num 18446744073709551616 xs * num 18446744073709551616 ys → o = dg 18446744073709551616 (X * Y) 8 := fun o l d h => by
    refine dg_of (by omega) d l ?_
    rw [h, nx, ny]
    exact (Nat.mod_eq_of_lt (Nat.lt_of_lt_of_le hXY (by decide))).symm
  have hf := folded_any (X * Y) hXY
  have hr := rest_any (fld (X * Y)) (fld_lt _ hXY)
  rw [fld_mod, ← hzs] at hr
  have hE := four_new w (us xs) (us ys) z4 z8w 39 39 39 53
  have HF := Lib.hid hf
  have HR := Lib.hid hr
  have HO := Lib.hid hfo
  have HX := Lib.hid lx
  have HY := Lib.hid ly
  have HZ := Lib.hid lz
  clear hf hr hfo lx ly lz hxs hys hzs nx ny hX hY hXY e4
  go_enter Try.func24, Try.ntmps24
  go_upto_region 2 with fail
  change Code.wp _ _ _ _ ((((w.alloc (.cells (us xs) 39)).alloc (.cells (us ys) 39)).alloc (.cells z4 39)).alloc (.cells z8w 53))
  generalize (((w.alloc (.cells (us xs) 39)).alloc (.cells (us ys) 39)).alloc (.cells z4 39)).alloc (.cells z8w 53) = w0 at hE ⊢
  have hE' : MulEnv w xs ys (List.replicate 8 0) w0 := hE
  clear hE
  go_wp2
  go_loopw [9] (fun ic wr => ∃ (i : Nat) (o : List Nat), i ≤ 4 ∧ ic = .int .i64 (i : Int) ∧ o.length = 8 ∧ Dig 18446744073709551616 o ∧ num 18446744073709551616 o = num 18446744073709551616 (xs.take i) * num 18446744073709551616 ys ∧ (∀ k, i + 4 ≤ k → o.getD k 0 = 0) ∧ MulEnv w xs ys o wr) (fun i _ => 4 - (intOf i).toNat)
  case atStart => exact ⟨0, List.replicate 8 0, by omega, rfl, by simp, by intro a h; simp at h; omega, by simp [num], fun k _ => zeros_getD 8 k, hE'⟩
  case round =>
    clear hE' w0
    obtain ⟨i, o, hi, rfl, lo, do', hn, hz, E⟩ := hrel
    by_cases hlt : i < 4
    · have hib : decide ((i : Int) < 4) = true := by simp; omega
      have HZO := Lib.hid hz
      have HN := Lib.hid hn
      have HLO := Lib.hid lo
      clear hz hn lo
      obtain ⟨x, hx⟩ : ∃ x, x = xs.getD i 0 := ⟨_, rfl⟩
      have x1 : x < 18446744073709551616 := by rw [hx]; exact dx.getD (by omega) i
      have HXI := Lib.hid hx
      clear hx
      go_wp2
      go_loopw [7, 12] (fun cc jc wr => ∃ (j c : Nat) (o : List Nat), j ≤ 4 ∧ jc = .int .i64 (j : Int) ∧ cc = U64 c ∧ c < 18446744073709551616 ∧ o.length = 8 ∧ Dig 18446744073709551616 o ∧ num 18446744073709551616 o + c * 18446744073709551616 ^ (i + j) = num 18446744073709551616 (xs.take i) * num 18446744073709551616 ys + x * num 18446744073709551616 (ys.take j) * 18446744073709551616 ^ i ∧ (∀ k, i + 4 ≤ k → o.getD k 0 = 0) ∧ MulEnv w xs ys o wr) (fun _ j _ => 4 - (intOf j).toNat)
      case atStart => exact ⟨0, 0, o, by omega, rfl, rfl, by omega, HLO.out, do', by rw [HN.out]; simp [num], HZO.out, E⟩
      case round =>
        clear E do' HZO HN HLO o
        obtain ⟨j, c, o, hj, rfl, rfl, hc, lo, do', hn, hz, E⟩ := hrel
        by_cases hjt : j < 4
        · have hjb : decide ((j : Int) < 4) = true := by simp; omega
          have i4 : ¬ ((4 : Int) ≤ (i : Int)) := by omega
          have j4 : ¬ ((4 : Int) ≤ (j : Int)) := by omega
          obtain ⟨s, hs⟩ : ∃ s, s = x * ys.getD j 0 + o.getD (i + j) 0 + c := ⟨_, rfl⟩
          have hnx := mul_round o ys x _ i j c s hlt hjt lo HY.out hn hs
          have y1 : ys.getD j 0 < 18446744073709551616 := dy.getD (by omega) j
          have o1 : o.getD (i + j) 0 < 18446744073709551616 := do'.getD (by omega) (i + j)
          have hle := mul_le64 x1 y1
          have hs1 : s / 18446744073709551616 < 18446744073709551616 := by omega
          have hs2 : s % 18446744073709551616 < 18446744073709551616 := Nat.mod_lt _ (by omega)
          have hzx : ∀ k, i + 4 ≤ k → (o.set (i + j) (s % 18446744073709551616)).getD k 0 = 0 := fun k hk => by rw [getD_set_other o (i + j) _ k (by omega)]; exact hz k hk
          have hlo' : (o.set (i + j) (s % 18446744073709551616)).length = 8 := by rw [List.length_set, lo]
          have hdo := do'.set (i + j) hs2
          have hcall : ∀ W, Calls Try.prog 32 #[U64 x, U64 (ys.getD j 0), U64 (o.getD (i + j) 0), U64 c] W fun e W' => e = .returned (.tuple #[U64 (s / 18446744073709551616), U64 (s % 18446744073709551616)]) ∧ Below W.heap.size W W' := fun W =>
            (taken_any x (ys.getD j 0) (o.getD (i + j) 0) c x1 y1 o1 hc W).mono (by rintro e W' ⟨rfl, rfl⟩; exact ⟨by rw [hs], Below.refl _ _⟩)
          have g1 : ∀ W, Below wr.drew.heap.size wr.drew W → W.cell? ⟨w.heap.size, i, none⟩ = some (U64 x) := fun W h => by rw [HXI.out]; exact (E.drew.step h).1.u64 _ (by rw [HX.out]; omega)
          have g2 : ∀ W, Below wr.drew.heap.size wr.drew W → W.cell? ⟨w.heap.size + 1, j, none⟩ = some (U64 (ys.getD j 0)) := fun W h => (E.drew.step h).2.1.u64 _ (by rw [HY.out]; omega)
          have g3 : ∀ W, Below wr.drew.heap.size wr.drew W → W.cell? ⟨w.heap.size + 1 + 1 + 1, i + j, none⟩ = some (U64 (o.getD (i + j) 0)) := fun W h => (E.drew.step h).2.2.2.1.u64 _ (by omega)
          generalize s % 18446744073709551616 = s0 at hnx hzx hlo' hdo hcall hs2
          generalize s / 18446744073709551616 = s1 at hnx hcall hs1
          generalize ys.getD j 0 = b at g2 hcall
          generalize o.getD (i + j) 0 = d at g3 hcall
          have HC := Lib.hid hcall
          have HNX := Lib.hid hnx
          have HZX := Lib.hid hzx
          have HLO' := Lib.hid hlo'
          have HDO := Lib.hid hdo
          have HL8 := Lib.hid lo
          clear hcall hnx hzx hlo' hdo hs hn hz do' lo y1 o1 hs2 hle
          have a1 : IntKind.i64.wrap ((i : Int) + (j : Int)) = (i : Int) + (j : Int) := IntWalk.i64_in _ ⟨by omega, by omega⟩
          have n1 : ((i : Int) + (j : Int)).toNat = i + j := by omega
          have b1 : (0 : Int) ≤ (i : Int) + (j : Int) := by omega
          have d1 : (i : Int) + (j : Int) < 8 := by omega
          go_wp2_with fail
          refine wp_region_noPanic ?_
          refine wp_region_drew (by kernel_rfl) ?_
          refine take0 14 30 (U64 c) _ rfl (by kernel_rfl) (by kernel_rfl) (by kernel_rfl) (fun _ _ _ h => h) rfl rfl (fun w' => by go_simp) ?_
          simp only [Act.put, List.setIfInBounds_toArray, List.set_cons_zero, List.set_cons_succ]
          refine wpAny_flow_pre (fin := ?fin1) 21 1 [14] [.inl (.int .i64 (i : Int)),
            .inl (.int .i64 (j : Int)),
            .inl (.int .i64 ((i : Int) + (j : Int))),
            .inl (.int .i64 (i : Int)),
            .inl (.pointer (some ⟨w.heap.size, i, none⟩)),
            .inl (U64 x),
            .inl (.int .i64 (j : Int)),
            .inl (.pointer (some ⟨w.heap.size + 1, j, none⟩)),
            .inl (U64 b),
            .inl (.int .i64 (i : Int)),
            .inl (.int .i64 (j : Int)),
            .inl (.int .i64 ((i : Int) + (j : Int))),
            .inl (.pointer (some ⟨w.heap.size + 1 + 1 + 1, i + j, none⟩)),
            .inl (U64 d),
            .inl (U64 c),
            .inl (.tuple #[U64 s1, U64 s0]),
            .inl (.tuple #[U64 s1, U64 s0]),
            .inl (U64 s1),
            .inl (U64 s0),
            .inl (U64 s1),
            .inl (.pointer (some ⟨w.heap.size + 1 + 1 + 1, i + j, none⟩))] rfl rfl (by kernel_rfl) rfl (by kernel_rfl) (by kernel_rfl) rfl ?hfin1 ?hE1 ?hend1
          case hfin1 =>
            intro G
            simp only [flowAll, flowVal, Act.put, List.setIfInBounds_toArray, List.set_cons_zero, List.set_cons_succ]
            exact rfl
          case hE1 =>
            intro G
            refine ⟨Or.inr (fun W hB => known_val rfl (by go_simp)),
              Or.inr (fun W hB => known_val rfl (by go_simp)),
              Or.inr (fun W hB => known_val rfl (by go_simp)),
              Or.inr (fun W hB => known_val rfl (by go_simp)),
              Or.inr (fun W hB => known_val rfl (by go_simp)),
              Or.inr (fun W hB => known_val rfl (by have := g1 W hB; go_simp)),
              Or.inr (fun W hB => known_val rfl (by go_simp)),
              Or.inr (fun W hB => known_val rfl (by go_simp)),
              Or.inr (fun W hB => known_val rfl (by have := g2 W hB; go_simp)),
              Or.inr (fun W hB => known_val rfl (by go_simp)),
              Or.inr (fun W hB => known_val rfl (by go_simp)),
              Or.inr (fun W hB => known_val rfl (by go_simp)),
              Or.inr (fun W hB => known_val rfl (by go_simp)),
              Or.inr (fun W hB => known_val rfl (by have := g3 W hB; go_simp)),
              Or.inl rfl,
              Or.inr (fun W hB => known_call 32 #[U64 x, U64 b, U64 d, U64 c] (HC.out W) rfl (by go_simp)),
              Or.inr (fun W hB => known_val rfl (by go_simp)),
              Or.inr (fun W hB => known_val rfl (by go_simp)),
              Or.inr (fun W hB => known_val rfl (by go_simp)),
              Or.inr (fun W hB => known_val rfl (by go_simp)),
              Or.inr (fun W hB => known_val rfl (by go_simp)), trivial⟩
          intro G W hB hM
          clear hM g1 g2 g3 HC a1 n1 b1 d1
          replace E := E.drew.step hB
          clear hB
          have c2 := E.2.2.2.1.u64 (i + j) (by rw [HL8.out]; omega)
          have f2 := E.2.2.2.1.frozen (i + j)
          refine only0 21 (W.setCell ⟨w.heap.size + 1 + 1 + 1, i + j, none⟩ (U64 s0)) _ (by kernel_rfl) rfl rfl rfl (by go_simp) ?_
          clear c2 f2
          replace E := E.put (i + j) s0
          refine wpAny_end (by kernel_rfl) ?_ _
          refine NoPanic.normal ?_
          generalize W.setCell ⟨w.heap.size + 1 + 1 + 1, i + j, none⟩ (U64 s0) = w2 at E ⊢
          go_wp2
          go_roundw
          case rel => exact ⟨j + 1, s1, o.set (i + j) s0, by omega, by go_num, rfl, hs1, HLO'.out, HDO.out, HNX.out, HZX.out, E⟩
          case measure => simp [intOf]; omega
        · have hj4 : j = 4 := by omega
          subst hj4
          rw [show (((4 : Nat) : Int)) = 4 from rfl]
          have hjb : decide ((4 : Int) < 4) = false := by decide
          rw [show ys.take 4 = ys from List.take_of_length_le (by rw [HY.out]; omega)] at hn
          have hre := row_end o xs ys x i c hlt lo HX.out HXI.out (hz (i + 4) (by omega)) hn
          have hzx : ∀ k, i + 1 + 4 ≤ k → (o.set (i + 4) c).getD k 0 = 0 := fun k hk => by rw [getD_set_other o (i + 4) _ k (by omega)]; exact hz k (by omega)
          have hlo' : (o.set (i + 4) c).length = 8 := by rw [List.length_set, lo]
          have hdo := do'.set (i + 4) hc
          have c2 := E.2.2.2.1.u64 (i + 4) (by omega)
          have f2 := E.2.2.2.1.frozen (i + 4)
          replace E := E.put (i + 4) c
          have HRE := Lib.hid hre
          have HZX := Lib.hid hzx
          have HLO' := Lib.hid hlo'
          have HDO := Lib.hid hdo
          clear hre hzx hlo' hdo hn hz lo do'
          generalize o.getD (i + 4) 0 = d at c2
          have a1 : IntKind.i64.wrap ((i : Int) + 4) = (i : Int) + 4 := IntWalk.i64_in _ ⟨by omega, by omega⟩
          have n1 : ((i : Int) + 4).toNat = i + 4 := by omega
          have b1 : (0 : Int) ≤ (i : Int) + 4 := by omega
          have d1 : (i : Int) + 4 < 8 := by omega
          go_wp2
          go_roundw
          case rel => exact ⟨i + 1, o.set (i + 4) c, by omega, by go_num, HLO'.out, HDO.out, HRE.out, HZX.out, E⟩
          case measure => simp [intOf]; omega
    · have hi4 : i = 4 := by omega
      subst hi4
      rw [show (((4 : Nat) : Int)) = 4 from rfl]
      have hib : decide ((4 : Int) < 4) = false := by decide
      rw [show xs.take 4 = xs from List.take_of_length_le (by rw [HX.out]; omega)] at hn
      have ho := HO.out o lo do' hn
      subst ho
      have HLO := Lib.hid lo
      clear hn hz lo do' HO
      generalize dg 18446744073709551616 (X * Y) 8 = o at HF HLO E
      have HL4 := Lib.hid (dg_length 18446744073709551616 (fld (X * Y)) 4)
      generalize dg 18446744073709551616 (fld (X * Y)) 4 = f at HF HR HL4
      go_wp2_with (refine wpList_load_row rfl 53 (.tmp 5) rfl (w.heap.size + 1 + 1 + 1) rfl 53 (us o) (0, 0) _ E.2.2.2.1 Try.underlying53 rfl (info8 o HLO.out) ?_)
      go_at_call 33
      refine (HF.out _).mono ?_
      rintro e w3 ⟨rfl, hb⟩
      replace E := E.step hb
      clear hb HF wr
      go_wp2_with fail
      go_at_call 31
      refine (HR.out _).mono ?_
      rintro e w4 ⟨rfl, hb⟩
      replace E := E.step hb
      clear hb HR w3
      go_wp2_with (refine wpList_store_row rfl 39 (.tmp 4) (.tmp 43) rfl (w.heap.size + 1 + 1) (us zs) rfl rfl 39 z4 E.2.2.1 (infoE zs HZ.out) (z4_size zs HZ.out) (us_one _) ?_)
      refine bodyPost_ret (v := .agg (us zs)) (results_cell_row rfl _ _ (w.heap.size + 1 + 1) 39 (us zs) (0, 0) _ rfl (E.2.2.1.setRow _) Try.underlying39 rfl (infoE zs HZ.out)) rfl ⟨rfl, below_setRow E.2.2.2.2 (by omega) _⟩
end Go.Proofs.Ytdikkdediofieaa
