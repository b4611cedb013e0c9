/- curve.swapped: walked. -/
import Derived.Test.YtdikkdediofieaaEG
namespace Go.Proofs.Ytdikkdediofieaa
open Go.RowKit
theorem infoP (l : List Nat) (hl : l.length = 8) : (Try.prog.info? 41).map (·.size) = some (us l).size := by
  rw [us_size, hl]; exact (by kernel_rfl : (Try.prog.info? 41).map (·.size) = some 8)
theorem results_two_rows {P : Program} {fn : Func} {p q : Tmp} {tp tq : TypeId} (h : fn.results = #[.cell p tp, .cell q tq]) (tmps : Array Value) (w : World) (g g' : Nat) (t t' : TypeId) (cs ds : Array Value) (d d' : TypeDesc)
    (hp : tmps.getD p undef = .pointer (some ⟨g, 0, none⟩)) (hg : Has w g t cs) (hu : P.underlying tp = some d) (hd : (match d with | .struct _ | .array _ _ => true | _ => false) = true) (hi : (P.info? tp).map (·.size) = some cs.size)
    (hq : tmps.getD q undef = .pointer (some ⟨g', 0, none⟩)) (hg' : Has w g' t' ds) (hu' : P.underlying tq = some d') (hd' : (match d' with | .struct _ | .array _ _ => true | _ => false) = true) (hi' : (P.info? tq).map (·.size) = some ds.size) :
    (results fn tmps).run P w = .ok (.tuple #[.agg cs, .agg ds]) w := by
  have hp' : tmps[p]?.getD undef = .pointer (some ⟨g, 0, none⟩) := by simpa using hp
  have hq' : tmps[q]?.getD undef = .pointer (some ⟨g', 0, none⟩) := by simpa using hq
  simp [results, h, hp', hq', asAddr, run_loadVar_row w g t tp cs (0, 0) d hg hu hd hi, run_loadVar_row w g' t' tq ds (0, 0) d' hg' hu' hd' hi']
/-- which of two -/
def sel (bit : Nat) (a b : List Nat) : List Nat := if bit = 1 then b else a
theorem sel_length {bit : Nat} {a b : List Nat} (ha : a.length = 8) (hb : b.length = 8) : (sel bit a b).length = 8 := by unfold sel; split <;> assumption
theorem sel_getD (bit : Nat) (a b : List Nat) (k : Nat) : (sel bit a b).getD k 0 = if bit = 1 then b.getD k 0 else a.getD k 0 := by unfold sel; split <;> rfl
/-- the first k of one, the others of another -/
def mix (f a : List Nat) (k : Nat) : List Nat := f.take k ++ a.drop k
theorem mix_length (f a : List Nat) (k : Nat) (hf : f.length = 8) (ha : a.length = 8) (hk : k ≤ 8) : (mix f a k).length = 8 := by unfold mix; rw [List.length_append, List.length_take, List.length_drop]; omega
theorem mix_zero (f a : List Nat) : mix f a 0 = a := by simp [mix]
theorem mix_all (f a : List Nat) (hf : f.length = 8) (ha : a.length = 8) : mix f a 8 = f := by unfold mix; rw [List.take_of_length_le (by omega), List.drop_of_length_le (by omega), List.append_nil]
theorem mix_getD (f a : List Nat) (k : Nat) (hf : f.length = 8) (hk : k < 8) : (mix f a k).getD k 0 = a.getD k 0 := by
  unfold mix
  rw [List.getD_eq_getElem?_getD, List.getElem?_append_right (by rw [List.length_take]; omega), List.length_take, List.getElem?_drop, show k + (k - min k f.length) = k from by omega, List.getD_eq_getElem?_getD]
theorem mix_set (f a : List Nat) (k : Nat) (hf : f.length = 8) (ha : a.length = 8) (hk : k < 8) : (mix f a k).set k (f.getD k 0) = mix f a (k + 1) := by
  unfold mix
  have hl : (f.take k).length = k := by rw [List.length_take]; omega
  rw [List.set_append_right _ _ (by omega), hl, Nat.sub_self, List.drop_eq_getElem_cons (by omega), List.set_cons_zero, List.take_succ_eq_append_getElem (by omega), List.getD_eq_getElem?_getD, List.getElem?_eq_getElem (by omega)]
  simp only [Option.getD_some, List.append_assoc, List.cons_append, List.nil_append]
theorem xor_swap (bit m x y : Nat) (hx : x < 18446744073709551616) (hy : y < 18446744073709551616) (hm : (bit = 0 ∧ m = 0) ∨ (bit = 1 ∧ m = 18446744073709551616 - 1)) : ∃ t u : Nat, bits .xor .u64 (x : Int) (y : Int) = (t : Int) ∧ bits .and .u64 (t : Int) (m : Int) = (u : Int) ∧
    bits .xor .u64 (x : Int) (u : Int) = ((if bit = 1 then y else x : Nat) : Int) ∧ bits .xor .u64 (y : Int) (u : Int) = ((if bit = 1 then x else y : Nat) : Int) := by
  have hm' : m < 18446744073709551616 := by omega
  have ht : x ^^^ y < 18446744073709551616 := Nat.xor_lt_two_pow (n := 64) hx hy
  have hu : (x ^^^ y) &&& m < 18446744073709551616 := Nat.lt_of_le_of_lt Nat.and_le_left ht
  refine ⟨x ^^^ y, (x ^^^ y) &&& m, u64_xor_nat _ _ hx hy, u64_and_nat _ _ ht hm', ?_, ?_⟩
  · rw [u64_xor_nat _ _ hx hu]
    rcases hm with ⟨rfl, rfl⟩ | ⟨rfl, rfl⟩
    · simp
    · have e : (x ^^^ y) &&& (18446744073709551616 - 1) = x ^^^ y := by
        rw [show (18446744073709551616 - 1 : Nat) = 2 ^ 64 - 1 from by decide, Nat.and_two_pow_sub_one_eq_mod]; exact Nat.mod_eq_of_lt ht
      rw [e, ← Nat.xor_assoc, Nat.xor_self, Nat.zero_xor]
      simp
  · rw [u64_xor_nat _ _ hy hu]
    rcases hm with ⟨rfl, rfl⟩ | ⟨rfl, rfl⟩
    · simp
    · have e : (x ^^^ y) &&& (18446744073709551616 - 1) = x ^^^ y := by
        rw [show (18446744073709551616 - 1 : Nat) = 2 ^ 64 - 1 from by decide, Nat.and_two_pow_sub_one_eq_mod]; exact Nat.mod_eq_of_lt ht
      rw [e, Nat.xor_comm x y, ← Nat.xor_assoc, Nat.xor_self, Nat.zero_xor]
      simp
/-- what memory holds in the midst of a swap -/
def SwapEnv (w : World) (a b : List Nat) (W : World) : Prop :=
  Has W w.heap.size 41 (us a) ∧ Has W (w.heap.size + 1) 41 (us b) ∧ Has W (w.heap.size + 1 + 1) 41 z8w ∧ Has W (w.heap.size + 1 + 1 + 1) 41 z8w ∧ Below w.heap.size w W
section
variable {w : World} {a b : List Nat} {W W' : World}
theorem SwapEnv.drew (h : SwapEnv w a b W) : SwapEnv w a b W.drew := ⟨h.1, h.2.1, h.2.2.1, h.2.2.2.1, h.2.2.2.2.drew⟩
theorem SwapEnv.putA (h : SwapEnv w a b W) (j s : Nat) : SwapEnv w (a.set j s) b (W.setCell ⟨w.heap.size, j, none⟩ (U64 s)) :=
  ⟨h.1.setU j s, h.2.1.other (by show w.heap.size + 1 ≠ w.heap.size; omega) _, h.2.2.1.other (by show w.heap.size + 1 + 1 ≠ w.heap.size; omega) _, h.2.2.2.1.other (by show w.heap.size + 1 + 1 + 1 ≠ w.heap.size; omega) _, h.2.2.2.2.setCell (Nat.le_refl _) _⟩
theorem SwapEnv.putB (h : SwapEnv w a b W) (j s : Nat) : SwapEnv w a (b.set j s) (W.setCell ⟨w.heap.size + 1, j, none⟩ (U64 s)) :=
  ⟨h.1.other (by show w.heap.size ≠ w.heap.size + 1; omega) _, h.2.1.setU j s, h.2.2.1.other (by show w.heap.size + 1 + 1 ≠ w.heap.size + 1; omega) _, h.2.2.2.1.other (by show w.heap.size + 1 + 1 + 1 ≠ w.heap.size + 1; omega) _, h.2.2.2.2.setCell (by show w.heap.size ≤ w.heap.size + 1; omega) _⟩
theorem SwapEnv.step (h : SwapEnv w a b W) (hb : Below W.heap.size W W') : SwapEnv w a b W' :=
  ⟨h.1.below hb h.1.lt, h.2.1.below hb h.2.1.lt, h.2.2.1.below hb h.2.2.1.lt, h.2.2.2.1.below hb h.2.2.2.1.lt, h.2.2.2.2.trans (hb.mono h.2.2.2.2.size)⟩
end
set_option maxHeartbeats 2000000 in
theorem swapped_any (a b : List Nat) (ha : a.length = 8) (hb : b.length = 8) (da : Dig 18446744073709551616 a) (db : Dig 18446744073709551616 b) (bit : Nat) (hbit : bit ≤ 1) (w : World) :
    Calls Try.prog 29 #[.agg (us a), .agg (us b), U64 bit] w fun e w' => e = .returned (.tuple #[.agg (us (sel bit a b)), .agg (us (sel bit b a))]) ∧ Below w.heap.size w w' := by
  obtain ⟨m, hm, hneg⟩ : ∃ m : Nat, ((bit = 0 ∧ m = 0) ∨ (bit = 1 ∧ m = 18446744073709551616 - 1)) ∧ IntKind.u64.wrap (-(bit : Int)) = (m : Int) := by
    have : bit = 0 ∨ bit = 1 := by omega
    rcases this with rfl | rfl
    · exact ⟨0, Or.inl ⟨rfl, rfl⟩, by decide⟩
    · exact ⟨18446744073709551616 - 1, Or.inr ⟨rfl, rfl⟩, by decide⟩
  obtain ⟨fa, hfa⟩ : ∃ fa, fa = sel bit a b := ⟨_, rfl⟩
  obtain ⟨fb, hfb⟩ : ∃ fb, fb = sel bit b a := ⟨_, rfl⟩
  have lfa : fa.length = 8 := by rw [hfa]; exact sel_length ha hb
  have lfb : fb.length = 8 := by rw [hfb]; exact sel_length hb ha
  rw [← hfa, ← hfb]
  have HA := Lib.hid ha
  have HB := Lib.hid hb
  have HFA := Lib.hid hfa
  have HFB := Lib.hid hfb
  have LFA := Lib.hid lfa
  have LFB := Lib.hid lfb
  have HM := Lib.hid hm
  clear ha hb hfa hfb lfa lfb hm
  have hE := four_new w (us a) (us b) z8w z8w 41 41 41 41
  go_enter Try.func29, Try.ntmps29
  go_upto_region 2 with fail
  change Code.wp _ _ _ _ ((((w.alloc (.cells (us a) 41)).alloc (.cells (us b) 41)).alloc (.cells z8w 41)).alloc (.cells z8w 41))
  generalize (((w.alloc (.cells (us a) 41)).alloc (.cells (us b) 41)).alloc (.cells z8w 41)).alloc (.cells z8w 41) = w0 at hE ⊢
  have hE' : SwapEnv w (mix fa a 0) (mix fb b 0) w0 := by rw [mix_zero, mix_zero]; exact hE
  clear hE hneg
  go_wp2
  go_loopw [14] (fun nc wr => ∃ n : Nat, n ≤ 2 ∧ nc = .int .i64 (n : Int) ∧ SwapEnv w (mix fa a (n * 4)) (mix fb b (n * 4)) wr) (fun n _ => 2 - (intOf n).toNat)
  case atStart => exact ⟨0, by omega, rfl, hE'⟩
  case round =>
    clear hE' w0
    obtain ⟨n, hn, rfl, E⟩ := hrel
    by_cases hnt : n < 2
    · have hnb : decide ((n : Int) < 2) = true := by simp; omega
      go_wp2
      go_loopw [17] (fun ic wr => ∃ i : Nat, i ≤ 4 ∧ ic = .int .i64 (i : Int) ∧ SwapEnv w (mix fa a (n * 4 + i)) (mix fb b (n * 4 + i)) wr) (fun i _ => 4 - (intOf i).toNat)
      case atStart => exact ⟨0, by omega, rfl, E⟩
      case round =>
        clear E
        obtain ⟨i, hi, rfl, E⟩ := hrel
        by_cases hit : i < 4
        · have hib : decide ((i : Int) < 4) = true := by simp; omega
          have hk : n * 4 + i < 8 := by omega
          have la := mix_length fa a (n * 4 + i) LFA.out HA.out (by omega)
          have lb := mix_length fb b (n * 4 + i) LFB.out HB.out (by omega)
          obtain ⟨x, hx⟩ : ∃ x, x = a.getD (n * 4 + i) 0 := ⟨_, rfl⟩
          obtain ⟨y, hy⟩ : ∃ y, y = b.getD (n * 4 + i) 0 := ⟨_, rfl⟩
          obtain ⟨t, u, x1, x2, x3, x4⟩ := xor_swap bit m x y (by rw [hx]; exact da.getD (by omega) _) (by rw [hy]; exact db.getD (by omega) _) HM.out
          have e3 : (if bit = 1 then y else x) = fa.getD (n * 4 + i) 0 := by rw [HFA.out, sel_getD, hx, hy]
          have e4 : (if bit = 1 then x else y) = fb.getD (n * 4 + i) 0 := by rw [HFB.out, sel_getD, hx, hy]
          rw [e3] at x3
          rw [e4] at x4
          have c1 : ∀ W, Below wr.drew.heap.size wr.drew W → W.cell? ⟨w.heap.size, n * 4 + i, none⟩ = some (U64 x) := fun W h => by
            have h := (E.drew.step h).1.u64 (n * 4 + i) (by omega)
            rw [mix_getD fa a _ LFA.out hk, ← hx] at h; exact h
          have c2 : ∀ W, Below wr.drew.heap.size wr.drew W → W.cell? ⟨w.heap.size + 1, n * 4 + i, none⟩ = some (U64 y) := fun W h => by
            have h := (E.drew.step h).2.1.u64 (n * 4 + i) (by omega)
            rw [mix_getD fb b _ LFB.out hk, ← hy] at h; exact h
          have X3 := Lib.hid x3
          have X4 := Lib.hid x4
          have HLA := Lib.hid la
          have HLB := Lib.hid lb
          have HX := Lib.hid hx
          have HY := Lib.hid hy
          clear x3 x4 e3 e4 la lb hx hy
          have n2 : ¬ ((2 : Int) ≤ (n : Int)) := by omega
          have i4 : ¬ ((4 : Int) ≤ (i : Int)) := by omega
          go_wp2_with fail
          refine wp_region_noPanic ?_
          refine wp_region_flow (fin := ?fin1) 14 0 (by kernel_rfl) [.inl (.int .i64 (n : Int)),
            .inl (.int .i64 (i : Int)),
            .inl (.pointer (some ⟨w.heap.size, n * 4, none⟩)),
            .inl (.pointer (some ⟨w.heap.size, n * 4 + i, none⟩)),
            .inl (U64 x),
            .inl (.int .i64 (n : Int)),
            .inl (.int .i64 (i : Int)),
            .inl (.pointer (some ⟨w.heap.size + 1, n * 4, none⟩)),
            .inl (.pointer (some ⟨w.heap.size + 1, n * 4 + i, none⟩)),
            .inl (U64 y),
            .inl (U64 t),
            .inl (U64 m),
            .inl (U64 u),
            .inl (U64 u)] rfl rfl (by kernel_rfl) ?hfin1 ?hE1 ?hend1
          case hfin1 =>
            intro G
            simp only [flowAll, flowVal, Act.put, List.setIfInBounds_toArray, List.set_cons_zero, List.set_cons_succ]
            exact rfl
          case hE1 =>
            intro G
            refine ⟨Or.inr (fun W hB => known_val rfl (by go_simp)),
              Or.inr (fun W hB => known_val rfl (by go_simp)),
              Or.inr (fun W hB => known_val rfl (by go_simp)),
              Or.inr (fun W hB => known_val rfl (by go_simp)),
              Or.inr (fun W hB => known_val rfl (by have := c1 W hB; go_simp)),
              Or.inr (fun W hB => known_val rfl (by go_simp)),
              Or.inr (fun W hB => known_val rfl (by go_simp)),
              Or.inr (fun W hB => known_val rfl (by go_simp)),
              Or.inr (fun W hB => known_val rfl (by go_simp)),
              Or.inr (fun W hB => known_val rfl (by have := c2 W hB; go_simp)),
              Or.inr (fun W hB => known_val rfl (by go_simp)),
              Or.inr (fun W hB => known_val rfl (by go_simp)),
              Or.inr (fun W hB => known_val rfl (by go_simp)),
              Or.inr (fun W hB => known_val rfl (by go_simp)), trivial⟩
          intro G W hB hM
          clear hM
          clear c1 c2 x1 x2
          replace E := E.drew.step hB
          clear hB wr
          refine wpAny_end (by kernel_rfl) ?_ _
          refine NoPanic.normal ?_
          have x3 := X3.out
          have c1 : ∀ V, Below W.drew.heap.size W.drew V → V.cell? ⟨w.heap.size, n * 4 + i, none⟩ = some (U64 x) := fun V h => by
            have h := (E.drew.step h).1.u64 (n * 4 + i) (by rw [HLA.out]; omega)
            rw [mix_getD fa a _ LFA.out hk, ← HX.out] at h; exact h
          obtain ⟨fk, hfk⟩ : ∃ fk, fk = fa.getD (n * 4 + i) 0 := ⟨_, rfl⟩
          rw [← hfk] at x3
          have HFK := Lib.hid hfk
          clear hfk
          go_wp2_with fail
          refine wp_region_noPanic ?_
          refine wp_region_flow (fin := ?fin2) 9 1 (by kernel_rfl) [.inl (.int .i64 (n : Int)),
            .inl (.int .i64 (i : Int)),
            .inl (.pointer (some ⟨w.heap.size, n * 4, none⟩)),
            .inl (.pointer (some ⟨w.heap.size, n * 4 + i, none⟩)),
            .inl (U64 x),
            .inl (U64 u),
            .inl (U64 fk),
            .inl (.pointer (some ⟨w.heap.size, n * 4, none⟩)),
            .inl (.pointer (some ⟨w.heap.size, n * 4 + i, none⟩))] rfl rfl (by kernel_rfl) ?hfin2 ?hE2 ?hend2
          case hfin2 =>
            intro G
            simp only [flowAll, flowVal, Act.put, List.setIfInBounds_toArray, List.set_cons_zero, List.set_cons_succ]
            exact rfl
          case hE2 =>
            intro G
            refine ⟨Or.inr (fun W hB => known_val rfl (by go_simp)),
              Or.inr (fun W hB => known_val rfl (by go_simp)),
              Or.inr (fun W hB => known_val rfl (by go_simp)),
              Or.inr (fun W hB => known_val rfl (by go_simp)),
              Or.inr (fun W hB => known_val rfl (by have := c1 W hB; go_simp)),
              Or.inr (fun W hB => known_val rfl (by go_simp)),
              Or.inr (fun W hB => known_val rfl (by go_simp)),
              Or.inr (fun W hB => known_val rfl (by go_simp)),
              Or.inr (fun W hB => known_val rfl (by go_simp)), trivial⟩
          clear G
          intro G V hB hM
          clear hM c1 x3
          replace E := E.drew.step hB
          clear hB W
          have cc := E.1.u64 (n * 4 + i) (by rw [HLA.out]; omega)
          have ff := E.1.frozen (n * 4 + i)
          refine only0 9 (V.setCell ⟨w.heap.size, n * 4 + i, none⟩ (U64 fk)) _ (by kernel_rfl) rfl rfl rfl (by go_simp) ?_
          clear cc ff
          replace E := E.putA (n * 4 + i) fk
          rw [HFK.out, mix_set fa a _ LFA.out HA.out hk, ← HFK.out] at E
          refine wpAny_end (by kernel_rfl) ?_ _
          refine NoPanic.normal ?_
          simp only [Act.put]
          generalize V.setCell ⟨w.heap.size, n * 4 + i, none⟩ (U64 fk) = w2 at E ⊢
          have x4 := X4.out
          have c2 : ∀ V, Below w2.drew.heap.size w2.drew V → V.cell? ⟨w.heap.size + 1, n * 4 + i, none⟩ = some (U64 y) := fun V h => by
            have h := (E.drew.step h).2.1.u64 (n * 4 + i) (by rw [HLB.out]; omega)
            rw [mix_getD fb b _ LFB.out hk, ← HY.out] at h; exact h
          obtain ⟨gk, hgk⟩ : ∃ gk, gk = fb.getD (n * 4 + i) 0 := ⟨_, rfl⟩
          rw [← hgk] at x4
          have HGK := Lib.hid hgk
          clear hgk
          go_wp2_with fail
          refine wp_region_noPanic ?_
          refine wp_region_flow (fin := ?fin3) 9 1 (by kernel_rfl) [.inl (.int .i64 (n : Int)),
            .inl (.int .i64 (i : Int)),
            .inl (.pointer (some ⟨w.heap.size + 1, n * 4, none⟩)),
            .inl (.pointer (some ⟨w.heap.size + 1, n * 4 + i, none⟩)),
            .inl (U64 y),
            .inl (U64 u),
            .inl (U64 gk),
            .inl (.pointer (some ⟨w.heap.size + 1, n * 4, none⟩)),
            .inl (.pointer (some ⟨w.heap.size + 1, n * 4 + i, none⟩))] rfl rfl (by kernel_rfl) ?hfin3 ?hE3 ?hend3
          case hfin3 =>
            intro G
            simp only [flowAll, flowVal, Act.put, List.setIfInBounds_toArray, List.set_cons_zero, List.set_cons_succ]
            exact rfl
          case hE3 =>
            intro G
            refine ⟨Or.inr (fun W hB => known_val rfl (by go_simp)),
              Or.inr (fun W hB => known_val rfl (by go_simp)),
              Or.inr (fun W hB => known_val rfl (by go_simp)),
              Or.inr (fun W hB => known_val rfl (by go_simp)),
              Or.inr (fun W hB => known_val rfl (by have := c2 W hB; go_simp)),
              Or.inr (fun W hB => known_val rfl (by go_simp)),
              Or.inr (fun W hB => known_val rfl (by go_simp)),
              Or.inr (fun W hB => known_val rfl (by go_simp)),
              Or.inr (fun W hB => known_val rfl (by go_simp)), trivial⟩
          clear G V
          intro G V hB hM
          clear hM c2 x4
          replace E := E.drew.step hB
          clear hB w2
          have cc := E.2.1.u64 (n * 4 + i) (by rw [HLB.out]; omega)
          have ff := E.2.1.frozen (n * 4 + i)
          refine only0 9 (V.setCell ⟨w.heap.size + 1, n * 4 + i, none⟩ (U64 gk)) _ (by kernel_rfl) rfl rfl rfl (by go_simp) ?_
          clear cc ff
          replace E := E.putB (n * 4 + i) gk
          rw [HGK.out, mix_set fb b _ LFB.out HB.out hk, ← HGK.out] at E
          refine wpAny_end (by kernel_rfl) ?_ _
          refine NoPanic.normal ?_
          simp only [Act.put]
          generalize V.setCell ⟨w.heap.size + 1, n * 4 + i, none⟩ (U64 gk) = w3 at E ⊢
          go_wp2
          go_roundw
          case rel => exact ⟨i + 1, by omega, by go_num, E⟩
          case measure => simp [intOf]; omega
        · have hi4 : i = 4 := by omega
          subst hi4
          rw [show (((4 : Nat) : Int)) = 4 from rfl]
          have hib : decide ((4 : Int) < 4) = false := by decide
          rw [show n * 4 + 4 = (n + 1) * 4 from by omega] at E
          go_wp2
          go_roundw
          case rel => exact ⟨n + 1, by omega, by go_num, E⟩
          case measure => simp [intOf]; omega
    · have hn2 : n = 2 := by omega
      subst hn2
      rw [show (((2 : Nat) : Int)) = 2 from rfl]
      have hib : decide ((2 : Int) < 2) = false := by decide
      rw [show 2 * 4 = 8 from rfl, mix_all fa a LFA.out HA.out, mix_all fb b LFB.out HB.out] at E
      go_wp2_with fail
      refine wp_region_noPanic ?_
      refine wp_region_held_drew (S := fun V => Has V w.heap.size 41 (us fa) ∧ Has V (w.heap.size + 1) 41 (us fb)) (by kernel_rfl) ⟨E.drew.1, E.drew.2.1⟩ (fun hS => ?_)
      refine take1 hS 0 53 (.agg (us fa)) _ rfl (by kernel_rfl) (by kernel_rfl) (by kernel_rfl) (fun _ _ _ h => h) rfl rfl (fun V h => exec_load_row (P := Try.prog) 41 (.tmp 3) w.heap.size h.1 Try.underlying41 rfl (infoP fa LFA.out) rfl rfl) ?_
      simp only [Act.put, List.setIfInBounds_toArray, List.set_cons_zero, List.set_cons_succ]
      refine take1 hS 1 54 (.agg (us fb)) _ rfl (by kernel_rfl) (by kernel_rfl) (by kernel_rfl) (fun _ _ _ h => h) rfl rfl (fun V h => exec_load_row (P := Try.prog) 41 (.tmp 4) (w.heap.size + 1) h.2 Try.underlying41 rfl (infoP fb LFB.out) rfl rfl) ?_
      simp only [Act.put, List.setIfInBounds_toArray, List.set_cons_zero, List.set_cons_succ]
      clear hS
      replace E := E.drew
      generalize wr.drew = w1 at E ⊢
      obtain ⟨i1, i2, i3, i4, hb⟩ := E
      have hs1 : z8w.size = (us fa).size := z8w_size fa LFA.out
      have hs2 : z8w.size = (us fb).size := z8w_size fb LFB.out
      refine onlySkip 2 (w1.setRow (w.heap.size + 1 + 1) (us fa)) _ (by kernel_rfl) rfl rfl rfl (exec_store_row (P := Try.prog) (w := w1) 41 (.tmp 6) (.tmp 53) (w.heap.size + 1 + 1) (us fa) i3 (infoP fa LFA.out) hs1 (us_one _) rfl rfl rfl) ⟨i1.setRow_other (by omega) _, i2.setRow_other (by omega) _⟩ ?_
      replace i1 := i1.setRow_other (g' := w.heap.size + 1 + 1) (by omega) (us fa)
      replace i2 := i2.setRow_other (g' := w.heap.size + 1 + 1) (by omega) (us fa)
      replace i3 := i3.setRow (us fa)
      replace i4 := i4.setRow_other (g' := w.heap.size + 1 + 1) (by omega) (us fa)
      replace hb := below_setRow hb (g := w.heap.size + 1 + 1) (by omega) (us fa)
      generalize w1.setRow (w.heap.size + 1 + 1) (us fa) = w2 at i1 i2 i3 i4 hb ⊢
      simp only [Act.put]
      refine onlySkip 3 (w2.setRow (w.heap.size + 1 + 1 + 1) (us fb)) _ (by kernel_rfl) rfl rfl rfl (exec_store_row (P := Try.prog) (w := w2) 41 (.tmp 7) (.tmp 54) (w.heap.size + 1 + 1 + 1) (us fb) i4 (infoP fb LFB.out) hs2 (us_one _) rfl rfl rfl) ⟨i1.setRow_other (by omega) _, i2.setRow_other (by omega) _⟩ ?_
      simp only [Act.put]
      refine wpAnyH_done (by kernel_rfl) ?_ _
      refine NoPanic.normal ?_
      go_wp2
      refine bodyPost_ret (v := .tuple #[.agg (us fa), .agg (us fb)]) (results_two_rows rfl _ _ (w.heap.size + 1 + 1) (w.heap.size + 1 + 1 + 1) 41 41 (us fa) (us fb) _ _ rfl (i3.setRow_other (by omega) _) Try.underlying41 rfl (infoP fa LFA.out) rfl (i4.setRow _) Try.underlying41 rfl (infoP fb LFB.out)) rfl ⟨rfl, below_setRow hb (by omega) _⟩
end Go.Proofs.Ytdikkdediofieaa
