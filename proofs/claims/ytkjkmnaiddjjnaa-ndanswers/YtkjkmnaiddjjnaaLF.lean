/- nd.readMessage: walked. -/
import Derived.Test.YtkjkmnaiddjjnaaLE
namespace Go.Proofs.Ytkjkmnaiddjjnaa
open Go.RowKit
theorem alloc10 {o : Oper} {ev : Operand → Value} {w : World} (ho : o.op = .alloc 32) : (execOp ev o).run Try.prog w = .ok (.value (.pointer (some ⟨w.heap.size, 0, none⟩))) (w.alloc (.cells nz.c 32)) := by
  unfold execOp
  simp only [ho]
  go_simp
  rfl
theorem store10 {o : Oper} {ev : Operand → Value} {w : World} (x y : Operand) (g : Nat) {old v : N10} (h : Has w g 32 old.c) (h0 : old.Fit) (h1 : v.Fit) (ho : o.op = .store 32 x y) (hx : ev x = .pointer (some ⟨g, 0, none⟩)) (hy : ev y = .agg v.c) :
    (execOp ev o).run Try.prog w = .ok .skip (w.setRow g v.c) := exec_store_row (P := Try.prog) (w := w) 32 x y g v.c h (n10_info h1) (by rw [N10.size h0, N10.size h1]) (N10.one v) ho hx hy
section
variable {w : World} {g : Nat} {K : Int} {f t a m g0 l : List UInt8} {b : Bool}
theorem copy10_f (h : Has w g 32 (N10.mk K f t a m b g0).c) (hx : (N10.mk K f t a m b g0).Fit) (s : ByteArray) (hs : 16 ≤ s.size) (hl : s.data.toList.take 16 = l) :
    (Builtin.copy_ #[39, 9] 3 #[.slice (some ⟨g, 1, none⟩) 16 16, .string s]).run Try.prog w = .ok (.int .i64 16) (w.setRow g (N10.mk K l t a m b g0).c) :=
  copy_seg h 1 16 rfl rfl (by simp [hx.f]) (by show 1 + 16 ≤ (N10.mk K f t a m b g0).c.size; rw [N10.size hx]; omega) s hs l hl
theorem copy10_t (h : Has w g 32 (N10.mk K f t a m b g0).c) (hx : (N10.mk K f t a m b g0).Fit) (s : ByteArray) (hs : 16 ≤ s.size) (hl : s.data.toList.take 16 = l) :
    (Builtin.copy_ #[39, 9] 3 #[.slice (some ⟨g, 17, none⟩) 16 16, .string s]).run Try.prog w = .ok (.int .i64 16) (w.setRow g (N10.mk K f l a m b g0).c) :=
  copy_seg h 2 16 rfl (N10.at2 hx) (by simp [hx.t]) (by show 17 + 16 ≤ (N10.mk K f t a m b g0).c.size; rw [N10.size hx]; omega) s hs l hl
theorem copy10_a (h : Has w g 32 (N10.mk K f t a m b g0).c) (hx : (N10.mk K f t a m b g0).Fit) (s : ByteArray) (hs : 16 ≤ s.size) (hl : s.data.toList.take 16 = l) :
    (Builtin.copy_ #[39, 9] 3 #[.slice (some ⟨g, 33, none⟩) 16 16, .string s]).run Try.prog w = .ok (.int .i64 16) (w.setRow g (N10.mk K f t l m b g0).c) :=
  copy_seg h 3 16 rfl (N10.at3 hx) (by simp [hx.a]) (by show 33 + 16 ≤ (N10.mk K f t a m b g0).c.size; rw [N10.size hx]; omega) s hs l hl
theorem copy10_m (h : Has w g 32 (N10.mk K f t a m b g0).c) (hx : (N10.mk K f t a m b g0).Fit) (s : ByteArray) (hs : 6 ≤ s.size) (hl : s.data.toList.take 6 = l) :
    (Builtin.copy_ #[39, 9] 3 #[.slice (some ⟨g, 49, none⟩) 6 6, .string s]).run Try.prog w = .ok (.int .i64 6) (w.setRow g (N10.mk K f t a l b g0).c) :=
  copy_seg h 4 6 rfl (N10.at4 hx) (by simp [hx.m]) (by show 49 + 6 ≤ (N10.mk K f t a m b g0).c.size; rw [N10.size hx]; omega) s hs l hl
theorem copy10_g (h : Has w g 32 (N10.mk K f t a m b g0).c) (hx : (N10.mk K f t a m b g0).Fit) (s : ByteArray) (hs : 4 ≤ s.size) (hl : s.data.toList.take 4 = l) :
    (Builtin.copy_ #[39, 9] 3 #[.slice (some ⟨g, 56, none⟩) 4 4, .string s]).run Try.prog w = .ok (.int .i64 4) (w.setRow g (N10.mk K f t a m b l).c) :=
  copy_seg h 6 4 rfl (N10.at6 hx) (by simp [hx.g]) (by show 56 + 4 ≤ (N10.mk K f t a m b g0).c.size; rw [N10.size hx]; omega) s hs l hl
end
theorem rest_cut (s : ByteArray) (a n : Nat) : (s.extract a s.size).data.toList.take n = cut9 s a n := by rw [rest_at]; rfl
theorem i64_u8 (b : Nat) (h : b < 256) : IntKind.i64.wrap (b : Int) = (b : Int) := IntWalk.i64_in _ (by omega)
set_option maxRecDepth 20000 in
set_option maxHeartbeats 2000000 in
theorem readMessage_op (m : ByteArray) (hs : m.size = 24 ∨ m.size = 32) (hr : rightO (((bAt m 0).toNat : Int) - 134) = false) (w : World) : Calls Try.prog 31 #[.string m] w fun e w' => Below w.heap.size w w' ∧ e = thrown 3 := by
  have M : Mem w [(w.heap.size, 32, nz.c)] (w.alloc (.cells nz.c 32)) := (Mem.init w).alloc _ rfl _ _
  obtain ⟨b, hb⟩ : ∃ b, (bAt m 0).toNat = b := ⟨_, rfl⟩
  have hbl : b < 256 := by rw [← hb]; exact UInt8.toNat_lt _
  rw [hb] at hr
  obtain ⟨K, hK⟩ : ∃ K : Int, (b : Int) - 134 = K := ⟨_, rfl⟩
  rw [hK] at hr
  have q1 := fun W => rightOp10_any K W
  rw [hr] at q1
  have hw1 := i64_u8 b hbl
  have hw2 : IntKind.i64.wrap ((b : Int) - 134) = K := by rw [hK]; exact IntWalk.i64_in _ (by omega)
  have Q1 := Lib.hid q1
  have HB := Lib.hid hb
  clear q1 hb hr hK
  have t1 : 0 < m.size := by omega
  have t2 : (2 : Int) ≤ (m.size : Int) := by omega
  obtain ⟨F, hF⟩ : ∃ F : Bool, ((m.size : Int) == 32) = F := ⟨_, rfl⟩
  have x1 : (N10.mk K o16 o16 o16 o6 F o4).Fit := ⟨rfl, rfl, rfl, rfl, rfl⟩
  go_enter Try.func31, Try.ntmps31
  go_upto_region 1 with fail
  change Code.wp _ _ _ _ (w.alloc (.cells nz.c 32))
  generalize w.alloc (.cells nz.c 32) = W0 at M ⊢
  refine wp_region_noPanic ?_
  refine wp_region_flow_text (fin := ?fin1) 9 1 (by kernel_rfl) [.inl (.string m),
    .inl (.int .u8 (b : Int)),
    .inl (.int .i64 (b : Int)),
    .inl (.int .i64 K),
    .inl (.string m),
    .inl (.int .i64 (m.size : Int)),
    .inl (.bool F),
    .inl (.agg (N10.mk K o16 o16 o16 o6 F o4).c),
    .inr (32, nz.c, none)] rfl rfl (by kernel_rfl) ?hfin1 ?hE1 ?hend1
  case hfin1 =>
    intro G
    simp only [flowAll, flowVal, Act.put, List.setIfInBounds_toArray, List.set_cons_zero, List.set_cons_succ]
    exact rfl
  case hE1 =>
    intro G
    refine ⟨Or.inr (fun W hB hR => known_val rfl (by go_simp)),
      Or.inr (fun W hB hR => known_val rfl (by rw [← HB.out]; exact exec_index (.tmp 4) (.const (.int .i64 0)) m 0 t1 rfl rfl rfl)),
      Or.inr (fun W hB hR => known_val rfl (by go_simp)),
      Or.inr (fun W hB hR => known_val rfl (by go_simp)),
      Or.inr (fun W hB hR => known_val rfl (by go_simp)),
      Or.inr (fun W hB hR => known_val rfl (by go_simp)),
      Or.inr (fun W hB hR => known_val rfl (by go_simp)),
      Or.inr (fun W hB hR => known_val rfl (by exact build10m K F _ _ rfl rfl rfl)),
      ⟨rfl, fun W => made_ptr (alloc10 rfl)⟩, trivial⟩
  intro G W hB hM
  replace M := M.made hB hM 8 rfl rfl
  simp only [List.cons_append, List.nil_append] at M
  generalize G 8 = g at M ⊢
  clear hB hM G
  refine only0 9 (W.setRow g (N10.mk K o16 o16 o16 o6 F o4).c) _ (by kernel_rfl) rfl rfl rfl (store10 (.tmp 3) (.tmp 11) g (M.row 1 rfl) nz_fit x1 rfl rfl rfl) ?_
  replace M := M.store 1 rfl (N10.mk K o16 o16 o16 o6 F o4).c
  simp only [List.set_cons_zero, List.set_cons_succ] at M
  generalize W.setRow g (N10.mk K o16 o16 o16 o6 F o4).c = W1 at M ⊢
  simp only [Act.put]
  refine wpAny_end (by kernel_rfl) ?_ _
  refine NoPanic.normal ?_
  clear HB hw1 hw2 hbl
  go_upto_region 2 with fail
  refine wp_region_freePanic ?_
  refine wp_region_flow (fin := ?fin2) 11 1 (by kernel_rfl) [.inl (.pointer (some ⟨g, 0, none⟩)),
    .inl (.int .i64 K),
    .inl (.bool false),
    .inl (.bool false),
    .inl undef,
    .inl undef,
    .inl undef,
    .inl undef,
    .inl undef,
    .inl undef,
    .inl (.bool false)] rfl rfl (by kernel_rfl) ?hfin2 ?hE2 ?hend2
  case hfin2 =>
    intro G
    simp only [flowAll, flowVal, Act.put, List.setIfInBounds_toArray, List.set_cons_zero, List.set_cons_succ]
    exact rfl
  case hE2 =>
    intro G
    refine ⟨Or.inr (fun W hB hR => known_val rfl (by go_simp)),
      Or.inr (fun W hB hR => known_val rfl (by have := ((M.drew.step hB).row 1 rfl).n_op; go_simp)),
      Or.inr (fun W hB hR => known_call 15 #[.int .i64 K] ((Q1.out W).mono (fun e w' h => ⟨h.1, h.2 ▸ Below.refl _ _⟩)) rfl (by go_simp)),
      Or.inr (fun W hB hR => known_val rfl (by go_simp)),
      Or.inr (fun W hB hR => Or.inr ⟨rfl, rfl⟩),
      Or.inr (fun W hB hR => Or.inr ⟨rfl, rfl⟩),
      Or.inr (fun W hB hR => Or.inr ⟨rfl, rfl⟩),
      Or.inr (fun W hB hR => Or.inr ⟨rfl, rfl⟩),
      Or.inr (fun W hB hR => Or.inr ⟨rfl, rfl⟩),
      Or.inr (fun W hB hR => Or.inr ⟨rfl, rfl⟩),
      Or.inr (fun W hB hR => known_val rfl (by go_simp)), trivial⟩
  intro G W hB hM
  replace M := M.drew.step hB
  clear hB hM G
  refine callP 11 23 29 #[.bool false, .int .i64 3] _ (by kernel_rfl) rfl rfl rfl (by go_simp) (demand10_any _ _ _) ?_
  rintro e w3 ⟨rfl, rfl⟩
  refine Or.inr ⟨_, rfl, ?_⟩
  intro a' ha
  go_wp2
  exact ⟨ha, M.below, rfl⟩
set_option maxRecDepth 20000 in
set_option maxHeartbeats 2000000 in
theorem readMessage_start (m : ByteArray) (hs : m.size = 24 ∨ m.size = 32) (hr : rightO (((bAt m 0).toNat : Int) - 134) = true) (h2 : (cut9 m 0 2 == startL ((bAt m 0).toNat - 134)) = false) (w : World) : Calls Try.prog 31 #[.string m] w fun e w' => Below w.heap.size w w' ∧ e = thrown 3 := by
  have M : Mem w [(w.heap.size, 32, nz.c)] (w.alloc (.cells nz.c 32)) := (Mem.init w).alloc _ rfl _ _
  obtain ⟨b, hb⟩ : ∃ b, (bAt m 0).toNat = b := ⟨_, rfl⟩
  have hbl : b < 256 := by rw [← hb]; exact UInt8.toNat_lt _
  rw [hb] at hr h2
  obtain ⟨k, hk, hk2⟩ : ∃ k : Nat, (b : Int) - 134 = (k : Int) ∧ k < 100 := by
    rcases rightO_spec hr with e | e
    · exact ⟨1, e, by omega⟩
    · exact ⟨2, e, by omega⟩
  have hkn : b - 134 = k := by omega
  rw [hk] at hr
  rw [hkn] at h2
  have hK := hk
  have q1 := fun W => rightOp10_any (k : Int) W
  rw [hr] at q1
  have q2 := fun W => start_any k hk2 W
  have he2 : ((m.extract 0 2).data.toList == (⟨(startL k).toArray⟩ : ByteArray).data.toList) = false := by
    rw [ext_cut2, str_list]
    exact h2
  generalize (⟨(startL k).toArray⟩ : ByteArray) = T at q2 he2
  have Q2 := Lib.hid q2
  have HE2 := Lib.hid he2
  clear q2 he2 h2 hk2 hkn hk
  have hw1 := i64_u8 b hbl
  have hw2 : IntKind.i64.wrap ((b : Int) - 134) = (k : Int) := by rw [hK]; exact IntWalk.i64_in _ (by omega)
  have Q1 := Lib.hid q1
  have HB := Lib.hid hb
  clear q1 hb hr hK
  have t1 : 0 < m.size := by omega
  have t2 : (2 : Int) ≤ (m.size : Int) := by omega
  obtain ⟨F, hF⟩ : ∃ F : Bool, ((m.size : Int) == 32) = F := ⟨_, rfl⟩
  have x1 : (N10.mk (k : Int) o16 o16 o16 o6 F o4).Fit := ⟨rfl, rfl, rfl, rfl, rfl⟩
  go_enter Try.func31, Try.ntmps31
  go_upto_region 1 with fail
  change Code.wp _ _ _ _ (w.alloc (.cells nz.c 32))
  generalize w.alloc (.cells nz.c 32) = W0 at M ⊢
  refine wp_region_noPanic ?_
  refine wp_region_flow_text (fin := ?fin3) 9 1 (by kernel_rfl) [.inl (.string m),
    .inl (.int .u8 (b : Int)),
    .inl (.int .i64 (b : Int)),
    .inl (.int .i64 (k : Int)),
    .inl (.string m),
    .inl (.int .i64 (m.size : Int)),
    .inl (.bool F),
    .inl (.agg (N10.mk (k : Int) o16 o16 o16 o6 F o4).c),
    .inr (32, nz.c, none)] rfl rfl (by kernel_rfl) ?hfin3 ?hE3 ?hend3
  case hfin3 =>
    intro G
    simp only [flowAll, flowVal, Act.put, List.setIfInBounds_toArray, List.set_cons_zero, List.set_cons_succ]
    exact rfl
  case hE3 =>
    intro G
    refine ⟨Or.inr (fun W hB hR => known_val rfl (by go_simp)),
      Or.inr (fun W hB hR => known_val rfl (by rw [← HB.out]; exact exec_index (.tmp 4) (.const (.int .i64 0)) m 0 t1 rfl rfl rfl)),
      Or.inr (fun W hB hR => known_val rfl (by go_simp)),
      Or.inr (fun W hB hR => known_val rfl (by go_simp)),
      Or.inr (fun W hB hR => known_val rfl (by go_simp)),
      Or.inr (fun W hB hR => known_val rfl (by go_simp)),
      Or.inr (fun W hB hR => known_val rfl (by go_simp)),
      Or.inr (fun W hB hR => known_val rfl (by exact build10m (k : Int) F _ _ rfl rfl rfl)),
      ⟨rfl, fun W => made_ptr (alloc10 rfl)⟩, trivial⟩
  intro G W hB hM
  replace M := M.made hB hM 8 rfl rfl
  simp only [List.cons_append, List.nil_append] at M
  generalize G 8 = g at M ⊢
  clear hB hM G
  refine only0 9 (W.setRow g (N10.mk (k : Int) o16 o16 o16 o6 F o4).c) _ (by kernel_rfl) rfl rfl rfl (store10 (.tmp 3) (.tmp 11) g (M.row 1 rfl) nz_fit x1 rfl rfl rfl) ?_
  replace M := M.store 1 rfl (N10.mk (k : Int) o16 o16 o16 o6 F o4).c
  simp only [List.set_cons_zero, List.set_cons_succ] at M
  generalize W.setRow g (N10.mk (k : Int) o16 o16 o16 o6 F o4).c = W1 at M ⊢
  simp only [Act.put]
  refine wpAny_end (by kernel_rfl) ?_ _
  refine NoPanic.normal ?_
  clear HB hw1 hw2 hbl
  go_upto_region 2 with fail
  refine wp_region_freePanic ?_
  refine wp_region_flow (fin := ?fin4) 11 1 (by kernel_rfl) [.inl (.pointer (some ⟨g, 0, none⟩)),
    .inl (.int .i64 (k : Int)),
    .inl (.bool true),
    .inl (.bool true),
    .inl (.string m),
    .inl (.string (m.extract 0 2)),
    .inl (.pointer (some ⟨g, 0, none⟩)),
    .inl (.int .i64 (k : Int)),
    .inl (.string T),
    .inl (.bool false),
    .inl (.bool false)] rfl rfl (by kernel_rfl) ?hfin4 ?hE4 ?hend4
  case hfin4 =>
    intro G
    simp only [flowAll, flowVal, Act.put, List.setIfInBounds_toArray, List.set_cons_zero, List.set_cons_succ]
    exact rfl
  case hE4 =>
    intro G
    refine ⟨Or.inr (fun W hB hR => known_val rfl (by go_simp)),
      Or.inr (fun W hB hR => known_val rfl (by have := ((M.drew.step hB).row 1 rfl).n_op; go_simp)),
      Or.inr (fun W hB hR => known_call 15 #[.int .i64 (k : Int)] ((Q1.out W).mono (fun e w' h => ⟨h.1, h.2 ▸ Below.refl _ _⟩)) rfl (by go_simp)),
      Or.inr (fun W hB hR => known_val rfl (by go_simp)),
      Or.inr (fun W hB hR => known_val rfl (by go_simp)),
      Or.inr (fun W hB hR => known_val rfl (by go_simp)),
      Or.inr (fun W hB hR => known_val rfl (by go_simp)),
      Or.inr (fun W hB hR => known_val rfl (by have := ((M.drew.step hB).row 1 rfl).n_op; go_simp)),
      Or.inr (fun W hB hR => known_call 16 #[.int .i64 (k : Int)] (Q2.out W) rfl (by go_simp)),
      Or.inr (fun W hB hR => known_val rfl (by exact exec_eqS (.tmp 17) (.tmp 20) _ _ false HE2.out rfl rfl rfl)),
      Or.inr (fun W hB hR => known_val rfl (by go_simp)), trivial⟩
  intro G W hB hM
  replace M := M.drew.step hB
  clear hB hM G
  refine callP 11 23 29 #[.bool false, .int .i64 3] _ (by kernel_rfl) rfl rfl rfl (by go_simp) (demand10_any _ _ _) ?_
  rintro e w3 ⟨rfl, rfl⟩
  refine Or.inr ⟨_, rfl, ?_⟩
  intro a' ha
  go_wp2
  exact ⟨ha, M.below, rfl⟩
set_option maxRecDepth 20000 in
set_option maxHeartbeats 2000000 in
theorem readMessage_bare (m : ByteArray) (hs : m.size = 24) (hr : rightO (((bAt m 0).toNat : Int) - 134) = true) (h2 : (cut9 m 0 2 == startL ((bAt m 0).toNat - 134)) = true) (w : World) : Calls Try.prog 31 #[.string m] w fun e w' => Below w.heap.size w w' ∧ e = .returned (.agg (N10.mk (((bAt m 0).toNat : Int) - 134) o16 o16 (cut9 m 8 16) o6 false (cut9 m 4 4)).c) := by
  have M : Mem w [(w.heap.size, 32, nz.c)] (w.alloc (.cells nz.c 32)) := (Mem.init w).alloc _ rfl _ _
  obtain ⟨b, hb⟩ : ∃ b, (bAt m 0).toNat = b := ⟨_, rfl⟩
  have hbl : b < 256 := by rw [← hb]; exact UInt8.toNat_lt _
  rw [hb] at hr h2 ⊢
  obtain ⟨k, hk, hk2⟩ : ∃ k : Nat, (b : Int) - 134 = (k : Int) ∧ k < 100 := by
    rcases rightO_spec hr with e | e
    · exact ⟨1, e, by omega⟩
    · exact ⟨2, e, by omega⟩
  have hkn : b - 134 = k := by omega
  rw [hk] at hr ⊢
  rw [hkn] at h2
  have hK := hk
  have q1 := fun W => rightOp10_any (k : Int) W
  rw [hr] at q1
  have q2 := fun W => start_any k hk2 W
  have he2 : ((m.extract 0 2).data.toList == (⟨(startL k).toArray⟩ : ByteArray).data.toList) = true := by
    rw [ext_cut2, str_list]
    exact h2
  generalize (⟨(startL k).toArray⟩ : ByteArray) = T at q2 he2
  have Q2 := Lib.hid q2
  have HE2 := Lib.hid he2
  clear q2 he2 h2 hk2 hkn hk
  have hw1 := i64_u8 b hbl
  have hw2 : IntKind.i64.wrap ((b : Int) - 134) = (k : Int) := by rw [hK]; exact IntWalk.i64_in _ (by omega)
  have Q1 := Lib.hid q1
  have HB := Lib.hid hb
  clear q1 hb hr hK
  have t1 : 0 < m.size := by omega
  have t2 : (2 : Int) ≤ (m.size : Int) := by omega
  have t26 : ¬ (26 : Int) ≤ (m.size : Int) := by omega
  have hF : ((m.size : Int) == 32) = false := by rw [hs]; decide
  have h24 : 24 ≤ m.size := by omega
  clear hs
  have x1 : (N10.mk (k : Int) o16 o16 o16 o6 false o4).Fit := ⟨rfl, rfl, rfl, rfl, rfl⟩
  go_enter Try.func31, Try.ntmps31
  go_upto_region 1 with fail
  change Code.wp _ _ _ _ (w.alloc (.cells nz.c 32))
  generalize w.alloc (.cells nz.c 32) = W0 at M ⊢
  refine wp_region_noPanic ?_
  refine wp_region_flow_text (fin := ?fin5) 9 1 (by kernel_rfl) [.inl (.string m),
    .inl (.int .u8 (b : Int)),
    .inl (.int .i64 (b : Int)),
    .inl (.int .i64 (k : Int)),
    .inl (.string m),
    .inl (.int .i64 (m.size : Int)),
    .inl (.bool false),
    .inl (.agg (N10.mk (k : Int) o16 o16 o16 o6 false o4).c),
    .inr (32, nz.c, none)] rfl rfl (by kernel_rfl) ?hfin5 ?hE5 ?hend5
  case hfin5 =>
    intro G
    simp only [flowAll, flowVal, Act.put, List.setIfInBounds_toArray, List.set_cons_zero, List.set_cons_succ]
    exact rfl
  case hE5 =>
    intro G
    refine ⟨Or.inr (fun W hB hR => known_val rfl (by go_simp)),
      Or.inr (fun W hB hR => known_val rfl (by rw [← HB.out]; exact exec_index (.tmp 4) (.const (.int .i64 0)) m 0 t1 rfl rfl rfl)),
      Or.inr (fun W hB hR => known_val rfl (by go_simp)),
      Or.inr (fun W hB hR => known_val rfl (by go_simp)),
      Or.inr (fun W hB hR => known_val rfl (by go_simp)),
      Or.inr (fun W hB hR => known_val rfl (by go_simp)),
      Or.inr (fun W hB hR => known_val rfl (by go_simp)),
      Or.inr (fun W hB hR => known_val rfl (by exact build10m (k : Int) false _ _ rfl rfl rfl)),
      ⟨rfl, fun W => made_ptr (alloc10 rfl)⟩, trivial⟩
  intro G W hB hM
  replace M := M.made hB hM 8 rfl rfl
  simp only [List.cons_append, List.nil_append] at M
  generalize G 8 = g at M ⊢
  clear hB hM G
  refine only0 9 (W.setRow g (N10.mk (k : Int) o16 o16 o16 o6 false o4).c) _ (by kernel_rfl) rfl rfl rfl (store10 (.tmp 3) (.tmp 11) g (M.row 1 rfl) nz_fit x1 rfl rfl rfl) ?_
  replace M := M.store 1 rfl (N10.mk (k : Int) o16 o16 o16 o6 false o4).c
  simp only [List.set_cons_zero, List.set_cons_succ] at M
  generalize W.setRow g (N10.mk (k : Int) o16 o16 o16 o6 false o4).c = W1 at M ⊢
  simp only [Act.put]
  refine wpAny_end (by kernel_rfl) ?_ _
  refine NoPanic.normal ?_
  clear HB hw1 hw2 hbl
  go_upto_region 2 with fail
  refine wp_region_freePanic ?_
  refine wp_region_flow (fin := ?fin6) 11 1 (by kernel_rfl) [.inl (.pointer (some ⟨g, 0, none⟩)),
    .inl (.int .i64 (k : Int)),
    .inl (.bool true),
    .inl (.bool true),
    .inl (.string m),
    .inl (.string (m.extract 0 2)),
    .inl (.pointer (some ⟨g, 0, none⟩)),
    .inl (.int .i64 (k : Int)),
    .inl (.string T),
    .inl (.bool true),
    .inl (.bool true)] rfl rfl (by kernel_rfl) ?hfin6 ?hE6 ?hend6
  case hfin6 =>
    intro G
    simp only [flowAll, flowVal, Act.put, List.setIfInBounds_toArray, List.set_cons_zero, List.set_cons_succ]
    exact rfl
  case hE6 =>
    intro G
    refine ⟨Or.inr (fun W hB hR => known_val rfl (by go_simp)),
      Or.inr (fun W hB hR => known_val rfl (by have := ((M.drew.step hB).row 1 rfl).n_op; go_simp)),
      Or.inr (fun W hB hR => known_call 15 #[.int .i64 (k : Int)] ((Q1.out W).mono (fun e w' h => ⟨h.1, h.2 ▸ Below.refl _ _⟩)) rfl (by go_simp)),
      Or.inr (fun W hB hR => known_val rfl (by go_simp)),
      Or.inr (fun W hB hR => known_val rfl (by go_simp)),
      Or.inr (fun W hB hR => known_val rfl (by go_simp)),
      Or.inr (fun W hB hR => known_val rfl (by go_simp)),
      Or.inr (fun W hB hR => known_val rfl (by have := ((M.drew.step hB).row 1 rfl).n_op; go_simp)),
      Or.inr (fun W hB hR => known_call 16 #[.int .i64 (k : Int)] (Q2.out W) rfl (by go_simp)),
      Or.inr (fun W hB hR => known_val rfl (by exact exec_eqS (.tmp 17) (.tmp 20) _ _ true HE2.out rfl rfl rfl)),
      Or.inr (fun W hB hR => known_val rfl (by go_simp)), trivial⟩
  intro G W hB hM
  replace M := M.drew.step hB
  clear hB hM G
  refine callP 11 23 29 #[.bool true, .int .i64 3] _ (by kernel_rfl) rfl rfl rfl (by go_simp) (demand10_any _ _ _) ?_
  rintro e w3 ⟨rfl, rfl⟩
  refine Or.inl ⟨_, rfl, ?_⟩
  simp only [Act.put, List.setIfInBounds_toArray, List.set_cons_zero, List.set_cons_succ]
  refine wpAny_end (by kernel_rfl) ?_ _
  refine FreePanic.normal ?_
  have x2 : (N10.mk (k : Int) o16 o16 o16 o6 false (cut9 m 4 4)).Fit := ⟨rfl, rfl, rfl, rfl, cut9_length m 4 4 (by omega)⟩
  have x3 : (N10.mk (k : Int) o16 o16 (cut9 m 8 16) o6 false (cut9 m 4 4)).Fit := ⟨rfl, rfl, cut9_length m 8 16 (by omega), rfl, x2.g⟩
  go_upto_region 3 with fail
  refine wp_region_noPanic ?_
  refine wp_region_flow (fin := ?fin7) 4 1 (by kernel_rfl) [.inl (.pointer (some ⟨g, 56, none⟩)),
    .inl (.slice (some ⟨g, 56, none⟩) 4 4),
    .inl (.string m),
    .inl (.string (m.extract 4 m.size))] rfl rfl (by kernel_rfl) ?hfin7 ?hE7 ?hend7
  case hfin7 =>
    intro G
    simp only [flowAll, flowVal, Act.put, List.setIfInBounds_toArray, List.set_cons_zero, List.set_cons_succ]
    exact rfl
  case hE7 =>
    intro G
    refine ⟨Or.inr (fun W hB hR => known_val rfl (by go_simp)),
      Or.inr (fun W hB hR => known_val rfl (by go_simp)),
      Or.inr (fun W hB hR => known_val rfl (by go_simp)),
      Or.inr (fun W hB hR => known_val rfl (by go_simp <;> (intro h9; omega))), trivial⟩
  intro G W hB hM
  replace M := M.drew.step hB
  clear hB hM G
  have hcp := copy10_g (M.row 1 rfl) x1 (m.extract 4 m.size) (by rw [ByteArray.size_extract]; omega) (rest_cut m 4 4)
  replace M := M.store 1 rfl (N10.mk (k : Int) o16 o16 o16 o6 false (cut9 m 4 4)).c
  simp only [List.set_cons_zero, List.set_cons_succ] at M
  generalize W.setRow g (N10.mk (k : Int) o16 o16 o16 o6 false (cut9 m 4 4)).c = W2 at hcp M
  refine val0 4 28 (.int .i64 4) W2 _ (by kernel_rfl) rfl rfl rfl (by go_simp) ?_
  simp only [Act.put]
  refine wpAny_end (by kernel_rfl) ?_ _
  refine NoPanic.normal ?_
  clear hcp
  go_upto_region 4 with fail
  refine wp_region_noPanic ?_
  refine wp_region_flow (fin := ?fin8) 4 1 (by kernel_rfl) [.inl (.pointer (some ⟨g, 33, none⟩)),
    .inl (.slice (some ⟨g, 33, none⟩) 16 16),
    .inl (.string m),
    .inl (.string (m.extract 8 m.size))] rfl rfl (by kernel_rfl) ?hfin8 ?hE8 ?hend8
  case hfin8 =>
    intro G
    simp only [flowAll, flowVal, Act.put, List.setIfInBounds_toArray, List.set_cons_zero, List.set_cons_succ]
    exact rfl
  case hE8 =>
    intro G
    refine ⟨Or.inr (fun W hB hR => known_val rfl (by go_simp)),
      Or.inr (fun W hB hR => known_val rfl (by go_simp)),
      Or.inr (fun W hB hR => known_val rfl (by go_simp)),
      Or.inr (fun W hB hR => known_val rfl (by go_simp <;> (intro h9; omega))), trivial⟩
  intro G W hB hM
  replace M := M.drew.step hB
  clear hB hM G
  have hcp := copy10_a (M.row 1 rfl) x2 (m.extract 8 m.size) (by rw [ByteArray.size_extract]; omega) (rest_cut m 8 16)
  replace M := M.store 1 rfl (N10.mk (k : Int) o16 o16 (cut9 m 8 16) o6 false (cut9 m 4 4)).c
  simp only [List.set_cons_zero, List.set_cons_succ] at M
  generalize W.setRow g (N10.mk (k : Int) o16 o16 (cut9 m 8 16) o6 false (cut9 m 4 4)).c = W2 at hcp M
  refine val0 4 33 (.int .i64 16) W2 _ (by kernel_rfl) rfl rfl rfl (by go_simp) ?_
  simp only [Act.put]
  refine wpAny_end (by kernel_rfl) ?_ _
  refine NoPanic.normal ?_
  clear hcp
  have ch := (M.row 1 rfl).n_h x3
  go_upto_region 8 with fail
  have r0 := M.row 0 rfl
  have r1 := M.row 1 rfl
  replace M := M.store 0 rfl (N10.mk (k : Int) o16 o16 (cut9 m 8 16) o6 false (cut9 m 4 4)).c
  simp only [List.set_cons_zero] at M
  have HM := Lib.hid M
  clear M
  go_wp2_with (first
    | (refine wpList_load_row rfl 32 (.tmp 3) rfl g rfl 32 (N10.mk (k : Int) o16 o16 (cut9 m 8 16) o6 false (cut9 m 4 4)).c (0, 0) _ r1 Try.underlying32 rfl (n10_info x3) ?_)
    | (refine wpList_store_row rfl 32 (.tmp 2) (.tmp 48) rfl w.heap.size (N10.mk (k : Int) o16 o16 (cut9 m 8 16) o6 false (cut9 m 4 4)).c rfl rfl 32 nz.c r0 (n10_info x3) (by rw [N10.size nz_fit, N10.size x3]) (N10.one _) ?_))
  exact bodyPost_ret (v := .agg (N10.mk (k : Int) o16 o16 (cut9 m 8 16) o6 false (cut9 m 4 4)).c) (results_cell_row rfl _ _ w.heap.size 32 (N10.mk (k : Int) o16 o16 (cut9 m 8 16) o6 false (cut9 m 4 4)).c (0, 0) _ rfl (HM.out.row 0 rfl) Try.underlying32 rfl (n10_info x3)) rfl ⟨HM.out.below, rfl⟩
set_option maxRecDepth 20000 in
set_option maxHeartbeats 2000000 in
theorem readMessage_mark (m : ByteArray) (hs : m.size = 32) (hr : rightO (((bAt m 0).toNat : Int) - 134) = true) (h2 : (cut9 m 0 2 == startL ((bAt m 0).toNat - 134)) = true) (h3 : (cut9 m 24 2 == markL ((bAt m 0).toNat - 134)) = false) (w : World) : Calls Try.prog 31 #[.string m] w fun e w' => Below w.heap.size w w' ∧ e = thrown 3 := by
  have M : Mem w [(w.heap.size, 32, nz.c)] (w.alloc (.cells nz.c 32)) := (Mem.init w).alloc _ rfl _ _
  obtain ⟨b, hb⟩ : ∃ b, (bAt m 0).toNat = b := ⟨_, rfl⟩
  have hbl : b < 256 := by rw [← hb]; exact UInt8.toNat_lt _
  rw [hb] at hr h2 h3
  obtain ⟨k, hk, hk2⟩ : ∃ k : Nat, (b : Int) - 134 = (k : Int) ∧ k < 100 := by
    rcases rightO_spec hr with e | e
    · exact ⟨1, e, by omega⟩
    · exact ⟨2, e, by omega⟩
  have hkn : b - 134 = k := by omega
  rw [hk] at hr
  rw [hkn] at h2 h3
  have hK := hk
  have q1 := fun W => rightOp10_any (k : Int) W
  rw [hr] at q1
  have q2 := fun W => start_any k hk2 W
  have he2 : ((m.extract 0 2).data.toList == (⟨(startL k).toArray⟩ : ByteArray).data.toList) = true := by
    rw [ext_cut2, str_list]
    exact h2
  generalize (⟨(startL k).toArray⟩ : ByteArray) = T at q2 he2
  have q3 := fun W => mark_any k W
  have he3 : ((m.extract 24 26).data.toList == (⟨(markL k).toArray⟩ : ByteArray).data.toList) = false := by
    rw [ext_cut2, str_list]
    exact h3
  generalize (⟨(markL k).toArray⟩ : ByteArray) = U at q3 he3
  have Q3 := Lib.hid q3
  have HE3 := Lib.hid he3
  clear q3 he3 h3
  have Q2 := Lib.hid q2
  have HE2 := Lib.hid he2
  clear q2 he2 h2 hk2 hkn hk
  have hw1 := i64_u8 b hbl
  have hw2 : IntKind.i64.wrap ((b : Int) - 134) = (k : Int) := by rw [hK]; exact IntWalk.i64_in _ (by omega)
  have Q1 := Lib.hid q1
  have HB := Lib.hid hb
  clear q1 hb hr hK
  have t1 : 0 < m.size := by omega
  have t2 : (2 : Int) ≤ (m.size : Int) := by omega
  have t26 :  (26 : Int) ≤ (m.size : Int) := by omega
  have hF : ((m.size : Int) == 32) = true := by rw [hs]; decide
  have h24 : 32 ≤ m.size := by omega
  clear hs
  have x1 : (N10.mk (k : Int) o16 o16 o16 o6 true o4).Fit := ⟨rfl, rfl, rfl, rfl, rfl⟩
  go_enter Try.func31, Try.ntmps31
  go_upto_region 1 with fail
  change Code.wp _ _ _ _ (w.alloc (.cells nz.c 32))
  generalize w.alloc (.cells nz.c 32) = W0 at M ⊢
  refine wp_region_noPanic ?_
  refine wp_region_flow_text (fin := ?fin9) 9 1 (by kernel_rfl) [.inl (.string m),
    .inl (.int .u8 (b : Int)),
    .inl (.int .i64 (b : Int)),
    .inl (.int .i64 (k : Int)),
    .inl (.string m),
    .inl (.int .i64 (m.size : Int)),
    .inl (.bool true),
    .inl (.agg (N10.mk (k : Int) o16 o16 o16 o6 true o4).c),
    .inr (32, nz.c, none)] rfl rfl (by kernel_rfl) ?hfin9 ?hE9 ?hend9
  case hfin9 =>
    intro G
    simp only [flowAll, flowVal, Act.put, List.setIfInBounds_toArray, List.set_cons_zero, List.set_cons_succ]
    exact rfl
  case hE9 =>
    intro G
    refine ⟨Or.inr (fun W hB hR => known_val rfl (by go_simp)),
      Or.inr (fun W hB hR => known_val rfl (by rw [← HB.out]; exact exec_index (.tmp 4) (.const (.int .i64 0)) m 0 t1 rfl rfl rfl)),
      Or.inr (fun W hB hR => known_val rfl (by go_simp)),
      Or.inr (fun W hB hR => known_val rfl (by go_simp)),
      Or.inr (fun W hB hR => known_val rfl (by go_simp)),
      Or.inr (fun W hB hR => known_val rfl (by go_simp)),
      Or.inr (fun W hB hR => known_val rfl (by go_simp)),
      Or.inr (fun W hB hR => known_val rfl (by exact build10m (k : Int) true _ _ rfl rfl rfl)),
      ⟨rfl, fun W => made_ptr (alloc10 rfl)⟩, trivial⟩
  intro G W hB hM
  replace M := M.made hB hM 8 rfl rfl
  simp only [List.cons_append, List.nil_append] at M
  generalize G 8 = g at M ⊢
  clear hB hM G
  refine only0 9 (W.setRow g (N10.mk (k : Int) o16 o16 o16 o6 true o4).c) _ (by kernel_rfl) rfl rfl rfl (store10 (.tmp 3) (.tmp 11) g (M.row 1 rfl) nz_fit x1 rfl rfl rfl) ?_
  replace M := M.store 1 rfl (N10.mk (k : Int) o16 o16 o16 o6 true o4).c
  simp only [List.set_cons_zero, List.set_cons_succ] at M
  generalize W.setRow g (N10.mk (k : Int) o16 o16 o16 o6 true o4).c = W1 at M ⊢
  simp only [Act.put]
  refine wpAny_end (by kernel_rfl) ?_ _
  refine NoPanic.normal ?_
  clear HB hw1 hw2 hbl
  go_upto_region 2 with fail
  refine wp_region_freePanic ?_
  refine wp_region_flow (fin := ?fin10) 11 1 (by kernel_rfl) [.inl (.pointer (some ⟨g, 0, none⟩)),
    .inl (.int .i64 (k : Int)),
    .inl (.bool true),
    .inl (.bool true),
    .inl (.string m),
    .inl (.string (m.extract 0 2)),
    .inl (.pointer (some ⟨g, 0, none⟩)),
    .inl (.int .i64 (k : Int)),
    .inl (.string T),
    .inl (.bool true),
    .inl (.bool true)] rfl rfl (by kernel_rfl) ?hfin10 ?hE10 ?hend10
  case hfin10 =>
    intro G
    simp only [flowAll, flowVal, Act.put, List.setIfInBounds_toArray, List.set_cons_zero, List.set_cons_succ]
    exact rfl
  case hE10 =>
    intro G
    refine ⟨Or.inr (fun W hB hR => known_val rfl (by go_simp)),
      Or.inr (fun W hB hR => known_val rfl (by have := ((M.drew.step hB).row 1 rfl).n_op; go_simp)),
      Or.inr (fun W hB hR => known_call 15 #[.int .i64 (k : Int)] ((Q1.out W).mono (fun e w' h => ⟨h.1, h.2 ▸ Below.refl _ _⟩)) rfl (by go_simp)),
      Or.inr (fun W hB hR => known_val rfl (by go_simp)),
      Or.inr (fun W hB hR => known_val rfl (by go_simp)),
      Or.inr (fun W hB hR => known_val rfl (by go_simp)),
      Or.inr (fun W hB hR => known_val rfl (by go_simp)),
      Or.inr (fun W hB hR => known_val rfl (by have := ((M.drew.step hB).row 1 rfl).n_op; go_simp)),
      Or.inr (fun W hB hR => known_call 16 #[.int .i64 (k : Int)] (Q2.out W) rfl (by go_simp)),
      Or.inr (fun W hB hR => known_val rfl (by exact exec_eqS (.tmp 17) (.tmp 20) _ _ true HE2.out rfl rfl rfl)),
      Or.inr (fun W hB hR => known_val rfl (by go_simp)), trivial⟩
  intro G W hB hM
  replace M := M.drew.step hB
  clear hB hM G
  refine callP 11 23 29 #[.bool true, .int .i64 3] _ (by kernel_rfl) rfl rfl rfl (by go_simp) (demand10_any _ _ _) ?_
  rintro e w3 ⟨rfl, rfl⟩
  refine Or.inl ⟨_, rfl, ?_⟩
  simp only [Act.put, List.setIfInBounds_toArray, List.set_cons_zero, List.set_cons_succ]
  refine wpAny_end (by kernel_rfl) ?_ _
  refine FreePanic.normal ?_
  have x2 : (N10.mk (k : Int) o16 o16 o16 o6 true (cut9 m 4 4)).Fit := ⟨rfl, rfl, rfl, rfl, cut9_length m 4 4 (by omega)⟩
  have x3 : (N10.mk (k : Int) o16 o16 (cut9 m 8 16) o6 true (cut9 m 4 4)).Fit := ⟨rfl, rfl, cut9_length m 8 16 (by omega), rfl, x2.g⟩
  go_upto_region 3 with fail
  refine wp_region_noPanic ?_
  refine wp_region_flow (fin := ?fin11) 4 1 (by kernel_rfl) [.inl (.pointer (some ⟨g, 56, none⟩)),
    .inl (.slice (some ⟨g, 56, none⟩) 4 4),
    .inl (.string m),
    .inl (.string (m.extract 4 m.size))] rfl rfl (by kernel_rfl) ?hfin11 ?hE11 ?hend11
  case hfin11 =>
    intro G
    simp only [flowAll, flowVal, Act.put, List.setIfInBounds_toArray, List.set_cons_zero, List.set_cons_succ]
    exact rfl
  case hE11 =>
    intro G
    refine ⟨Or.inr (fun W hB hR => known_val rfl (by go_simp)),
      Or.inr (fun W hB hR => known_val rfl (by go_simp)),
      Or.inr (fun W hB hR => known_val rfl (by go_simp)),
      Or.inr (fun W hB hR => known_val rfl (by go_simp <;> (intro h9; omega))), trivial⟩
  intro G W hB hM
  replace M := M.drew.step hB
  clear hB hM G
  have hcp := copy10_g (M.row 1 rfl) x1 (m.extract 4 m.size) (by rw [ByteArray.size_extract]; omega) (rest_cut m 4 4)
  replace M := M.store 1 rfl (N10.mk (k : Int) o16 o16 o16 o6 true (cut9 m 4 4)).c
  simp only [List.set_cons_zero, List.set_cons_succ] at M
  generalize W.setRow g (N10.mk (k : Int) o16 o16 o16 o6 true (cut9 m 4 4)).c = W2 at hcp M
  refine val0 4 28 (.int .i64 4) W2 _ (by kernel_rfl) rfl rfl rfl (by go_simp) ?_
  simp only [Act.put]
  refine wpAny_end (by kernel_rfl) ?_ _
  refine NoPanic.normal ?_
  clear hcp
  go_upto_region 4 with fail
  refine wp_region_noPanic ?_
  refine wp_region_flow (fin := ?fin12) 4 1 (by kernel_rfl) [.inl (.pointer (some ⟨g, 33, none⟩)),
    .inl (.slice (some ⟨g, 33, none⟩) 16 16),
    .inl (.string m),
    .inl (.string (m.extract 8 m.size))] rfl rfl (by kernel_rfl) ?hfin12 ?hE12 ?hend12
  case hfin12 =>
    intro G
    simp only [flowAll, flowVal, Act.put, List.setIfInBounds_toArray, List.set_cons_zero, List.set_cons_succ]
    exact rfl
  case hE12 =>
    intro G
    refine ⟨Or.inr (fun W hB hR => known_val rfl (by go_simp)),
      Or.inr (fun W hB hR => known_val rfl (by go_simp)),
      Or.inr (fun W hB hR => known_val rfl (by go_simp)),
      Or.inr (fun W hB hR => known_val rfl (by go_simp <;> (intro h9; omega))), trivial⟩
  intro G W hB hM
  replace M := M.drew.step hB
  clear hB hM G
  have hcp := copy10_a (M.row 1 rfl) x2 (m.extract 8 m.size) (by rw [ByteArray.size_extract]; omega) (rest_cut m 8 16)
  replace M := M.store 1 rfl (N10.mk (k : Int) o16 o16 (cut9 m 8 16) o6 true (cut9 m 4 4)).c
  simp only [List.set_cons_zero, List.set_cons_succ] at M
  generalize W.setRow g (N10.mk (k : Int) o16 o16 (cut9 m 8 16) o6 true (cut9 m 4 4)).c = W2 at hcp M
  refine val0 4 33 (.int .i64 16) W2 _ (by kernel_rfl) rfl rfl rfl (by go_simp) ?_
  simp only [Act.put]
  refine wpAny_end (by kernel_rfl) ?_ _
  refine NoPanic.normal ?_
  clear hcp
  have ch := (M.row 1 rfl).n_h x3
  go_upto_region 6 with fail
  clear ch
  refine wp_region_freePanic ?_
  refine wp_region_flow (fin := ?fin13) 6 1 (by kernel_rfl) [.inl (.string m),
    .inl (.string (m.extract 24 26)),
    .inl (.pointer (some ⟨g, 0, none⟩)),
    .inl (.int .i64 (k : Int)),
    .inl (.string U),
    .inl (.bool false)] rfl rfl (by kernel_rfl) ?hfin13 ?hE13 ?hend13
  case hfin13 =>
    intro G
    simp only [flowAll, flowVal, Act.put, List.setIfInBounds_toArray, List.set_cons_zero, List.set_cons_succ]
    exact rfl
  case hE13 =>
    intro G
    refine ⟨Or.inr (fun W hB hR => known_val rfl (by go_simp)),
      Or.inr (fun W hB hR => known_val rfl (by go_simp)),
      Or.inr (fun W hB hR => known_val rfl (by go_simp)),
      Or.inr (fun W hB hR => known_val rfl (by have := ((M.drew.step hB).row 1 rfl).n_op; go_simp)),
      Or.inr (fun W hB hR => known_call 26 #[.int .i64 (k : Int)] (Q3.out W) rfl (by go_simp)),
      Or.inr (fun W hB hR => known_val rfl (by exact exec_eqS (.tmp 37) (.tmp 40) _ _ false HE3.out rfl rfl rfl)), trivial⟩
  intro G W hB hM
  replace M := M.drew.step hB
  clear hB hM G
  refine callP 6 42 29 #[.bool false, .int .i64 3] _ (by kernel_rfl) rfl rfl rfl (by go_simp) (demand10_any _ _ _) ?_
  rintro e w3 ⟨rfl, rfl⟩
  refine Or.inr ⟨_, rfl, ?_⟩
  intro a' ha
  go_wp2
  exact ⟨ha, M.below, rfl⟩
set_option maxRecDepth 20000 in
set_option maxHeartbeats 2000000 in
theorem readMessage_full (m : ByteArray) (hs : m.size = 32) (hr : rightO (((bAt m 0).toNat : Int) - 134) = true) (h2 : (cut9 m 0 2 == startL ((bAt m 0).toNat - 134)) = true) (h3 : (cut9 m 24 2 == markL ((bAt m 0).toNat - 134)) = true) (w : World) : Calls Try.prog 31 #[.string m] w fun e w' => Below w.heap.size w w' ∧ e = .returned (.agg (N10.mk (((bAt m 0).toNat : Int) - 134) o16 o16 (cut9 m 8 16) (cut9 m 26 6) true (cut9 m 4 4)).c) := by
  have M : Mem w [(w.heap.size, 32, nz.c)] (w.alloc (.cells nz.c 32)) := (Mem.init w).alloc _ rfl _ _
  obtain ⟨b, hb⟩ : ∃ b, (bAt m 0).toNat = b := ⟨_, rfl⟩
  have hbl : b < 256 := by rw [← hb]; exact UInt8.toNat_lt _
  rw [hb] at hr h2 h3 ⊢
  obtain ⟨k, hk, hk2⟩ : ∃ k : Nat, (b : Int) - 134 = (k : Int) ∧ k < 100 := by
    rcases rightO_spec hr with e | e
    · exact ⟨1, e, by omega⟩
    · exact ⟨2, e, by omega⟩
  have hkn : b - 134 = k := by omega
  rw [hk] at hr ⊢
  rw [hkn] at h2 h3
  have hK := hk
  have q1 := fun W => rightOp10_any (k : Int) W
  rw [hr] at q1
  have q2 := fun W => start_any k hk2 W
  have he2 : ((m.extract 0 2).data.toList == (⟨(startL k).toArray⟩ : ByteArray).data.toList) = true := by
    rw [ext_cut2, str_list]
    exact h2
  generalize (⟨(startL k).toArray⟩ : ByteArray) = T at q2 he2
  have q3 := fun W => mark_any k W
  have he3 : ((m.extract 24 26).data.toList == (⟨(markL k).toArray⟩ : ByteArray).data.toList) = true := by
    rw [ext_cut2, str_list]
    exact h3
  generalize (⟨(markL k).toArray⟩ : ByteArray) = U at q3 he3
  have Q3 := Lib.hid q3
  have HE3 := Lib.hid he3
  clear q3 he3 h3
  have Q2 := Lib.hid q2
  have HE2 := Lib.hid he2
  clear q2 he2 h2 hk2 hkn hk
  have hw1 := i64_u8 b hbl
  have hw2 : IntKind.i64.wrap ((b : Int) - 134) = (k : Int) := by rw [hK]; exact IntWalk.i64_in _ (by omega)
  have Q1 := Lib.hid q1
  have HB := Lib.hid hb
  clear q1 hb hr hK
  have t1 : 0 < m.size := by omega
  have t2 : (2 : Int) ≤ (m.size : Int) := by omega
  have t26 :  (26 : Int) ≤ (m.size : Int) := by omega
  have hF : ((m.size : Int) == 32) = true := by rw [hs]; decide
  have h24 : 32 ≤ m.size := by omega
  clear hs
  have x1 : (N10.mk (k : Int) o16 o16 o16 o6 true o4).Fit := ⟨rfl, rfl, rfl, rfl, rfl⟩
  go_enter Try.func31, Try.ntmps31
  go_upto_region 1 with fail
  change Code.wp _ _ _ _ (w.alloc (.cells nz.c 32))
  generalize w.alloc (.cells nz.c 32) = W0 at M ⊢
  refine wp_region_noPanic ?_
  refine wp_region_flow_text (fin := ?fin14) 9 1 (by kernel_rfl) [.inl (.string m),
    .inl (.int .u8 (b : Int)),
    .inl (.int .i64 (b : Int)),
    .inl (.int .i64 (k : Int)),
    .inl (.string m),
    .inl (.int .i64 (m.size : Int)),
    .inl (.bool true),
    .inl (.agg (N10.mk (k : Int) o16 o16 o16 o6 true o4).c),
    .inr (32, nz.c, none)] rfl rfl (by kernel_rfl) ?hfin14 ?hE14 ?hend14
  case hfin14 =>
    intro G
    simp only [flowAll, flowVal, Act.put, List.setIfInBounds_toArray, List.set_cons_zero, List.set_cons_succ]
    exact rfl
  case hE14 =>
    intro G
    refine ⟨Or.inr (fun W hB hR => known_val rfl (by go_simp)),
      Or.inr (fun W hB hR => known_val rfl (by rw [← HB.out]; exact exec_index (.tmp 4) (.const (.int .i64 0)) m 0 t1 rfl rfl rfl)),
      Or.inr (fun W hB hR => known_val rfl (by go_simp)),
      Or.inr (fun W hB hR => known_val rfl (by go_simp)),
      Or.inr (fun W hB hR => known_val rfl (by go_simp)),
      Or.inr (fun W hB hR => known_val rfl (by go_simp)),
      Or.inr (fun W hB hR => known_val rfl (by go_simp)),
      Or.inr (fun W hB hR => known_val rfl (by exact build10m (k : Int) true _ _ rfl rfl rfl)),
      ⟨rfl, fun W => made_ptr (alloc10 rfl)⟩, trivial⟩
  intro G W hB hM
  replace M := M.made hB hM 8 rfl rfl
  simp only [List.cons_append, List.nil_append] at M
  generalize G 8 = g at M ⊢
  clear hB hM G
  refine only0 9 (W.setRow g (N10.mk (k : Int) o16 o16 o16 o6 true o4).c) _ (by kernel_rfl) rfl rfl rfl (store10 (.tmp 3) (.tmp 11) g (M.row 1 rfl) nz_fit x1 rfl rfl rfl) ?_
  replace M := M.store 1 rfl (N10.mk (k : Int) o16 o16 o16 o6 true o4).c
  simp only [List.set_cons_zero, List.set_cons_succ] at M
  generalize W.setRow g (N10.mk (k : Int) o16 o16 o16 o6 true o4).c = W1 at M ⊢
  simp only [Act.put]
  refine wpAny_end (by kernel_rfl) ?_ _
  refine NoPanic.normal ?_
  clear HB hw1 hw2 hbl
  go_upto_region 2 with fail
  refine wp_region_freePanic ?_
  refine wp_region_flow (fin := ?fin15) 11 1 (by kernel_rfl) [.inl (.pointer (some ⟨g, 0, none⟩)),
    .inl (.int .i64 (k : Int)),
    .inl (.bool true),
    .inl (.bool true),
    .inl (.string m),
    .inl (.string (m.extract 0 2)),
    .inl (.pointer (some ⟨g, 0, none⟩)),
    .inl (.int .i64 (k : Int)),
    .inl (.string T),
    .inl (.bool true),
    .inl (.bool true)] rfl rfl (by kernel_rfl) ?hfin15 ?hE15 ?hend15
  case hfin15 =>
    intro G
    simp only [flowAll, flowVal, Act.put, List.setIfInBounds_toArray, List.set_cons_zero, List.set_cons_succ]
    exact rfl
  case hE15 =>
    intro G
    refine ⟨Or.inr (fun W hB hR => known_val rfl (by go_simp)),
      Or.inr (fun W hB hR => known_val rfl (by have := ((M.drew.step hB).row 1 rfl).n_op; go_simp)),
      Or.inr (fun W hB hR => known_call 15 #[.int .i64 (k : Int)] ((Q1.out W).mono (fun e w' h => ⟨h.1, h.2 ▸ Below.refl _ _⟩)) rfl (by go_simp)),
      Or.inr (fun W hB hR => known_val rfl (by go_simp)),
      Or.inr (fun W hB hR => known_val rfl (by go_simp)),
      Or.inr (fun W hB hR => known_val rfl (by go_simp)),
      Or.inr (fun W hB hR => known_val rfl (by go_simp)),
      Or.inr (fun W hB hR => known_val rfl (by have := ((M.drew.step hB).row 1 rfl).n_op; go_simp)),
      Or.inr (fun W hB hR => known_call 16 #[.int .i64 (k : Int)] (Q2.out W) rfl (by go_simp)),
      Or.inr (fun W hB hR => known_val rfl (by exact exec_eqS (.tmp 17) (.tmp 20) _ _ true HE2.out rfl rfl rfl)),
      Or.inr (fun W hB hR => known_val rfl (by go_simp)), trivial⟩
  intro G W hB hM
  replace M := M.drew.step hB
  clear hB hM G
  refine callP 11 23 29 #[.bool true, .int .i64 3] _ (by kernel_rfl) rfl rfl rfl (by go_simp) (demand10_any _ _ _) ?_
  rintro e w3 ⟨rfl, rfl⟩
  refine Or.inl ⟨_, rfl, ?_⟩
  simp only [Act.put, List.setIfInBounds_toArray, List.set_cons_zero, List.set_cons_succ]
  refine wpAny_end (by kernel_rfl) ?_ _
  refine FreePanic.normal ?_
  have x2 : (N10.mk (k : Int) o16 o16 o16 o6 true (cut9 m 4 4)).Fit := ⟨rfl, rfl, rfl, rfl, cut9_length m 4 4 (by omega)⟩
  have x3 : (N10.mk (k : Int) o16 o16 (cut9 m 8 16) o6 true (cut9 m 4 4)).Fit := ⟨rfl, rfl, cut9_length m 8 16 (by omega), rfl, x2.g⟩
  have x4 : (N10.mk (k : Int) o16 o16 (cut9 m 8 16) (cut9 m 26 6) true (cut9 m 4 4)).Fit := ⟨rfl, rfl, x3.a, cut9_length m 26 6 (by omega), x2.g⟩
  go_upto_region 3 with fail
  refine wp_region_noPanic ?_
  refine wp_region_flow (fin := ?fin16) 4 1 (by kernel_rfl) [.inl (.pointer (some ⟨g, 56, none⟩)),
    .inl (.slice (some ⟨g, 56, none⟩) 4 4),
    .inl (.string m),
    .inl (.string (m.extract 4 m.size))] rfl rfl (by kernel_rfl) ?hfin16 ?hE16 ?hend16
  case hfin16 =>
    intro G
    simp only [flowAll, flowVal, Act.put, List.setIfInBounds_toArray, List.set_cons_zero, List.set_cons_succ]
    exact rfl
  case hE16 =>
    intro G
    refine ⟨Or.inr (fun W hB hR => known_val rfl (by go_simp)),
      Or.inr (fun W hB hR => known_val rfl (by go_simp)),
      Or.inr (fun W hB hR => known_val rfl (by go_simp)),
      Or.inr (fun W hB hR => known_val rfl (by go_simp <;> (intro h9; omega))), trivial⟩
  intro G W hB hM
  replace M := M.drew.step hB
  clear hB hM G
  have hcp := copy10_g (M.row 1 rfl) x1 (m.extract 4 m.size) (by rw [ByteArray.size_extract]; omega) (rest_cut m 4 4)
  replace M := M.store 1 rfl (N10.mk (k : Int) o16 o16 o16 o6 true (cut9 m 4 4)).c
  simp only [List.set_cons_zero, List.set_cons_succ] at M
  generalize W.setRow g (N10.mk (k : Int) o16 o16 o16 o6 true (cut9 m 4 4)).c = W2 at hcp M
  refine val0 4 28 (.int .i64 4) W2 _ (by kernel_rfl) rfl rfl rfl (by go_simp) ?_
  simp only [Act.put]
  refine wpAny_end (by kernel_rfl) ?_ _
  refine NoPanic.normal ?_
  clear hcp
  go_upto_region 4 with fail
  refine wp_region_noPanic ?_
  refine wp_region_flow (fin := ?fin17) 4 1 (by kernel_rfl) [.inl (.pointer (some ⟨g, 33, none⟩)),
    .inl (.slice (some ⟨g, 33, none⟩) 16 16),
    .inl (.string m),
    .inl (.string (m.extract 8 m.size))] rfl rfl (by kernel_rfl) ?hfin17 ?hE17 ?hend17
  case hfin17 =>
    intro G
    simp only [flowAll, flowVal, Act.put, List.setIfInBounds_toArray, List.set_cons_zero, List.set_cons_succ]
    exact rfl
  case hE17 =>
    intro G
    refine ⟨Or.inr (fun W hB hR => known_val rfl (by go_simp)),
      Or.inr (fun W hB hR => known_val rfl (by go_simp)),
      Or.inr (fun W hB hR => known_val rfl (by go_simp)),
      Or.inr (fun W hB hR => known_val rfl (by go_simp <;> (intro h9; omega))), trivial⟩
  intro G W hB hM
  replace M := M.drew.step hB
  clear hB hM G
  have hcp := copy10_a (M.row 1 rfl) x2 (m.extract 8 m.size) (by rw [ByteArray.size_extract]; omega) (rest_cut m 8 16)
  replace M := M.store 1 rfl (N10.mk (k : Int) o16 o16 (cut9 m 8 16) o6 true (cut9 m 4 4)).c
  simp only [List.set_cons_zero, List.set_cons_succ] at M
  generalize W.setRow g (N10.mk (k : Int) o16 o16 (cut9 m 8 16) o6 true (cut9 m 4 4)).c = W2 at hcp M
  refine val0 4 33 (.int .i64 16) W2 _ (by kernel_rfl) rfl rfl rfl (by go_simp) ?_
  simp only [Act.put]
  refine wpAny_end (by kernel_rfl) ?_ _
  refine NoPanic.normal ?_
  clear hcp
  have ch := (M.row 1 rfl).n_h x3
  go_upto_region 6 with fail
  clear ch
  refine wp_region_freePanic ?_
  refine wp_region_flow (fin := ?fin18) 6 1 (by kernel_rfl) [.inl (.string m),
    .inl (.string (m.extract 24 26)),
    .inl (.pointer (some ⟨g, 0, none⟩)),
    .inl (.int .i64 (k : Int)),
    .inl (.string U),
    .inl (.bool true)] rfl rfl (by kernel_rfl) ?hfin18 ?hE18 ?hend18
  case hfin18 =>
    intro G
    simp only [flowAll, flowVal, Act.put, List.setIfInBounds_toArray, List.set_cons_zero, List.set_cons_succ]
    exact rfl
  case hE18 =>
    intro G
    refine ⟨Or.inr (fun W hB hR => known_val rfl (by go_simp)),
      Or.inr (fun W hB hR => known_val rfl (by go_simp)),
      Or.inr (fun W hB hR => known_val rfl (by go_simp)),
      Or.inr (fun W hB hR => known_val rfl (by have := ((M.drew.step hB).row 1 rfl).n_op; go_simp)),
      Or.inr (fun W hB hR => known_call 26 #[.int .i64 (k : Int)] (Q3.out W) rfl (by go_simp)),
      Or.inr (fun W hB hR => known_val rfl (by exact exec_eqS (.tmp 37) (.tmp 40) _ _ true HE3.out rfl rfl rfl)), trivial⟩
  intro G W hB hM
  replace M := M.drew.step hB
  clear hB hM G
  refine callP 6 42 29 #[.bool true, .int .i64 3] _ (by kernel_rfl) rfl rfl rfl (by go_simp) (demand10_any _ _ _) ?_
  rintro e w3 ⟨rfl, rfl⟩
  refine Or.inl ⟨_, rfl, ?_⟩
  simp only [Act.put, List.setIfInBounds_toArray, List.set_cons_zero, List.set_cons_succ]
  refine wpAny_end (by kernel_rfl) ?_ _
  refine FreePanic.normal ?_
  go_upto_region 7 with fail
  refine wp_region_noPanic ?_
  refine wp_region_flow (fin := ?fin19) 4 1 (by kernel_rfl) [.inl (.pointer (some ⟨g, 49, none⟩)),
    .inl (.slice (some ⟨g, 49, none⟩) 6 6),
    .inl (.string m),
    .inl (.string (m.extract 26 m.size))] rfl rfl (by kernel_rfl) ?hfin19 ?hE19 ?hend19
  case hfin19 =>
    intro G
    simp only [flowAll, flowVal, Act.put, List.setIfInBounds_toArray, List.set_cons_zero, List.set_cons_succ]
    exact rfl
  case hE19 =>
    intro G
    refine ⟨Or.inr (fun W hB hR => known_val rfl (by go_simp)),
      Or.inr (fun W hB hR => known_val rfl (by go_simp)),
      Or.inr (fun W hB hR => known_val rfl (by go_simp)),
      Or.inr (fun W hB hR => known_val rfl (by go_simp <;> (intro h9; omega))), trivial⟩
  intro G W hB hM
  replace M := M.drew.step hB
  clear hB hM G
  have hcp := copy10_m (M.row 1 rfl) x3 (m.extract 26 m.size) (by rw [ByteArray.size_extract]; omega) (rest_cut m 26 6)
  replace M := M.store 1 rfl (N10.mk (k : Int) o16 o16 (cut9 m 8 16) (cut9 m 26 6) true (cut9 m 4 4)).c
  simp only [List.set_cons_zero, List.set_cons_succ] at M
  generalize W.setRow g (N10.mk (k : Int) o16 o16 (cut9 m 8 16) (cut9 m 26 6) true (cut9 m 4 4)).c = W2 at hcp M
  refine val0 4 47 (.int .i64 6) W2 _ (by kernel_rfl) rfl rfl rfl (by go_simp) ?_
  simp only [Act.put]
  refine wpAny_end (by kernel_rfl) ?_ _
  refine NoPanic.normal ?_
  clear hcp
  go_upto_region 8 with fail
  have r0 := M.row 0 rfl
  have r1 := M.row 1 rfl
  replace M := M.store 0 rfl (N10.mk (k : Int) o16 o16 (cut9 m 8 16) (cut9 m 26 6) true (cut9 m 4 4)).c
  simp only [List.set_cons_zero] at M
  have HM := Lib.hid M
  clear M
  go_wp2_with (first
    | (refine wpList_load_row rfl 32 (.tmp 3) rfl g rfl 32 (N10.mk (k : Int) o16 o16 (cut9 m 8 16) (cut9 m 26 6) true (cut9 m 4 4)).c (0, 0) _ r1 Try.underlying32 rfl (n10_info x4) ?_)
    | (refine wpList_store_row rfl 32 (.tmp 2) (.tmp 48) rfl w.heap.size (N10.mk (k : Int) o16 o16 (cut9 m 8 16) (cut9 m 26 6) true (cut9 m 4 4)).c rfl rfl 32 nz.c r0 (n10_info x4) (by rw [N10.size nz_fit, N10.size x4]) (N10.one _) ?_))
  exact bodyPost_ret (v := .agg (N10.mk (k : Int) o16 o16 (cut9 m 8 16) (cut9 m 26 6) true (cut9 m 4 4)).c) (results_cell_row rfl _ _ w.heap.size 32 (N10.mk (k : Int) o16 o16 (cut9 m 8 16) (cut9 m 26 6) true (cut9 m 4 4)).c (0, 0) _ rfl (HM.out.row 0 rfl) Try.underlying32 rfl (n10_info x4)) rfl ⟨HM.out.below, rfl⟩
/-- readMessage, whatever the message -/
theorem readMessage_any (m : ByteArray) (hs : m.size = 24 ∨ m.size = 32) (w : World) : Calls Try.prog 31 #[.string m] w fun e w' => Below w.heap.size w w' ∧ e = if msgOk m then .returned (.agg (msgOf m).c) else thrown 3 := by
  unfold msgOk msgOf
  cases hr : rightO (((bAt m 0).toNat : Int) - 134) with
  | false => exact readMessage_op m hs hr w
  | true =>
    cases h2 : cut9 m 0 2 == startL ((bAt m 0).toNat - 134) with
    | false => exact readMessage_start m hs hr h2 w
    | true =>
      rcases hs with h | h
      · rw [h]
        exact readMessage_bare m h hr h2 w
      · rw [h]
        cases h3 : cut9 m 24 2 == markL ((bAt m 0).toNat - 134) with
        | false => exact readMessage_mark m h hr h2 h3 w
        | true => exact readMessage_full m h hr h2 h3 w
end Go.Proofs.Ytkjkmnaiddjjnaa
