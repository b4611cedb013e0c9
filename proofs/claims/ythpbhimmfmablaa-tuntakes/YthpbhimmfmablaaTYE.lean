/- The document's Take, where a piece is taken: walked. -/
import Derived.Test.YthpbhimmfmablaaTYD
namespace Go.Proofs.Ythpbhimmfmablaa
open Go.RowKit
set_option maxRecDepth 20000 in
set_option maxHeartbeats 4000000 in
theorem rTake_go (S : List TS) (hS : Sound S) (a : Option Addr) (cap : Nat) (s : ByteArray) (h1 : bAt s 0 = 1) (h7 : 7 < s.size) (hq : (bAt s 6).toNat ≤ 3 ∧ (bAt s 5).toNat < (bAt s 6).toNat ∧ (s.size - 7 = 512 ∨ (bAt s 5).toNat + 1 = (bAt s 6).toNat ∧ s.size - 7 < 512))
    (w : World) (hD : DL w (.slice a S.length cap) S) : Calls Try.prog 16 #[.slice a S.length cap, .string s] w fun e w' => TookK e w' w (.slice a S.length cap) (joinS S (numP (s.data.toList.drop 1) 4) (bAt s 6).toNat (bAt s 5).toNat (s.extract 7 s.size)) := by
  have hcn : ∀ W : World, (∀ g, g < w.heap.size → W.heap[g]? = w.heap[g]?) → ∀ j, j < S.length → ∃ g, a = some ⟨g, 0, none⟩ ∧ W.cell? ⟨g, j * 8, none⟩ = some (V32 (S.getD j dT).n) := fun W hW j hj => by
    rcases hD with ⟨h1, h2⟩ | ⟨g, cap', h1, h2, h3, h4, h5⟩
    · rw [h2] at hj; simp at hj
    · injection h1 with h1
      exact ⟨g, h1, (World.cell?_of_block (hW g h4)).trans (h5 (j * 8 + 0) _ (by rw [dcs_get S j 0 hj (by omega)]; rfl))⟩
  have hk0 : ∀ N, kap S N 0 = -1 := fun N => rfl
  have hk1 : ∀ N j, kap S N (j + 1) = if (S.getD j dT).n = N then (j : Int) else kap S N j := fun N j => rfl
  have HD := Lib.hid (And.intro hD hS)
  have hpl := fun n c p b => plan_spec hS n c p b
  have HC := Lib.hid hcn
  clear hD hS hcn
  have t0 : ((s.size : Int) == 0) = false := by rw [beq_eq_false_iff_ne]; omega
  have t8 : ¬ (s.size : Int) < 8 := by omega
  have t7 : (7 : Int) ≤ (s.size : Int) := by omega
  have t5 : (5 : Int) ≤ (s.size : Int) := by omega
  have hI := fun (o : Oper) (ev : Operand → Value) (W : World) (p r : Operand) => exec_index (o := o) (ev := ev) (w := W) p r s 0 (by omega)
  have hI5 := fun (o : Oper) (ev : Operand → Value) (W : World) (p r : Operand) => exec_index (o := o) (ev := ev) (w := W) p r s 5 (by omega)
  have hI6 := fun (o : Oper) (ev : Operand → Value) (W : World) (p r : Operand) => exec_index (o := o) (ev := ev) (w := W) p r s 6 (by omega)
  rw [h1] at hI
  have hnm := fun W => num_mid s W h7
  have lnm := numP_lt (s.data.toList.drop 1) 4
  have l5 := UInt8.toNat_lt (bAt s 5)
  have l6 := UInt8.toNat_lt (bAt s 6)
  have hz7 : (s.extract 7 s.size).size = s.size - 7 := by rw [ByteArray.size_extract]; omega
  rw [← hz7] at hq
  generalize numP (s.data.toList.drop 1) 4 = N at *
  generalize (bAt s 5).toNat = p at *
  generalize (bAt s 6).toNat = c at *
  obtain ⟨X, hX⟩ : ∃ X, s.extract 7 s.size = X := ⟨_, rfl⟩
  rw [hX] at hq
  have hN : N < 4294967296 := lnm
  have hwN : IntKind.u32.wrap (N : Int) = (N : Int) := IntWalk.u32_in _ (by omega)
  have hw5 : IntKind.i64.wrap (p : Int) = (p : Int) := IntWalk.i64_in _ (by omega)
  have hw6 : IntKind.i64.wrap (c : Int) = (c : Int) := IntWalk.i64_in _ (by omega)
  have f1 : ¬ (c : Int) < 1 := by omega
  have f2 : ¬ (3 : Int) < (c : Int) := by omega
  have f3 : ¬ (c : Int) ≤ (p : Int) := by omega
  rw [hX]
  obtain ⟨q1, q2, q3, q4, q5⟩ := hpl N c p X
  clear hpl
  generalize joinS S N c p X = RR at *
  have hX512 : X.size ≤ 512 := by omega
  have hX1 : 1 ≤ X.size := by rw [← hX, ByteArray.size_extract]; omega
  have f4 : ¬ (512 : Int) < (X.size : Int) := by omega
  have hwc : IntKind.i64.wrap ((c : Int) - 1) = (c : Int) - 1 := IntWalk.i64_in _ (by omega)
  have HI := Lib.hid hI
  have HI5 := Lib.hid hI5
  have HI6 := Lib.hid hI6
  have HN := Lib.hid hnm
  clear hI hI5 hI6 hnm h1 h7 hz7 lnm
  go_enter Try.func16, Try.ntmps16
  go_upto_region 11 with (first
    | (refine wpExec rfl (.int .u8 1) (HI.out _ _ _ (.tmp 21) (.const (.int .i64 0)) rfl rfl rfl) ?_)
    | (refine wpExec rfl (.int .u8 1) (HI.out _ _ _ (.tmp 29) (.const (.int .i64 0)) rfl rfl rfl) ?_)
    | fail)
  go_wp2_with fail
  refine (HN.out _).mono ?_
  rintro e w1 ⟨rfl, rfl⟩
  go_upto_region 12 with fail
  refine wp_region_noPanic ?_
  refine wp_region_held_drew (S := fun w' => w' = w1.drew) (by kernel_rfl) rfl (fun hS => ?_)
  refine take1 hS 0 41 (.string s) _ rfl (by kernel_rfl) (by kernel_rfl) (by kernel_rfl) (fun _ _ _ h => h) rfl rfl (fun w' h => by go_simp) ?_
  simp only [Act.put, List.setIfInBounds_toArray, List.set_cons_zero, List.set_cons_succ]
  refine take1 hS 1 42 (.int .u8 (p : Int)) _ rfl (by kernel_rfl) (by kernel_rfl) (by kernel_rfl) (fun _ _ _ h => h) rfl rfl (fun w' h => by exact HI5.out _ _ _ _ _ rfl rfl rfl) ?_
  simp only [Act.put, List.setIfInBounds_toArray, List.set_cons_zero, List.set_cons_succ]
  refine take1 hS 2 43 (.int .i64 (p : Int)) _ rfl (by kernel_rfl) (by kernel_rfl) (by kernel_rfl) (fun _ _ _ h => h) rfl rfl (fun w' h => by go_simp) ?_
  simp only [Act.put, List.setIfInBounds_toArray, List.set_cons_zero, List.set_cons_succ]
  refine take1 hS 3 44 (.string s) _ rfl (by kernel_rfl) (by kernel_rfl) (by kernel_rfl) (fun _ _ _ h => h) rfl rfl (fun w' h => by go_simp) ?_
  simp only [Act.put, List.setIfInBounds_toArray, List.set_cons_zero, List.set_cons_succ]
  refine take1 hS 4 45 (.int .u8 (c : Int)) _ rfl (by kernel_rfl) (by kernel_rfl) (by kernel_rfl) (fun _ _ _ h => h) rfl rfl (fun w' h => by exact HI6.out _ _ _ _ _ rfl rfl rfl) ?_
  simp only [Act.put, List.setIfInBounds_toArray, List.set_cons_zero, List.set_cons_succ]
  refine take1 hS 5 46 (.int .i64 (c : Int)) _ rfl (by kernel_rfl) (by kernel_rfl) (by kernel_rfl) (fun _ _ _ h => h) rfl rfl (fun w' h => by go_simp) ?_
  simp only [Act.put, List.setIfInBounds_toArray, List.set_cons_zero, List.set_cons_succ]
  refine take1 hS 6 47 (.string s) _ rfl (by kernel_rfl) (by kernel_rfl) (by kernel_rfl) (fun _ _ _ h => h) rfl rfl (fun w' h => by go_simp) ?_
  simp only [Act.put, List.setIfInBounds_toArray, List.set_cons_zero, List.set_cons_succ]
  refine take1 hS 7 48 (.string X) _ rfl (by kernel_rfl) (by kernel_rfl) (by kernel_rfl) (fun _ _ _ h => h) rfl rfl (fun w' h => by rw [← hX]; go_simp) ?_
  simp only [Act.put, List.setIfInBounds_toArray, List.set_cons_zero, List.set_cons_succ]
  refine take1 hS 8 9 (.int .i64 (p : Int)) _ rfl (by kernel_rfl) (by kernel_rfl) (by kernel_rfl) (fun _ _ _ h => h) rfl rfl (fun w' h => by go_simp) ?_
  simp only [Act.put, List.setIfInBounds_toArray, List.set_cons_zero, List.set_cons_succ]
  refine take1 hS 9 10 (.int .i64 (c : Int)) _ rfl (by kernel_rfl) (by kernel_rfl) (by kernel_rfl) (fun _ _ _ h => h) rfl rfl (fun w' h => by go_simp) ?_
  simp only [Act.put, List.setIfInBounds_toArray, List.set_cons_zero, List.set_cons_succ]
  refine take1 hS 10 11 (.string X) _ rfl (by kernel_rfl) (by kernel_rfl) (by kernel_rfl) (fun _ _ _ h => h) rfl rfl (fun w' h => by go_simp) ?_
  simp only [Act.put, List.setIfInBounds_toArray, List.set_cons_zero, List.set_cons_succ]
  refine wpAnyH_done (by kernel_rfl) ?_ _
  refine NoPanic.normal ?_
  have hp3 : p < 3 := by omega
  obtain ⟨O, hO⟩ : ∃ O, planO S N c = O := ⟨_, rfl⟩
  obtain ⟨k, hk⟩ : ∃ k, planK S N = k := ⟨_, rfl⟩
  rw [hO, hk] at q1 q3 q4 q5
  rw [hO] at q2
  have HPL := Lib.hid (And.intro hO hk)
  clear hO hk
  obtain ⟨L, hL⟩ : ∃ L, O.length = L := ⟨_, rfl⟩
  have hkL : k < L := by omega
  have hL8 : L ≤ 8 := by omega
  have h12 : (k : Int) < (L : Int) := by omega
  have HQ := Lib.hid (And.intro (And.intro q1 q2) (And.intro hL (And.intro (And.intro q3 q4) q5)))
  clear q1 q2 q3 q4 q5 hL
  have HCW := Lib.hid (HC.out w1.drew (fun g _ => rfl))
  clear HC
  go_upto_region 13 with fail
  refine Code.wp_mono (Q := fun e a' w' => e = .normal ∧ w' = w1.drew ∧ ∃ x69 x70 x71 x72 x73 x74 : Value, a' = { tmps := #[.slice a S.length cap, .string s, undef, undef, .slice none 0 0, .string ⟨#[]⟩, .bool false, .int .i64 0, .int .u32 (N : Int), .int .i64 (p : Int), .int .i64 (c : Int), .string X, undef, undef, undef, undef, undef, .string s, .int .i64 (s.size : Int), .bool false, undef, .string s, .int .u8 1, .bool false, undef, undef, undef, undef, undef, .string s, .int .u8 1, .bool false, undef, .string s, .int .i64 (s.size : Int), .bool false, undef, .string s, .string (s.extract 1 5), .int .i64 (N : Int), .int .u32 (N : Int), .string s, .int .u8 (p : Int), .int .i64 (p : Int), .string s, .int .u8 (c : Int), .int .i64 (c : Int), .string s, .string X, .int .i64 (c : Int), .bool false, .bool false, .int .i64 (c : Int), .bool false, .bool false, .bool false, .int .i64 (p : Int), .int .i64 (c : Int), .bool false, .bool false, .bool false, .string X, .int .i64 (X.size : Int), .bool false, .bool false, .bool false, .int .i64 (p : Int), .int .i64 (c : Int), .int .i64 ((c : Int) - 1), x69, x70, x71, x72, x73, x74, .bool false, undef, undef, undef, undef, undef, undef, undef, undef, undef, undef, undef, undef, undef, undef, undef, undef, undef, undef, undef, undef, undef, undef, undef, undef, undef, undef, undef, undef, undef, undef, undef, undef, undef, undef, undef, undef, undef, undef, undef, undef, undef, undef, undef, undef, undef, undef, undef, undef, undef, undef, undef, undef, undef, undef, undef, undef, undef, undef, undef, undef, undef, undef, undef, undef, undef, undef, undef, undef, undef, undef, undef, undef, undef, undef, undef, undef, undef, undef, undef, undef, undef, undef, undef, undef, undef, undef, undef, undef, undef, undef, undef, undef, undef, undef, undef, undef, undef, undef, undef, undef], defers := [] }) ?_ ?_
  case refine_2 =>
    by_cases h5 : p + 1 = c
    · have f5 : ¬ (p : Int) < (c : Int) - 1 := by omega
      go_wp2
    · have f5 : (p : Int) < (c : Int) - 1 := by omega
      have f6 : ¬ (X.size : Int) < 512 := by omega
      go_wp2
  rintro e a' w' ⟨rfl, rfl, x69, x70, x71, x72, x73, x74, rfl⟩
  obtain ⟨K, hK⟩ : ∃ K, kap S N = K := ⟨_, rfl⟩
  have hkn : ∀ i, idxS S N = some i → K S.length = (i : Int) := fun i h => by rw [← hK, kap_some HD.out.2 h _ (Nat.le_refl _), if_pos (idxS_some S N i h).1]
  have hkz : idxS S N = none → K S.length = -1 := fun h => by rw [← hK, kap_none h _ (Nat.le_refl _)]
  have hk0 : K 0 = -1 := by rw [← hK]; rfl
  have hk1 : ∀ j, K (j + 1) = if (S.getD j dT).n = N then (j : Int) else K j := fun j => by rw [← hK]; rfl
  obtain ⟨NN, hNN⟩ : ∃ f : Nat → Nat, ∀ j, (S.getD j dT).n = f j := ⟨fun j => (S.getD j dT).n, fun _ => rfl⟩
  simp only [hNN] at hk1 HCW
  clear hK hNN
  obtain ⟨Z, hZ⟩ : ∃ Z, S.length = Z := ⟨_, rfl⟩
  simp only [hZ] at HCW hkn hkz
  rw [hZ]
  have HZ := Lib.hid hZ
  have HK0 := Lib.hid hk0
  have HK1 := Lib.hid hk1
  have HKN := Lib.hid (And.intro hkn hkz)
  have hZ8 : Z ≤ 8 := by rw [← hZ]; exact HD.out.2.len
  clear hZ hk0 hk1 hkn hkz
  go_wp2
  go_loop [13, 14] (fun kv iv => ∃ j : Nat, j ≤ Z ∧ iv = .int .i64 (j : Int) ∧ kv = .int .i64 (K j)) (fun _ iv => Z - (intOf iv).toNat)
  case atStart => exact ⟨0, by omega, rfl, by rw [HK0.out]⟩
  case round =>
    obtain ⟨j, hj, rfl, rfl⟩ := hrel
    by_cases hlt : j < Z
    · have t1 : decide ((j : Int) < (Z : Int)) = true := by simp; omega
      have t2 : (j : Int) < (Z : Int) := by omega
      obtain ⟨g, rfl, hce⟩ := HCW.out j hlt
      have hk := HK1.out j
      generalize NN j = y at hce hk
      by_cases hyn : y = N
      · have t3 : ((y : Int) == (N : Int)) = true := by rw [beq_iff_eq]; omega
        rw [if_pos hyn] at hk
        have HKJ := Lib.hid hk
        clear hk hyn
        go_wp2
        refine ⟨⟨j + 1, by omega, by go_num, by rw [HKJ.out]⟩, by simp [intOf]; omega⟩
      · have t3 : ((y : Int) == (N : Int)) = false := by rw [beq_eq_false_iff_ne]; omega
        rw [if_neg hyn] at hk
        have HKJ := Lib.hid hk
        clear hk hyn
        go_wp2
        refine ⟨⟨j + 1, by omega, by go_num, by rw [HKJ.out]⟩, by simp [intOf]; omega⟩
    · have hjz : j = Z := by omega
      subst hjz
      have t1 : decide ((j : Int) < (j : Int)) = false := by simp
      have t2 : ¬ (j : Int) < (j : Int) := by omega
      go_upto_region 22 with fail
      rename_i Ka hKa K' hK'
      have TAIL : ∀ a' w', (∃ (g2 cap2 : Nat) (x0 x14 x69 x70 x71 x72 x73 x74 x75 x76 x77 x78 x79 x80 x81 x82 x83 x84 x85 x86 x87 x88 x89 x90 x91 x92 x93 x94 x95 x96 x97 x98 x99 x100 x101 x102 x103 x104 x105 x106 x107 x108 x109 x110 x111 x112 : Value), a' = { tmps := #[x0, .string s, undef, undef, .slice none 0 0, .string ⟨#[]⟩, .bool false, .int .i64 0, .int .u32 (N : Int), .int .i64 (p : Int), .int .i64 (c : Int), .string X, .slice (some ⟨g2, 0, none⟩) L cap2, .int .i64 (k : Int), x14, undef, undef, .string s, .int .i64 (s.size : Int), .bool false, undef, .string s, .int .u8 1, .bool false, undef, undef, undef, undef, undef, .string s, .int .u8 1, .bool false, undef, .string s, .int .i64 (s.size : Int), .bool false, undef, .string s, .string (s.extract 1 5), .int .i64 (N : Int), .int .u32 (N : Int), .string s, .int .u8 (p : Int), .int .i64 (p : Int), .string s, .int .u8 (c : Int), .int .i64 (c : Int), .string s, .string X, .int .i64 (c : Int), .bool false, .bool false, .int .i64 (c : Int), .bool false, .bool false, .bool false, .int .i64 (p : Int), .int .i64 (c : Int), .bool false, .bool false, .bool false, .string X, .int .i64 (X.size : Int), .bool false, .bool false, .bool false, .int .i64 (p : Int), .int .i64 (c : Int), .int .i64 ((c : Int) - 1), x69, x70, x71, x72, x73, x74, x75, x76, x77, x78, x79, x80, x81, x82, x83, x84, x85, x86, x87, x88, x89, x90, x91, x92, x93, x94, x95, x96, x97, x98, x99, x100, x101, x102, x103, x104, x105, x106, x107, x108, x109, x110, x111, x112, undef, undef, undef, undef, undef, undef, undef, undef, undef, undef, undef, undef, undef, undef, undef, undef, undef, undef, undef, undef, undef, undef, undef, undef, undef, undef, undef, undef, undef, undef, undef, undef, undef, undef, undef, undef, undef, undef, undef, undef, undef, undef, undef, undef, undef, undef, undef, undef, undef, undef, undef, undef, undef, undef, undef, undef, undef, undef, undef, undef, undef, undef, undef], defers := [] } ∧ JunK w1.heap.size w1 w' O g2 cap2) → Ka a' w' := by
        clear hK' HCW HK0 HK1 HKN HD HN HI HI5 HI6 hlt hZ8 hj
        rintro a' w' ⟨g2, cap2, x0, x14, x69, x70, x71, x72, x73, x74, x75, x76, x77, x78, x79, x80, x81, x82, x83, x84, x85, x86, x87, x88, x89, x90, x91, x92, x93, x94, x95, x96, x97, x98, x99, x100, x101, x102, x103, x104, x105, x106, x107, x108, x109, x110, x111, x112, rfl, HJ⟩
        refine hKa _ _ ?_
        clear hKa
        obtain ⟨⟨q1, q2⟩, hL, ⟨q3, q4⟩, q5⟩ := HQ.out
        clear HQ
        have hown := HJ.own
        have hB := HJ.below
        rw [hL] at hown
        obtain ⟨g', cap', he, hgb, hgl, _, _, hcl, hfr⟩ := HJ.own.parts (by omega)
        injection he with he1 he2 he3
        injection he1 with he1
        injection he1 with he1
        subst he1
        subst he3
        clear he2
        have hc8 : ∀ i, i < 8 → w'.cell? ⟨g2, k * 8 + i, none⟩ = (dc (O.getD k dT))[i]? := fun i hi => by
          have := dcs_get O k i q1 hi
          obtain ⟨u, hu⟩ : ∃ u, (dc (O.getD k dT))[i]? = some u := ⟨_, List.getElem?_eq_getElem (by rw [dc_length]; exact hi)⟩
          rw [hu] at this ⊢
          exact hcl _ _ this
        have hput := fun (hp : p < (O.getD k dT).ps.length) => OwK.put (W := w') (g := g2) (cap := cap2) (by rw [hL]; exact hown) X q1 hp hp3
        obtain ⟨T, hT⟩ : ∃ T, O.getD k dT = T := ⟨_, rfl⟩
        rw [hT] at q3 q4 q5 hc8 hput
        obtain ⟨tn, tc, ps⟩ := T
        simp only at q3 q4 q5 hput
        have hc1 : w'.cell? ⟨g2, k * 8 + 1, none⟩ = some (.int .i64 (tc : Int)) := hc8 1 (by omega)
        have hcp : w'.cell? ⟨g2, k * 8 + 2 + p, none⟩ = some (.bool ((ps.getD p none).isSome)) := by
          rw [Nat.add_assoc, hc8 (2 + p) (by omega)]
          rcases (show p = 0 ∨ p = 1 ∨ p = 2 by omega) with rfl | rfl | rfl <;> rfl
        by_cases htc : tc = c
        · subst htc
          have t3 : ((tc : Int) == (tc : Int)) = true := by rw [beq_iff_eq]
          rw [if_neg (by simp)] at q5
          by_cases hs : (ps.getD p none).isSome = true
          · rw [if_pos hs] at q5
            rw [hs] at hcp
            have HF := Lib.hid (show TookK (told4 (.slice (some ⟨g2, 0, none⟩) L cap2) [] false 10) w' w1 (.slice a S.length cap) RR from by
              rw [q5]
              exact ⟨_, rfl, hL ▸ DL.of_own HJ.own, fun g hg => Or.inr (by injection hg with hg; subst hg; exact hgb), hB⟩)
            clear hc8 hput hcl hfr q5 HJ hs
            go_wp2
            (try simp only [Exit.inBlock, Exit.then])
            refine bodyPost_ret (results_tmp4 rfl _ _ _) rfl ?_
            exact HF.out
          · rw [if_neg hs] at q5
            have hs' : (ps.getD p none).isSome = false := by simpa using hs
            rw [hs'] at hcp
            have hown2 := hput (by omega)
            have hB2 : Below w1.heap.size w1 ((w'.setCell ⟨g2, k * 8 + 2 + p, none⟩ (.bool true)).setCell ⟨g2, k * 8 + 5 + p, none⟩ (.string X)) := (hB.setCell (p := ⟨g2, k * 8 + 2 + p, none⟩) hgb _).setCell (p := ⟨g2, k * 8 + 5 + p, none⟩) hgb _
            have hf1 := hfr (k * 8 + 2 + p)
            have hc5 : w'.cell? ⟨g2, k * 8 + 5 + p, none⟩ = some (.string (((ps.getD p none)).getD ⟨#[]⟩)) := by
              rw [Nat.add_assoc, hc8 (5 + p) (by omega)]
              rcases (show p = 0 ∨ p = 1 ∨ p = 2 by omega) with rfl | rfl | rfl <;> rfl
            have hf2 : (w'.setCell ⟨g2, k * 8 + 2 + p, none⟩ (.bool true)).frozen? ⟨g2, k * 8 + 5 + p, none⟩ = false := by
              rw [World.frozen?_setCell]; exact hfr _
            have HO2 := Lib.hid (And.intro hown2 hB2)
            have HQ5 := Lib.hid q5
            clear hc8 hput hcl hfr q5 HJ hs hs' hown2 hB2
            go_upto_region 37 with fail
            generalize (w'.setCell ⟨g2, k * 8 + 2 + p, none⟩ (.bool true)).setCell ⟨g2, k * 8 + 5 + p, none⟩ (.string X) = W2 at HO2 ⊢
            clear hc1 hcp hf1 hc5 hf2 hB
            obtain ⟨g', cap', he, hgb, hgl, _, _, hcl, hfr⟩ := HO2.out.1.parts (by rw [List.length_set]; omega)
            injection he with he1 he2 he3
            injection he1 with he1
            injection he1 with he1
            subst he1
            subst he3
            clear he2 hfr
            have hlp : (ps.set p (some X)).length = tc := by rw [List.length_set]; exact q3
            have hbd : Bodies (ps.set p (some X)) := q4.set p X (by omega) (by omega)
            obtain ⟨qs, hqs⟩ : ∃ qs, ps.set p (some X) = qs := ⟨_, rfl⟩
            rw [hqs] at hlp hbd
            have hdk : ∀ i, i < 8 → W2.cell? ⟨g2, k * 8 + i, none⟩ = (dc ⟨tn, tc, qs⟩)[i]? := fun i hi => by
              have := dcs_get (O.set k ⟨tn, tc, qs⟩) k i (by rw [List.length_set]; exact q1) hi
              rw [show (O.set k ⟨tn, tc, qs⟩).getD k dT = ⟨tn, tc, qs⟩ from by rw [List.getD_eq_getElem?_getD, List.getElem?_set_self q1]; rfl] at this
              obtain ⟨u, hu⟩ : ∃ u, (dc ⟨tn, tc, qs⟩)[i]? = some u := ⟨_, List.getElem?_eq_getElem (by rw [dc_length]; exact hi)⟩
              rw [hu] at this ⊢
              rw [hqs] at hcl
              exact hcl _ _ this
            have hA : ∀ i, i < 3 → W2.cell? ⟨g2, k * 8 + 2 + i, none⟩ = some (.bool ((qs.getD i none).isSome)) := fun i hi => by
              rw [Nat.add_assoc, hdk (2 + i) (by omega)]
              rcases (show i = 0 ∨ i = 1 ∨ i = 2 by omega) with rfl | rfl | rfl <;> rfl
            have hP : ∀ i, i < 3 → W2.cell? ⟨g2, k * 8 + 5 + i, none⟩ = some (.string (((qs.getD i none)).getD ⟨#[]⟩)) := fun i hi => by
              rw [Nat.add_assoc, hdk (5 + i) (by omega)]
              rcases (show i = 0 ∨ i = 1 ∨ i = 2 by omega) with rfl | rfl | rfl <;> rfl
            -- the answers
            have hq5 := HQ5.out
            have hls : (O.set k ⟨tn, tc, qs⟩).length = L := by rw [List.length_set]; exact hL
            have hmore : cntS qs < tc → TookK (told4 (.slice (some ⟨g2, 0, none⟩) L cap2) [] false 0) W2 w1 (.slice a S.length cap) RR := fun h => by
              unfold putS at hq5
              rw [hT] at hq5
              simp only [hqs] at hq5
              rw [if_pos h] at hq5
              rw [hq5]
              have ho := HO2.out.1
              rw [hqs] at ho
              exact ⟨_, rfl, by have := DL.of_own ho; rwa [hL] at this, fun g hg => Or.inr (by injection hg with hg; subst hg; exact hgb), HO2.out.2⟩
            have hwhole : ¬ cntS qs < tc → RR = (O.eraseIdx k, textS qs, true, 0) := fun h => by
              unfold putS at hq5
              rw [hT] at hq5
              simp only [hqs] at hq5
              rw [if_neg h] at hq5
              exact hq5
            have hz0 := accS_zero qs
            have hzs := accS_succ qs
            have hza := accS_all qs
            have hzz := fun j => accS_size qs hbd j (by omega)
            have hcn := fun (i : Nat) (hi : i < tc) (h : (qs.getD i none) = none) => cnt_none (by rw [hlp]; exact hi) h
            have hcf := cnt_full qs
            rw [hlp] at hzs hza hcn hcf
            obtain ⟨AC, hAC⟩ : ∃ AC, accS qs = AC := ⟨_, rfl⟩
            rw [hAC] at hz0 hzs hza hzz
            have HM := Lib.hid (And.intro hmore hwhole)
            have HA := Lib.hid hA
            have HP := Lib.hid hP
            have HZ0 := Lib.hid hz0
            have HZS := Lib.hid (fun j h => (And.intro (hzs j h) (And.intro (hzz j) (hbd))))
            have HZA := Lib.hid hza
            have HCN := Lib.hid (And.intro hcn hcf)
            have HQS := Lib.hid (And.intro hqs (And.intro hls hgb))
            clear hmore hwhole hA hP hz0 hzs hza hzz hcn hcf hqs hls hgb hdk hcl hlp hq5 hAC HQ5 hbd q3 q4
            go_loop [15, 16] (fun wh iv => ∃ i : Nat, i ≤ tc ∧ iv = .int .i64 (i : Int) ∧ wh = .string ⟨(AC i).toArray⟩ ∧ ∀ q, q < i → (qs.getD q none).isSome = true) (fun _ iv => tc - (intOf iv).toNat)
            case atStart => exact ⟨0, by omega, rfl, by rw [HZ0.out], fun q hq => by omega⟩
            case round =>
              obtain ⟨i, hi, rfl, rfl, hall⟩ := hrel
              have HALL := Lib.hid hall
              clear hall
              by_cases hlt : i < tc
              · have t5 : decide ((i : Int) < (tc : Int)) = true := by simp; omega
                have t6 : (i : Int) < (tc : Int) := by omega
                have t7 : (i : Int) < 3 := by omega
                have ch := HA.out i (by omega)
                cases hx : qs.getD i none with
                | none =>
                  rw [hx] at ch
                  have HF := Lib.hid (HM.out.1 (HCN.out.1 i hlt hx))
                  clear hx
                  go_wp2
                  (try simp only [Exit.inBlock, Exit.then])
                  refine bodyPost_ret (results_tmp4 rfl _ _ _) rfl ?_
                  exact HF.out
                | some x =>
                  rw [hx] at ch
                  have cp := HP.out i (by omega)
                  rw [hx] at cp
                  have hz := HZS.out i hlt
                  rw [hx] at hz
                  have hzl := hz.2.1
                  have hxl : x.size ≤ 512 := (hz.2.2 x (by
                    rw [← hx, List.getD_eq_getElem?_getD]
                    cases hy : qs[i]? with
                    | none => rw [List.getD_eq_getElem?_getD, hy] at hx; cases hx
                    | some y => exact List.mem_of_getElem? hy)).2
                  have HZ1 := Lib.hid hz.1
                  have HX := Lib.hid hx
                  clear hx hz
                  go_wp2_with (first
                    | (refine wpExec rfl (.string ⟨(AC (i + 1)).toArray⟩) (exec_cat (.tmp 156) (.tmp 163) _ _ _ (by rw [HZ1.out]; exact cat_str _ x.data.toList) (by rw [str_size]; omega) rfl rfl rfl) ?_)
                    | fail)
                  refine ⟨⟨i + 1, by omega, by go_num, rfl, fun q hq => ?_⟩, by simp [intOf]; omega⟩
                  by_cases hqi : q = i
                  · subst hqi; rw [HX.out]; rfl
                  · exact HALL.out q (by omega)
              · have hjz : tc = i := by omega
                subst hjz
                have t5 : decide ((tc : Int) < (tc : Int)) = false := by simp
                have t6 : ¬ (tc : Int) < (tc : Int) := by omega
                have hRR := HM.out.2 (by rw [HCN.out.2 HALL.out]; omega)
                have hac := HZA.out
                obtain ⟨hown3, hB3⟩ := HO2.out
                have hlo := HQS.out.2.1
                have hgb3 := HQS.out.2.2
                rw [HQS.out.1, hL] at hown3
                have hera : (O.set k ⟨tn, tc, qs⟩).take k ++ (O.set k ⟨tn, tc, qs⟩).drop (k + 1) = O.eraseIdx k := by
                  rw [List.eraseIdx_eq_take_drop_succ, List.take_set_of_le (Nat.le_refl _), List.drop_set_of_lt (by omega)]
                generalize O.set k ⟨tn, tc, qs⟩ = O' at hown3 hlo hera
                rw [← hlo] at hown3
                obtain ⟨g', cap', he, hgb, hgl, hlc, hcm, hcl, hfr⟩ := hown3.parts (by rw [hlo]; omega)
                injection he with he1 he2 he3
                injection he1 with he1
                injection he1 with he1
                subst he1
                subst he3
                clear he2 hfr hown3 hgb
                have hBd : Below w1.heap.size w1 W2.drew := hB3.drew
                have hcd : ∀ j u, (dcs O')[j]? = some u → W2.drew.cell? ⟨g2, j, none⟩ = some u := hcl
                have hgd : g2 < W2.drew.heap.size := hgl
                have hlc' : L ≤ cap2 := by rw [← hlo]; exact hlc
                have hkz : ((k : Int) + 1) = ((k + 1 : Nat) : Int) := by omega
                have hkw : IntKind.i64.wrap ((k : Int) + 1) = (k : Int) + 1 := IntWalk.i64_in _ (by omega)
                obtain ⟨off, hoff⟩ : ∃ off, (if cap2 = k + 1 then 0 else (k + 1) * 8) = off := ⟨_, rfl⟩
                have ho2 : k + 1 < O'.length → off = (k + 1) * 8 := fun h => by rw [← hoff]; exact if_neg (by omega)
                have htk : (O'.take k).length = k := by rw [List.length_take]; omega
                have hdk : (O'.drop (k + 1)).length = L - (k + 1) := by rw [List.length_drop]; omega
                have HBD := Lib.hid (And.intro hBd hgd)
                have HCD := Lib.hid hcd
                have HLO := Lib.hid (And.intro (And.intro hlo hlc') (And.intro hkz hoff))
                have HTK := Lib.hid (And.intro htk hdk)
                have HO3 := Lib.hid (And.intro (And.intro hera ho2) (And.intro hRR hac))
                have HKW := Lib.hid hkw
                clear hBd hcd hgd hlo hlc' hkz hoff htk hdk hera ho2 hRR hac hkw hB3 hgl hlc hcm hcl hi
                go_upto_region 42 with fail
                refine wp_region_noPanic ?_
                refine wp_region_held_drew (S := fun _ => True) (by kernel_rfl) trivial (fun hS => ?_)
                generalize W2.drew = Wd at HBD HCD ⊢
                refine take1 trivial 1 166 (.slice (some ⟨g2, 0, none⟩) L cap2) _ rfl (by kernel_rfl) (by kernel_rfl) (by kernel_rfl) (fun _ _ _ h => h) rfl rfl (fun w' h => by go_simp) ?_
                simp only [Act.put, List.setIfInBounds_toArray, List.set_cons_zero, List.set_cons_succ]
                refine take1 trivial 2 167 (.int .i64 (k : Int)) _ rfl (by kernel_rfl) (by kernel_rfl) (by kernel_rfl) (fun _ _ _ h => h) rfl rfl (fun w' h => by go_simp) ?_
                simp only [Act.put, List.setIfInBounds_toArray, List.set_cons_zero, List.set_cons_succ]
                refine take1 trivial 3 168 (.slice (some ⟨g2, 0, none⟩) k cap2) _ rfl (by kernel_rfl) (by kernel_rfl) (by kernel_rfl) (fun _ _ _ h => h) rfl rfl (fun w' h => exec_cutHi (.tmp 166) (.tmp 167) rfl g2 L cap2 k rfl rfl (by omega) HLO.out.1.2) ?_
                simp only [Act.put, List.setIfInBounds_toArray, List.set_cons_zero, List.set_cons_succ]
                refine take1 trivial 5 170 (.slice (some ⟨g2, 0, none⟩) L cap2) _ rfl (by kernel_rfl) (by kernel_rfl) (by kernel_rfl) (fun _ _ _ h => h) rfl rfl (fun w' h => by go_simp) ?_
                simp only [Act.put, List.setIfInBounds_toArray, List.set_cons_zero, List.set_cons_succ]
                refine take1 trivial 6 171 (.int .i64 (k : Int)) _ rfl (by kernel_rfl) (by kernel_rfl) (by kernel_rfl) (fun _ _ _ h => h) rfl rfl (fun w' h => by go_simp) ?_
                simp only [Act.put, List.setIfInBounds_toArray, List.set_cons_zero, List.set_cons_succ]
                refine take1 trivial 7 172 (.int .i64 ((k : Int) + 1)) _ rfl (by kernel_rfl) (by kernel_rfl) (by kernel_rfl) (fun _ _ _ h => h) rfl rfl (fun w' h => by have hkw := HKW.out; go_simp) ?_
                simp only [Act.put, List.setIfInBounds_toArray, List.set_cons_zero, List.set_cons_succ]
                refine take1 trivial 8 173 (.slice (some ⟨g2, off, none⟩) (L - (k + 1)) (cap2 - (k + 1))) _ rfl (by kernel_rfl) (by kernel_rfl) (by kernel_rfl) (fun _ _ _ h => h) rfl rfl (fun w' h => by rw [← HLO.out.2.2]; exact exec_cutLo (.tmp 170) (.tmp 172) rfl g2 L cap2 (k + 1) _ HLO.out.2.1 rfl rfl (by omega)) ?_
                simp only [Act.put, List.setIfInBounds_toArray, List.set_cons_zero, List.set_cons_succ]
                refine take1 trivial 10 175 (.string ⟨(AC tc).toArray⟩) _ rfl (by kernel_rfl) (by kernel_rfl) (by kernel_rfl) (fun _ _ _ h => h) rfl rfl (fun w' h => by go_simp) ?_
                simp only [Act.put, List.setIfInBounds_toArray, List.set_cons_zero, List.set_cons_succ]
                refine onlyVal 0 165 (.slice (some ⟨Wd.heap.size, 0, none⟩) 0 0) (Wd.alloc (.cells #[] 74)) _ (by kernel_rfl) rfl rfl rfl (exec_build0 rfl) trivial ?_
                simp only [Act.put, List.setIfInBounds_toArray, List.set_cons_zero, List.set_cons_succ]
                have hga := World.grownBy_alloc Wd (.cells #[] 74) none
                refine onlyAppK 4 169 _ (by kernel_rfl) rfl rfl rfl (.tmp 165) (.tmp 168) rfl rfl (own_empty (w := Wd) (Nat.le_refl _) #[] rfl) (O'.take k) g2 0 cap2 (by rw [HTK.out.1]; rfl) (take_cells k (fun j u hu => hga.cell (HCD.out j u hu) (by simp))) (by rw [HTK.out.1]; simp; omega) hga.size (fun v1 W3 ho1 hg1 => ?_)
                simp only [Act.put, List.setIfInBounds_toArray, List.set_cons_zero, List.set_cons_succ]
                rw [List.nil_append] at ho1
                refine onlyAppK 9 174 _ (by kernel_rfl) rfl rfl rfl (.tmp 169) (.tmp 173) rfl rfl ho1 (O'.drop (k + 1)) g2 off (cap2 - (k + 1)) (by rw [HTK.out.2]; rfl) (drop_cells (k + 1) off HO3.out.1.2 (fun j u hu => hg1.cell (hga.cell (HCD.out j u hu) (by simp)) (fun h => by have h2 : g2 = Wd.heap.size := Option.some.inj h; have := HBD.out.2; omega))) (by rw [HTK.out.1, HTK.out.2]; omega) (Nat.le_trans hga.size hg1.size) (fun v2 W4 ho2 hg2 => ?_)
                simp only [Act.put, List.setIfInBounds_toArray, List.set_cons_zero, List.set_cons_succ]
                rw [HO3.out.1.1] at ho2
                have HF := Lib.hid (show TookK (told4 v2 (AC tc) true 0) W4 w1 (.slice a S.length cap) RR from by
                  obtain ⟨hBd, hgd⟩ := HBD.out
                  rw [HO3.out.2.1, HO3.out.2.2]
                  refine ⟨v2, rfl, DL.of_own ho2, fun g hg => Or.inr (Nat.le_trans hBd.size (ho2.lt g hg).1), ?_⟩
                  refine ((hBd.grown hga hBd.size (fun _ h => by cases h)).grown hg1 (Nat.le_trans hBd.size hga.size) (fun j h => ?_)).grown hg2 (Nat.le_trans hBd.size (Nat.le_trans hga.size hg1.size)) (fun j h => Nat.le_trans hBd.size (ho1.lt j h).1)
                  injection h with h
                  rw [← h]
                  exact hBd.size)
                clear ho1 hg1 ho2 hg2 hga
                refine take1 trivial 11 4 v2 _ rfl (by kernel_rfl) (by kernel_rfl) (by kernel_rfl) (fun _ _ _ h => h) rfl rfl (fun w' h => by go_simp) ?_
                simp only [Act.put, List.setIfInBounds_toArray, List.set_cons_zero, List.set_cons_succ]
                refine take1 trivial 12 5 (.string ⟨(AC tc).toArray⟩) _ rfl (by kernel_rfl) (by kernel_rfl) (by kernel_rfl) (fun _ _ _ h => h) rfl rfl (fun w' h => by go_simp) ?_
                simp only [Act.put, List.setIfInBounds_toArray, List.set_cons_zero, List.set_cons_succ]
                refine take1 trivial 13 6 (.bool true) _ rfl (by kernel_rfl) (by kernel_rfl) (by kernel_rfl) (fun _ _ _ h => h) rfl rfl (fun w' h => by go_simp) ?_
                simp only [Act.put, List.setIfInBounds_toArray, List.set_cons_zero, List.set_cons_succ]
                refine take1 trivial 14 7 (.int .i64 0) _ rfl (by kernel_rfl) (by kernel_rfl) (by kernel_rfl) (fun _ _ _ h => h) rfl rfl (fun w' h => by go_simp) ?_
                simp only [Act.put, List.setIfInBounds_toArray, List.set_cons_zero, List.set_cons_succ]
                refine wpAnyH_done (by kernel_rfl) ?_ _
                refine NoPanic.normal ?_
                go_wp2
                (try simp only [Exit.inBlock, Exit.then])
                refine bodyPost_ret (results_tmp4 rfl _ _ _) rfl ?_
                exact HF.out
        · have t3 : ((tc : Int) == (c : Int)) = false := by rw [beq_eq_false_iff_ne]; omega
          rw [if_pos htc] at q5
          have HF := Lib.hid (show TookK (told4 (.slice (some ⟨g2, 0, none⟩) L cap2) [] false 3) w' w1 (.slice a S.length cap) RR from by
            rw [q5]
            exact ⟨_, rfl, hL ▸ DL.of_own HJ.own, fun g hg => Or.inr (by injection hg with hg; subst hg; exact hgb), hB⟩)
          clear hc8 hput hcl hfr hcp q5 HJ htc
          go_wp2
          (try simp only [Exit.inBlock, Exit.then])
          refine bodyPost_ret (results_tmp4 rfl _ _ _) rfl ?_
          exact HF.out
      clear hKa
      have TAILH := Lib.hid TAIL
      clear TAIL
      obtain ⟨hD, hS⟩ := HD.out
      obtain ⟨hO, hk⟩ := HPL.out
      have hz := HZ.out
      have hS8 := hS.len
      cases hx : idxS S N with
      | some i =>
        have hKi := HKN.out.1 i hx
        have hOS : S = O := by rw [← hO]; unfold planO; rw [hx]; rfl
        have hki : k = i := by rw [← hk]; unfold planK; rw [hx]; rfl
        have hT : (Value.slice a j cap = .slice none 0 0 ∧ S = []) ∨ ∃ g off c, Value.slice a j cap = .slice (some ⟨g, off, none⟩) S.length c ∧ ∀ q u, (dcs S)[q]? = some u → w1.drew.cell? ⟨g, off + q, none⟩ = some u := by
          rw [← hz]
          rcases hD with h | ⟨g, cap', e1, h1, h2, h3, h4⟩
          · exact Or.inl h
          · exact Or.inr ⟨g, 0, cap', e1, fun q u hu => by rw [Nat.zero_add]; exact h4 q u hu⟩
        have HT := Lib.hid (And.intro hT hS8)
        have HOS := Lib.hid hOS
        have hL := HQ.out.2.1
        rw [← hOS] at hL
        have HLS := Lib.hid hL
        rw [hKi]
        have t3 : ¬ (i : Int) < 0 := by omega
        subst hki
        clear hD hS hO hk hz hKi hOS hx hT hS8 HKN HK0 HK1 HCW HN HI HI5 HI6 hL
        go_upto_region 29 with (first
          | (refine wpList_app0 (base := w1.heap.size) rfl (.tmp 110) (.tmp 111) rfl rfl S (.slice a j cap) rfl HT.out.1 (Nat.le_trans HT.out.2 (by omega)) (Nat.le_refl _) (fun v' w' ho' hg' => ?_))
          | fail)
        obtain ⟨g', cap', rfl, hgb, _⟩ := ho'.parts (by rw [HLS.out]; omega)
        rw [HLS.out]
        have hJ : JunK w1.heap.size w1 w' O g' cap' := ⟨by rw [← HOS.out]; exact ho', ((Below.refl w1.heap.size w1).drew).grown hg' (Nat.le_refl _) (fun _ h => by cases h)⟩
        exact TAILH.out _ _ ⟨g', cap', _, _, _, _, _, _, _, _, _, _, _, _, _, _, _, _, _, _, _, _, _, _, _, _, _, _, _, _, _, _, _, _, _, _, _, _, _, _, _, _, _, _, _, _, _, _, rfl, hJ⟩
      | none =>
        have hKi := HKN.out.2 hx
        have hOS : roomS S ++ [newS N c] = O := by rw [← hO]; unfold planO; rw [hx]; rfl
        have hki : (roomS S).length = k := by rw [← hk]; unfold planK; rw [hx]; rfl
        have hL := HQ.out.2.1
        have hLk : L = k + 1 := by rw [← hL, ← hOS, List.length_append, hki]; rfl
        rw [hKi]
        have hw : IntKind.i64.wrap ((L : Int) - 1) = (k : Int) := by rw [IntWalk.i64_in _ (by omega)]; omega
        have HW := Lib.hid hw
        by_cases h8 : j = 8
        · have hR : roomS S = S.drop 1 := by unfold roomS; rw [if_pos (by omega), List.eraseIdx_zero, List.drop_one]
          rcases hD with ⟨_, e1⟩ | ⟨g, cap', e1, h1, h2, h3, h4⟩
          · rw [e1] at hz
            simp at hz
            omega
          injection e1 with e1 e2 e3
          subst e1
          subst e3
          obtain ⟨off, hoff⟩ : ∃ off, (if cap = 1 then 0 else 1 * 8) = off := ⟨_, rfl⟩
          have ho8 : off = 1 * 8 := by rw [← hoff]; exact if_neg (by omega)
          have hdl : (S.drop 1).length = j - 1 := by rw [List.length_drop]; omega
          have hT : (Value.slice (some ⟨g, off, none⟩) (j - 1) (cap - 1) = .slice none 0 0 ∧ S.drop 1 = []) ∨ ∃ g' off' c, Value.slice (some ⟨g, off, none⟩) (j - 1) (cap - 1) = .slice (some ⟨g', off', none⟩) (S.drop 1).length c ∧ ∀ q u, (dcs (S.drop 1))[q]? = some u → w1.drew.cell? ⟨g', off' + q, none⟩ = some u := by
            rw [hdl]
            exact Or.inr ⟨g, off, cap - 1, rfl, drop_cells 1 off (fun _ => ho8) h4⟩
          have t4 : ((j : Int) == 8) = true := by rw [beq_iff_eq]; omega
          rw [hR] at hki hOS
          have HT := Lib.hid (And.intro hT (show (S.drop 1).length ≤ 8 by omega))
          have HOS := Lib.hid (And.intro hOS hL)
          have HOF := Lib.hid (And.intro hoff h8)
          clear hS hO hk hz hKi hOS hx hT h8 hS8 HKN HK0 HK1 HCW HN HI HI5 HI6 hL hR hki hLk hw hoff ho8 hdl h1 h2 h3 h4 e2
          go_upto_region 25 with (first
            | (refine wpExec rfl (.slice (some ⟨g, off, none⟩) (j - 1) (cap - 1)) (by rw [← HOF.out.1]; exact exec_cutLo (.tmp 96) (.const (.int .i64 1)) rfl g j cap 1 1 rfl rfl rfl (by have := HOF.out.2; omega)) ?_)
            | fail)
          go_upto_region 26 with (first
            | (refine wpList_app0 (base := w1.heap.size) rfl (.tmp 98) (.tmp 99) rfl rfl (S.drop 1) (.slice (some ⟨g, off, none⟩) (j - 1) (cap - 1)) rfl HT.out.1 (Nat.le_trans HT.out.2 (by omega)) (Nat.le_refl _) (fun v' w' ho' hg' => ?_))
            | fail)
          go_upto_region 27 with (first
            | (refine wpList_appK rfl (.tmp 101) (.tmp 105) rfl rfl (ho'.alloc _) [newS N c] w'.heap.size 0 1 rfl (new_cells w' N c) (by have := HT.out.2; show _ + 1 ≤ 10000; omega) (by have := hg'.size; simp; exact Nat.le_trans this (Nat.le_succ _)) (fun v2 w2 ho2 hg2 hat2 => ?_))
            | fail)
          obtain ⟨g', cap', rfl, hgb, _⟩ := ho2.parts (by simp)
          rw [show ((S.drop 1) ++ [newS N c]).length = L from by rw [HOS.out.1]; exact HOS.out.2]
          have hJ : JunK w1.heap.size w1 w2 O g' cap' := by
            refine ⟨by rw [← HOS.out.1]; exact ho2, ?_⟩
            have hb1 : Below w1.heap.size w1 w' := ((Below.refl w1.heap.size w1).drew).grown hg' (Nat.le_refl _) (fun _ h => by cases h)
            exact (hb1.alloc hb1.size _).grown hg2 (by have := hb1.size; simp; omega) (fun j h => (ho'.lt j h).1)
          have hw := HW.out
          have HJ := Lib.hid hJ
          clear ho' hg' ho2 hg2 hat2 hgb hJ HT HOS HW
          go_upto_region 29 with fail
          exact TAILH.out _ _ ⟨g', cap', _, _, _, _, _, _, _, _, _, _, _, _, _, _, _, _, _, _, _, _, _, _, _, _, _, _, _, _, _, _, _, _, _, _, _, _, _, _, _, _, _, _, _, _, _, _, rfl, HJ.out⟩
        · have hR : roomS S = S := by unfold roomS; rw [if_neg (by omega)]
          have hT : (Value.slice a j cap = .slice none 0 0 ∧ S = []) ∨ ∃ g off c, Value.slice a j cap = .slice (some ⟨g, off, none⟩) S.length c ∧ ∀ q u, (dcs S)[q]? = some u → w1.drew.cell? ⟨g, off + q, none⟩ = some u := by
            rw [← hz]
            rcases hD with h | ⟨g, cap', e1, h1, h2, h3, h4⟩
            · exact Or.inl h
            · exact Or.inr ⟨g, 0, cap', e1, fun q u hu => by rw [Nat.zero_add]; exact h4 q u hu⟩
          have t4 : ((j : Int) == 8) = false := by rw [beq_eq_false_iff_ne]; omega
          rw [hR] at hki hOS
          have HT := Lib.hid (And.intro hT hS8)
          have HOS := Lib.hid (And.intro hOS hL)
          clear hD hS hO hk hz hKi hOS hx hT h8 hS8 HKN HK0 HK1 HCW HN HI HI5 HI6 hL hR hki hLk hw
          go_upto_region 26 with (first
            | (refine wpList_app0 (base := w1.heap.size) rfl (.tmp 98) (.tmp 99) rfl rfl S (.slice a j cap) rfl HT.out.1 (Nat.le_trans HT.out.2 (by omega)) (Nat.le_refl _) (fun v' w' ho' hg' => ?_))
            | fail)
          go_upto_region 27 with (first
            | (refine wpList_appK rfl (.tmp 101) (.tmp 105) rfl rfl (ho'.alloc _) [newS N c] w'.heap.size 0 1 rfl (new_cells w' N c) (by have := HT.out.2; show _ + 1 ≤ 10000; omega) (by have := hg'.size; simp; exact Nat.le_trans this (Nat.le_succ _)) (fun v2 w2 ho2 hg2 hat2 => ?_))
            | fail)
          obtain ⟨g', cap', rfl, hgb, _⟩ := ho2.parts (by simp)
          rw [show (S ++ [newS N c]).length = L from by rw [HOS.out.1]; exact HOS.out.2]
          have hJ : JunK w1.heap.size w1 w2 O g' cap' := by
            refine ⟨by rw [← HOS.out.1]; exact ho2, ?_⟩
            have hb1 : Below w1.heap.size w1 w' := ((Below.refl w1.heap.size w1).drew).grown hg' (Nat.le_refl _) (fun _ h => by cases h)
            exact (hb1.alloc hb1.size _).grown hg2 (by have := hb1.size; simp; omega) (fun j h => (ho'.lt j h).1)
          have hw := HW.out
          have HJ := Lib.hid hJ
          clear ho' hg' ho2 hg2 hat2 hgb hJ HT HOS HW
          go_upto_region 29 with fail
          exact TAILH.out _ _ ⟨g', cap', _, _, _, _, _, _, _, _, _, _, _, _, _, _, _, _, _, _, _, _, _, _, _, _, _, _, _, _, _, _, _, _, _, _, _, _, _, _, _, _, _, _, _, _, _, _, rfl, HJ.out⟩
end Go.Proofs.Ythpbhimmfmablaa
