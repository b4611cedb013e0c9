/- The walk of law CurveField. -/
import Derived.Test.YtdikkdediofieaaFC
namespace Go.Proofs.Ytdikkdediofieaa
open Go.RowKit
set_option maxRecDepth 20000 in
set_option maxHeartbeats 2000000 in
theorem fieldLaw_any (a : List UInt8) (ha : a.length = 32) (b : List UInt8) (hb : b.length = 32) (c : List UInt8) (hc : c.length = 32) (w : World) :
    Calls Try.prog 5 #[.agg (bs a), .agg (bs b), .agg (bs c)] w fun e w' => e = .returned (.bool true) ∧ Below w.heap.size w w' := by
  have M : Mem w [(w.heap.size, 23, bs a), (w.heap.size + 1, 23, bs b), (w.heap.size + 1 + 1, 23, bs c)] (((w.alloc (.cells (bs a) 23)).alloc (.cells (bs b) 23)).alloc (.cells (bs c) 23)) := (((Mem.init w).alloc _ rfl _ _).alloc _ (by simp) _ _).alloc _ (by simp) _ _
  have p1 := mul_any a b ha hb
  have p2 := mul_any b a hb ha
  rw [mulK_comm b a] at p2
  have lab : (mulK a b).length = 32 := lowB_length _ _
  have lbc : (mulK b c).length = 32 := lowB_length _ _
  have p3 := mul_any b c hb hc
  have p4 := mul_any a (mulK b c) ha lbc
  have p5 := mul_any (mulK a b) c lab hc
  rw [← mulK_assoc] at p5
  have labc : (mulK a (mulK b c)).length = 32 := lowB_length _ _
  have p6 := mul_any a oneK ha rfl
  have p7 := inv_any a ha
  have lo : (mulK a oneK).length = 32 := lowB_length _ _
  have li : (invK a).length = 32 := lowB_length _ _
  have p8 := mul_any a (invK a) ha li
  have hcase : (mulK a oneK = zeroK ∧ invK a = zeroK) ∨ (mulK a oneK ≠ zeroK ∧ mulK a (invK a) = oneK) := by
    by_cases h0 : placeN a = 0
    · exact Or.inl ⟨by rw [mulK_one, h0, lowB_zero], invK_zero a h0⟩
    · exact Or.inr ⟨by rw [mulK_one]; exact lowB_ne _ (placeN_lt a) h0, mulK_inv a h0⟩
  generalize mulK a (mulK b c) = abc at p4 p5 labc
  generalize mulK a b = ab at p1 p2 p5 lab
  generalize mulK b c = bc at p3 p4 lbc
  generalize mulK a oneK = o at p6 lo hcase
  generalize mulK a (invK a) = m at p8 hcase
  generalize invK a = i at p7 p8 li hcase
  have P1 := Lib.hid p1
  have P2 := Lib.hid p2
  have P3 := Lib.hid p3
  have P4 := Lib.hid p4
  have P5 := Lib.hid p5
  have P6 := Lib.hid p6
  have P7 := Lib.hid p7
  have P8 := Lib.hid p8
  have Hab := Lib.hid lab
  have Hbc := Lib.hid lbc
  have Habc := Lib.hid labc
  have Ho := Lib.hid lo
  have Hi := Lib.hid li
  have Ha := Lib.hid ha
  have Hb := Lib.hid hb
  have Hc := Lib.hid hc
  have HCASE := Lib.hid hcase
  clear p1 p2 p3 p4 p5 p6 p7 p8 lab lbc labc lo li ha hb hc hcase
  go_enter Try.func5, Try.ntmps5
  go_upto_region 1 with fail
  change Code.wp _ _ _ _ (((w.alloc (.cells (bs a) 23)).alloc (.cells (bs b) 23)).alloc (.cells (bs c) 23))
  generalize (((w.alloc (.cells (bs a) 23)).alloc (.cells (bs b) 23)).alloc (.cells (bs c) 23)) = w0 at M ⊢
  refine wp_region_noPanic ?_
  refine wp_region_flow (fin := ?fin1) 24 0 (by kernel_rfl) [.inl (.bool true),
    .inl (.bool false),
    .inl (.bool false),
    .inl (.agg (bs a)),
    .inl (.agg (bs b)),
    .inl (.agg (bs ab)),
    .inl (.agg (bs b)),
    .inl (.agg (bs a)),
    .inl (.agg (bs ab)),
    .inl (.bool false),
    .inl (.bool false),
    .inl (.bool false),
    .inl (.agg (bs a)),
    .inl (.agg (bs b)),
    .inl (.agg (bs c)),
    .inl (.agg (bs bc)),
    .inl (.agg (bs abc)),
    .inl (.agg (bs a)),
    .inl (.agg (bs b)),
    .inl (.agg (bs ab)),
    .inl (.agg (bs c)),
    .inl (.agg (bs abc)),
    .inl (.bool false),
    .inl (.bool false)] rfl rfl (by kernel_rfl) ?hfin1 ?hE1 ?hend1
  case hfin1 =>
    intro G
    simp only [flowAll, flowVal, Act.put, List.setIfInBounds_toArray, List.set_cons_zero, List.set_cons_succ]
    exact rfl
  case hE1 =>
    intro G
    refine ⟨Or.inr (fun W hB => known_call 10 #[] (awake6_any W) rfl (by go_simp)),
      Or.inr (fun W hB => known_val rfl (by go_simp)),
      Or.inr (fun W hB => known_val rfl (by go_simp)),
      Or.inr (fun W hB => known_val rfl (by exact load_key (.tmp 3) _ a Ha.out ((M.drew.step hB).row 0 rfl) rfl rfl)),
      Or.inr (fun W hB => known_val rfl (by exact load_key (.tmp 4) _ b Hb.out ((M.drew.step hB).row 1 rfl) rfl rfl)),
      Or.inr (fun W hB => known_call 14 #[.agg (bs a), .agg (bs b)] (P1.out W) rfl (by go_simp)),
      Or.inr (fun W hB => known_val rfl (by exact load_key (.tmp 4) _ b Hb.out ((M.drew.step hB).row 1 rfl) rfl rfl)),
      Or.inr (fun W hB => known_val rfl (by exact load_key (.tmp 3) _ a Ha.out ((M.drew.step hB).row 0 rfl) rfl rfl)),
      Or.inr (fun W hB => known_call 14 #[.agg (bs b), .agg (bs a)] (P2.out W) rfl (by go_simp)),
      Or.inr (fun W hB => known_val rfl (by exact exec_neq_same (.tmp 14) (.tmp 17) ab Hab.out rfl rfl rfl)),
      Or.inr (fun W hB => known_val rfl (by go_simp)),
      Or.inr (fun W hB => known_val rfl (by go_simp)),
      Or.inr (fun W hB => known_val rfl (by exact load_key (.tmp 3) _ a Ha.out ((M.drew.step hB).row 0 rfl) rfl rfl)),
      Or.inr (fun W hB => known_val rfl (by exact load_key (.tmp 4) _ b Hb.out ((M.drew.step hB).row 1 rfl) rfl rfl)),
      Or.inr (fun W hB => known_val rfl (by exact load_key (.tmp 5) _ c Hc.out ((M.drew.step hB).row 2 rfl) rfl rfl)),
      Or.inr (fun W hB => known_call 14 #[.agg (bs b), .agg (bs c)] (P3.out W) rfl (by go_simp)),
      Or.inr (fun W hB => known_call 14 #[.agg (bs a), .agg (bs bc)] (P4.out W) rfl (by go_simp)),
      Or.inr (fun W hB => known_val rfl (by exact load_key (.tmp 3) _ a Ha.out ((M.drew.step hB).row 0 rfl) rfl rfl)),
      Or.inr (fun W hB => known_val rfl (by exact load_key (.tmp 4) _ b Hb.out ((M.drew.step hB).row 1 rfl) rfl rfl)),
      Or.inr (fun W hB => known_call 14 #[.agg (bs a), .agg (bs b)] (P1.out W) rfl (by go_simp)),
      Or.inr (fun W hB => known_val rfl (by exact load_key (.tmp 5) _ c Hc.out ((M.drew.step hB).row 2 rfl) rfl rfl)),
      Or.inr (fun W hB => known_call 14 #[.agg (bs ab), .agg (bs c)] (P5.out W) rfl (by go_simp)),
      Or.inr (fun W hB => known_val rfl (by exact exec_neq_same (.tmp 25) (.tmp 30) abc Habc.out rfl rfl rfl)),
      Or.inr (fun W hB => known_val rfl (by go_simp)), trivial⟩
  intro G W hB hM
  replace M := M.drew.step hB
  clear hM hB G
  refine wpAny_end (by kernel_rfl) ?_ _
  refine NoPanic.normal ?_
  clear w0 P1 P2 P3 P4 P5 Hab Hbc Habc
  have r3 := M.row 0 rfl
  go_wp2_with (first
    | (refine wpList_load_row rfl 23 (.tmp 3) rfl w.heap.size rfl 23 (bs a) (0, 0) _ r3 Try.underlying23 rfl (kinfo a Ha.out) ?_)
    | (refine wpList_buildTo rfl 23 _ rfl (some 34) rfl (bs oneK) (by kernel_rfl) ?_))
  go_at_call 14
  refine (P6.out _).mono ?_
  rintro e w1 ⟨rfl, hb1⟩
  clear r3
  replace M := (M.step hb1).alloc _ rfl 23 kz
  simp only [List.cons_append, List.nil_append] at M
  clear hb1
  have rr := M.row 3 rfl
  go_upto_region 4 with (refine wpList_store_row rfl 23 (.tmp 7) (.tmp 35) rfl w1.heap.size (bs o) rfl rfl 23 kz rr (kinfo o Ho.out) (kz_size o Ho.out) (bs_one _) ?_)
  clear rr
  replace M := M.store 3 rfl (bs o)
  simp only [List.set_cons_zero, List.set_cons_succ] at M
  change Code.wp _ _ _ _ ((w1.alloc (.cells kz 23)).setRow w1.heap.size (bs o))
  generalize (w1.alloc (.cells kz 23)).setRow w1.heap.size (bs o) = w2 at M ⊢
  generalize w1.heap.size = g7 at M ⊢
  clear w1
  clear W
  have r3 := M.row 0 rfl
  go_wp2_with (first
    | (refine wpList_load_row rfl 23 (.tmp 3) rfl w.heap.size rfl 23 (bs a) (0, 0) _ r3 Try.underlying23 rfl (kinfo a Ha.out) ?_))
  go_at_call 15
  refine (P7.out _).mono ?_
  rintro e w3 ⟨rfl, hb1⟩
  clear r3
  replace M := (M.step hb1).alloc _ rfl 23 kz
  simp only [List.cons_append, List.nil_append] at M
  clear hb1
  have rr := M.row 4 rfl
  go_upto_region 5 with (refine wpList_store_row rfl 23 (.tmp 8) (.tmp 37) rfl w3.heap.size (bs i) rfl rfl 23 kz rr (kinfo i Hi.out) (kz_size i Hi.out) (bs_one _) ?_)
  clear rr
  replace M := M.store 4 rfl (bs i)
  simp only [List.set_cons_zero, List.set_cons_succ] at M
  change Code.wp _ _ _ _ ((w3.alloc (.cells kz 23)).setRow w3.heap.size (bs i))
  generalize (w3.alloc (.cells kz 23)).setRow w3.heap.size (bs i) = w4 at M ⊢
  generalize w3.heap.size = g8 at M ⊢
  clear w3
  clear w2
  rcases HCASE.out with ⟨rfl, rfl⟩ | ⟨hne0, rfl⟩
  · clear HCASE P8
    refine wp_region_flow_text (fin := ?fin2) 21 0 (by kernel_rfl) [.inl (.agg (bs zeroK)),
      .inl (.agg (bs zeroK)),
      .inl (.bool true),
      .inl (.bool true),
      .inl (.agg (bs zeroK)),
      .inl (.agg (bs zeroK)),
      .inl (.bool true),
      .inl (.bool true),
      .inl (.bool true),
      .inl undef,
      .inl undef,
      .inl undef,
      .inl undef,
      .inl undef,
      .inl undef,
      .inl undef,
      .inl undef,
      .inl undef,
      .inl undef,
      .inl (.bool true),
      .inl (.bool true)] rfl rfl (by kernel_rfl) ?hfin2 ?hE2 ?hend2
    case hfin2 =>
      intro G
      simp only [flowAll, flowVal, Act.put, List.setIfInBounds_toArray, List.set_cons_zero, List.set_cons_succ]
      exact rfl
    case hE2 =>
      intro G
      refine ⟨Or.inr (fun W hB => known_val rfl (by exact load_key (.tmp 7) _ zeroK Ho.out ((M.step hB).row 3 rfl) rfl rfl)),
        Or.inr (fun W hB => known_val rfl (by kernel_rfl)),
        Or.inr (fun W hB => known_val rfl (by exact exec_sames (.tmp 38) (.tmp 39) zeroK rfl rfl rfl rfl)),
        Or.inr (fun W hB => known_val rfl (by go_simp)),
        Or.inr (fun W hB => known_val rfl (by exact load_key (.tmp 8) _ zeroK Hi.out ((M.step hB).row 4 rfl) rfl rfl)),
        Or.inr (fun W hB => known_val rfl (by kernel_rfl)),
        Or.inr (fun W hB => known_val rfl (by exact exec_sames (.tmp 42) (.tmp 43) zeroK rfl rfl rfl rfl)),
        Or.inr (fun W hB => known_val rfl (by go_simp)),
        Or.inr (fun W hB => known_val rfl (by go_simp)),
        Or.inr (fun W hB => Or.inr ⟨rfl, rfl⟩),
        Or.inr (fun W hB => Or.inr ⟨rfl, rfl⟩),
        Or.inr (fun W hB => Or.inr ⟨rfl, rfl⟩),
        Or.inr (fun W hB => Or.inr ⟨rfl, rfl⟩),
        Or.inr (fun W hB => Or.inr ⟨rfl, rfl⟩),
        Or.inr (fun W hB => Or.inr ⟨rfl, rfl⟩),
        Or.inr (fun W hB => Or.inr ⟨rfl, rfl⟩),
        Or.inr (fun W hB => Or.inr ⟨rfl, rfl⟩),
        Or.inr (fun W hB => Or.inr ⟨rfl, rfl⟩),
        Or.inr (fun W hB => Or.inr ⟨rfl, rfl⟩),
        Or.inr (fun W hB => known_val rfl (by go_simp)),
        Or.inr (fun W hB => known_val rfl (by go_simp)), trivial⟩
    intro G W hB hM
    replace M := M.step hB
    clear hM hB G
    refine wpAny_end (by kernel_rfl) ?_ _
    go_wp2
    go_ret
    exact ⟨rfl, M.below⟩
  · have hne := Lib.hid hne0
    clear HCASE hne0
    refine wp_region_flow_text (fin := ?fin3) 21 0 (by kernel_rfl) [.inl (.agg (bs o)),
      .inl (.agg (bs zeroK)),
      .inl (.bool false),
      .inl (.bool false),
      .inl undef,
      .inl undef,
      .inl undef,
      .inl (.bool false),
      .inl (.bool false),
      .inl (.agg (bs o)),
      .inl (.agg (bs zeroK)),
      .inl (.bool true),
      .inl (.bool true),
      .inl (.agg (bs a)),
      .inl (.agg (bs i)),
      .inl (.agg (bs oneK)),
      .inl (.agg (bs oneK)),
      .inl (.bool true),
      .inl (.bool true),
      .inl (.bool true),
      .inl (.bool true)] rfl rfl (by kernel_rfl) ?hfin3 ?hE3 ?hend3
    case hfin3 =>
      intro G
      simp only [flowAll, flowVal, Act.put, List.setIfInBounds_toArray, List.set_cons_zero, List.set_cons_succ]
      exact rfl
    case hE3 =>
      intro G
      refine ⟨Or.inr (fun W hB => known_val rfl (by exact load_key (.tmp 7) _ o Ho.out ((M.step hB).row 3 rfl) rfl rfl)),
        Or.inr (fun W hB => known_val rfl (by kernel_rfl)),
        Or.inr (fun W hB => known_val rfl (by exact exec_others (.tmp 38) (.tmp 39) o zeroK Ho.out rfl hne.out rfl rfl rfl)),
        Or.inr (fun W hB => known_val rfl (by go_simp)),
        Or.inr (fun W hB => Or.inr ⟨rfl, rfl⟩),
        Or.inr (fun W hB => Or.inr ⟨rfl, rfl⟩),
        Or.inr (fun W hB => Or.inr ⟨rfl, rfl⟩),
        Or.inr (fun W hB => known_val rfl (by go_simp)),
        Or.inr (fun W hB => known_val rfl (by go_simp)),
        Or.inr (fun W hB => known_val rfl (by exact load_key (.tmp 7) _ o Ho.out ((M.step hB).row 3 rfl) rfl rfl)),
        Or.inr (fun W hB => known_val rfl (by kernel_rfl)),
        Or.inr (fun W hB => known_val rfl (by exact exec_neq_others (.tmp 47) (.tmp 48) o zeroK Ho.out rfl hne.out rfl rfl rfl)),
        Or.inr (fun W hB => known_val rfl (by go_simp)),
        Or.inr (fun W hB => known_val rfl (by exact load_key (.tmp 3) _ a Ha.out ((M.step hB).row 0 rfl) rfl rfl)),
        Or.inr (fun W hB => known_val rfl (by exact load_key (.tmp 8) _ i Hi.out ((M.step hB).row 4 rfl) rfl rfl)),
        Or.inr (fun W hB => known_call 14 #[.agg (bs a), .agg (bs i)] (P8.out W) rfl (by go_simp)),
        Or.inr (fun W hB => known_val rfl (by kernel_rfl)),
        Or.inr (fun W hB => known_val rfl (by exact exec_sames (.tmp 53) (.tmp 54) oneK rfl rfl rfl rfl)),
        Or.inr (fun W hB => known_val rfl (by go_simp)),
        Or.inr (fun W hB => known_val rfl (by go_simp)),
        Or.inr (fun W hB => known_val rfl (by go_simp)), trivial⟩
    intro G W hB hM
    replace M := M.step hB
    clear hM hB G
    refine wpAny_end (by kernel_rfl) ?_ _
    go_wp2
    go_ret
    exact ⟨rfl, M.below⟩
end Go.Proofs.Ytdikkdediofieaa
