/- The law's Of, Plain, awake; the document's Right; bpdu.To: walked. -/
import Derived.Test.YtingcoojhfadgaaZG
namespace Go.Proofs.Ytingcoojhfadgaa
open Go.RowKit
set_option maxRecDepth 20000 in
set_option maxHeartbeats 1000000 in
theorem of11_any (x : B11) (hx : x.Fit) (w : World) : Calls Try.prog 12 #[.agg x.c] w fun e w' => e = .returned (.agg x.c) ∧ Below w.heap.size w w' := by
  have M : Mem w [(w.heap.size, 24, x.c), (w.heap.size + 1, 28, bz.c)] ((w.alloc (.cells x.c 24)).alloc (.cells bz.c 28)) :=
    ((Mem.init w).alloc _ rfl _ _).alloc _ (by simp) _ _
  go_enter Try.func12, Try.ntmps12
  go_upto_region 1 with fail
  change Code.wp _ _ _ _ ((w.alloc (.cells x.c 24)).alloc (.cells bz.c 28))
  generalize (w.alloc (.cells x.c 24)).alloc (.cells bz.c 28) = W0 at M ⊢
  have r0 := M.row 0 rfl
  have c_cost := r0.b_cost hx
  have c_port := r0.b_port hx
  have c_age := r0.b_age hx
  have c_top := r0.b_top hx
  have c_hello := r0.b_hello hx
  have c_delay := r0.b_delay hx
  have c_ch := r0.b_ch hx
  have c_ack := r0.b_ack hx
  have r1 := M.row 1 rfl
  have HM := Lib.hid (M.store 1 rfl x.c)
  clear M
  go_wp2_with (first
    | (refine wpExec rfl (.agg (bs x.r)) (exec11r_r r0 hx _ rfl rfl) ?_)
    | (refine wpExec rfl (.agg (bs x.b)) (exec11r_b r0 hx _ rfl rfl) ?_)
    | (refine wpExec rfl (.agg x.c) (build11 hx _ _ _ _ _ _ _ _ _ _ rfl rfl rfl rfl rfl rfl rfl rfl rfl rfl rfl) ?_)
    | (refine wpList_store_row rfl 28 (.tmp 2) (.tmp 23) rfl (w.heap.size + 1) x.c rfl rfl 28 bz.c r1 (b11_info hx) (by rw [B11.size bz_fit, B11.size hx]) (B11.one _) ?_))
  exact bodyPost_ret (v := .agg x.c) (results_cell_row rfl _ _ (w.heap.size + 1) 28 _ (0, 0) _ rfl (HM.out.row 1 rfl) Try.underlying28 rfl (b11_info hx)) rfl ⟨rfl, HM.out.below⟩
set_option maxRecDepth 20000 in
set_option maxHeartbeats 1000000 in
theorem plain11_any (x : B11) (hx : x.Fit) (w : World) : Calls Try.prog 14 #[.agg x.c] w fun e w' => e = .returned (.agg x.c) ∧ Below w.heap.size w w' := by
  have M : Mem w [(w.heap.size, 28, x.c), (w.heap.size + 1, 24, bz.c)] ((w.alloc (.cells x.c 28)).alloc (.cells bz.c 24)) :=
    ((Mem.init w).alloc _ rfl _ _).alloc _ (by simp) _ _
  go_enter Try.func14, Try.ntmps14
  go_upto_region 1 with fail
  change Code.wp _ _ _ _ ((w.alloc (.cells x.c 28)).alloc (.cells bz.c 24))
  generalize (w.alloc (.cells x.c 28)).alloc (.cells bz.c 24) = W0 at M ⊢
  have r0 := M.row 0 rfl
  have c_cost := r0.b_cost hx
  have c_port := r0.b_port hx
  have c_age := r0.b_age hx
  have c_top := r0.b_top hx
  have c_hello := r0.b_hello hx
  have c_delay := r0.b_delay hx
  have c_ch := r0.b_ch hx
  have c_ack := r0.b_ack hx
  have r1 := M.row 1 rfl
  have HM := Lib.hid (M.store 1 rfl x.c)
  clear M
  go_wp2_with (first
    | (refine wpExec rfl (.agg (bs x.r)) (exec11_r r0 hx _ rfl rfl) ?_)
    | (refine wpExec rfl (.agg (bs x.b)) (exec11_b r0 hx _ rfl rfl) ?_)
    | (refine wpExec rfl (.agg x.c) (build11r hx _ _ _ _ _ _ _ _ _ _ rfl rfl rfl rfl rfl rfl rfl rfl rfl rfl rfl) ?_)
    | (refine wpList_store_row rfl 24 (.tmp 2) (.tmp 23) rfl (w.heap.size + 1) x.c rfl rfl 24 bz.c r1 (r11_info hx) (by rw [B11.size bz_fit, B11.size hx]) (B11.one _) ?_))
  exact bodyPost_ret (v := .agg x.c) (results_cell_row rfl _ _ (w.heap.size + 1) 24 _ (0, 0) _ rfl (HM.out.row 1 rfl) Try.underlying24 rfl (r11_info hx)) rfl ⟨rfl, HM.out.below⟩
set_option maxRecDepth 20000 in
set_option maxHeartbeats 1000000 in
theorem awake11_any (w : World) : Calls Try.prog 8 #[] w fun e w' => e = .returned (.bool true) ∧ Below w.heap.size w w' := by
  have hp := fun W => parse11_any ⟨noticeL.toArray⟩ W
  rw [show parse11 ⟨noticeL.toArray⟩ = (0, true, bz) from parse11_notice []] at hp
  have hn := fun W => notice_any W
  have hl : (⟨noticeL.toArray⟩ : ByteArray).size = 7 := rfl
  generalize (⟨noticeL.toArray⟩ : ByteArray) = T at hp hn hl
  have HP := Lib.hid hp
  have HN := Lib.hid hn
  have M0 := Mem.init w
  clear hp hn
  have hl2 : ((T.size : Int) == 7) = true := by rw [hl]; rfl
  clear hl
  go_enter Try.func8, Try.ntmps8
  go_wp2_with fail
  refine (HN.out _).mono ?_
  rintro e w1 ⟨rfl, rfl⟩
  go_wp2_with fail
  refine (HP.out _).mono ?_
  rintro e w2 ⟨rfl, hb⟩
  have M := (M0.step hb).alloc _ rfl 28 bz.c
  simp only [List.nil_append] at M
  clear hb M0
  have r0 := M.row 0 rfl
  have HM := Lib.hid (M.store 0 rfl bz.c)
  clear M
  go_upto_region 2 with (first
    | (refine wpList_store_row rfl 28 (.tmp 1) (.tmp 7) rfl w2.heap.size bz.c rfl rfl 28 bz.c r0 (b11_info bz_fit) rfl (B11.one _) ?_))
  have MM := HM.out
  clear HM r0
  change Code.wp _ _ _ _ ((w2.alloc (.cells bz.c 28)).setRow w2.heap.size bz.c)
  generalize (w2.alloc (.cells bz.c 28)).setRow w2.heap.size bz.c = W2 at MM ⊢
  have HM := Lib.hid MM.below
  clear MM
  go_wp2_with (go_at_call 10; refine (HN.out _).mono ?_; rintro e w3 ⟨rfl, rfl⟩)
  go_ret
  exact ⟨rfl, HM.out⟩
set_option maxRecDepth 20000 in
set_option maxHeartbeats 2000000 in
theorem right11_any (x : B11) (hx : x.Fit) (w : World) : Calls Try.prog 13 #[.agg x.c] w fun e w' => e = .returned (.bool x.right) ∧ Below w.heap.size w w' := by
  have M : Mem w [(w.heap.size, 24, x.c)] (w.alloc (.cells x.c 24)) := (Mem.init w).alloc _ rfl _ _
  have hr : x.right = (inL 4294967295 [x.cost] && (inL 65535 [x.port, x.age, x.top, x.hello, x.delay] && x.young)) := rfl
  have hy : x.young = decide (x.age < x.top) := rfl
  have hc1 : inL 4294967295 [x.cost] = (decide (0 ≤ x.cost) && decide (x.cost ≤ 4294967295)) := by unfold inL; simp
  rw [hy, hc1] at hr
  rw [hr]
  clear hr hy hc1
  obtain ⟨l, hl⟩ : ∃ l, [x.port, x.age, x.top, x.hello, x.delay] = l := ⟨_, rfl⟩
  have hcs : (#[.int .i64 x.port, .int .i64 x.age, .int .i64 x.top, .int .i64 x.hello, .int .i64 x.delay] : Array Value) = (l.map (Value.int .i64)).toArray := by rw [← hl]; rfl
  rw [hl]
  have hlen : l.length = 5 := by rw [← hl]; rfl
  clear hl
  have hno := inL_no 65535 l
  have hall : inL 65535 (l.take 5) = inL 65535 l := by rw [← hlen, List.take_length]
  have hst := inL_take 65535 l
  have h0 : inL 65535 (l.take 0) = true := rfl
  generalize inL 65535 l = r at *
  obtain ⟨q, hq⟩ : ∃ q : Nat → Bool, ∀ k, inL 65535 (l.take k) = q k := ⟨fun k => inL 65535 (l.take k), fun _ => rfl⟩
  obtain ⟨v, hv⟩ : ∃ v : Nat → Int, ∀ k, l.getD k 0 = v k := ⟨fun k => l.getD k 0, fun _ => rfl⟩
  simp only [hq, hv, hlen] at hno hall hst h0
  have HNO := Lib.hid hno
  have HALL := Lib.hid hall
  have HST := Lib.hid hst
  have H0 := Lib.hid h0
  have HV := Lib.hid (And.intro hlen hv)
  have HCS := Lib.hid hcs
  clear hno hall hst h0 hq hv hlen hcs
  go_enter Try.func13, Try.ntmps13
  go_upto_region 1 with fail
  change Code.wp _ _ _ _ (w.alloc (.cells x.c 24))
  generalize w.alloc (.cells x.c 24) = W0 at M ⊢
  have r0 := M.row 0 rfl
  have c_port := r0.b_port hx
  have c_age := r0.b_age hx
  have c_top := r0.b_top hx
  have c_hello := r0.b_hello hx
  have c_delay := r0.b_delay hx
  go_upto_region 2 with fail
  clear c_port
  clear c_age
  clear c_top
  clear c_hello
  clear c_delay
  clear r0
  replace M := M.alloc _ rfl 3 #[.int .i64 x.port, .int .i64 x.age, .int .i64 x.top, .int .i64 x.hello, .int .i64 x.delay]
  simp only [List.cons_append, List.nil_append] at M
  change Code.wp _ _ _ _ (W0.alloc (.cells #[.int .i64 x.port, .int .i64 x.age, .int .i64 x.top, .int .i64 x.hello, .int .i64 x.delay] 3))
  rw [HCS.out] at M ⊢
  generalize W0.alloc (.cells (l.map (Value.int .i64)).toArray 3) = W1 at M ⊢
  generalize W0.heap.size = g at M ⊢
  have hcell : ∀ k, k < 5 → W1.cell? ⟨g, k, none⟩ = some (.int .i64 (v k)) := fun k hk => by
    obtain ⟨hlen, hv⟩ := HV.out
    rw [(M.row 1 rfl).cell k, List.getElem?_toArray, List.getElem?_map, ← hv, List.getD_eq_getElem?_getD, List.getElem?_eq_getElem (by omega)]
    rfl
  have HC := Lib.hid hcell
  clear hcell
  go_upto_region 3 with fail
  have k4 := (M.row 0 rfl).b_cost hx
  have k5 := (M.row 0 rfl).b_age hx
  have k6 := (M.row 0 rfl).b_top hx
  have HM := Lib.hid M.below
  clear M hx
  go_loop [4] (fun i => ∃ k : Nat, k ≤ 5 ∧ q k = true ∧ i = .int .i64 (k : Int)) (fun i => 5 - (intOf i).toNat)
  case atStart => exact ⟨0, by omega, H0.out, rfl⟩
  case round =>
    obtain ⟨k, hk, hqk, rfl⟩ := hrel
    by_cases hlt : k < 5
    · have t1 : decide ((k : Int) < 5) = true := by simp; omega
      have tk : (k : Int) < 5 := by omega
      have hcell := HC.out k hlt
      have hs := HST.out k hlt
      have hno := HNO.out k hlt
      generalize v k = z at hcell hs hno
      have HS := Lib.hid hs
      have HN := Lib.hid hno
      have HQ := Lib.hid hqk
      clear hs hno hqk k4 k5 k6
      by_cases h1 : z < 0
      · have t2 : decide (z < 0) = true := by simpa using h1
        go_wp2
        go_ret
        refine ⟨?_, HM.out⟩
        rw [HN.out (by simp; omega)]
        simp
      · by_cases h2 : 65535 < z
        · have t2 : decide (z < 0) = false := by simpa using h1
          have t3 : decide (65535 < z) = true := by simpa using h2
          go_wp2
          go_ret
          refine ⟨?_, HM.out⟩
          rw [HN.out (by simp; omega)]
          simp
        · have t2 : decide (z < 0) = false := by simpa using h1
          have t3 : decide (65535 < z) = false := by simpa using h2
          go_wp2
          refine ⟨⟨k + 1, by omega, ?_, by go_num⟩, by simp [intOf]; omega⟩
          rw [HS.out, HQ.out]
          simp
          omega
    · have hk2 : k = 5 := by omega
      subst hk2
      rw [HALL.out] at hqk
      have HQK := Lib.hid hqk
      clear hqk hlt
      by_cases h1 : 0 ≤ x.cost
      · by_cases h2 : x.cost ≤ 4294967295
        · have t1 : decide (0 ≤ x.cost) = true := by simpa using h1
          have t2 : decide (x.cost ≤ 4294967295) = true := by simpa using h2
          go_wp2
          go_ret
          exact ⟨by first | rfl | (rw [HQK.out]; simp), HM.out⟩
        · have t1 : decide (0 ≤ x.cost) = true := by simpa using h1
          have t2 : decide (x.cost ≤ 4294967295) = false := by simpa using h2
          go_wp2
          go_ret
          exact ⟨by first | rfl | (rw [HQK.out]; simp), HM.out⟩
      · have t1 : decide (0 ≤ x.cost) = false := by simpa using h1
        go_wp2
        go_ret
        exact ⟨by first | rfl | (rw [HQK.out]; simp), HM.out⟩
theorem to11_any (w : World) : Calls Try.prog 18 #[] w fun e w' => e = .returned (.agg (bs [1, 128, 194, 0, 0, 0])) ∧ Below w.heap.size w w' := by
  have M : Mem w [(w.heap.size, 46, bs [1, 128, 194, 0, 0, 0])] (w.alloc (.cells (bs [1, 128, 194, 0, 0, 0]) 46)) := (Mem.init w).alloc _ rfl _ _
  have HM := Lib.hid M
  clear M
  go_enter Try.func18, Try.ntmps18
  go_wp2
  exact bodyPost_ret (v := .agg (bs [1, 128, 194, 0, 0, 0])) (results_cell_row rfl _ _ w.heap.size 46 _ (0, 0) _ rfl (HM.out.row 0 rfl) Try.underlying46 rfl (by kernel_rfl)) rfl ⟨rfl, HM.out.below⟩
end Go.Proofs.Ytingcoojhfadgaa
