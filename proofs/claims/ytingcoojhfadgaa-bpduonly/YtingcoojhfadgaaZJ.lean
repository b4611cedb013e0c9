/- The law BpduOnly: walked. -/
import Derived.Test.YtingcoojhfadgaaZH
namespace Go.Proofs.Ytingcoojhfadgaa
open Go.RowKit
set_option maxRecDepth 20000 in
set_option maxHeartbeats 2000000 in
theorem only11_any (s : ByteArray) (w : World) : Calls Try.prog 4 #[.string s] w fun e w' => e = .returned (.bool true) ∧ Below w.heap.size w w' := by
  have M := Mem.init w
  have ha := fun W => awake11_any W
  have HA := Lib.hid ha
  clear ha
  by_cases h0 : 1000 < s.size
  · have h1 : (1000 : Int) < (s.size : Int) := by omega
    go_enter Try.func4, Try.ntmps4
    go_wp2_with fail
    refine (HA.out _).mono ?_
    rintro e w1 ⟨rfl, hb1⟩
    replace M := M.step hb1
    clear hb1
    go_wp2_with fail
    refine (HA.out _).mono ?_
    rintro e w2 ⟨rfl, hb2⟩
    replace M := M.step hb2
    clear hb2
    go_wp2
    go_ret
    exact ⟨rfl, M.below⟩
  · have h1 : ¬ (1000 : Int) < (s.size : Int) := by omega
    have hp := fun W => parse11_any s W
    have hfit := parse11_fit s
    have hzero := parse11_zero s
    have hword := fun x h => parse11_word (s := s) (x := x) h
    obtain ⟨⟨e0, is, x⟩, hps⟩ : ∃ p, parse11 s = p := ⟨_, rfl⟩
    rw [hps] at hp hfit hzero hword
    obtain ⟨hx, hw⟩ := hfit
    simp only at hp hzero hx hw
    by_cases he : e0 = 0
    · subst he
      cases is with
      | true =>
        obtain rfl := hzero (Or.inr rfl)
        have HP := Lib.hid hp
        clear hp hzero hword hps
        go_enter Try.func4, Try.ntmps4
        go_wp2_with fail
        refine (HA.out _).mono ?_
        rintro e w1 ⟨rfl, hb1⟩
        replace M := M.step hb1
        clear hb1
        go_wp2_with fail
        refine (HP.out _).mono ?_
        rintro e w2 ⟨rfl, hb2⟩
        replace M := M.step hb2
        clear hb2
        replace M := M.alloc _ rfl 28 bz.c
        simp only [List.nil_append] at M
        have r1 := M.row 0 rfl
        replace M := M.store 0 rfl bz.c
        simp only [List.set_cons_zero] at M
        have HM := Lib.hid M
        clear M
        go_upto_region 4 with (first
          | (refine wpList_store_row rfl 28 (.tmp 3) (.tmp 19) rfl w2.heap.size bz.c rfl rfl 28 bz.c r1 (b11_info bz_fit) rfl (B11.one _) ?_))
        change Code.wp _ _ _ _ ((w2.alloc (.cells bz.c 28)).setRow w2.heap.size bz.c)
        have M := HM.out
        clear r1 HM
        generalize (w2.alloc (.cells bz.c 28)).setRow w2.heap.size bz.c = W4 at M ⊢
        generalize w2.heap.size = g1 at M ⊢
        have r0 := M.row 0 rfl
        have HM := Lib.hid M
        clear M
        go_wp2_with (first
          | (refine wpList_load_row rfl 28 (.tmp 3) rfl g1 rfl 28 bz.c (0, 0) _ r0 Try.underlying28 rfl (b11_info bz_fit) ?_)
          | (refine wpExec rfl (.agg bz.c) (build11z rfl) ?_)
          | (refine wpExec rfl (.bool true) (exec_same11 bz bz bz_fit bz_wf bz_fit bz_wf true (by simp) (.tmp 27) (.tmp 28) rfl rfl rfl) ?_))
        go_ret
        exact ⟨rfl, HM.out.below⟩
      | false =>
        obtain ⟨hr, h38, hb⟩ := hword x rfl
        have hpr := fun W => print11_any x hx W
        unfold print11 at hpr
        rw [if_pos hr] at hpr
        have h382 : (38 : Int) ≤ (s.size : Int) := by omega
        have heq : ((⟨x.bytes.toArray⟩ : ByteArray).data.toList == (s.extract 0 38).data.toList) = true := by
          rw [str_list, extract_list, List.drop_zero, Nat.sub_zero, hb]
          exact beq_self_eq_true _
        generalize (⟨x.bytes.toArray⟩ : ByteArray) = T at hpr heq
        have HP := Lib.hid hp
        have HPR := Lib.hid hpr
        have HE := Lib.hid heq
        clear hp hpr heq hr hb hzero hword hps h38
        go_enter Try.func4, Try.ntmps4
        go_wp2_with fail
        refine (HA.out _).mono ?_
        rintro e w1 ⟨rfl, hb1⟩
        replace M := M.step hb1
        clear hb1
        go_wp2_with fail
        refine (HP.out _).mono ?_
        rintro e w2 ⟨rfl, hb2⟩
        replace M := M.step hb2
        clear hb2
        replace M := M.alloc _ rfl 28 bz.c
        simp only [List.nil_append] at M
        have r1 := M.row 0 rfl
        replace M := M.store 0 rfl x.c
        simp only [List.set_cons_zero] at M
        have HM := Lib.hid M
        clear M
        go_upto_region 4 with (first
          | (refine wpList_store_row rfl 28 (.tmp 3) (.tmp 19) rfl w2.heap.size x.c rfl rfl 28 bz.c r1 (b11_info hx) (by rw [B11.size bz_fit, B11.size hx]) (B11.one _) ?_))
        change Code.wp _ _ _ _ ((w2.alloc (.cells bz.c 28)).setRow w2.heap.size x.c)
        have M := HM.out
        clear r1 HM
        generalize (w2.alloc (.cells bz.c 28)).setRow w2.heap.size x.c = W4 at M ⊢
        generalize w2.heap.size = g1 at M ⊢
        have r0 := M.row 0 rfl
        go_wp2_with (first
          | (refine wpList_load_row rfl 28 (.tmp 3) rfl g1 rfl 28 x.c (0, 0) _ r0 Try.underlying28 rfl (b11_info hx) ?_))
        refine (HPR.out _).mono ?_
        rintro e w3 ⟨rfl, hb3⟩
        replace M := M.step hb3
        clear hb3
        have HM := Lib.hid M.below
        clear M r0
        go_wp2_with (first
          | (refine wpExecG (by kernel_rfl) (.bool true) (exec_eqS (.tmp 43) (.tmp 45) _ _ true HE.out rfl rfl rfl) ?_))
        go_ret
        exact ⟨rfl, HM.out⟩
    · obtain rfl := hzero (Or.inl he)
      have t0 : (e0 != 0) = true := by simpa using he
      have HP := Lib.hid hp
      clear hp hzero hword hps he
      go_enter Try.func4, Try.ntmps4
      go_wp2_with fail
      refine (HA.out _).mono ?_
      rintro e w1 ⟨rfl, hb1⟩
      replace M := M.step hb1
      clear hb1
      go_wp2_with fail
      refine (HP.out _).mono ?_
      rintro e w2 ⟨rfl, hb2⟩
      replace M := M.step hb2
      clear hb2
      replace M := M.alloc _ rfl 28 bz.c
      simp only [List.nil_append] at M
      have r1 := M.row 0 rfl
      replace M := M.store 0 rfl bz.c
      simp only [List.set_cons_zero] at M
      have HM := Lib.hid M
      clear M
      go_upto_region 4 with (first
        | (refine wpList_store_row rfl 28 (.tmp 3) (.tmp 19) rfl w2.heap.size bz.c rfl rfl 28 bz.c r1 (b11_info bz_fit) rfl (B11.one _) ?_))
      change Code.wp _ _ _ _ ((w2.alloc (.cells bz.c 28)).setRow w2.heap.size bz.c)
      have M := HM.out
      clear r1 HM
      generalize (w2.alloc (.cells bz.c 28)).setRow w2.heap.size bz.c = W4 at M ⊢
      generalize w2.heap.size = g1 at M ⊢
      have r0 := M.row 0 rfl
      have HM := Lib.hid M
      clear M
      go_wp2_with (first
        | (refine wpList_load_row rfl 28 (.tmp 3) rfl g1 rfl 28 bz.c (0, 0) _ r0 Try.underlying28 rfl (b11_info bz_fit) ?_)
        | (refine wpExec rfl (.agg bz.c) (build11z rfl) ?_)
        | (refine wpExec rfl (.bool true) (exec_same11 bz bz bz_fit bz_wf bz_fit bz_wf true (by simp) (.tmp 27) (.tmp 28) rfl rfl rfl) ?_))
      go_ret
      exact ⟨rfl, HM.out.below⟩
end Go.Proofs.Ytingcoojhfadgaa
