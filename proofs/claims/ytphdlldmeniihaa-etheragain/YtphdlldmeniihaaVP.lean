/- The law EtherAgain: walked. -/
import Derived.Test.YtphdlldmeniihaaVN
namespace Go.Proofs.Ytphdlldmeniihaa
open Go.RowKit
set_option maxRecDepth 20000 in
set_option maxHeartbeats 1000000 in
theorem again8_any (s : ByteArray) (w : World) : Calls Try.prog 4 #[.string s] w fun e w' => e = .returned (.bool true) ∧ Below w.heap.size w w' := by
  have ha := fun W => awake_any W
  have HA := Lib.hid ha
  clear ha
  by_cases h0 : 2000 < s.size
  · have h1 : (2000 : Int) < (s.size : Int) := by omega
    go_enter Try.func4, Try.ntmps4
    go_wp2_with fail
    refine (HA.out _).mono ?_
    rintro e w1 ⟨rfl, hb1⟩
    go_wp2_with fail
    refine (HA.out _).mono ?_
    rintro e w2 ⟨rfl, hb2⟩
    go_wp2
    go_ret
    exact ⟨rfl, hb1.trans (hb2.mono hb1.size)⟩
  · have h1 : ¬ (2000 : Int) < (s.size : Int) := by omega
    have hps := fun W => parse_any s (by omega) W
    have hx := parse_six s
    by_cases hn : (parseF s).1 = 0
    · obtain ⟨hr, hbt, hle⟩ := parse_right hn
      rw [hn] at hps
      generalize (parseF s).2 = x at hps hx hr hbt hle
      have hpr := fun W => print_any x hx W
      unfold printF at hpr
      rw [if_pos hr] at hpr
      have hrt := fun W => right_any x hx W
      rw [hr] at hrt
      have hpp := fun W => parse_any ⟨x.bytes.toArray⟩ (by rw [str_size]; omega) W
      rw [parse_bytes hx hr] at hpp
      have hsl : s.extract 0 x.bytes.length = ⟨x.bytes.toArray⟩ := by
        apply ext_list
        rw [extract_list, str_list]
        exact hbt.symm
      have hts : (⟨x.bytes.toArray⟩ : ByteArray).size = x.bytes.length := rfl
      have HPS := Lib.hid hps
      have HPR := Lib.hid hpr
      have HRT := Lib.hid hrt
      have HPP := Lib.hid hpp
      clear hps hpr hrt hpp hr hbt hn
      generalize x.bytes.length = m at hsl hts hle
      generalize (⟨x.bytes.toArray⟩ : ByteArray) = T at HPR HPP hsl hts
      have hle2 : (m : Int) ≤ (s.size : Int) := by omega
      have M := Mem.init w
      go_enter Try.func4, Try.ntmps4
      go_wp2_with fail
      refine (HA.out _).mono ?_
      rintro e w1 ⟨rfl, hb1⟩
      replace M := M.step hb1
      clear hb1
      go_wp2_with fail
      refine (HPS.out _).mono ?_
      rintro e w2 ⟨rfl, hb2⟩
      replace M := M.step hb2
      clear hb2
      replace M := M.alloc _ rfl 32 ez.c
      simp only [List.nil_append] at M
      have r0 := M.row 0 rfl
      replace M := M.store 0 rfl x.c
      simp only [List.set_cons_zero] at M
      have i0 := M.row 0 rfl
      have HM := Lib.hid M
      clear M
      go_wp2_with (first
        | (refine wpList_store_row rfl 32 (.tmp 3) (.tmp 20) rfl w2.heap.size x.c rfl rfl 32 ez.c r0 (e8_info hx) (ez_size hx) (E8.one _) ?_)
        | (refine wpList_load_row rfl 32 (.tmp 3) rfl w2.heap.size rfl 32 x.c (0, 0) _ i0 Try.underlying32 rfl (e8_info hx) ?_))
      have M := HM.out
      clear HM r0 i0
      change Calls _ _ _ ((w2.alloc (.cells ez.c 32)).setRow w2.heap.size x.c) _
      generalize (w2.alloc (.cells ez.c 32)).setRow w2.heap.size x.c = W3 at M ⊢
      generalize w2.heap.size = g at M ⊢
      refine (HPR.out _).mono ?_
      rintro e w3 ⟨rfl, hb3⟩
      replace M := M.step hb3
      clear hb3
      go_wp2_with fail
      refine (HPP.out _).mono ?_
      rintro e w4 ⟨rfl, hb4⟩
      replace M := M.step hb4
      clear hb4
      replace M := M.alloc _ rfl 32 ez.c
      simp only [List.cons_append, List.nil_append] at M
      have r1 := M.row 1 rfl
      replace M := M.store 1 rfl x.c
      simp only [List.set_cons_zero, List.set_cons_succ] at M
      have i0 := M.row 0 rfl
      have HM := Lib.hid M
      clear M
      go_wp2_with (first
        | (refine wpList_store_row rfl 32 (.tmp 7) (.tmp 35) rfl w4.heap.size x.c rfl rfl 32 ez.c r1 (e8_info hx) (ez_size hx) (E8.one _) ?_)
        | (refine wpList_load_row rfl 32 (.tmp 3) rfl g rfl 32 x.c (0, 0) _ i0 Try.underlying32 rfl (e8_info hx) ?_))
      have M := HM.out
      clear HM r1 i0
      change Calls _ _ _ ((w4.alloc (.cells ez.c 32)).setRow w4.heap.size x.c) _
      generalize (w4.alloc (.cells ez.c 32)).setRow w4.heap.size x.c = W5 at M ⊢
      generalize w4.heap.size = h at M ⊢
      refine (HRT.out _).mono ?_
      rintro e w5 ⟨rfl, hb5⟩
      replace M := M.step hb5
      clear hb5
      have i0 := M.row 0 rfl
      have i1 := M.row 1 rfl
      go_wp2_with (first
        | (refine wpList_load_rowG rfl 32 (.tmp 7) rfl h rfl 32 x.c (0, 0) _ i1 Try.underlying32 rfl (e8_info hx) ?_)
        | (refine wpList_load_rowG rfl 32 (.tmp 3) rfl g rfl 32 x.c (0, 0) _ i0 Try.underlying32 rfl (e8_info hx) ?_)
        | (refine wpExecG rfl (.bool true) (exec_same x hx (.tmp 48) (.tmp 49) rfl rfl rfl) ?_))
      go_show
      go_ret
      exact ⟨rfl, M.below⟩
    · rw [parse_err hn] at hps
      generalize (parseF s).1 = n at hps hn
      have HPS := Lib.hid hps
      clear hps hx
      have M := Mem.init w
      go_enter Try.func4, Try.ntmps4
      go_wp2_with fail
      refine (HA.out _).mono ?_
      rintro e w1 ⟨rfl, hb1⟩
      replace M := M.step hb1
      clear hb1
      go_wp2_with fail
      refine (HPS.out _).mono ?_
      rintro e w2 ⟨rfl, hb2⟩
      replace M := M.step hb2
      clear hb2
      replace M := M.alloc _ rfl 32 ez.c
      simp only [List.nil_append] at M
      have r0 := M.row 0 rfl
      replace M := M.store 0 rfl ez.c
      simp only [List.set_cons_zero] at M
      have i0 := M.row 0 rfl
      have HM := Lib.hid M
      clear M
      go_wp2_with (first
        | (refine wpList_store_row rfl 32 (.tmp 3) (.tmp 20) rfl w2.heap.size ez.c rfl rfl 32 ez.c r0 (e8_info ez_six) rfl (E8.one _) ?_)
        | (refine wpList_load_row rfl 32 (.tmp 3) rfl w2.heap.size rfl 32 ez.c (0, 0) _ i0 Try.underlying32 rfl (e8_info ez_six) ?_)
        | (refine wpExec rfl (.bool true) (exec_same ez ez_six (.tmp 24) (.tmp 25) rfl rfl rfl) ?_))
      go_show
      go_ret
      exact ⟨rfl, HM.out.below⟩
end Go.Proofs.Ytphdlldmeniihaa
