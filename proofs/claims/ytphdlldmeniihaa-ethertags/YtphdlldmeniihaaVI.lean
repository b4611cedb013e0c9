/- ether.Parse: walked, whatever parsed answers or throws. -/
import Derived.Test.YtphdlldmeniihaaVH
namespace Go.Proofs.Ytphdlldmeniihaa
open Go.RowKit
set_option maxRecDepth 20000 in
set_option maxHeartbeats 1000000 in
theorem parse_ok (s : ByteArray) (x : E8) (hx : x.Six) (hp : ∀ W, Calls Try.prog 17 #[.string s] W fun e w' => Below W.heap.size W w' ∧ e = .returned (.agg x.c)) (w : World) :
    Calls Try.prog 11 #[.string s] w fun e w' => e = .returned (.tuple #[.agg x.c, .int .i64 0]) ∧ Below w.heap.size w w' := by
  have hmf : ∀ (fn : Fn) (first cap : Array Value) (w : World), (Instr.makeFunc fn first cap).run Try.prog w = .ok (.func fn first cap) w := fun _ _ _ _ => rfl
  have M : Mem w [(w.heap.size, 32, ez.c), (w.heap.size + 1, 29, #[.int .i64 0])] ((w.alloc (.cells ez.c 32)).alloc (.cells #[.int .i64 0] 29)) :=
    ((Mem.init w).alloc _ rfl _ _).alloc _ (by simp) _ _
  have HP := Lib.hid hp
  clear hp
  go_enter_defers Try.func11, Try.ntmps11
  go_upto_region 1 with fail
  change Code.wp _ _ _ _ ((w.alloc (.cells ez.c 32)).alloc (.cells #[.int .i64 0] 29))
  generalize (w.alloc (.cells ez.c 32)).alloc (.cells #[.int .i64 0] 29) = W0 at M ⊢
  go_wp2_with fail
  refine (HP.out _).mono ?_
  rintro e w1 ⟨hb1, rfl⟩
  replace M := M.step hb1
  clear hb1
  have r0 := M.row 0 rfl
  have M2 := M.store 0 rfl x.c
  simp only [List.set_cons_zero] at M2
  have c1 := (M2.row 1 rfl).cell 0
  have f1 := (M2.row 1 rfl).frozen 0
  have M3 := M2.setCell 1 rfl 0 (.int .i64 0)
  have HM := Lib.hid M3
  have HL := Lib.hid (loadErr ⟨w.heap.size + 1, 0, none⟩ 0 _ ((M3.row 1 rfl).cell 0))
  clear M M2 M3
  go_wp2_with (first
    | (refine wpList_store_row rfl 32 (.tmp 2) (.tmp 6) rfl w.heap.size x.c rfl rfl 32 ez.c r0 (e8_info hx) (by rw [E8.size ez_six, E8.size hx]) (E8.one _) ?_))
  refine leaves_cons (f := 16) (args := #[.pointer (some ⟨w.heap.size + 1, 0, none⟩)]) (by simp) (by simp [go_sem]) ?_
  refine (catch_idle ⟨w.heap.size + 1, 0, none⟩ _).mono ?_
  rintro e u' w2 ⟨rfl, rfl, rfl⟩
  exact ⟨_, results_row_cell rfl _ _ w.heap.size 32 x.c (0, 0) _ rfl (HM.out.row 0 rfl) Try.underlying32 rfl (e8_info hx) ⟨w.heap.size + 1, 0, none⟩ _ rfl HL.out, rfl, HM.out.below⟩
set_option maxRecDepth 20000 in
set_option maxHeartbeats 1000000 in
theorem parse_no (s : ByteArray) (n : Int) (hp : ∀ W, Calls Try.prog 17 #[.string s] W fun e w' => Below W.heap.size W w' ∧ e = thrown n) (w : World) :
    Calls Try.prog 11 #[.string s] w fun e w' => e = .returned (.tuple #[.agg ez.c, .int .i64 n]) ∧ Below w.heap.size w w' := by
  have hmf : ∀ (fn : Fn) (first cap : Array Value) (w : World), (Instr.makeFunc fn first cap).run Try.prog w = .ok (.func fn first cap) w := fun _ _ _ _ => rfl
  have M : Mem w [(w.heap.size, 32, ez.c), (w.heap.size + 1, 29, #[.int .i64 0])] ((w.alloc (.cells ez.c 32)).alloc (.cells #[.int .i64 0] 29)) :=
    ((Mem.init w).alloc _ rfl _ _).alloc _ (by simp) _ _
  have HP := Lib.hid hp
  clear hp
  go_enter_defers Try.func11, Try.ntmps11
  go_upto_region 1 with fail
  change Code.wp _ _ _ _ ((w.alloc (.cells ez.c 32)).alloc (.cells #[.int .i64 0] 29))
  generalize (w.alloc (.cells ez.c 32)).alloc (.cells #[.int .i64 0] 29) = W0 at M ⊢
  go_wp2_with fail
  refine (HP.out _).mono ?_
  rintro e w1 ⟨hb1, rfl⟩
  replace M := M.step hb1
  clear hb1
  have c1 := (M.row 1 rfl).cell 0
  have f1 := (M.row 1 rfl).frozen 0
  have M3 := M.setCell 1 rfl 0 (.int .i64 n)
  have HM := Lib.hid M3
  have HL := Lib.hid (loadErr ⟨w.heap.size + 1, 0, none⟩ n _ ((M3.row 1 rfl).cell 0))
  clear M M3
  go_wp2_with fail
  go_show
  refine leaves_cons (f := 16) (args := #[.pointer (some ⟨w.heap.size + 1, 0, none⟩)]) (by simp) (by simp [go_sem]) ?_
  refine (catch_thrown ⟨w.heap.size + 1, 0, none⟩ 0 n [] _ c1 f1).mono ?_
  rintro e u' w2 ⟨rfl, rfl, rfl⟩
  exact ⟨_, results_row_cell rfl _ _ w.heap.size 32 ez.c (0, 0) _ rfl (HM.out.row 0 rfl) Try.underlying32 rfl (e8_info ez_six) ⟨w.heap.size + 1, 0, none⟩ _ rfl HL.out, rfl, HM.out.below⟩
end Go.Proofs.Ytphdlldmeniihaa
