/- law04.awake: walked. -/
import Derived.Test.YtenpohoekgfeaaaPJ
import Derived.Test.YtenpohoekgfeaaaJ
namespace Go.Proofs.Ytenpohoekgfeaaa
open Go.RowKit
theorem eq16 (a b : List UInt8) (ha : a.length = 16) (hb : b.length = 16) (w : World) : (Op.equalIn 10000 25 (.agg (bs a)) (.agg (bs b))).run Try.prog w = .ok (a == b) w :=
  eq_bytes w 25 5 16 Try.underlying25 Try.underlying5 (by kernel_rfl) a b ha hb
theorem eqKey (a b : List UInt8) (ha : a.length = 32) (hb : b.length = 32) (w : World) : (Op.equalIn 10000 23 (.agg (bs a)) (.agg (bs b))).run Try.prog w = .ok (a == b) w :=
  eq_bytes w 23 5 32 Try.underlying23 Try.underlying5 (by kernel_rfl) a b ha hb
theorem eq3 (a b : List Nat) (ha : a.length = 3) (hb : b.length = 3) (w : World) : (Op.equalIn 10000 30 (.agg (us a)) (.agg (us b))).run Try.prog w = .ok (a == b) w := by
  have h := eq_ints (P := Try.prog) w 9998 30 29 .u64 3 Try.underlying30 Try.underlying29 (by kernel_rfl) (a.map fun x : Nat => (x : Int)) (b.map fun x : Nat => (x : Int)) (by simpa using ha) (by simpa using hb)
  have e1 : ∀ l : List Nat, ((l.map fun x : Nat => (x : Int)).map (Value.int .u64)).toArray = us l := by intro l; simp [us]
  rw [e1, e1] at h
  rw [h]
  congr 1
  rw [Bool.eq_iff_iff, beq_iff_eq, beq_iff_eq]
  constructor
  · intro h2
    exact map_inj (fun x : Nat => (x : Int)) (fun a b hab => Int.ofNat_inj.1 hab) _ _ h2
  · intro h2; rw [h2]
section
variable {o : Oper} {ev : Operand → Value} {w : World} (x y : Operand) (A B : Array Value) (b : Bool)
theorem exec_eq3 (ho : o.op = .binOp .eql 30 x y 30) (hx : ev x = .agg A) (hy : ev y = .agg B) (hq : ∀ w, (Op.equalIn 10000 30 (.agg A) (.agg B)).run Try.prog w = .ok b w) :
    (execOp ev o).run Try.prog w = .ok (.value (.bool b)) w := by
  unfold execOp
  simp only [ho, hx, hy]
  go_simp
theorem exec_eq16 (ho : o.op = .binOp .eql 25 x y 25) (hx : ev x = .agg A) (hy : ev y = .agg B) (hq : ∀ w, (Op.equalIn 10000 25 (.agg A) (.agg B)).run Try.prog w = .ok b w) :
    (execOp ev o).run Try.prog w = .ok (.value (.bool b)) w := by
  unfold execOp
  simp only [ho, hx, hy]
  go_simp
theorem exec_eqKey (ho : o.op = .binOp .eql 23 x y 23) (hx : ev x = .agg A) (hy : ev y = .agg B) (hq : ∀ w, (Op.equalIn 10000 23 (.agg A) (.agg B)).run Try.prog w = .ok b w) :
    (execOp ev o).run Try.prog w = .ok (.value (.bool b)) w := by
  unfold execOp
  simp only [ho, hx, hy]
  go_simp
end
/-- an operation's value, said -/
theorem wpList_exec {P : Program} {ops : Array Oper} {rest : List Oper} {o : Oper} {a : Act} {w : World} {Q : Exit → Act → World → Prop} (hg : o.guard = none) (v : Value) (hex : (execOp a.eval o).run P w = .ok (.value v) w)
    (h : wpList P ops Q rest (a.put o.dst v) w) : wpList P ops Q (o :: rest) a w :=
  wpList_plain hg fun K hK => by
    unfold Oper.wp
    rw [hex]
    exact hK _ _ h
theorem wpList_execG {P : Program} {ops : Array Oper} {rest : List Oper} {o : Oper} {a : Act} {w : World} {Q : Exit → Act → World → Prop} (hw : Region.wanted o (yielded ops a.tmps) = true) (v : Value) (hex : (execOp a.eval o).run P w = .ok (.value v) w)
    (h : wpList P ops Q rest (a.put o.dst v) w) : wpList P ops Q (o :: rest) a w := by
  simp only [wpList, hw, if_true]
  refine Or.inl ?_
  unfold Oper.wp
  rw [hex]
  exact h
def sevenK : List UInt8 := List.replicate 16 0 ++ [7] ++ List.replicate 15 0
def seven16 : List UInt8 := [7] ++ List.replicate 15 0
theorem seven_sum : polyL sevenK [] = seven16 := by decide +kernel
theorem us4_eq : (#[U64 0, U64 0, U64 4] : Array Value) = #[.int .u64 0, .int .u64 0, .int .u64 4] := rfl
set_option maxHeartbeats 1000000 in
theorem awake4_any (w : World) : Calls Try.prog 9 #[] w fun e w' => e = .returned (.bool true) ∧ Below w.heap.size w w' := by
  have h1 := sum_any sevenK rfl ⟨#[]⟩ (by decide)
  have e0 : (⟨#[]⟩ : ByteArray).data.toList = [] := rfl
  rw [e0, seven_sum] at h1
  have h2 := rest_any 1361129467683753853853498429727072845824 (by omega)
  rw [show 1361129467683753853853498429727072845824 % 1361129467683753853853498429727072845819 = 5 from by decide] at h2
  have q1 := eq16 seven16 seven16 rfl rfl
  have q2 := eq3 (dg 18446744073709551616 5 3) (dg 18446744073709551616 5 3) (dg_length _ _ _) (dg_length _ _ _)
  have e3 : us (dg 18446744073709551616 5 3) = #[.int .u64 5, .int .u64 0, .int .u64 0] := us_word 5 (by omega)
  have e4 : us (dg 18446744073709551616 1361129467683753853853498429727072845824 3) = #[.int .u64 0, .int .u64 0, .int .u64 4] := by
    rw [us3, show 1361129467683753853853498429727072845824 % 18446744073709551616 = 0 from by decide, show 1361129467683753853853498429727072845824 / 18446744073709551616 / 18446744073709551616 % 18446744073709551616 = 4 from by decide]
    exact us4_eq
  rw [beq_self_eq_true] at q1 q2
  rw [e3] at h2 q2
  rw [e4] at h2
  have H1 := Lib.hid h1
  have H2 := Lib.hid h2
  have Q1 := Lib.hid q1
  have Q2 := Lib.hid q2
  clear h1 h2 e0 e3 e4 q1 q2
  go_enter Try.func9, Try.ntmps9
  go_upto_region 2 with (first
    | (refine wpList_buildTo rfl 23 _ rfl (some 2) rfl (bs sevenK) (by kernel_rfl) ?_)
    | (refine wpList_store_row rfl 23 (.tmp 1) (.tmp 2) rfl w.heap.size (bs sevenK) rfl rfl 23 zk32 (Has.fresh w 23 _) (infoKey sevenK rfl) (zk32_size sevenK rfl) (bs_one sevenK) ?_))
  change Code.wp _ _ _ _ ((w.alloc (.cells zk32 23)).setRow w.heap.size (bs sevenK))
  have i1 : Has ((w.alloc (.cells zk32 23)).setRow w.heap.size (bs sevenK)) w.heap.size 23 (bs sevenK) := (Has.fresh w 23 _).setRow _
  have hb : Below w.heap.size w ((w.alloc (.cells zk32 23)).setRow w.heap.size (bs sevenK)) := below_setRow ((Below.refl _ _).alloc (Nat.le_refl _) _) (Nat.le_refl _) _
  generalize (w.alloc (.cells zk32 23)).setRow w.heap.size (bs sevenK) = w0 at i1 hb ⊢
  go_wp2_with (refine wpList_load_row rfl 23 (.tmp 1) rfl w.heap.size rfl 23 (bs sevenK) (0, 0) _ i1 Try.underlying23 rfl (infoKey sevenK rfl) ?_)
  go_at_call 11
  refine (H1.out _).mono ?_
  rintro e w1 ⟨rfl, hb1⟩
  replace hb := hb.trans (hb1.mono hb.size)
  clear hb1 i1 w0
  have q1 : ∀ w, (Op.equalIn 10000 25 (.agg (bs seven16)) (.agg #[.int .u8 7, .int .u8 0, .int .u8 0, .int .u8 0, .int .u8 0, .int .u8 0, .int .u8 0, .int .u8 0, .int .u8 0, .int .u8 0, .int .u8 0, .int .u8 0, .int .u8 0, .int .u8 0, .int .u8 0, .int .u8 0])).run Try.prog w = .ok true w := Q1.out
  go_wp2_with fail
  go_at_call 12
  refine (H2.out _).mono ?_
  rintro e w2 ⟨rfl, hb1⟩
  replace hb := hb.trans (hb1.mono hb.size)
  clear hb1 w1 q1
  have q2 := Q2.out
  go_wp2
  go_ret
  exact ⟨rfl, hb⟩
end Go.Proofs.Ytenpohoekgfeaaa
