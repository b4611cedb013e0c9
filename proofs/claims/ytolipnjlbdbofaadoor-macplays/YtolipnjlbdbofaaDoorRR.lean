/- causeyref02.Keys: walked, of up to 4 keys. -/
import Derived.Test.YtolipnjlbdbofaaDoorRQ
import Derived.Test.YtolipnjlbdbofaaDoorMI
import Derived.Test.YtolipnjlbdbofaaDoorHI
import Derived.Great.BuildSlice
namespace Go.Proofs.YtolipnjlbdbofaaDoor
open Go.RowKit
theorem own_below {w w' : World} {base size n : Nat} {e : TypeId} {v : Value} {xs : List Value} (h : w.ownsRow base e size v n xs) (hb : Below w.heap.size w w') : w'.ownsRow base e size v n xs := by
  refine ⟨h.1, ?_⟩
  rcases h.2 with h0 | ⟨g, cap, cur, hv, hg, hh, h1⟩
  · exact Or.inl h0
  · exact Or.inr ⟨g, cap, cur, hv, hg, (hb.block g (Array.getElem?_eq_some_iff.1 hh).1).trans hh, h1⟩
theorem ownA_form {w : World} {base : Nat} {v : Value} {n : Nat} {xs : List Value} (h : w.ownsRow base 23 32 v n xs) : ∃ a cap, v = .slice a n cap := by
  rcases h.2 with ⟨rfl, rfl⟩ | ⟨g, cap, _, rfl, _⟩
  · exact ⟨_, _, rfl⟩
  · exact ⟨_, _, rfl⟩
theorem arr_info : (Tryd.prog.info? 23).map (fun i => (i.zero, i.size, i.bytes)) = some (some (.agg z32), 32, 32) := by kernel_rfl
theorem fill_key (i0 : TypeInfo) (hz1 : i0.size = 32) (cells : Array Value) (hc : cells.size = 32) (K : List UInt8) (hl : K.length = 32) :
    Instr.fill (fun i => some (i * i0.size, i0.size)) cells [(0, .agg (bs K))] = some (bs K) := by
  rw [hz1]
  have h := Great.fill_whole (s := 32) (by omega) [Value.agg (bs K)] cells (fun v hv => by
    simp only [List.mem_singleton] at hv
    subst hv
    show (bs K).size = 32
    rw [bs_size, hl]) (by rw [hc]; rfl)
  have e : ([Value.agg (bs K)].flatMap fun v => v.cells.toList).toArray = bs K := by
    show ((bs K).toList ++ []).toArray = bs K
    simp
  rw [e] at h
  exact h
theorem fill_key1 (i0 : TypeInfo) (hz1 : i0.size = 32) (K : List UInt8) (hl : K.length = 32) :
    Instr.fill (fun i => some (i * i0.size, i0.size)) ((Array.range (1 * i0.size)).map ((Value.agg z32).cells[· % (Value.agg z32).cells.size]!)) [(0, .agg (bs K))] = some (bs K) :=
  fill_key i0 hz1 _ (by rw [Array.size_map, Array.size_range, hz1]) K hl
theorem wpList_buildKey {ops : Array Oper} {rest : List Oper} {o : Oper} {a : Act} {w : World} {Q : Exit → Act → World → Prop} (hg : o.guard = none) (x : Operand) (ho : o.op = .buildSlice 33 1 #[(0, x)]) (K : List UInt8) (hl : K.length = 32) (hx : a.eval x = .agg (bs K))
    (h : wpList Tryd.prog ops Q rest (a.put o.dst (.slice (some ⟨w.heap.size, 0, none⟩) 1 1)) (w.alloc (.cells (bs K) 23))) : wpList Tryd.prog ops Q (o :: rest) a w := by
  obtain ⟨i0, hi0, hz0, hz1, hz2⟩ := info_parts arr_info
  refine wpList_buildSlice hg 33 23 1 #[(0, x)] ho (bs K) i0 (.agg z32) Tryd.underlying33 hi0 hz0 (by rw [hz1]; decide) (by rw [hz1]; decide) ?_ h
  simp only [List.map_toArray, List.map_cons, List.map_nil, hx]
  exact fill_key1 i0 hz1 K hl
/-- what memory holds in the midst of the making of keys -/
def VEnv (w : World) (root : List UInt8) (v : Value) (k : Nat) (cs : List UInt8) (W : World) : Prop :=
  Has W w.heap.size 23 (bs root) ∧ W.ownsRow (w.heap.size + 1) 23 32 v k (cs.map B8) ∧ Below w.heap.size w W
theorem VEnv.step {w : World} {root : List UInt8} {v : Value} {k : Nat} {cs : List UInt8} {W W' : World} (h : VEnv w root v k cs W) (hb : Below W.heap.size W W') : VEnv w root v k cs W' :=
  ⟨h.1.below hb h.1.lt, own_below h.2.1 hb, h.2.2.trans (hb.mono h.2.2.size)⟩
set_option maxHeartbeats 2000000 in
theorem refKeys_any (root : List UInt8) (hrl : root.length = 32) (info : ByteArray) (hs : info.size ≤ 300) (n : Nat) (hn : n ≤ 4) (w : World) :
    Calls Tryd.prog 14 #[.agg (bs root), .string info, .int .i64 (n : Int)] w fun e w' => ∃ a cap, e = .returned (.slice a n cap) ∧ w'.ownsRow (w.heap.size + 1) 23 32 (.slice a n cap) n ((flatK root info.data.toList n).map B8) ∧ Below w.heap.size w w' := by
  obtain ⟨i0, hi0, hz0, hz1, hz2⟩ := info_parts arr_info
  have HRL := Lib.hid hrl
  have E : VEnv w root (.slice none 0 0) 0 (flatK root info.data.toList 0) (w.alloc (.cells (bs root) 23)) := ⟨Has.fresh w 23 _, World.ownsRow_nil _ _ _ _, (Below.refl _ _).alloc (Nat.le_refl _) _⟩
  go_enter Tryd.func14, Tryd.ntmps14
  go_wp2_with fail
  generalize w.alloc (.cells (bs root) 23) = wa at E ⊢
  go_loopw [7, 8, 9] (fun v s i wr => ∃ (k : Nat) (a : Option Addr) (cap : Nat), k ≤ n ∧ v = .slice a k cap ∧ s = .string ⟨(keyN root info.data.toList k).toArray⟩ ∧ i = .int .i64 ((k : Int) + 1) ∧ VEnv w root (.slice a k cap) k (flatK root info.data.toList k) wr) (fun _ _ i _ => 10 - (intOf i).toNat)
  case atStart => exact ⟨0, none, 0, by omega, rfl, rfl, rfl, E⟩
  case round =>
    clear E wa
    obtain ⟨k, a, cap, hk, rfl, rfl, rfl, E⟩ := hrel
    by_cases hkn : k < n
    · have hle := keyN_le root info.data.toList k
      have e1 : hmacL root (keyN root info.data.toList k ++ info.data.toList ++ [UInt8.ofNat (k + 1)]) = keyN root info.data.toList (k + 1) := rfl
      have hl := keyN_length root info.data.toList k
      have hfl : flatK root info.data.toList (k + 1) = flatK root info.data.toList k ++ keyN root info.data.toList (k + 1) := rfl
      generalize hKe : keyN root info.data.toList (k + 1) = K at e1 hl hfl
      generalize keyN root info.data.toList k = A at e1 hle ⊢
      generalize hce : UInt8.ofNat (k + 1) = c at e1
      have hcn : (c.toNat : Int) = (k : Int) + 1 := by rw [← hce]; exact ofNat_toNat k (by omega)
      have hm := refMac_any ⟨root.toArray⟩ ((⟨A.toArray⟩ ++ info) ++ ⟨#[c]⟩) (by rw [str_size, hrl]; omega) (by rw [ByteArray.size_append, ByteArray.size_append, str_size]; show _ + _ + 1 ≤ _; omega)
      have el : ((⟨A.toArray⟩ ++ info) ++ ⟨#[c]⟩ : ByteArray).data.toList = A ++ info.data.toList ++ [c] := by
        rw [ByteArray.data_append, Array.toList_append, ByteArray.data_append, Array.toList_append]
      rw [str_list, el, e1] at hm
      have tx := refText_any root hrl
      have txK := refText_any K hl
      have TX := Lib.hid tx
      have TXK := Lib.hid txK
      have HM := Lib.hid hm
      have HKE := Lib.hid hKe
      have HFL := Lib.hid hfl
      have HL := Lib.hid hl
      have hcat1 : ¬ (9223372036854775807 < A.length + info.size) := by omega
      have hcat2 : ¬ (9223372036854775807 < A.length + info.size + 1) := by omega
      have w2' : IntKind.u8.wrap ((k : Int) + 1) = (c.toNat : Int) := by rw [hcn, IntKind.wrap_u8]; omega
      have t1 : decide ((k : Int) + 1 ≤ (n : Int)) = true := by simp; omega
      clear hm el e1 hKe hce hcn tx txK hfl hl
      have hu32 := Tryd.underlying23
      have hi32 : (Tryd.prog.info? 23).map (·.size) = some (root.map B8).length := by rw [List.length_map, HRL.out]; kernel_rfl
      have hy1 : ∀ w', w'.rangeAt w.heap.size 0 (root.map B8) → (Instr.loadAt 23 (.pointer (some ⟨w.heap.size, 0, none⟩))).run Tryd.prog w' = .ok (.agg (bs root)) w' := fun w' h => run_loadAt_mid (P := Tryd.prog) w' w.heap.size 0 23 (root.map B8) _ h hu32 rfl hi32
      go_upto_region 6 with fail
      refine wp_region_noPanic ?_
      refine wp_region_held_drew (S := fun w' => w'.rangeAt w.heap.size 0 (root.map B8)) (by kernel_rfl) E.1.range (fun hS => ?_)
      refine take1 hS 0 16 (.agg (bs root)) _ rfl (by kernel_rfl) (by kernel_rfl) (by kernel_rfl) (fun _ _ _ h => h) rfl rfl (fun w' h => by have := hy1 w' h; unfold execOp; simp [this, Act.eval]) ?_
      simp only [Act.put, List.setIfInBounds_toArray, List.set_cons_zero, List.set_cons_succ]
      refine take1 hS 2 18 (.string ⟨A.toArray⟩) _ rfl (by kernel_rfl) (by kernel_rfl) (by kernel_rfl) (fun _ _ _ h => h) rfl rfl (fun w' h => by go_simp) ?_
      simp only [Act.put, List.setIfInBounds_toArray, List.set_cons_zero, List.set_cons_succ]
      refine take1 hS 3 19 (.string info) _ rfl (by kernel_rfl) (by kernel_rfl) (by kernel_rfl) (fun _ _ _ h => h) rfl rfl (fun w' h => by go_simp) ?_
      simp only [Act.put, List.setIfInBounds_toArray, List.set_cons_zero, List.set_cons_succ]
      refine take1 hS 4 20 (.string (⟨A.toArray⟩ ++ info)) _ rfl (by kernel_rfl) (by kernel_rfl) (by kernel_rfl) (fun _ _ _ h => h) rfl rfl (fun w' h => by go_simp) ?_
      simp only [Act.put, List.setIfInBounds_toArray, List.set_cons_zero, List.set_cons_succ]
      refine take1 hS 5 21 (.int .i64 ((k : Int) + 1)) _ rfl (by kernel_rfl) (by kernel_rfl) (by kernel_rfl) (fun _ _ _ h => h) rfl rfl (fun w' h => by go_simp) ?_
      simp only [Act.put, List.setIfInBounds_toArray, List.set_cons_zero, List.set_cons_succ]
      refine take1 hS 6 22 (.int .u8 (c.toNat : Int)) _ rfl (by kernel_rfl) (by kernel_rfl) (by kernel_rfl) (fun _ _ _ h => h) rfl rfl (fun w' h => by go_simp) ?_
      simp only [Act.put, List.setIfInBounds_toArray, List.set_cons_zero, List.set_cons_succ]
      clear hS hy1 hi32
      refine wpAnyH_inv (fun l ac W => ∃ (b1 b7 b8 b9 b10 b11 b12 : Bool) (x10 x17 x23 x24 x25 x26 : Value), l = #[true, b1, true, true, true, true, true, b7, b8, b9, b10, b11, b12] ∧ ac = ⟨#[.agg (bs root), .string info, .int .i64 (n : Int), .pointer (some ⟨w.heap.size, 0, none⟩), undef, undef, .slice none 0 0, .slice a k cap, .string ⟨A.toArray⟩, .int .i64 ((k : Int) + 1), x10, .int .i64 ((k : Int) + 1), .int .i64 (n : Int), .bool true, u14, u15, .agg (bs root), x17, .string ⟨A.toArray⟩, .string info, .string (⟨A.toArray⟩ ++ info), .int .i64 ((k : Int) + 1), .int .u8 (c.toNat : Int), x23, x24, x25, x26, u27, u28, u29, u30, u31, u32, undef], []⟩ ∧
        (b1 = true → x17 = .string ⟨root.toArray⟩) ∧ (b7 = true → ∃ g, x23 = .slice (some ⟨g, 0, none⟩) 1 1 ∧ wr.heap.size ≤ g ∧ Has W g 5 (bs [c])) ∧ (b8 = true → x24 = .string ⟨#[c]⟩) ∧ (b9 = true → x25 = .string (⟨A.toArray⟩ ++ info ++ ⟨#[c]⟩)) ∧
        (b10 = true → x26 = .agg (bs K)) ∧ (b11 = true → ∃ g, x10 = .pointer (some ⟨g, 0, none⟩) ∧ wr.heap.size ≤ g ∧ Has W g 23 (if b12 = true then bs K else z32)) ∧ (b12 = true → b11 = true) ∧ Below wr.heap.size wr W) ?hS ?hstep ?hend _ _ _ _ (by decide +kernel) ⟨false, false, false, false, false, false, false, u10, u17, u23, u24, u25, u26, rfl, rfl, (fun h => by cases h), (fun h => by cases h), (fun h => by cases h), (fun h => by cases h), (fun h => by cases h), (fun h => by cases h), (fun h => by cases h), (Below.refl wr.heap.size wr).drew⟩
      case hS =>
        rintro l ac W ⟨b1, b7, b8, b9, b10, b11, b12, x10, x17, x23, x24, x25, x26, rfl, rfl, h1, h7, h8, h9, h10, h11, h12, hE⟩
        exact (E.1.below hE E.1.lt).range
      case hstep =>
        rintro l ac W i hi ⟨b1, b7, b8, b9, b10, b11, b12, x10, x17, x23, x24, x25, x26, rfl, rfl, h1, h7, h8, h9, h10, h11, h12, hE⟩
        have hlt := ready_lt hi
        have hnot := ready_not hi
        change i < 13 at hlt
        have hWs := hE.size
        rcases (by omega : i = 0 ∨ i = 1 ∨ i = 2 ∨ i = 3 ∨ i = 4 ∨ i = 5 ∨ i = 6 ∨ i = 7 ∨ i = 8 ∨ i = 9 ∨ i = 10 ∨ i = 11 ∨ i = 12) with rfl | rfl | rfl | rfl | rfl | rfl | rfl | rfl | rfl | rfl | rfl | rfl | rfl
        · exact absurd (show true = false from hnot) (by decide)
        · have hcall := TX.out W
          refine wpOp_call hcall rfl rfl rfl (by go_simp) ?_
          rintro e W' ⟨rfl, hbq⟩
          exact ⟨_, rfl, true, b7, b8, b9, b10, b11, b12, x10, _, x23, x24, x25, x26, rfl, rfl, (fun _ => rfl), (fun h => by obtain ⟨g, e1, e2, e3⟩ := h7 h; exact ⟨g, e1, e2, e3.below hbq e3.lt⟩), h8, h9, h10, (fun h => by obtain ⟨g, e1, e2, e3⟩ := h11 h; exact ⟨g, e1, e2, e3.below hbq e3.lt⟩), h12, hE.trans (hbq.mono hWs)⟩
        · exact absurd (show true = false from hnot) (by decide)
        · exact absurd (show true = false from hnot) (by decide)
        · exact absurd (show true = false from hnot) (by decide)
        · exact absurd (show true = false from hnot) (by decide)
        · exact absurd (show true = false from hnot) (by decide)
        · have hbA : Below W.heap.size W (W.alloc (.cells (bs [c]) 5)) := (Below.refl _ _).alloc (Nat.le_refl _) _
          refine wpOp_val (v := .slice (some ⟨W.heap.size, 0, none⟩) 1 1) (w' := W.alloc (.cells (bs [c]) 5)) rfl rfl rfl (by go_simp; rfl) ?_
          exact ⟨b1, true, b8, b9, b10, b11, b12, x10, x17, _, x24, x25, x26, rfl, rfl, h1, (fun _ => ⟨_, rfl, hWs, Has.fresh W 5 _⟩), h8, h9, h10, (fun h => by obtain ⟨g, e1, e2, e3⟩ := h11 h; exact ⟨g, e1, e2, e3.below hbA e3.lt⟩), h12, hE.trans (hbA.mono hWs)⟩
        · have hb7 : b7 = true := ready_dep hi (j := 7) (by kernel_rfl)
          obtain ⟨g, rfl, e2, e3⟩ := h7 hb7
          have hcv := conv_bytes e3 1 1 rfl
          refine wpOp_val (v := .string ⟨#[c]⟩) (w' := W) rfl rfl rfl (by go_simp) ?_
          exact ⟨b1, b7, true, b9, b10, b11, b12, x10, x17, _, _, x25, x26, rfl, rfl, h1, (fun _ => ⟨g, rfl, e2, e3⟩), (fun _ => rfl), h9, h10, h11, h12, hE⟩
        · have hb8 : b8 = true := ready_dep hi (j := 8) (by kernel_rfl)
          obtain rfl := h8 hb8
          refine wpOp_val (v := .string (⟨A.toArray⟩ ++ info ++ ⟨#[c]⟩)) (w' := W) rfl rfl rfl (by go_simp) ?_
          exact ⟨b1, b7, b8, true, b10, b11, b12, x10, x17, x23, _, _, x26, rfl, rfl, h1, h7, (fun _ => rfl), (fun _ => rfl), h10, h11, h12, hE⟩
        · have hb1 : b1 = true := ready_dep hi (j := 1) (by kernel_rfl)
          have hb9 : b9 = true := ready_dep hi (j := 9) (by kernel_rfl)
          obtain rfl := h1 hb1
          obtain rfl := h9 hb9
          have hcall := HM.out W
          refine wpOp_call hcall rfl rfl rfl (by go_simp) ?_
          rintro e W' ⟨rfl, hbq⟩
          exact ⟨_, rfl, b1, b7, b8, b9, true, b11, b12, x10, _, x23, x24, _, _, rfl, rfl, (fun _ => rfl), (fun h => by obtain ⟨g, e1, e2, e3⟩ := h7 h; exact ⟨g, e1, e2, e3.below hbq e3.lt⟩), h8, (fun _ => rfl), (fun _ => rfl), (fun h => by obtain ⟨g, e1, e2, e3⟩ := h11 h; exact ⟨g, e1, e2, e3.below hbq e3.lt⟩), h12, hE.trans (hbq.mono hWs)⟩
        · have hb11 : b11 = false := hnot
          have hb12 : b12 = false := by
            cases b12 with
            | false => rfl
            | true => rw [h12 rfl] at hb11; cases hb11
          subst hb11 hb12
          have hbA : Below W.heap.size W (W.alloc (.cells z32 23)) := (Below.refl _ _).alloc (Nat.le_refl _) _
          refine wpOp_val (v := .pointer (some ⟨W.heap.size, 0, none⟩)) (w' := W.alloc (.cells z32 23)) rfl rfl rfl (by go_simp; rfl) ?_
          exact ⟨b1, b7, b8, b9, b10, true, false, _, x17, x23, x24, x25, x26, rfl, rfl, h1, (fun h => by obtain ⟨g, e1, e2, e3⟩ := h7 h; exact ⟨g, e1, e2, e3.below hbA e3.lt⟩), h8, h9, h10, (fun _ => ⟨_, rfl, hWs, Has.fresh W 23 _⟩), (fun h => by cases h), hE.trans (hbA.mono hWs)⟩
        · have hb10 : b10 = true := ready_dep hi (j := 10) (by kernel_rfl)
          have hb11 : b11 = true := ready_dep hi (j := 11) (by kernel_rfl)
          have hb12 : b12 = false := hnot
          subst hb12
          obtain rfl := h10 hb10
          obtain ⟨g, rfl, e2, e3⟩ := h11 hb11
          rw [if_neg (by decide)] at e3
          have hst := run_storeAt_mid (P := Tryd.prog) W g 0 23 (bs K) (e3.there (bs K).size (by rw [bs_size, HL.out]; decide)) (infoA K HL.out) (bs_one K)
          have hset := setCells_bytes Tryd.prog e3 K (by unfold z32; rw [bs_size, HL.out]; rfl)
          change W.setCells g 0 (bs K).toList = _ at hset
          rw [hset] at hst
          refine wpOp_skip (w' := W.setRow g (bs K)) rfl rfl rfl (by unfold execOp; simp [hst, Act.eval]) ?_
          exact ⟨b1, b7, b8, b9, b10, b11, true, _, x17, x23, x24, x25, _, rfl, rfl, h1, (fun h => by
            obtain ⟨g', e4, e5, e6⟩ := h7 h
            have hne : g' ≠ g := by
              rintro rfl
              have h := e6.symm.trans e3
              simp at h
            exact ⟨g', e4, e5, e6.setRow_other hne _⟩), h8, h9, (fun _ => rfl), (fun _ => ⟨g, rfl, e2, by rw [if_pos rfl]; exact e3.setRow _⟩), (fun _ => hb11), below_setRow hE e2 _⟩
      case hend =>
        rintro l ac W hr ⟨b1, b7, b8, b9, b10, b11, b12, x10, x17, x23, x24, x25, x26, rfl, rfl, h1, h7, h8, h9, h10, h11, h12, hE⟩
        have no : ∀ i, i ∈ Region.ready Region.Mode.any _ _ → False := fun i hi => by rw [hr] at hi; cases hi
        have hb1 : b1 = true := by
          cases b1 with
          | true => rfl
          | false => exact (no 1 (ready_of rfl (by decide) (by kernel_rfl))).elim
        subst hb1
        have hb7 : b7 = true := by
          cases b7 with
          | true => rfl
          | false => exact (no 7 (ready_of rfl (by decide) (by kernel_rfl))).elim
        subst hb7
        have hb8 : b8 = true := by
          cases b8 with
          | true => rfl
          | false => exact (no 8 (ready_of rfl (by decide) (by kernel_rfl))).elim
        subst hb8
        have hb9 : b9 = true := by
          cases b9 with
          | true => rfl
          | false => exact (no 9 (ready_of rfl (by decide) (by kernel_rfl))).elim
        subst hb9
        have hb11 : b11 = true := by
          cases b11 with
          | true => rfl
          | false => exact (no 11 (ready_of rfl (by decide) (by kernel_rfl))).elim
        subst hb11
        have hb10 : b10 = true := by
          cases b10 with
          | true => rfl
          | false => exact (no 10 (ready_of rfl (by decide) (by kernel_rfl))).elim
        subst hb10
        have hb12 : b12 = true := by
          cases b12 with
          | true => rfl
          | false => exact (no 12 (ready_of rfl (by decide) (by kernel_rfl))).elim
        subst hb12
        clear no hr h12
        obtain rfl := h10 rfl
        obtain ⟨g, rfl, e2, e3⟩ := h11 rfl
        rw [if_pos rfl] at e3
        clear h1 h7 h8 h9 h10 h11 TX HM
        have hob := E.2.1.lt
        replace E := E.step hE
        have hWr := hE.size
        clear hE
        refine NoPanic.normal ?_
        have hN := Has.fresh W 23 (bs K)
        have hbA : Below W.heap.size W (W.alloc (.cells (bs K) 23)) := (Below.refl _ _).alloc (Nat.le_refl _) _
        have hnews : ∀ j u, (K.map B8)[j]? = some u → (W.alloc (.cells (bs K) 23)).cell? ((⟨W.heap.size, 0, none⟩ : Addr).add j) = some u := fun j u hu => by
          rw [addr_add, hN.cell]
          simpa [bs] using hu
        have hnl : (K.map B8).length = 1 * 32 := by rw [List.length_map, HL.out]
        have ho32 := bl_one K
        have HNW := Lib.hid hnews
        have HNL := Lib.hid hnl
        clear hnews hnl hN
        go_upto_region 8 with (first
          | (refine wpList_load_row rfl 23 (.tmp 10) rfl g rfl 23 (bs K) (0, 0) _ e3 Tryd.underlying23 rfl (infoA K HL.out) ?_)
          | (refine wpList_buildKey rfl (.tmp 28) rfl K HL.out rfl ?_)
          | (at_builtin; refine wpList_append_own _ rfl (.tmp 27) (.tmp 29) 33 rfl (w.heap.size + 1) 23 i0 _ 32 32 Tryd.underlying33 hi0 hz0 hz1 hz2 rfl (by omega) (.slice a k cap) k _ rfl (E.2.1.alloc _) ⟨W.heap.size, 0, none⟩ 1 1 (K.map B8) rfl HNL.out HNW.out ho32 (by unfold maxLen; omega) (by omega) (by simp; have := E.1.lt; omega) ?_; intro v2 W2 hown2 hg2 _; obtain ⟨a2, cap2, hv2⟩ := ownA_form hown2; rw [hv2] at hown2 ⊢))
        have hsz : (W.alloc (.cells (bs K) 23)).heap.size = W.heap.size + 1 := by show (W.heap.push _).size = _; simp
        have hgr : ∀ j t cs, Has W j t cs → (∀ q, (Value.slice a k cap).ownBlock = some q → j ≠ q) → Has W2 j t cs := fun j t cs hj hne =>
          (hg2.block j (by rw [hsz]; have := hj.lt; omega) (fun h => hne j h.symm rfl)).trans (hj.alloc _)
        have e4 := hgr g _ _ e3 (fun q hq => by have := hob q hq; omega)
        have e5 := hgr w.heap.size _ _ E.1 (fun q hq => by have := hob q hq; omega)
        have hB2 : Below w.heap.size w W2 := (E.2.2.alloc E.2.2.size (.cells (bs K) 23)).grown hg2 (by rw [hsz]; have := E.2.2.size; omega) (fun j hj => by have := hob j hj; omega)
        rw [← List.map_append, ← HFL.out] at hown2
        have E2 : VEnv w root (.slice a2 (k + 1) cap2) (k + 1) (flatK root info.data.toList (k + 1)) W2 := ⟨e5, hown2, hB2⟩
        clear hgr hsz hob e5 hB2 hown2 hg2 hbA HNW HNL ho32 E hv2 e3
        go_wp2_with (refine wpList_load_row rfl 23 (.tmp 10) rfl g rfl 23 (bs K) (0, 0) _ e4 Tryd.underlying23 rfl (infoA K HL.out) ?_)
        refine (TXK.out _).mono ?_
        rintro e W3 ⟨rfl, hbq⟩
        replace E2 := E2.step hbq
        clear hbq
        go_wp2
        go_roundw
        case rel => exact ⟨k + 1, a2, cap2, by omega, rfl, by rw [HKE.out], by go_num, E2⟩
        case measure => simp [intOf]; omega
    · have hk2 : k = n := by omega
      subst hk2
      have t1 : decide ((k : Int) + 1 ≤ (k : Int)) = false := by simp; omega
      go_wp2
      go_ret
      exact ⟨a, cap, rfl, E.2.1, E.2.2⟩
end Go.Proofs.YtolipnjlbdbofaaDoor
