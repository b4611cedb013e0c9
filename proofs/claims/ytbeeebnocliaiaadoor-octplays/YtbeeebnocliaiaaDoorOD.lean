/- oct.hexadecimal, oct.text: walked. -/
import Derived.Test.YtbeeebnocliaiaaDoorBU
import Derived.Test.YtbeeebnocliaiaaDoorHG
import Derived.Test.YtbeeebnocliaiaaDoorSJ
import Derived.Deep.DeepCutAuto
import Derived.RegionTactic
import Derived.BigRegion
namespace Go.Proofs.YtbeeebnocliaiaaDoor
open Go.RowKit
/-- a text as the program's value -/
abbrev S9 (x : List UInt8) : Value := .string ⟨x.toArray⟩
/-- texts as cells -/
def ss (l : List (List UInt8)) : Array Value := (l.map S9).toArray
theorem ss_size (l : List (List UInt8)) : (ss l).size = l.length := by simp [ss]
theorem ss_get (l : List (List UInt8)) (i : Nat) (h : i < l.length) : (ss l)[i]? = some (S9 (l.getD i [])) := by simp [ss, h]
theorem ss_set (l : List (List UInt8)) (i : Nat) (x : List UInt8) : (ss l).setIfInBounds i (S9 x) = ss (l.set i x) := by simp [ss, List.map_set]
theorem Has.str {w : World} {g : Nat} {t : TypeId} {l : List (List UInt8)} (h : Has w g t (ss l)) (i : Nat) (hi : i < l.length) : w.cell? ⟨g, i, none⟩ = some (S9 (l.getD i [])) := by
  rw [h.cell, ss_get l i hi]
theorem Has.setS {w : World} {g : Nat} {t : TypeId} {l : List (List UInt8)} (h : Has w g t (ss l)) (i : Nat) (x : List UInt8) : Has (w.setCell ⟨g, i, none⟩ (S9 x)) g t (ss (l.set i x)) := by
  rw [← ss_set]; exact h.set i _
theorem made_ss (n : Nat) : madeCells #[.string ByteArray.empty] n = ss (List.replicate n []) := by
  apply Array.toList_inj.1
  rw [toList_madeCells_one]
  simp [ss]
  right
  rfl
theorem padS_set (xs : List (List UInt8)) (n j : Nat) (hj : j < xs.length) (hn : j < n) : (xs.take j ++ List.replicate (n - j) []).set j (xs.getD j []) = xs.take (j + 1) ++ List.replicate (n - (j + 1)) [] := by
  have hl : (xs.take j).length = j := by rw [List.length_take]; omega
  rw [List.set_append_right _ _ (by omega), hl, Nat.sub_self, show n - j = (n - (j + 1)) + 1 from by omega, List.replicate_succ, List.set_cons_zero, List.take_succ_eq_append_getElem hj, List.getD_eq_getElem?_getD, List.getElem?_eq_getElem hj]
  simp only [Option.getD_some, List.append_assoc, List.cons_append, List.nil_append]
theorem padS_length (xs : List (List UInt8)) (n j : Nat) (hj : j ≤ xs.length) (hn : j ≤ n) : (xs.take j ++ List.replicate (n - j) []).length = n := by
  rw [List.length_append, List.length_take, List.length_replicate]; omega
theorem str_info : (Tryd.prog.info? 9).map (fun i => (i.zero, i.size, i.bytes)) = some (some (.string ByteArray.empty), 1, 16) := by kernel_rfl
theorem make_strs (m : Nat) (hm : m ≤ 1000000) (w : World) :
    (Instr.makeSlice 63 (.int .i64 (m : Int)) (.int .i64 (m : Int))).run Tryd.prog w = .ok (.slice (some ⟨w.heap.size, 0, none⟩) m m) (w.alloc (.cells (ss (List.replicate m [])) 9)) := by
  obtain ⟨i, hi, hz0, hz1, hz2⟩ := info_parts str_info
  have h := run_make (P := Tryd.prog) w 63 9 i (.string ByteArray.empty) Tryd.underlying63 hi hz0 .i64 .i64 m m (by omega) (by omega) (by rw [hz2]; omega) (by omega)
  rw [h, hz1, Int.toNat_natCast, Nat.mul_one, ← made_ss]
  rfl
theorem join_le (xs : List (List UInt8)) (sep : List UInt8) (k : Nat) (h : ∀ x ∈ xs, x.length ≤ k) : (Lib.join xs sep).length ≤ xs.length * (k + sep.length) := by
  unfold Lib.join
  induction xs with
  | nil => simp [List.intercalate]
  | cons x r ih =>
    have hx := h x (by simp)
    have hr := ih (fun y hy => h y (by simp [hy]))
    cases r with
    | nil => simp [List.intercalate] at *; omega
    | cons y r =>
      have e : sep.intercalate (x :: y :: r) = x ++ (sep ++ sep.intercalate (y :: r)) := by simp [List.intercalate]
      rw [e, List.length_append, List.length_append, List.length_cons, Nat.succ_mul]
      omega
/-- texts that lie in a block, joined -/
theorem join_has {w : World} {g : Nat} {t : TypeId} {l : List (List UInt8)} (h : Has w g t (ss l)) (n : Nat) (hl : l.length = n) (mark : List UInt8) (hn : n ≤ 140737488355328) (hlen : (Lib.join l mark).length ≤ 140737488355328) :
    Calls Tryd.prog 33 #[.slice (some ⟨g, 0, none⟩) n n, S9 mark] w fun e w' => e = .returned (S9 (Lib.join l mark)) ∧ Below w.heap.size w w' := by
  subst hl
  have e1 : (l.map (fun x => (⟨x.toArray⟩ : ByteArray))).length = l.length := List.length_map _
  have e2 : (l.map (fun x => (⟨x.toArray⟩ : ByteArray))).map (·.data.toList) = l := by
    rw [List.map_map]
    exact List.map_id'' (fun x => rfl) l
  have hc := joinS_strings_Join g 0 l.length (l.map (fun x => (⟨x.toArray⟩ : ByteArray))) ⟨mark.toArray⟩ w (fun j x hx => by
    rw [List.getElem?_map] at hx
    have hj : j < l.length := by
      rcases Nat.lt_or_ge j l.length with hj | hj
      · exact hj
      · rw [List.getElem?_eq_none hj] at hx; cases hx
    rw [List.getElem?_eq_getElem hj] at hx
    cases hx
    rw [Nat.zero_add, h.str j hj, List.getD_eq_getElem?_getD, List.getElem?_eq_getElem hj]
    rfl) h.lt (by rw [e1]; exact hn) (by rw [e1]; exact Nat.le_refl _) (by rw [e2]; exact hlen)
  rw [e1, e2] at hc
  exact hc
/-- the two digits of a byte -/
def hexD (n : Nat) : UInt8 := UInt8.ofNat (if n < 10 then 48 + n else 87 + n)
def hexL (b : UInt8) : List UInt8 := [hexD (b.toNat / 16), hexD (b.toNat % 16)]
set_option maxRecDepth 20000 in
theorem hexadecimal_any (b : UInt8) (w : World) :
    Calls Tryd.prog 26 #[B8 b] w fun e w' => e = .returned (S9 (hexL b)) ∧ Below w.heap.size w w' := by
  have hb := UInt8.toNat_lt b
  obtain ⟨q, hq⟩ : ∃ q, b.toNat / 16 = q := ⟨_, rfl⟩
  obtain ⟨r, hr⟩ : ∃ r, b.toNat % 16 = r := ⟨_, rfl⟩
  have e1 : ((b.toNat : Int) / 16) = (q : Int) := by omega
  have e2 : bits .and .u8 (b.toNat : Int) 15 = (r : Int) := by
    have h := u8_and_nat b.toNat 15 (by omega) (by omega)
    rw [show ((15 : Nat) : Int) = 15 from rfl] at h
    rw [h, ← hr]
    exact congrArg (fun x : Nat => (x : Int)) (Nat.and_two_pow_sub_one_eq_mod b.toNat 4)
  have hq16 : q < 16 := by omega
  have hr16 : r < 16 := by omega
  have HQ := Lib.hid (And.intro hq hr)
  clear hq hr
  have hx : ∀ n (h : n < 16), ((⟨#[48, 49, 50, 51, 52, 53, 54, 55, 56, 57, 97, 98, 99, 100, 101, 102]⟩ : ByteArray)[n]'(h)) = hexD n := by decide
  have hxq := hx q hq16
  have hxr := hx r hr16
  have hqi : (q : Int) < 16 := by omega
  have hri : (r : Int) < 16 := by omega
  have HXL : Hid (hexL b = [hexD q, hexD r]) := Lib.hid (by unfold hexL; rw [HQ.out.1, HQ.out.2])
  clear hx
  go_enter Tryd.func26, Tryd.ntmps26
  go_upto_region 1 with fail
  refine wp_region_noPanic ?_
  refine wp_region_held_drew (S := fun w' => True) (by kernel_rfl) trivial (fun hS => ?_)
  refine take1 hS 0 3 (B8 b) _ rfl (by kernel_rfl) (by kernel_rfl) (by kernel_rfl) (fun _ _ _ h => h) rfl rfl (fun w' h => by go_simp) ?_
  simp only [Act.put, List.setIfInBounds_toArray, List.set_cons_zero, List.set_cons_succ]
  refine take1 hS 1 4 (.int .u8 (q : Int)) _ rfl (by kernel_rfl) (by kernel_rfl) (by kernel_rfl) (fun _ _ _ h => h) rfl rfl (fun w' h => by go_simp) ?_
  simp only [Act.put, List.setIfInBounds_toArray, List.set_cons_zero, List.set_cons_succ]
  refine take1 hS 2 5 (B8 (hexD q)) _ rfl (by kernel_rfl) (by kernel_rfl) (by kernel_rfl) (fun _ _ _ h => h) rfl rfl (fun w' h => by go_simp) ?_
  simp only [Act.put, List.setIfInBounds_toArray, List.set_cons_zero, List.set_cons_succ]
  refine take1 hS 3 6 (B8 b) _ rfl (by kernel_rfl) (by kernel_rfl) (by kernel_rfl) (fun _ _ _ h => h) rfl rfl (fun w' h => by go_simp) ?_
  simp only [Act.put, List.setIfInBounds_toArray, List.set_cons_zero, List.set_cons_succ]
  refine take1 hS 4 7 (.int .u8 (r : Int)) _ rfl (by kernel_rfl) (by kernel_rfl) (by kernel_rfl) (fun _ _ _ h => h) rfl rfl (fun w' h => by go_simp) ?_
  simp only [Act.put, List.setIfInBounds_toArray, List.set_cons_zero, List.set_cons_succ]
  refine take1 hS 5 8 (B8 (hexD r)) _ rfl (by kernel_rfl) (by kernel_rfl) (by kernel_rfl) (fun _ _ _ h => h) rfl rfl (fun w' h => by go_simp) ?_
  simp only [Act.put, List.setIfInBounds_toArray, List.set_cons_zero, List.set_cons_succ]
  have hN := Has.fresh w.drew 5 (bs [hexD q, hexD r])
  have hbA : Below w.heap.size w (w.drew.alloc (.cells (bs [hexD q, hexD r]) 5)) := (Below.refl _ _).drew.alloc (Nat.le_refl _) _
  have hcv := conv_bytes hN 2 2 rfl
  refine onlyVal 6 9 (.slice (some ⟨w.drew.heap.size, 0, none⟩) 2 2) (w.drew.alloc (.cells (bs [hexD q, hexD r]) 5)) _ (by kernel_rfl) rfl rfl rfl (by go_simp; rfl) trivial ?_
  simp only [Act.put, List.setIfInBounds_toArray, List.set_cons_zero, List.set_cons_succ]
  generalize w.drew.alloc (.cells (bs [hexD q, hexD r]) 5) = wb at hbA hcv ⊢
  generalize w.drew.heap.size = gc at hcv ⊢
  refine onlyVal 7 10 (S9 [hexD q, hexD r]) wb _ (by kernel_rfl) rfl rfl rfl (by go_simp) trivial ?_
  simp only [Act.put, List.setIfInBounds_toArray, List.set_cons_zero, List.set_cons_succ]
  refine onlyVal 8 2 (S9 [hexD q, hexD r]) wb _ (by kernel_rfl) rfl rfl rfl (by go_simp) trivial ?_
  simp only [Act.put, List.setIfInBounds_toArray, List.set_cons_zero, List.set_cons_succ]
  refine wpAnyH_done (by kernel_rfl) ?_ _
  refine NoPanic.normal ?_
  go_wp2
  go_ret
  exact ⟨by rw [HXL.out]; rfl, hbA⟩
set_option maxRecDepth 20000 in
set_option maxHeartbeats 1000000 in
/-- an address as a text: each byte told by f, marks between -/
theorem text_any (f : FuncId) (T : UInt8 → List UInt8) (mark : List UInt8) (g : Nat) (t : TypeId) (l : List UInt8) (n : Nat) (hn : l.length = n) (hn2 : n ≤ 16) (hm : mark.length ≤ 1) (w : World)
    (hen : ∀ args w, (callFunc f args).run Tryd.prog w = .ok (.enter f args) w) (hTl : ∀ b, (T b).length ≤ 8) (hg : Has w g t (bs l))
    (hT : ∀ b W, Below w.heap.size w W → Calls Tryd.prog f #[B8 b] W fun e w' => e = .returned (S9 (T b)) ∧ Below W.heap.size W w') :
    Calls Tryd.prog 27 #[.slice (some ⟨g, 0, none⟩) n n, S9 mark, .func (.func f) #[] #[]] w fun e w' => e = .returned (S9 (Lib.join (l.map T) mark)) ∧ Below w.heap.size w w' := by
  have hmk := fun w => make_strs n (by omega) w
  have hgl := hg.lt
  have hi : Has (w.alloc (.cells (ss (List.replicate n [])) 9)) w.heap.size 9 (ss (List.replicate n [])) := Has.fresh w _ _
  have hb0 : Below w.heap.size w (w.alloc (.cells (ss (List.replicate n [])) 9)) := (Below.refl _ _).alloc (Nat.le_refl _) _
  have hlen : (Lib.join (l.map T) mark).length ≤ 140737488355328 := by
    have := join_le (l.map T) mark 8 (fun x hx => by obtain ⟨b, _, rfl⟩ := List.mem_map.1 hx; exact hTl b)
    rw [List.length_map, hn] at this
    have h2 : n * (8 + mark.length) ≤ 16 * 9 := Nat.mul_le_mul hn2 (by omega)
    omega
  have HT := Lib.hid hT
  have HLEN := Lib.hid hlen
  have HG := Lib.hid hg
  have HN := Lib.hid hn
  have HM := Lib.hid hm
  clear hT hlen hg hn hTl hm
  go_enter Tryd.func27, Tryd.ntmps27
  go_wp2
  change Code.wp _ _ _ _ (w.alloc (.cells (ss (List.replicate n [])) 9))
  generalize w.alloc (.cells (ss (List.replicate n [])) 9) = w0 at hi hb0 ⊢
  go_wp2
  go_loopw [15] (fun i wr => ∃ (j : Nat), j ≤ n ∧ i = .int .i64 (j : Int) ∧ Has wr w.heap.size 9 (ss ((l.map T).take j ++ List.replicate (n - j) [])) ∧ Below w.heap.size w wr) (fun i _ => n - (intOf i).toNat)
  case atStart => exact ⟨0, by omega, rfl, hi, hb0⟩
  case round =>
    clear hi hb0 w0
    obtain ⟨j, hj, rfl, i3, hb⟩ := hrel
    by_cases hlt : j < n
    · have t1 : decide ((j : Int) < (n : Int)) = true := by simp; omega
      have hjn : (j : Int) < (n : Int) := by omega
      have hgw := HG.out.below hb hgl
      have c1 := hgw.byte j (by rw [HN.out]; exact hlt)
      have f1 := hgw.frozen j
      have hLt : (l.map T).length = n := by rw [List.length_map, HN.out]
      have hgd : (l.map T).getD j [] = T (l.getD j 0) := by
        have hjl : j < l.length := by rw [HN.out]; exact hlt
        rw [List.getD_eq_getElem?_getD, List.getD_eq_getElem?_getD, List.getElem?_map, List.getElem?_eq_getElem hjl]
        rfl
      have hset := padS_set (l.map T) n j (by omega) hlt
      rw [hgd] at hset
      have hpl := padS_length (l.map T) n j (by omega) hj
      have hc := HT.out (l.getD j 0)
      generalize l.getD j 0 = y at c1 hgd hc hset
      have HC := Lib.hid hc
      have HP := Lib.hid hpl
      have HS := Lib.hid hset
      have HH := Lib.hid (And.intro i3 hb)
      clear hgw hLt hgd hset hpl hc i3 hb
      go_wp2_with (first | (go_at_fn f; refine (HC.out _ ?_).mono ?_; · exact HH.out.2
                            rintro e w1 ⟨rfl, hb1⟩; refine Hid.out ?_) | fail)
      have hi1 := HH.out.1.below hb1 HH.out.1.lt
      have hb2 := HH.out.2.trans (hb1.mono HH.out.2.size)
      have c2 := hi1.str j (by rw [HP.out]; exact hlt)
      have f2 := hi1.frozen j
      have j3 := hi1.setS j (T y)
      rw [HS.out] at j3
      have jb := hb2.setCell (p := ⟨w.heap.size, j, none⟩) (Nat.le_refl _) (S9 (T y))
      generalize T y = ty at j3 jb HS HC ⊢
      have HJ := Lib.hid (And.intro j3 jb)
      clear j3 jb hi1 hb2 hb1 HH HS HP HC c1
      refine Lib.hid ?_
      go_wp2
      go_roundw
      case rel => exact ⟨j + 1, by omega, by go_num, HJ.out⟩
      case measure => simp [intOf]; omega
    · have hj2 : j = n := by omega
      subst hj2
      have hLt : (l.map T).length = j := by rw [List.length_map, HN.out]
      rw [Nat.sub_self, List.replicate_zero, List.append_nil, List.take_of_length_le (by rw [hLt]; exact Nat.le_refl _)] at i3
      have hcj := join_has i3 j hLt mark (by omega) HLEN.out
      obtain ⟨R, hR⟩ : ∃ R, Lib.join (l.map T) mark = R := ⟨_, rfl⟩
      rw [hR] at hcj
      have HR := Lib.hid hR
      clear hR
      have HC := Lib.hid hcj
      have HB := Lib.hid hb
      clear hcj hLt i3 hb
      go_wp2_with (go_at_call 33; refine HC.out.mono ?_; rintro e w1 ⟨rfl, hb1⟩)
      go_ret
      exact ⟨by rw [HR.out]; rfl, HB.out.trans (hb1.mono HB.out.size)⟩
end Go.Proofs.YtbeeebnocliaiaaDoor
