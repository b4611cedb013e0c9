/- tun's Take, Held: walked. -/
import Derived.Test.YthpbhimmfmablaaTUX
namespace Go.Proofs.Ythpbhimmfmablaa
open Go.RowKit
/-- a text of which pieces came, by itself -/
structure TS where
  n : Nat
  c : Nat
  ps : List (Option ByteArray)
abbrev dT : TS := ⟨0, 0, []⟩
def TX.abs (t : TX) : TS := ⟨t.n, t.c, t.ps⟩
def cntS (ps : List (Option ByteArray)) : Nat := (ps.filter Option.isSome).length
def textS (ps : List (Option ByteArray)) : List UInt8 := joinB (ps.map fun o => o.getD ⟨#[]⟩)
abbrev Told := List TS × List UInt8 × Bool × Int
def putS (S : List TS) (i p : Nat) (b : ByteArray) : Told :=
  if cntS ((S.getD i dT).ps.set p (some b)) < (S.getD i dT).c then (S.set i ⟨(S.getD i dT).n, (S.getD i dT).c, (S.getD i dT).ps.set p (some b)⟩, [], false, 0)
  else (S.eraseIdx i, textS ((S.getD i dT).ps.set p (some b)), true, 0)
def roomS (S : List TS) : List TS := if S.length = 8 then S.eraseIdx 0 else S
def idxS : List TS → Nat → Option Nat
  | [], _ => none
  | t :: r, n => if t.n = n then some 0 else (idxS r n).map (· + 1)
def joinS (S : List TS) (n c p : Nat) (b : ByteArray) : Told :=
  match idxS S n with
  | some i => if (S.getD i dT).c ≠ c then (S, [], false, 3) else if ((S.getD i dT).ps.getD p none).isSome then (S, [], false, 10) else putS S i p b
  | none => putS (roomS S ++ [⟨n, c, List.replicate c none⟩]) (roomS S).length p b
/-- what Take makes of a joiner -/
def takeS (S : List TS) (s : ByteArray) : Told :=
  if s.data.toList = [0] then (S, [], false, 0)
  else if (readP s).1 ≠ 0 then (S, [], false, (readP s).1)
  else joinS S (readP s).2.1 (readP s).2.2.2.1 (readP s).2.2.1 (readP s).2.2.2.2
theorem idxS_some : ∀ (S : List TS) (n i : Nat), idxS S n = some i → i < S.length ∧ (S.getD i dT).n = n
  | [], n, i, h => by simp [idxS] at h
  | t :: r, n, i, h => by
    unfold idxS at h
    by_cases ht : t.n = n
    · rw [if_pos ht] at h
      injection h with h
      subst h
      exact ⟨by simp, ht⟩
    · rw [if_neg ht] at h
      cases hr : idxS r n with
      | none => rw [hr] at h; simp at h
      | some j =>
        rw [hr] at h
        simp at h
        subst h
        obtain ⟨h1, h2⟩ := idxS_some r n j hr
        exact ⟨by simp; omega, by simpa using h2⟩
theorem idxS_none : ∀ (S : List TS) (n : Nat), idxS S n = none → ∀ t, t ∈ S → t.n ≠ n
  | [], n, _, t, ht => by cases ht
  | u :: r, n, h, t, ht => by
    unfold idxS at h
    by_cases hu : u.n = n
    · rw [if_pos hu] at h; cases h
    · rw [if_neg hu] at h
      rcases List.mem_cons.1 ht with rfl | ht
      · exact hu
      · exact idxS_none r n (by
          cases hr : idxS r n with
          | none => rfl
          | some j => rw [hr] at h; simp at h) t ht
/-- bodies are pieces' bodies -/
def Bodies (ps : List (Option ByteArray)) : Prop := ∀ x, some x ∈ ps → 1 ≤ x.size ∧ x.size ≤ 512
/-- a joiner in memory that holds these texts; F: its blocks -/
def JS (B : Nat) (W : World) (jb : Nat) (F : List Nat) (S : List TS) : Prop := ∃ mb ov l, JInv B W jb mb ov l ∧ foot jb mb ov l = F ∧ l.map TX.abs = S ∧ ∀ t, t ∈ l → Bodies t.ps
theorem abs_get {l : List TX} (i : Nat) (hi : i < l.length) : (l.map TX.abs).getD i dT = (l[i]).abs := by
  rw [List.getD_eq_getElem?_getD, List.getElem?_map, List.getElem?_eq_getElem hi]
  rfl
theorem Bodies.set {ps : List (Option ByteArray)} (h : Bodies ps) (p : Nat) (b : ByteArray) (h1 : 1 ≤ b.size) (h2 : b.size ≤ 512) : Bodies (ps.set p (some b)) := by
  intro x hx
  rcases List.mem_or_eq_of_mem_set hx with h' | h'
  · exact h x h'
  · injection h' with h'
    subst h'
    exact ⟨h1, h2⟩
theorem Bodies.none (c : Nat) : Bodies (List.replicate c none) := by
  intro x hx
  rw [List.mem_replicate] at hx
  cases hx.2
theorem abs_erase (l : List TX) (i : Nat) : (l.eraseIdx i).map TX.abs = (l.map TX.abs).eraseIdx i := by
  rw [List.eraseIdx_eq_take_drop_succ, List.eraseIdx_eq_take_drop_succ, List.map_append, List.map_take, List.map_drop]
theorem abs_room (l : List TX) : (roomL l).map TX.abs = roomS (l.map TX.abs) := by
  unfold roomL roomS
  rw [List.length_map]
  split
  · exact abs_erase l 0
  · rfl
theorem room_mem {l : List TX} {t : TX} (h : t ∈ roomL l) : t ∈ l := by
  unfold roomL at h
  split at h
  · exact (List.eraseIdx_sublist l 0).subset h
  · exact h
/-- join, whatever the joiner -/
theorem join_js {B jb : Nat} {W : World} {F : List Nat} {S : List TS} (J : JS B W jb F S) (hB : B ≤ W.heap.size) (n c p : Nat) (b : ByteArray) (hn : n < 4294967296) (hc3 : c ≤ 3) (hpc : p < c) (hb1 : 1 ≤ b.size) (hb : b.size ≤ 512) :
    Calls Try.prog 26 #[.pointer (some ⟨jb, 0, none⟩), .agg (pv n c p b)] W fun e W' => ∃ F', e = .returned (.tuple #[.string ⟨(joinS S n c p b).2.1.toArray⟩, .bool (joinS S n c p b).2.2.1, .int .i64 (joinS S n c p b).2.2.2]) ∧ JS B W' jb F' (joinS S n c p b).1 ∧ Kp F W W' ∧ (∀ g, g ∈ F' → g ∈ F ∨ W.heap.size ≤ g) := by
  obtain ⟨mb, ov, l, J, rfl, rfl, hbd⟩ := J
  have hc1 : 1 ≤ c := by omega
  unfold joinS
  cases hi : idxS (l.map TX.abs) n with
  | some i =>
    obtain ⟨h1, h2⟩ := idxS_some _ n i hi
    rw [List.length_map] at h1
    rw [abs_get i h1] at h2
    simp only [abs_get i h1]
    have hti : l[i] ∈ l := List.getElem_mem h1
    have hg := J.good _ hti
    by_cases hc : (l[i]).c = c
    · rw [if_neg (show ¬ (l[i]).abs.c ≠ c from fun h => h hc)]
      cases hx : (l[i]).ps.getD p none with
      | some x =>
        rw [show (l[i]).abs.ps.getD p none = some x from hx, if_pos (show (some x).isSome = true from rfl)]
        refine (join_twice J n c p b hn hc1 hc3 hpc i h1 h2 hc x hx).mono ?_
        rintro e W' ⟨rfl, J', b'⟩
        exact ⟨_, rfl, ⟨mb, ov, l, J', rfl, rfl, hbd⟩, Kp.of_below _ b', fun g hg => Or.inl hg⟩
      | none =>
        rw [show (l[i]).abs.ps.getD p none = none from hx, if_neg (by simp)]
        have hpl : p < (l[i]).ps.length := by rw [hg.ps, hc]; exact hpc
        have hcs : cntS ((l[i]).ps.set p (some b)) = (l[i]).cnt + 1 := cnt_set (l[i]).ps p b hpl hx
        have hmb : ∃ m, mb = some m := by
          cases hm : mb with
          | none => rw [J.nomap hm] at h1; simp at h1
          | some m => exact ⟨m, rfl⟩
        obtain ⟨m, rfl⟩ := hmb
        unfold putS
        rw [abs_get i h1]
        show Calls _ _ _ _ _
        by_cases hcn : (l[i]).cnt + 1 < c
        · have hcc : cntS ((l[i]).abs.ps.set p (some b)) < (l[i]).abs.c := by
            show cntS ((l[i]).ps.set p (some b)) < (l[i]).c
            omega
          rw [if_pos hcc]
          refine (join_more J n c p b hn hc1 hc3 hpc hb i h1 h2 hc hx hcn).mono ?_
          rintro e W' ⟨ov', rfl, J', k', f'⟩
          refine ⟨_, rfl, ⟨some m, ov', _, J', rfl, ?_, fun t ht => ?_⟩, k', fun g hg => Or.inl (f' g hg)⟩
          · rw [List.map_set]; rfl
          · rcases List.mem_or_eq_of_mem_set ht with h | rfl
            · exact hbd t h
            · exact (hbd _ hti).set p b hb1 hb
        · have hcc : ¬ cntS ((l[i]).abs.ps.set p (some b)) < (l[i]).abs.c := by
            show ¬ cntS ((l[i]).ps.set p (some b)) < (l[i]).c
            omega
          rw [if_neg hcc]
          have hbs : ∀ o, o ∈ (l[i]).ps.set p (some b) → 1 ≤ (o.getD ⟨#[]⟩).size ∧ (o.getD ⟨#[]⟩).size ≤ 512 := by
            intro o ho
            have hle := cnt_le ((l[i]).ps.set p (some b))
            have hlen : ((l[i]).ps.set p (some b)).length = c := by rw [List.length_set, hg.ps, hc]
            have hcs2 : (((l[i]).ps.set p (some b)).filter Option.isSome).length = (l[i]).cnt + 1 := hcs
            have hall := cnt_all ((l[i]).ps.set p (some b)) (by omega)
            obtain ⟨q, hq, rfl⟩ := List.mem_iff_getElem.1 ho
            have h3 := hall q hq
            rw [List.getD_eq_getElem?_getD, List.getElem?_eq_getElem hq] at h3
            have h4 : ((l[i]).ps.set p (some b))[q] = some ((((l[i]).ps.set p (some b))[q]).getD ⟨#[]⟩) := h3
            exact (hbd _ hti).set p b hb1 hb _ (by rw [← h4]; exact List.getElem_mem hq)
          refine (join_last J n c p b hn hc1 hc3 hpc hb i h1 h2 hc hx hcn hbs).mono ?_
          rintro e W' ⟨ov', rfl, J', k', f'⟩
          exact ⟨_, rfl, ⟨some m, ov', _, J', rfl, abs_erase l i, fun t ht => hbd t ((List.eraseIdx_sublist l i).subset ht)⟩, k', fun g hg => Or.inl (f' g hg)⟩
    · rw [if_pos (show (l[i]).abs.c ≠ c from hc)]
      refine (join_form J n c p b hn i h1 h2 hc).mono ?_
      rintro e W' ⟨rfl, J', b'⟩
      exact ⟨_, rfl, ⟨mb, ov, l, J', rfl, rfl, hbd⟩, Kp.of_below _ b', fun g hg => Or.inl hg⟩
  | none =>
    have hnew : ∀ u, u ∈ l → u.n ≠ n := fun u hu => idxS_none _ n hi u.abs (List.mem_map.2 ⟨u, hu, rfl⟩)
    simp only
    unfold putS
    have hget : (roomS (l.map TX.abs) ++ [(⟨n, c, List.replicate c none⟩ : TS)]).getD (roomS (l.map TX.abs)).length dT = ⟨n, c, List.replicate c none⟩ := by
      rw [List.getD_eq_getElem?_getD, List.getElem?_append_right (Nat.le_refl _), Nat.sub_self]
      rfl
    rw [hget]
    have hz : cntS (List.replicate c (none : Option ByteArray)) = 0 := by unfold cntS; simp
    have hr0 : (List.replicate c (none : Option ByteArray)).getD p none = none := by
      rw [List.getD_eq_getElem?_getD, List.getElem?_replicate]
      split <;> rfl
    have hcs : cntS ((List.replicate c (none : Option ByteArray)).set p (some b)) = 1 := by
      have := cnt_set (List.replicate c none) p b (by rw [List.length_replicate]; exact hpc) hr0
      unfold cntS at hz ⊢
      omega
    by_cases hcc : 1 < c
    · rw [if_pos (by rw [hcs]; exact hcc)]
      refine (join_new_more J hB n c p b hn hc1 hc3 hpc hb hnew hcc).mono ?_
      rintro e W' ⟨m', ov', pb', rfl, J', k', f'⟩
      refine ⟨_, rfl, ⟨some m', ov', _, J', rfl, ?_, fun t ht => ?_⟩, k', f'⟩
      · rw [List.map_append, abs_room, List.set_append_right _ _ (Nat.le_refl _), Nat.sub_self]
        rfl
      · rcases List.mem_append.1 ht with h | h
        · exact hbd t (room_mem h)
        · simp at h
          subst h
          exact (Bodies.none c).set p b hb1 hb
    · rw [if_neg (by rw [hcs]; exact hcc)]
      refine (join_new_last J hB n c p b hn hc1 hc3 hpc hb hnew (by omega) hb1).mono ?_
      rintro e W' ⟨m', ov', rfl, J', k', f'⟩
      refine ⟨_, rfl, ⟨some m', ov', _, J', rfl, ?_, fun t ht => hbd t (room_mem ht)⟩, k', f'⟩
      rw [abs_room, List.eraseIdx_append_of_length_le (Nat.le_refl _), Nat.sub_self]
      simp
theorem ptr_eq (jb : Nat) (w : World) : (binOp .eql 37 (.pointer (some ⟨jb, 0, none⟩)) (.pointer none)).run Try.prog w = .ok (.bool false) w := by kernel_rfl
theorem readP_ok (s : ByteArray) (h : (readP s).1 = 0) : (readP s).2.1 < 4294967296 ∧ (readP s).2.2.2.1 ≤ 3 ∧ (readP s).2.2.1 < (readP s).2.2.2.1 ∧ 1 ≤ (readP s).2.2.2.2.size ∧ (readP s).2.2.2.2.size ≤ 512 := by
  have hlt := numP_lt (s.data.toList.drop 1) 4
  have hp : (256 : Nat) ^ 4 = 4294967296 := rfl
  have hz : (s.extract 7 s.size).size = s.size - 7 := by rw [ByteArray.size_extract]; omega
  unfold readP at h ⊢
  by_cases h0 : s.size < 1
  · rw [if_pos h0] at h; cases h
  rw [if_neg h0] at h ⊢
  by_cases h1 : bAt s 0 ≠ 1
  · rw [if_pos h1] at h; cases h
  rw [if_neg h1] at h ⊢
  by_cases h7 : s.size ≤ 7
  · rw [if_pos h7] at h; cases h
  rw [if_neg h7] at h ⊢
  by_cases hq : rightB (bAt s 6).toNat (bAt s 5).toNat (s.size - 7) = true
  · rw [if_pos hq]
    unfold rightB at hq
    simp only [Bool.and_eq_true, Bool.or_eq_true, decide_eq_true_eq] at hq
    refine ⟨by rw [← hp]; exact hlt, hq.1, hq.2.1, ?_, ?_⟩
    · show 1 ≤ (s.extract 7 s.size).size
      omega
    · show (s.extract 7 s.size).size ≤ 512
      omega
  · rw [if_neg hq] at h; cases h
theorem JS.step {B : Nat} {W W' : World} {jb : Nat} {F : List Nat} {S : List TS} (J : JS B W jb F S) (hb : Below W.heap.size W W') : JS B W' jb F S := by
  obtain ⟨mb, ov, l, J, h1, h2, h3⟩ := J
  exact ⟨mb, ov, l, J.step hb, h1, h2, h3⟩
theorem JS.lt {B : Nat} {W : World} {jb : Nat} {F : List Nat} {S : List TS} (J : JS B W jb F S) : ∀ g, g ∈ F → g < W.heap.size := by
  obtain ⟨mb, ov, l, J, rfl, _, _⟩ := J
  exact J.lt
theorem JS.base {B : Nat} {W : World} {jb : Nat} {F : List Nat} {S : List TS} (J : JS B W jb F S) : ∀ g, g ∈ F → B ≤ g := by
  obtain ⟨mb, ov, l, J, rfl, _, _⟩ := J
  exact J.base
theorem JS.kp {B : Nat} {W W' : World} {jb : Nat} {F G : List Nat} {S : List TS} (J : JS B W jb F S) (k : Kp G W W') (h : ∀ g, g ∈ F → g ∉ G) : JS B W' jb F S := by
  obtain ⟨mb, ov, l, J, rfl, h2, h3⟩ := J
  exact ⟨mb, ov, l, J.kp k h, rfl, h2, h3⟩
set_option maxRecDepth 20000 in
set_option maxHeartbeats 1000000 in
theorem take_idle (jb : Nat) (W : World) (s : ByteArray) (h : s.data.toList = [0]) : Calls Try.prog 13 #[.pointer (some ⟨jb, 0, none⟩), .string s] W fun e W' => e = .returned (.tuple #[.string ⟨#[]⟩, .bool false, .int .i64 0]) ∧ W' = W := by
  have hp := ptr_eq jb
  have he : (s.data.toList == (⟨#[0]⟩ : ByteArray).data.toList) = true := by rw [h]; rfl
  have HE := Lib.hid he
  clear he h
  go_enter Try.func13, Try.ntmps13
  go_wp2_with (first
    | (refine wpExec rfl (.bool true) (exec_eqS (.tmp 11) (.const (.string ⟨#[0]⟩)) _ _ true HE.out rfl rfl rfl) ?_))
  go_ret3
  exact ⟨rfl, rfl⟩
set_option maxRecDepth 20000 in
set_option maxHeartbeats 1000000 in
theorem take_nil (W : World) (s : ByteArray) : Calls Try.prog 13 #[.pointer none, .string s] W fun e W' => e = .returned (.tuple #[.string ⟨#[]⟩, .bool false, .int .i64 1]) ∧ W' = W := by
  have hp : ∀ w, (binOp .eql 37 (.pointer none) (.pointer none)).run Try.prog w = .ok (.bool true) w := fun w => by kernel_rfl
  go_enter Try.func13, Try.ntmps13
  go_wp2
  go_ret3
  exact ⟨rfl, rfl⟩
set_option maxRecDepth 20000 in
set_option maxHeartbeats 1000000 in
theorem take_bad (jb : Nat) (W : World) (s : ByteArray) (h : s.data.toList ≠ [0]) (hr : (readP s).1 ≠ 0) : Calls Try.prog 13 #[.pointer (some ⟨jb, 0, none⟩), .string s] W fun e W' => e = .returned (.tuple #[.string ⟨#[]⟩, .bool false, .int .i64 (readP s).1]) ∧ Below W.heap.size W W' := by
  have hp := ptr_eq jb
  have he : (s.data.toList == (⟨#[0]⟩ : ByteArray).data.toList) = false := by rw [beq_eq_false_iff_ne]; exact h
  have hc := fun w => readP_any s w
  generalize readP s = r at *
  obtain ⟨f, n, p, c, b⟩ := r
  have hf : (f == 0) = false := by rw [beq_eq_false_iff_ne]; exact hr
  have HE := Lib.hid he
  have HC := Lib.hid hc
  clear he h hc hr
  go_enter Try.func13, Try.ntmps13
  go_upto_region 5 with (first
    | (refine wpExec rfl (.bool false) (exec_eqS (.tmp 11) (.const (.string ⟨#[0]⟩)) _ _ false HE.out rfl rfl rfl) ?_)
    | fail)
  go_wp2_with fail
  refine (HC.out _).mono ?_
  rintro e w1 ⟨rfl, hb1⟩
  have hb2 : Below W.heap.size W (w1.alloc (.cells (pv n c p b) 66)) := hb1.alloc hb1.size _
  have HB := Lib.hid hb2
  clear hb1 hb2 HE HC
  go_wp2
  go_ret3
  exact ⟨rfl, HB.out⟩
set_option maxRecDepth 20000 in
set_option maxHeartbeats 1000000 in
theorem take_good {B jb : Nat} {W : World} {F : List Nat} {S : List TS} (J : JS B W jb F S) (hB : B ≤ W.heap.size) (s : ByteArray) (h : s.data.toList ≠ [0]) (hr : (readP s).1 = 0) :
    Calls Try.prog 13 #[.pointer (some ⟨jb, 0, none⟩), .string s] W fun e W' => ∃ F', e = .returned (.tuple #[.string ⟨(takeS S s).2.1.toArray⟩, .bool (takeS S s).2.2.1, .int .i64 (takeS S s).2.2.2]) ∧ JS B W' jb F' (takeS S s).1 ∧ Kp F W W' ∧ (∀ g, g ∈ F' → g ∈ F ∨ W.heap.size ≤ g) := by
  have hp := ptr_eq jb
  have he : (s.data.toList == (⟨#[0]⟩ : ByteArray).data.toList) = false := by rw [beq_eq_false_iff_ne]; exact h
  obtain ⟨r1, r2, r3, r4, r5⟩ := readP_ok s hr
  unfold takeS
  rw [if_neg h, if_neg (by rw [hr]; simp)]
  have hc := fun w => readP_any s w
  generalize readP s = r at *
  obtain ⟨f, n, p, c, b⟩ := r
  simp only at hr r1 r2 r3 r4 r5
  subst hr
  have hj := fun (W' : World) (hb : Below W.heap.size W W') => join_js (J.step hb) (by have := hb.size; omega) n c p b r1 r2 r3 r4 r5
  simp only
  generalize joinS S n c p b = R at *
  obtain ⟨S', T, q, e'⟩ := R
  have HE := Lib.hid he
  have HC := Lib.hid hc
  have HJ := Lib.hid hj
  clear he h hc hj r1 r2 r3 r4 r5
  go_enter Try.func13, Try.ntmps13
  go_upto_region 5 with (first
    | (refine wpExec rfl (.bool false) (exec_eqS (.tmp 11) (.const (.string ⟨#[0]⟩)) _ _ false HE.out rfl rfl rfl) ?_)
    | fail)
  go_wp2_with fail
  refine (HC.out _).mono ?_
  rintro e w1 ⟨rfl, hb1⟩
  have hb2 : Below W.heap.size W (w1.alloc (.cells (pv n c p b) 66)) := hb1.alloc hb1.size _
  have r1 := Has.fresh w1 66 (pv n c p b)
  have HB := Lib.hid hb2
  clear hb1 hb2 HE HC
  go_upto_region 8 with fail
  change Code.wp _ _ _ _ (w1.alloc (.cells (pv n c p b) 66))
  generalize hW2 : w1.alloc (.cells (pv n c p b) 66) = W2 at r1 HB ⊢
  clear hW2
  go_wp2_with (first
    | (refine wpExec rfl (.agg (pv n c p b)) (exec_load_row 66 (.tmp 7) w1.heap.size r1 Try.underlying66 rfl piece_size rfl rfl) ?_)
    | fail)
  refine (HJ.out _ HB.out).mono ?_
  rintro e W3 ⟨F', rfl, J', k', f'⟩
  have hfin : JS B W3 jb F' S' ∧ Kp F W W3 ∧ (∀ g, g ∈ F' → g ∈ F ∨ W.heap.size ≤ g) := ⟨J', (Kp.of_below F HB.out).trans k' (fun g hg _ => hg), fun g hg => by
    rcases f' g hg with h | h
    · exact Or.inl h
    · right; have := HB.out.size; omega⟩
  have HF := Lib.hid hfin
  clear hfin J' k' f' r1 HB HJ
  go_wp2
  go_ret3
  exact ⟨F', rfl, HF.out⟩
/-- Take, whatever the joiner and the text -/
theorem take_any {B jb : Nat} {W : World} {F : List Nat} {S : List TS} (J : JS B W jb F S) (hB : B ≤ W.heap.size) (s : ByteArray) :
    Calls Try.prog 13 #[.pointer (some ⟨jb, 0, none⟩), .string s] W fun e W' => ∃ F', e = .returned (.tuple #[.string ⟨(takeS S s).2.1.toArray⟩, .bool (takeS S s).2.2.1, .int .i64 (takeS S s).2.2.2]) ∧ JS B W' jb F' (takeS S s).1 ∧ Kp F W W' ∧ (∀ g, g ∈ F' → g ∈ F ∨ W.heap.size ≤ g) := by
  by_cases h : s.data.toList = [0]
  · refine (take_idle jb W s h).mono ?_
    rintro e W' ⟨rfl, rfl⟩
    unfold takeS
    rw [if_pos h]
    exact ⟨F, rfl, J, Kp.refl _ _, fun g hg => Or.inl hg⟩
  · by_cases hr : (readP s).1 = 0
    · exact take_good J hB s h hr
    · refine (take_bad jb W s h hr).mono ?_
      rintro e W' ⟨rfl, hb⟩
      unfold takeS
      rw [if_neg h, if_pos hr]
      exact ⟨F, rfl, J.step hb, Kp.of_below _ hb, fun g hg => Or.inl hg⟩
set_option maxRecDepth 20000 in
set_option maxHeartbeats 1000000 in
theorem held_any {B jb : Nat} {W : World} {F : List Nat} {S : List TS} (J : JS B W jb F S) : Calls Try.prog 14 #[.pointer (some ⟨jb, 0, none⟩)] W fun e W' => e = .returned (.int .i64 (S.length : Int)) ∧ W' = W := by
  have hp := ptr_eq jb
  obtain ⟨mb, ov, l, J, _, rfl, _⟩ := J
  rw [List.length_map]
  have c0 : W.cell? ⟨jb, 0, none⟩ = some (.map mb) := by rw [J.cell.cell]; rfl
  cases hm : mb with
  | none =>
    have hl := J.nomap hm
    subst hm
    subst hl
    clear J
    go_enter Try.func14, Try.ntmps14
    go_wp2_with (first
      | (refine wpExec rfl (.int .i64 0) (exec_lenN _ map_texts (.tmp 8) rfl rfl) ?_))
    go_ret
    exact ⟨rfl, rfl⟩
  | some m =>
    subst hm
    have hM := Lib.hid (J.map m rfl)
    clear J
    go_enter Try.func14, Try.ntmps14
    go_wp2_with (first
      | (refine wpExec rfl (.int .i64 (l.length : Int)) (exec_lenM hM.out map_texts (.tmp 8) rfl rfl) ?_))
    go_ret
    exact ⟨rfl, rfl⟩
set_option maxRecDepth 20000 in
theorem held_nil (W : World) : Calls Try.prog 14 #[.pointer none] W fun e W' => e = .returned (.int .i64 0) ∧ W' = W := by
  have hp : ∀ w, (binOp .eql 37 (.pointer none) (.pointer none)).run Try.prog w = .ok (.bool true) w := fun w => by kernel_rfl
  go_enter Try.func14, Try.ntmps14
  go_wp2
  go_ret
  exact ⟨rfl, rfl⟩
/-- a fresh joiner -/
theorem JS.fresh (W : World) : JS W.heap.size (W.alloc (.cells #[.map none, .slice none 0 0] 41)) W.heap.size [W.heap.size] [] := by
  refine ⟨none, .slice none 0 0, [], ⟨Has.fresh W _ _, OwR.nil _ _ _, fun _ => rfl, (fun m h => by cases h), (fun t h => by cases h), (fun t h => by cases h), by simp, by simp, ⟨(fun m h => by cases h), (fun g h => by cases h), (fun t h => by cases h), (fun m g h => by cases h), (fun m t h => by cases h), (fun g t h => by cases h), by simp⟩, fun g hg => ?_⟩, rfl, rfl, (fun t h => by cases h)⟩
  rcases mem_foot.1 hg with rfl | h | h | ⟨t, h, _⟩
  · exact Nat.le_refl _
  · cases h
  · cases h
  · cases h
end Go.Proofs.Ythpbhimmfmablaa
