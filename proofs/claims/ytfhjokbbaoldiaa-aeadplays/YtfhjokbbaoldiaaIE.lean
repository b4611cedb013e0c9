/- causeyref04.Rest: walked. -/
import Derived.Test.YtfhjokbbaoldiaaID
namespace Go.Proofs.Ytfhjokbbaoldiaa
open Go.RowKit
theorem hdig (H j : Nat) : H / 256 ^ j % 256 / 4 + H / 256 ^ (j + 1) % 256 % 4 * 64 = H / 4 / 256 ^ j % 256 := by
  have e1 : H / 256 ^ (j + 1) = H / 256 ^ j / 256 := by rw [Nat.pow_succ, Nat.div_div_eq_div_mul]
  have e2 : H / 4 / 256 ^ j = H / 256 ^ j / 4 := by rw [Nat.div_div_eq_div_mul, Nat.div_div_eq_div_mul, Nat.mul_comm]
  rw [e1, e2]
  omega
theorem getD_any (l : List Nat) (h : Dig 256 l) (j : Nat) : l.getD j 0 = num 256 l / 256 ^ j % 256 := by
  rcases Nat.lt_or_ge j l.length with hj | hj
  · exact getD_num 256 l h j hj
  · have h1 := num_lt 256 l h
    have h2 : 256 ^ l.length ≤ 256 ^ j := Nat.pow_le_pow_right (by omega) hj
    rw [List.getD_eq_getElem?_getD, List.getElem?_eq_none hj, Nat.div_eq_of_lt (by omega)]
    rfl
theorem low_num (X : List Nat) (h : Dig 256 X) (hl : 17 ≤ X.length) : num 256 (X.take 16 ++ [X.getD 16 0 % 4]) = num 256 X % 1361129467683753853853498429727072845824 := by
  rw [num_snoc, List.length_take, Nat.min_eq_left (by omega), num_take 256 X h 16 (by omega), getD_any X h 16]
  have e : (256 : Nat) ^ 16 = 340282366920938463463374607431768211456 := by decide
  rw [e]
  generalize num 256 X = V
  rw [show (1361129467683753853853498429727072845824 : Nat) = 340282366920938463463374607431768211456 * 4 from by decide, Nat.mod_mul, Nat.mod_mod_of_dvd _ (by decide : 4 ∣ 256), Nat.mul_comm]
theorem fld_modI (L : Nat) : fld L % 1361129467683753853853498429727072845819 = L % 1361129467683753853853498429727072845819 := by
  unfold fld
  have hx : L = 1361129467683753853853498429727072845824 * (L / 1361129467683753853853498429727072845824) + L % 1361129467683753853853498429727072845824 := (Nat.div_add_mod L _).symm
  generalize L / 1361129467683753853853498429727072845824 = q at *
  generalize L % 1361129467683753853853498429727072845824 = r at *
  subst hx
  rw [show 1361129467683753853853498429727072845824 * q + r = r + 5 * q + 1361129467683753853853498429727072845819 * q from by omega, Nat.add_mul_mod_self_left]
/-- i folds -/
def fldN (V : Nat) : Nat → Nat
  | 0 => V
  | i + 1 => fld (fldN V i)
theorem fldN_mod (V i : Nat) : fldN V i % 1361129467683753853853498429727072845819 = V % 1361129467683753853853498429727072845819 := by
  induction i with
  | zero => rfl
  | succ i ih => simp only [fldN]; rw [fld_modI, ih]
theorem fld_1 (V : Nat) (h : V < 497323236409786642155382248146820840100456150797347717440463976893159497012533375533056) : fld V < 2923003274661805836407369665432566039311865085952 := by unfold fld; omega
theorem fld_2 (V : Nat) (h : V < 2923003274661805836407369665432566039311865085952) : fld V < 1361129467683753853853498429737810264064 := by unfold fld; omega
theorem fld_3 (V : Nat) (h : V < 1361129467683753853853498429737810264064) : fld V < 1361129467683753853853498429727072845824 := by unfold fld; omega
theorem fldN_3 (V : Nat) (h : V < 497323236409786642155382248146820840100456150797347717440463976893159497012533375533056) : fldN V 3 < 1361129467683753853853498429727072845824 := fld_3 _ (fld_2 _ (fld_1 _ h))
theorem last_hi (V : Nat) (h : V < 1361129467683753853853498429727072845824) (h2 : 1361129467683753853853498429727072845824 ≤ V + 5) : V % 1361129467683753853853498429727072845819 = V + 5 - 1361129467683753853853498429727072845824 := mod_by (k := 1) (by omega) (by omega)
theorem last_lo (V : Nat) (h2 : V + 5 < 1361129467683753853853498429727072845824) : V % 1361129467683753853853498429727072845819 = V := Nat.mod_eq_of_lt (by omega)
theorem top16_hi (V : Nat) (h : V < 1361129467683753853853498429727072845824) (h4 : 4 ≤ (V + 5) / 340282366920938463463374607431768211456 % 256) : 1361129467683753853853498429727072845824 ≤ V + 5 := by omega
theorem top16_lo (V : Nat) (h : V < 1361129467683753853853498429727072845824) (h4 : ¬ 4 ≤ (V + 5) / 340282366920938463463374607431768211456 % 256) : V + 5 < 1361129467683753853853498429727072845824 := by omega
theorem last_set (N V y : Nat) (h4 : 4 ≤ y) (h : N + y * 340282366920938463463374607431768211456 = V + 5 + (y - 4) * 340282366920938463463374607431768211456) : N = V + 5 - 1361129467683753853853498429727072845824 := by omega
theorem last_lt (V : Nat) (h : V < 1361129467683753853853498429727072845824) : V + 5 - 1361129467683753853853498429727072845824 < 1361129467683753853853498429727072845824 := by omega
theorem no_carry (N c V n : Nat) (h : N + c * 256 ^ n = V + 5) (hV : V < 1361129467683753853853498429727072845824) (hn : 18 ≤ n) : c = 0 := by
  have hp : 256 ^ 18 ≤ 256 ^ n := Nat.pow_le_pow_right (by omega) hn
  have e18 : (256 : Nat) ^ 18 = 22300745198530623141535718272648361505980416 := by decide
  rw [e18] at hp
  rcases Nat.eq_zero_or_pos c with h1 | h1
  · exact h1
  · have : 1 * 256 ^ n ≤ c * 256 ^ n := Nat.mul_le_mul_right _ h1
    omega
theorem Ow.mono {base base' : Nat} {W : World} {v : Value} {l : List Nat} (h : Ow base W v l) (hb : base' ≤ base) : Ow base' W v l := by
  refine ⟨h.1, ?_⟩
  rcases h.2 with h1 | ⟨g, cap, cur, h1, h2, h3⟩
  · exact Or.inl h1
  · exact Or.inr ⟨g, cap, cur, h1, by omega, h3⟩
theorem dg_take17 (Z : List Nat) (h : Dig 256 Z) (hl : 17 ≤ Z.length) (_hn : num 256 Z < 1361129467683753853853498429727072845824) : Z.take 17 = dg 256 (num 256 Z) 17 := by
  refine dg_of (by omega) (h.take 17) (by rw [List.length_take]; omega) ?_
  rw [num_take 256 Z h 17 hl]
theorem e16 : (256 : Nat) ^ 16 = 340282366920938463463374607431768211456 := by decide
theorem last_y (Y : List Nat) (V3 V : Nat) (dY : Dig 256 Y) (hnum : num 256 Y = V3 + 5) (hl : 17 ≤ Y.length) (ha : V3 < 1361129467683753853853498429727072845824) (hb : V3 % 1361129467683753853853498429727072845819 = V % 1361129467683753853853498429727072845819) (h4 : 4 ≤ Y.getD 16 0) :
    (Y.set 16 (Y.getD 16 0 - 4)).take 17 = dg 256 (V % 1361129467683753853853498429727072845819) 17 := by
  have h16 := getD_any Y dY 16
  rw [hnum, e16] at h16
  have hyb : Y.getD 16 0 < 256 := dY.getD (by omega) 16
  have hset := num_set 256 Y 16 (Y.getD 16 0 - 4) (by omega)
  rw [hnum, e16] at hset
  have hge := top16_hi V3 ha (by rw [← h16]; exact h4)
  have hlast := last_hi V3 ha hge
  have hnz : num 256 (Y.set 16 (Y.getD 16 0 - 4)) = V % 1361129467683753853853498429727072845819 := by rw [← hb, hlast]; exact last_set _ _ _ h4 hset
  have h := dg_take17 _ (dY.set 16 (v := Y.getD 16 0 - 4) (Nat.lt_of_le_of_lt (Nat.sub_le _ _) hyb)) (by rw [List.length_set]; exact hl) (by rw [hnz, ← hb, hlast]; exact last_lt _ ha)
  rw [hnz] at h
  exact h
theorem last_x (X Y : List Nat) (V3 V : Nat) (dX : Dig 256 X) (dY : Dig 256 Y) (nX : num 256 X = V3) (hnum : num 256 Y = V3 + 5) (hl : 17 ≤ X.length) (ha : V3 < 1361129467683753853853498429727072845824) (hb : V3 % 1361129467683753853853498429727072845819 = V % 1361129467683753853853498429727072845819) (h4 : ¬ 4 ≤ Y.getD 16 0) :
    X.take 17 = dg 256 (V % 1361129467683753853853498429727072845819) 17 := by
  have h16 := getD_any Y dY 16
  rw [hnum, e16] at h16
  have hlo := top16_lo V3 ha (by rw [← h16]; exact h4)
  have h := dg_take17 X dX hl (by rw [nX]; exact ha)
  rw [nX, ← last_lo V3 hlo, hb] at h
  exact h
theorem wpList_appL {ops : Array Oper} {rest : List Oper} {o : Oper} {a : Act} {Q : Exit → Act → World → Prop} {w : World} (hgd : o.guard = none) (s x : Operand) (ho : o.op = .call { callee := .builtin .append, args := #[s, x], argTypes := #[67, 67] })
    {base : Nat} {v : Value} {l : List Nat} (hs : a.eval s = v) (hown : Ow base w v l) (g c : Nat) (m : List Nat) (nm : Nat) (hm : m.length = nm) (hx : a.eval x = .slice (some ⟨g, 0, none⟩) nm c) (hcell : ∀ j, j < nm → w.cell? ⟨g, j, none⟩ = some (I64 (m.getD j 0)))
    (hn : l.length + nm ≤ 100000) (hbase : base ≤ w.heap.size) (h : ∀ v' w', Ow base w' v' (l ++ m) → Below base w w' → wpList Try.prog ops Q rest (a.put o.dst v') w') : wpList Try.prog ops Q (o :: rest) a w := by
  subst hm
  exact wpList_appN hgd s x ho hs hown g c m hx hcell hn hbase h
def lenOf : Value → Nat
  | .slice _ n _ => n
  | _ => 0
theorem num_pad (l : List Nat) : num 256 (l ++ [0]) = num 256 l := by rw [num_snoc, Nat.zero_mul, Nat.add_zero]
set_option maxRecDepth 20000 in
set_option maxHeartbeats 4000000 in
theorem refRest_any (L : List Nat) (dL : Dig 256 L) (hL0 : 0 < L.length) (hL1 : L.length ≤ 36) (va : Value) (w : World) (RA : Rd w.heap.size w va L) :
    Calls Try.prog 44 #[va] w fun e w' => ∃ v, e = .returned v ∧ Rd w'.heap.size w' v (dg 256 (num 256 L % 1361129467683753853853498429727072845819) 17) ∧ Below w.heap.size w w' := by
  obtain ⟨aa, capA, rfl, hcA, hA⟩ := RA
  obtain ⟨ga, rfl, hga, cellA⟩ := hA hL0
  have hV := num_lt 256 L dL
  have hV2 : num 256 L < 497323236409786642155382248146820840100456150797347717440463976893159497012533375533056 := by
    refine Nat.lt_of_lt_of_le hV ?_
    exact Nat.le_trans (Nat.pow_le_pow_right (by omega) hL1) (by decide)
  have h3 := fldN_3 (num 256 L) hV2
  have hm3 := fldN_mod (num 256 L) 3
  obtain ⟨V, hVV⟩ : ∃ V, V = num 256 L := ⟨_, rfl⟩
  rw [← hVV] at h3 hm3 ⊢
  have hEw : Ow w.heap.size (w.alloc (.cells #[] 3)) (.slice (some ⟨w.heap.size, 0, none⟩) 0 0) [] := Ow.lit w [] (Nat.le_refl _) (by simp)
  have hcw : ∀ j, j < L.length → (w.alloc (.cells #[] 3)).cell? ⟨ga, j, none⟩ = some (I64 (L.getD j 0)) := fun j hj => (((Below.refl w.heap.size w).alloc (Nat.le_refl _) (.cells #[] 3)).cell (p := ⟨ga, j, none⟩) hga).trans (cellA j hj)
  have hbw : Below w.heap.size w (w.alloc (.cells #[] 3)) := (Below.refl _ _).alloc (Nat.le_refl _) _
  have HEW := Lib.hid hEw
  have HCW := Lib.hid hcw
  have HBW := Lib.hid hbw
  have H3 := Lib.hid (And.intro h3 hm3)
  have HDL := Lib.hid (And.intro dL (And.intro hVV (And.intro hL0 hL1)))
  obtain ⟨R, hR⟩ : ∃ R, R = dg 256 (V % 1361129467683753853853498429727072845819) 17 := ⟨_, rfl⟩
  rw [← hR]
  have HR := Lib.hid hR
  clear hEw hcw hbw hA cellA hV hV2 h3 hm3 hVV hR dL
  go_enter Try.func44, Try.ntmps44
  go_upto_region 2 with (at_builtin; refine wpList_appN (base := w.heap.size) (v := .slice (some ⟨w.heap.size, 0, none⟩) 0 0) (l := []) (w := w.alloc (.cells #[] 3)) rfl (.tmp 13) (.tmp 14) rfl rfl HEW.out ga capA L rfl HCW.out (by simp; omega) (by simp) ?_; intro v2 w2 hown2 hb2; rw [List.nil_append] at hown2; obtain ⟨a2, cap2, hv2⟩ := hown2.form; rw [hv2] at hown2 ⊢)
  have hbx := HBW.out.trans hb2
  clear hb2 HBW HEW HCW
  go_loopw [3] (fun xv wr => ∃ X : List Nat, Ow w.heap.size wr xv X ∧ Dig 256 X ∧ num 256 X = V ∧ 0 < X.length ∧ X.length ≤ 36 ∧ Below w.heap.size w wr) (fun xv _ => 18 - lenOf xv)
  case atStart => exact ⟨L, hown2, HDL.out.1, HDL.out.2.1.symm, HDL.out.2.2.1, HDL.out.2.2.2, hbx⟩
  case round =>
    clear hown2 hbx
    obtain ⟨X, how, dX, nX, lX0, lX1, hbl⟩ := hrel
    obtain ⟨av, capv, rfl⟩ := how.form
    obtain ⟨n, hn⟩ : ∃ n, n = X.length := ⟨_, rfl⟩
    rw [← hn] at how lX0 lX1 ⊢
    have HN := Lib.hid hn
    clear hn
    by_cases hlt : n < 18
    · have t1 : decide ((n : Int) < 18) = true := by simp; omega
      have HOW := Lib.hid how
      have HBL := Lib.hid hbl
      clear how hbl
      go_wp2_with (at_builtin; refine wpList_app1 rfl (.tmp 19) (.tmp 20) rfl rfl (HOW.out.alloc _) wr.heap.size 1 (0) rfl ((Has.fresh wr 3 #[I64 (0)]).cell 0) (by rw [← HN.out]; omega) (by simp; have := HBL.out.size; omega) ?_; intro v2 w2 hown2 hb2; obtain ⟨a2, cap2, hv2⟩ := hown2.form; rw [hv2] at hown2 ⊢)
      go_roundw
      case rel => exact ⟨X ++ [0], by rw [List.length_append] at hown2; exact hown2, dX.append (Dig.one (by omega)), by rw [num_pad]; exact nX, by simp, by rw [List.length_append, ← HN.out]; simp; omega, (HBL.out.alloc HBL.out.size _).trans hb2⟩
      case measure => simp [lenOf, ← HN.out]; omega
    · have t1 : decide ((n : Int) < 18) = false := by simp; omega
      have hst : ∃ X : List Nat, Ow w.heap.size wr (.slice av n capv) X ∧ Dig 256 X ∧ num 256 X = fldN V 0 ∧ X.length = n ∧ 18 ≤ n ∧ n ≤ 36 ∧ Below w.heap.size w wr := ⟨X, how, dX, nX, HN.out.symm, by omega, lX1, hbl⟩
      clear how dX nX hbl HN lX0 X
      go_wp2_with fail
      go_loopw [3, 4] (fun xv iv wr => ∃ (i n : Nat) (a : Option Addr) (cap : Nat) (X : List Nat), i ≤ 3 ∧ iv = .int .i64 (i : Int) ∧ xv = .slice a n cap ∧ Ow w.heap.size wr (.slice a n cap) X ∧ Dig 256 X ∧ num 256 X = fldN V i ∧ X.length = n ∧ 18 ≤ n ∧ n ≤ 36 ∧ Below w.heap.size w wr) (fun _ iv _ => 3 - (intOf iv).toNat)
      case atStart =>
        obtain ⟨X, h1⟩ := hst
        exact ⟨0, n, av, capv, X, by omega, rfl, rfl, h1⟩
      case round =>
        clear hst t1 lX1 hlt
        obtain ⟨i, n, av, capv, X, hi, rfl, rfl, how, dX, nX, lX, ln0, ln1, hbl⟩ := hrel
        by_cases hi3 : i < 3
        · have t1 : decide ((i : Int) < 3) = true := by simp; omega
          generalize wr = W0 at *
          obtain ⟨gx, capx, hvx, hgx0, hgx, hcx, cellX, _⟩ := how.parts (by omega)
          rw [lX] at hvx
          injection hvx with e1 e2 e3
          subst e1 e3
          have HCX := Lib.hid cellX
          have HXX := Lib.hid (And.intro dX (And.intro nX lX))
          have HBL := Lib.hid hbl
          have hsz : w.heap.size ≤ W0.heap.size := hbl.size
          rw [lX] at hcx
          clear cellX dX nX lX hbl how
          have hH0 : Ow W0.heap.size (W0.alloc (.cells #[] 3)) (.slice (some ⟨W0.heap.size, 0, none⟩) 0 0) ((X.drop 16).take 0) := Ow.lit W0 [] (Nat.le_refl _) (by simp)
          have hB0 : Below W0.heap.size W0 (W0.alloc (.cells #[] 3)) := (Below.refl _ _).alloc (Nat.le_refl _) _
          go_wp2_with fail
          go_loopw [5, 6] (fun hv jv W => ∃ (j : Nat) (a : Option Addr) (cap : Nat), j ≤ n - 16 ∧ jv = .int .i64 ((16 + j : Nat) : Int) ∧ hv = .slice a j cap ∧ Ow W0.heap.size W (.slice a j cap) ((X.drop 16).take j) ∧ Below W0.heap.size W0 W) (fun _ jv _ => n - (intOf jv).toNat)
          case atStart => exact ⟨0, _, _, by omega, rfl, rfl, hH0, hB0⟩
          case round =>
            clear hH0 hB0
            obtain ⟨j, ah, caph, hj, rfl, rfl, howH, hbH⟩ := hrel
            have hlT : ((X.drop 16).take j).length = j := by rw [List.length_take, List.length_drop, HXX.out.2.2]; omega
            by_cases hlt : j < n - 16
            · have t2 : decide (((16 + j : Nat) : Int) < (n : Int)) = true := by simp; omega
              have hjn : ¬ ((n : Int) ≤ ((16 + j : Nat) : Int)) := by omega
              have c1 := (hbH.cell (p := ⟨gx, 16 + j, none⟩) hgx).trans (HCX.out (16 + j) (by rw [HXX.out.2.2]; omega))
              have htk := take_getD (X.drop 16) j (by rw [List.length_drop, HXX.out.2.2]; omega)
              rw [show (X.drop 16).getD j 0 = X.getD (16 + j) 0 from by rw [List.getD_eq_getElem?_getD, List.getElem?_drop, ← List.getD_eq_getElem?_getD]] at htk
              have hw1 : IntKind.i64.wrap (((16 + j : Nat) : Int) + 1) = ((16 + (j + 1) : Nat) : Int) := by rw [IntWalk.i64_in _ (by omega)]; omega
              generalize X.getD (16 + j) 0 = y at c1 htk
              generalize (X.drop 16).take j = T at htk hlT howH
              have hle : (T ++ [y]).length = j + 1 := by rw [List.length_append, hlT]; rfl
              have HOW := Lib.hid howH
              have HBH := Lib.hid hbH
              have HTK := Lib.hid htk
              have HLE := Lib.hid hle
              have HLT := Lib.hid hlT
              have hqm : 16 + j < n := by omega
              generalize hqq : 16 + j = q at *
              generalize hqq2 : 16 + (j + 1) = q2 at *
              clear howH hbH htk hle hlT
              go_wp2_with (at_builtin; refine wpList_app1 rfl (.tmp 33) (.tmp 38) rfl rfl (HOW.out.alloc _) wr.heap.size 1 y rfl ((Has.fresh wr 3 #[I64 y]).cell 0) (by rw [HLT.out]; omega) (by simp; have := HBH.out.size; omega) ?_; intro v2 w2 hown2 hb2; obtain ⟨a2, cap2, hv2⟩ := hown2.form; rw [hv2] at hown2 ⊢; rw [HLE.out] at hown2 ⊢)
              go_roundw
              case rel => exact ⟨j + 1, a2, cap2, by omega, by rw [hqq2], rfl, by rw [HTK.out]; exact hown2, (HBH.out.alloc HBH.out.size _).trans hb2⟩
              case measure => simp [intOf]; omega
            · have t2 : decide (((16 + j : Nat) : Int) < (n : Int)) = false := by simp; omega
              have hjn1 : n ≤ 16 + j := by omega
              have hjn2 : 16 + j ≤ n := by omega
              clear hlt hj
              rw [List.take_of_length_le (by rw [List.length_drop, HXX.out.2.2]; omega)] at howH hlT
              obtain ⟨gh, caph', hvh, hgh0, hgh, hch, cellH, _⟩ := howH.parts (by omega)
              rw [hlT] at hvh hch
              injection hvh with e4 e5 e6
              subst e4 e6
              have dH : Dig 256 (X.drop 16) := HXX.out.1.drop 16
              have nH : num 256 (X.drop 16) = fldN V i / 340282366920938463463374607431768211456 := by
                rw [num_drop 256 (by omega) X HXX.out.1 16 (by rw [HXX.out.2.2]; omega), HXX.out.2.1]
              have hx16 : (X.drop 16).getD 0 0 = X.getD 16 0 := by rw [List.getD_eq_getElem?_getD, List.getElem?_drop, ← List.getD_eq_getElem?_getD]
              have hlow := low_num X HXX.out.1 (by rw [HXX.out.2.2]; omega)
              rw [HXX.out.2.1, ← hx16] at hlow
              have dY0 : Dig 256 (X.take 16 ++ [(X.drop 16).getD 0 0 % 4]) := (HXX.out.1.take 16).append (Dig.one (by omega))
              have lT16 : (X.take 16).length = 16 := by rw [List.length_take, HXX.out.2.2]; omega
              have hE0 : Ow wr.heap.size (wr.alloc (.cells #[] 3)) (.slice (some ⟨wr.heap.size, 0, none⟩) 0 0) [] := Ow.lit wr [] (Nat.le_refl _) (by simp)
              have hB1 : Below wr.heap.size wr (wr.alloc (.cells #[] 3)) := (Below.refl _ _).alloc (Nat.le_refl _) _
              have hsz1 : W0.heap.size ≤ wr.heap.size := hbH.size
              have hC1 : ∀ q, q < 16 → (wr.alloc (.cells #[] 3)).cell? ⟨gx, q, none⟩ = some (I64 ((X.take 16).getD q 0)) := fun q hq => by
                rw [hB1.cell (p := ⟨gx, q, none⟩) (by show gx < wr.heap.size; omega), hbH.cell (p := ⟨gx, q, none⟩) hgx, HCX.out q (by rw [HXX.out.2.2]; omega), List.getD_eq_getElem?_getD, List.getD_eq_getElem?_getD, List.getElem?_take_of_lt hq]
              generalize X.take 16 = T16 at hlow dY0 lT16 hC1
              generalize X.drop 16 = Hh at howH hlT cellH dH nH hlow dY0 hx16
              have HE0 := Lib.hid hE0
              have HB1 := Lib.hid hB1
              have HC1 := Lib.hid hC1
              have HCH := Lib.hid cellH
              have HBH := Lib.hid hbH
              have HY0 := Lib.hid (And.intro hlow dY0)
              have HHH := Lib.hid (And.intro dH (And.intro nH hlT))
              have HL16 := Lib.hid lT16
              clear hE0 hB1 hC1 cellH hbH hlow dY0 dH nH hlT howH hx16 lT16 HCX
              have hc16 : (16 : Int) ≤ (capv : Int) := by omega
              have hc16n : 16 ≤ capv := by omega
              have h18 : 18 ≤ n := ln0
              have hq16 : ¬ (((16 + j : Nat) : Int) < (n : Int)) := by omega
              generalize hqq : 16 + j = q16 at *
              generalize j = lh at *
              generalize wr = W1 at *
              go_upto_region 13 with (at_builtin; refine wpList_appL (base := W1.heap.size) (v := .slice (some ⟨W1.heap.size, 0, none⟩) 0 0) (l := []) (w := W1.alloc (.cells #[] 3)) rfl (.tmp 40) (.tmp 42) rfl rfl HE0.out gx capv T16 16 HL16.out rfl HC1.out (by simp) (by simp) ?_; intro v2 w2 hown2 hb2; rw [List.nil_append] at hown2; obtain ⟨a2, cap2, hv2⟩ := hown2.form; rw [hv2] at hown2 ⊢; rw [HL16.out] at hown2 ⊢)
              have hb3 : Below W1.heap.size W1 w2 := HB1.out.trans hb2
              have k0 := (hb3.cell (p := ⟨gh, 0, none⟩) hgh).trans (HCH.out 0 (by rw [HHH.out.2.2]; omega))
              have hlh0 : 2 ≤ lh := by omega
              have hlh1 : lh ≤ 20 := by omega
              obtain ⟨x4, hx4⟩ : ∃ x4, x4 = Hh.getD 0 0 % 4 := ⟨_, rfl⟩
              have hrem4 : (Hh.getD 0 0 : Int).tmod 4 = (x4 : Int) := by rw [hx4]; exact tmodI _ 4
              have hxl4 : x4 < 4 := by omega
              have hY := HY0.out
              rw [← hx4] at hY
              have hle : (T16 ++ [x4]).length = 17 := by rw [List.length_append, HL16.out]; rfl
              have HO := Lib.hid hown2
              have HB3 := Lib.hid hb3
              have HLE := Lib.hid hle
              have HY := Lib.hid hY
              have hln0 : ¬ ((lh : Int) ≤ 0) := by omega
              generalize Hh.getD 0 0 = z0 at k0 hrem4
              clear hown2 hb2 hb3 HB1 HE0 HC1 HY0 hY hle hx4
              go_upto_region 14 with (at_builtin; refine wpList_app1 rfl (.tmp 44) (.tmp 49) rfl rfl (HO.out.alloc _) w2.heap.size 1 x4 rfl ((Has.fresh w2 3 #[I64 x4]).cell 0) (by rw [HL16.out]; omega) (by simp; have := HB3.out.size; omega) ?_; intro v3 w4 hown4 hb4; obtain ⟨a3, cap3, hv3⟩ := hown4.form; rw [hv3] at hown4 ⊢; rw [HLE.out] at hown4 ⊢)
              have hb5 : Below W1.heap.size W1 w4 := (HB3.out.alloc HB3.out.size _).trans hb4
              obtain ⟨U, hU⟩ : ∃ U, U = fldN V i := ⟨_, rfl⟩
              obtain ⟨Q, hQ⟩ : ∃ Q, Q = U / 1361129467683753853853498429727072845824 := ⟨_, rfl⟩
              obtain ⟨M, hM⟩ : ∃ M, M = max 17 lh := ⟨_, rfl⟩
              have hM1 : 17 ≤ M := by omega
              have hM2 : lh ≤ M := by omega
              have hM3 : M ≤ 20 := by omega
              have hQ4 : Q = num 256 Hh / 4 := by rw [hQ, HHH.out.2.1, ← hU, Nat.div_div_eq_div_mul]
              have hQl : Q < 256 ^ lh := by
                have h1 := num_lt 256 Hh HHH.out.1
                rw [HHH.out.2.2] at h1
                exact Nat.lt_of_le_of_lt (by rw [hQ4]; exact Nat.div_le_self _ _) h1
              have hY2 := HY.out
              rw [← hU] at hY2
              have hst : num 256 (T16 ++ [x4]) + 0 * 256 ^ 0 = U % 1361129467683753853853498429727072845824 + 5 * (Q % 256 ^ 0) := by rw [hY2.1, Nat.pow_zero, Nat.mod_one]
              have HST := Lib.hid (And.intro hown4 (And.intro hY2.2 (And.intro HLE.out (And.intro hst hb5))))
              have HQ4 := Lib.hid hQ4
              have HQ := Lib.hid hQl
              have HU := Lib.hid hU
              have HQU := Lib.hid hQ
              clear hown4 hb4 hb5 hM hQ4 hQl hY2 hst hU hQ HO HB3 HY HL16 k0 hrem4 hxl4 hln0
              generalize T16 ++ [x4] = Y0 at HST
              go_wp2_with fail
              go_loopw [3, 7, 8] (fun xv cv jv W => ∃ (jj c ly : Nat) (a : Option Addr) (cap : Nat) (Y : List Nat), jv = .int .i64 (jj : Int) ∧ cv = .int .i64 (c : Int) ∧ xv = .slice a ly cap ∧ Ow W1.heap.size W (.slice a ly cap) Y ∧ Dig 256 Y ∧ Y.length = ly ∧ 17 ≤ ly ∧ jj ≤ ly ∧ ly ≤ max 17 jj ∧ c ≤ 6 ∧ jj ≤ M + 1 ∧ (M < jj → c = 0) ∧ num 256 Y + c * 256 ^ jj = U % 1361129467683753853853498429727072845824 + 5 * (Q % 256 ^ jj) ∧ Below W1.heap.size W1 W) (fun _ _ jv _ => M + 2 - (intOf jv).toNat)
              case atStart => exact ⟨0, 0, 17, _, _, _, rfl, rfl, rfl, HST.out.1, HST.out.2.1, HST.out.2.2.1, by omega, by omega, by omega, by omega, by omega, fun _ => rfl, HST.out.2.2.2.1, HST.out.2.2.2.2⟩
              case round =>
                clear HST
                obtain ⟨jj, c, ly, ay, capy0, Y, rfl, rfl, rfl, howY, dY, lY, hl17, hjly, hlym, hc6, hjM, hcz, hnum, hbZ0⟩ := hrel
                by_cases hex : jj < lh ∨ 0 < c
                · have hjM2 : jj ≤ M := by omega
                  obtain ⟨hh, hhe⟩ : ∃ hh, hh = Q / 256 ^ jj % 256 := ⟨_, rfl⟩
                  have hhs : Hh.getD jj 0 / 4 + Hh.getD (jj + 1) 0 % 4 * 64 = hh := by
                    rw [getD_any Hh HHH.out.1 jj, getD_any Hh HHH.out.1 (jj + 1), hhe, HQ4.out]
                    exact hdig _ _
                  have hhl : hh < 256 := by rw [hhe]; exact Nat.mod_lt _ (by omega)
                  obtain ⟨NY, hNY⟩ : ∃ NY, NY = num 256 Y := ⟨_, rfl⟩
                  have hNYl : 17 ≤ jj → NY < 256 ^ jj := fun h => by
                    rw [hNY]
                    exact Nat.lt_of_lt_of_le (num_lt 256 Y dY) (Nat.pow_le_pow_right (by omega) (by omega))
                  rw [← hNY] at hnum
                  have HHS := Lib.hid hhs
                  have HHH2 := Lib.hid hhe
                  have HNY := Lib.hid hNYl
                  have HNC := Lib.hid hnum
                  have HYY := Lib.hid (And.intro howY (And.intro dY (And.intro lY hNY)))
                  clear hhs hhe hNYl hnum howY dY lY hNY
                  by_cases hA : jj < lh
                  · by_cases hB : jj + 1 < lh
                    · have t3 : decide ((jj : Int) < (lh : Int)) = true := by simp; omega
                      have hw1 : IntKind.i64.wrap ((jj : Int) + 1) = ((jj + 1 : Nat) : Int) := by rw [IntWalk.i64_in _ (by omega)]; omega
                      have t4 : decide (((jj + 1 : Nat) : Int) < (lh : Int)) = true := by simp; omega
                      have hn1 : ¬ ((lh : Int) ≤ (jj : Int)) := by omega
                      have hn2 : ¬ ((lh : Int) ≤ ((jj + 1 : Nat) : Int)) := by omega
                      have k1 := (hbZ0.cell (p := ⟨gh, jj, none⟩) hgh).trans (HCH.out jj (by rw [HHH.out.2.2]; omega))
                      have k2 := (hbZ0.cell (p := ⟨gh, jj + 1, none⟩) hgh).trans (HCH.out (jj + 1) (by rw [HHH.out.2.2]; omega))
                      have hd4 : (Hh.getD jj 0 : Int).tdiv 4 = ((Hh.getD jj 0 / 4 : Nat) : Int) := tdivI _ 4
                      have hm4 : (Hh.getD (jj + 1) 0 : Int).tmod 4 = ((Hh.getD (jj + 1) 0 % 4 : Nat) : Int) := tmodI _ 4
                      have hb1 := HHH.out.1.getD (by omega) jj
                      have hb2' := HHH.out.1.getD (by omega) (jj + 1)
                      have hhs : (Hh.getD jj 0 / 4 : Nat) + (Hh.getD (jj + 1) 0 % 4 : Nat) * 64 = hh := HHS.out
                      generalize Hh.getD jj 0 / 4 = q1 at hd4 hhs
                      generalize hq2 : Hh.getD (jj + 1) 0 % 4 = q2 at hm4 hhs
                      have hq2l : q2 < 4 := by omega
                      have hhi : (q1 : Int) + (q2 : Int) * 64 = (hh : Int) := by omega
                      have hq1l : q1 < 256 := by omega
                      generalize Hh.getD jj 0 = z1 at k1 hd4
                      generalize Hh.getD (jj + 1) 0 = z2 at k2 hm4
                      generalize hqj : jj + 1 = jp at *
                      clear hhs hq2 hb1 hb2'
                      go_wp2_with fail
                      go_loopw [3] (fun xv Wz => ∃ (ly : Nat) (a : Option Addr) (cap : Nat) (Z : List Nat), xv = .slice a ly cap ∧ Ow W1.heap.size Wz (.slice a ly cap) Z ∧ Dig 256 Z ∧ Z.length = ly ∧ num 256 Z = NY ∧ 17 ≤ ly ∧ jj ≤ ly ∧ ly ≤ max 17 (jj + 1) ∧ Below W1.heap.size W1 Wz) (fun xv _ => jj + 1 - lenOf xv)
                      case atStart => exact ⟨ly, _, _, Y, rfl, HYY.out.1, HYY.out.2.1, HYY.out.2.2.1, HYY.out.2.2.2.symm, by omega, by omega, by omega, hbZ0⟩
                      case round =>
                        clear HYY hbZ0
                        obtain ⟨ly, az, capz, Z, rfl, howZ, dZ, lZ, nZ, hl17, hjly, hlym, hbZ⟩ := hrel
                        by_cases hly : ly ≤ jj
                        · have t5 : decide ((ly : Int) ≤ (jj : Int)) = true := by simp; omega
                          have hle : (Z ++ [0]).length = ly + 1 := by rw [List.length_append, lZ]; rfl
                          have HOW := Lib.hid howZ
                          have HBZ := Lib.hid hbZ
                          have HLZ := Lib.hid (And.intro lZ hle)
                          clear howZ hbZ hle lZ
                          go_wp2_with (at_builtin; refine wpList_app1 rfl (.tmp 88) (.tmp 89) rfl rfl (HOW.out.alloc _) wr.heap.size 1 0 rfl ((Has.fresh wr 3 #[I64 0]).cell 0) (by rw [HLZ.out.1]; omega) (by simp; have := HBZ.out.size; omega) ?_; intro v5 w5 hown5 hb5; obtain ⟨a5, cap5, hv5⟩ := hown5.form; rw [hv5] at hown5 ⊢; rw [HLZ.out.2] at hown5 ⊢)
                          go_roundw
                          case rel =>
                            have hres : ∃ (ly' : Nat) (a : Option Addr) (cap : Nat) (Z' : List Nat), Value.slice a5 (ly + 1) cap5 = .slice a ly' cap ∧ Ow W1.heap.size w5 (.slice a ly' cap) Z' ∧ Dig 256 Z' ∧ Z'.length = ly' ∧ num 256 Z' = NY ∧ 17 ≤ ly' ∧ jj ≤ ly' ∧ ly' ≤ max 17 (jj + 1) ∧ Below W1.heap.size W1 w5 := ⟨ly + 1, _, _, _, rfl, hown5, dZ.append (Dig.one (by omega)), HLZ.out.2, by rw [num_pad]; exact nZ, by omega, by omega, by omega, (HBZ.out.alloc HBZ.out.size _).trans hb5⟩
                            first
                              | exact hres
                              | (iterate 8 apply Exists.intro
                                 exact ⟨hres, rfl⟩)
                          case measure => simp [lenOf]; omega
                        · obtain ⟨gy, capy, hvy, hgy0, hgy, hcy, cellY, frY⟩ := howZ.parts (by omega)
                          rw [lZ] at hvy
                          injection hvy with e7 e8 e9
                          subst e7 e9
                          have c1 := cellY jj (by omega)
                          have f1 := frY jj
                          have hyj := getD_any Z dZ jj
                          have hyb : Z.getD jj 0 < 256 := dZ.getD (by omega) jj
                          obtain ⟨s, hs⟩ : ∃ s, s = 5 * hh + Z.getD jj 0 + c := ⟨_, rfl⟩
                          have hst := step_mul 256 Z jj s (5 * hh) c (by omega) hs
                          rw [nZ] at hst hyj
                          have hz0 : M < jj + 1 → s / 256 = 0 := fun h => by
                            have h1 : NY / 256 ^ jj = 0 := Nat.div_eq_of_lt (HNY.out (by omega))
                            have h2 : Q / 256 ^ jj = 0 := Nat.div_eq_of_lt (Nat.lt_of_lt_of_le HQ.out (Nat.pow_le_pow_right (by omega) (by omega)))
                            rw [h1] at hyj
                            have h3 := HHH2.out
                            rw [h2] at h3
                            omega
                          have hnum : num 256 (Z.set jj (s % 256)) + s / 256 * 256 ^ (jj + 1) = U % 1361129467683753853853498429727072845824 + 5 * (Q % 256 ^ (jj + 1)) := by
                            rw [hst, HNC.out, Nat.pow_succ, Nat.mod_mul, ← HHH2.out, Nat.mul_add, Nat.mul_assoc, Nat.mul_comm hh]
                            omega
                          have how1 := howZ
                          rw [← lZ] at how1
                          have how2 := how1.put jj (s % 256)
                          rw [lZ] at how2
                          clear how1
                          have hbz2 := hbZ.setCell (p := ⟨gy, jj, none⟩) hgy0 (I64 (s % 256))
                          have hl2 : (Z.set jj (s % 256)).length = ly := by rw [List.length_set, lZ]
                          have hd2 := dZ.set jj (Nat.mod_lt s (show 0 < 256 by omega))
                          have hrem : (s : Int).tmod 256 = ((s % 256 : Nat) : Int) := tmodI s 256
                          have hquo : (s : Int).tdiv 256 = ((s / 256 : Nat) : Int) := tdivI s 256
                          have hsl : s < 1537 := by omega
                          have hs6 : s / 256 ≤ 6 := by omega
                          have hjl : ¬ ((ly : Int) ≤ (jj : Int)) := by omega
                          have t5 : decide ((ly : Int) ≤ (jj : Int)) = false := by simp; omega
                          have hsum : (c : Int) + (Z.getD jj 0 : Int) + 5 * (hh : Int) = (s : Int) := by omega
                          generalize hs0 : s % 256 = s0 at *
                          generalize hs1 : s / 256 = s1 at *
                          generalize Z.getD jj 0 = yj at c1 hsum hyb
                          have HS := Lib.hid (And.intro how2 (And.intro hd2 (And.intro hl2 (And.intro hnum hbz2))))
                          clear how2 hd2 hl2 hnum hbz2 howZ dZ lZ nZ hbZ cellY frY hst hyj hs hcy
                          go_wp2
                          go_roundw
                          case rel =>
                            first
                              | exact ⟨jj + 1, s1, ly, _, _, _, by go_num, rfl, rfl, HS.out.1, HS.out.2.1, HS.out.2.2.1, by omega, by omega, by omega, hs6, by omega, hz0, HS.out.2.2.2.1, HS.out.2.2.2.2⟩
                              | (iterate 60 apply Exists.intro
                                 refine ⟨?_, rfl⟩
                                 exact ⟨jj + 1, s1, ly, _, _, _, by go_num, rfl, rfl, HS.out.1, HS.out.2.1, HS.out.2.2.1, by omega, by omega, by omega, hs6, by omega, hz0, HS.out.2.2.2.1, HS.out.2.2.2.2⟩)
                          case measure => simp [intOf]; omega
                    · have t3 : decide ((jj : Int) < (lh : Int)) = true := by simp; omega
                      have hw1 : IntKind.i64.wrap ((jj : Int) + 1) = ((jj + 1 : Nat) : Int) := by rw [IntWalk.i64_in _ (by omega)]; omega
                      have t4 : decide (((jj + 1 : Nat) : Int) < (lh : Int)) = false := by simp; omega
                      have hn1 : ¬ ((lh : Int) ≤ (jj : Int)) := by omega
                      have k1 := (hbZ0.cell (p := ⟨gh, jj, none⟩) hgh).trans (HCH.out jj (by rw [HHH.out.2.2]; omega))
                      have hd4 : (Hh.getD jj 0 : Int).tdiv 4 = ((Hh.getD jj 0 / 4 : Nat) : Int) := tdivI _ 4
                      have hz1 : Hh.getD (jj + 1) 0 = 0 := by rw [List.getD_eq_getElem?_getD, List.getElem?_eq_none (by rw [HHH.out.2.2]; omega)]; rfl
                      have hhs := HHS.out
                      rw [hz1] at hhs
                      have hq1 : Hh.getD jj 0 / 4 = hh := by omega
                      rw [hq1] at hd4
                      generalize Hh.getD jj 0 = z1 at k1 hd4
                      generalize hqj : jj + 1 = jp at *
                      clear hhs hz1 hq1
                      go_wp2_with fail
                      go_loopw [3] (fun xv Wz => ∃ (ly : Nat) (a : Option Addr) (cap : Nat) (Z : List Nat), xv = .slice a ly cap ∧ Ow W1.heap.size Wz (.slice a ly cap) Z ∧ Dig 256 Z ∧ Z.length = ly ∧ num 256 Z = NY ∧ 17 ≤ ly ∧ jj ≤ ly ∧ ly ≤ max 17 (jj + 1) ∧ Below W1.heap.size W1 Wz) (fun xv _ => jj + 1 - lenOf xv)
                      case atStart => exact ⟨ly, _, _, Y, rfl, HYY.out.1, HYY.out.2.1, HYY.out.2.2.1, HYY.out.2.2.2.symm, by omega, by omega, by omega, hbZ0⟩
                      case round =>
                        clear HYY hbZ0
                        obtain ⟨ly, az, capz, Z, rfl, howZ, dZ, lZ, nZ, hl17, hjly, hlym, hbZ⟩ := hrel
                        by_cases hly : ly ≤ jj
                        · have t5 : decide ((ly : Int) ≤ (jj : Int)) = true := by simp; omega
                          have hle : (Z ++ [0]).length = ly + 1 := by rw [List.length_append, lZ]; rfl
                          have HOW := Lib.hid howZ
                          have HBZ := Lib.hid hbZ
                          have HLZ := Lib.hid (And.intro lZ hle)
                          clear howZ hbZ hle lZ
                          go_wp2_with (at_builtin; refine wpList_app1 rfl (.tmp 88) (.tmp 89) rfl rfl (HOW.out.alloc _) wr.heap.size 1 0 rfl ((Has.fresh wr 3 #[I64 0]).cell 0) (by rw [HLZ.out.1]; omega) (by simp; have := HBZ.out.size; omega) ?_; intro v5 w5 hown5 hb5; obtain ⟨a5, cap5, hv5⟩ := hown5.form; rw [hv5] at hown5 ⊢; rw [HLZ.out.2] at hown5 ⊢)
                          go_roundw
                          case rel =>
                            have hres : ∃ (ly' : Nat) (a : Option Addr) (cap : Nat) (Z' : List Nat), Value.slice a5 (ly + 1) cap5 = .slice a ly' cap ∧ Ow W1.heap.size w5 (.slice a ly' cap) Z' ∧ Dig 256 Z' ∧ Z'.length = ly' ∧ num 256 Z' = NY ∧ 17 ≤ ly' ∧ jj ≤ ly' ∧ ly' ≤ max 17 (jj + 1) ∧ Below W1.heap.size W1 w5 := ⟨ly + 1, _, _, _, rfl, hown5, dZ.append (Dig.one (by omega)), HLZ.out.2, by rw [num_pad]; exact nZ, by omega, by omega, by omega, (HBZ.out.alloc HBZ.out.size _).trans hb5⟩
                            first
                              | exact hres
                              | (iterate 8 apply Exists.intro
                                 exact ⟨hres, rfl⟩)
                          case measure => simp [lenOf]; omega
                        · obtain ⟨gy, capy, hvy, hgy0, hgy, hcy, cellY, frY⟩ := howZ.parts (by omega)
                          rw [lZ] at hvy
                          injection hvy with e7 e8 e9
                          subst e7 e9
                          have c1 := cellY jj (by omega)
                          have f1 := frY jj
                          have hyj := getD_any Z dZ jj
                          have hyb : Z.getD jj 0 < 256 := dZ.getD (by omega) jj
                          obtain ⟨s, hs⟩ : ∃ s, s = 5 * hh + Z.getD jj 0 + c := ⟨_, rfl⟩
                          have hst := step_mul 256 Z jj s (5 * hh) c (by omega) hs
                          rw [nZ] at hst hyj
                          have hz0 : M < jj + 1 → s / 256 = 0 := fun h => by
                            have h1 : NY / 256 ^ jj = 0 := Nat.div_eq_of_lt (HNY.out (by omega))
                            have h2 : Q / 256 ^ jj = 0 := Nat.div_eq_of_lt (Nat.lt_of_lt_of_le HQ.out (Nat.pow_le_pow_right (by omega) (by omega)))
                            rw [h1] at hyj
                            have h3 := HHH2.out
                            rw [h2] at h3
                            omega
                          have hnum : num 256 (Z.set jj (s % 256)) + s / 256 * 256 ^ (jj + 1) = U % 1361129467683753853853498429727072845824 + 5 * (Q % 256 ^ (jj + 1)) := by
                            rw [hst, HNC.out, Nat.pow_succ, Nat.mod_mul, ← HHH2.out, Nat.mul_add, Nat.mul_assoc, Nat.mul_comm hh]
                            omega
                          have how1 := howZ
                          rw [← lZ] at how1
                          have how2 := how1.put jj (s % 256)
                          rw [lZ] at how2
                          clear how1
                          have hbz2 := hbZ.setCell (p := ⟨gy, jj, none⟩) hgy0 (I64 (s % 256))
                          have hl2 : (Z.set jj (s % 256)).length = ly := by rw [List.length_set, lZ]
                          have hd2 := dZ.set jj (Nat.mod_lt s (show 0 < 256 by omega))
                          have hrem : (s : Int).tmod 256 = ((s % 256 : Nat) : Int) := tmodI s 256
                          have hquo : (s : Int).tdiv 256 = ((s / 256 : Nat) : Int) := tdivI s 256
                          have hsl : s < 1537 := by omega
                          have hs6 : s / 256 ≤ 6 := by omega
                          have hjl : ¬ ((ly : Int) ≤ (jj : Int)) := by omega
                          have t5 : decide ((ly : Int) ≤ (jj : Int)) = false := by simp; omega
                          have hsum : (c : Int) + (Z.getD jj 0 : Int) + 5 * (hh : Int) = (s : Int) := by omega
                          generalize hs0 : s % 256 = s0 at *
                          generalize hs1 : s / 256 = s1 at *
                          generalize Z.getD jj 0 = yj at c1 hsum hyb
                          have HS := Lib.hid (And.intro how2 (And.intro hd2 (And.intro hl2 (And.intro hnum hbz2))))
                          clear how2 hd2 hl2 hnum hbz2 howZ dZ lZ nZ hbZ cellY frY hst hyj hs hcy
                          go_wp2
                          go_roundw
                          case rel =>
                            first
                              | exact ⟨jj + 1, s1, ly, _, _, _, by go_num, rfl, rfl, HS.out.1, HS.out.2.1, HS.out.2.2.1, by omega, by omega, by omega, hs6, by omega, hz0, HS.out.2.2.2.1, HS.out.2.2.2.2⟩
                              | (iterate 60 apply Exists.intro
                                 refine ⟨?_, rfl⟩
                                 exact ⟨jj + 1, s1, ly, _, _, _, by go_num, rfl, rfl, HS.out.1, HS.out.2.1, HS.out.2.2.1, by omega, by omega, by omega, hs6, by omega, hz0, HS.out.2.2.2.1, HS.out.2.2.2.2⟩)
                          case measure => simp [intOf]; omega
                  · have t3 : decide ((jj : Int) < (lh : Int)) = false := by simp; omega
                    have hw1 : IntKind.i64.wrap ((jj : Int) + 1) = ((jj + 1 : Nat) : Int) := by rw [IntWalk.i64_in _ (by omega)]; omega
                    have t4 : decide (((jj + 1 : Nat) : Int) < (lh : Int)) = false := by simp; omega
                    have t6 : decide ((0 : Int) < (c : Int)) = true := by simp; omega
                    have t7 : (0 : Int) < (c : Int) := by omega
                    have t10 : 0 < c := by omega
                    have t11 : ¬ (jj + 1 < lh) := by omega
                    have t8 : ((lh : Int) ≤ (jj : Int)) := by omega
                    have t9 : ((lh : Int) ≤ ((jj + 1 : Nat) : Int)) := by omega
                    have hz1 : Hh.getD (jj + 1) 0 = 0 := by rw [List.getD_eq_getElem?_getD, List.getElem?_eq_none (by rw [HHH.out.2.2]; omega)]; rfl
                    have hz2 : Hh.getD jj 0 = 0 := by rw [List.getD_eq_getElem?_getD, List.getElem?_eq_none (by rw [HHH.out.2.2]; omega)]; rfl
                    have hhs := HHS.out
                    rw [hz1, hz2] at hhs
                    have hh0 : hh = 0 := by omega
                    generalize hqj : jj + 1 = jp at *
                    clear hhs hz1 hz2
                    have HH0 := Lib.hid hh0
                    clear hh0
                    go_wp2_with fail
                    go_loopw [3] (fun xv Wz => ∃ (ly : Nat) (a : Option Addr) (cap : Nat) (Z : List Nat), xv = .slice a ly cap ∧ Ow W1.heap.size Wz (.slice a ly cap) Z ∧ Dig 256 Z ∧ Z.length = ly ∧ num 256 Z = NY ∧ 17 ≤ ly ∧ jj ≤ ly ∧ ly ≤ max 17 (jj + 1) ∧ Below W1.heap.size W1 Wz) (fun xv _ => jj + 1 - lenOf xv)
                    case atStart => exact ⟨ly, _, _, Y, rfl, HYY.out.1, HYY.out.2.1, HYY.out.2.2.1, HYY.out.2.2.2.symm, by omega, by omega, by omega, hbZ0⟩
                    case round =>
                      clear HYY hbZ0
                      obtain ⟨ly, az, capz, Z, rfl, howZ, dZ, lZ, nZ, hl17, hjly, hlym, hbZ⟩ := hrel
                      by_cases hly : ly ≤ jj
                      · have t5 : decide ((ly : Int) ≤ (jj : Int)) = true := by simp; omega
                        have hle : (Z ++ [0]).length = ly + 1 := by rw [List.length_append, lZ]; rfl
                        have HOW := Lib.hid howZ
                        have HBZ := Lib.hid hbZ
                        have HLZ := Lib.hid (And.intro lZ hle)
                        clear howZ hbZ hle lZ
                        go_wp2_with (at_builtin; refine wpList_app1 rfl (.tmp 88) (.tmp 89) rfl rfl (HOW.out.alloc _) wr.heap.size 1 0 rfl ((Has.fresh wr 3 #[I64 0]).cell 0) (by rw [HLZ.out.1]; omega) (by simp; have := HBZ.out.size; omega) ?_; intro v5 w5 hown5 hb5; obtain ⟨a5, cap5, hv5⟩ := hown5.form; rw [hv5] at hown5 ⊢; rw [HLZ.out.2] at hown5 ⊢)
                        go_roundw
                        case rel =>
                          have hres : ∃ (ly' : Nat) (a : Option Addr) (cap : Nat) (Z' : List Nat), Value.slice a5 (ly + 1) cap5 = .slice a ly' cap ∧ Ow W1.heap.size w5 (.slice a ly' cap) Z' ∧ Dig 256 Z' ∧ Z'.length = ly' ∧ num 256 Z' = NY ∧ 17 ≤ ly' ∧ jj ≤ ly' ∧ ly' ≤ max 17 (jj + 1) ∧ Below W1.heap.size W1 w5 := ⟨ly + 1, _, _, _, rfl, hown5, dZ.append (Dig.one (by omega)), HLZ.out.2, by rw [num_pad]; exact nZ, by omega, by omega, by omega, (HBZ.out.alloc HBZ.out.size _).trans hb5⟩
                          first
                            | exact hres
                            | (iterate 8 apply Exists.intro
                               exact ⟨hres, rfl⟩)
                        case measure => simp [lenOf]; omega
                      · obtain ⟨gy, capy, hvy, hgy0, hgy, hcy, cellY, frY⟩ := howZ.parts (by omega)
                        rw [lZ] at hvy
                        injection hvy with e7 e8 e9
                        subst e7 e9
                        have c1 := cellY jj (by omega)
                        have f1 := frY jj
                        have hyj := getD_any Z dZ jj
                        have hyb : Z.getD jj 0 < 256 := dZ.getD (by omega) jj
                        obtain ⟨s, hs⟩ : ∃ s, s = 5 * hh + Z.getD jj 0 + c := ⟨_, rfl⟩
                        have hst := step_mul 256 Z jj s (5 * hh) c (by omega) hs
                        rw [nZ] at hst hyj
                        have hz0 : M < jj + 1 → s / 256 = 0 := fun h => by
                          have h1 : NY / 256 ^ jj = 0 := Nat.div_eq_of_lt (HNY.out (by omega))
                          have h2 : Q / 256 ^ jj = 0 := Nat.div_eq_of_lt (Nat.lt_of_lt_of_le HQ.out (Nat.pow_le_pow_right (by omega) (by omega)))
                          rw [h1] at hyj
                          have h3 := HHH2.out
                          rw [h2] at h3
                          omega
                        have hnum : num 256 (Z.set jj (s % 256)) + s / 256 * 256 ^ (jj + 1) = U % 1361129467683753853853498429727072845824 + 5 * (Q % 256 ^ (jj + 1)) := by
                          rw [hst, HNC.out, Nat.pow_succ, Nat.mod_mul, ← HHH2.out, Nat.mul_add, Nat.mul_assoc, Nat.mul_comm hh]
                          omega
                        have how1 := howZ
                        rw [← lZ] at how1
                        have how2 := how1.put jj (s % 256)
                        rw [lZ] at how2
                        clear how1
                        have hbz2 := hbZ.setCell (p := ⟨gy, jj, none⟩) hgy0 (I64 (s % 256))
                        have hl2 : (Z.set jj (s % 256)).length = ly := by rw [List.length_set, lZ]
                        have hd2 := dZ.set jj (Nat.mod_lt s (show 0 < 256 by omega))
                        have hrem : (s : Int).tmod 256 = ((s % 256 : Nat) : Int) := tmodI s 256
                        have hquo : (s : Int).tdiv 256 = ((s / 256 : Nat) : Int) := tdivI s 256
                        have hsl : s < 1537 := by omega
                        have hs6 : s / 256 ≤ 6 := by omega
                        have hjl : ¬ ((ly : Int) ≤ (jj : Int)) := by omega
                        have t5 : decide ((ly : Int) ≤ (jj : Int)) = false := by simp; omega
                        have hh0 := HH0.out
                        have hsum : (c : Int) + (Z.getD jj 0 : Int) = (s : Int) := by omega
                        clear hh0
                        generalize hs0 : s % 256 = s0 at *
                        generalize hs1 : s / 256 = s1 at *
                        generalize Z.getD jj 0 = yj at c1 hsum hyb
                        have HS := Lib.hid (And.intro how2 (And.intro hd2 (And.intro hl2 (And.intro hnum hbz2))))
                        clear how2 hd2 hl2 hnum hbz2 howZ dZ lZ nZ hbZ cellY frY hst hyj hs hcy
                        go_wp2
                        go_roundw
                        case rel =>
                          first
                            | exact ⟨jj + 1, s1, ly, _, _, _, by go_num, rfl, rfl, HS.out.1, HS.out.2.1, HS.out.2.2.1, by omega, by omega, by omega, hs6, by omega, hz0, HS.out.2.2.2.1, HS.out.2.2.2.2⟩
                            | (iterate 60 apply Exists.intro
                               refine ⟨?_, rfl⟩
                               exact ⟨jj + 1, s1, ly, _, _, _, by go_num, rfl, rfl, HS.out.1, HS.out.2.1, HS.out.2.2.1, by omega, by omega, by omega, hs6, by omega, hz0, HS.out.2.2.2.1, HS.out.2.2.2.2⟩)
                        case measure => simp [intOf]; omega
                · have hc0 : c = 0 := by omega
                  subst hc0
                  have t3 : decide ((jj : Int) < (lh : Int)) = false := by simp; omega
                  have hnf : num 256 Y = fldN V (i + 1) := by
                    rw [Nat.zero_mul, Nat.add_zero, Nat.mod_eq_of_lt (Nat.lt_of_lt_of_le HQ.out (Nat.pow_le_pow_right (by omega) (by omega)))] at hnum
                    rw [hnum, HQU.out, HU.out]
                    rfl
                  have HYY := Lib.hid (And.intro howY (And.intro dY (And.intro lY hnf)))
                  clear howY dY lY hnf hnum
                  go_wp2_with fail
                  go_loopw [3] (fun xv Wz => ∃ (ly : Nat) (a : Option Addr) (cap : Nat) (Z : List Nat), xv = .slice a ly cap ∧ Ow W1.heap.size Wz (.slice a ly cap) Z ∧ Dig 256 Z ∧ Z.length = ly ∧ num 256 Z = fldN V (i + 1) ∧ 17 ≤ ly ∧ ly ≤ 36 ∧ Below W1.heap.size W1 Wz) (fun xv _ => 18 - lenOf xv)
                  case atStart => exact ⟨ly, _, _, Y, rfl, HYY.out.1, HYY.out.2.1, HYY.out.2.2.1, HYY.out.2.2.2, by omega, by omega, hbZ0⟩
                  case round =>
                    clear HYY hbZ0
                    obtain ⟨ly, az, capz, Z, rfl, howZ, dZ, lZ, nZ, hl17, hl36, hbZ⟩ := hrel
                    by_cases hly : ly < 18
                    · have t5 : decide ((ly : Int) < 18) = true := by simp; omega
                      have hle : (Z ++ [0]).length = ly + 1 := by rw [List.length_append, lZ]; rfl
                      have HOW := Lib.hid howZ
                      have HBZ := Lib.hid hbZ
                      have HLZ := Lib.hid (And.intro lZ hle)
                      clear howZ hbZ hle lZ
                      go_wp2_with (at_builtin; refine wpList_app1 rfl (.tmp 110) (.tmp 111) rfl rfl (HOW.out.alloc _) wr.heap.size 1 0 rfl ((Has.fresh wr 3 #[I64 0]).cell 0) (by rw [HLZ.out.1]; omega) (by simp; have := HBZ.out.size; omega) ?_; intro v5 w5 hown5 hb5; obtain ⟨a5, cap5, hv5⟩ := hown5.form; rw [hv5] at hown5 ⊢; rw [HLZ.out.2] at hown5 ⊢)
                      go_roundw
                      case rel => exact ⟨ly + 1, _, _, _, rfl, hown5, dZ.append (Dig.one (by omega)), HLZ.out.2, by rw [num_pad]; exact nZ, by omega, by omega, (HBZ.out.alloc HBZ.out.size _).trans hb5⟩
                      case measure => simp [lenOf]; omega
                    · have t5 : decide ((ly : Int) < 18) = false := by simp; omega
                      have HS := Lib.hid (And.intro (howZ.mono (show w.heap.size ≤ W1.heap.size by omega)) (And.intro dZ (And.intro nZ (And.intro lZ (And.intro (show 18 ≤ ly by omega) (And.intro hl36 (HBL.out.trans ((HBH.out.mono hsz).trans (hbZ.mono (by omega))))))))))
                      clear howZ dZ lZ nZ hbZ
                      go_wp2
                      go_roundw
                      case rel => exact ⟨i + 1, ly, _, _, Z, by omega, by go_num, rfl, HS.out⟩
                      case measure => simp [intOf]; omega
        · have hi4 : i = 3 := by omega
          subst hi4
          have t1 : decide (((3 : Nat) : Int) < 3) = false := by decide
          generalize wr = W0 at *
          obtain ⟨gx, capx, hvx, hgx0, hgx, hcx, cellX, _⟩ := how.parts (by omega)
          rw [lX] at hvx hcx
          injection hvx with e1 e2 e3
          subst e1 e3
          have hE0 : Ow W0.heap.size (W0.alloc (.cells #[] 3)) (.slice (some ⟨W0.heap.size, 0, none⟩) 0 0) [] := Ow.lit W0 [] (Nat.le_refl _) (by simp)
          have hB1 : Below W0.heap.size W0 (W0.alloc (.cells #[] 3)) := (Below.refl _ _).alloc (Nat.le_refl _) _
          have hC1 : ∀ q, q < n → (W0.alloc (.cells #[] 3)).cell? ⟨gx, q, none⟩ = some (I64 (X.getD q 0)) := fun q hq => (hB1.cell (p := ⟨gx, q, none⟩) hgx).trans (cellX q (by omega))
          have hrdX := how.rd
          rw [← lX] at hrdX
          obtain ⟨V3, hV3⟩ : ∃ V3, V3 = fldN V 3 := ⟨_, rfl⟩
          have h3 := H3.out
          rw [← hV3] at nX h3
          have HE0 := Lib.hid hE0
          have HB1 := Lib.hid hB1
          have HC1 := Lib.hid hC1
          have HXX := Lib.hid (And.intro dX (And.intro nX (And.intro lX hrdX)))
          have HBL := Lib.hid hbl
          have H33 := Lib.hid h3
          have hsz : w.heap.size ≤ W0.heap.size := hbl.size
          have HLX := Lib.hid lX
          clear hE0 hB1 hC1 cellX dX nX lX hbl how hV3 h3 H3 hrdX
          go_upto_region 31 with (at_builtin; refine wpList_appL (base := W0.heap.size) (v := .slice (some ⟨W0.heap.size, 0, none⟩) 0 0) (l := []) (w := W0.alloc (.cells #[] 3)) rfl (.tmp 113) (.tmp 114) rfl rfl HE0.out gx capv X n HLX.out rfl HC1.out (by simp; omega) (by simp) ?_; intro v2 w2 hown2 hb2; rw [List.nil_append] at hown2; obtain ⟨a2, cap2, hv2⟩ := hown2.form; rw [hv2] at hown2 ⊢; rw [HLX.out] at hown2 ⊢)
          obtain ⟨gy, capy, hvy, hgy0, hgy, hcy, _, _⟩ := hown2.parts (by rw [HLX.out]; omega)
          rw [HLX.out] at hvy hcy
          injection hvy with e4 e5 e6
          subst e4 e6
          have hb3 : Below W0.heap.size W0 w2 := HB1.out.trans hb2
          have hst : num 256 X + 5 * 256 ^ 0 = V3 + 5 := by rw [HXX.out.2.1]
          have HST := Lib.hid (And.intro hown2 (And.intro HXX.out.1 (And.intro HLX.out (And.intro hst hb3))))
          clear hown2 hb2 hb3 hst HE0 HC1 HB1
          go_wp2_with fail
          go_loopw [11, 12] (fun cv jv W => ∃ (jj c : Nat) (Y : List Nat), jv = .int .i64 (jj : Int) ∧ cv = .int .i64 (c : Int) ∧ c ≤ 5 ∧ jj ≤ n ∧ Ow W0.heap.size W (.slice (some ⟨gy, 0, none⟩) n cap2) Y ∧ Dig 256 Y ∧ Y.length = n ∧ num 256 Y + c * 256 ^ jj = V3 + 5 ∧ Below W0.heap.size W0 W) (fun _ jv _ => n - (intOf jv).toNat)
          case atStart => exact ⟨0, 5, X, rfl, rfl, by omega, by omega, HST.out⟩
          case round =>
            clear HST
            obtain ⟨jj, c, Y, rfl, rfl, hc5, hjn, howY, dY, lY, hnum, hbY⟩ := hrel
            obtain ⟨gy', capy', hvy, hgyb, _, _, cellY, frY⟩ := howY.parts (by omega)
            injection hvy with e7 e8 e9
            clear e8 e9
            injection e7 with e7
            injection e7 with e7
            subst e7
            by_cases hlt : jj < n
            · have t2 : decide ((jj : Int) < (n : Int)) = true := by simp; omega
              have hjl : ¬ ((n : Int) ≤ (jj : Int)) := by omega
              have c1 := cellY jj (by omega)
              have f1 := frY jj
              have hyb : Y.getD jj 0 < 256 := dY.getD (by omega) jj
              obtain ⟨s, hs⟩ : ∃ s, s = 0 + Y.getD jj 0 + c := ⟨_, rfl⟩
              have hst := step_mul 256 Y jj s 0 c (by omega) hs
              rw [Nat.zero_mul, Nat.add_zero, hnum] at hst
              have how1 := howY
              rw [← lY] at how1
              have how2 := how1.put jj (s % 256)
              rw [lY] at how2
              have hbz2 := hbY.setCell (p := ⟨gy, jj, none⟩) hgy0 (I64 (s % 256))
              have hl2 : (Y.set jj (s % 256)).length = n := by rw [List.length_set, lY]
              have hd2 := dY.set jj (Nat.mod_lt s (show 0 < 256 by omega))
              have hrem : (s : Int).tmod 256 = ((s % 256 : Nat) : Int) := tmodI s 256
              have hquo : (s : Int).tdiv 256 = ((s / 256 : Nat) : Int) := tdivI s 256
              have hsum : (c : Int) + (Y.getD jj 0 : Int) = (s : Int) := by omega
              have hsl : s < 300 := by omega
              have hs5 : s / 256 ≤ 5 := by omega
              generalize hs0 : s % 256 = s0 at *
              generalize hs1 : s / 256 = s1 at *
              generalize Y.getD jj 0 = yj at c1 hsum hyb
              have HS := Lib.hid (And.intro how2 (And.intro hd2 (And.intro hl2 (And.intro hst hbz2))))
              clear how1 how2 hd2 hl2 hst hbz2 howY dY lY hnum hbY cellY frY hs
              go_wp2
              go_roundw
              case rel => exact ⟨jj + 1, s1, _, by go_num, rfl, hs5, by omega, HS.out⟩
              case measure => simp [intOf]; omega
            · have hjn2 : jj = n := by omega
              subst hjn2
              have t2 : decide ((jj : Int) < (jj : Int)) = false := by simp
              obtain ⟨h33a, h33b⟩ := H33.out
              have hc0 := no_carry _ c V3 jj hnum h33a ln0
              subst hc0
              rw [Nat.zero_mul, Nat.add_zero] at hnum
              have c1 := cellY 16 (by omega)
              have f1 := frY 16
              have hjl : ¬ ((jj : Int) ≤ 16) := by omega
              have hc17 : (17 : Int) ≤ (cap2 : Int) := by omega
              have hc17n : 17 ≤ cap2 := by omega
              have hc17b : (17 : Int) ≤ (capv : Int) := by omega
              have hc17c : 17 ≤ capv := by omega
              by_cases h4 : 4 ≤ Y.getD 16 0
              · have t3i : (4 : Int) ≤ (Y.getD 16 0 : Int) := by omega
                have t3 : decide ((4 : Int) ≤ (Y.getD 16 0 : Int)) = true := decide_eq_true t3i
                have htk := last_y Y V3 V dY hnum (by omega) h33a h33b h4
                rw [← HR.out] at htk
                have how1 := howY
                rw [← lY] at how1
                have how2 := how1.put 16 (Y.getD 16 0 - 4)
                rw [lY] at how2
                have lZ : (Y.set 16 (Y.getD 16 0 - 4)).length = jj := by rw [List.length_set, lY]
                have hyb : Y.getD 16 0 < 256 := dY.getD (by omega) 16
                have hrd := how2.rd
                rw [← lZ] at hrd
                have hrd2 := hrd.take (by omega) 17 (by omega)
                rw [htk] at hrd2
                have hbz2 := hbY.setCell (p := ⟨gy, 16, none⟩) hgy0 (I64 (Y.getD 16 0 - 4))
                have hbe := HBL.out.trans (hbz2.mono hsz)
                have hsub : (Y.getD 16 0 : Int) - 4 = ((Y.getD 16 0 - 4 : Nat) : Int) := by omega
                generalize Y.getD 16 0 - 4 = z at *
                generalize Y.getD 16 0 = y16 at *
                have HRES := Lib.hid (And.intro hrd2 hbe)
                clear hrd hrd2 hbe how1 how2 lZ htk hbz2 howY dY lY hnum hbY cellY frY h33a h33b h4
                go_wp2
                go_ret
                exact ⟨_, rfl, HRES.out⟩
              · have t3i : ¬ ((4 : Int) ≤ (Y.getD 16 0 : Int)) := by omega
                have t3 : decide ((4 : Int) ≤ (Y.getD 16 0 : Int)) = false := decide_eq_false t3i
                have htk := last_x X Y V3 V HXX.out.1 dY HXX.out.2.1 hnum (by rw [HLX.out]; omega) h33a h33b h4
                rw [← HR.out] at htk
                have hrd := HXX.out.2.2.2.step hbY
                have hrd2 := hrd.take (by rw [HLX.out]; omega) 17 (by rw [HLX.out]; omega)
                rw [htk] at hrd2
                have hrd3 := hrd2.mono hbY.size
                have hbe := HBL.out.trans (hbY.mono hsz)
                generalize Y.getD 16 0 = y16 at *
                have HRES := Lib.hid (And.intro hrd3 hbe)
                clear hrd hrd2 hrd3 hbe htk howY dY lY hnum hbY cellY frY h33a h33b h4
                go_wp2
                go_ret
                exact ⟨_, rfl, HRES.out⟩
end Go.Proofs.Ytfhjokbbaoldiaa
