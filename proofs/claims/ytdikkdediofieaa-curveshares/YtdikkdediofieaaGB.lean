/- causeyref06.rest: walked. -/
import Derived.Test.YtdikkdediofieaaGA
import Derived.Test.YtdikkdediofieaaHM
import Derived.Test.YtdikkdediofieaaEN
namespace Go.Proofs.Ytdikkdediofieaa
open Go.RowKit
def z32i : Array Value := is (List.replicate 32 0)
theorem infoD (l : List Nat) (h : l.length = 32) : (Try.prog.info? 30).map (·.size) = some (is l).size := by
  rw [is_size, h]; exact (by kernel_rfl : (Try.prog.info? 30).map (·.size) = some 32)
theorem z32i_size (l : List Nat) (h : l.length = 32) : z32i.size = (is l).size := by unfold z32i; rw [is_size, is_size, h]; rfl
theorem is_one (l : List Nat) : (is l).all (·.oneCell') = true := by simp [is, Value.oneCell']
theorem take_get (l : List Nat) (n q : Nat) (h : q < n) : (l.take n).getD q 0 = l.getD q 0 := by
  rw [List.getD_eq_getElem?_getD, List.getD_eq_getElem?_getD, List.getElem?_take_of_lt h]
theorem Ow.at {base g n cap : Nat} {W : World} {l : List Nat} (h : Ow base W (.slice (some ⟨g, 0, none⟩) n cap) l) (hl : l.length = n) (h0 : 0 < n) : g < W.heap.size ∧ ∀ j, j < n → W.cell? ⟨g, j, none⟩ = some (I64 (l.getD j 0)) := by
  subst hl
  obtain ⟨g', cap', hv, _, hg, _, hc, _⟩ := h.parts h0
  injection hv with e1 e2 e3
  injection e1 with e1
  injection e1 with e1
  subst e1
  exact ⟨hg, hc⟩
set_option maxRecDepth 20000 in
set_option maxHeartbeats 4000000 in
theorem crest_any (L : List Nat) (dL : Dig 256 L) (hL0 : 32 ≤ L.length) (hL1 : L.length ≤ 65) (va : Value) (w : World) (RA : Rd w.heap.size w va L) :
    Calls Try.prog 26 #[va] w fun e w' => e = .returned (.agg (is (dg 256 (num 256 L % 57896044618658097711785492504343953926634992332820282019728792003956564819949) 32))) ∧ Below w.heap.size w w' := by
  obtain ⟨aa, capA, rfl, hcA, hA⟩ := RA
  obtain ⟨ga, rfl, hga, cellA⟩ := hA (by omega)
  have hV := num_lt 256 L dL
  have hV2 : num 256 L < 2 ^ 520 := Nat.lt_of_lt_of_le hV (Nat.le_trans (Nat.pow_le_pow_right (by omega) hL1) (by decide +kernel))
  have h3 := cflN_3 (num 256 L) hV2
  have hm3 := cflN_mod (num 256 L) 3
  obtain ⟨V, hVV⟩ : ∃ V, V = num 256 L := ⟨_, rfl⟩
  rw [← hVV] at h3 hm3 ⊢
  have hbw : Below w.heap.size w (w.alloc (.cells z32i 30)) := (Below.refl _ _).alloc (Nat.le_refl _) _
  have hE1 : Has (w.alloc (.cells z32i 30)) w.heap.size 30 z32i := Has.fresh w 30 _
  have hs1 : (w.alloc (.cells z32i 30)).heap.size = w.heap.size + 1 := alloc_size _ _
  have H3 := Lib.hid (And.intro h3 hm3)
  have HDL := Lib.hid (And.intro dL (And.intro hVV (And.intro hL0 hL1)))
  obtain ⟨R, hR⟩ : ∃ R, R = dg 256 (V % 57896044618658097711785492504343953926634992332820282019728792003956564819949) 32 := ⟨_, rfl⟩
  have lR : R.length = 32 := by rw [hR, dg_length]
  rw [← hR]
  have HR := Lib.hid (And.intro hR lR)
  clear hA hV hV2 h3 hm3 hVV hR lR dL
  go_enter Try.func26, Try.ntmps26
  go_upto_region 1 with fail
  change Code.wp _ _ _ _ (w.alloc (.cells z32i 30))
  generalize w.alloc (.cells z32i 30) = v at hbw hE1 hs1 ⊢
  have hEw : Ow v.heap.size (v.alloc (.cells #[] 3)) (.slice (some ⟨v.heap.size, 0, none⟩) 0 0) [] := Ow.lit v [] (Nat.le_refl _) (by simp)
  have hcw : ∀ j, j < L.length → (v.alloc (.cells #[] 3)).cell? ⟨ga, j, none⟩ = some (I64 (L.getD j 0)) := fun j hj => ((hbw.alloc (by omega) (.cells #[] 3)).cell (p := ⟨ga, j, none⟩) hga).trans (cellA j hj)
  have hbv : Below v.heap.size v (v.alloc (.cells #[] 3)) := (Below.refl _ _).alloc (Nat.le_refl _) _
  have HEW := Lib.hid hEw
  have HCW := Lib.hid hcw
  have HBV := Lib.hid hbv
  have HBW := Lib.hid (And.intro hbw (And.intro hE1 hs1))
  clear hEw hcw hbv hbw hE1 cellA hga hs1
  go_upto_region 2 with (at_builtin; refine wpList_appN (base := v.heap.size) (v := .slice (some ⟨v.heap.size, 0, none⟩) 0 0) (l := []) (w := v.alloc (.cells #[] 3)) rfl (.tmp 16) (.tmp 17) rfl rfl HEW.out ga capA L rfl HCW.out (by simp; omega) (by simp) ?_; intro v2 w2 hown2 hb2; rw [List.nil_append] at hown2; obtain ⟨a2, cap2, hv2⟩ := hown2.form; rw [hv2] at hown2 ⊢)
  have hbx := HBV.out.trans hb2
  clear hb2 HBV HEW HCW
  go_loopw [3] (fun xv wr => ∃ X : List Nat, Ow v.heap.size wr xv X ∧ Dig 256 X ∧ num 256 X = V ∧ 32 ≤ X.length ∧ X.length ≤ 65 ∧ Below v.heap.size v wr) (fun xv _ => 33 - lenOf xv)
  case atStart => exact ⟨L, hown2, HDL.out.1, HDL.out.2.1.symm, HDL.out.2.2.1, HDL.out.2.2.2, hbx⟩
  case round =>
    clear hown2 hbx
    obtain ⟨X, how, dX, nX, lX0, lX1, hbl⟩ := hrel
    obtain ⟨av, capv, rfl⟩ := how.form
    obtain ⟨n, hn⟩ : ∃ n, n = X.length := ⟨_, rfl⟩
    rw [← hn] at how lX0 lX1 ⊢
    have HN := Lib.hid hn
    clear hn
    by_cases hlt : n < 33
    · have t1 : decide ((n : Int) < 33) = true := by simp; omega
      have HOW := Lib.hid how
      have HBL := Lib.hid hbl
      clear how hbl
      go_wp2_with (at_builtin; refine wpList_app1 rfl (.tmp 22) (.tmp 23) rfl rfl (HOW.out.alloc _) wr.heap.size 1 (0) rfl ((Has.fresh wr 3 #[I64 (0)]).cell 0) (by rw [← HN.out]; omega) (by simp; have := HBL.out.size; omega) ?_; intro v2 w2 hown2 hb2; obtain ⟨a2, cap2, hv2⟩ := hown2.form; rw [hv2] at hown2 ⊢)
      go_roundw
      case rel => exact ⟨X ++ [0], by rw [List.length_append] at hown2; exact hown2, dX.append (Dig.one (by omega)), by rw [num_pad]; exact nX, by rw [List.length_append, ← HN.out]; simp; omega, by rw [List.length_append, ← HN.out]; simp; omega, (HBL.out.alloc HBL.out.size _).trans hb2⟩
      case measure => simp [lenOf, ← HN.out]; omega
    · have t1 : decide ((n : Int) < 33) = false := by simp; omega
      have hst : ∃ X : List Nat, Ow v.heap.size wr (.slice av n capv) X ∧ Dig 256 X ∧ num 256 X = cflN V 0 ∧ X.length = n ∧ 33 ≤ n ∧ n ≤ 65 ∧ Below v.heap.size v wr := ⟨X, how, dX, nX, HN.out.symm, by omega, lX1, hbl⟩
      clear how dX nX hbl HN lX0 X
      go_wp2_with fail
      go_loopw [3, 4] (fun xv iv wr => ∃ (i n : Nat) (a : Option Addr) (cap : Nat) (X : List Nat), i ≤ 3 ∧ iv = .int .i64 (i : Int) ∧ xv = .slice a n cap ∧ Ow v.heap.size wr (.slice a n cap) X ∧ Dig 256 X ∧ num 256 X = cflN V i ∧ X.length = n ∧ 33 ≤ n ∧ n ≤ 65 ∧ Below v.heap.size v wr) (fun _ iv _ => 3 - (intOf iv).toNat)
      case atStart =>
        obtain ⟨X, h1⟩ := hst
        exact ⟨0, n, av, capv, X, by omega, rfl, rfl, h1⟩
      case round =>
        clear hst t1 lX1 hlt
        obtain ⟨i, n, av, capv, X, hi, rfl, rfl, how, dX, nX, lX, ln0, ln1, hbl⟩ := hrel
        by_cases hi3 : i < 3
        · have t1 : decide ((i : Int) < 3) = true := by simp; omega
          generalize wr = W0 at *
          obtain ⟨gx, capx, hvx, hgx0, hgx, hcx, cellX, _⟩ := how.parts (by omega)
          rw [lX] at hvx
          injection hvx with e1 e2 e3
          subst e1 e3
          rw [lX] at hcx
          obtain ⟨U, hU⟩ : ∃ U, U = cflN V i := ⟨_, rfl⟩
          obtain ⟨Hh, hHh⟩ : ∃ Hh, Hh = dg 256 (U / 57896044618658097711785492504343953926634992332820282019728792003956564819968) (n - 31) := ⟨_, rfl⟩
          have lH : Hh.length = n - 31 := by rw [hHh, dg_length]
          have gH : ∀ j, j < n - 31 → X.getD (31 + j) 0 / 128 + X.getD (31 + (j + 1)) 0 % 128 * 2 = Hh.getD j 0 := fun j hj => by
            rw [getD_any X dX, getD_any X dX, nX, ← hU, hHh, dg_getD _ _ _ _ hj]
            exact hdigC U j
          have dH : Dig 256 Hh := by rw [hHh]; exact dg_dig _ _ _ (by omega)
          have hQl : U / 57896044618658097711785492504343953926634992332820282019728792003956564819968 < 256 ^ (n - 31) := by
            have h1 := num_lt 256 X dX
            rw [nX, ← hU, lX, show n = 31 + (n - 31) from by omega, Nat.pow_add] at h1
            have h2 : U / 256 ^ 31 < 256 ^ (n - 31) := Nat.div_lt_of_lt_mul h1
            refine Nat.lt_of_le_of_lt ?_ h2
            rw [e31, show 57896044618658097711785492504343953926634992332820282019728792003956564819968 = 452312848583266388373324160190187140051835877600158453279131187530910662656 * 128 from by decide, ← Nat.div_div_eq_div_mul]
            exact Nat.div_le_self _ _
          have HCX := Lib.hid cellX
          have HXX := Lib.hid (And.intro dX (And.intro nX lX))
          have HBL := Lib.hid hbl
          have HGH := Lib.hid gH
          have HHH := Lib.hid (And.intro dH (And.intro lH hHh))
          have HQL := Lib.hid hQl
          have HU := Lib.hid hU
          have hsz : v.heap.size ≤ W0.heap.size := hbl.size
          clear cellX dX nX lX hbl how gH dH lH hHh hQl hU
          have hH0 : Ow W0.heap.size W0 (.slice none 0 0) (Hh.take 0) := Ow.nil _ _
          have hB0 : Below W0.heap.size W0 W0 := Below.refl _ _
          go_wp2_with fail
          go_loopw [5, 6] (fun hv jv W => ∃ (j : Nat) (a : Option Addr) (cap : Nat), j ≤ n - 31 ∧ jv = .int .i64 ((31 + j : Nat) : Int) ∧ hv = .slice a j cap ∧ Ow W0.heap.size W (.slice a j cap) (Hh.take j) ∧ Below W0.heap.size W0 W) (fun _ jv _ => n - (intOf jv).toNat)
          case atStart => exact ⟨0, _, _, by omega, rfl, rfl, hH0, hB0⟩
          case round =>
            clear hH0 hB0
            obtain ⟨j, ah, caph, hj, rfl, rfl, howH, hbH⟩ := hrel
            have hlT : (Hh.take j).length = j := by rw [List.length_take, HHH.out.2.1]; omega
            by_cases hlt : j < n - 31
            · have t2 : decide (((31 + j : Nat) : Int) < (n : Int)) = true := by simp; omega
              have hjn : ¬ ((n : Int) ≤ ((31 + j : Nat) : Int)) := by omega
              have c1 := (hbH.cell (p := ⟨gx, 31 + j, none⟩) hgx).trans (HCX.out (31 + j) (by rw [HXX.out.2.2]; omega))
              have htk := take_getD Hh j (by rw [HHH.out.2.1]; omega)
              have hg := HGH.out j hlt
              have hdb := HHH.out.1.getD (by omega) j
              have hw1 : IntKind.i64.wrap (((31 + j : Nat) : Int) + 1) = ((31 + (j + 1) : Nat) : Int) := by rw [IntWalk.i64_in _ (by omega)]; omega
              have hd1 : (X.getD (31 + j) 0 : Int).tdiv 128 = ((X.getD (31 + j) 0 / 128 : Nat) : Int) := tdivI _ 128
              have hxb := HXX.out.1.getD (by omega) (31 + j)
              generalize Hh.getD j 0 = hh at hg htk hdb
              generalize Hh.take j = T at htk hlT howH
              have hle : (T ++ [hh]).length = j + 1 := by rw [List.length_append, hlT]; rfl
              have HOW := Lib.hid howH
              have HBH := Lib.hid hbH
              have HTK := Lib.hid htk
              have HLE := Lib.hid hle
              have HLT := Lib.hid hlT
              have hqm : 31 + j < n := by omega
              clear howH htk hle hlT
              by_cases hlt2 : 31 + (j + 1) < n
              · have t3 : decide (((31 + (j + 1) : Nat) : Int) < (n : Int)) = true := by simp; omega
                have hjn2 : ¬ ((n : Int) ≤ ((31 + (j + 1) : Nat) : Int)) := by omega
                have c2 := (hbH.cell (p := ⟨gx, 31 + (j + 1), none⟩) hgx).trans (HCX.out (31 + (j + 1)) (by rw [HXX.out.2.2]; omega))
                have hd2 : (X.getD (31 + (j + 1)) 0 : Int).tmod 128 = ((X.getD (31 + (j + 1)) 0 % 128 : Nat) : Int) := tmodI _ 128
                have hq2l : X.getD (31 + (j + 1)) 0 % 128 < 128 := Nat.mod_lt _ (by omega)
                have hq1l : X.getD (31 + j) 0 / 128 < 256 := by omega
                have hhi : ((X.getD (31 + j) 0 / 128 : Nat) : Int) + ((X.getD (31 + (j + 1)) 0 % 128 : Nat) : Int) * 2 = (hh : Int) := by omega
                generalize X.getD (31 + (j + 1)) 0 % 128 = q2 at *
                generalize X.getD (31 + j) 0 / 128 = q1 at *
                generalize X.getD (31 + (j + 1)) 0 = z2 at *
                generalize X.getD (31 + j) 0 = z1 at *
                generalize hqq : 31 + j = q at *
                generalize hqq2 : 31 + (j + 1) = p at *
                clear hbH hg hxb
                go_wp2_with (at_builtin; refine wpList_app1 rfl (.tmp 54) (.tmp 56) rfl rfl (HOW.out.alloc _) wr.heap.size 1 hh rfl ((Has.fresh wr 3 #[I64 hh]).cell 0) (by rw [HLT.out]; omega) (by simp; have := HBH.out.size; omega) ?_; intro v2 w2 hown2 hb2; obtain ⟨a2, cap2, hv2⟩ := hown2.form; rw [hv2] at hown2 ⊢; rw [HLE.out] at hown2 ⊢)
                go_roundw
                case rel => exact ⟨j + 1, a2, cap2, by omega, by rw [hqq2], rfl, by rw [HTK.out]; exact hown2, (HBH.out.alloc HBH.out.size _).trans hb2⟩
                case measure => simp [intOf]; omega
              · have t3 : decide (((31 + (j + 1) : Nat) : Int) < (n : Int)) = false := by simp; omega
                have hz2 : X.getD (31 + (j + 1)) 0 = 0 := by rw [List.getD_eq_getElem?_getD, List.getElem?_eq_none (by rw [HXX.out.2.2]; omega)]; rfl
                rw [hz2] at hg
                have hq1 : X.getD (31 + j) 0 / 128 = hh := by omega
                rw [hq1] at hd1
                generalize X.getD (31 + j) 0 = z1 at *
                generalize hqq : 31 + j = q at *
                generalize hqq2 : 31 + (j + 1) = p at *
                clear hbH hg hxb hz2 hq1
                go_wp2_with (at_builtin; refine wpList_app1 rfl (.tmp 54) (.tmp 56) rfl rfl (HOW.out.alloc _) wr.heap.size 1 hh rfl ((Has.fresh wr 3 #[I64 hh]).cell 0) (by rw [HLT.out]; omega) (by simp; have := HBH.out.size; omega) ?_; intro v2 w2 hown2 hb2; obtain ⟨a2, cap2, hv2⟩ := hown2.form; rw [hv2] at hown2 ⊢; rw [HLE.out] at hown2 ⊢)
                go_roundw
                case rel => exact ⟨j + 1, a2, cap2, by omega, by rw [hqq2], rfl, by rw [HTK.out]; exact hown2, (HBH.out.alloc HBH.out.size _).trans hb2⟩
                case measure => simp [intOf]; omega
            · have t2 : decide (((31 + j : Nat) : Int) < (n : Int)) = false := by simp; omega
              have hjn1 : n ≤ 31 + j := by omega
              have hjn2 : 31 + j ≤ n := by omega
              have hjl : j = n - 31 := by omega
              clear hlt hj
              rw [List.take_of_length_le (by rw [HHH.out.2.1]; omega)] at howH hlT
              obtain ⟨gh, caph', hvh, hgh0, hgh, hch, cellH, _⟩ := howH.parts (by omega)
              rw [hlT] at hvh hch
              injection hvh with e4 e5 e6
              subst e4 e6
              have lT : (X.take 32).length = 32 := by rw [List.length_take, HXX.out.2.2]; omega
              have dT : Dig 256 (X.take 32) := HXX.out.1.take 32
              have hlow := lowC X HXX.out.1 (by rw [HXX.out.2.2]; omega)
              rw [HXX.out.2.1, ← HU.out] at hlow
              have gT : (X.take 32).getD 31 0 = X.getD 31 0 := by rw [List.getD_eq_getElem?_getD, List.getElem?_take_of_lt (by omega), ← List.getD_eq_getElem?_getD]
              rw [← gT] at hlow
              have hE0 : Ow wr.heap.size (wr.alloc (.cells #[] 3)) (.slice (some ⟨wr.heap.size, 0, none⟩) 0 0) [] := Ow.lit wr [] (Nat.le_refl _) (by simp)
              have hB1 : Below wr.heap.size wr (wr.alloc (.cells #[] 3)) := (Below.refl _ _).alloc (Nat.le_refl _) _
              have hsz1 : W0.heap.size ≤ wr.heap.size := hbH.size
              have hC1 : ∀ q, q < 32 → (wr.alloc (.cells #[] 3)).cell? ⟨gx, q, none⟩ = some (I64 ((X.take 32).getD q 0)) := fun q hq => by
                rw [hB1.cell (p := ⟨gx, q, none⟩) (by show gx < wr.heap.size; omega), hbH.cell (p := ⟨gx, q, none⟩) hgx, HCX.out q (by rw [HXX.out.2.2]; omega), List.getD_eq_getElem?_getD, List.getD_eq_getElem?_getD, List.getElem?_take_of_lt hq]
              generalize X.take 32 = T at hlow lT dT hC1
              have HE0 := Lib.hid hE0
              have HB1 := Lib.hid hB1
              have HC1 := Lib.hid hC1
              have HCH := Lib.hid cellH
              have HBH := Lib.hid hbH
              have HL32 := Lib.hid lT
              have HLOW := Lib.hid (And.intro hlow dT)
              have HHT := Lib.hid hlT
              clear hE0 hB1 hC1 cellH hbH hlow dT lT gT howH hlT HCX HGH
              have hc32 : (32 : Int) ≤ (capv : Int) := by omega
              have hc32n : 32 ≤ capv := by omega
              have hlh : j + 31 = n := by omega
              generalize hqq : 31 + j = q31 at *
              generalize j = lh at *
              generalize wr = W1 at *
              go_upto_region 16 with (at_builtin; refine wpList_appL (base := W1.heap.size) (v := .slice (some ⟨W1.heap.size, 0, none⟩) 0 0) (l := []) (w := W1.alloc (.cells #[] 3)) rfl (.tmp 58) (.tmp 60) rfl rfl HE0.out gx capv T 32 HL32.out rfl HC1.out (by simp) (by simp) ?_; intro v2 w2 hown2 hb2; rw [List.nil_append] at hown2; obtain ⟨a2, cap2, hv2⟩ := hown2.form; rw [hv2] at hown2 ⊢; rw [HL32.out] at hown2 ⊢)
              have hb3 : Below W1.heap.size W1 w2 := HB1.out.trans hb2
              obtain ⟨gt, capt, hvt, hgt0, hgt, hct, cellT, frT⟩ := hown2.parts (by rw [HL32.out]; omega)
              rw [HL32.out] at hvt hct
              injection hvt with e7 e8 e9
              subst e7 e9
              have k0 := cellT 31 (by rw [HL32.out]; omega)
              have f0 := frT 31
              have hrem : (T.getD 31 0 : Int).tmod 128 = ((T.getD 31 0 % 128 : Nat) : Int) := tmodI _ 128
              have how1 := hown2
              rw [← HL32.out] at how1
              have how2 := how1.put 31 (T.getD 31 0 % 128)
              rw [HL32.out] at how2
              have hb4 := hb3.setCell (p := ⟨gt, 31, none⟩) hgt0 (I64 (T.getD 31 0 % 128))
              have lY0 : (T.set 31 (T.getD 31 0 % 128)).length = 32 := by rw [List.length_set, HL32.out]
              have dY0 : Dig 256 (T.set 31 (T.getD 31 0 % 128)) := HLOW.out.2.set 31 (by omega)
              have nY0 := HLOW.out.1
              generalize T.set 31 (T.getD 31 0 % 128) = Y0 at how2 lY0 dY0 nY0
              generalize T.getD 31 0 % 128 = x4 at hrem how2 hb4
              generalize T.getD 31 0 = z0 at k0 hrem
              have HST := Lib.hid (And.intro how2 (And.intro dY0 (And.intro lY0 (And.intro nY0 hb4))))
              clear hown2 hb2 hb3 how1 how2 hb4 lY0 dY0 nY0 HE0 HB1 HC1 HLOW HL32 cellT frT
              go_upto_region 17 with fail
              have hQl0 := HQL.out
              rw [show n - 31 = lh from by omega] at hQl0
              have hHh := HHH.out.2.2
              rw [show n - 31 = lh from by omega] at hHh
              obtain ⟨Q, hQ⟩ : ∃ Q, Q = U / 57896044618658097711785492504343953926634992332820282019728792003956564819968 := ⟨_, rfl⟩
              rw [← hQ] at hQl0 hHh
              have hgq : ∀ q, Hh.getD q 0 = Q / 256 ^ q % 256 := fun q => by
                rw [getD_any Hh HHH.out.1, hHh, num_dg, Nat.mod_eq_of_lt hQl0]
              obtain ⟨M, hM⟩ : ∃ M, M = max 33 lh := ⟨_, rfl⟩
              have hM1 : 33 ≤ M := by omega
              have hM2 : lh ≤ M := by omega
              have hM3 : M ≤ 34 := by omega
              have hst : num 256 Y0 + 0 * 256 ^ 0 = U % 57896044618658097711785492504343953926634992332820282019728792003956564819968 + 19 * (Q % 256 ^ 0) := by rw [HST.out.2.2.2.1, Nat.pow_zero, Nat.mod_one]
              have HST2 := Lib.hid hst
              have HQ := Lib.hid hQl0
              have HQU := Lib.hid hQ
              have HGQ := Lib.hid hgq
              clear hM hQl0 hHh hQ hgq hst k0 f0 hrem
              go_wp2_with fail
              go_loopw [3, 8, 9] (fun xv cv jv W => ∃ (jj c ly : Nat) (a : Option Addr) (cap : Nat) (Y : List Nat), jv = .int .i64 (jj : Int) ∧ cv = .int .i64 (c : Int) ∧ xv = .slice a ly cap ∧ Ow W1.heap.size W (.slice a ly cap) Y ∧ Dig 256 Y ∧ Y.length = ly ∧ 32 ≤ ly ∧ jj ≤ ly ∧ ly ≤ max 32 jj ∧ c ≤ 20 ∧ jj ≤ M + 1 ∧ (M < jj → c = 0) ∧ num 256 Y + c * 256 ^ jj = U % 57896044618658097711785492504343953926634992332820282019728792003956564819968 + 19 * (Q % 256 ^ jj) ∧ Below W1.heap.size W1 W) (fun _ _ jv _ => M + 2 - (intOf jv).toNat)
              case atStart => exact ⟨0, 0, 32, _, _, _, rfl, rfl, rfl, HST.out.1, HST.out.2.1, HST.out.2.2.1, by omega, by omega, by omega, by omega, by omega, fun _ => rfl, HST2.out, HST.out.2.2.2.2⟩
              case round =>
                clear HST HST2
                obtain ⟨jj, c, ly, ay, capy0, Y, rfl, rfl, rfl, howY, dY, lY, hl32, hjly, hlym, hc20, hjM, hcz, hnum, hbZ0⟩ := hrel
                by_cases hex : jj < lh ∨ 0 < c ∨ jj < 33
                · have hjM2 : jj ≤ M := by omega
                  obtain ⟨hh, hhe⟩ : ∃ hh, hh = Q / 256 ^ jj % 256 := ⟨_, rfl⟩
                  have hhl : hh < 256 := by rw [hhe]; exact Nat.mod_lt _ (by omega)
                  obtain ⟨NY, hNY⟩ : ∃ NY, NY = num 256 Y := ⟨_, rfl⟩
                  have hNYl : 33 ≤ jj → NY < 256 ^ jj := fun h => by
                    rw [hNY]
                    exact Nat.lt_of_lt_of_le (num_lt 256 Y dY) (Nat.pow_le_pow_right (by omega) (by omega))
                  rw [← hNY] at hnum
                  have HHH2 := Lib.hid hhe
                  have HNY := Lib.hid hNYl
                  have HNC := Lib.hid hnum
                  have HYY := Lib.hid (And.intro howY (And.intro dY (And.intro lY hNY)))
                  clear hhe hNYl hnum howY dY lY hNY
                  by_cases hx1 : jj < lh
                  · have t3 : decide ((jj : Int) < (lh : Int)) = true := by simp; omega
                    go_wp2_with fail
                    go_loopw [3] (fun xv Wz => ∃ (ly : Nat) (a : Option Addr) (cap : Nat) (Z : List Nat), xv = .slice a ly cap ∧ Ow W1.heap.size Wz (.slice a ly cap) Z ∧ Dig 256 Z ∧ Z.length = ly ∧ num 256 Z = NY ∧ 32 ≤ ly ∧ jj ≤ ly ∧ ly ≤ max 32 (jj + 1) ∧ Below W1.heap.size W1 Wz) (fun xv _ => jj + 1 - lenOf xv)
                    case atStart => exact ⟨ly, _, _, Y, rfl, HYY.out.1, HYY.out.2.1, HYY.out.2.2.1, HYY.out.2.2.2.symm, by omega, by omega, by omega, hbZ0⟩
                    case round =>
                      clear HYY hbZ0
                      obtain ⟨ly, az, capz, Z, rfl, howZ, dZ, lZ, nZ, hl32, hjly, hlym, hbZ⟩ := hrel
                      by_cases hly : ly ≤ jj
                      · have t5 : decide ((ly : Int) ≤ (jj : Int)) = true := by simp; omega
                        have hle : (Z ++ [0]).length = ly + 1 := by rw [List.length_append, lZ]; rfl
                        have HOW := Lib.hid howZ
                        have HBZ := Lib.hid hbZ
                        have HLZ := Lib.hid (And.intro lZ hle)
                        clear howZ hbZ hle lZ
                        go_wp2_with (at_builtin; refine wpList_app1 rfl (.tmp 86) (.tmp 87) rfl rfl (HOW.out.alloc _) wr.heap.size 1 0 rfl ((Has.fresh wr 3 #[I64 0]).cell 0) (by rw [HLZ.out.1]; omega) (by simp; have := HBZ.out.size; omega) ?_; intro v5 w5 hown5 hb5; obtain ⟨a5, cap5, hv5⟩ := hown5.form; rw [hv5] at hown5 ⊢; rw [HLZ.out.2] at hown5 ⊢)
                        go_roundw
                        case rel =>
                          have hres : ∃ (ly' : Nat) (a : Option Addr) (cap : Nat) (Z' : List Nat), Value.slice a5 (ly + 1) cap5 = .slice a ly' cap ∧ Ow W1.heap.size w5 (.slice a ly' cap) Z' ∧ Dig 256 Z' ∧ Z'.length = ly' ∧ num 256 Z' = NY ∧ 32 ≤ ly' ∧ jj ≤ ly' ∧ ly' ≤ max 32 (jj + 1) ∧ Below W1.heap.size W1 w5 := ⟨ly + 1, _, _, _, rfl, hown5, dZ.append (Dig.one (by omega)), HLZ.out.2, by rw [num_pad]; exact nZ, by omega, by omega, by omega, (HBZ.out.alloc HBZ.out.size _).trans hb5⟩
                          first
                            | exact hres
                            | (iterate 8 apply Exists.intro
                               exact ⟨hres, rfl⟩)
                        case measure => simp [lenOf]; omega
                      · obtain ⟨gy, capy, hvy, hgy0, hgy, hcy, cellY, frY⟩ := howZ.parts (by omega)
                        rw [lZ] at hvy
                        injection hvy with e7 e8 e9
                        subst e7 e9
                        have c1 := cellY jj (by omega)
                        have f1 := frY jj
                        have hyj := getD_any Z dZ jj
                        have hyb : Z.getD jj 0 < 256 := dZ.getD (by omega) jj
                        obtain ⟨s, hs⟩ : ∃ s, s = 19 * hh + Z.getD jj 0 + c := ⟨_, rfl⟩
                        have hst := step_mul 256 Z jj s (19 * hh) c (by omega) hs
                        rw [nZ] at hst hyj
                        have hz0 : M < jj + 1 → s / 256 = 0 := fun h => by
                          have h1 : NY / 256 ^ jj = 0 := Nat.div_eq_of_lt (HNY.out (by omega))
                          have h2 : Q / 256 ^ jj = 0 := Nat.div_eq_of_lt (Nat.lt_of_lt_of_le HQ.out (Nat.pow_le_pow_right (by omega) (by omega)))
                          rw [h1] at hyj
                          have h3 := HHH2.out
                          rw [h2] at h3
                          omega
                        have hnum : num 256 (Z.set jj (s % 256)) + s / 256 * 256 ^ (jj + 1) = U % 57896044618658097711785492504343953926634992332820282019728792003956564819968 + 19 * (Q % 256 ^ (jj + 1)) := by
                          rw [hst, HNC.out, Nat.pow_succ, Nat.mod_mul, ← HHH2.out, Nat.mul_add, Nat.mul_assoc, Nat.mul_comm hh]
                          omega
                        have how1 := howZ
                        rw [← lZ] at how1
                        have how2 := how1.put jj (s % 256)
                        rw [lZ] at how2
                        clear how1
                        have hbz2 := hbZ.setCell (p := ⟨gy, jj, none⟩) hgy0 (I64 (s % 256))
                        have hl2 : (Z.set jj (s % 256)).length = ly := by rw [List.length_set, lZ]
                        have hd2 := dZ.set jj (Nat.mod_lt s (show 0 < 256 by omega))
                        have hrem : (s : Int).tmod 256 = ((s % 256 : Nat) : Int) := tmodI s 256
                        have hquo : (s : Int).tdiv 256 = ((s / 256 : Nat) : Int) := tdivI s 256
                        have hsl : s < 5200 := by omega
                        have hs6 : s / 256 ≤ 20 := by omega
                        have hjl : ¬ ((ly : Int) ≤ (jj : Int)) := by omega
                        have t5 : decide ((ly : Int) ≤ (jj : Int)) = false := by simp; omega
                        have t8 : decide ((jj : Int) < (lh : Int)) = true := by simp; omega
                        have hn1 : ¬ ((lh : Int) ≤ (jj : Int)) := by omega
                        have k1 := (hbZ.cell (p := ⟨gh, jj, none⟩) hgh).trans (HCH.out jj (by rw [HHT.out]; omega))
                        rw [HGQ.out jj, ← HHH2.out] at k1
                        have hsum : (c : Int) + (Z.getD jj 0 : Int) + 19 * (hh : Int) = (s : Int) := by omega
                        generalize hs0 : s % 256 = s0 at *
                        generalize hs1 : s / 256 = s1 at *
                        generalize Z.getD jj 0 = yj at c1 hsum hyb
                        have HS := Lib.hid (And.intro how2 (And.intro hd2 (And.intro hl2 (And.intro hnum hbz2))))
                        clear how2 hd2 hl2 hnum hbz2 howZ dZ lZ nZ hbZ cellY frY hst hyj hs hcy
                        go_wp2
                        go_roundw
                        case rel =>
                          first
                            | exact ⟨jj + 1, s1, ly, _, _, _, by go_num, rfl, rfl, HS.out.1, HS.out.2.1, HS.out.2.2.1, by omega, by omega, by omega, hs6, by omega, hz0, HS.out.2.2.2.1, HS.out.2.2.2.2⟩
                            | (iterate 60 apply Exists.intro
                               refine ⟨?_, rfl⟩
                               exact ⟨jj + 1, s1, ly, _, _, _, by go_num, rfl, rfl, HS.out.1, HS.out.2.1, HS.out.2.2.1, by omega, by omega, by omega, hs6, by omega, hz0, HS.out.2.2.2.1, HS.out.2.2.2.2⟩)
                        case measure => simp [intOf]; omega
                  · by_cases hx2 : 0 < c
                    · have t3 : decide ((jj : Int) < (lh : Int)) = false := by simp; omega
                      have t6 : decide ((0 : Int) < (c : Int)) = true := by simp; omega
                      have t7 : (0 : Int) < (c : Int) := by omega
                      go_wp2_with fail
                      go_loopw [3] (fun xv Wz => ∃ (ly : Nat) (a : Option Addr) (cap : Nat) (Z : List Nat), xv = .slice a ly cap ∧ Ow W1.heap.size Wz (.slice a ly cap) Z ∧ Dig 256 Z ∧ Z.length = ly ∧ num 256 Z = NY ∧ 32 ≤ ly ∧ jj ≤ ly ∧ ly ≤ max 32 (jj + 1) ∧ Below W1.heap.size W1 Wz) (fun xv _ => jj + 1 - lenOf xv)
                      case atStart => exact ⟨ly, _, _, Y, rfl, HYY.out.1, HYY.out.2.1, HYY.out.2.2.1, HYY.out.2.2.2.symm, by omega, by omega, by omega, hbZ0⟩
                      case round =>
                        clear HYY hbZ0
                        obtain ⟨ly, az, capz, Z, rfl, howZ, dZ, lZ, nZ, hl32, hjly, hlym, hbZ⟩ := hrel
                        by_cases hly : ly ≤ jj
                        · have t5 : decide ((ly : Int) ≤ (jj : Int)) = true := by simp; omega
                          have hle : (Z ++ [0]).length = ly + 1 := by rw [List.length_append, lZ]; rfl
                          have HOW := Lib.hid howZ
                          have HBZ := Lib.hid hbZ
                          have HLZ := Lib.hid (And.intro lZ hle)
                          clear howZ hbZ hle lZ
                          go_wp2_with (at_builtin; refine wpList_app1 rfl (.tmp 86) (.tmp 87) rfl rfl (HOW.out.alloc _) wr.heap.size 1 0 rfl ((Has.fresh wr 3 #[I64 0]).cell 0) (by rw [HLZ.out.1]; omega) (by simp; have := HBZ.out.size; omega) ?_; intro v5 w5 hown5 hb5; obtain ⟨a5, cap5, hv5⟩ := hown5.form; rw [hv5] at hown5 ⊢; rw [HLZ.out.2] at hown5 ⊢)
                          go_roundw
                          case rel =>
                            have hres : ∃ (ly' : Nat) (a : Option Addr) (cap : Nat) (Z' : List Nat), Value.slice a5 (ly + 1) cap5 = .slice a ly' cap ∧ Ow W1.heap.size w5 (.slice a ly' cap) Z' ∧ Dig 256 Z' ∧ Z'.length = ly' ∧ num 256 Z' = NY ∧ 32 ≤ ly' ∧ jj ≤ ly' ∧ ly' ≤ max 32 (jj + 1) ∧ Below W1.heap.size W1 w5 := ⟨ly + 1, _, _, _, rfl, hown5, dZ.append (Dig.one (by omega)), HLZ.out.2, by rw [num_pad]; exact nZ, by omega, by omega, by omega, (HBZ.out.alloc HBZ.out.size _).trans hb5⟩
                            first
                              | exact hres
                              | (iterate 8 apply Exists.intro
                                 exact ⟨hres, rfl⟩)
                          case measure => simp [lenOf]; omega
                        · obtain ⟨gy, capy, hvy, hgy0, hgy, hcy, cellY, frY⟩ := howZ.parts (by omega)
                          rw [lZ] at hvy
                          injection hvy with e7 e8 e9
                          subst e7 e9
                          have c1 := cellY jj (by omega)
                          have f1 := frY jj
                          have hyj := getD_any Z dZ jj
                          have hyb : Z.getD jj 0 < 256 := dZ.getD (by omega) jj
                          obtain ⟨s, hs⟩ : ∃ s, s = 19 * hh + Z.getD jj 0 + c := ⟨_, rfl⟩
                          have hst := step_mul 256 Z jj s (19 * hh) c (by omega) hs
                          rw [nZ] at hst hyj
                          have hz0 : M < jj + 1 → s / 256 = 0 := fun h => by
                            have h1 : NY / 256 ^ jj = 0 := Nat.div_eq_of_lt (HNY.out (by omega))
                            have h2 : Q / 256 ^ jj = 0 := Nat.div_eq_of_lt (Nat.lt_of_lt_of_le HQ.out (Nat.pow_le_pow_right (by omega) (by omega)))
                            rw [h1] at hyj
                            have h3 := HHH2.out
                            rw [h2] at h3
                            omega
                          have hnum : num 256 (Z.set jj (s % 256)) + s / 256 * 256 ^ (jj + 1) = U % 57896044618658097711785492504343953926634992332820282019728792003956564819968 + 19 * (Q % 256 ^ (jj + 1)) := by
                            rw [hst, HNC.out, Nat.pow_succ, Nat.mod_mul, ← HHH2.out, Nat.mul_add, Nat.mul_assoc, Nat.mul_comm hh]
                            omega
                          have how1 := howZ
                          rw [← lZ] at how1
                          have how2 := how1.put jj (s % 256)
                          rw [lZ] at how2
                          clear how1
                          have hbz2 := hbZ.setCell (p := ⟨gy, jj, none⟩) hgy0 (I64 (s % 256))
                          have hl2 : (Z.set jj (s % 256)).length = ly := by rw [List.length_set, lZ]
                          have hd2 := dZ.set jj (Nat.mod_lt s (show 0 < 256 by omega))
                          have hrem : (s : Int).tmod 256 = ((s % 256 : Nat) : Int) := tmodI s 256
                          have hquo : (s : Int).tdiv 256 = ((s / 256 : Nat) : Int) := tdivI s 256
                          have hsl : s < 5200 := by omega
                          have hs6 : s / 256 ≤ 20 := by omega
                          have hjl : ¬ ((ly : Int) ≤ (jj : Int)) := by omega
                          have t5 : decide ((ly : Int) ≤ (jj : Int)) = false := by simp; omega
                          have t8 : decide ((jj : Int) < (lh : Int)) = false := by simp; omega
                          have h0 : hh = 0 := by rw [HHH2.out, Nat.div_eq_of_lt (Nat.lt_of_lt_of_le HQ.out (Nat.pow_le_pow_right (by omega) (by omega)))]
                          have hsum : (c : Int) + (Z.getD jj 0 : Int) = (s : Int) := by omega
                          clear h0
                          generalize hs0 : s % 256 = s0 at *
                          generalize hs1 : s / 256 = s1 at *
                          generalize Z.getD jj 0 = yj at c1 hsum hyb
                          have HS := Lib.hid (And.intro how2 (And.intro hd2 (And.intro hl2 (And.intro hnum hbz2))))
                          clear how2 hd2 hl2 hnum hbz2 howZ dZ lZ nZ hbZ cellY frY hst hyj hs hcy
                          go_wp2
                          go_roundw
                          case rel =>
                            first
                              | exact ⟨jj + 1, s1, ly, _, _, _, by go_num, rfl, rfl, HS.out.1, HS.out.2.1, HS.out.2.2.1, by omega, by omega, by omega, hs6, by omega, hz0, HS.out.2.2.2.1, HS.out.2.2.2.2⟩
                              | (iterate 60 apply Exists.intro
                                 refine ⟨?_, rfl⟩
                                 exact ⟨jj + 1, s1, ly, _, _, _, by go_num, rfl, rfl, HS.out.1, HS.out.2.1, HS.out.2.2.1, by omega, by omega, by omega, hs6, by omega, hz0, HS.out.2.2.2.1, HS.out.2.2.2.2⟩)
                          case measure => simp [intOf]; omega
                    · have t3 : decide ((jj : Int) < (lh : Int)) = false := by simp; omega
                      have t6 : decide ((0 : Int) < (c : Int)) = false := by simp; omega
                      have t7 : decide ((jj : Int) < 33) = true := by simp; omega
                      go_wp2_with fail
                      go_loopw [3] (fun xv Wz => ∃ (ly : Nat) (a : Option Addr) (cap : Nat) (Z : List Nat), xv = .slice a ly cap ∧ Ow W1.heap.size Wz (.slice a ly cap) Z ∧ Dig 256 Z ∧ Z.length = ly ∧ num 256 Z = NY ∧ 32 ≤ ly ∧ jj ≤ ly ∧ ly ≤ max 32 (jj + 1) ∧ Below W1.heap.size W1 Wz) (fun xv _ => jj + 1 - lenOf xv)
                      case atStart => exact ⟨ly, _, _, Y, rfl, HYY.out.1, HYY.out.2.1, HYY.out.2.2.1, HYY.out.2.2.2.symm, by omega, by omega, by omega, hbZ0⟩
                      case round =>
                        clear HYY hbZ0
                        obtain ⟨ly, az, capz, Z, rfl, howZ, dZ, lZ, nZ, hl32, hjly, hlym, hbZ⟩ := hrel
                        by_cases hly : ly ≤ jj
                        · have t5 : decide ((ly : Int) ≤ (jj : Int)) = true := by simp; omega
                          have hle : (Z ++ [0]).length = ly + 1 := by rw [List.length_append, lZ]; rfl
                          have HOW := Lib.hid howZ
                          have HBZ := Lib.hid hbZ
                          have HLZ := Lib.hid (And.intro lZ hle)
                          clear howZ hbZ hle lZ
                          go_wp2_with (at_builtin; refine wpList_app1 rfl (.tmp 86) (.tmp 87) rfl rfl (HOW.out.alloc _) wr.heap.size 1 0 rfl ((Has.fresh wr 3 #[I64 0]).cell 0) (by rw [HLZ.out.1]; omega) (by simp; have := HBZ.out.size; omega) ?_; intro v5 w5 hown5 hb5; obtain ⟨a5, cap5, hv5⟩ := hown5.form; rw [hv5] at hown5 ⊢; rw [HLZ.out.2] at hown5 ⊢)
                          go_roundw
                          case rel =>
                            have hres : ∃ (ly' : Nat) (a : Option Addr) (cap : Nat) (Z' : List Nat), Value.slice a5 (ly + 1) cap5 = .slice a ly' cap ∧ Ow W1.heap.size w5 (.slice a ly' cap) Z' ∧ Dig 256 Z' ∧ Z'.length = ly' ∧ num 256 Z' = NY ∧ 32 ≤ ly' ∧ jj ≤ ly' ∧ ly' ≤ max 32 (jj + 1) ∧ Below W1.heap.size W1 w5 := ⟨ly + 1, _, _, _, rfl, hown5, dZ.append (Dig.one (by omega)), HLZ.out.2, by rw [num_pad]; exact nZ, by omega, by omega, by omega, (HBZ.out.alloc HBZ.out.size _).trans hb5⟩
                            first
                              | exact hres
                              | (iterate 8 apply Exists.intro
                                 exact ⟨hres, rfl⟩)
                          case measure => simp [lenOf]; omega
                        · obtain ⟨gy, capy, hvy, hgy0, hgy, hcy, cellY, frY⟩ := howZ.parts (by omega)
                          rw [lZ] at hvy
                          injection hvy with e7 e8 e9
                          subst e7 e9
                          have c1 := cellY jj (by omega)
                          have f1 := frY jj
                          have hyj := getD_any Z dZ jj
                          have hyb : Z.getD jj 0 < 256 := dZ.getD (by omega) jj
                          obtain ⟨s, hs⟩ : ∃ s, s = 19 * hh + Z.getD jj 0 + c := ⟨_, rfl⟩
                          have hst := step_mul 256 Z jj s (19 * hh) c (by omega) hs
                          rw [nZ] at hst hyj
                          have hz0 : M < jj + 1 → s / 256 = 0 := fun h => by
                            have h1 : NY / 256 ^ jj = 0 := Nat.div_eq_of_lt (HNY.out (by omega))
                            have h2 : Q / 256 ^ jj = 0 := Nat.div_eq_of_lt (Nat.lt_of_lt_of_le HQ.out (Nat.pow_le_pow_right (by omega) (by omega)))
                            rw [h1] at hyj
                            have h3 := HHH2.out
                            rw [h2] at h3
                            omega
                          have hnum : num 256 (Z.set jj (s % 256)) + s / 256 * 256 ^ (jj + 1) = U % 57896044618658097711785492504343953926634992332820282019728792003956564819968 + 19 * (Q % 256 ^ (jj + 1)) := by
                            rw [hst, HNC.out, Nat.pow_succ, Nat.mod_mul, ← HHH2.out, Nat.mul_add, Nat.mul_assoc, Nat.mul_comm hh]
                            omega
                          have how1 := howZ
                          rw [← lZ] at how1
                          have how2 := how1.put jj (s % 256)
                          rw [lZ] at how2
                          clear how1
                          have hbz2 := hbZ.setCell (p := ⟨gy, jj, none⟩) hgy0 (I64 (s % 256))
                          have hl2 : (Z.set jj (s % 256)).length = ly := by rw [List.length_set, lZ]
                          have hd2 := dZ.set jj (Nat.mod_lt s (show 0 < 256 by omega))
                          have hrem : (s : Int).tmod 256 = ((s % 256 : Nat) : Int) := tmodI s 256
                          have hquo : (s : Int).tdiv 256 = ((s / 256 : Nat) : Int) := tdivI s 256
                          have hsl : s < 5200 := by omega
                          have hs6 : s / 256 ≤ 20 := by omega
                          have hjl : ¬ ((ly : Int) ≤ (jj : Int)) := by omega
                          have t5 : decide ((ly : Int) ≤ (jj : Int)) = false := by simp; omega
                          have t8 : decide ((jj : Int) < (lh : Int)) = false := by simp; omega
                          have h0 : hh = 0 := by rw [HHH2.out, Nat.div_eq_of_lt (Nat.lt_of_lt_of_le HQ.out (Nat.pow_le_pow_right (by omega) (by omega)))]
                          have hsum : (c : Int) + (Z.getD jj 0 : Int) = (s : Int) := by omega
                          clear h0
                          generalize hs0 : s % 256 = s0 at *
                          generalize hs1 : s / 256 = s1 at *
                          generalize Z.getD jj 0 = yj at c1 hsum hyb
                          have HS := Lib.hid (And.intro how2 (And.intro hd2 (And.intro hl2 (And.intro hnum hbz2))))
                          clear how2 hd2 hl2 hnum hbz2 howZ dZ lZ nZ hbZ cellY frY hst hyj hs hcy
                          go_wp2
                          go_roundw
                          case rel =>
                            first
                              | exact ⟨jj + 1, s1, ly, _, _, _, by go_num, rfl, rfl, HS.out.1, HS.out.2.1, HS.out.2.2.1, by omega, by omega, by omega, hs6, by omega, hz0, HS.out.2.2.2.1, HS.out.2.2.2.2⟩
                              | (iterate 60 apply Exists.intro
                                 refine ⟨?_, rfl⟩
                                 exact ⟨jj + 1, s1, ly, _, _, _, by go_num, rfl, rfl, HS.out.1, HS.out.2.1, HS.out.2.2.1, by omega, by omega, by omega, hs6, by omega, hz0, HS.out.2.2.2.1, HS.out.2.2.2.2⟩)
                          case measure => simp [intOf]; omega
                · have hc0 : c = 0 := by omega
                  subst hc0
                  have t3 : decide ((jj : Int) < (lh : Int)) = false := by simp; omega
                  have t6 : decide ((jj : Int) < 33) = false := by simp; omega
                  have hnf : num 256 Y = cflN V (i + 1) := by
                    rw [Nat.zero_mul, Nat.add_zero, Nat.mod_eq_of_lt (Nat.lt_of_lt_of_le HQ.out (Nat.pow_le_pow_right (by omega) (by omega)))] at hnum
                    rw [hnum, HQU.out, HU.out]
                    rfl
                  have HS := Lib.hid (And.intro (howY.mono (show v.heap.size ≤ W1.heap.size by omega)) (And.intro dY (And.intro hnf (And.intro lY (And.intro (show 33 ≤ ly by omega) (And.intro (show ly ≤ 65 by omega) (HBL.out.trans ((HBH.out.mono hsz).trans (hbZ0.mono (by omega))))))))))
                  clear howY dY lY hnf hnum hbZ0 HBL HBH
                  go_wp2
                  go_roundw
                  case rel => exact ⟨i + 1, ly, _, _, Y, by omega, by go_num, rfl, HS.out⟩
                  case measure => simp [intOf]; omega
        · have hi4 : i = 3 := by omega
          subst hi4
          have t1 : decide (((3 : Nat) : Int) < 3) = false := by decide
          generalize wr = W0 at *
          obtain ⟨gx, capx, hvx, hgx0, hgx, hcx, cellX, _⟩ := how.parts (by omega)
          rw [lX] at hvx hcx
          injection hvx with e1 e2 e3
          subst e1 e3
          have hE0 : Ow W0.heap.size (W0.alloc (.cells #[] 3)) (.slice (some ⟨W0.heap.size, 0, none⟩) 0 0) [] := Ow.lit W0 [] (Nat.le_refl _) (by simp)
          have hB1 : Below W0.heap.size W0 (W0.alloc (.cells #[] 3)) := (Below.refl _ _).alloc (Nat.le_refl _) _
          have hC1 : ∀ q, q < n → (W0.alloc (.cells #[] 3)).cell? ⟨gx, q, none⟩ = some (I64 (X.getD q 0)) := fun q hq => (hB1.cell (p := ⟨gx, q, none⟩) hgx).trans (cellX q (by omega))
          have hCX : ∀ q, q < n → W0.cell? ⟨gx, q, none⟩ = some (I64 (X.getD q 0)) := fun q hq => cellX q (by omega)
          obtain ⟨V3, hV3⟩ : ∃ V3, V3 = cflN V 3 := ⟨_, rfl⟩
          have h3 := H3.out
          rw [← hV3] at nX h3
          have HE0 := Lib.hid hE0
          have HB1 := Lib.hid hB1
          have HC1 := Lib.hid hC1
          have HXX := Lib.hid (And.intro dX (And.intro nX (And.intro hCX hgx)))
          have HBL := Lib.hid hbl
          have H33 := Lib.hid h3
          have hsz : v.heap.size ≤ W0.heap.size := hbl.size
          have HLX := Lib.hid lX
          clear hE0 hB1 hC1 cellX dX nX lX hbl how hV3 h3 H3 hCX
          go_upto_region 30 with (at_builtin; refine wpList_appL (base := W0.heap.size) (v := .slice (some ⟨W0.heap.size, 0, none⟩) 0 0) (l := []) (w := W0.alloc (.cells #[] 3)) rfl (.tmp 113) (.tmp 114) rfl rfl HE0.out gx capv X n HLX.out rfl HC1.out (by simp; omega) (by simp) ?_; intro v2 w2 hown2 hb2; rw [List.nil_append] at hown2; obtain ⟨a2, cap2, hv2⟩ := hown2.form; rw [hv2] at hown2 ⊢; rw [HLX.out] at hown2 ⊢)
          obtain ⟨gy, capy, hvy, hgy0, hgy, hcy, _, _⟩ := hown2.parts (by rw [HLX.out]; omega)
          rw [HLX.out] at hvy hcy
          injection hvy with e4 e5 e6
          subst e4 e6
          have hb3 : Below W0.heap.size W0 w2 := HB1.out.trans hb2
          have hst : num 256 X + 19 * 256 ^ 0 = V3 + 19 := by rw [HXX.out.2.1]
          have HST := Lib.hid (And.intro hown2 (And.intro HXX.out.1 (And.intro HLX.out (And.intro hst hb3))))
          clear hown2 hb2 hb3 hst HE0 HC1 HB1
          go_wp2_with fail
          go_loopw [12, 13] (fun cv jv W => ∃ (jj c : Nat) (Y : List Nat), jv = .int .i64 (jj : Int) ∧ cv = .int .i64 (c : Int) ∧ c ≤ 19 ∧ jj ≤ 32 ∧ Ow W0.heap.size W (.slice (some ⟨gy, 0, none⟩) n cap2) Y ∧ Dig 256 Y ∧ Y.length = n ∧ num 256 Y + c * 256 ^ jj = V3 + 19 ∧ Below W0.heap.size W0 W) (fun _ jv _ => 32 - (intOf jv).toNat)
          case atStart => exact ⟨0, 19, X, rfl, rfl, by omega, by omega, HST.out⟩
          case round =>
            clear HST
            obtain ⟨jj, c, Y, rfl, rfl, hc19, hjn, howY, dY, lY, hnum, hbY⟩ := hrel
            obtain ⟨gy', capy', hvy, hgyb, hgyW, _, cellY, frY⟩ := howY.parts (by omega)
            injection hvy with e7 e8 e9
            clear e8 e9
            injection e7 with e7
            injection e7 with e7
            subst e7
            by_cases hlt : jj < 32
            · have t2 : decide ((jj : Int) < 32) = true := by simp; omega
              have hjl : ¬ ((n : Int) ≤ (jj : Int)) := by omega
              have c1 := cellY jj (by omega)
              have f1 := frY jj
              have hyb : Y.getD jj 0 < 256 := dY.getD (by omega) jj
              obtain ⟨s, hs⟩ : ∃ s, s = 0 + Y.getD jj 0 + c := ⟨_, rfl⟩
              have hst := step_mul 256 Y jj s 0 c (by omega) hs
              rw [Nat.zero_mul, Nat.add_zero, hnum] at hst
              have how1 := howY
              rw [← lY] at how1
              have how2 := how1.put jj (s % 256)
              rw [lY] at how2
              have hbz2 := hbY.setCell (p := ⟨gy, jj, none⟩) hgy0 (I64 (s % 256))
              have hl2 : (Y.set jj (s % 256)).length = n := by rw [List.length_set, lY]
              have hd2 := dY.set jj (Nat.mod_lt s (show 0 < 256 by omega))
              have hrem : (s : Int).tmod 256 = ((s % 256 : Nat) : Int) := tmodI s 256
              have hquo : (s : Int).tdiv 256 = ((s / 256 : Nat) : Int) := tdivI s 256
              have hsum : (c : Int) + (Y.getD jj 0 : Int) = (s : Int) := by omega
              have hsl : s < 300 := by omega
              have hs5 : s / 256 ≤ 19 := by omega
              generalize hs0 : s % 256 = s0 at *
              generalize hs1 : s / 256 = s1 at *
              generalize Y.getD jj 0 = yj at c1 hsum hyb
              have HS := Lib.hid (And.intro how2 (And.intro hd2 (And.intro hl2 (And.intro hst hbz2))))
              clear how1 how2 hd2 hl2 hst hbz2 howY dY lY hnum hbY cellY frY hs
              go_wp2
              go_roundw
              case rel => exact ⟨jj + 1, s1, _, by go_num, rfl, hs5, by omega, HS.out⟩
              case measure => simp [intOf]; omega
            · have hjn2 : jj = 32 := by omega
              subst hjn2
              rw [show (((32 : Nat) : Int)) = 32 from rfl]
              have t2 : decide ((32 : Int) < 32) = false := by decide
              obtain ⟨h33a, h33b⟩ := H33.out
              have hc0 := no_carryC _ c V3 hnum h33a
              subst hc0
              rw [Nat.zero_mul, Nat.add_zero] at hnum
              have c1 := cellY 31 (by omega)
              have f1 := frY 31
              have hjl : ¬ ((n : Int) ≤ 31) := by omega
              by_cases h4 : 128 ≤ Y.getD 31 0
              · have t3i : (128 : Int) ≤ (Y.getD 31 0 : Int) := by omega
                have t3 : decide ((128 : Int) ≤ (Y.getD 31 0 : Int)) = true := decide_eq_true t3i
                have htk := lastC_y Y V3 V dY hnum (by omega) h33a h33b h4
                rw [← HR.out.1] at htk
                have how1 := howY
                rw [← lY] at how1
                have how2 := how1.put 31 (Y.getD 31 0 - 128)
                rw [lY] at how2
                obtain ⟨hg9, cell9⟩ := how2.at (by rw [List.length_set, lY]) (by omega)
                have hbz2 := hbY.setCell (p := ⟨gy, 31, none⟩) hgy0 (I64 (Y.getD 31 0 - 128))
                have hcr : (∀ q, q < 32 → (wr.setCell ⟨gy, 31, none⟩ (I64 (Y.getD 31 0 - 128))).cell? ⟨gy, q, none⟩ = some (I64 (R.getD q 0))) ∧ gy < (wr.setCell ⟨gy, 31, none⟩ (I64 (Y.getD 31 0 - 128))).heap.size ∧ Below v.heap.size v (wr.setCell ⟨gy, 31, none⟩ (I64 (Y.getD 31 0 - 128))) := by
                  refine ⟨fun q hq => ?_, hg9, HBL.out.trans (hbz2.mono hsz)⟩
                  rw [cell9 q (by omega), ← htk, take_get _ _ _ hq]
                have hsub : (Y.getD 31 0 : Int) - 128 = ((Y.getD 31 0 - 128 : Nat) : Int) := by omega
                have hyb : Y.getD 31 0 < 256 := dY.getD (by omega) 31
                clear hg9 cell9 how1 how2 hbz2 htk
                generalize Y.getD 31 0 - 128 = z at *
                generalize Y.getD 31 0 = y31 at *
                have HCR := Lib.hid hcr
                clear hcr howY dY lY hnum hbY cellY frY h33a h33b h4
                go_upto_region 39 with fail
                change Code.wp _ _ _ _ (wr.setCell ⟨gy, 31, none⟩ (I64 z))
                generalize wr.setCell ⟨gy, 31, none⟩ (I64 z) = W3 at HCR ⊢
                clear c1 f1
                have hZ0 : Has (W3.alloc (.cells z32i 30)) W3.heap.size 30 (is (R.take 0 ++ List.replicate (32 - 0) 0)) := Has.fresh W3 _ _
                have hB3 : Below W3.heap.size W3 (W3.alloc (.cells z32i 30)) := (Below.refl _ _).alloc (Nat.le_refl _) _
                go_upto_region 41 with fail
                change Code.wp _ _ _ _ (W3.alloc (.cells z32i 30))
                generalize W3.alloc (.cells z32i 30) = W4 at hZ0 hB3 ⊢
                go_wp2_with fail
                go_loopw [15] (fun iv Wz => ∃ j : Nat, j ≤ 32 ∧ iv = .int .i64 (j : Int) ∧ Has Wz W3.heap.size 30 (is (R.take j ++ List.replicate (32 - j) 0)) ∧ Below W3.heap.size W3 Wz) (fun iv _ => 32 - (intOf iv).toNat)
                case atStart => exact ⟨0, by omega, rfl, hZ0, hB3⟩
                case round =>
                  clear hZ0 hB3 W4
                  obtain ⟨j, hj, rfl, hZ, hB⟩ := hrel
                  by_cases hlt5 : j < 32
                  · have t5 : decide ((j : Int) < 32) = true := by simp; omega
                    have c1 := (hB.cell (p := ⟨gy, j, none⟩) HCR.out.2.1).trans (HCR.out.1 j hlt5)
                    have c2 := hZ.i64 j (by rw [pad_length _ _ _ (by rw [HR.out.2]; omega) (by omega)]; omega)
                    have f2 := hZ.frozen j
                    have h2 := hZ.setI j (R.getD j 0)
                    rw [pad_set R 32 j (by rw [HR.out.2]; omega) hlt5] at h2
                    have b2 := hB.setCell (p := ⟨W3.heap.size, j, none⟩) (Nat.le_refl _) (I64 (R.getD j 0))
                    have hjl : ¬ ((n : Int) ≤ (j : Int)) := by omega
                    have hjl2 : ¬ ((32 : Int) ≤ (j : Int)) := by omega
                    generalize (R.take j ++ List.replicate (32 - j) 0).getD j 0 = old at c2
                    generalize R.getD j 0 = r at c1 h2 b2
                    have HS := Lib.hid (And.intro h2 b2)
                    clear h2 b2 hZ hB
                    go_wp2
                    go_roundw
                    case rel => exact ⟨j + 1, by omega, by go_num, HS.out⟩
                    case measure => simp [intOf]; omega
                  · have hj32 : j = 32 := by omega
                    subst hj32
                    rw [show (((32 : Nat) : Int)) = 32 from rfl]
                    have t5 : decide ((32 : Int) < 32) = false := by decide
                    rw [List.take_of_length_le (by rw [HR.out.2]; omega), Nat.sub_self, List.replicate_zero, List.append_nil] at hZ
                    have hbv := HCR.out.2.2.trans (hB.mono HCR.out.2.2.size)
                    have hE := HBW.out.2.1.below hbv HBW.out.2.1.lt
                    have hbw := HBW.out.1.trans (hbv.mono HBW.out.1.size)
                    have hne : w.heap.size ≠ W3.heap.size := by
                      have h1 := HBW.out.2.2
                      have h2 := HCR.out.2.2.size
                      omega
                    have hr := hE.setRow (is R)
                    have hbr := below_setRow hbw (Nat.le_refl _) (is R)
                    have HF := Lib.hid (And.intro hr hbr)
                    have lR := HR.out.2
                    clear hbv hbw hr hbr hB
                    go_wp2_with (first
                      | (refine wpList_load_row rfl 30 (.tmp 14) rfl W3.heap.size rfl 30 (is R) (0, 0) _ hZ Try.underlying30 rfl (infoD R lR) ?_)
                      | (refine wpList_store_row rfl 30 (.tmp 2) (.tmp 154) rfl w.heap.size (is R) rfl rfl 30 z32i hE (infoD R lR) (z32i_size R lR) (is_one _) ?_))
                    exact bodyPost_ret (v := .agg (is R)) (results_cell_row rfl _ _ w.heap.size 30 (is R) (0, 0) _ rfl HF.out.1 Try.underlying30 rfl (infoD R lR)) rfl ⟨rfl, HF.out.2⟩
              · have t3i : ¬ ((128 : Int) ≤ (Y.getD 31 0 : Int)) := by omega
                have t3 : decide ((128 : Int) ≤ (Y.getD 31 0 : Int)) = false := decide_eq_false t3i
                have htk := lastC_x X Y V3 V HXX.out.1 dY HXX.out.2.1 hnum (by rw [HLX.out]; omega) h33a h33b h4
                rw [← HR.out.1] at htk
                have hcr : (∀ q, q < 32 → wr.cell? ⟨gx, q, none⟩ = some (I64 (R.getD q 0))) ∧ gx < wr.heap.size ∧ Below v.heap.size v wr := by
                  refine ⟨fun q hq => ?_, Nat.lt_of_lt_of_le HXX.out.2.2.2 hbY.size, HBL.out.trans (hbY.mono hsz)⟩
                  rw [hbY.cell (p := ⟨gx, q, none⟩) HXX.out.2.2.2, HXX.out.2.2.1 q (by omega), ← htk, take_get _ _ _ hq]
                generalize Y.getD 31 0 = y31 at *
                have HCR := Lib.hid hcr
                clear hcr htk howY dY lY hnum hbY cellY frY h33a h33b h4
                go_upto_region 40 with fail
                generalize wr = W3 at *
                clear c1 f1
                have hZ0 : Has (W3.alloc (.cells z32i 30)) W3.heap.size 30 (is (R.take 0 ++ List.replicate (32 - 0) 0)) := Has.fresh W3 _ _
                have hB3 : Below W3.heap.size W3 (W3.alloc (.cells z32i 30)) := (Below.refl _ _).alloc (Nat.le_refl _) _
                go_upto_region 41 with fail
                change Code.wp _ _ _ _ (W3.alloc (.cells z32i 30))
                generalize W3.alloc (.cells z32i 30) = W4 at hZ0 hB3 ⊢
                go_wp2_with fail
                go_loopw [15] (fun iv Wz => ∃ j : Nat, j ≤ 32 ∧ iv = .int .i64 (j : Int) ∧ Has Wz W3.heap.size 30 (is (R.take j ++ List.replicate (32 - j) 0)) ∧ Below W3.heap.size W3 Wz) (fun iv _ => 32 - (intOf iv).toNat)
                case atStart => exact ⟨0, by omega, rfl, hZ0, hB3⟩
                case round =>
                  clear hZ0 hB3 W4
                  obtain ⟨j, hj, rfl, hZ, hB⟩ := hrel
                  by_cases hlt5 : j < 32
                  · have t5 : decide ((j : Int) < 32) = true := by simp; omega
                    have c1 := (hB.cell (p := ⟨gx, j, none⟩) HCR.out.2.1).trans (HCR.out.1 j hlt5)
                    have c2 := hZ.i64 j (by rw [pad_length _ _ _ (by rw [HR.out.2]; omega) (by omega)]; omega)
                    have f2 := hZ.frozen j
                    have h2 := hZ.setI j (R.getD j 0)
                    rw [pad_set R 32 j (by rw [HR.out.2]; omega) hlt5] at h2
                    have b2 := hB.setCell (p := ⟨W3.heap.size, j, none⟩) (Nat.le_refl _) (I64 (R.getD j 0))
                    have hjl : ¬ ((n : Int) ≤ (j : Int)) := by omega
                    have hjl2 : ¬ ((32 : Int) ≤ (j : Int)) := by omega
                    generalize (R.take j ++ List.replicate (32 - j) 0).getD j 0 = old at c2
                    generalize R.getD j 0 = r at c1 h2 b2
                    have HS := Lib.hid (And.intro h2 b2)
                    clear h2 b2 hZ hB
                    go_wp2
                    go_roundw
                    case rel => exact ⟨j + 1, by omega, by go_num, HS.out⟩
                    case measure => simp [intOf]; omega
                  · have hj32 : j = 32 := by omega
                    subst hj32
                    rw [show (((32 : Nat) : Int)) = 32 from rfl]
                    have t5 : decide ((32 : Int) < 32) = false := by decide
                    rw [List.take_of_length_le (by rw [HR.out.2]; omega), Nat.sub_self, List.replicate_zero, List.append_nil] at hZ
                    have hbv := HCR.out.2.2.trans (hB.mono HCR.out.2.2.size)
                    have hE := HBW.out.2.1.below hbv HBW.out.2.1.lt
                    have hbw := HBW.out.1.trans (hbv.mono HBW.out.1.size)
                    have hne : w.heap.size ≠ W3.heap.size := by
                      have h1 := HBW.out.2.2
                      have h2 := HCR.out.2.2.size
                      omega
                    have hr := hE.setRow (is R)
                    have hbr := below_setRow hbw (Nat.le_refl _) (is R)
                    have HF := Lib.hid (And.intro hr hbr)
                    have lR := HR.out.2
                    clear hbv hbw hr hbr hB
                    go_wp2_with (first
                      | (refine wpList_load_row rfl 30 (.tmp 14) rfl W3.heap.size rfl 30 (is R) (0, 0) _ hZ Try.underlying30 rfl (infoD R lR) ?_)
                      | (refine wpList_store_row rfl 30 (.tmp 2) (.tmp 154) rfl w.heap.size (is R) rfl rfl 30 z32i hE (infoD R lR) (z32i_size R lR) (is_one _) ?_))
                    exact bodyPost_ret (v := .agg (is R)) (results_cell_row rfl _ _ w.heap.size 30 (is R) (0, 0) _ rfl HF.out.1 Try.underlying30 rfl (infoD R lR)) rfl ⟨rfl, HF.out.2⟩
end Go.Proofs.Ytdikkdediofieaa
