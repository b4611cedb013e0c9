/- The document's ReadMac: walked. -/
import Derived.Test.YtbeeebnocliaiaaDoorNF
import Derived.Test.YtbeeebnocliaiaaDoorOZ
namespace Go.Proofs.YtbeeebnocliaiaaDoor
open Go.RowKit
theorem hexV_digit : ∀ v, v < 16 → hexV (hexD v) = (v : Int) := by decide
theorem hexV_cases (c : UInt8) : hexV c < 0 ∨ ∃ v : Nat, v < 16 ∧ hexV c = (v : Int) ∧ c = hexD v := by
  have hc := c.toNat_lt
  unfold hexV
  by_cases h1 : 48 ≤ c.toNat ∧ c.toNat ≤ 57
  · rw [if_pos h1]
    refine Or.inr ⟨c.toNat - 48, by omega, by omega, ?_⟩
    unfold hexD
    rw [if_pos (by omega)]
    apply UInt8.toNat_inj.1
    rw [UInt8.toNat_ofNat']
    omega
  · rw [if_neg h1]
    by_cases h2 : 97 ≤ c.toNat ∧ c.toNat ≤ 102
    · rw [if_pos h2]
      refine Or.inr ⟨c.toNat - 87, by omega, by omega, ?_⟩
      unfold hexD
      rw [if_neg (by omega)]
      apply UInt8.toNat_inj.1
      rw [UInt8.toNat_ofNat']
      omega
    · rw [if_neg h2]
      exact Or.inl (by omega)
/-- what stands at the i-th place of an address as a text -/
def OkAt (t : List UInt8) (i : Nat) (b : UInt8) : Prop := t.getD (3 * i) 0 = hexD (b.toNat / 16) ∧ t.getD (3 * i + 1) 0 = hexD (b.toNat % 16) ∧ (i < 5 → t.getD (3 * i + 2) 0 = 58)
theorem mac_at (l : List UInt8) (h : l.length = 6) (i : Nat) (hi : i < 6) : OkAt (macL l) i (l.getD i 0) := by
  obtain ⟨a, b, c, d, e, f, rfl⟩ := six l h
  have : i = 0 ∨ i = 1 ∨ i = 2 ∨ i = 3 ∨ i = 4 ∨ i = 5 := by omega
  rcases this with rfl | rfl | rfl | rfl | rfl | rfl
  · exact ⟨rfl, rfl, fun _ => rfl⟩
  · exact ⟨rfl, rfl, fun _ => rfl⟩
  · exact ⟨rfl, rfl, fun _ => rfl⟩
  · exact ⟨rfl, rfl, fun _ => rfl⟩
  · exact ⟨rfl, rfl, fun _ => rfl⟩
  · exact ⟨rfl, rfl, fun h => absurd h (by omega)⟩
theorem mac_of (t l : List UInt8) (ht : t.length = 17) (hl : l.length = 6) (h : ∀ i, i < 6 → OkAt t i (l.getD i 0)) : t = macL l := by
  have hm := macL_length l hl
  apply List.ext_getElem (by omega)
  intro j h1 h2
  have e1 : t.getD j 0 = t[j] := by rw [List.getD_eq_getElem?_getD, List.getElem?_eq_getElem h1]; rfl
  have e2 : (macL l).getD j 0 = (macL l)[j] := by rw [List.getD_eq_getElem?_getD, List.getElem?_eq_getElem h2]; rfl
  rw [← e1, ← e2]
  obtain ⟨a1, a2, a3⟩ := h (j / 3) (by omega)
  obtain ⟨b1, b2, b3⟩ := mac_at l hl (j / 3) (by omega)
  have hj : j = 3 * (j / 3) ∨ j = 3 * (j / 3) + 1 ∨ j = 3 * (j / 3) + 2 := by omega
  rcases hj with hj | hj | hj
  · rw [hj, a1, b1]
  · rw [hj, a2, b2]
  · rw [hj, a3 (by omega), b3 (by omega)]
theorem hexB_any (c : UInt8) (w : World) :
    Calls Tryd.prog 29 #[B8 c] w fun e w' => e = .returned (.int .i64 (hexV c)) ∧ Below w.heap.size w w' :=
  (hex_any c w).mono fun e w' h => ⟨h.1, by rw [h.2]; exact Below.refl _ _⟩
theorem refMacInfo (l : List UInt8) (h : l.length = 6) : (Tryd.prog.info? 23).map (·.size) = some (bs l).size := by
  rw [bs_size, h]; kernel_rfl
theorem drewB {w W : World} (h : Below w.drew.heap.size w.drew W) : Below w.heap.size w W := ((Below.refl _ _).drew : Below w.heap.size w w.drew).trans h
/-- what memory holds while the document reads an address -/
structure KEnv7 (w : World) (l : List UInt8) (W : World) : Prop where
  h0 : Has W w.heap.size 23 z6
  h1 : Has W (w.heap.size + 1) 23 (bs (l ++ (List.replicate 6 0).drop l.length))
  below : Below w.heap.size w W
set_option maxRecDepth 20000 in
set_option maxHeartbeats 4000000 in
theorem refReadMac_any (s : ByteArray) (w : World) :
    Calls Tryd.prog 17 #[.string s] w fun e w' => Below w.heap.size w w' ∧
      ((∃ l : List UInt8, l.length = 6 ∧ s.data.toList = macL l ∧ e = .returned (.tuple #[.agg (bs l), .bool true])) ∨
        ((∀ l : List UInt8, l.length = 6 → s.data.toList ≠ macL l) ∧ e = .returned (.tuple #[.agg z6, .bool false]))) := by
  have a0 := Has.fresh w 23 z6
  have a1 := Has.fresh (w.alloc (.cells z6 23)) 23 z6
  rw [World.size_alloc] at a1
  have hb0 : Below w.heap.size w ((w.alloc (.cells z6 23)).alloc (.cells z6 23)) := ((Below.refl _ _).alloc (Nat.le_refl _) _).alloc (by simp) _
  have E : KEnv7 w [] ((w.alloc (.cells z6 23)).alloc (.cells z6 23)) := ⟨a0.alloc _, a1, hb0⟩
  have hi := Lib.hid refMacInfo
  clear a0 a1 hb0
  by_cases hsz : s.size = 17
  · have t0 : ((s.size : Int) != 17) = false := by rw [hsz]; rfl
    have HSZ := Lib.hid hsz
    clear hsz
    go_enter Tryd.func17, Tryd.ntmps17
    go_upto_region 2 with fail
    change Code.wp _ _ _ _ ((w.alloc (.cells z6 23)).alloc (.cells z6 23))
    generalize (w.alloc (.cells z6 23)).alloc (.cells z6 23) = w0 at E ⊢
    go_wp2
    go_loopw [5] (fun iv wr => ∃ (k : Nat) (l : List UInt8), k ≤ 6 ∧ iv = .int .i64 (k : Int) ∧ Hid (l.length = k ∧ ∀ i, i < k → OkAt s.data.toList i (l.getD i 0)) ∧ KEnv7 w l wr) (fun iv _ => 6 - (intOf iv).toNat)
    case atStart => exact ⟨0, [], by omega, rfl, Lib.hid ⟨rfl, fun i h => by omega⟩, E⟩
    case round =>
      clear E w0
      obtain ⟨k, l, hk, rfl, hl, E⟩ := hrel
      by_cases hlt : k < 6
      · have t1 : decide ((k : Int) < 6) = true := by simp; omega
        have hs17 := HSZ.out
        have hx0 : bAt s (3 * k) = s.data.toList.getD (3 * k) 0 := rfl
        have hy0 : bAt s (3 * k + 1) = s.data.toList.getD (3 * k + 1) 0 := rfl
        have hz0 : bAt s (3 * k + 2) = s.data.toList.getD (3 * k + 2) 0 := rfl
        have hok : ∀ b, OkAt s.data.toList k b ↔ (bAt s (3 * k) = hexD (b.toNat / 16) ∧ bAt s (3 * k + 1) = hexD (b.toNat % 16) ∧ (k < 5 → bAt s (3 * k + 2) = 58)) := fun b => Iff.rfl
        obtain ⟨A0, hA0⟩ : ∃ A0, 3 * k = A0 := ⟨_, rfl⟩
        obtain ⟨A1, hA1⟩ : ∃ A1, A0 + 1 = A1 := ⟨_, rfl⟩
        obtain ⟨A2, hA2⟩ : ∃ A2, A0 + 2 = A2 := ⟨_, rfl⟩
        rw [hA0, hA1, hA2] at hok
        have lx : A0 < s.size := by omega
        have ly : A1 < s.size := by omega
        have ex := bAt_eq s A0 lx
        have ey := bAt_eq s A1 ly
        have ix : (A0 : Int) < (s.size : Int) := by omega
        have iy : (A1 : Int) < (s.size : Int) := by omega
        have w0' : IntKind.i64.wrap (3 * (k : Int)) = (A0 : Int) := by rw [IntWalk.i64_in _ (by omega)]; omega
        have w1' : IntKind.i64.wrap ((A0 : Int) + 1) = (A1 : Int) := by rw [IntWalk.i64_in _ (by omega)]; omega
        have w2' : IntKind.i64.wrap ((A0 : Int) + 2) = (A2 : Int) := by rw [IntWalk.i64_in _ (by omega)]; omega
        have hez : k < 5 → ∃ h : A2 < s.size, s[A2] = bAt s A2 := fun h => ⟨by omega, bAt_eq s A2 (by omega)⟩
        generalize bAt s A0 = x at ex hok
        generalize bAt s A1 = y at ey hok
        generalize bAt s A2 = z at hok hez
        have HOK := Lib.hid hok
        have HEZ := Lib.hid hez
        have HA := Lib.hid (And.intro hA0 (And.intro hA1 hA2))
        clear hok hez hA0 hA1 hA2 hs17 hx0 hy0 hz0
        go_upto_region 7 with fail
        refine wp_region_noPanic ?_
        refine wp_region_flow (fin := ?fin1) 13 0 (by kernel_rfl) [.inl (.string s),
          .inl (.int .i64 (k : Int)),
          .inl (.int .i64 (A0 : Int)),
          .inl (B8 x),
          .inl (.int .i64 (hexV x)),
          .inl (.string s),
          .inl (.int .i64 (k : Int)),
          .inl (.int .i64 (A0 : Int)),
          .inl (.int .i64 (A1 : Int)),
          .inl (B8 y),
          .inl (.int .i64 (hexV y)),
          .inl (.int .i64 (hexV x)),
          .inl (.int .i64 (hexV y))] rfl rfl (by kernel_rfl) ?hfin1 ?hE1 ?hend1
        case hfin1 =>
          intro G
          simp only [flowAll, flowVal, Act.put, List.setIfInBounds_toArray, List.set_cons_zero, List.set_cons_succ]
          exact rfl
        case hE1 =>
          intro G
          refine ⟨Or.inr (fun W hB => known_val rfl (by go_simp)),
            Or.inr (fun W hB => known_val rfl (by go_simp)),
            Or.inr (fun W hB => known_val rfl (by go_simp)),
            Or.inr (fun W hB => known_val rfl (by go_simp)),
            Or.inr (fun W hB => known_call 29 #[B8 x] (hexB_any x W) rfl (by go_simp)),
            Or.inr (fun W hB => known_val rfl (by go_simp)),
            Or.inr (fun W hB => known_val rfl (by go_simp)),
            Or.inr (fun W hB => known_val rfl (by go_simp)),
            Or.inr (fun W hB => known_val rfl (by go_simp)),
            Or.inr (fun W hB => known_val rfl (by go_simp)),
            Or.inr (fun W hB => known_call 29 #[B8 y] (hexB_any y W) rfl (by go_simp)),
            Or.inr (fun W hB => known_val rfl (by go_simp)),
            Or.inr (fun W hB => known_val rfl (by go_simp)), trivial⟩
        intro G W hB hM
        replace E : KEnv7 w l W := ⟨E.h0.below (drewB hB) E.h0.lt, E.h1.below (drewB hB) E.h1.lt, E.below.trans ((drewB hB).mono E.below.size)⟩
        clear hM hB G
        refine wpAny_end (by kernel_rfl) ?_ _
        refine NoPanic.normal ?_
        clear ex ey
        rcases hexV_cases x with hX | ⟨v, hv, hvx, hxv⟩
        · have hbad : ∀ b, ¬ OkAt s.data.toList k b := fun b hb => by
            have h1 := ((HOK.out b).1 hb).1
            have hb2 := b.toNat_lt
            have h2 := hexV_digit (b.toNat / 16) (by omega)
            rw [← h1] at h2
            omega
          have HBAD := Lib.hid hbad
          clear hbad HOK
          generalize hexV x = X at hX ⊢
          have hno : ∀ l' : List UInt8, l'.length = 6 → s.data.toList ≠ macL l' := fun l' hl' he => HBAD.out (l'.getD k 0) (by rw [he]; exact mac_at l' hl' k hlt)
          have HNO := Lib.hid hno
          have c0 := E.h0.byte 0 (by show 0 < 6; omega)
          have c1 := E.h0.byte 1 (by show 1 < 6; omega)
          have c2 := E.h0.byte 2 (by show 2 < 6; omega)
          have c3 := E.h0.byte 3 (by show 3 < 6; omega)
          have c4 := E.h0.byte 4 (by show 4 < 6; omega)
          have c5 := E.h0.byte 5 (by show 5 < 6; omega)
          have f0 := E.h0.frozen 0
          have f1 := E.h0.frozen 1
          have f2 := E.h0.frozen 2
          have f3 := E.h0.frozen 3
          have f4 := E.h0.frozen 4
          have f5 := E.h0.frozen 5
          have HEV := Lib.hid E
          clear hno E
          go_wp2
          refine bodyPost_ret (v := .tuple #[.agg z6, .bool false]) (results_row_tmp (fn := Tryd.f17) (p := 2) (u := 3) (ty := 23) rfl _ _ w.heap.size 23 z6 (0, 0) _ rfl (((((((HEV.out.h0).setB 0 0).setB 1 0).setB 2 0).setB 3 0).setB 4 0).setB 5 0) Tryd.underlying23 rfl (hi.out [0, 0, 0, 0, 0, 0] rfl)) rfl ⟨?_, Or.inr ⟨HNO.out, rfl⟩⟩
          exact ((((((HEV.out.below).setCell (p := ⟨w.heap.size, 0, none⟩) (Nat.le_refl _) (B8 0)).setCell (p := ⟨w.heap.size, 1, none⟩) (Nat.le_refl _) (B8 0)).setCell (p := ⟨w.heap.size, 2, none⟩) (Nat.le_refl _) (B8 0)).setCell (p := ⟨w.heap.size, 3, none⟩) (Nat.le_refl _) (B8 0)).setCell (p := ⟨w.heap.size, 4, none⟩) (Nat.le_refl _) (B8 0)).setCell (p := ⟨w.heap.size, 5, none⟩) (Nat.le_refl _) (B8 0)
        · rcases hexV_cases y with hY | ⟨u, hu, huy, hyu⟩
          · have hbad : ∀ b, ¬ OkAt s.data.toList k b := fun b hb => by
              have h1 := ((HOK.out b).1 hb).2.1
              have hb2 := b.toNat_lt
              have h2 := hexV_digit (b.toNat % 16) (by omega)
              rw [← h1] at h2
              omega
            have HBAD := Lib.hid hbad
            clear hbad HOK
            rw [hvx]
            generalize hexV y = Y at hY ⊢
            have hno : ∀ l' : List UInt8, l'.length = 6 → s.data.toList ≠ macL l' := fun l' hl' he => HBAD.out (l'.getD k 0) (by rw [he]; exact mac_at l' hl' k hlt)
            have HNO := Lib.hid hno
            have c0 := E.h0.byte 0 (by show 0 < 6; omega)
            have c1 := E.h0.byte 1 (by show 1 < 6; omega)
            have c2 := E.h0.byte 2 (by show 2 < 6; omega)
            have c3 := E.h0.byte 3 (by show 3 < 6; omega)
            have c4 := E.h0.byte 4 (by show 4 < 6; omega)
            have c5 := E.h0.byte 5 (by show 5 < 6; omega)
            have f0 := E.h0.frozen 0
            have f1 := E.h0.frozen 1
            have f2 := E.h0.frozen 2
            have f3 := E.h0.frozen 3
            have f4 := E.h0.frozen 4
            have f5 := E.h0.frozen 5
            have HEV := Lib.hid E
            clear hno E
            go_wp2
            refine bodyPost_ret (v := .tuple #[.agg z6, .bool false]) (results_row_tmp (fn := Tryd.f17) (p := 2) (u := 3) (ty := 23) rfl _ _ w.heap.size 23 z6 (0, 0) _ rfl (((((((HEV.out.h0).setB 0 0).setB 1 0).setB 2 0).setB 3 0).setB 4 0).setB 5 0) Tryd.underlying23 rfl (hi.out [0, 0, 0, 0, 0, 0] rfl)) rfl ⟨?_, Or.inr ⟨HNO.out, rfl⟩⟩
            exact ((((((HEV.out.below).setCell (p := ⟨w.heap.size, 0, none⟩) (Nat.le_refl _) (B8 0)).setCell (p := ⟨w.heap.size, 1, none⟩) (Nat.le_refl _) (B8 0)).setCell (p := ⟨w.heap.size, 2, none⟩) (Nat.le_refl _) (B8 0)).setCell (p := ⟨w.heap.size, 3, none⟩) (Nat.le_refl _) (B8 0)).setCell (p := ⟨w.heap.size, 4, none⟩) (Nat.le_refl _) (B8 0)).setCell (p := ⟨w.heap.size, 5, none⟩) (Nat.le_refl _) (B8 0)
          · rw [hvx, huy]
            have n1 : ¬ ((v : Int) < 0) := by omega
            have n2 : ¬ ((u : Int) < 0) := by omega
            by_cases h5 : k < 5
            · have t5 : decide ((k : Int) < 5) = true := by simp; omega
              obtain ⟨lz, ez⟩ := HEZ.out h5
              have iz : (A2 : Int) < (s.size : Int) := by omega
              by_cases h58 : z = 58
              · have tz : ((z.toNat : Int) != 58) = false := by rw [h58]; rfl
                have hll := hl.out.1
                have hb8 : 16 * (v : Int) + (u : Int) = ((UInt8.ofNat (16 * v + u)).toNat : Int) := by rw [UInt8.toNat_ofNat']; omega
                have hbb : (UInt8.ofNat (16 * v + u)).toNat = 16 * v + u := by rw [UInt8.toNat_ofNat']; omega
                have hokb : OkAt s.data.toList k (UInt8.ofNat (16 * v + u)) := (HOK.out _).2 ⟨by rw [hbb, hxv]; congr 1; omega, by rw [hbb, hyu]; congr 1; omega, fun h => h58⟩
                generalize UInt8.ofNat (16 * v + u) = b at hb8 hokb
                have hnew : (l ++ [b]).length = k + 1 ∧ ∀ i, i < k + 1 → OkAt s.data.toList i ((l ++ [b]).getD i 0) := by
                  refine ⟨by rw [List.length_append, hll]; rfl, fun i hi => ?_⟩
                  rcases Nat.lt_or_ge i k with h | h
                  · rw [List.getD_eq_getElem?_getD, List.getElem?_append_left (by omega), ← List.getD_eq_getElem?_getD]
                    exact hl.out.2 i h
                  · have hik : i = k := by omega
                    subst hik
                    rw [List.getD_eq_getElem?_getD, List.getElem?_append_right (by omega), hll, Nat.sub_self]
                    exact hokb
                have HNEW := Lib.hid hnew
                have hcell := E.h1.byte k (by rw [List.length_append, List.length_drop, List.length_replicate]; omega)
                have hfro := E.h1.frozen k
                have hput := E.h1.setB k b
                have hsn := set_next l (List.replicate 6 0) 6 rfl (by omega) b
                rw [hll] at hsn hput
                rw [hsn] at hput
                have hE' : KEnv7 w (l ++ [b]) (W.setCell ⟨w.heap.size + 1, k, none⟩ (B8 b)) := ⟨E.h0.other (by show w.heap.size ≠ w.heap.size + 1; omega) _, hput, E.below.setCell (by show w.heap.size ≤ w.heap.size + 1; omega) _⟩
                have HE' := Lib.hid hE'
                generalize (l ++ List.drop l.length (List.replicate 6 0)).getD k 0 = old at hcell
                clear hnew hE' hput hsn hokb HOK E hxv hyu hvx huy
                go_wp2
                exact ⟨⟨k + 1, l ++ [b], by omega, by go_num, HNEW.out, HE'.out⟩, by simp [intOf]; omega⟩
              · have tz : ((z.toNat : Int) != 58) = true := by
                  rw [bne_iff_ne]
                  intro h
                  exact h58 (UInt8.toNat_inj.1 (by show z.toNat = 58; omega))
                have hbad : ∀ b, ¬ OkAt s.data.toList k b := fun b hb => h58 (((HOK.out b).1 hb).2.2 h5)
                have HBAD := Lib.hid hbad
                clear hbad HOK
                have hno : ∀ l' : List UInt8, l'.length = 6 → s.data.toList ≠ macL l' := fun l' hl' he => HBAD.out (l'.getD k 0) (by rw [he]; exact mac_at l' hl' k hlt)
                have HNO := Lib.hid hno
                have c0 := E.h0.byte 0 (by show 0 < 6; omega)
                have c1 := E.h0.byte 1 (by show 1 < 6; omega)
                have c2 := E.h0.byte 2 (by show 2 < 6; omega)
                have c3 := E.h0.byte 3 (by show 3 < 6; omega)
                have c4 := E.h0.byte 4 (by show 4 < 6; omega)
                have c5 := E.h0.byte 5 (by show 5 < 6; omega)
                have f0 := E.h0.frozen 0
                have f1 := E.h0.frozen 1
                have f2 := E.h0.frozen 2
                have f3 := E.h0.frozen 3
                have f4 := E.h0.frozen 4
                have f5 := E.h0.frozen 5
                have HEV := Lib.hid E
                clear hno E
                go_wp2
                refine bodyPost_ret (v := .tuple #[.agg z6, .bool false]) (results_row_tmp (fn := Tryd.f17) (p := 2) (u := 3) (ty := 23) rfl _ _ w.heap.size 23 z6 (0, 0) _ rfl (((((((HEV.out.h0).setB 0 0).setB 1 0).setB 2 0).setB 3 0).setB 4 0).setB 5 0) Tryd.underlying23 rfl (hi.out [0, 0, 0, 0, 0, 0] rfl)) rfl ⟨?_, Or.inr ⟨HNO.out, rfl⟩⟩
                exact ((((((HEV.out.below).setCell (p := ⟨w.heap.size, 0, none⟩) (Nat.le_refl _) (B8 0)).setCell (p := ⟨w.heap.size, 1, none⟩) (Nat.le_refl _) (B8 0)).setCell (p := ⟨w.heap.size, 2, none⟩) (Nat.le_refl _) (B8 0)).setCell (p := ⟨w.heap.size, 3, none⟩) (Nat.le_refl _) (B8 0)).setCell (p := ⟨w.heap.size, 4, none⟩) (Nat.le_refl _) (B8 0)).setCell (p := ⟨w.heap.size, 5, none⟩) (Nat.le_refl _) (B8 0)
            · have t5 : decide ((k : Int) < 5) = false := by simp; omega
              have hll := hl.out.1
              have hb8 : 16 * (v : Int) + (u : Int) = ((UInt8.ofNat (16 * v + u)).toNat : Int) := by rw [UInt8.toNat_ofNat']; omega
              have hbb : (UInt8.ofNat (16 * v + u)).toNat = 16 * v + u := by rw [UInt8.toNat_ofNat']; omega
              have hokb : OkAt s.data.toList k (UInt8.ofNat (16 * v + u)) := (HOK.out _).2 ⟨by rw [hbb, hxv]; congr 1; omega, by rw [hbb, hyu]; congr 1; omega, fun h => absurd h h5⟩
              generalize UInt8.ofNat (16 * v + u) = b at hb8 hokb
              have hnew : (l ++ [b]).length = k + 1 ∧ ∀ i, i < k + 1 → OkAt s.data.toList i ((l ++ [b]).getD i 0) := by
                refine ⟨by rw [List.length_append, hll]; rfl, fun i hi => ?_⟩
                rcases Nat.lt_or_ge i k with h | h
                · rw [List.getD_eq_getElem?_getD, List.getElem?_append_left (by omega), ← List.getD_eq_getElem?_getD]
                  exact hl.out.2 i h
                · have hik : i = k := by omega
                  subst hik
                  rw [List.getD_eq_getElem?_getD, List.getElem?_append_right (by omega), hll, Nat.sub_self]
                  exact hokb
              have HNEW := Lib.hid hnew
              have hcell := E.h1.byte k (by rw [List.length_append, List.length_drop, List.length_replicate]; omega)
              have hfro := E.h1.frozen k
              have hput := E.h1.setB k b
              have hsn := set_next l (List.replicate 6 0) 6 rfl (by omega) b
              rw [hll] at hsn hput
              rw [hsn] at hput
              have hE' : KEnv7 w (l ++ [b]) (W.setCell ⟨w.heap.size + 1, k, none⟩ (B8 b)) := ⟨E.h0.other (by show w.heap.size ≠ w.heap.size + 1; omega) _, hput, E.below.setCell (by show w.heap.size ≤ w.heap.size + 1; omega) _⟩
              have HE' := Lib.hid hE'
              generalize (l ++ List.drop l.length (List.replicate 6 0)).getD k 0 = old at hcell
              clear hnew hE' hput hsn hokb HOK E hxv hyu hvx huy
              go_wp2
              exact ⟨⟨k + 1, l ++ [b], by omega, by go_num, HNEW.out, HE'.out⟩, by simp [intOf]; omega⟩
      · have hk6 : k = 6 := by omega
        subst hk6
        have hlx := hl.out.1
        have hmac := mac_of s.data.toList l HSZ.out hlx hl.out.2
        have h1 := E.h1
        rw [List.drop_eq_nil_of_le (by rw [List.length_replicate]; omega), List.append_nil] at h1
        obtain ⟨x0, x1, x2, x3, x4, x5, rfl⟩ := six l hlx
        have HM := Lib.hid hmac
        have HEV := Lib.hid E
        have c0 := E.h0.byte 0 (by show 0 < 6; omega)
        have c1 := E.h0.byte 1 (by show 1 < 6; omega)
        have c2 := E.h0.byte 2 (by show 2 < 6; omega)
        have c3 := E.h0.byte 3 (by show 3 < 6; omega)
        have c4 := E.h0.byte 4 (by show 4 < 6; omega)
        have c5 := E.h0.byte 5 (by show 5 < 6; omega)
        have d0 := h1.byte 0 (by show 0 < 6; omega)
        have d1 := h1.byte 1 (by show 1 < 6; omega)
        have d2 := h1.byte 2 (by show 2 < 6; omega)
        have d3 := h1.byte 3 (by show 3 < 6; omega)
        have d4 := h1.byte 4 (by show 4 < 6; omega)
        have d5 := h1.byte 5 (by show 5 < 6; omega)
        have f0 := E.h0.frozen 0
        have f1 := E.h0.frozen 1
        have f2 := E.h0.frozen 2
        have f3 := E.h0.frozen 3
        have f4 := E.h0.frozen 4
        have f5 := E.h0.frozen 5
        clear hmac h1 hl hlx E
        go_wp2
        refine bodyPost_ret (v := .tuple #[.agg (bs [x0, x1, x2, x3, x4, x5]), .bool true]) (results_row_tmp (fn := Tryd.f17) (p := 2) (u := 3) (ty := 23) rfl _ _ w.heap.size 23 (bs [x0, x1, x2, x3, x4, x5]) (0, 0) _ rfl (((((((HEV.out.h0).setB 0 x0).setB 1 x1).setB 2 x2).setB 3 x3).setB 4 x4).setB 5 x5) Tryd.underlying23 rfl (hi.out [x0, x1, x2, x3, x4, x5] rfl)) rfl ⟨?_, Or.inl ⟨_, rfl, HM.out, rfl⟩⟩
        exact ((((((HEV.out.below).setCell (p := ⟨w.heap.size, 0, none⟩) (Nat.le_refl _) (B8 x0)).setCell (p := ⟨w.heap.size, 1, none⟩) (Nat.le_refl _) (B8 x1)).setCell (p := ⟨w.heap.size, 2, none⟩) (Nat.le_refl _) (B8 x2)).setCell (p := ⟨w.heap.size, 3, none⟩) (Nat.le_refl _) (B8 x3)).setCell (p := ⟨w.heap.size, 4, none⟩) (Nat.le_refl _) (B8 x4)).setCell (p := ⟨w.heap.size, 5, none⟩) (Nat.le_refl _) (B8 x5)
  · have t0 : ((s.size : Int) != 17) = true := by rw [bne_iff_ne]; omega
    have hno : ∀ l' : List UInt8, l'.length = 6 → s.data.toList ≠ macL l' := fun l' hl' he => hsz (by
      have := congrArg List.length he
      rw [macL_length l' hl'] at this
      exact this)
    have HNO := Lib.hid hno
    go_enter Tryd.func17, Tryd.ntmps17
    go_upto_region 2 with fail
    change Code.wp _ _ _ _ ((w.alloc (.cells z6 23)).alloc (.cells z6 23))
    generalize (w.alloc (.cells z6 23)).alloc (.cells z6 23) = w0 at E ⊢
    have h1 : Has w0 (w.heap.size + 1) 23 (bs [0, 0, 0, 0, 0, 0]) := E.h1
    have c0 := E.h0.byte 0 (by show 0 < 6; omega)
    have c1 := E.h0.byte 1 (by show 1 < 6; omega)
    have c2 := E.h0.byte 2 (by show 2 < 6; omega)
    have c3 := E.h0.byte 3 (by show 3 < 6; omega)
    have c4 := E.h0.byte 4 (by show 4 < 6; omega)
    have c5 := E.h0.byte 5 (by show 5 < 6; omega)
    have d0 := h1.byte 0 (by show 0 < 6; omega)
    have d1 := h1.byte 1 (by show 1 < 6; omega)
    have d2 := h1.byte 2 (by show 2 < 6; omega)
    have d3 := h1.byte 3 (by show 3 < 6; omega)
    have d4 := h1.byte 4 (by show 4 < 6; omega)
    have d5 := h1.byte 5 (by show 5 < 6; omega)
    have f0 := E.h0.frozen 0
    have f1 := E.h0.frozen 1
    have f2 := E.h0.frozen 2
    have f3 := E.h0.frozen 3
    have f4 := E.h0.frozen 4
    have f5 := E.h0.frozen 5
    have HEV := Lib.hid E
    clear hno h1 E hsz
    go_wp2
    refine bodyPost_ret (v := .tuple #[.agg z6, .bool false]) (results_row_tmp (fn := Tryd.f17) (p := 2) (u := 3) (ty := 23) rfl _ _ w.heap.size 23 z6 (0, 0) _ rfl (((((((HEV.out.h0).setB 0 0).setB 1 0).setB 2 0).setB 3 0).setB 4 0).setB 5 0) Tryd.underlying23 rfl (hi.out [0, 0, 0, 0, 0, 0] rfl)) rfl ⟨?_, Or.inr ⟨HNO.out, rfl⟩⟩
    exact ((((((HEV.out.below).setCell (p := ⟨w.heap.size, 0, none⟩) (Nat.le_refl _) (B8 0)).setCell (p := ⟨w.heap.size, 1, none⟩) (Nat.le_refl _) (B8 0)).setCell (p := ⟨w.heap.size, 2, none⟩) (Nat.le_refl _) (B8 0)).setCell (p := ⟨w.heap.size, 3, none⟩) (Nat.le_refl _) (B8 0)).setCell (p := ⟨w.heap.size, 4, none⟩) (Nat.le_refl _) (B8 0)).setCell (p := ⟨w.heap.size, 5, none⟩) (Nat.le_refl _) (B8 0)
end Go.Proofs.YtbeeebnocliaiaaDoor
