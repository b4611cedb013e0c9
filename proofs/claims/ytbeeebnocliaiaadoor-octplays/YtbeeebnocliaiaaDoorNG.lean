/- The document's Sum16: walked. -/
import Derived.Test.YtbeeebnocliaiaaDoorNC
import Derived.Test.YtbeeebnocliaiaaDoorHG
import Derived.Test.YtbeeebnocliaiaaDoorHM
namespace Go.Proofs.YtbeeebnocliaiaaDoor
open Go.RowKit
theorem t16_two (l : List UInt8) (k : Nat) (h : k % 2 = 0) : t16 l (k + 2) = t16 l k + 256 * (l.getD k 0).toNat + (l.getD (k + 1) 0).toNat := by
  rw [t16_odd l (k + 1) (by omega), t16_even l k h]
  omega
theorem sumL_pad (l : List UInt8) : sumL (l ++ [0]) = sumL l := by
  show t16 (l ++ [0]) (l ++ [0]).length = t16 l l.length
  rw [List.length_append]
  show t16 (l ++ [0]) l.length + ((l ++ [0]).getD l.length 0).toNat * (if l.length % 2 = 0 then 256 else 1) = _
  rw [t16_front l [0] l.length (Nat.le_refl _), List.getD_eq_getElem?_getD, List.getElem?_append_right (Nat.le_refl _), Nat.sub_self]
  show t16 l l.length + (0 : UInt8).toNat * _ = _
  rw [show (0 : UInt8).toNat = 0 from rfl, Nat.zero_mul, Nat.add_zero]
set_option maxRecDepth 20000 in
set_option maxHeartbeats 2000000 in
/-- the loops, for a text of an even length -/
theorem refSumEven_any (s0 s : ByteArray) (hs : s.size ≤ 1000000) (he : s.size % 2 = 0) (h0 : (s0.size % 2 = 0 ∧ s = s0) ∨ (s0.size % 2 = 1 ∧ s = s0 ++ ⟨#[0]⟩)) (w : World) :
    Calls Tryd.prog 22 #[.string s0] w fun e w' => e = .returned (.int .i64 ((65535 - c16 (sumL s.data.toList) : Nat) : Int)) ∧ Below w.heap.size w w' := by
  have hall : ∀ k, k = s.size → t16 s.data.toList k = sumL s.data.toList := fun k hk => by rw [hk]; rfl
  have hle := t16_le s.data.toList
  have htw := t16_two s.data.toList
  have ht0 : t16 s.data.toList 0 = 0 := rfl
  have hb0 : ∀ k, s.data.toList.getD k 0 = bAt s k := fun k => rfl
  generalize sumL s.data.toList = S at hall ⊢
  generalize t16 s.data.toList = T at hall hle htw ht0
  have HA := Lib.hid hall
  have HL := Lib.hid hle
  have HT := Lib.hid htw
  have HT0 := Lib.hid ht0
  have HE := Lib.hid he
  clear hall hle htw ht0 he
  have key : ∀ (W : World) (K : Prop), K → K := fun _ _ h => h
  have hm := tmod2 s0.size
  rcases h0 with ⟨hp, rfl⟩ | ⟨hp, hsc⟩
  · rw [hp] at hm
    clear hp key
    go_enter Tryd.func22, Tryd.ntmps22
    go_wp2
    go_loopw [3, 4] (fun c i wr => ∃ k : Nat, k ≤ s.size ∧ Hid (k % 2 = 0) ∧ c = .int .i64 (T k : Int) ∧ i = .int .i64 (k : Int) ∧ Below w.heap.size w wr) (fun _ i _ => s.size - (intOf i).toNat)
    case atStart => exact ⟨0, by omega, Lib.hid rfl, by rw [HT0.out]; rfl, rfl, Below.refl _ _⟩
    case round =>
      obtain ⟨k, hk, hpar, rfl, rfl, hb⟩ := hrel
      by_cases hlt : k < s.size
      · have t1 : decide ((k : Int) < (s.size : Int)) = true := by simp; omega
        have hlt2 : k + 1 < s.size := by have := hpar.out; have := HE.out; omega
        have h1 : (k : Int) < (s.size : Int) := by omega
        have h2 : (k : Int) + 1 < (s.size : Int) := by omega
        have hTk := HL.out k
        have htw := HT.out k hpar.out
        rw [hb0, hb0] at htw
        have e1 := bAt_eq s k hlt
        have e2 := bAt_eq s (k + 1) hlt2
        have hx := UInt8.toNat_lt (bAt s k)
        have hy := UInt8.toNat_lt (bAt s (k + 1))
        have hT2 := HL.out (k + 2)
        generalize bAt s k = x at e1 htw hx
        generalize bAt s (k + 1) = y at e2 htw hy
        have hp2 : (k + 2) % 2 = 0 := by have := hpar.out; omega
        have HP2 := Lib.hid hp2
        have HTW := Lib.hid htw
        have w1 : IntKind.i64.wrap ((k : Int) + 1) = (k : Int) + 1 := IntWalk.i64_in _ (by omega)
        have w2 : IntKind.i64.wrap (x.toNat : Int) = (x.toNat : Int) := IntWalk.i64_in _ (by omega)
        have w3 : IntKind.i64.wrap (y.toNat : Int) = (y.toNat : Int) := IntWalk.i64_in _ (by omega)
        have w4 : IntKind.i64.wrap (256 * (x.toNat : Int)) = 256 * (x.toNat : Int) := IntWalk.i64_in _ (by omega)
        have w5 : IntKind.i64.wrap ((T k : Int) + 256 * (x.toNat : Int)) = (T k : Int) + 256 * (x.toNat : Int) := IntWalk.i64_in _ (by omega)
        have w6 : IntKind.i64.wrap ((T k : Int) + 256 * (x.toNat : Int) + (y.toNat : Int)) = (T k : Int) + 256 * (x.toNat : Int) + (y.toNat : Int) := IntWalk.i64_in _ (by omega)
        have i1 : (0 : Int) ≤ (k : Int) + 1 := by omega
        have n1 : ((k : Int) + 1).toNat = k + 1 := by omega
        clear htw hp2
        go_upto_region 7 with fail
        refine wp_region_noPanic ?_
        refine wp_region_drew (by kernel_rfl) ?_
        refine take0 0 17 (.int .i64 (T k : Int)) _ rfl (by kernel_rfl) (by kernel_rfl) (by kernel_rfl) (fun _ _ _ h => h) rfl rfl (fun w' => by go_simp) ?_
        simp only [Act.put, List.setIfInBounds_toArray, List.set_cons_zero, List.set_cons_succ]
        refine wpAny_flow_pre (fin := ?fin1) 14 0 [0] [.inl (.int .i64 (T k : Int)),
          .inl (.string s),
          .inl (.int .i64 (k : Int)),
          .inl (B8 x),
          .inl (.int .i64 (x.toNat : Int)),
          .inl (.int .i64 (256 * (x.toNat : Int))),
          .inl (.int .i64 ((T k : Int) + 256 * (x.toNat : Int))),
          .inl (.string s),
          .inl (.int .i64 (k : Int)),
          .inl (.int .i64 ((k : Int) + 1)),
          .inl (B8 y),
          .inl (.int .i64 (y.toNat : Int)),
          .inl (.int .i64 ((T k : Int) + 256 * (x.toNat : Int) + (y.toNat : Int))),
          .inl (.int .i64 ((T k : Int) + 256 * (x.toNat : Int) + (y.toNat : Int)))] rfl rfl (by kernel_rfl) rfl (by kernel_rfl) (by kernel_rfl) rfl ?hfin1 ?hE1 ?hend1
        case hfin1 =>
          intro G
          simp only [flowAll, flowVal, Act.put, List.setIfInBounds_toArray, List.set_cons_zero, List.set_cons_succ]
          exact rfl
        case hE1 =>
          intro G
          refine ⟨Or.inl rfl,
            Or.inr (fun W hB => known_val rfl (by go_simp)),
            Or.inr (fun W hB => known_val rfl (by go_simp)),
            Or.inr (fun W hB => known_val rfl (by go_simp)),
            Or.inr (fun W hB => known_val rfl (by go_simp)),
            Or.inr (fun W hB => known_val rfl (by go_simp)),
            Or.inr (fun W hB => known_val rfl (by go_simp)),
            Or.inr (fun W hB => known_val rfl (by go_simp)),
            Or.inr (fun W hB => known_val rfl (by go_simp)),
            Or.inr (fun W hB => known_val rfl (by go_simp)),
            Or.inr (fun W hB => known_val rfl (by go_simp)),
            Or.inr (fun W hB => known_val rfl (by go_simp)),
            Or.inr (fun W hB => known_val rfl (by go_simp)),
            Or.inr (fun W hB => known_val rfl (by go_simp)), trivial⟩
        intro G W hB hM
        replace hb := hb.drew.trans (hB.mono hb.size)
        clear hM hB G
        refine wpAny_end (by kernel_rfl) ?_ _
        refine NoPanic.normal ?_
        go_wp2
        refine ⟨⟨k + 2, by omega, HP2.out, ?_, by go_num, hb⟩, by simp [intOf]; omega⟩
        rw [HTW.out]
        congr 1
      · have hk2 : k = s.size := by omega
        have hv := HA.out k hk2
        have hS := HL.out k
        rw [hv] at hS
        subst hk2
        rw [hv]
        have HB := Lib.hid hS
        clear hv hS HA HT HL HT0
        go_wp2
        go_loopw [3] (fun c wr => ∃ n : Nat, n ≤ 65280 * s.size ∧ c16 n = c16 S ∧ c = .int .i64 (n : Int) ∧ Below w.heap.size w wr) (fun c _ => (intOf c).toNat)
        case atStart => exact ⟨S, HB.out, rfl, rfl, hb⟩
        case round =>
          clear hb
          obtain ⟨n, hn, hc, rfl, hb⟩ := hrel
          have HC := Lib.hid hc
          clear hc
          by_cases hbig : 65535 < n
          · have t1 : decide ((65535 : Int) < (n : Int)) = true := by simp; omega
            go_wp2
            refine ⟨⟨n / 65536 + n % 65536, by omega, by rw [c16_fold]; exact HC.out, ?_, hb⟩, ?_⟩
            · congr 1; omega
            · simp only [intOf]; omega
          · have t1 : decide ((65535 : Int) < (n : Int)) = false := by simp; omega
            have hcn := HC.out
            rw [c16_small n (by omega)] at hcn
            have hle := c16_le S
            have HR2 := Lib.hid hcn
            clear hcn
            go_wp2
            go_ret
            refine ⟨?_, hb⟩
            apply congrArg (fun x : Int => Ending.returned (.int .i64 x))
            have := HR2.out
            omega
  · rw [hp] at hm
    have hcat : ¬ (9223372036854775807 < s0.size + 1) := by
      have : s.size = s0.size + 1 := by rw [hsc]; exact ByteArray.size_append
      omega
    clear hp key
    go_enter Tryd.func22, Tryd.ntmps22
    go_wp2
    rw [← hsc]
    clear hsc
    go_loopw [3, 4] (fun c i wr => ∃ k : Nat, k ≤ s.size ∧ Hid (k % 2 = 0) ∧ c = .int .i64 (T k : Int) ∧ i = .int .i64 (k : Int) ∧ Below w.heap.size w wr) (fun _ i _ => s.size - (intOf i).toNat)
    case atStart => exact ⟨0, by omega, Lib.hid rfl, by rw [HT0.out]; rfl, rfl, Below.refl _ _⟩
    case round =>
      obtain ⟨k, hk, hpar, rfl, rfl, hb⟩ := hrel
      by_cases hlt : k < s.size
      · have t1 : decide ((k : Int) < (s.size : Int)) = true := by simp; omega
        have hlt2 : k + 1 < s.size := by have := hpar.out; have := HE.out; omega
        have h1 : (k : Int) < (s.size : Int) := by omega
        have h2 : (k : Int) + 1 < (s.size : Int) := by omega
        have hTk := HL.out k
        have htw := HT.out k hpar.out
        rw [hb0, hb0] at htw
        have e1 := bAt_eq s k hlt
        have e2 := bAt_eq s (k + 1) hlt2
        have hx := UInt8.toNat_lt (bAt s k)
        have hy := UInt8.toNat_lt (bAt s (k + 1))
        have hT2 := HL.out (k + 2)
        generalize bAt s k = x at e1 htw hx
        generalize bAt s (k + 1) = y at e2 htw hy
        have hp2 : (k + 2) % 2 = 0 := by have := hpar.out; omega
        have HP2 := Lib.hid hp2
        have HTW := Lib.hid htw
        have w1 : IntKind.i64.wrap ((k : Int) + 1) = (k : Int) + 1 := IntWalk.i64_in _ (by omega)
        have w2 : IntKind.i64.wrap (x.toNat : Int) = (x.toNat : Int) := IntWalk.i64_in _ (by omega)
        have w3 : IntKind.i64.wrap (y.toNat : Int) = (y.toNat : Int) := IntWalk.i64_in _ (by omega)
        have w4 : IntKind.i64.wrap (256 * (x.toNat : Int)) = 256 * (x.toNat : Int) := IntWalk.i64_in _ (by omega)
        have w5 : IntKind.i64.wrap ((T k : Int) + 256 * (x.toNat : Int)) = (T k : Int) + 256 * (x.toNat : Int) := IntWalk.i64_in _ (by omega)
        have w6 : IntKind.i64.wrap ((T k : Int) + 256 * (x.toNat : Int) + (y.toNat : Int)) = (T k : Int) + 256 * (x.toNat : Int) + (y.toNat : Int) := IntWalk.i64_in _ (by omega)
        have i1 : (0 : Int) ≤ (k : Int) + 1 := by omega
        have n1 : ((k : Int) + 1).toNat = k + 1 := by omega
        clear htw hp2
        go_upto_region 7 with fail
        refine wp_region_noPanic ?_
        refine wp_region_drew (by kernel_rfl) ?_
        refine take0 0 17 (.int .i64 (T k : Int)) _ rfl (by kernel_rfl) (by kernel_rfl) (by kernel_rfl) (fun _ _ _ h => h) rfl rfl (fun w' => by go_simp) ?_
        simp only [Act.put, List.setIfInBounds_toArray, List.set_cons_zero, List.set_cons_succ]
        refine wpAny_flow_pre (fin := ?fin2) 14 0 [0] [.inl (.int .i64 (T k : Int)),
          .inl (.string s),
          .inl (.int .i64 (k : Int)),
          .inl (B8 x),
          .inl (.int .i64 (x.toNat : Int)),
          .inl (.int .i64 (256 * (x.toNat : Int))),
          .inl (.int .i64 ((T k : Int) + 256 * (x.toNat : Int))),
          .inl (.string s),
          .inl (.int .i64 (k : Int)),
          .inl (.int .i64 ((k : Int) + 1)),
          .inl (B8 y),
          .inl (.int .i64 (y.toNat : Int)),
          .inl (.int .i64 ((T k : Int) + 256 * (x.toNat : Int) + (y.toNat : Int))),
          .inl (.int .i64 ((T k : Int) + 256 * (x.toNat : Int) + (y.toNat : Int)))] rfl rfl (by kernel_rfl) rfl (by kernel_rfl) (by kernel_rfl) rfl ?hfin2 ?hE2 ?hend2
        case hfin2 =>
          intro G
          simp only [flowAll, flowVal, Act.put, List.setIfInBounds_toArray, List.set_cons_zero, List.set_cons_succ]
          exact rfl
        case hE2 =>
          intro G
          refine ⟨Or.inl rfl,
            Or.inr (fun W hB => known_val rfl (by go_simp)),
            Or.inr (fun W hB => known_val rfl (by go_simp)),
            Or.inr (fun W hB => known_val rfl (by go_simp)),
            Or.inr (fun W hB => known_val rfl (by go_simp)),
            Or.inr (fun W hB => known_val rfl (by go_simp)),
            Or.inr (fun W hB => known_val rfl (by go_simp)),
            Or.inr (fun W hB => known_val rfl (by go_simp)),
            Or.inr (fun W hB => known_val rfl (by go_simp)),
            Or.inr (fun W hB => known_val rfl (by go_simp)),
            Or.inr (fun W hB => known_val rfl (by go_simp)),
            Or.inr (fun W hB => known_val rfl (by go_simp)),
            Or.inr (fun W hB => known_val rfl (by go_simp)),
            Or.inr (fun W hB => known_val rfl (by go_simp)), trivial⟩
        intro G W hB hM
        replace hb := hb.drew.trans (hB.mono hb.size)
        clear hM hB G
        refine wpAny_end (by kernel_rfl) ?_ _
        refine NoPanic.normal ?_
        go_wp2
        refine ⟨⟨k + 2, by omega, HP2.out, ?_, by go_num, hb⟩, by simp [intOf]; omega⟩
        rw [HTW.out]
        congr 1
      · have hk2 : k = s.size := by omega
        have hv := HA.out k hk2
        have hS := HL.out k
        rw [hv] at hS
        subst hk2
        rw [hv]
        have HB := Lib.hid hS
        clear hv hS HA HT HL HT0
        go_wp2
        go_loopw [3] (fun c wr => ∃ n : Nat, n ≤ 65280 * s.size ∧ c16 n = c16 S ∧ c = .int .i64 (n : Int) ∧ Below w.heap.size w wr) (fun c _ => (intOf c).toNat)
        case atStart => exact ⟨S, HB.out, rfl, rfl, hb⟩
        case round =>
          clear hb
          obtain ⟨n, hn, hc, rfl, hb⟩ := hrel
          have HC := Lib.hid hc
          clear hc
          by_cases hbig : 65535 < n
          · have t1 : decide ((65535 : Int) < (n : Int)) = true := by simp; omega
            go_wp2
            refine ⟨⟨n / 65536 + n % 65536, by omega, by rw [c16_fold]; exact HC.out, ?_, hb⟩, ?_⟩
            · congr 1; omega
            · simp only [intOf]; omega
          · have t1 : decide ((65535 : Int) < (n : Int)) = false := by simp; omega
            have hcn := HC.out
            rw [c16_small n (by omega)] at hcn
            have hle := c16_le S
            have HR2 := Lib.hid hcn
            clear hcn
            go_wp2
            go_ret
            refine ⟨?_, hb⟩
            apply congrArg (fun x : Int => Ending.returned (.int .i64 x))
            have := HR2.out
            omega
theorem refSum_any (s : ByteArray) (hs : s.size ≤ 10000) (w : World) :
    Calls Tryd.prog 22 #[.string s] w fun e w' => e = .returned (.int .i64 (sum16 s.data.toList : Int)) ∧ Below w.heap.size w w' := by
  have hsz : (s ++ (⟨#[0]⟩ : ByteArray)).size = s.size + 1 := ByteArray.size_append
  rcases Nat.mod_two_eq_zero_or_one s.size with hp | hp
  · exact refSumEven_any s s (by omega) hp (Or.inl ⟨hp, rfl⟩) w
  · have h := refSumEven_any s (s ++ ⟨#[0]⟩) (by omega) (by omega) (Or.inr ⟨hp, rfl⟩) w
    have e : (s ++ (⟨#[0]⟩ : ByteArray)).data.toList = s.data.toList ++ [0] := by rw [ByteArray.data_append, Array.toList_append]
    rw [e, sumL_pad] at h
    exact h
end Go.Proofs.YtbeeebnocliaiaaDoor
