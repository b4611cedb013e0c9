/- causeyref01.times: walked: a number of digits, times another. -/
import Derived.Test.YtolipnjlbdbofaaDoorRA
import Derived.Test.YtolipnjlbdbofaaDoorRB
import Derived.Deep.DeepCutAuto
namespace Go.Proofs.YtolipnjlbdbofaaDoor
open Go.RowKit
def TimesPost (w : World) (L V : Nat) (e : Ending) (w' : World) : Prop :=
  ∃ (a : Option Addr) (cap : Nat) (o : List Nat), e = .returned (.slice a o.length cap) ∧ IsList w' a o ∧ o.length ≤ L + 5 ∧ (∀ d ∈ o, d < 256) ∧ val o = V ∧ Below w.heap.size w w'
theorem snoc_lt (o : List Nat) (c : Nat) (h : ∀ d ∈ o, d < 256) : ∀ d ∈ o ++ [c % 256], d < 256 := by
  intro d hd
  rw [List.mem_append] at hd
  rcases hd with hd | hd
  · exact h d hd
  · simp at hd; omega
theorem w64b (a : Nat) (h : a < 4611686018427387904) : wrap64 (a : Int) = (a : Int) := by
  unfold wrap64; omega
set_option maxHeartbeats 400000 in
theorem times_any (l : List Nat) (x : Nat) (a : Option Addr) (cap : Nat) (w : World) (hl : l.length ≤ 50) (hd : ∀ d ∈ l, d < 256) (hx : x < 549755813888) (hc : IsList w a l) :
    Calls Tryd.prog 35 #[.slice a l.length cap, .int .i64 x] w (TimesPost w l.length (val l * x)) := by
  obtain ⟨i0, hi0, hz0, hz1, hz2⟩ := info_parts int_info
  have HD := Lib.hid hd
  have HC := Lib.hid hc
  clear hd hc
  obtain ⟨L, hL⟩ : ∃ L, l.length = L := ⟨_, rfl⟩
  obtain ⟨V, hV⟩ : ∃ V, val l * x = V := ⟨_, rfl⟩
  have hVL : vN l L * x = V := by rw [← hV, ← hL]; rfl
  rw [hL, hV]
  rw [hL] at hl
  have HL := Lib.hid hL
  have HVL := Lib.hid hVL
  clear hL hV hVL
  go_enter Tryd.func35, Tryd.ntmps35
  go_wp2
  go_loopw [5, 6, 7] (fun v c i wr => ∃ (k cc : Nat) (o : List Nat) (ao : Option Addr) (co : Nat), k ≤ L ∧ o.length = k ∧ (∀ d ∈ o, d < 256) ∧ cc ≤ x ∧ val o + cc * 256 ^ k = vN l k * x ∧ v = .slice ao k co ∧ c = .int .i64 (cc : Int) ∧ i = .int .i64 (k : Int) ∧ wr.ownsRow w.heap.size 3 1 (.slice ao k co) k (ns o) ∧ Below w.heap.size w wr) (fun _ _ i _ => L - (intOf i).toNat)
  case atStart => exact ⟨0, 0, [], none, 0, by omega, rfl, by simp, by omega, by simp [val, vN], rfl, rfl, rfl, World.ownsRow_nil _ _ _ _, Below.refl _ _⟩
  case round =>
    obtain ⟨k, cc, o, ao, co, hk, hok, hod, hcc, hval, rfl, rfl, rfl, hown, hbr⟩ := hrel
    have HOK := Lib.hid hok
    have HOD := Lib.hid hod
    have HVAL := Lib.hid hval
    clear hok hod hval
    by_cases hkL : k < L
    · obtain ⟨g, hg, rfl, hcell⟩ := HC.out (by intro h; have := HL.out; rw [h] at this; simp at this; omega)
      have ck := hcell k (by have := HL.out; omega)
      have ckr : wr.cell? ⟨g, k, none⟩ = _ := (hbr.cell (p := ⟨g, k, none⟩) hg).trans ck
      clear hcell ck
      obtain ⟨d, hdd⟩ : ∃ d, l.getD k 0 = d := ⟨_, rfl⟩
      have hd := getD_lt l HD.out k
      rw [hdd] at hd ckr
      have hst := times_step o l k x cc d HOK.out HVAL.out hdd
      have hcl := carry_le cc d x hcc hd
      have hdx : d * x ≤ 255 * 549755813888 := Nat.mul_le_mul (by omega) (by omega)
      have hdx2 : d * x < 4611686018427387904 := by omega
      have hS : cc + d * x ≤ 140737488355328 := by omega
      have hS2 : cc + d * x < 4611686018427387904 := by omega
      have t1 : decide ((k : Int) < (L : Int)) = true := by simp; omega
      have h63 : k + 1 ≤ maxLen := by unfold maxLen; omega
      have hby : (k + 1) * 8 ≤ 140737488355328 := by omega
      have hbs : ∀ o : Obj, w.heap.size ≤ (wr.alloc o).heap.size := fun o => by simp; have := hbr.size; omega
      have w1 : wrap64 ((d : Int) * (x : Int)) = ((d * x : Nat) : Int) := by rw [← Int.natCast_mul]; exact w64b _ hdx2
      have w2 : wrap64 ((cc : Int) + ((d * x : Nat) : Int)) = ((cc + d * x : Nat) : Int) := by rw [← Int.natCast_add]; exact w64b _ hS2
      clear hdx hdx2 hS2
      have HBS := Lib.hid hbs
      clear hbs
      generalize d * x = dx at hst hcl w1 w2 hS
      generalize cc + dx = S at hst hcl w2 hS
      have HST := Lib.hid hst
      clear hst hdd
      go_upto_region 7 with fail
      rw [w2, w1]
      clear w1 w2
      go_wp2_with (at_builtin; refine wpList_append_own _ rfl (.tmp 22) (.tmp 25) 53 rfl w.heap.size 3 i0 _ 1 8 Tryd.underlying53 hi0 hz0 hz1 hz2 rfl Nat.one_pos (.slice ao k co) k (ns o) rfl (hown.alloc _) ⟨wr.heap.size, 0, none⟩ 1 1 [.int .i64 ((S : Int) % 256)] rfl rfl (one_cell wr _ 3) (one_int _) h63 hby (HBS.out _) ?_; intro v2 w2' hown2 hg2 _; obtain ⟨a2, cap2, hv2⟩ := own_form hown2; rw [hv2] at hown2 ⊢)
      have hok := HOK.out
      go_roundw
      case rel =>
        refine ⟨k + 1, S / 256, o ++ [S % 256], a2, cap2, by omega, by simp [hok], snoc_lt o S HOD.out, hcl, HST.out, rfl, by go_num, by go_num, ?_, (hbr.alloc hbr.size _).grown hg2 (HBS.out _) (fun j hj => (hown.lt j hj).1)⟩
        have e : ns (o ++ [S % 256]) = ns o ++ [.int .i64 ((S : Int) % 256)] := by simp [ns]
        rw [e]
        exact hown2
      case measure => simp [intOf]; omega
    · have hkL2 : k = L := by omega
      subst hkL2
      have hV : val o + cc * 256 ^ k = V := by rw [HVAL.out, HVL.out]
      have HV := Lib.hid hV
      clear hV
      have t1 : decide ((k : Int) < (k : Int)) = false := by simp
      go_wp2
      go_loopw [5, 6] (fun v c wr => ∃ (t q : Nat) (o : List Nat) (ao : Option Addr) (co : Nat), t ≤ 5 ∧ o.length = k + t ∧ (∀ d ∈ o, d < 256) ∧ q < 256 ^ (5 - t) ∧ val o + q * 256 ^ o.length = V ∧ v = .slice ao (k + t) co ∧ c = .int .i64 (q : Int) ∧ wr.ownsRow w.heap.size 3 1 (.slice ao (k + t) co) (k + t) (ns o) ∧ Below w.heap.size w wr) (fun _ c _ => (intOf c).toNat)
      case atStart => exact ⟨0, cc, o, ao, co, by omega, HOK.out, HOD.out, by simp; omega, by rw [HOK.out]; exact HV.out, rfl, rfl, hown, hbr⟩
      case round =>
        clear hown hbr HOK HOD HVAL HV hcc hk hkL
        obtain ⟨t, q, o, ao, co, ht, hok, hod, hq, hval, rfl, rfl, hown, hbr⟩ := hrel
        have HOK := Lib.hid hok
        have HOD := Lib.hid hod
        have HVAL := Lib.hid hval
        clear hok hod hval
        have hqb : q < 1099511627776 := Nat.lt_of_lt_of_le hq (Nat.pow_le_pow_right (by omega) (by omega : 5 - t ≤ 5))
        have HQ := Lib.hid hq
        clear hq
        by_cases hq0 : 0 < q
        · have ht5 : t < 5 := by
            rcases Nat.lt_or_ge t 5 with h | h
            · exact h
            · have := HQ.out; rw [show 5 - t = 0 from by omega] at this; simp at this; omega
          have hst := rest_step o q V HVAL.out
          have hq2 : q / 256 < 256 ^ (5 - (t + 1)) := by
            have := HQ.out
            rw [show 5 - t = (5 - (t + 1)) + 1 from by omega, Nat.pow_succ] at this
            omega
          have t2 : decide (0 < (q : Int)) = true := by simp; omega
          have h63 : k + t + 1 ≤ maxLen := by unfold maxLen; omega
          have hby : (k + t + 1) * 8 ≤ 140737488355328 := by omega
          have hbs : ∀ o : Obj, w.heap.size ≤ (wr.alloc o).heap.size := fun o => by simp; have := hbr.size; omega
          have HBS := Lib.hid hbs
          have HST := Lib.hid hst
          have HQ2 := Lib.hid hq2
          clear hbs hst hq2
          generalize hN : k + t = N at hown h63 hby ⊢
          have HN := Lib.hid hN
          clear hN
          go_wp2_with (at_builtin; refine wpList_append_own _ rfl (.tmp 31) (.tmp 34) 53 rfl w.heap.size 3 i0 _ 1 8 Tryd.underlying53 hi0 hz0 hz1 hz2 rfl Nat.one_pos (.slice ao N co) N (ns o) rfl (hown.alloc _) ⟨wr.heap.size, 0, none⟩ 1 1 [.int .i64 ((q : Int) % 256)] rfl rfl (one_cell wr _ 3) (one_int _) h63 hby (HBS.out _) ?_; intro v2 w2' hown2 hg2 _; obtain ⟨a2, cap2, hv2⟩ := own_form hown2; rw [hv2] at hown2 ⊢)
          have hok := HOK.out
          have hN := HN.out
          go_roundw
          case rel =>
            refine ⟨t + 1, q / 256, o ++ [q % 256], a2, cap2, by omega, by simp [hok]; omega, snoc_lt o q HOD.out, HQ2.out, by rw [List.length_append, List.length_singleton]; exact HST.out, by rw [← hN]; rfl, by go_num, ?_, (hbr.alloc hbr.size _).grown hg2 (HBS.out _) (fun j hj => (hown.lt j hj).1)⟩
            have e : ns (o ++ [q % 256]) = ns o ++ [.int .i64 ((q : Int) % 256)] := by simp [ns]
            rw [e, show k + (t + 1) = N + 1 from by omega]
            exact hown2
          case measure => simp [intOf]; omega
        · have hq1 : q = 0 := by omega
          subst hq1
          have hil := (own_list hown).2
          have HIL := Lib.hid hil
          clear hil
          go_wp2
          go_ret
          refine ⟨ao, co, o, ?_, HIL.out, by rw [HOK.out]; omega, HOD.out, ?_, hbr⟩
          · rw [HOK.out]; rfl
          · have := HVAL.out; simpa using this
end Go.Proofs.YtolipnjlbdbofaaDoor
