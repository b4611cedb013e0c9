/- sha.divided and sha.Primes: walked. -/
import Derived.Test.YtpkmhdnpnbkhiaaDoorB
import Derived.Test.YtpkmhdnpnbkhiaaDoorC
import Derived.Test.YtpkmhdnpnbkhiaaDoorW
import Derived.OwnWalk
namespace Go.Proofs.YtpkmhdnpnbkhiaaDoor
open Go.RowKit
/-- a slice's cells are these integers -/
def IsList (w : World) (a : Option Addr) (l : List Nat) : Prop := l ≠ [] → ∃ g, g < w.heap.size ∧ a = some ⟨g, 0, none⟩ ∧ ∀ i, i < l.length → w.cell? ⟨g, i, none⟩ = some (.int .i64 ((l.getD i 0 : Nat) : Int))
theorem divB_take (n : Nat) (l : List Nat) (k : Nat) (h : k < l.length) : divB n (l.take (k + 1)) = (divB n (l.take k) || n % l.getD k 0 == 0) := by
  rw [List.take_succ_eq_append_getElem h]
  simp only [divB, List.any_append, List.any_cons, List.any_nil, Bool.or_false, List.getD_eq_getElem?_getD, List.getElem?_eq_getElem h, Option.getD_some]
theorem divB_hit (n : Nat) (l : List Nat) (k : Nat) (h : k < l.length) (hd : n % l.getD k 0 = 0) : divB n l = true := by
  unfold divB
  rw [List.any_eq_true]
  refine ⟨l.getD k 0, ?_, by simpa using hd⟩
  rw [List.getD_eq_getElem?_getD, List.getElem?_eq_getElem h]
  exact List.getElem_mem h
set_option maxHeartbeats 400000 in
theorem divided_any (n : Nat) (l : List Nat) (a : Option Addr) (cap : Nat) (w : World) (hn : n ≤ 1000000) (hl : l.length ≤ 1000000) (hb : ∀ d ∈ l, 0 < d ∧ d ≤ 1000000) (hc : IsList w a l) :
    Calls Tryd.prog 30 #[.int .i64 n, .slice a l.length cap] w fun e w' => e = .returned (.bool (divB n l)) ∧ w = w' := by
  have HB := Lib.hid hb
  have HC := Lib.hid hc
  clear hb hc
  obtain ⟨m, hm⟩ : ∃ m, l.length = m := ⟨_, rfl⟩
  rw [hm] at hl ⊢
  have HM := Lib.hid hm
  clear hm
  go_enter Tryd.func30, Tryd.ntmps30
  go_wp2
  go_loop [9] (fun i => ∃ k : Nat, k ≤ m ∧ i = .int .i64 k ∧ divB n (l.take k) = false) (fun i => m - (intOf i).toNat)
  case atStart => exact ⟨0, by omega, rfl, by simp [divB]⟩
  case round =>
    obtain ⟨k, hk, rfl, hno⟩ := hrel
    have HNO := Lib.hid hno
    clear hno
    by_cases hlt : k < m
    · obtain ⟨g, _, rfl, hcell⟩ := HC.out (by intro h; have := HM.out; rw [h] at this; simp at this; omega)
      have ck := hcell k (by have := HM.out; omega)
      have hkl : k < l.length := by have := HM.out; omega
      have hdb := HB.out (l.getD k 0) (by rw [List.getD_eq_getElem?_getD, List.getElem?_eq_getElem hkl]; exact List.getElem_mem hkl)
      have hst := divB_take n l k hkl
      have hhit := divB_hit n l k hkl
      clear hcell
      generalize l.getD k 0 = d at ck hdb hst hhit
      obtain ⟨hd1, hd2⟩ := hdb
      have HST := Lib.hid hst
      have HHIT := Lib.hid hhit
      clear hst hhit hkl
      by_cases hz : n % d = 0
      · have hzb : ((n : Int) % (d : Int) == 0) = true := by simp; omega
        have hres := HHIT.out hz
        have HRES := Lib.hid hres
        clear hres
        go_wp2
        go_ret
        exact ⟨by rw [HRES.out]; rfl, rfl⟩
      · have hzb : ((n : Int) % (d : Int) == 0) = false := by simp; omega
        go_wp2
        go_round
        case rel => exact ⟨k + 1, by omega, by go_num, by rw [HST.out, HNO.out]; simp [hz]⟩
        case measure => simp [intOf]; omega
    · have hkm : k = m := by omega
      subst hkm
      have hres : divB n l = false := by rw [← HNO.out, List.take_of_length_le (by have := HM.out; omega)]
      have HRES := Lib.hid hres
      clear hres
      go_wp2
      go_ret
      exact ⟨by rw [HRES.out]; rfl, rfl⟩
/-- integers as cells -/
def ns (l : List Nat) : List Value := l.map fun (x : Nat) => Value.int .i64 (x : Int)
theorem ns_length (l : List Nat) : (ns l).length = l.length := by simp [ns]
theorem ns_one (l : List Nat) : ∀ u ∈ ns l, u.oneCell' = true := by
  intro u hu
  simp only [ns, List.mem_map] at hu
  obtain ⟨x, _, rfl⟩ := hu
  rfl
theorem int_info : (Tryd.prog.info? 3).map (fun i => (i.zero, i.size, i.bytes)) = some (some (.int .i64 0), 1, 8) := by kernel_rfl
/-- a row of the call's own reads as a list -/
theorem own_list {w : World} {base : Nat} {a : Option Addr} {cap n : Nat} {l : List Nat} (h : w.ownsRow base 3 1 (.slice a n cap) n (ns l)) : l.length = n ∧ IsList w a l := by
  have hl : l.length = n := by have := h.1; rw [ns_length] at this; omega
  refine ⟨hl, fun hne => ?_⟩
  rcases h.2 with ⟨_, h0⟩ | ⟨g, cap', cur, hv, hg, hh, hnc, hcm, hcur, htk⟩
  · exact absurd (List.eq_nil_of_length_eq_zero (by omega)) hne
  · have ha : a = some ⟨g, 0, none⟩ := by injection hv
    subst ha
    refine ⟨g, (Array.getElem?_eq_some_iff.1 hh).1, rfl, fun i hi => ?_⟩
    have hc := h.cellAt (g := g) (cap := cap) i (by omega)
    rw [hc]
    simp [ns, hi]
theorem IsList.below {w w' : World} {a : Option Addr} {l : List Nat} (h : IsList w a l) (hb : Below w.heap.size w w') : IsList w' a l := fun hne => by
  obtain ⟨g, hg, rfl, hc⟩ := h hne
  exact ⟨g, Nat.lt_of_lt_of_le hg hb.size, rfl, fun i hi => (hb.cell (p := ⟨g, i, none⟩) hg).trans (hc i hi)⟩
theorem IsList.drew {w : World} {a : Option Addr} {l : List Nat} (h : IsList w a l) : IsList w.drew a l := h
theorem IsList.drewN {w : World} {a : Option Addr} {l : List Nat} (h : IsList w a l) (n : Nat) : IsList (w.drewN n) a l := h
theorem one_cell (w : World) (v : Value) (t : TypeId) : ∀ (j : Nat) (u : Value), [v][j]? = some u → (w.alloc (.cells #[v] t)).cell? ((⟨w.heap.size, 0, none⟩ : Addr).add j) = some u := by
  intro j u hu
  cases j with
  | zero =>
    simp only [List.getElem?_cons_zero, Option.some.injEq] at hu
    subst hu
    exact (Has.fresh w t #[v]).cell 0
  | succ j => simp at hu
theorem one_int (n : Int) : ∀ u ∈ [Value.int .i64 n], u.oneCell' = true := by
  intro u hu
  simp only [List.mem_singleton] at hu
  subst hu
  rfl
set_option maxHeartbeats 400000 in
theorem primes_any (m : Nat) (hm : m ≤ 100) (w : World) :
    Calls Tryd.prog 20 #[.int .i64 m] w fun e w' => ∃ a cap, e = .returned (.slice a m cap) ∧ IsList w' a (primesL m) ∧ Below w.heap.size w w' := by
  obtain ⟨i0, hi0, hz0, hz1, hz2⟩ := info_parts int_info
  have b1 : decide ((m : Int) < 0) = false := by simp
  have b2 : decide (100 < (m : Int)) = false := by simp; omega
  go_enter Tryd.func20, Tryd.ntmps20
  go_wp2_with (refine wpList_make_own _ rfl (.const (.int .i64 0)) (.tmp 11) 28 rfl w.heap.size 3 i0 _ 1 Tryd.underlying28 hi0 hz0 hz1 .i64 .i64 (m : Int) m rfl rfl rfl (by rw [hz2]; omega) (by unfold maxLen; omega) (Nat.le_refl _) ?_; intro w1 hown1 hg1)
  go_loopw [3, 4] (fun v c wr => ∃ k : Nat, k ≤ 540 ∧ (prF k).length ≤ m ∧ v = .slice (some ⟨w.heap.size, 0, none⟩) (prF k).length m ∧ c = .int .i64 ((k + 2 : Nat) : Int) ∧ wr.ownsRow w.heap.size 3 1 (.slice (some ⟨w.heap.size, 0, none⟩) (prF k).length m) (prF k).length (ns (prF k)) ∧ Below w.heap.size w wr) (fun _ c _ => 600 - (intOf c).toNat)
  case atStart => exact ⟨0, by omega, Nat.zero_le _, rfl, rfl, hown1, (Below.refl _ _).grown hg1 (Nat.le_refl _) (fun k hk => by cases hk)⟩
  case round =>
    clear hown1 hg1
    obtain ⟨k, hk, hlm, rfl, rfl, hown, hbr⟩ := hrel
    by_cases hlt : (prF k).length < m
    · have hk2 := prF_le k (by omega)
      have hil := (own_list hown).2
      have hbd := prF_bounds k
      have hdv := divided_any (k + 2) (prF k) (some ⟨w.heap.size, 0, none⟩) m wr (by omega) (by omega) (fun d hd => by have := hbd d hd; omega) hil
      have hsucc := prF_succ k
      generalize hq : divB (k + 2) (prF k) = q at hdv hsucc
      have HDV := Lib.hid hdv
      have HSU := Lib.hid hsucc
      clear hdv hsucc hq hbd
      generalize hLn : (prF k).length = L at hlm hlt hown HDV ⊢
      have HLN := Lib.hid hLn
      clear hLn
      have HIL := Lib.hid hil
      clear hil
      cases q
      · go_wp2_with (first
          | (go_at_call 30; refine HDV.out.mono ?_; rintro e w' ⟨rfl, rfl⟩)
          | (at_builtin; refine wpList_append_fits _ rfl (.tmp 23) (.tmp 25) 28 rfl w.heap.size 3 i0 1 Tryd.underlying28 hi0 hz1 w.heap.size L m (ns (prF k)) rfl (hown.alloc _) ⟨wr.heap.size, 0, none⟩ 1 1 [.int .i64 ((k : Int) + 2)] rfl rfl (one_cell wr _ 3) (one_int _) (by omega) ?_; intro w2 hown2 hg2))
        have hL1 : (prF (k + 1)).length = L + 1 := by rw [HSU.out]; simp [HLN.out]
        have hns : ns (prF (k + 1)) = ns (prF k) ++ [.int .i64 ((k : Int) + 2)] := by rw [HSU.out]; simp [ns]
        go_roundw
        case rel =>
          refine ⟨k + 1, by omega, by omega, by rw [hL1], by go_num, ?_, (hbr.alloc hbr.size _).grown hg2 (by simp; have := hbr.size; omega) (fun j hj => by cases hj; exact Nat.le_refl _)⟩
          rw [hL1, hns]
          exact hown2
        case measure => simp [intOf]; omega
      · have hL1 : prF (k + 1) = prF k := by rw [HSU.out]; simp
        go_wp2_with (go_at_call 30; refine HDV.out.mono ?_; rintro e w' ⟨rfl, rfl⟩)
        go_roundw
        case rel =>
          refine ⟨k + 1, by omega, by rw [hL1, HLN.out]; exact hlm, by rw [hL1, HLN.out], by go_num, ?_, hbr⟩
          rw [hL1, HLN.out]
          exact hown
        case measure => simp [intOf]; omega
    · have hLm : (prF k).length = m := by omega
      have hp := prF_take k hk
      rw [hLm] at hp hown ⊢
      have hil := (own_list hown).2
      rw [hp] at hil
      have HIL := Lib.hid hil
      have HOWN := Lib.hid hown
      clear hown hil hp hLm hlm hlt
      go_wp2
      go_ret
      exact ⟨_, _, rfl, HIL.out, hbr⟩
end Go.Proofs.YtpkmhdnpnbkhiaaDoor
