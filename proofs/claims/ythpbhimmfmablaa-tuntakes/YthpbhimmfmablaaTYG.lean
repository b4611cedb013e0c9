/- The law TunTakes: walked; a slice of texts as an argument; a law whose arguments lie in memory is shut again. -/
import Derived.Test.YthpbhimmfmablaaTYE
import Derived.Test.YthpbhimmfmablaaTUF
import Derived.Deep.Strs
import Derived.Carry
namespace Go.Proofs.Ythpbhimmfmablaa
open Go.RowKit
theorem exec_neqS14 {P : Program} {o : Oper} {ev : Operand → Value} {w : World} (p q : Operand) (a b : ByteArray) (r : Bool) (hr : (a.data.toList == b.data.toList) = r) (ho : o.op = .binOp .neq 9 p q 9) (hp : ev p = .string a) (hq : ev q = .string b) : (execOp ev o).run P w = .ok (.value (.bool (!r))) w := by
  rw [← ByteArray.toList_eq, ← ByteArray.toList_eq] at hr
  unfold execOp
  simp only [ho, hp, hq]
  go_simp
/-- the document's Take, whatever comes -/
theorem rTake_any {S : List TS} (hS : Sound S) {v : Value} {w : World} (hD : DL w v S) (s : ByteArray) : Calls Try.prog 16 #[v, .string s] w fun e w' => TookK e w' w v (takeS S s) := by
  by_cases hb : s.data.toList = [0] ∨ (readP s).1 ≠ 0
  · refine (rTake_bad v s S hb w).mono ?_
    rintro e w' ⟨rfl, h2, h3⟩
    exact ⟨v, rfl, by rw [h2]; exact hD.step h3, fun g hg => Or.inl hg, h3⟩
  · have h0 : ¬ s.data.toList = [0] := fun h => hb (Or.inl h)
    have hr : (readP s).1 = 0 := Classical.not_not.1 (fun h => hb (Or.inr h))
    have key : bAt s 0 = 1 ∧ 7 < s.size ∧ rightB (bAt s 6).toNat (bAt s 5).toNat (s.size - 7) = true ∧ readP s = (0, (numP (s.data.toList.drop 1) 4, (bAt s 5).toNat, (bAt s 6).toNat, s.extract 7 s.size)) := by
      unfold readP at hr ⊢
      by_cases h1 : s.size < 1
      · rw [if_pos h1] at hr; cases hr
      rw [if_neg h1] at hr ⊢
      by_cases h2 : bAt s 0 ≠ 1
      · rw [if_pos h2] at hr; cases hr
      rw [if_neg h2] at hr ⊢
      by_cases h3 : s.size ≤ 7
      · rw [if_pos h3] at hr; cases hr
      rw [if_neg h3] at hr ⊢
      by_cases h4 : rightB (bAt s 6).toNat (bAt s 5).toNat (s.size - 7) = true
      · rw [if_pos h4]
        exact ⟨Classical.not_not.1 h2, by omega, h4, rfl⟩
      · rw [if_neg h4] at hr; cases hr
    obtain ⟨k1, k2, k3, k4⟩ := key
    have e : takeS S s = joinS S (numP (s.data.toList.drop 1) 4) (bAt s 6).toNat (bAt s 5).toNat (s.extract 7 s.size) := by
      unfold takeS
      rw [if_neg h0, if_neg (by rw [hr]; simp), k4]
    unfold rightB at k3
    simp only [Bool.and_eq_true, Bool.or_eq_true, decide_eq_true_eq] at k3
    rw [e]
    obtain ⟨a, cap, rfl⟩ : ∃ a cap, v = .slice a S.length cap := by
      rcases hD with ⟨rfl, rfl⟩ | ⟨g, cap, rfl, _⟩
      · exact ⟨none, 0, rfl⟩
      · exact ⟨_, cap, rfl⟩
    exact rTake_go S hS a cap s k1 k2 k3 w hD
theorem DL.form {W : World} {v : Value} {S : List TS} (h : DL W v S) : ∃ a cap, v = .slice a S.length cap := by
  rcases h with ⟨rfl, rfl⟩ | ⟨g, cap, rfl, _⟩
  · exact ⟨none, 0, rfl⟩
  · exact ⟨_, cap, rfl⟩
set_option maxRecDepth 20000 in
set_option maxHeartbeats 1000000 in
theorem takes12_any (a : Option Addr) (len cap : Nat) (T : Nat → ByteArray) (w : World) (hT : Strs w a len T) : Calls Try.prog 5 #[.slice a len cap] w fun e w' => e = .returned (.bool true) ∧ Below w.heap.size w w' := by
  have AW := Lib.hid awake12_any
  have HT := Lib.hid hT
  clear hT
  go_enter Try.func5, Try.ntmps5
  go_wp2_with fail
  refine (AW.out _).mono ?_
  rintro e w1 ⟨rfl, hb1⟩
  have HB1 := Lib.hid hb1
  clear hb1
  go_wp2_with fail
  refine (few_any a len cap T w1 (HT.out.step HB1.out)).mono ?_
  rintro e w2 ⟨q, rfl, hq, rfl⟩
  cases q with
  | false =>
    clear hq
    go_wp2_with fail
    refine (AW.out _).mono ?_
    rintro e w3 ⟨rfl, hb3⟩
    have HB3 := Lib.hid (HB1.out.trans (hb3.mono HB1.out.size))
    clear hb3
    go_wp2
    go_ret
    exact ⟨rfl, HB3.out⟩
  | true =>
    have h60 : len ≤ 60 := hq rfl
    clear hq
    have hJ := JS.fresh w2
    have hbj : Below w2.heap.size w2 (w2.alloc (.cells #[.map none, .slice none 0 0] 41)) := (Below.refl _ _).alloc (Nat.le_refl _) _
    have HJ := Lib.hid (And.intro hJ hbj)
    clear hJ hbj
    go_upto_region 4 with fail
    generalize w2.alloc (.cells #[.map none, .slice none 0 0] 41) = w3 at HJ ⊢
    obtain ⟨jb, hjb⟩ : ∃ jb, w2.heap.size = jb := ⟨_, rfl⟩
    rw [hjb] at HJ
    have HJB := Lib.hid hjb
    rw [hjb]
    clear hjb
    go_wp2
    go_loopw [4, 5] (fun m i wr => ∃ (k : Nat) (F : List Nat) (S : List TS), k ≤ len ∧ i = .int .i64 (k : Int) ∧ JS jb wr jb F S ∧ DL wr m S ∧ (∀ g, m.ownBlock = some g → g ∉ F) ∧ Below jb w2 wr) (fun _ i _ => len - (intOf i).toNat)
    case atStart => exact ⟨0, _, _, by omega, rfl, HJ.out.1, Or.inl ⟨rfl, rfl⟩, (fun g h => by cases h), HJ.out.2⟩
    case round =>
      obtain ⟨k, F, S, hk, rfl, hJ, hD, hF, hB⟩ := hrel
      have hcb : jb ≤ wr.heap.size := by have := hB.size; have := HJB.out; omega
      have hbw : Below w.heap.size w wr := HB1.out.trans (hB.mono (by have := HB1.out.size; have := HJB.out; omega))
      by_cases hlt : k < len
      · have t1 : decide ((k : Int) < (len : Int)) = true := by simp; omega
        have t2 : (k : Int) < (len : Int) := by omega
        obtain ⟨g, off, rfl, hg, hc⟩ := HT.out k hlt
        have hcc : ∀ W : World, Below w.heap.size w W → W.cell? ⟨g, off + k, none⟩ = some (.string (T k)) := fun W h => (h.cell (p := ⟨g, off + k, none⟩) hg).trans hc
        have hh := rTake_any hJ.sound hD (T k)
        generalize T k = piece at hcc hh
        have c0 := hcc wr hbw
        obtain ⟨am, cm, rfl⟩ := hD.form
        obtain ⟨Z, hZ⟩ : ∃ Z, S.length = Z := ⟨_, rfl⟩
        have HH := Lib.hid hh
        have HC := Lib.hid hcc
        have HW := Lib.hid (And.intro (And.intro hJ hD) (And.intro hF (And.intro hB (And.intro hcb hbw))))
        rw [hZ]
        have HZ := Lib.hid hZ
        clear hh hcc hc hg hJ hD hF hB hcb hbw hZ HJ
        go_wp2_with fail
        rw [← HZ.out]
        refine HH.out.mono ?_
        rintro e wa ⟨m', rfl, hDa, hoa, hba⟩
        obtain ⟨⟨hJ, hD⟩, hF, hB, hcb, hbw⟩ := HW.out
        have hJa := hJ.step hba
        have hFa : ∀ g, m'.ownBlock = some g → g ∉ F := fun g hg hm => (hoa g hg).elim (fun h => hF g h hm) (fun h => absurd (hJ.lt g hm) (by omega))
        have hca : jb ≤ wa.heap.size := Nat.le_trans hcb hba.size
        have hBa : Below jb w2 wa := hB.trans (hba.mono hcb)
        have c1 := HC.out wa (hbw.trans (hba.mono hbw.size))
        have htk := take_any hJa hca piece
        generalize takeS S piece = R at *
        obtain ⟨S', Tx, q, e'⟩ := R
        have HTK := Lib.hid htk
        have HA := Lib.hid (And.intro hJa (And.intro hDa (And.intro hFa (And.intro hca hBa))))
        clear htk hJa hDa hFa hca hBa hba hoa c0 hJ hD hF hB hcb hbw HW HH HZ
        unfold told4
        go_wp2_with fail
        refine HTK.out.mono ?_
        rintro e wb ⟨Fb, rfl, hJb, hKb, hFb⟩
        obtain ⟨hJa, hDa, hFa, hca, hBa⟩ := HA.out
        have hDb := hDa.kp hKb hFa
        have hFbb : ∀ g, m'.ownBlock = some g → g ∉ Fb := fun g hg hm => (hFb g hm).elim (fun h => hFa g hg h) (fun h => absurd (hDa.lt g hg) (by omega))
        have hBb : Below jb w2 wb := hBa.trans (hKb.below jb hca hJa.base)
        obtain ⟨am, cm, rfl⟩ := hDb.form
        have h8 := hJb.sound.len
        have hh := held_any hJb
        have HW := Lib.hid (And.intro hJb (And.intro hDb (And.intro hFbb hBb)))
        clear HTK HA c1 hJb hKb hFb hJa hDa hFa hca hBa hDb hFbb hBb HC
        generalize S'.length = z at *
        have HH := Lib.hid hh
        clear hh
        have a1 : ¬ (8 : Int) < (z : Int) := by omega
        clear h8
        go_wp2_with (first
          | (refine wpExec rfl (.bool (!true)) (exec_neqS14 (.tmp 55) (.tmp 56) _ _ true (by simp) rfl rfl rfl) ?_)
          | (go_at_call 14; refine HH.out.mono ?_; rintro e wc ⟨rfl, rfl⟩))
        refine ⟨⟨k + 1, Fb, S', by omega, by go_num, HW.out.1, HW.out.2.1, HW.out.2.2.1, HW.out.2.2.2⟩, by simp [intOf]; omega⟩
      · have t1 : decide ((k : Int) < (len : Int)) = false := by simp; omega
        have t2 : ¬ (k : Int) < (len : Int) := by omega
        have HBW := Lib.hid hbw
        clear hJ hD hF hB hcb hbw HJ
        go_wp2_with (first
          | (go_at_call 17; refine (idle_any _).mono ?_; rintro e w' ⟨rfl, rfl⟩)
          | (go_at_call 13; refine (take_nil _ _).mono ?_; rintro e w' ⟨rfl, rfl⟩)
          | (go_at_call 14; refine (held_nil _).mono ?_; rintro e w' ⟨rfl, rfl⟩))
        go_ret
        exact ⟨rfl, HBW.out⟩
open Go.ChangeShapes Go.WideShapes Go.ChangeAt
/-- ARGS read through places: behind the call, below the heap's old size nothing has turned -/
theorem post_under {H : Type} {enc : TypeId × Value → H} {P : Program} {f : Func} {s : ChangeSpec} {apart fresh handsOn : Bool} {W W' : World} {args : Array Value} {v : Value} {ds gs : List (DataW H)} {before pa : List MemPlace}
    (hW : DataW.Whole enc P f.params.toList s.vars apart W args.toList ds gs before)
    (hres : ∀ (b : Nat) (sp : Nat → Bool) (hd : Bool), DataW.TrodAll enc P W' b sp hd f.resultTypes.toList (v.resultList f.resultTypes.size) (s.fn H (ds ++ gs)).results [])
    (hargs : DataW.TrodAll enc P W' 0 (fun b => decide (b < W.heap.size)) true f.params.toList args.toList (s.fn H (ds ++ gs)).args pa)
    (hvars : DataW.TrodVars enc P W' (fun b => decide (b < W.heap.size)) s.vars (s.fn H (ds ++ gs)).vars [])
    (hb : Below W.heap.size W W') : s.post enc P f apart fresh handsOn false W args v W' :=
  ⟨ds, gs, before, [], pa, [], hW, hres _ _ _, hargs, hvars, World.keptBut_mono (fun p hp => absurd hp (by simp)) (hb.frame (· ∈ ([] : List MemPlace))), fun h => by cases h⟩
section
variable {H : Type} {enc : TypeId × Value → H} {P : Program} {W : World} {held : Bool}
theorem open_strs12 {b0 : Nat} {t e : TypeId} {v : Value} {d : DataW H} {p : List MemPlace} (ht : P.underlying t = some (.slice e)) (he : P.underlying e = some .string) (hc : P.cellsOf e = 1)
    {b1 : Nat} (hv : Value.okWide P W .any b1 t v) (h : DataW.Trod enc P W b0 (fun _ => true) held t v d p) (hlt : ∀ x ∈ p, x.block < W.heap.size) : ∃ (a : Option Addr) (len cap : Nat) (T : Nat → ByteArray), v = .slice a len cap ∧ Strs W a len T := by
  obtain ⟨a, len, cap, rfl⟩ := okWide_slice ht hv
  refine ⟨a, len, cap, ?_⟩
  obtain ⟨fuel, hf⟩ := h
  rcases Deep.open_strs ht he hc hf with ⟨hcs, _⟩ | ⟨a', len', cap', m, T, hcs, _, hl, _, hm, hx, hcell⟩
  · simp [Value.cells] at hcs
    obtain ⟨rfl, rfl, rfl⟩ := hcs
    exact ⟨fun _ => ⟨#[]⟩, rfl, fun i hi => absurd hi (by omega)⟩
  · simp [Value.cells] at hcs
    obtain ⟨rfl, rfl, rfl⟩ := hcs
    simp only [if_true] at hm
    subst hm
    simp only [Prod.mk.injEq] at hx
    obtain ⟨_, rfl⟩ := hx
    refine ⟨T, rfl, fun i hi => ?_⟩
    obtain ⟨b, off, spot⟩ := a'
    have hspot : spot = none := by simpa [Addr.add] using World.cell?_spot (hcell 0 (by omega)).1
    subst hspot
    refine ⟨b, off, rfl, hlt (.cell b off) (MemPlace.mem_row.2 ⟨0, by omega, by simp⟩), ?_⟩
    rw [← (hcell i (by omega)).1]
    unfold Addr.add
    by_cases h0 : i = 0
    · subst h0; rfl
    · rw [if_neg h0]
end
end Go.Proofs.Ythpbhimmfmablaa
