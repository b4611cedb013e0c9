/- tun's drop: walked. -/
import Derived.Test.YthpbhimmfmablaaTUP
namespace Go.Proofs.Ythpbhimmfmablaa
open Go.RowKit
theorem zero_text (w : World) : (zeroValue 80).run Try.prog w = .ok (.agg #[.int .i64 0, .map none]) w := by kernel_rfl
theorem zero_piece (w : World) : (zeroValue 66).run Try.prog w = .ok (.agg #[.int .u64 0, .int .i64 0, .int .i64 0, .string ⟨#[]⟩]) w := by kernel_rfl
theorem map_texts : Try.prog.underlying 38 = some (.map 22 80) := Try.underlying38
theorem map_pieces : Try.prog.underlying 78 = some (.map 3 66) := Try.underlying78
theorem nodup_before {l : List TX} (hn : (l.map TX.n).Nodup) (i : Nat) (hi : i < l.length) (j : Nat) (hj : j < i) : (l.map TX.n).getD j 0 ≠ (l[i]).n := by
  intro e
  have hj2 : j < (l.map TX.n).length := by rw [List.length_map]; omega
  have hi2 : i < (l.map TX.n).length := by rw [List.length_map]; omega
  rw [List.getD_eq_getElem?_getD, List.getElem?_eq_getElem hj2] at e
  refine (List.pairwise_iff_getElem.1 hn) j i hj2 hi2 hj ?_
  have e2 : (l.map TX.n)[i] = (l[i]).n := List.getElem_map _
  rw [e2]
  exact e
theorem row_parts {e : TypeId} {B : Nat} {W : World} {v : Value} {l : List Value} (h : OwR e B W v l) (h0 : 0 < l.length) : ∃ g cap, v = .slice (some ⟨g, 0, none⟩) l.length cap ∧ l.length ≤ cap ∧ cap ≤ maxLen := by
  rcases h.2 with ⟨_, h1⟩ | ⟨g, cap, cur, rfl, _, _, hnc, hcm, _, _⟩
  · omega
  · exact ⟨g, cap, rfl, hnc, hcm⟩
theorem foot_sub {jb : Nat} {mb : Option Nat} {ov ov' : Value} {l l' : List TX} (hov : ov'.ownBlock = ov.ownBlock) (hl : l'.Sublist l) : (foot jb mb ov' l').Sublist (foot jb mb ov l) := by
  unfold foot
  rw [hov]
  exact List.Sublist.cons_cons _ (List.Sublist.append (List.Sublist.refl _) (List.Sublist.append (List.Sublist.refl _) (hl.map _)))
/-- behind drop -/
theorem JInv.dropped {B jb m g cap : Nat} {W W1 W2 : World} {l : List TX} (J : JInv B W jb (some m) (.slice (some ⟨g, 0, none⟩) l.length cap) l) (i : Nat) (hi : i < l.length)
    (h1 : MapH .u64 22 W1 m (fun x => if x = (l[i]).n then none else txF l x) (l.length - 1)) (k1 : Kp [m] W W1)
    (h2 : OwR 22 B W2 (.slice (some ⟨g, 0, none⟩) (l.length - 1) cap) (((l.map TX.n).eraseIdx i).map V64)) (k2 : Kp [g] W1 W2) :
    JInv B (W2.setCell ⟨jb, 1, none⟩ (.slice (some ⟨g, 0, none⟩) (l.length - 1) cap)) jb (some m) (.slice (some ⟨g, 0, none⟩) (l.length - 1) cap) (l.eraseIdx i) ∧ Kp [jb, m, g] W (W2.setCell ⟨jb, 1, none⟩ (.slice (some ⟨g, 0, none⟩) (l.length - 1) cap)) := by
  obtain ⟨a1, a2, a3, a4, a5, a6, a7⟩ := J.apart
  have b1 := a1 m rfl
  have b2 := a2 g rfl
  have b4 := a4 m g rfl rfl
  have k3 := Kp.of_set W2 jb 1 (.slice (some ⟨g, 0, none⟩) (l.length - 1) cap)
  have kk : Kp [jb, m, g] W (W2.setCell ⟨jb, 1, none⟩ (.slice (some ⟨g, 0, none⟩) (l.length - 1) cap)) :=
    ((k1.mono (F' := [jb, m, g]) (by simp)).trans k2 (by simp)).trans k3 (by simp)
  have hsub : (l.eraseIdx i).Sublist l := List.eraseIdx_sublist l i
  have hlen : (l.eraseIdx i).length = l.length - 1 := List.length_eraseIdx_of_lt hi
  have hft := foot_sub (jb := jb) (mb := some m) (ov := .slice (some ⟨g, 0, none⟩) l.length cap) (ov' := .slice (some ⟨g, 0, none⟩) (l.length - 1) cap) rfl hsub
  refine ⟨⟨?_, ?_, (fun h => by cases h), fun m' hm => ?_, fun t ht => ?_, fun t ht => J.good t (hsub.subset ht), J.ns.sublist (hsub.map _), by rw [hlen]; have := J.len; omega, J.apart.sub rfl hsub, fun g' hg' => J.base g' (hft.subset hg')⟩, kk⟩
  · have c := ((J.cell.kp k1 (by simp; exact fun e => b1 e.symm)).kp k2 (by simp; exact fun e => b2 e.symm)).set 1 (.slice (some ⟨g, 0, none⟩) (l.length - 1) cap)
    exact c
  · have e : (l.eraseIdx i).map (fun t => V64 t.n) = ((l.map TX.n).eraseIdx i).map V64 := by
      rw [List.eraseIdx_eq_take_drop_succ, List.eraseIdx_eq_take_drop_succ, List.map_append, List.map_append, List.map_take, List.map_drop, List.map_take, List.map_drop, List.map_map]
      rfl
    rw [e]
    exact h2.kp k3 (fun g' hg' => by injection hg' with hg'; subst hg'; simp; exact b2)
  · injection hm with hm
    subst hm
    refine ((h1.kp k2 (by simp; exact b4)).kp k3 (by simp; exact b1)).congr (fun a _ => ?_) hlen.symm
    exact (txF_erase J.ns i hi a).symm
  · have ht' := hsub.subset ht
    exact (((J.tx t ht').kp k1 (by simp; exact fun e => a5 m t rfl ht' e.symm)).kp k2 (by simp; exact fun e => a6 g t rfl ht' e.symm)).kp k3 (by simp; exact a3 t ht')
set_option maxRecDepth 20000 in
set_option maxHeartbeats 1000000 in
theorem drop_any {B jb m : Nat} {W : World} {ov : Value} {l : List TX} (J : JInv B W jb (some m) ov l) (i : Nat) (hi : i < l.length) :
    Calls Try.prog 35 #[.pointer (some ⟨jb, 0, none⟩), V64 (l[i]).n] W fun e W' => e = .returned (.tuple #[]) ∧ ∃ ov', JInv B W' jb (some m) ov' (l.eraseIdx i) ∧ ov'.ownBlock = ov.ownBlock ∧ Kp (jb :: m :: ov.ownBlock.toList) W W' := by
  have hg0 : (l[i]).n < 4294967296 := (J.good _ (List.getElem_mem hi)).n
  obtain ⟨g, cap, rfl, hnc, hcm⟩ := row_parts J.own (by rw [List.length_map]; omega)
  rw [List.length_map] at hnc J ⊢
  obtain ⟨a1, a2, a3, a4, a5, a6, a7⟩ := J.apart
  have b1 := a1 m rfl
  have b2 := a2 g rfl
  have b4 := a4 m g rfl rfl
  have c0 : W.cell? ⟨jb, 0, none⟩ = some (.map (some m)) := by rw [J.cell.cell]; rfl
  have hfm := J.map m rfl
  have hsome : (txF l (l[i]).n).isSome = true := by rw [txF_at J.ns (List.getElem_mem hi)]; rfl
  have HJ := Lib.hid (And.intro J (And.intro hfm hsome))
  have hx : (l.map TX.n).getD i 0 = (l[i]).n := by
    have hi2 : i < (l.map TX.n).length := by rw [List.length_map]; omega
    rw [List.getD_eq_getElem?_getD, List.getElem?_eq_getElem hi2, List.getElem_map]
    rfl
  have HB := Lib.hid (nodup_before J.ns i hi)
  have HX := Lib.hid hx
  obtain ⟨n, hn⟩ : ∃ n, (l[i]).n = n := ⟨_, rfl⟩
  clear J hfm hx
  rw [hn] at hsome hg0 ⊢
  obtain ⟨W1, hrun, hm1, hgr⟩ := MapH.del Try.underlying22 (HJ.out.2.1) map_texts n (wf_n hg0) 0
  rw [if_pos hsome] at hm1
  have hdel : ∀ ty, (Builtin.delete_ #[38, 22] ty #[.map (some m), V64 n]).run Try.prog W = .ok (.tuple #[]) W1 := by
    intro ty
    exact hrun
  have k1 := Kp.of_grown hgr
  have J := HJ.out.1
  have c0' : W1.cell? ⟨jb, 0, none⟩ = some (.map (some m)) := by rw [(J.cell.kp k1 (by simp; exact fun e => b1 e.symm)).cell]; rfl
  have c1' : W1.cell? ⟨jb, 1, none⟩ = some (.slice (some ⟨g, 0, none⟩) l.length cap) := by rw [(J.cell.kp k1 (by simp; exact fun e => b1 e.symm)).cell]; rfl
  have hO1 := J.own.kp k1 (fun g' hg' => by injection hg' with hg'; subst hg'; simp; exact fun e => b4 e.symm)
  have hln : (l.map TX.n).length = l.length := List.length_map _
  have hcells : ∀ j, j < (l.map TX.n).length → W1.cell? ⟨g, j, none⟩ = some (V64 ((l.map TX.n).getD j 0)) := by
    intro j hj
    have hO2 := hO1
    rw [show (l.map fun t => V64 t.n) = (l.map TX.n).map V64 from by rw [List.map_map]; rfl] at hO2
    obtain ⟨g', cap', he, _, _, _, hcell, _⟩ := hO2.parts (by rw [List.length_map]; omega)
    injection he with he1 he2 he3
    injection he1 with he1
    injection he1 with he1
    subst he1
    rw [hcell j (by rw [List.length_map]; exact hj)]
    rw [List.getD_eq_getElem?_getD, List.getD_eq_getElem?_getD, List.getElem?_map, List.getElem?_eq_getElem hj]
    rfl
  have hX := HX.out
  rw [hn] at hX
  have hBf := HB.out
  rw [hn] at hBf
  have hidx := index_any (l.map TX.n) (by rw [hln]; have := J.len; omega) g cap W1 hcells n i (by rw [hln]; exact hi) hX hBf
  have hdl := delete_any (l.map TX.n) B g cap hcm W1 (by rw [hln]; exact hnc) (by
    have hO2 := hO1
    rw [show (l.map fun t => V64 t.n) = (l.map TX.n).map V64 from by rw [List.map_map]; rfl] at hO2
    rw [hln]
    exact hO2) i (by rw [hln]; exact hi)
  rw [hln] at hidx hdl
  have hi8 : (i : Int) ≤ 8 := by have := J.len; omega
  have HI := Lib.hid hidx
  have HD := Lib.hid hdl
  have H1 := Lib.hid (And.intro hm1 k1)
  have HN := Lib.hid hn
  clear hidx hdl hO1 hcells hX hBf hgr hm1 k1 J HX HB hln hrun hsome hn
  go_enter Try.func35, Try.ntmps35
  go_wp2_with (first
    | (go_at_call 40; refine HI.out.mono ?_; rintro e w1 ⟨rfl, rfl⟩)
    | fail)
  refine HD.out.mono ?_
  rintro e w2 ⟨rfl, h2, k2⟩
  have cc := HJ.out.1.cell.kp H1.out.2 (by simp; exact fun e => b1 e.symm)
  have cc2 := cc.kp k2 (by simp; exact fun e => b2 e.symm)
  have c1'' : w2.cell? ⟨jb, 1, none⟩ = some (.slice (some ⟨g, 0, none⟩) l.length cap) := by rw [cc2.cell]; rfl
  have f1'' := cc2.frozen 1
  have hm1 := H1.out.1
  rw [← HN.out] at hm1
  obtain ⟨jj, kk⟩ := HJ.out.1.dropped i hi hm1 H1.out.2 h2 k2
  have HR := Lib.hid (And.intro jj kk)
  clear cc cc2 c0' c1' HD HI h2 k2 jj kk hm1 H1 HJ HN
  go_wp2
  go_end0
  exact ⟨rfl, _, HR.out.1, rfl, HR.out.2⟩
end Go.Proofs.Ythpbhimmfmablaa
