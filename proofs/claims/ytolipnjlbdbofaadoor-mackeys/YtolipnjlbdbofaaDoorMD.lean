/- mac.Sum and mac.Root: a keyed sum, of keys and texts of up to 100000 bytes. Condition: the table of constants lies in memory as the program's text lays it. -/
import Derived.Test.YtolipnjlbdbofaaDoorMC
import Derived.Test.YtolipnjlbdbofaaDoorHR
namespace Go.Proofs.YtolipnjlbdbofaaDoor
open Go.RowKit
theorem cat_list (l : List UInt8) (s : ByteArray) : ((⟨l.toArray⟩ : ByteArray) ++ s).data.toList = l ++ s.data.toList := by rw [ByteArray.data_append, Array.toList_append]
theorem cat_size (l : List UInt8) (s : ByteArray) : ((⟨l.toArray⟩ : ByteArray) ++ s).size = l.length + s.size := by rw [ByteArray.size_append]; rfl
/-- zero bytes behind a text -/
def padS (k : ByteArray) (j : Nat) : ByteArray := ⟨(k.data.toList ++ List.replicate j 0).toArray⟩
theorem padS_zero (k : ByteArray) : padS k 0 = k := by
  unfold padS; apply ByteArray.ext; simp
theorem padS_size (k : ByteArray) (j : Nat) : (padS k j).size = k.size + j := by
  show (k.data.toList ++ List.replicate j 0).toArray.size = _
  simp
theorem padS_succ (k : ByteArray) (j : Nat) : padS k j ++ ⟨#[0]⟩ = padS k (j + 1) := by
  apply ByteArray.ext
  apply Array.toList_inj.1
  rw [ByteArray.data_append, Array.toList_append]
  show (k.data.toList ++ List.replicate j 0) ++ [0] = k.data.toList ++ List.replicate (j + 1) 0
  rw [List.replicate_succ', List.append_assoc]
/-- bytes in the midst of a block, as a text -/
theorem conv_range {w : World} {g o : Nat} {l : List UInt8} (h : w.rangeAt g o (l.map B8)) (cap n : Nat) (hn : l.length = n) :
    (convert 27 9 (.slice (some ⟨g, o, none⟩) n cap)).run Tryd.prog w = .ok (.string ⟨l.toArray⟩) w := by
  subst hn
  exact run_convert_bytes_back (P := Tryd.prog) w 27 9 5 ⟨g, o, none⟩ cap l Tryd.underlying27 Tryd.underlying5 Tryd.underlying9 (fun j hj => by
    rw [Addr.add_mid]
    exact h j _ (by rw [List.getElem?_map, List.getElem?_eq_getElem hj]; rfl))
/-- what memory holds in the midst of a keyed sum -/
def MEnv (w : World) (g5 g6 : Nat) (L K : List UInt8) (W : World) : Prop :=
  Has W w.heap.size 25 z32 ∧ Has W g5 45 (bs L) ∧ Has W g6 25 (bs K) ∧ HasK W ∧ Below w.heap.size w W
theorem MEnv.step {w : World} {g5 g6 : Nat} {L K : List UInt8} {W W' : World} (h : MEnv w g5 g6 L K W) (hb : Below W.heap.size W W') : MEnv w g5 g6 L K W' :=
  ⟨h.1.below hb h.1.lt, h.2.1.below hb h.2.1.lt, h.2.2.1.below hb h.2.2.1.lt, h.2.2.2.1.below h.2.2.2.1.lt hb, h.2.2.2.2.trans (hb.mono h.2.2.2.2.size)⟩
theorem MEnv.drew {w : World} {g5 g6 : Nat} {L K : List UInt8} {W : World} (h : MEnv w g5 g6 L K W) : MEnv w g5 g6 L K W.drew := ⟨h.1, h.2.1, h.2.2.1, h.2.2.2.1, h.2.2.2.2.drew⟩
theorem MEnv.held {w : World} {g5 g6 : Nat} {L K : List UInt8} {W : World} (h : MEnv w g5 g6 L K W) (hk : K.length = 32) :
    W.rangeAt g5 0 (L.map B8) ∧ (convert 27 9 (.slice (some ⟨g6, 0, none⟩) 32 32)).run Tryd.prog W = .ok (.string ⟨K.toArray⟩) W ∧ W.there w.heap.size 0 32 :=
  ⟨h.2.1.range, conv_bytes h.2.2.1 32 32 hk, h.1.there 32 (by unfold z32; rw [bs_size]; simp)⟩
theorem MEnv.put {w : World} {g5 g6 : Nat} {L K : List UInt8} {W : World} (h : MEnv w g5 g6 L K W) (h5 : w.heap.size < g5) (h6 : w.heap.size < g6) (hk : K.length = 32) (R : List UInt8) (hr : R.length = 32) :
    (W.setCells w.heap.size 0 (R.map B8)).rangeAt g5 0 (L.map B8) ∧ (convert 27 9 (.slice (some ⟨g6, 0, none⟩) 32 32)).run Tryd.prog (W.setCells w.heap.size 0 (R.map B8)) = .ok (.string ⟨K.toArray⟩) (W.setCells w.heap.size 0 (R.map B8)) ∧ (W.setCells w.heap.size 0 (R.map B8)).there w.heap.size 0 32 := by
  rw [setCells_bytes Tryd.prog h.1 R (by unfold z32; rw [bs_size, hr]; rfl)]
  exact ⟨(h.2.1.setRow_other (by omega) _).range, conv_bytes (h.2.2.1.setRow_other (by omega) _) 32 32 hk, (h.1.setRow _).there 32 (by rw [bs_size, hr]; exact Nat.le_refl _)⟩
set_option maxHeartbeats 1000000 in
theorem macSum_any (k s : ByteArray) (hk : k.size ≤ 100000) (hs : s.size ≤ 100000) (w : World) (hT : HasK w) :
    Calls Tryd.prog 10 #[.string k, .string s] w fun e w' => e = .returned (.agg (bs (hmacL k.data.toList s.data.toList))) ∧ Below w.heap.size w w' := by
  have hf := keyFilled_any k (by omega)
  have hR : hmacL k.data.toList s.data.toList = keyL (sumW (xorB (key64 k.data.toList) 92 ++ keyL (sumW (xorB (key64 k.data.toList) 54 ++ s.data.toList)))) := rfl
  have hLl := key64_length k.data.toList
  generalize key64 k.data.toList = L at hf hR hLl
  have c1 := madeOne_any L hLl 54
  have c2 := madeOne_any L hLl 92
  have hX1 : (xorB L 54).length = 64 := by rw [xorB_length, hLl]
  have hX2 : (xorB L 92).length = 64 := by rw [xorB_length, hLl]
  generalize xorB L 54 = X1 at c1 hR hX1
  generalize xorB L 92 = X2 at c2 hR hX2
  have s1 := sum_any (⟨X1.toArray⟩ ++ s) (by rw [cat_size]; omega)
  rw [cat_list] at s1
  have hK : (keyL (sumW (X1 ++ s.data.toList))).length = 32 := keyL_length _
  generalize keyL (sumW (X1 ++ s.data.toList)) = K at s1 hR hK
  have s2 := sum_any (⟨X2.toArray⟩ ++ ⟨K.toArray⟩) (by rw [cat_size, str_size]; omega)
  rw [cat_list, str_list] at s2
  have hRl : (keyL (sumW (X2 ++ K))).length = 32 := keyL_length _
  generalize keyL (sumW (X2 ++ K)) = R at s2 hR hRl
  have HF := Lib.hid hf
  have HR := Lib.hid hR
  have C1 := Lib.hid c1
  have C2 := Lib.hid c2
  have S1 := Lib.hid s1
  have S2 := Lib.hid s2
  have HL := Lib.hid hLl
  have HX := Lib.hid (And.intro hX1 hX2)
  have HKL := Lib.hid hK
  have HRL := Lib.hid hRl
  have hcat1 : ¬ (9223372036854775807 < X1.length + s.size) := by omega
  have hcat2 : ¬ (9223372036854775807 < X2.length + K.length) := by omega
  clear hf hR c1 c2 s1 s2 hLl hX1 hX2 hK hRl
  have hA : Has (w.alloc (.cells z32 25)) w.heap.size 25 z32 := Has.fresh w 25 _
  have hb : Below w.heap.size w (w.alloc (.cells z32 25)) := (Below.refl _ _).alloc (Nat.le_refl _) _
  go_enter Tryd.func10, Tryd.ntmps10
  go_wp2_with fail
  change Calls _ _ _ (w.alloc (.cells z32 25)) _
  generalize w.alloc (.cells z32 25) = wa at hA hb ⊢
  refine (HF.out _ (hT.below hT.lt hb)).mono ?_
  rintro e w1 ⟨rfl, hb1⟩
  replace hA := hA.below hb1 hA.lt
  replace hb := hb.trans (hb1.mono hb.size)
  clear hb1 wa HF
  have h5 : w.heap.size < w1.heap.size := hA.lt
  have hN : Has (w1.alloc (.cells z64 45)) w1.heap.size 45 z64 := Has.fresh w1 45 _
  go_upto_region 2 with
    (refine wpList_store_row rfl 45 (.tmp 5) (.tmp 8) rfl w1.heap.size (bs L) rfl rfl 45 z64 hN (info64 L HL.out) (z64_size L HL.out) (bs_one L) ?_)
  change Code.wp _ _ _ _ ((w1.alloc (.cells z64 45)).setRow w1.heap.size (bs L))
  have hB : Below w1.heap.size w1 ((w1.alloc (.cells z64 45)).setRow w1.heap.size (bs L)) := below_setRow ((Below.refl _ _).alloc (Nat.le_refl _) _) (Nat.le_refl _) _
  have hL2 := hN.setRow (bs L)
  clear hN
  generalize (w1.alloc (.cells z64 45)).setRow w1.heap.size (bs L) = wr at hB hL2 ⊢
  replace hA := hA.below hB hA.lt
  replace hb := hb.trans (hB.mono hb.size)
  clear hB
  generalize w1.heap.size = g5 at h5 hL2 ⊢
  clear w1
  go_wp2_with (refine wpList_load_row rfl 45 (.tmp 5) rfl g5 rfl 45 (bs L) (0, 0) _ hL2 Tryd.underlying45 rfl (info64 L HL.out) ?_)
  refine (C1.out _).mono ?_
  rintro e w2 ⟨rfl, hb1⟩
  replace hA := hA.below hb1 hA.lt
  replace hL2 := hL2.below hb1 hL2.lt
  replace hb := hb.trans (hb1.mono hb.size)
  clear hb1 wr C1
  go_wp2_with fail
  refine (S1.out _ (hT.below hT.lt hb)).mono ?_
  rintro e w3 ⟨rfl, hb1⟩
  replace hA := hA.below hb1 hA.lt
  replace hL2 := hL2.below hb1 hL2.lt
  replace hb := hb.trans (hb1.mono hb.size)
  clear hb1 w2 S1
  have h6 : w.heap.size < w3.heap.size := hA.lt
  have hN : Has (w3.alloc (.cells z32 25)) w3.heap.size 25 z32 := Has.fresh w3 25 _
  go_upto_region 3 with
    (refine wpList_store_row rfl 25 (.tmp 6) (.tmp 13) rfl w3.heap.size (bs K) rfl rfl 25 z32 hN (info32 K HKL.out) (z32_size K HKL.out) (bs_one K) ?_)
  change Code.wp _ _ _ _ ((w3.alloc (.cells z32 25)).setRow w3.heap.size (bs K))
  have hB : Below w3.heap.size w3 ((w3.alloc (.cells z32 25)).setRow w3.heap.size (bs K)) := below_setRow ((Below.refl _ _).alloc (Nat.le_refl _) _) (Nat.le_refl _) _
  have hK2 := hN.setRow (bs K)
  clear hN
  generalize (w3.alloc (.cells z32 25)).setRow w3.heap.size (bs K) = wr at hB hK2 ⊢
  replace hA := hA.below hB hA.lt
  replace hL2 := hL2.below hB hL2.lt
  replace hb := hb.trans (hB.mono hb.size)
  clear hB
  generalize w3.heap.size = g6 at h6 hK2 ⊢
  clear w3
  have E : MEnv w g5 g6 L K wr := ⟨hA, hL2, hK2, hT.below hT.lt hb, hb⟩
  clear hA hL2 hK2 hb
  replace E := E.drew
  have hu64 := Tryd.underlying45
  have hi64 : (Tryd.prog.info? 45).map (·.size) = some (L.map B8).length := by rw [List.length_map, HL.out]; kernel_rfl
  have hi32 : (Tryd.prog.info? 25).map (·.size) = some (R.map B8).length := by rw [List.length_map, HRL.out]; kernel_rfl
  have hl32 : (R.map B8).length = 32 := by rw [List.length_map, HRL.out]
  have ho32 := bl_one R
  go_region_held3 (fun w' => w'.rangeAt g5 0 (L.map B8) ∧ (convert 27 9 (.slice (some ⟨g6, 0, none⟩) 32 32)).run Tryd.prog w' = .ok (.string ⟨K.toArray⟩) w' ∧ w'.there w.heap.size 0 32)
    (first | exact E.held HKL.out | exact E.put h5 h6 HKL.out R HRL.out)
    (first
      | (go_at_call 22; refine (C2.out _).mono ?_; rintro e wq ⟨rfl, hbq⟩; replace E := E.step hbq)
      | (go_at_call 21; refine (S2.out _ E.2.2.2.1).mono ?_; rintro e wq ⟨rfl, hbq⟩; replace E := E.step hbq))
  rw [setCells_bytes Tryd.prog E.1 R (by unfold z32; rw [bs_size, HRL.out]; rfl)]
  go_wp2
  refine bodyPost_ret (v := .agg (bs R)) (results_cell_row rfl _ _ w.heap.size 25 (bs R) (0, 0) _ rfl (E.1.setRow _) Tryd.underlying25 rfl (info32 R HRL.out)) rfl ⟨by rw [HR.out], below_setRow E.2.2.2.2 (Nat.le_refl _) _⟩
set_option maxHeartbeats 400000 in
theorem macRoot_any (k s : ByteArray) (hk : k.size ≤ 100000) (hs : s.size ≤ 100000) (w : World) (hT : HasK w) :
    Calls Tryd.prog 13 #[.string k, .string s] w fun e w' => e = .returned (.agg (bs (hmacL k.data.toList s.data.toList))) ∧ Below w.heap.size w w' := by
  have hc := macSum_any k s hk hs
  have hl := hmacL_length k.data.toList s.data.toList
  generalize hmacL k.data.toList s.data.toList = R at hc hl ⊢
  have HC := Lib.hid hc
  have HL := Lib.hid hl
  clear hc hl
  have hA : Has (w.alloc (.cells z32 25)) w.heap.size 25 z32 := Has.fresh w 25 _
  have hb : Below w.heap.size w (w.alloc (.cells z32 25)) := (Below.refl _ _).alloc (Nat.le_refl _) _
  go_enter Tryd.func13, Tryd.ntmps13
  go_wp2_with fail
  change Calls _ _ _ (w.alloc (.cells z32 25)) _
  generalize w.alloc (.cells z32 25) = wa at hA hb ⊢
  refine (HC.out _ (hT.below hT.lt hb)).mono ?_
  rintro e w1 ⟨rfl, hb1⟩
  replace hA := hA.below hb1 hA.lt
  replace hb := hb.trans (hb1.mono hb.size)
  clear hb1 wa HC
  go_wp2_with (refine wpList_store_row rfl 25 (.tmp 4) (.tmp 7) rfl w.heap.size (bs R) rfl rfl 25 z32 hA (info32 R HL.out) (z32_size R HL.out) (bs_one R) ?_)
  refine bodyPost_ret (v := .agg (bs R)) (results_cell_row rfl _ _ w.heap.size 25 (bs R) (0, 0) _ rfl (hA.setRow _) Tryd.underlying25 rfl (info32 R HL.out)) rfl ⟨rfl, below_setRow hb (Nat.le_refl _) _⟩
end Go.Proofs.YtolipnjlbdbofaaDoor
