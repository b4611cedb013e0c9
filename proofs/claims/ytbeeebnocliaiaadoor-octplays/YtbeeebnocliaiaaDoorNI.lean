/- The document's ReadIp: walked. -/
import Derived.Test.YtbeeebnocliaiaaDoorNH
namespace Go.Proofs.YtbeeebnocliaiaaDoor
open Go.RowKit
/-- a decimal digit -/
def isDg (c : UInt8) : Prop := 48 ≤ c.toNat ∧ c.toNat ≤ 57
/-- the number that digits write -/
def decV (l : List UInt8) : Nat := l.foldl (fun a c => 10 * a + (c.toNat - 48)) 0
theorem decV_snoc (l : List UInt8) (c : UInt8) : decV (l ++ [c]) = 10 * decV l + (c.toNat - 48) := by
  unfold decV; rw [List.foldl_append]; rfl
theorem decV_dec3 : ∀ n, n < 256 → decV (dec3 n) = n := by decide +kernel
theorem dec3_dg : ∀ n, n < 256 → ∀ c ∈ dec3 n, 48 ≤ c.toNat ∧ c.toNat ≤ 57 := by decide +kernel
theorem decV_decL (b : UInt8) : decV (decL b) = b.toNat := by rw [decL_eq]; exact decV_dec3 _ b.toNat_lt
theorem decL_dg (b : UInt8) : ∀ c ∈ decL b, isDg c := by rw [decL_eq]; exact dec3_dg _ b.toNat_lt
theorem ipL_cons (b : UInt8) (m : List UInt8) : ipL (b :: m) = decL b ++ (if m = [] then [] else 46 :: ipL m) := by
  cases m with
  | nil => rw [if_pos rfl, List.append_nil]; exact Lib.join_one _ _
  | cons c m => rw [if_neg (by simp)]; unfold ipL; rw [List.map_cons, List.map_cons, join_two]; rfl
/-- j digits stand ahead, and no more are to be taken -/
def Scan (r : List UInt8) (j : Nat) : Prop := j ≤ 3 ∧ j ≤ r.length ∧ (∀ i, i < j → isDg (r.getD i 0)) ∧ (j = 3 ∨ j = r.length ∨ ¬ isDg (r.getD j 0))
theorem scan_is {r : List UInt8} {j : Nat} (h : Scan r j) (b : UInt8) (t : List UInt8) (ht : t = [] ∨ ∃ t', t = 46 :: t') (e : r = decL b ++ t) : r.take j = decL b ∧ r.drop j = t := by
  obtain ⟨h1, h2, h3, h4⟩ := h
  obtain ⟨d1, d3⟩ := decL_length b
  have hdg := decL_dg b
  generalize decL b = d at e d1 d3 hdg ⊢
  have hj : j = d.length := by
    rcases Nat.lt_trichotomy j d.length with hlt | heq | hgt
    · exfalso
      rcases h4 with h4 | h4 | h4
      · omega
      · rw [e, List.length_append] at h4; omega
      · apply h4
        rw [e, List.getD_eq_getElem?_getD, List.getElem?_append_left hlt, List.getElem?_eq_getElem hlt]
        exact hdg _ (List.getElem_mem hlt)
    · exact heq
    · exfalso
      have h5 := h3 d.length hgt
      rw [e, List.getD_eq_getElem?_getD, List.getElem?_append_right (Nat.le_refl _), Nat.sub_self] at h5
      rcases ht with rfl | ⟨t', rfl⟩
      · exact absurd (h5.1 : 48 ≤ (0 : UInt8).toNat) (by decide)
      · have h6 : 48 ≤ (46 : UInt8).toNat := h5.1
        exact absurd h6 (by decide)
  rw [e, hj]
  exact ⟨List.take_left' rfl, List.drop_left' rfl⟩
/-- what was read of a text so far, and what still stands -/
structure RdIp (L : List UInt8) (k p : Nat) (l : List UInt8) : Prop where
  len : l.length = k
  le : k ≤ 4
  at' : p ≤ L.length
  fwd : ∀ l' : List UInt8, l'.length = 4 → L = ipL l' → ∃ m, l' = l ++ m ∧ L.drop p = ipL m
  back : ∀ m : List UInt8, m.length = 4 - k → L.drop p = ipL m → L = ipL (l ++ m)
theorem RdIp.zero (L : List UInt8) : RdIp L 0 0 [] := ⟨rfl, by omega, by omega, fun l' _ e => ⟨l', rfl, e⟩, fun m _ e => e⟩
theorem RdIp.split {L : List UInt8} {k p : Nat} {l : List UInt8} (h : RdIp L k p l) (hk : k < 4) {j : Nat} (hS : Scan (L.drop p) j) (l' : List UInt8) (hl' : l'.length = 4) (e : L = ipL l') :
    ∃ b m, l' = l ++ b :: m ∧ m.length = 3 - k ∧ (L.drop p).take j = decL b ∧ (L.drop p).drop j = (if m = [] then [] else 46 :: ipL m) := by
  obtain ⟨m, hm, hd⟩ := h.fwd l' hl' e
  have hlen : m.length = 4 - k := by
    have := congrArg List.length hm
    rw [List.length_append, h.len, hl'] at this
    omega
  cases m with
  | nil => exfalso; rw [List.length_nil] at hlen; omega
  | cons b m =>
    rw [List.length_cons] at hlen
    rw [ipL_cons] at hd
    refine ⟨b, m, hm, by omega, scan_is hS b _ ?_ hd⟩
    by_cases h0 : m = []
    · rw [if_pos h0]; exact Or.inl rfl
    · rw [if_neg h0]; exact Or.inr ⟨_, rfl⟩
theorem rd_fail {L : List UInt8} {k p : Nat} {l : List UInt8} (h : RdIp L k p l) (hk : k < 4) {j : Nat} (hS : Scan (L.drop p) j)
    (hbad : j = 0 ∨ 255 < decV ((L.drop p).take j) ∨ dec3 (decV ((L.drop p).take j)) ≠ (L.drop p).take j) : ∀ l' : List UInt8, l'.length = 4 → L ≠ ipL l' := by
  intro l' hl' e
  obtain ⟨b, m, _, _, ht, _⟩ := h.split hk hS l' hl' e
  have hb := b.toNat_lt
  rcases hbad with hb0 | hb1 | hb2
  · rw [hb0] at ht
    have := congrArg List.length ht
    have h1 := (decL_length b).1
    rw [List.take_zero] at this
    have h0 : ([] : List UInt8).length = 0 := rfl
    omega
  · rw [ht, decV_decL] at hb1; omega
  · rw [ht, decV_decL] at hb2; exact hb2 (decL_eq b).symm
theorem rd_fail2 {L : List UInt8} {k p : Nat} {l : List UInt8} (h : RdIp L k p l) (hk : k < 3) {j : Nat} (hS : Scan (L.drop p) j)
    (hbad : L.length ≤ p + j ∨ L.getD (p + j) 0 ≠ 46) : ∀ l' : List UInt8, l'.length = 4 → L ≠ ipL l' := by
  intro l' hl' e
  obtain ⟨b, m, _, hm, _, hd⟩ := h.split (by omega) hS l' hl' e
  have h0 : m ≠ [] := fun h => by
    rw [h] at hm
    have h0 : ([] : List UInt8).length = 0 := rfl
    omega
  rw [if_neg h0, List.drop_drop] at hd
  rcases hbad with hb | hb
  · rw [List.drop_eq_nil_of_le hb] at hd; exact absurd hd (by simp)
  · have := congrArg (fun x => x.getD 0 0) hd
    simp only [List.getD_eq_getElem?_getD, List.getElem?_drop, Nat.add_zero] at this
    rw [List.getD_eq_getElem?_getD] at hb
    exact hb this
theorem rd_next {L : List UInt8} {k p : Nat} {l : List UInt8} (h : RdIp L k p l) (hk : k < 3) {j : Nat} (hS : Scan (L.drop p) j)
    (b : UInt8) (hb : (L.drop p).take j = decL b) (hp : p + j < L.length) (hm : L.getD (p + j) 0 = 46) : RdIp L (k + 1) (p + j + 1) (l ++ [b]) := by
  refine ⟨by rw [List.length_append, h.len]; rfl, by omega, by omega, ?_, ?_⟩
  · intro l' hl' e
    obtain ⟨b', m, hl, hml, ht, hd⟩ := h.split (by omega) hS l' hl' e
    have hbb : b = b' := decL_inj (hb.symm.trans ht)
    have h0 : m ≠ [] := fun h => by
      rw [h] at hml
      have h0 : ([] : List UInt8).length = 0 := rfl
      omega
    rw [if_neg h0, List.drop_drop] at hd
    refine ⟨m, by rw [hl, hbb, List.append_assoc]; rfl, ?_⟩
    have := congrArg (fun x => x.drop 1) hd
    simp only [List.drop_drop] at this
    exact this
  · intro m hml hd
    have e : L.drop p = ipL (b :: m) := by
      rw [ipL_cons, if_neg (fun h => by
        rw [h] at hml
        have h0 : ([] : List UInt8).length = 0 := rfl
        omega), ← hb, ← hd]
      have h46 : L[p + j] = 46 := by
        rw [List.getD_eq_getElem?_getD, List.getElem?_eq_getElem hp] at hm
        exact hm
      have h2 : (L.drop p).drop j = 46 :: L.drop (p + j + 1) := by
        rw [List.drop_drop, List.drop_eq_getElem_cons hp, h46]
      rw [← h2, List.take_append_drop]
    have := h.back (b :: m) (by rw [List.length_cons, hml]; omega) e
    rw [this, List.append_assoc]
    rfl
theorem rd_last {L : List UInt8} {p : Nat} {l : List UInt8} (h : RdIp L 3 p l) {j : Nat} (hS : Scan (L.drop p) j)
    (b : UInt8) (hb : (L.drop p).take j = decL b) (hp : p + j ≤ L.length) : RdIp L 4 (p + j) (l ++ [b]) := by
  refine ⟨by rw [List.length_append, h.len]; rfl, by omega, hp, ?_, ?_⟩
  · intro l' hl' e
    obtain ⟨b', m, hl, hml, ht, hd⟩ := h.split (by omega) hS l' hl' e
    have hbb : b = b' := decL_inj (hb.symm.trans ht)
    have h0 : m = [] := List.length_eq_zero_iff.1 (by omega)
    rw [if_pos h0, List.drop_drop] at hd
    exact ⟨m, by rw [hl, hbb, List.append_assoc]; rfl, by rw [hd, h0]; rfl⟩
  · intro m hml hd
    have h0 : m = [] := List.length_eq_zero_iff.1 (by omega)
    have e : L.drop p = ipL [b] := by
      rw [ipL_cons, if_pos rfl, List.append_nil, ← hb]
      have h2 : (L.drop p).drop j = [] := by rw [List.drop_drop, hd, h0]; rfl
      have h3 := List.take_append_drop j (L.drop p)
      rw [h2, List.append_nil] at h3
      exact h3.symm
    have := h.back [b] rfl e
    rw [this, h0, List.append_nil]
theorem rd_end {L : List UInt8} {p : Nat} {l : List UInt8} (h : RdIp L 4 p l) (hp : p = L.length) : L = ipL l := by
  have := h.back [] rfl (by rw [hp, List.drop_length]; rfl)
  rw [List.append_nil] at this
  exact this
theorem rd_long {L : List UInt8} {p : Nat} {l : List UInt8} (h : RdIp L 4 p l) (hp : p ≠ L.length) : ∀ l' : List UInt8, l'.length = 4 → L ≠ ipL l' := by
  intro l' hl' e
  obtain ⟨m, hm, hd⟩ := h.fwd l' hl' e
  have h0 : m = [] := List.length_eq_zero_iff.1 (by
    have := congrArg List.length hm
    rw [List.length_append, h.len, hl'] at this
    omega)
  rw [h0] at hd
  have := congrArg List.length hd
  rw [List.length_drop] at this
  have h1 : (ipL []).length = 0 := rfl
  have := h.at'
  omega
theorem dec3_ofNat (n : Nat) (h : n < 256) : decL (UInt8.ofNat n) = dec3 n := by
  rw [decL_eq, UInt8.toNat_ofNat']
  congr 1
  omega
theorem refIpInfo (l : List UInt8) (h : l.length = 4) : (Tryd.prog.info? 25).map (·.size) = some (bs l).size := by
  rw [bs_size, h]; kernel_rfl
theorem seg_extract (s : ByteArray) (p q : Nat) : (s.extract p q).data.toList = (s.data.toList.drop p).take (q - p) := by
  rw [ByteArray.data_extract, Array.toList_extract, List.extract_eq_take_drop]
/-- what memory holds while the document reads an address -/
structure JEnv7 (w : World) (l : List UInt8) (W : World) : Prop where
  h0 : Has W w.heap.size 25 z4
  h1 : Has W (w.heap.size + 1) 25 (bs (l ++ (List.replicate 4 0).drop l.length))
  below : Below w.heap.size w W
set_option maxRecDepth 20000 in
set_option maxHeartbeats 8000000 in
theorem refReadIp_any (s : ByteArray) (hs : s.size ≤ 1000000) (w : World) :
    Calls Tryd.prog 18 #[.string s] w fun e w' => Below w.heap.size w w' ∧
      ((∃ l : List UInt8, l.length = 4 ∧ s.data.toList = ipL l ∧ e = .returned (.tuple #[.agg (bs l), .bool true])) ∨
        ((∀ l : List UInt8, l.length = 4 → s.data.toList ≠ ipL l) ∧ e = .returned (.tuple #[.agg z4, .bool false]))) := by
  have a0 := Has.fresh w 25 z4
  have a1 := Has.fresh (w.alloc (.cells z4 25)) 25 z4
  rw [World.size_alloc] at a1
  have hb0 : Below w.heap.size w ((w.alloc (.cells z4 25)).alloc (.cells z4 25)) := ((Below.refl _ _).alloc (Nat.le_refl _) _).alloc (by simp) _
  have E : JEnv7 w [] ((w.alloc (.cells z4 25)).alloc (.cells z4 25)) := ⟨a0.alloc _, a1, hb0⟩
  have hi := Lib.hid refIpInfo
  clear a0 a1 hb0
  go_enter Tryd.func18, Tryd.ntmps18
  go_upto_region 2 with fail
  change Code.wp _ _ _ _ ((w.alloc (.cells z4 25)).alloc (.cells z4 25))
  generalize (w.alloc (.cells z4 25)).alloc (.cells z4 25) = w0 at E ⊢
  go_wp2
  go_loopw [5, 6] (fun av iv wr => ∃ (k p : Nat) (l : List UInt8), av = .int .i64 (p : Int) ∧ iv = .int .i64 (k : Int) ∧ Hid (RdIp s.data.toList k p l) ∧ JEnv7 w l wr) (fun _ iv _ => 4 - (intOf iv).toNat)
  case atStart => exact ⟨0, 0, [], rfl, rfl, Lib.hid (RdIp.zero _), E⟩
  case round =>
    clear E w0
    obtain ⟨k, p, l, rfl, rfl, hI, E⟩ := hrel
    have hps : p ≤ s.size := hI.out.at'
    have hk' := hI.out.le
    by_cases hk4 : k < 4
    · have t4 : decide ((k : Int) < 4) = true := by simp; omega
      have hst0 : Hid ((0 : Nat) = decV ((s.data.toList.drop p).take 0)) := Lib.hid (by rw [List.take_zero]; rfl)
      go_wp2
      go_loopw [5, 7] (fun av nv wr => ∃ (j v q : Nat), av = .int .i64 (q : Int) ∧ nv = .int .i64 (v : Int) ∧ Hid (q = p + j) ∧ j ≤ 3 ∧ q ≤ s.size ∧ v < 10 ^ j ∧ Hid (v = decV ((s.data.toList.drop p).take j)) ∧ Hid (∀ i, i < j → isDg ((s.data.toList.drop p).getD i 0)) ∧ JEnv7 w l wr) (fun av _ _ => p + 3 - (intOf av).toNat)
      case atStart => exact ⟨0, 0, p, by go_num, by go_num, Lib.hid rfl, by omega, hps, by omega, hst0, Lib.hid (fun i h => by omega), E⟩
      case round =>
        clear E hst0
        obtain ⟨j, v, q, rfl, rfl, HQ, hj3, hqs, hv10, hv, hscan, E⟩ := hrel
        have hv3 : v < 1000 := Nat.lt_of_lt_of_le hv10 (Nat.pow_le_pow_right (by omega) hj3 : 10 ^ j ≤ 10 ^ 3)
        have hlen : (s.data.toList.drop p).length = s.size - p := by rw [List.length_drop]; rfl
        have hqa : q ≤ p + j := Nat.le_of_eq HQ.out
        have hqb : p + j ≤ q := Nat.le_of_eq HQ.out.symm
        have hgd : (s.data.toList.drop p).getD j 0 = bAt s q := by
          rw [HQ.out, List.getD_eq_getElem?_getD, List.getElem?_drop, ← List.getD_eq_getElem?_getD]; rfl
        by_cases hql0 : q < s.size
        · have t1 : decide ((q : Int) < (s.size : Int)) = true := by simp; omega
          have iq0 : (q : Int) < (s.size : Int) := by omega
          have eq0 := bAt_eq s q hql0
          obtain ⟨c, hcq⟩ : ∃ c, bAt s q = c := ⟨_, rfl⟩
          rw [hcq] at eq0 hgd
          have hc256 := c.toNat_lt
          by_cases hg1 : 48 ≤ c.toNat
          · have g1 : decide ((48 : Int) ≤ (c.toNat : Int)) = true := by simp; omega
            by_cases hg2 : c.toNat ≤ 57
            · have g2 : decide ((c.toNat : Int) ≤ 57) = true := by simp; omega
              by_cases hg3 : j < 3
              · have g3 : decide ((q : Int) < (p : Int) + 3) = true := by simp; omega
                have hlt : j < (s.data.toList.drop p).length := by omega
                have hv' : 10 * v + (c.toNat - 48) = decV ((s.data.toList.drop p).take (j + 1)) := by
                  rw [List.take_succ_eq_append_getElem hlt, decV_snoc, ← hv.out]
                  have : (s.data.toList.drop p)[j] = c := by
                    rw [← hgd, List.getD_eq_getElem?_getD, List.getElem?_eq_getElem hlt]; rfl
                  rw [this]
                have hsc' : ∀ i, i < j + 1 → isDg ((s.data.toList.drop p).getD i 0) := fun i hi => by
                  rcases Nat.lt_or_ge i j with h | h
                  · exact hscan.out i h
                  · have : i = j := by omega
                    rw [this, hgd]
                    exact ⟨hg1, hg2⟩
                have HV := Lib.hid hv'
                have HSC := Lib.hid hsc'
                have hv1 : 10 * v + (c.toNat - 48) < 10 ^ (j + 1) := by rw [Nat.pow_succ]; omega
                have HV1 := Lib.hid hv1
                clear hv1 hv' hsc' hv hscan hgd hlen hlt hcq
                obtain ⟨v', hv'⟩ : ∃ v', 10 * v + (c.toNat - 48) = v' := ⟨_, rfl⟩
                rw [hv'] at HV HV1
                go_wp2
                exact ⟨⟨j + 1, v', q + 1, by go_num, by go_num, Lib.hid (by omega), by omega, by omega, HV1.out, HV, HSC, E⟩, by simp [intOf]; omega⟩
              · have g3 : decide ((q : Int) < (p : Int) + 3) = false := by simp; omega
                have hS : Scan (s.data.toList.drop p) j := ⟨hj3, by omega, hscan.out, Or.inl (by omega)⟩
                have HSC := Lib.hid hS
                have hcv := hI.out
                clear hscan hS
                by_cases hj0 : j = 0
                · omega
                · have nqp : ¬ ((q : Int) = (p : Int)) := by omega
                  by_cases h255 : 255 < v
                  · have hno := rd_fail hcv hk4 HSC.out (Or.inr (Or.inl (by rw [← hv.out]; exact h255)))
                    have HNO := Lib.hid hno
                    clear hno hcv
                    have tv : decide ((255 : Int) < (v : Int)) = true := by simp; omega
                    go_upto_region 10 with fail
                    refine wp_region_noPanic ?_
                    refine wp_region_flow (fin := ?fin1) 16 0 (by kernel_rfl) [.inl (.int .i64 (q : Int)),
                      .inl (.int .i64 (p : Int)),
                      .inl (.bool false),
                      .inl (.bool false),
                      .inl (.int .i64 (v : Int)),
                      .inl (.bool true),
                      .inl (.bool true),
                      .inl (.bool true),
                      .inl undef,
                      .inl undef,
                      .inl undef,
                      .inl undef,
                      .inl undef,
                      .inl undef,
                      .inl undef,
                      .inl (.bool true)] rfl rfl (by kernel_rfl) ?hfin1 ?hE1 ?hend1
                    case hfin1 =>
                      intro G
                      simp only [flowAll, flowVal, Act.put, List.setIfInBounds_toArray, List.set_cons_zero, List.set_cons_succ]
                      exact rfl
                    case hE1 =>
                      intro G
                      refine ⟨Or.inr (fun W hB => known_val rfl (by go_simp)),
                        Or.inr (fun W hB => known_val rfl (by go_simp)),
                        Or.inr (fun W hB => known_val rfl (by go_simp)),
                        Or.inr (fun W hB => known_val rfl (by go_simp)),
                        Or.inr (fun W hB => known_val rfl (by go_simp)),
                        Or.inr (fun W hB => known_val rfl (by go_simp)),
                        Or.inr (fun W hB => known_val rfl (by go_simp)),
                        Or.inr (fun W hB => known_val rfl (by go_simp)),
                        Or.inr (fun W hB => Or.inr ⟨rfl, rfl⟩),
                        Or.inr (fun W hB => Or.inr ⟨rfl, rfl⟩),
                        Or.inr (fun W hB => Or.inr ⟨rfl, rfl⟩),
                        Or.inr (fun W hB => Or.inr ⟨rfl, rfl⟩),
                        Or.inr (fun W hB => Or.inr ⟨rfl, rfl⟩),
                        Or.inr (fun W hB => Or.inr ⟨rfl, rfl⟩),
                        Or.inr (fun W hB => Or.inr ⟨rfl, rfl⟩),
                        Or.inr (fun W hB => known_val rfl (by go_simp)), trivial⟩
                    intro G W hB hM
                    replace E : JEnv7 w l W := ⟨E.h0.below (drewB hB) E.h0.lt, E.h1.below (drewB hB) E.h1.lt, E.below.trans ((drewB hB).mono E.below.size)⟩
                    clear hM hB G
                    refine wpAny_end (by kernel_rfl) ?_ _
                    refine NoPanic.normal ?_
                    have c0 := E.h0.byte 0 (by show 0 < 4; omega)
                    have c1 := E.h0.byte 1 (by show 1 < 4; omega)
                    have c2 := E.h0.byte 2 (by show 2 < 4; omega)
                    have c3 := E.h0.byte 3 (by show 3 < 4; omega)
                    have f0 := E.h0.frozen 0
                    have f1 := E.h0.frozen 1
                    have f2 := E.h0.frozen 2
                    have f3 := E.h0.frozen 3
                    have HEV := Lib.hid E
                    clear E
                    go_wp2
                    refine bodyPost_ret (v := .tuple #[.agg z4, .bool false]) (results_row_tmp (fn := Tryd.f18) (p := 2) (u := 3) (ty := 25) rfl _ _ w.heap.size 25 z4 (0, 0) _ rfl (((((HEV.out.h0).setB 0 0).setB 1 0).setB 2 0).setB 3 0) Tryd.underlying25 rfl (hi.out [0, 0, 0, 0] rfl)) rfl ⟨?_, Or.inr ⟨HNO.out, rfl⟩⟩
                    exact ((((HEV.out.below).setCell (p := ⟨w.heap.size, 0, none⟩) (Nat.le_refl _) (B8 0)).setCell (p := ⟨w.heap.size, 1, none⟩) (Nat.le_refl _) (B8 0)).setCell (p := ⟨w.heap.size, 2, none⟩) (Nat.le_refl _) (B8 0)).setCell (p := ⟨w.heap.size, 3, none⟩) (Nat.le_refl _) (B8 0)
                  · have tv : decide ((255 : Int) < (v : Int)) = false := by simp; omega
                    have hdec := fun W => dec_any v hv3 W
                    have hdv : dec3 v = dec3 (decV ((s.data.toList.drop p).take j)) := by rw [← hv.out]
                    have hseg0 : (s.data.toList.drop p).take j = (s.extract p q).data.toList := by rw [seg_extract, HQ.out]; congr 1; omega
                    have hstr := str_is (s := s.extract p q) rfl
                    have hofN := dec3_ofNat v (by omega)
                    have hbN : (UInt8.ofNat v).toNat = v := by rw [UInt8.toNat_ofNat']; omega
                    obtain ⟨D, hD⟩ : ∃ D, dec3 v = D := ⟨_, rfl⟩
                    obtain ⟨seg, hseg⟩ : ∃ seg, (s.extract p q).data.toList = seg := ⟨_, rfl⟩
                    obtain ⟨b, hbd⟩ : ∃ b, UInt8.ofNat v = b := ⟨_, rfl⟩
                    rw [hseg] at hstr hseg0
                    rw [hD] at hofN hdv hdec
                    rw [hbd] at hofN hbN
                    have HDEC := Lib.hid hdec
                    have HD := Lib.hid (And.intro hD (And.intro hseg hbd))
                    have HSEG0 := Lib.hid hseg0
                    have HOF := Lib.hid hofN
                    clear hD hseg hbd hdec hofN
                    have ipq1 : (0 : Int) ≤ (p : Int) := by omega
                    have ipq2 : (p : Int) ≤ (q : Int) := by omega
                    have ipq3 : (q : Int) ≤ (s.size : Int) := by omega
                    by_cases hDs : D = seg
                    · have tD : (D == seg) = true := by rw [hDs]; exact beq_self_eq_true _
                      have hbs : (s.data.toList.drop p).take j = decL b := by rw [HSEG0.out, HOF.out, hDs]
                      have HBS := Lib.hid hbs
                      have HCV := Lib.hid hcv
                      clear hbs hcv hseg0 hdv
                      have tDn : (D != seg) = false := by rw [hDs]; simp
                      go_upto_region 10 with fail
                      refine wp_region_noPanic ?_
                      refine wp_region_flow (fin := ?fin2) 16 0 (by kernel_rfl) [.inl (.int .i64 (q : Int)),
                        .inl (.int .i64 (p : Int)),
                        .inl (.bool false),
                        .inl (.bool false),
                        .inl (.int .i64 (v : Int)),
                        .inl (.bool false),
                        .inl (.bool false),
                        .inl (.bool false),
                        .inl (.int .i64 (v : Int)),
                        .inl (S9 D),
                        .inl (.string s),
                        .inl (.int .i64 (p : Int)),
                        .inl (.int .i64 (q : Int)),
                        .inl (S9 seg),
                        .inl (.bool false),
                        .inl (.bool false)] rfl rfl (by kernel_rfl) ?hfin2 ?hE2 ?hend2
                      case hfin2 =>
                        intro G
                        simp only [flowAll, flowVal, Act.put, List.setIfInBounds_toArray, List.set_cons_zero, List.set_cons_succ]
                        exact rfl
                      case hE2 =>
                        intro G
                        refine ⟨Or.inr (fun W hB => known_val rfl (by go_simp)),
                          Or.inr (fun W hB => known_val rfl (by go_simp)),
                          Or.inr (fun W hB => known_val rfl (by go_simp)),
                          Or.inr (fun W hB => known_val rfl (by go_simp)),
                          Or.inr (fun W hB => known_val rfl (by go_simp)),
                          Or.inr (fun W hB => known_val rfl (by go_simp)),
                          Or.inr (fun W hB => known_val rfl (by go_simp)),
                          Or.inr (fun W hB => known_val rfl (by go_simp)),
                          Or.inr (fun W hB => known_val rfl (by go_simp)),
                          Or.inr (fun W hB => known_call 30 #[.int .i64 (v : Int)] (HDEC.out W) rfl (by go_simp)),
                          Or.inr (fun W hB => known_val rfl (by go_simp)),
                          Or.inr (fun W hB => known_val rfl (by go_simp)),
                          Or.inr (fun W hB => known_val rfl (by go_simp)),
                          Or.inr (fun W hB => known_val rfl (by go_simp)),
                          Or.inr (fun W hB => known_val rfl (by go_simp)),
                          Or.inr (fun W hB => known_val rfl (by go_simp)), trivial⟩
                      intro G W hB hM
                      replace E : JEnv7 w l W := ⟨E.h0.below (drewB hB) E.h0.lt, E.h1.below (drewB hB) E.h1.lt, E.below.trans ((drewB hB).mono E.below.size)⟩
                      clear hM hB G
                      refine wpAny_end (by kernel_rfl) ?_ _
                      refine NoPanic.normal ?_
                      clear hstr tD tDn
                      clear eq0 hgd hcq
                      have hll := HCV.out.len
                      have hb8 : (v : Int) = (b.toNat : Int) := by omega
                      rw [hb8]
                      by_cases hk3 : k < 3
                      · have t3 : decide ((k : Int) < 3) = true := by simp; omega
                        have hql : q < s.size := hql0
                        have tl : decide ((s.size : Int) ≤ (q : Int)) = false := by simp; omega
                        have iq : (q : Int) < (s.size : Int) := by omega
                        have eq := bAt_eq s q hql
                        have hbq : bAt s q = s.data.toList.getD q 0 := rfl
                        by_cases h46 : bAt s q = 46
                        · rw [h46] at eq
                          have hn := rd_next HCV.out hk3 HSC.out b HBS.out (by rw [← HQ.out]; exact hql) (by rw [← HQ.out, ← hbq]; exact h46)
                          rw [← HQ.out] at hn
                          have HN := Lib.hid hn
                          clear hn hbq h46
                          have hput := E.h1.setB k b
                          have hcell := E.h1.byte k (by rw [List.length_append, List.length_drop, List.length_replicate]; omega)
                          have hfro := E.h1.frozen k
                          have hsn := set_next l (List.replicate 4 0) 4 rfl (by omega) b
                          rw [hll] at hsn hput
                          rw [hsn] at hput
                          have hE' : JEnv7 w (l ++ [b]) (W.setCell ⟨w.heap.size + 1, k, none⟩ (B8 b)) := ⟨E.h0.other (by show w.heap.size ≠ w.heap.size + 1; omega) _, hput, E.below.setCell (by show w.heap.size ≤ w.heap.size + 1; omega) _⟩
                          have HE' := Lib.hid hE'
                          generalize (l ++ List.drop l.length (List.replicate 4 0)).getD k 0 = old at hcell
                          clear hput hsn E
                          go_wp2
                          exact ⟨⟨k + 1, q + 1, l ++ [b], by go_num, by go_num, HN.out, HE'.out⟩, by simp [intOf]; omega⟩
                        · have hno := rd_fail2 HCV.out hk3 HSC.out (Or.inr (by rw [← HQ.out, ← hbq]; exact h46))
                          have HNO := Lib.hid hno
                          have tz : (((bAt s q).toNat : Int) != 46) = true := by
                            rw [bne_iff_ne]
                            intro h
                            exact h46 (UInt8.toNat_inj.1 (by show (bAt s q).toNat = 46; omega))
                          generalize bAt s q = z at tz eq
                          clear hno hbq h46
                          have hput := E.h1.setB k b
                          have hcell := E.h1.byte k (by rw [List.length_append, List.length_drop, List.length_replicate]; omega)
                          have hfro := E.h1.frozen k
                          have hsn := set_next l (List.replicate 4 0) 4 rfl (by omega) b
                          rw [hll] at hsn hput
                          rw [hsn] at hput
                          have hE' : JEnv7 w (l ++ [b]) (W.setCell ⟨w.heap.size + 1, k, none⟩ (B8 b)) := ⟨E.h0.other (by show w.heap.size ≠ w.heap.size + 1; omega) _, hput, E.below.setCell (by show w.heap.size ≤ w.heap.size + 1; omega) _⟩
                          have HE' := Lib.hid hE'
                          generalize (l ++ List.drop l.length (List.replicate 4 0)).getD k 0 = old at hcell
                          clear hput hsn E
                          have HEV := HE'
                          have c0 := HE'.out.h0.byte 0 (by show 0 < 4; omega)
                          have c1 := HE'.out.h0.byte 1 (by show 1 < 4; omega)
                          have c2 := HE'.out.h0.byte 2 (by show 2 < 4; omega)
                          have c3 := HE'.out.h0.byte 3 (by show 3 < 4; omega)
                          have f0 := HE'.out.h0.frozen 0
                          have f1 := HE'.out.h0.frozen 1
                          have f2 := HE'.out.h0.frozen 2
                          have f3 := HE'.out.h0.frozen 3

                          go_upto_region 13 with fail
                          change Code.wp _ _ _ _ (W.setCell ⟨w.heap.size + 1, k, none⟩ (B8 b))
                          generalize W.setCell ⟨w.heap.size + 1, k, none⟩ (B8 b) = W1 at HE' HEV c0 c1 c2 c3 f0 f1 f2 f3 ⊢
                          clear hcell hfro
                          go_wp2
                          refine bodyPost_ret (v := .tuple #[.agg z4, .bool false]) (results_row_tmp (fn := Tryd.f18) (p := 2) (u := 3) (ty := 25) rfl _ _ w.heap.size 25 z4 (0, 0) _ rfl (((((HEV.out.h0).setB 0 0).setB 1 0).setB 2 0).setB 3 0) Tryd.underlying25 rfl (hi.out [0, 0, 0, 0] rfl)) rfl ⟨?_, Or.inr ⟨HNO.out, rfl⟩⟩
                          exact ((((HEV.out.below).setCell (p := ⟨w.heap.size, 0, none⟩) (Nat.le_refl _) (B8 0)).setCell (p := ⟨w.heap.size, 1, none⟩) (Nat.le_refl _) (B8 0)).setCell (p := ⟨w.heap.size, 2, none⟩) (Nat.le_refl _) (B8 0)).setCell (p := ⟨w.heap.size, 3, none⟩) (Nat.le_refl _) (B8 0)
                      · have t3 : decide ((k : Int) < 3) = false := by simp; omega
                        have hk3' : k = 3 := by omega
                        subst hk3'
                        have hn := rd_last HCV.out HSC.out b HBS.out (by rw [← HQ.out]; show q ≤ s.size; omega)
                        rw [← HQ.out] at hn
                        have HN := Lib.hid hn
                        clear hn
                        have hput := E.h1.setB 3 b
                        have hcell := E.h1.byte 3 (by rw [List.length_append, List.length_drop, List.length_replicate]; omega)
                        have hfro := E.h1.frozen 3
                        have hsn := set_next l (List.replicate 4 0) 4 rfl (by omega) b
                        rw [hll] at hsn hput
                        rw [hsn] at hput
                        have hE' : JEnv7 w (l ++ [b]) (W.setCell ⟨w.heap.size + 1, 3, none⟩ (B8 b)) := ⟨E.h0.other (by show w.heap.size ≠ w.heap.size + 1; omega) _, hput, E.below.setCell (by show w.heap.size ≤ w.heap.size + 1; omega) _⟩
                        have HE' := Lib.hid hE'
                        generalize (l ++ List.drop l.length (List.replicate 4 0)).getD 3 0 = old at hcell
                        clear hput hsn E
                        go_wp2
                        exact ⟨⟨4, q, l ++ [b], by go_num, by go_num, HN.out, HE'.out⟩, by simp [intOf]⟩
                    · have hne : (D != seg) = true := by rw [bne_iff_ne]; exact hDs
                      have hnb : (D == seg) = false := by rw [beq_eq_false_iff_ne]; exact hDs
                      have hno := rd_fail hcv hk4 HSC.out (Or.inr (Or.inr (by rw [← hdv, HSEG0.out]; exact hDs)))
                      have HNO := Lib.hid hno
                      clear hno hcv hseg0 hdv hDs
                      go_upto_region 10 with fail
                      refine wp_region_noPanic ?_
                      refine wp_region_flow (fin := ?fin3) 16 0 (by kernel_rfl) [.inl (.int .i64 (q : Int)),
                        .inl (.int .i64 (p : Int)),
                        .inl (.bool false),
                        .inl (.bool false),
                        .inl (.int .i64 (v : Int)),
                        .inl (.bool false),
                        .inl (.bool false),
                        .inl (.bool false),
                        .inl (.int .i64 (v : Int)),
                        .inl (S9 D),
                        .inl (.string s),
                        .inl (.int .i64 (p : Int)),
                        .inl (.int .i64 (q : Int)),
                        .inl (S9 seg),
                        .inl (.bool true),
                        .inl (.bool true)] rfl rfl (by kernel_rfl) ?hfin3 ?hE3 ?hend3
                      case hfin3 =>
                        intro G
                        simp only [flowAll, flowVal, Act.put, List.setIfInBounds_toArray, List.set_cons_zero, List.set_cons_succ]
                        exact rfl
                      case hE3 =>
                        intro G
                        refine ⟨Or.inr (fun W hB => known_val rfl (by go_simp)),
                          Or.inr (fun W hB => known_val rfl (by go_simp)),
                          Or.inr (fun W hB => known_val rfl (by go_simp)),
                          Or.inr (fun W hB => known_val rfl (by go_simp)),
                          Or.inr (fun W hB => known_val rfl (by go_simp)),
                          Or.inr (fun W hB => known_val rfl (by go_simp)),
                          Or.inr (fun W hB => known_val rfl (by go_simp)),
                          Or.inr (fun W hB => known_val rfl (by go_simp)),
                          Or.inr (fun W hB => known_val rfl (by go_simp)),
                          Or.inr (fun W hB => known_call 30 #[.int .i64 (v : Int)] (HDEC.out W) rfl (by go_simp)),
                          Or.inr (fun W hB => known_val rfl (by go_simp)),
                          Or.inr (fun W hB => known_val rfl (by go_simp)),
                          Or.inr (fun W hB => known_val rfl (by go_simp)),
                          Or.inr (fun W hB => known_val rfl (by go_simp)),
                          Or.inr (fun W hB => known_val rfl (by go_simp)),
                          Or.inr (fun W hB => known_val rfl (by go_simp)), trivial⟩
                      intro G W hB hM
                      replace E : JEnv7 w l W := ⟨E.h0.below (drewB hB) E.h0.lt, E.h1.below (drewB hB) E.h1.lt, E.below.trans ((drewB hB).mono E.below.size)⟩
                      clear hM hB G
                      refine wpAny_end (by kernel_rfl) ?_ _
                      refine NoPanic.normal ?_
                      have c0 := E.h0.byte 0 (by show 0 < 4; omega)
                      have c1 := E.h0.byte 1 (by show 1 < 4; omega)
                      have c2 := E.h0.byte 2 (by show 2 < 4; omega)
                      have c3 := E.h0.byte 3 (by show 3 < 4; omega)
                      have f0 := E.h0.frozen 0
                      have f1 := E.h0.frozen 1
                      have f2 := E.h0.frozen 2
                      have f3 := E.h0.frozen 3
                      have HEV := Lib.hid E
                      clear E
                      go_wp2
                      refine bodyPost_ret (v := .tuple #[.agg z4, .bool false]) (results_row_tmp (fn := Tryd.f18) (p := 2) (u := 3) (ty := 25) rfl _ _ w.heap.size 25 z4 (0, 0) _ rfl (((((HEV.out.h0).setB 0 0).setB 1 0).setB 2 0).setB 3 0) Tryd.underlying25 rfl (hi.out [0, 0, 0, 0] rfl)) rfl ⟨?_, Or.inr ⟨HNO.out, rfl⟩⟩
                      exact ((((HEV.out.below).setCell (p := ⟨w.heap.size, 0, none⟩) (Nat.le_refl _) (B8 0)).setCell (p := ⟨w.heap.size, 1, none⟩) (Nat.le_refl _) (B8 0)).setCell (p := ⟨w.heap.size, 2, none⟩) (Nat.le_refl _) (B8 0)).setCell (p := ⟨w.heap.size, 3, none⟩) (Nat.le_refl _) (B8 0)
            · have g2 : decide ((c.toNat : Int) ≤ 57) = false := by simp; omega
              have hS : Scan (s.data.toList.drop p) j := ⟨hj3, by omega, hscan.out, Or.inr (Or.inr (by rw [hgd]; exact fun h => hg2 h.2))⟩
              have HSC := Lib.hid hS
              have hcv := hI.out
              clear hscan hS
              by_cases hj0 : j = 0
              · have hno := rd_fail hcv hk4 HSC.out (Or.inl hj0)
                have HNO := Lib.hid hno
                clear hno hcv
                have hqp : p = q := by omega
                clear hj0
                subst hqp
                go_upto_region 10 with fail
                refine wp_region_noPanic ?_
                refine wp_region_flow (fin := ?fin4) 16 0 (by kernel_rfl) [.inl (.int .i64 (p : Int)),
                  .inl (.int .i64 (p : Int)),
                  .inl (.bool true),
                  .inl (.bool true),
                  .inl undef,
                  .inl undef,
                  .inl (.bool true),
                  .inl (.bool true),
                  .inl undef,
                  .inl undef,
                  .inl undef,
                  .inl undef,
                  .inl undef,
                  .inl undef,
                  .inl undef,
                  .inl (.bool true)] rfl rfl (by kernel_rfl) ?hfin4 ?hE4 ?hend4
                case hfin4 =>
                  intro G
                  simp only [flowAll, flowVal, Act.put, List.setIfInBounds_toArray, List.set_cons_zero, List.set_cons_succ]
                  exact rfl
                case hE4 =>
                  intro G
                  refine ⟨Or.inr (fun W hB => known_val rfl (by go_simp)),
                    Or.inr (fun W hB => known_val rfl (by go_simp)),
                    Or.inr (fun W hB => known_val rfl (by go_simp)),
                    Or.inr (fun W hB => known_val rfl (by go_simp)),
                    Or.inr (fun W hB => Or.inr ⟨rfl, rfl⟩),
                    Or.inr (fun W hB => Or.inr ⟨rfl, rfl⟩),
                    Or.inr (fun W hB => known_val rfl (by go_simp)),
                    Or.inr (fun W hB => known_val rfl (by go_simp)),
                    Or.inr (fun W hB => Or.inr ⟨rfl, rfl⟩),
                    Or.inr (fun W hB => Or.inr ⟨rfl, rfl⟩),
                    Or.inr (fun W hB => Or.inr ⟨rfl, rfl⟩),
                    Or.inr (fun W hB => Or.inr ⟨rfl, rfl⟩),
                    Or.inr (fun W hB => Or.inr ⟨rfl, rfl⟩),
                    Or.inr (fun W hB => Or.inr ⟨rfl, rfl⟩),
                    Or.inr (fun W hB => Or.inr ⟨rfl, rfl⟩),
                    Or.inr (fun W hB => known_val rfl (by go_simp)), trivial⟩
                intro G W hB hM
                replace E : JEnv7 w l W := ⟨E.h0.below (drewB hB) E.h0.lt, E.h1.below (drewB hB) E.h1.lt, E.below.trans ((drewB hB).mono E.below.size)⟩
                clear hM hB G
                refine wpAny_end (by kernel_rfl) ?_ _
                refine NoPanic.normal ?_
                have c0 := E.h0.byte 0 (by show 0 < 4; omega)
                have c1 := E.h0.byte 1 (by show 1 < 4; omega)
                have c2 := E.h0.byte 2 (by show 2 < 4; omega)
                have c3 := E.h0.byte 3 (by show 3 < 4; omega)
                have f0 := E.h0.frozen 0
                have f1 := E.h0.frozen 1
                have f2 := E.h0.frozen 2
                have f3 := E.h0.frozen 3
                have HEV := Lib.hid E
                clear E
                go_wp2
                refine bodyPost_ret (v := .tuple #[.agg z4, .bool false]) (results_row_tmp (fn := Tryd.f18) (p := 2) (u := 3) (ty := 25) rfl _ _ w.heap.size 25 z4 (0, 0) _ rfl (((((HEV.out.h0).setB 0 0).setB 1 0).setB 2 0).setB 3 0) Tryd.underlying25 rfl (hi.out [0, 0, 0, 0] rfl)) rfl ⟨?_, Or.inr ⟨HNO.out, rfl⟩⟩
                exact ((((HEV.out.below).setCell (p := ⟨w.heap.size, 0, none⟩) (Nat.le_refl _) (B8 0)).setCell (p := ⟨w.heap.size, 1, none⟩) (Nat.le_refl _) (B8 0)).setCell (p := ⟨w.heap.size, 2, none⟩) (Nat.le_refl _) (B8 0)).setCell (p := ⟨w.heap.size, 3, none⟩) (Nat.le_refl _) (B8 0)
              · have nqp : ¬ ((q : Int) = (p : Int)) := by omega
                by_cases h255 : 255 < v
                · have hno := rd_fail hcv hk4 HSC.out (Or.inr (Or.inl (by rw [← hv.out]; exact h255)))
                  have HNO := Lib.hid hno
                  clear hno hcv
                  have tv : decide ((255 : Int) < (v : Int)) = true := by simp; omega
                  go_upto_region 10 with fail
                  refine wp_region_noPanic ?_
                  refine wp_region_flow (fin := ?fin5) 16 0 (by kernel_rfl) [.inl (.int .i64 (q : Int)),
                    .inl (.int .i64 (p : Int)),
                    .inl (.bool false),
                    .inl (.bool false),
                    .inl (.int .i64 (v : Int)),
                    .inl (.bool true),
                    .inl (.bool true),
                    .inl (.bool true),
                    .inl undef,
                    .inl undef,
                    .inl undef,
                    .inl undef,
                    .inl undef,
                    .inl undef,
                    .inl undef,
                    .inl (.bool true)] rfl rfl (by kernel_rfl) ?hfin5 ?hE5 ?hend5
                  case hfin5 =>
                    intro G
                    simp only [flowAll, flowVal, Act.put, List.setIfInBounds_toArray, List.set_cons_zero, List.set_cons_succ]
                    exact rfl
                  case hE5 =>
                    intro G
                    refine ⟨Or.inr (fun W hB => known_val rfl (by go_simp)),
                      Or.inr (fun W hB => known_val rfl (by go_simp)),
                      Or.inr (fun W hB => known_val rfl (by go_simp)),
                      Or.inr (fun W hB => known_val rfl (by go_simp)),
                      Or.inr (fun W hB => known_val rfl (by go_simp)),
                      Or.inr (fun W hB => known_val rfl (by go_simp)),
                      Or.inr (fun W hB => known_val rfl (by go_simp)),
                      Or.inr (fun W hB => known_val rfl (by go_simp)),
                      Or.inr (fun W hB => Or.inr ⟨rfl, rfl⟩),
                      Or.inr (fun W hB => Or.inr ⟨rfl, rfl⟩),
                      Or.inr (fun W hB => Or.inr ⟨rfl, rfl⟩),
                      Or.inr (fun W hB => Or.inr ⟨rfl, rfl⟩),
                      Or.inr (fun W hB => Or.inr ⟨rfl, rfl⟩),
                      Or.inr (fun W hB => Or.inr ⟨rfl, rfl⟩),
                      Or.inr (fun W hB => Or.inr ⟨rfl, rfl⟩),
                      Or.inr (fun W hB => known_val rfl (by go_simp)), trivial⟩
                  intro G W hB hM
                  replace E : JEnv7 w l W := ⟨E.h0.below (drewB hB) E.h0.lt, E.h1.below (drewB hB) E.h1.lt, E.below.trans ((drewB hB).mono E.below.size)⟩
                  clear hM hB G
                  refine wpAny_end (by kernel_rfl) ?_ _
                  refine NoPanic.normal ?_
                  have c0 := E.h0.byte 0 (by show 0 < 4; omega)
                  have c1 := E.h0.byte 1 (by show 1 < 4; omega)
                  have c2 := E.h0.byte 2 (by show 2 < 4; omega)
                  have c3 := E.h0.byte 3 (by show 3 < 4; omega)
                  have f0 := E.h0.frozen 0
                  have f1 := E.h0.frozen 1
                  have f2 := E.h0.frozen 2
                  have f3 := E.h0.frozen 3
                  have HEV := Lib.hid E
                  clear E
                  go_wp2
                  refine bodyPost_ret (v := .tuple #[.agg z4, .bool false]) (results_row_tmp (fn := Tryd.f18) (p := 2) (u := 3) (ty := 25) rfl _ _ w.heap.size 25 z4 (0, 0) _ rfl (((((HEV.out.h0).setB 0 0).setB 1 0).setB 2 0).setB 3 0) Tryd.underlying25 rfl (hi.out [0, 0, 0, 0] rfl)) rfl ⟨?_, Or.inr ⟨HNO.out, rfl⟩⟩
                  exact ((((HEV.out.below).setCell (p := ⟨w.heap.size, 0, none⟩) (Nat.le_refl _) (B8 0)).setCell (p := ⟨w.heap.size, 1, none⟩) (Nat.le_refl _) (B8 0)).setCell (p := ⟨w.heap.size, 2, none⟩) (Nat.le_refl _) (B8 0)).setCell (p := ⟨w.heap.size, 3, none⟩) (Nat.le_refl _) (B8 0)
                · have tv : decide ((255 : Int) < (v : Int)) = false := by simp; omega
                  have hdec := fun W => dec_any v hv3 W
                  have hdv : dec3 v = dec3 (decV ((s.data.toList.drop p).take j)) := by rw [← hv.out]
                  have hseg0 : (s.data.toList.drop p).take j = (s.extract p q).data.toList := by rw [seg_extract, HQ.out]; congr 1; omega
                  have hstr := str_is (s := s.extract p q) rfl
                  have hofN := dec3_ofNat v (by omega)
                  have hbN : (UInt8.ofNat v).toNat = v := by rw [UInt8.toNat_ofNat']; omega
                  obtain ⟨D, hD⟩ : ∃ D, dec3 v = D := ⟨_, rfl⟩
                  obtain ⟨seg, hseg⟩ : ∃ seg, (s.extract p q).data.toList = seg := ⟨_, rfl⟩
                  obtain ⟨b, hbd⟩ : ∃ b, UInt8.ofNat v = b := ⟨_, rfl⟩
                  rw [hseg] at hstr hseg0
                  rw [hD] at hofN hdv hdec
                  rw [hbd] at hofN hbN
                  have HDEC := Lib.hid hdec
                  have HD := Lib.hid (And.intro hD (And.intro hseg hbd))
                  have HSEG0 := Lib.hid hseg0
                  have HOF := Lib.hid hofN
                  clear hD hseg hbd hdec hofN
                  have ipq1 : (0 : Int) ≤ (p : Int) := by omega
                  have ipq2 : (p : Int) ≤ (q : Int) := by omega
                  have ipq3 : (q : Int) ≤ (s.size : Int) := by omega
                  by_cases hDs : D = seg
                  · have tD : (D == seg) = true := by rw [hDs]; exact beq_self_eq_true _
                    have hbs : (s.data.toList.drop p).take j = decL b := by rw [HSEG0.out, HOF.out, hDs]
                    have HBS := Lib.hid hbs
                    have HCV := Lib.hid hcv
                    clear hbs hcv hseg0 hdv
                    have tDn : (D != seg) = false := by rw [hDs]; simp
                    go_upto_region 10 with fail
                    refine wp_region_noPanic ?_
                    refine wp_region_flow (fin := ?fin6) 16 0 (by kernel_rfl) [.inl (.int .i64 (q : Int)),
                      .inl (.int .i64 (p : Int)),
                      .inl (.bool false),
                      .inl (.bool false),
                      .inl (.int .i64 (v : Int)),
                      .inl (.bool false),
                      .inl (.bool false),
                      .inl (.bool false),
                      .inl (.int .i64 (v : Int)),
                      .inl (S9 D),
                      .inl (.string s),
                      .inl (.int .i64 (p : Int)),
                      .inl (.int .i64 (q : Int)),
                      .inl (S9 seg),
                      .inl (.bool false),
                      .inl (.bool false)] rfl rfl (by kernel_rfl) ?hfin6 ?hE6 ?hend6
                    case hfin6 =>
                      intro G
                      simp only [flowAll, flowVal, Act.put, List.setIfInBounds_toArray, List.set_cons_zero, List.set_cons_succ]
                      exact rfl
                    case hE6 =>
                      intro G
                      refine ⟨Or.inr (fun W hB => known_val rfl (by go_simp)),
                        Or.inr (fun W hB => known_val rfl (by go_simp)),
                        Or.inr (fun W hB => known_val rfl (by go_simp)),
                        Or.inr (fun W hB => known_val rfl (by go_simp)),
                        Or.inr (fun W hB => known_val rfl (by go_simp)),
                        Or.inr (fun W hB => known_val rfl (by go_simp)),
                        Or.inr (fun W hB => known_val rfl (by go_simp)),
                        Or.inr (fun W hB => known_val rfl (by go_simp)),
                        Or.inr (fun W hB => known_val rfl (by go_simp)),
                        Or.inr (fun W hB => known_call 30 #[.int .i64 (v : Int)] (HDEC.out W) rfl (by go_simp)),
                        Or.inr (fun W hB => known_val rfl (by go_simp)),
                        Or.inr (fun W hB => known_val rfl (by go_simp)),
                        Or.inr (fun W hB => known_val rfl (by go_simp)),
                        Or.inr (fun W hB => known_val rfl (by go_simp)),
                        Or.inr (fun W hB => known_val rfl (by go_simp)),
                        Or.inr (fun W hB => known_val rfl (by go_simp)), trivial⟩
                    intro G W hB hM
                    replace E : JEnv7 w l W := ⟨E.h0.below (drewB hB) E.h0.lt, E.h1.below (drewB hB) E.h1.lt, E.below.trans ((drewB hB).mono E.below.size)⟩
                    clear hM hB G
                    refine wpAny_end (by kernel_rfl) ?_ _
                    refine NoPanic.normal ?_
                    clear hstr tD tDn
                    clear eq0 hgd hcq
                    have hll := HCV.out.len
                    have hb8 : (v : Int) = (b.toNat : Int) := by omega
                    rw [hb8]
                    by_cases hk3 : k < 3
                    · have t3 : decide ((k : Int) < 3) = true := by simp; omega
                      have hql : q < s.size := hql0
                      have tl : decide ((s.size : Int) ≤ (q : Int)) = false := by simp; omega
                      have iq : (q : Int) < (s.size : Int) := by omega
                      have eq := bAt_eq s q hql
                      have hbq : bAt s q = s.data.toList.getD q 0 := rfl
                      by_cases h46 : bAt s q = 46
                      · rw [h46] at eq
                        have hn := rd_next HCV.out hk3 HSC.out b HBS.out (by rw [← HQ.out]; exact hql) (by rw [← HQ.out, ← hbq]; exact h46)
                        rw [← HQ.out] at hn
                        have HN := Lib.hid hn
                        clear hn hbq h46
                        have hput := E.h1.setB k b
                        have hcell := E.h1.byte k (by rw [List.length_append, List.length_drop, List.length_replicate]; omega)
                        have hfro := E.h1.frozen k
                        have hsn := set_next l (List.replicate 4 0) 4 rfl (by omega) b
                        rw [hll] at hsn hput
                        rw [hsn] at hput
                        have hE' : JEnv7 w (l ++ [b]) (W.setCell ⟨w.heap.size + 1, k, none⟩ (B8 b)) := ⟨E.h0.other (by show w.heap.size ≠ w.heap.size + 1; omega) _, hput, E.below.setCell (by show w.heap.size ≤ w.heap.size + 1; omega) _⟩
                        have HE' := Lib.hid hE'
                        generalize (l ++ List.drop l.length (List.replicate 4 0)).getD k 0 = old at hcell
                        clear hput hsn E
                        go_wp2
                        exact ⟨⟨k + 1, q + 1, l ++ [b], by go_num, by go_num, HN.out, HE'.out⟩, by simp [intOf]; omega⟩
                      · have hno := rd_fail2 HCV.out hk3 HSC.out (Or.inr (by rw [← HQ.out, ← hbq]; exact h46))
                        have HNO := Lib.hid hno
                        have tz : (((bAt s q).toNat : Int) != 46) = true := by
                          rw [bne_iff_ne]
                          intro h
                          exact h46 (UInt8.toNat_inj.1 (by show (bAt s q).toNat = 46; omega))
                        generalize bAt s q = z at tz eq
                        clear hno hbq h46
                        have hput := E.h1.setB k b
                        have hcell := E.h1.byte k (by rw [List.length_append, List.length_drop, List.length_replicate]; omega)
                        have hfro := E.h1.frozen k
                        have hsn := set_next l (List.replicate 4 0) 4 rfl (by omega) b
                        rw [hll] at hsn hput
                        rw [hsn] at hput
                        have hE' : JEnv7 w (l ++ [b]) (W.setCell ⟨w.heap.size + 1, k, none⟩ (B8 b)) := ⟨E.h0.other (by show w.heap.size ≠ w.heap.size + 1; omega) _, hput, E.below.setCell (by show w.heap.size ≤ w.heap.size + 1; omega) _⟩
                        have HE' := Lib.hid hE'
                        generalize (l ++ List.drop l.length (List.replicate 4 0)).getD k 0 = old at hcell
                        clear hput hsn E
                        have HEV := HE'
                        have c0 := HE'.out.h0.byte 0 (by show 0 < 4; omega)
                        have c1 := HE'.out.h0.byte 1 (by show 1 < 4; omega)
                        have c2 := HE'.out.h0.byte 2 (by show 2 < 4; omega)
                        have c3 := HE'.out.h0.byte 3 (by show 3 < 4; omega)
                        have f0 := HE'.out.h0.frozen 0
                        have f1 := HE'.out.h0.frozen 1
                        have f2 := HE'.out.h0.frozen 2
                        have f3 := HE'.out.h0.frozen 3

                        go_upto_region 13 with fail
                        change Code.wp _ _ _ _ (W.setCell ⟨w.heap.size + 1, k, none⟩ (B8 b))
                        generalize W.setCell ⟨w.heap.size + 1, k, none⟩ (B8 b) = W1 at HE' HEV c0 c1 c2 c3 f0 f1 f2 f3 ⊢
                        clear hcell hfro
                        go_wp2
                        refine bodyPost_ret (v := .tuple #[.agg z4, .bool false]) (results_row_tmp (fn := Tryd.f18) (p := 2) (u := 3) (ty := 25) rfl _ _ w.heap.size 25 z4 (0, 0) _ rfl (((((HEV.out.h0).setB 0 0).setB 1 0).setB 2 0).setB 3 0) Tryd.underlying25 rfl (hi.out [0, 0, 0, 0] rfl)) rfl ⟨?_, Or.inr ⟨HNO.out, rfl⟩⟩
                        exact ((((HEV.out.below).setCell (p := ⟨w.heap.size, 0, none⟩) (Nat.le_refl _) (B8 0)).setCell (p := ⟨w.heap.size, 1, none⟩) (Nat.le_refl _) (B8 0)).setCell (p := ⟨w.heap.size, 2, none⟩) (Nat.le_refl _) (B8 0)).setCell (p := ⟨w.heap.size, 3, none⟩) (Nat.le_refl _) (B8 0)
                    · have t3 : decide ((k : Int) < 3) = false := by simp; omega
                      have hk3' : k = 3 := by omega
                      subst hk3'
                      have hn := rd_last HCV.out HSC.out b HBS.out (by rw [← HQ.out]; show q ≤ s.size; omega)
                      rw [← HQ.out] at hn
                      have HN := Lib.hid hn
                      clear hn
                      have hput := E.h1.setB 3 b
                      have hcell := E.h1.byte 3 (by rw [List.length_append, List.length_drop, List.length_replicate]; omega)
                      have hfro := E.h1.frozen 3
                      have hsn := set_next l (List.replicate 4 0) 4 rfl (by omega) b
                      rw [hll] at hsn hput
                      rw [hsn] at hput
                      have hE' : JEnv7 w (l ++ [b]) (W.setCell ⟨w.heap.size + 1, 3, none⟩ (B8 b)) := ⟨E.h0.other (by show w.heap.size ≠ w.heap.size + 1; omega) _, hput, E.below.setCell (by show w.heap.size ≤ w.heap.size + 1; omega) _⟩
                      have HE' := Lib.hid hE'
                      generalize (l ++ List.drop l.length (List.replicate 4 0)).getD 3 0 = old at hcell
                      clear hput hsn E
                      go_wp2
                      exact ⟨⟨4, q, l ++ [b], by go_num, by go_num, HN.out, HE'.out⟩, by simp [intOf]⟩
                  · have hne : (D != seg) = true := by rw [bne_iff_ne]; exact hDs
                    have hnb : (D == seg) = false := by rw [beq_eq_false_iff_ne]; exact hDs
                    have hno := rd_fail hcv hk4 HSC.out (Or.inr (Or.inr (by rw [← hdv, HSEG0.out]; exact hDs)))
                    have HNO := Lib.hid hno
                    clear hno hcv hseg0 hdv hDs
                    go_upto_region 10 with fail
                    refine wp_region_noPanic ?_
                    refine wp_region_flow (fin := ?fin7) 16 0 (by kernel_rfl) [.inl (.int .i64 (q : Int)),
                      .inl (.int .i64 (p : Int)),
                      .inl (.bool false),
                      .inl (.bool false),
                      .inl (.int .i64 (v : Int)),
                      .inl (.bool false),
                      .inl (.bool false),
                      .inl (.bool false),
                      .inl (.int .i64 (v : Int)),
                      .inl (S9 D),
                      .inl (.string s),
                      .inl (.int .i64 (p : Int)),
                      .inl (.int .i64 (q : Int)),
                      .inl (S9 seg),
                      .inl (.bool true),
                      .inl (.bool true)] rfl rfl (by kernel_rfl) ?hfin7 ?hE7 ?hend7
                    case hfin7 =>
                      intro G
                      simp only [flowAll, flowVal, Act.put, List.setIfInBounds_toArray, List.set_cons_zero, List.set_cons_succ]
                      exact rfl
                    case hE7 =>
                      intro G
                      refine ⟨Or.inr (fun W hB => known_val rfl (by go_simp)),
                        Or.inr (fun W hB => known_val rfl (by go_simp)),
                        Or.inr (fun W hB => known_val rfl (by go_simp)),
                        Or.inr (fun W hB => known_val rfl (by go_simp)),
                        Or.inr (fun W hB => known_val rfl (by go_simp)),
                        Or.inr (fun W hB => known_val rfl (by go_simp)),
                        Or.inr (fun W hB => known_val rfl (by go_simp)),
                        Or.inr (fun W hB => known_val rfl (by go_simp)),
                        Or.inr (fun W hB => known_val rfl (by go_simp)),
                        Or.inr (fun W hB => known_call 30 #[.int .i64 (v : Int)] (HDEC.out W) rfl (by go_simp)),
                        Or.inr (fun W hB => known_val rfl (by go_simp)),
                        Or.inr (fun W hB => known_val rfl (by go_simp)),
                        Or.inr (fun W hB => known_val rfl (by go_simp)),
                        Or.inr (fun W hB => known_val rfl (by go_simp)),
                        Or.inr (fun W hB => known_val rfl (by go_simp)),
                        Or.inr (fun W hB => known_val rfl (by go_simp)), trivial⟩
                    intro G W hB hM
                    replace E : JEnv7 w l W := ⟨E.h0.below (drewB hB) E.h0.lt, E.h1.below (drewB hB) E.h1.lt, E.below.trans ((drewB hB).mono E.below.size)⟩
                    clear hM hB G
                    refine wpAny_end (by kernel_rfl) ?_ _
                    refine NoPanic.normal ?_
                    have c0 := E.h0.byte 0 (by show 0 < 4; omega)
                    have c1 := E.h0.byte 1 (by show 1 < 4; omega)
                    have c2 := E.h0.byte 2 (by show 2 < 4; omega)
                    have c3 := E.h0.byte 3 (by show 3 < 4; omega)
                    have f0 := E.h0.frozen 0
                    have f1 := E.h0.frozen 1
                    have f2 := E.h0.frozen 2
                    have f3 := E.h0.frozen 3
                    have HEV := Lib.hid E
                    clear E
                    go_wp2
                    refine bodyPost_ret (v := .tuple #[.agg z4, .bool false]) (results_row_tmp (fn := Tryd.f18) (p := 2) (u := 3) (ty := 25) rfl _ _ w.heap.size 25 z4 (0, 0) _ rfl (((((HEV.out.h0).setB 0 0).setB 1 0).setB 2 0).setB 3 0) Tryd.underlying25 rfl (hi.out [0, 0, 0, 0] rfl)) rfl ⟨?_, Or.inr ⟨HNO.out, rfl⟩⟩
                    exact ((((HEV.out.below).setCell (p := ⟨w.heap.size, 0, none⟩) (Nat.le_refl _) (B8 0)).setCell (p := ⟨w.heap.size, 1, none⟩) (Nat.le_refl _) (B8 0)).setCell (p := ⟨w.heap.size, 2, none⟩) (Nat.le_refl _) (B8 0)).setCell (p := ⟨w.heap.size, 3, none⟩) (Nat.le_refl _) (B8 0)
          · have g1 : decide ((48 : Int) ≤ (c.toNat : Int)) = false := by simp; omega
            have hS : Scan (s.data.toList.drop p) j := ⟨hj3, by omega, hscan.out, Or.inr (Or.inr (by rw [hgd]; exact fun h => hg1 h.1))⟩
            have HSC := Lib.hid hS
            have hcv := hI.out
            clear hscan hS
            by_cases hj0 : j = 0
            · have hno := rd_fail hcv hk4 HSC.out (Or.inl hj0)
              have HNO := Lib.hid hno
              clear hno hcv
              have hqp : p = q := by omega
              clear hj0
              subst hqp
              go_upto_region 10 with fail
              refine wp_region_noPanic ?_
              refine wp_region_flow (fin := ?fin8) 16 0 (by kernel_rfl) [.inl (.int .i64 (p : Int)),
                .inl (.int .i64 (p : Int)),
                .inl (.bool true),
                .inl (.bool true),
                .inl undef,
                .inl undef,
                .inl (.bool true),
                .inl (.bool true),
                .inl undef,
                .inl undef,
                .inl undef,
                .inl undef,
                .inl undef,
                .inl undef,
                .inl undef,
                .inl (.bool true)] rfl rfl (by kernel_rfl) ?hfin8 ?hE8 ?hend8
              case hfin8 =>
                intro G
                simp only [flowAll, flowVal, Act.put, List.setIfInBounds_toArray, List.set_cons_zero, List.set_cons_succ]
                exact rfl
              case hE8 =>
                intro G
                refine ⟨Or.inr (fun W hB => known_val rfl (by go_simp)),
                  Or.inr (fun W hB => known_val rfl (by go_simp)),
                  Or.inr (fun W hB => known_val rfl (by go_simp)),
                  Or.inr (fun W hB => known_val rfl (by go_simp)),
                  Or.inr (fun W hB => Or.inr ⟨rfl, rfl⟩),
                  Or.inr (fun W hB => Or.inr ⟨rfl, rfl⟩),
                  Or.inr (fun W hB => known_val rfl (by go_simp)),
                  Or.inr (fun W hB => known_val rfl (by go_simp)),
                  Or.inr (fun W hB => Or.inr ⟨rfl, rfl⟩),
                  Or.inr (fun W hB => Or.inr ⟨rfl, rfl⟩),
                  Or.inr (fun W hB => Or.inr ⟨rfl, rfl⟩),
                  Or.inr (fun W hB => Or.inr ⟨rfl, rfl⟩),
                  Or.inr (fun W hB => Or.inr ⟨rfl, rfl⟩),
                  Or.inr (fun W hB => Or.inr ⟨rfl, rfl⟩),
                  Or.inr (fun W hB => Or.inr ⟨rfl, rfl⟩),
                  Or.inr (fun W hB => known_val rfl (by go_simp)), trivial⟩
              intro G W hB hM
              replace E : JEnv7 w l W := ⟨E.h0.below (drewB hB) E.h0.lt, E.h1.below (drewB hB) E.h1.lt, E.below.trans ((drewB hB).mono E.below.size)⟩
              clear hM hB G
              refine wpAny_end (by kernel_rfl) ?_ _
              refine NoPanic.normal ?_
              have c0 := E.h0.byte 0 (by show 0 < 4; omega)
              have c1 := E.h0.byte 1 (by show 1 < 4; omega)
              have c2 := E.h0.byte 2 (by show 2 < 4; omega)
              have c3 := E.h0.byte 3 (by show 3 < 4; omega)
              have f0 := E.h0.frozen 0
              have f1 := E.h0.frozen 1
              have f2 := E.h0.frozen 2
              have f3 := E.h0.frozen 3
              have HEV := Lib.hid E
              clear E
              go_wp2
              refine bodyPost_ret (v := .tuple #[.agg z4, .bool false]) (results_row_tmp (fn := Tryd.f18) (p := 2) (u := 3) (ty := 25) rfl _ _ w.heap.size 25 z4 (0, 0) _ rfl (((((HEV.out.h0).setB 0 0).setB 1 0).setB 2 0).setB 3 0) Tryd.underlying25 rfl (hi.out [0, 0, 0, 0] rfl)) rfl ⟨?_, Or.inr ⟨HNO.out, rfl⟩⟩
              exact ((((HEV.out.below).setCell (p := ⟨w.heap.size, 0, none⟩) (Nat.le_refl _) (B8 0)).setCell (p := ⟨w.heap.size, 1, none⟩) (Nat.le_refl _) (B8 0)).setCell (p := ⟨w.heap.size, 2, none⟩) (Nat.le_refl _) (B8 0)).setCell (p := ⟨w.heap.size, 3, none⟩) (Nat.le_refl _) (B8 0)
            · have nqp : ¬ ((q : Int) = (p : Int)) := by omega
              by_cases h255 : 255 < v
              · have hno := rd_fail hcv hk4 HSC.out (Or.inr (Or.inl (by rw [← hv.out]; exact h255)))
                have HNO := Lib.hid hno
                clear hno hcv
                have tv : decide ((255 : Int) < (v : Int)) = true := by simp; omega
                go_upto_region 10 with fail
                refine wp_region_noPanic ?_
                refine wp_region_flow (fin := ?fin9) 16 0 (by kernel_rfl) [.inl (.int .i64 (q : Int)),
                  .inl (.int .i64 (p : Int)),
                  .inl (.bool false),
                  .inl (.bool false),
                  .inl (.int .i64 (v : Int)),
                  .inl (.bool true),
                  .inl (.bool true),
                  .inl (.bool true),
                  .inl undef,
                  .inl undef,
                  .inl undef,
                  .inl undef,
                  .inl undef,
                  .inl undef,
                  .inl undef,
                  .inl (.bool true)] rfl rfl (by kernel_rfl) ?hfin9 ?hE9 ?hend9
                case hfin9 =>
                  intro G
                  simp only [flowAll, flowVal, Act.put, List.setIfInBounds_toArray, List.set_cons_zero, List.set_cons_succ]
                  exact rfl
                case hE9 =>
                  intro G
                  refine ⟨Or.inr (fun W hB => known_val rfl (by go_simp)),
                    Or.inr (fun W hB => known_val rfl (by go_simp)),
                    Or.inr (fun W hB => known_val rfl (by go_simp)),
                    Or.inr (fun W hB => known_val rfl (by go_simp)),
                    Or.inr (fun W hB => known_val rfl (by go_simp)),
                    Or.inr (fun W hB => known_val rfl (by go_simp)),
                    Or.inr (fun W hB => known_val rfl (by go_simp)),
                    Or.inr (fun W hB => known_val rfl (by go_simp)),
                    Or.inr (fun W hB => Or.inr ⟨rfl, rfl⟩),
                    Or.inr (fun W hB => Or.inr ⟨rfl, rfl⟩),
                    Or.inr (fun W hB => Or.inr ⟨rfl, rfl⟩),
                    Or.inr (fun W hB => Or.inr ⟨rfl, rfl⟩),
                    Or.inr (fun W hB => Or.inr ⟨rfl, rfl⟩),
                    Or.inr (fun W hB => Or.inr ⟨rfl, rfl⟩),
                    Or.inr (fun W hB => Or.inr ⟨rfl, rfl⟩),
                    Or.inr (fun W hB => known_val rfl (by go_simp)), trivial⟩
                intro G W hB hM
                replace E : JEnv7 w l W := ⟨E.h0.below (drewB hB) E.h0.lt, E.h1.below (drewB hB) E.h1.lt, E.below.trans ((drewB hB).mono E.below.size)⟩
                clear hM hB G
                refine wpAny_end (by kernel_rfl) ?_ _
                refine NoPanic.normal ?_
                have c0 := E.h0.byte 0 (by show 0 < 4; omega)
                have c1 := E.h0.byte 1 (by show 1 < 4; omega)
                have c2 := E.h0.byte 2 (by show 2 < 4; omega)
                have c3 := E.h0.byte 3 (by show 3 < 4; omega)
                have f0 := E.h0.frozen 0
                have f1 := E.h0.frozen 1
                have f2 := E.h0.frozen 2
                have f3 := E.h0.frozen 3
                have HEV := Lib.hid E
                clear E
                go_wp2
                refine bodyPost_ret (v := .tuple #[.agg z4, .bool false]) (results_row_tmp (fn := Tryd.f18) (p := 2) (u := 3) (ty := 25) rfl _ _ w.heap.size 25 z4 (0, 0) _ rfl (((((HEV.out.h0).setB 0 0).setB 1 0).setB 2 0).setB 3 0) Tryd.underlying25 rfl (hi.out [0, 0, 0, 0] rfl)) rfl ⟨?_, Or.inr ⟨HNO.out, rfl⟩⟩
                exact ((((HEV.out.below).setCell (p := ⟨w.heap.size, 0, none⟩) (Nat.le_refl _) (B8 0)).setCell (p := ⟨w.heap.size, 1, none⟩) (Nat.le_refl _) (B8 0)).setCell (p := ⟨w.heap.size, 2, none⟩) (Nat.le_refl _) (B8 0)).setCell (p := ⟨w.heap.size, 3, none⟩) (Nat.le_refl _) (B8 0)
              · have tv : decide ((255 : Int) < (v : Int)) = false := by simp; omega
                have hdec := fun W => dec_any v hv3 W
                have hdv : dec3 v = dec3 (decV ((s.data.toList.drop p).take j)) := by rw [← hv.out]
                have hseg0 : (s.data.toList.drop p).take j = (s.extract p q).data.toList := by rw [seg_extract, HQ.out]; congr 1; omega
                have hstr := str_is (s := s.extract p q) rfl
                have hofN := dec3_ofNat v (by omega)
                have hbN : (UInt8.ofNat v).toNat = v := by rw [UInt8.toNat_ofNat']; omega
                obtain ⟨D, hD⟩ : ∃ D, dec3 v = D := ⟨_, rfl⟩
                obtain ⟨seg, hseg⟩ : ∃ seg, (s.extract p q).data.toList = seg := ⟨_, rfl⟩
                obtain ⟨b, hbd⟩ : ∃ b, UInt8.ofNat v = b := ⟨_, rfl⟩
                rw [hseg] at hstr hseg0
                rw [hD] at hofN hdv hdec
                rw [hbd] at hofN hbN
                have HDEC := Lib.hid hdec
                have HD := Lib.hid (And.intro hD (And.intro hseg hbd))
                have HSEG0 := Lib.hid hseg0
                have HOF := Lib.hid hofN
                clear hD hseg hbd hdec hofN
                have ipq1 : (0 : Int) ≤ (p : Int) := by omega
                have ipq2 : (p : Int) ≤ (q : Int) := by omega
                have ipq3 : (q : Int) ≤ (s.size : Int) := by omega
                by_cases hDs : D = seg
                · have tD : (D == seg) = true := by rw [hDs]; exact beq_self_eq_true _
                  have hbs : (s.data.toList.drop p).take j = decL b := by rw [HSEG0.out, HOF.out, hDs]
                  have HBS := Lib.hid hbs
                  have HCV := Lib.hid hcv
                  clear hbs hcv hseg0 hdv
                  have tDn : (D != seg) = false := by rw [hDs]; simp
                  go_upto_region 10 with fail
                  refine wp_region_noPanic ?_
                  refine wp_region_flow (fin := ?fin10) 16 0 (by kernel_rfl) [.inl (.int .i64 (q : Int)),
                    .inl (.int .i64 (p : Int)),
                    .inl (.bool false),
                    .inl (.bool false),
                    .inl (.int .i64 (v : Int)),
                    .inl (.bool false),
                    .inl (.bool false),
                    .inl (.bool false),
                    .inl (.int .i64 (v : Int)),
                    .inl (S9 D),
                    .inl (.string s),
                    .inl (.int .i64 (p : Int)),
                    .inl (.int .i64 (q : Int)),
                    .inl (S9 seg),
                    .inl (.bool false),
                    .inl (.bool false)] rfl rfl (by kernel_rfl) ?hfin10 ?hE10 ?hend10
                  case hfin10 =>
                    intro G
                    simp only [flowAll, flowVal, Act.put, List.setIfInBounds_toArray, List.set_cons_zero, List.set_cons_succ]
                    exact rfl
                  case hE10 =>
                    intro G
                    refine ⟨Or.inr (fun W hB => known_val rfl (by go_simp)),
                      Or.inr (fun W hB => known_val rfl (by go_simp)),
                      Or.inr (fun W hB => known_val rfl (by go_simp)),
                      Or.inr (fun W hB => known_val rfl (by go_simp)),
                      Or.inr (fun W hB => known_val rfl (by go_simp)),
                      Or.inr (fun W hB => known_val rfl (by go_simp)),
                      Or.inr (fun W hB => known_val rfl (by go_simp)),
                      Or.inr (fun W hB => known_val rfl (by go_simp)),
                      Or.inr (fun W hB => known_val rfl (by go_simp)),
                      Or.inr (fun W hB => known_call 30 #[.int .i64 (v : Int)] (HDEC.out W) rfl (by go_simp)),
                      Or.inr (fun W hB => known_val rfl (by go_simp)),
                      Or.inr (fun W hB => known_val rfl (by go_simp)),
                      Or.inr (fun W hB => known_val rfl (by go_simp)),
                      Or.inr (fun W hB => known_val rfl (by go_simp)),
                      Or.inr (fun W hB => known_val rfl (by go_simp)),
                      Or.inr (fun W hB => known_val rfl (by go_simp)), trivial⟩
                  intro G W hB hM
                  replace E : JEnv7 w l W := ⟨E.h0.below (drewB hB) E.h0.lt, E.h1.below (drewB hB) E.h1.lt, E.below.trans ((drewB hB).mono E.below.size)⟩
                  clear hM hB G
                  refine wpAny_end (by kernel_rfl) ?_ _
                  refine NoPanic.normal ?_
                  clear hstr tD tDn
                  clear eq0 hgd hcq
                  have hll := HCV.out.len
                  have hb8 : (v : Int) = (b.toNat : Int) := by omega
                  rw [hb8]
                  by_cases hk3 : k < 3
                  · have t3 : decide ((k : Int) < 3) = true := by simp; omega
                    have hql : q < s.size := hql0
                    have tl : decide ((s.size : Int) ≤ (q : Int)) = false := by simp; omega
                    have iq : (q : Int) < (s.size : Int) := by omega
                    have eq := bAt_eq s q hql
                    have hbq : bAt s q = s.data.toList.getD q 0 := rfl
                    by_cases h46 : bAt s q = 46
                    · rw [h46] at eq
                      have hn := rd_next HCV.out hk3 HSC.out b HBS.out (by rw [← HQ.out]; exact hql) (by rw [← HQ.out, ← hbq]; exact h46)
                      rw [← HQ.out] at hn
                      have HN := Lib.hid hn
                      clear hn hbq h46
                      have hput := E.h1.setB k b
                      have hcell := E.h1.byte k (by rw [List.length_append, List.length_drop, List.length_replicate]; omega)
                      have hfro := E.h1.frozen k
                      have hsn := set_next l (List.replicate 4 0) 4 rfl (by omega) b
                      rw [hll] at hsn hput
                      rw [hsn] at hput
                      have hE' : JEnv7 w (l ++ [b]) (W.setCell ⟨w.heap.size + 1, k, none⟩ (B8 b)) := ⟨E.h0.other (by show w.heap.size ≠ w.heap.size + 1; omega) _, hput, E.below.setCell (by show w.heap.size ≤ w.heap.size + 1; omega) _⟩
                      have HE' := Lib.hid hE'
                      generalize (l ++ List.drop l.length (List.replicate 4 0)).getD k 0 = old at hcell
                      clear hput hsn E
                      go_wp2
                      exact ⟨⟨k + 1, q + 1, l ++ [b], by go_num, by go_num, HN.out, HE'.out⟩, by simp [intOf]; omega⟩
                    · have hno := rd_fail2 HCV.out hk3 HSC.out (Or.inr (by rw [← HQ.out, ← hbq]; exact h46))
                      have HNO := Lib.hid hno
                      have tz : (((bAt s q).toNat : Int) != 46) = true := by
                        rw [bne_iff_ne]
                        intro h
                        exact h46 (UInt8.toNat_inj.1 (by show (bAt s q).toNat = 46; omega))
                      generalize bAt s q = z at tz eq
                      clear hno hbq h46
                      have hput := E.h1.setB k b
                      have hcell := E.h1.byte k (by rw [List.length_append, List.length_drop, List.length_replicate]; omega)
                      have hfro := E.h1.frozen k
                      have hsn := set_next l (List.replicate 4 0) 4 rfl (by omega) b
                      rw [hll] at hsn hput
                      rw [hsn] at hput
                      have hE' : JEnv7 w (l ++ [b]) (W.setCell ⟨w.heap.size + 1, k, none⟩ (B8 b)) := ⟨E.h0.other (by show w.heap.size ≠ w.heap.size + 1; omega) _, hput, E.below.setCell (by show w.heap.size ≤ w.heap.size + 1; omega) _⟩
                      have HE' := Lib.hid hE'
                      generalize (l ++ List.drop l.length (List.replicate 4 0)).getD k 0 = old at hcell
                      clear hput hsn E
                      have HEV := HE'
                      have c0 := HE'.out.h0.byte 0 (by show 0 < 4; omega)
                      have c1 := HE'.out.h0.byte 1 (by show 1 < 4; omega)
                      have c2 := HE'.out.h0.byte 2 (by show 2 < 4; omega)
                      have c3 := HE'.out.h0.byte 3 (by show 3 < 4; omega)
                      have f0 := HE'.out.h0.frozen 0
                      have f1 := HE'.out.h0.frozen 1
                      have f2 := HE'.out.h0.frozen 2
                      have f3 := HE'.out.h0.frozen 3

                      go_upto_region 13 with fail
                      change Code.wp _ _ _ _ (W.setCell ⟨w.heap.size + 1, k, none⟩ (B8 b))
                      generalize W.setCell ⟨w.heap.size + 1, k, none⟩ (B8 b) = W1 at HE' HEV c0 c1 c2 c3 f0 f1 f2 f3 ⊢
                      clear hcell hfro
                      go_wp2
                      refine bodyPost_ret (v := .tuple #[.agg z4, .bool false]) (results_row_tmp (fn := Tryd.f18) (p := 2) (u := 3) (ty := 25) rfl _ _ w.heap.size 25 z4 (0, 0) _ rfl (((((HEV.out.h0).setB 0 0).setB 1 0).setB 2 0).setB 3 0) Tryd.underlying25 rfl (hi.out [0, 0, 0, 0] rfl)) rfl ⟨?_, Or.inr ⟨HNO.out, rfl⟩⟩
                      exact ((((HEV.out.below).setCell (p := ⟨w.heap.size, 0, none⟩) (Nat.le_refl _) (B8 0)).setCell (p := ⟨w.heap.size, 1, none⟩) (Nat.le_refl _) (B8 0)).setCell (p := ⟨w.heap.size, 2, none⟩) (Nat.le_refl _) (B8 0)).setCell (p := ⟨w.heap.size, 3, none⟩) (Nat.le_refl _) (B8 0)
                  · have t3 : decide ((k : Int) < 3) = false := by simp; omega
                    have hk3' : k = 3 := by omega
                    subst hk3'
                    have hn := rd_last HCV.out HSC.out b HBS.out (by rw [← HQ.out]; show q ≤ s.size; omega)
                    rw [← HQ.out] at hn
                    have HN := Lib.hid hn
                    clear hn
                    have hput := E.h1.setB 3 b
                    have hcell := E.h1.byte 3 (by rw [List.length_append, List.length_drop, List.length_replicate]; omega)
                    have hfro := E.h1.frozen 3
                    have hsn := set_next l (List.replicate 4 0) 4 rfl (by omega) b
                    rw [hll] at hsn hput
                    rw [hsn] at hput
                    have hE' : JEnv7 w (l ++ [b]) (W.setCell ⟨w.heap.size + 1, 3, none⟩ (B8 b)) := ⟨E.h0.other (by show w.heap.size ≠ w.heap.size + 1; omega) _, hput, E.below.setCell (by show w.heap.size ≤ w.heap.size + 1; omega) _⟩
                    have HE' := Lib.hid hE'
                    generalize (l ++ List.drop l.length (List.replicate 4 0)).getD 3 0 = old at hcell
                    clear hput hsn E
                    go_wp2
                    exact ⟨⟨4, q, l ++ [b], by go_num, by go_num, HN.out, HE'.out⟩, by simp [intOf]⟩
                · have hne : (D != seg) = true := by rw [bne_iff_ne]; exact hDs
                  have hnb : (D == seg) = false := by rw [beq_eq_false_iff_ne]; exact hDs
                  have hno := rd_fail hcv hk4 HSC.out (Or.inr (Or.inr (by rw [← hdv, HSEG0.out]; exact hDs)))
                  have HNO := Lib.hid hno
                  clear hno hcv hseg0 hdv hDs
                  go_upto_region 10 with fail
                  refine wp_region_noPanic ?_
                  refine wp_region_flow (fin := ?fin11) 16 0 (by kernel_rfl) [.inl (.int .i64 (q : Int)),
                    .inl (.int .i64 (p : Int)),
                    .inl (.bool false),
                    .inl (.bool false),
                    .inl (.int .i64 (v : Int)),
                    .inl (.bool false),
                    .inl (.bool false),
                    .inl (.bool false),
                    .inl (.int .i64 (v : Int)),
                    .inl (S9 D),
                    .inl (.string s),
                    .inl (.int .i64 (p : Int)),
                    .inl (.int .i64 (q : Int)),
                    .inl (S9 seg),
                    .inl (.bool true),
                    .inl (.bool true)] rfl rfl (by kernel_rfl) ?hfin11 ?hE11 ?hend11
                  case hfin11 =>
                    intro G
                    simp only [flowAll, flowVal, Act.put, List.setIfInBounds_toArray, List.set_cons_zero, List.set_cons_succ]
                    exact rfl
                  case hE11 =>
                    intro G
                    refine ⟨Or.inr (fun W hB => known_val rfl (by go_simp)),
                      Or.inr (fun W hB => known_val rfl (by go_simp)),
                      Or.inr (fun W hB => known_val rfl (by go_simp)),
                      Or.inr (fun W hB => known_val rfl (by go_simp)),
                      Or.inr (fun W hB => known_val rfl (by go_simp)),
                      Or.inr (fun W hB => known_val rfl (by go_simp)),
                      Or.inr (fun W hB => known_val rfl (by go_simp)),
                      Or.inr (fun W hB => known_val rfl (by go_simp)),
                      Or.inr (fun W hB => known_val rfl (by go_simp)),
                      Or.inr (fun W hB => known_call 30 #[.int .i64 (v : Int)] (HDEC.out W) rfl (by go_simp)),
                      Or.inr (fun W hB => known_val rfl (by go_simp)),
                      Or.inr (fun W hB => known_val rfl (by go_simp)),
                      Or.inr (fun W hB => known_val rfl (by go_simp)),
                      Or.inr (fun W hB => known_val rfl (by go_simp)),
                      Or.inr (fun W hB => known_val rfl (by go_simp)),
                      Or.inr (fun W hB => known_val rfl (by go_simp)), trivial⟩
                  intro G W hB hM
                  replace E : JEnv7 w l W := ⟨E.h0.below (drewB hB) E.h0.lt, E.h1.below (drewB hB) E.h1.lt, E.below.trans ((drewB hB).mono E.below.size)⟩
                  clear hM hB G
                  refine wpAny_end (by kernel_rfl) ?_ _
                  refine NoPanic.normal ?_
                  have c0 := E.h0.byte 0 (by show 0 < 4; omega)
                  have c1 := E.h0.byte 1 (by show 1 < 4; omega)
                  have c2 := E.h0.byte 2 (by show 2 < 4; omega)
                  have c3 := E.h0.byte 3 (by show 3 < 4; omega)
                  have f0 := E.h0.frozen 0
                  have f1 := E.h0.frozen 1
                  have f2 := E.h0.frozen 2
                  have f3 := E.h0.frozen 3
                  have HEV := Lib.hid E
                  clear E
                  go_wp2
                  refine bodyPost_ret (v := .tuple #[.agg z4, .bool false]) (results_row_tmp (fn := Tryd.f18) (p := 2) (u := 3) (ty := 25) rfl _ _ w.heap.size 25 z4 (0, 0) _ rfl (((((HEV.out.h0).setB 0 0).setB 1 0).setB 2 0).setB 3 0) Tryd.underlying25 rfl (hi.out [0, 0, 0, 0] rfl)) rfl ⟨?_, Or.inr ⟨HNO.out, rfl⟩⟩
                  exact ((((HEV.out.below).setCell (p := ⟨w.heap.size, 0, none⟩) (Nat.le_refl _) (B8 0)).setCell (p := ⟨w.heap.size, 1, none⟩) (Nat.le_refl _) (B8 0)).setCell (p := ⟨w.heap.size, 2, none⟩) (Nat.le_refl _) (B8 0)).setCell (p := ⟨w.heap.size, 3, none⟩) (Nat.le_refl _) (B8 0)
        · have t1 : decide ((q : Int) < (s.size : Int)) = false := by simp; omega
          have hS : Scan (s.data.toList.drop p) j := ⟨hj3, by omega, hscan.out, Or.inr (Or.inl (by omega))⟩
          have HSC := Lib.hid hS
          have hcv := hI.out
          clear hscan hS
          by_cases hj0 : j = 0
          · have hno := rd_fail hcv hk4 HSC.out (Or.inl hj0)
            have HNO := Lib.hid hno
            clear hno hcv
            have hqp : p = q := by omega
            clear hj0
            subst hqp
            go_upto_region 10 with fail
            refine wp_region_noPanic ?_
            refine wp_region_flow (fin := ?fin12) 16 0 (by kernel_rfl) [.inl (.int .i64 (p : Int)),
              .inl (.int .i64 (p : Int)),
              .inl (.bool true),
              .inl (.bool true),
              .inl undef,
              .inl undef,
              .inl (.bool true),
              .inl (.bool true),
              .inl undef,
              .inl undef,
              .inl undef,
              .inl undef,
              .inl undef,
              .inl undef,
              .inl undef,
              .inl (.bool true)] rfl rfl (by kernel_rfl) ?hfin12 ?hE12 ?hend12
            case hfin12 =>
              intro G
              simp only [flowAll, flowVal, Act.put, List.setIfInBounds_toArray, List.set_cons_zero, List.set_cons_succ]
              exact rfl
            case hE12 =>
              intro G
              refine ⟨Or.inr (fun W hB => known_val rfl (by go_simp)),
                Or.inr (fun W hB => known_val rfl (by go_simp)),
                Or.inr (fun W hB => known_val rfl (by go_simp)),
                Or.inr (fun W hB => known_val rfl (by go_simp)),
                Or.inr (fun W hB => Or.inr ⟨rfl, rfl⟩),
                Or.inr (fun W hB => Or.inr ⟨rfl, rfl⟩),
                Or.inr (fun W hB => known_val rfl (by go_simp)),
                Or.inr (fun W hB => known_val rfl (by go_simp)),
                Or.inr (fun W hB => Or.inr ⟨rfl, rfl⟩),
                Or.inr (fun W hB => Or.inr ⟨rfl, rfl⟩),
                Or.inr (fun W hB => Or.inr ⟨rfl, rfl⟩),
                Or.inr (fun W hB => Or.inr ⟨rfl, rfl⟩),
                Or.inr (fun W hB => Or.inr ⟨rfl, rfl⟩),
                Or.inr (fun W hB => Or.inr ⟨rfl, rfl⟩),
                Or.inr (fun W hB => Or.inr ⟨rfl, rfl⟩),
                Or.inr (fun W hB => known_val rfl (by go_simp)), trivial⟩
            intro G W hB hM
            replace E : JEnv7 w l W := ⟨E.h0.below (drewB hB) E.h0.lt, E.h1.below (drewB hB) E.h1.lt, E.below.trans ((drewB hB).mono E.below.size)⟩
            clear hM hB G
            refine wpAny_end (by kernel_rfl) ?_ _
            refine NoPanic.normal ?_
            have c0 := E.h0.byte 0 (by show 0 < 4; omega)
            have c1 := E.h0.byte 1 (by show 1 < 4; omega)
            have c2 := E.h0.byte 2 (by show 2 < 4; omega)
            have c3 := E.h0.byte 3 (by show 3 < 4; omega)
            have f0 := E.h0.frozen 0
            have f1 := E.h0.frozen 1
            have f2 := E.h0.frozen 2
            have f3 := E.h0.frozen 3
            have HEV := Lib.hid E
            clear E
            go_wp2
            refine bodyPost_ret (v := .tuple #[.agg z4, .bool false]) (results_row_tmp (fn := Tryd.f18) (p := 2) (u := 3) (ty := 25) rfl _ _ w.heap.size 25 z4 (0, 0) _ rfl (((((HEV.out.h0).setB 0 0).setB 1 0).setB 2 0).setB 3 0) Tryd.underlying25 rfl (hi.out [0, 0, 0, 0] rfl)) rfl ⟨?_, Or.inr ⟨HNO.out, rfl⟩⟩
            exact ((((HEV.out.below).setCell (p := ⟨w.heap.size, 0, none⟩) (Nat.le_refl _) (B8 0)).setCell (p := ⟨w.heap.size, 1, none⟩) (Nat.le_refl _) (B8 0)).setCell (p := ⟨w.heap.size, 2, none⟩) (Nat.le_refl _) (B8 0)).setCell (p := ⟨w.heap.size, 3, none⟩) (Nat.le_refl _) (B8 0)
          · have nqp : ¬ ((q : Int) = (p : Int)) := by omega
            by_cases h255 : 255 < v
            · have hno := rd_fail hcv hk4 HSC.out (Or.inr (Or.inl (by rw [← hv.out]; exact h255)))
              have HNO := Lib.hid hno
              clear hno hcv
              have tv : decide ((255 : Int) < (v : Int)) = true := by simp; omega
              go_upto_region 10 with fail
              refine wp_region_noPanic ?_
              refine wp_region_flow (fin := ?fin13) 16 0 (by kernel_rfl) [.inl (.int .i64 (q : Int)),
                .inl (.int .i64 (p : Int)),
                .inl (.bool false),
                .inl (.bool false),
                .inl (.int .i64 (v : Int)),
                .inl (.bool true),
                .inl (.bool true),
                .inl (.bool true),
                .inl undef,
                .inl undef,
                .inl undef,
                .inl undef,
                .inl undef,
                .inl undef,
                .inl undef,
                .inl (.bool true)] rfl rfl (by kernel_rfl) ?hfin13 ?hE13 ?hend13
              case hfin13 =>
                intro G
                simp only [flowAll, flowVal, Act.put, List.setIfInBounds_toArray, List.set_cons_zero, List.set_cons_succ]
                exact rfl
              case hE13 =>
                intro G
                refine ⟨Or.inr (fun W hB => known_val rfl (by go_simp)),
                  Or.inr (fun W hB => known_val rfl (by go_simp)),
                  Or.inr (fun W hB => known_val rfl (by go_simp)),
                  Or.inr (fun W hB => known_val rfl (by go_simp)),
                  Or.inr (fun W hB => known_val rfl (by go_simp)),
                  Or.inr (fun W hB => known_val rfl (by go_simp)),
                  Or.inr (fun W hB => known_val rfl (by go_simp)),
                  Or.inr (fun W hB => known_val rfl (by go_simp)),
                  Or.inr (fun W hB => Or.inr ⟨rfl, rfl⟩),
                  Or.inr (fun W hB => Or.inr ⟨rfl, rfl⟩),
                  Or.inr (fun W hB => Or.inr ⟨rfl, rfl⟩),
                  Or.inr (fun W hB => Or.inr ⟨rfl, rfl⟩),
                  Or.inr (fun W hB => Or.inr ⟨rfl, rfl⟩),
                  Or.inr (fun W hB => Or.inr ⟨rfl, rfl⟩),
                  Or.inr (fun W hB => Or.inr ⟨rfl, rfl⟩),
                  Or.inr (fun W hB => known_val rfl (by go_simp)), trivial⟩
              intro G W hB hM
              replace E : JEnv7 w l W := ⟨E.h0.below (drewB hB) E.h0.lt, E.h1.below (drewB hB) E.h1.lt, E.below.trans ((drewB hB).mono E.below.size)⟩
              clear hM hB G
              refine wpAny_end (by kernel_rfl) ?_ _
              refine NoPanic.normal ?_
              have c0 := E.h0.byte 0 (by show 0 < 4; omega)
              have c1 := E.h0.byte 1 (by show 1 < 4; omega)
              have c2 := E.h0.byte 2 (by show 2 < 4; omega)
              have c3 := E.h0.byte 3 (by show 3 < 4; omega)
              have f0 := E.h0.frozen 0
              have f1 := E.h0.frozen 1
              have f2 := E.h0.frozen 2
              have f3 := E.h0.frozen 3
              have HEV := Lib.hid E
              clear E
              go_wp2
              refine bodyPost_ret (v := .tuple #[.agg z4, .bool false]) (results_row_tmp (fn := Tryd.f18) (p := 2) (u := 3) (ty := 25) rfl _ _ w.heap.size 25 z4 (0, 0) _ rfl (((((HEV.out.h0).setB 0 0).setB 1 0).setB 2 0).setB 3 0) Tryd.underlying25 rfl (hi.out [0, 0, 0, 0] rfl)) rfl ⟨?_, Or.inr ⟨HNO.out, rfl⟩⟩
              exact ((((HEV.out.below).setCell (p := ⟨w.heap.size, 0, none⟩) (Nat.le_refl _) (B8 0)).setCell (p := ⟨w.heap.size, 1, none⟩) (Nat.le_refl _) (B8 0)).setCell (p := ⟨w.heap.size, 2, none⟩) (Nat.le_refl _) (B8 0)).setCell (p := ⟨w.heap.size, 3, none⟩) (Nat.le_refl _) (B8 0)
            · have tv : decide ((255 : Int) < (v : Int)) = false := by simp; omega
              have hdec := fun W => dec_any v hv3 W
              have hdv : dec3 v = dec3 (decV ((s.data.toList.drop p).take j)) := by rw [← hv.out]
              have hseg0 : (s.data.toList.drop p).take j = (s.extract p q).data.toList := by rw [seg_extract, HQ.out]; congr 1; omega
              have hstr := str_is (s := s.extract p q) rfl
              have hofN := dec3_ofNat v (by omega)
              have hbN : (UInt8.ofNat v).toNat = v := by rw [UInt8.toNat_ofNat']; omega
              obtain ⟨D, hD⟩ : ∃ D, dec3 v = D := ⟨_, rfl⟩
              obtain ⟨seg, hseg⟩ : ∃ seg, (s.extract p q).data.toList = seg := ⟨_, rfl⟩
              obtain ⟨b, hbd⟩ : ∃ b, UInt8.ofNat v = b := ⟨_, rfl⟩
              rw [hseg] at hstr hseg0
              rw [hD] at hofN hdv hdec
              rw [hbd] at hofN hbN
              have HDEC := Lib.hid hdec
              have HD := Lib.hid (And.intro hD (And.intro hseg hbd))
              have HSEG0 := Lib.hid hseg0
              have HOF := Lib.hid hofN
              clear hD hseg hbd hdec hofN
              have ipq1 : (0 : Int) ≤ (p : Int) := by omega
              have ipq2 : (p : Int) ≤ (q : Int) := by omega
              have ipq3 : (q : Int) ≤ (s.size : Int) := by omega
              by_cases hDs : D = seg
              · have tD : (D == seg) = true := by rw [hDs]; exact beq_self_eq_true _
                have hbs : (s.data.toList.drop p).take j = decL b := by rw [HSEG0.out, HOF.out, hDs]
                have HBS := Lib.hid hbs
                have HCV := Lib.hid hcv
                clear hbs hcv hseg0 hdv
                have tDn : (D != seg) = false := by rw [hDs]; simp
                go_upto_region 10 with fail
                refine wp_region_noPanic ?_
                refine wp_region_flow (fin := ?fin14) 16 0 (by kernel_rfl) [.inl (.int .i64 (q : Int)),
                  .inl (.int .i64 (p : Int)),
                  .inl (.bool false),
                  .inl (.bool false),
                  .inl (.int .i64 (v : Int)),
                  .inl (.bool false),
                  .inl (.bool false),
                  .inl (.bool false),
                  .inl (.int .i64 (v : Int)),
                  .inl (S9 D),
                  .inl (.string s),
                  .inl (.int .i64 (p : Int)),
                  .inl (.int .i64 (q : Int)),
                  .inl (S9 seg),
                  .inl (.bool false),
                  .inl (.bool false)] rfl rfl (by kernel_rfl) ?hfin14 ?hE14 ?hend14
                case hfin14 =>
                  intro G
                  simp only [flowAll, flowVal, Act.put, List.setIfInBounds_toArray, List.set_cons_zero, List.set_cons_succ]
                  exact rfl
                case hE14 =>
                  intro G
                  refine ⟨Or.inr (fun W hB => known_val rfl (by go_simp)),
                    Or.inr (fun W hB => known_val rfl (by go_simp)),
                    Or.inr (fun W hB => known_val rfl (by go_simp)),
                    Or.inr (fun W hB => known_val rfl (by go_simp)),
                    Or.inr (fun W hB => known_val rfl (by go_simp)),
                    Or.inr (fun W hB => known_val rfl (by go_simp)),
                    Or.inr (fun W hB => known_val rfl (by go_simp)),
                    Or.inr (fun W hB => known_val rfl (by go_simp)),
                    Or.inr (fun W hB => known_val rfl (by go_simp)),
                    Or.inr (fun W hB => known_call 30 #[.int .i64 (v : Int)] (HDEC.out W) rfl (by go_simp)),
                    Or.inr (fun W hB => known_val rfl (by go_simp)),
                    Or.inr (fun W hB => known_val rfl (by go_simp)),
                    Or.inr (fun W hB => known_val rfl (by go_simp)),
                    Or.inr (fun W hB => known_val rfl (by go_simp)),
                    Or.inr (fun W hB => known_val rfl (by go_simp)),
                    Or.inr (fun W hB => known_val rfl (by go_simp)), trivial⟩
                intro G W hB hM
                replace E : JEnv7 w l W := ⟨E.h0.below (drewB hB) E.h0.lt, E.h1.below (drewB hB) E.h1.lt, E.below.trans ((drewB hB).mono E.below.size)⟩
                clear hM hB G
                refine wpAny_end (by kernel_rfl) ?_ _
                refine NoPanic.normal ?_
                clear hstr tD tDn
                skip
                have hll := HCV.out.len
                have hb8 : (v : Int) = (b.toNat : Int) := by omega
                rw [hb8]
                by_cases hk3 : k < 3
                · have t3 : decide ((k : Int) < 3) = true := by simp; omega
                  have hql : ¬ q < s.size := hql0
                  have tl : decide ((s.size : Int) ≤ (q : Int)) = true := by simp; omega
                  have hno := rd_fail2 HCV.out hk3 HSC.out (Or.inl (by rw [← HQ.out]; show s.size ≤ q; omega))
                  have HNO := Lib.hid hno
                  clear hno
                  have hput := E.h1.setB k b
                  have hcell := E.h1.byte k (by rw [List.length_append, List.length_drop, List.length_replicate]; omega)
                  have hfro := E.h1.frozen k
                  have hsn := set_next l (List.replicate 4 0) 4 rfl (by omega) b
                  rw [hll] at hsn hput
                  rw [hsn] at hput
                  have hE' : JEnv7 w (l ++ [b]) (W.setCell ⟨w.heap.size + 1, k, none⟩ (B8 b)) := ⟨E.h0.other (by show w.heap.size ≠ w.heap.size + 1; omega) _, hput, E.below.setCell (by show w.heap.size ≤ w.heap.size + 1; omega) _⟩
                  have HE' := Lib.hid hE'
                  generalize (l ++ List.drop l.length (List.replicate 4 0)).getD k 0 = old at hcell
                  clear hput hsn E
                  have HEV := HE'
                  have c0 := HE'.out.h0.byte 0 (by show 0 < 4; omega)
                  have c1 := HE'.out.h0.byte 1 (by show 1 < 4; omega)
                  have c2 := HE'.out.h0.byte 2 (by show 2 < 4; omega)
                  have c3 := HE'.out.h0.byte 3 (by show 3 < 4; omega)
                  have f0 := HE'.out.h0.frozen 0
                  have f1 := HE'.out.h0.frozen 1
                  have f2 := HE'.out.h0.frozen 2
                  have f3 := HE'.out.h0.frozen 3

                  go_upto_region 13 with fail
                  change Code.wp _ _ _ _ (W.setCell ⟨w.heap.size + 1, k, none⟩ (B8 b))
                  generalize W.setCell ⟨w.heap.size + 1, k, none⟩ (B8 b) = W1 at HE' HEV c0 c1 c2 c3 f0 f1 f2 f3 ⊢
                  clear hcell hfro
                  go_wp2
                  refine bodyPost_ret (v := .tuple #[.agg z4, .bool false]) (results_row_tmp (fn := Tryd.f18) (p := 2) (u := 3) (ty := 25) rfl _ _ w.heap.size 25 z4 (0, 0) _ rfl (((((HEV.out.h0).setB 0 0).setB 1 0).setB 2 0).setB 3 0) Tryd.underlying25 rfl (hi.out [0, 0, 0, 0] rfl)) rfl ⟨?_, Or.inr ⟨HNO.out, rfl⟩⟩
                  exact ((((HEV.out.below).setCell (p := ⟨w.heap.size, 0, none⟩) (Nat.le_refl _) (B8 0)).setCell (p := ⟨w.heap.size, 1, none⟩) (Nat.le_refl _) (B8 0)).setCell (p := ⟨w.heap.size, 2, none⟩) (Nat.le_refl _) (B8 0)).setCell (p := ⟨w.heap.size, 3, none⟩) (Nat.le_refl _) (B8 0)
                · have t3 : decide ((k : Int) < 3) = false := by simp; omega
                  have hk3' : k = 3 := by omega
                  subst hk3'
                  have hn := rd_last HCV.out HSC.out b HBS.out (by rw [← HQ.out]; show q ≤ s.size; omega)
                  rw [← HQ.out] at hn
                  have HN := Lib.hid hn
                  clear hn
                  have hput := E.h1.setB 3 b
                  have hcell := E.h1.byte 3 (by rw [List.length_append, List.length_drop, List.length_replicate]; omega)
                  have hfro := E.h1.frozen 3
                  have hsn := set_next l (List.replicate 4 0) 4 rfl (by omega) b
                  rw [hll] at hsn hput
                  rw [hsn] at hput
                  have hE' : JEnv7 w (l ++ [b]) (W.setCell ⟨w.heap.size + 1, 3, none⟩ (B8 b)) := ⟨E.h0.other (by show w.heap.size ≠ w.heap.size + 1; omega) _, hput, E.below.setCell (by show w.heap.size ≤ w.heap.size + 1; omega) _⟩
                  have HE' := Lib.hid hE'
                  generalize (l ++ List.drop l.length (List.replicate 4 0)).getD 3 0 = old at hcell
                  clear hput hsn E
                  go_wp2
                  exact ⟨⟨4, q, l ++ [b], by go_num, by go_num, HN.out, HE'.out⟩, by simp [intOf]⟩
              · have hne : (D != seg) = true := by rw [bne_iff_ne]; exact hDs
                have hnb : (D == seg) = false := by rw [beq_eq_false_iff_ne]; exact hDs
                have hno := rd_fail hcv hk4 HSC.out (Or.inr (Or.inr (by rw [← hdv, HSEG0.out]; exact hDs)))
                have HNO := Lib.hid hno
                clear hno hcv hseg0 hdv hDs
                go_upto_region 10 with fail
                refine wp_region_noPanic ?_
                refine wp_region_flow (fin := ?fin15) 16 0 (by kernel_rfl) [.inl (.int .i64 (q : Int)),
                  .inl (.int .i64 (p : Int)),
                  .inl (.bool false),
                  .inl (.bool false),
                  .inl (.int .i64 (v : Int)),
                  .inl (.bool false),
                  .inl (.bool false),
                  .inl (.bool false),
                  .inl (.int .i64 (v : Int)),
                  .inl (S9 D),
                  .inl (.string s),
                  .inl (.int .i64 (p : Int)),
                  .inl (.int .i64 (q : Int)),
                  .inl (S9 seg),
                  .inl (.bool true),
                  .inl (.bool true)] rfl rfl (by kernel_rfl) ?hfin15 ?hE15 ?hend15
                case hfin15 =>
                  intro G
                  simp only [flowAll, flowVal, Act.put, List.setIfInBounds_toArray, List.set_cons_zero, List.set_cons_succ]
                  exact rfl
                case hE15 =>
                  intro G
                  refine ⟨Or.inr (fun W hB => known_val rfl (by go_simp)),
                    Or.inr (fun W hB => known_val rfl (by go_simp)),
                    Or.inr (fun W hB => known_val rfl (by go_simp)),
                    Or.inr (fun W hB => known_val rfl (by go_simp)),
                    Or.inr (fun W hB => known_val rfl (by go_simp)),
                    Or.inr (fun W hB => known_val rfl (by go_simp)),
                    Or.inr (fun W hB => known_val rfl (by go_simp)),
                    Or.inr (fun W hB => known_val rfl (by go_simp)),
                    Or.inr (fun W hB => known_val rfl (by go_simp)),
                    Or.inr (fun W hB => known_call 30 #[.int .i64 (v : Int)] (HDEC.out W) rfl (by go_simp)),
                    Or.inr (fun W hB => known_val rfl (by go_simp)),
                    Or.inr (fun W hB => known_val rfl (by go_simp)),
                    Or.inr (fun W hB => known_val rfl (by go_simp)),
                    Or.inr (fun W hB => known_val rfl (by go_simp)),
                    Or.inr (fun W hB => known_val rfl (by go_simp)),
                    Or.inr (fun W hB => known_val rfl (by go_simp)), trivial⟩
                intro G W hB hM
                replace E : JEnv7 w l W := ⟨E.h0.below (drewB hB) E.h0.lt, E.h1.below (drewB hB) E.h1.lt, E.below.trans ((drewB hB).mono E.below.size)⟩
                clear hM hB G
                refine wpAny_end (by kernel_rfl) ?_ _
                refine NoPanic.normal ?_
                have c0 := E.h0.byte 0 (by show 0 < 4; omega)
                have c1 := E.h0.byte 1 (by show 1 < 4; omega)
                have c2 := E.h0.byte 2 (by show 2 < 4; omega)
                have c3 := E.h0.byte 3 (by show 3 < 4; omega)
                have f0 := E.h0.frozen 0
                have f1 := E.h0.frozen 1
                have f2 := E.h0.frozen 2
                have f3 := E.h0.frozen 3
                have HEV := Lib.hid E
                clear E
                go_wp2
                refine bodyPost_ret (v := .tuple #[.agg z4, .bool false]) (results_row_tmp (fn := Tryd.f18) (p := 2) (u := 3) (ty := 25) rfl _ _ w.heap.size 25 z4 (0, 0) _ rfl (((((HEV.out.h0).setB 0 0).setB 1 0).setB 2 0).setB 3 0) Tryd.underlying25 rfl (hi.out [0, 0, 0, 0] rfl)) rfl ⟨?_, Or.inr ⟨HNO.out, rfl⟩⟩
                exact ((((HEV.out.below).setCell (p := ⟨w.heap.size, 0, none⟩) (Nat.le_refl _) (B8 0)).setCell (p := ⟨w.heap.size, 1, none⟩) (Nat.le_refl _) (B8 0)).setCell (p := ⟨w.heap.size, 2, none⟩) (Nat.le_refl _) (B8 0)).setCell (p := ⟨w.heap.size, 3, none⟩) (Nat.le_refl _) (B8 0)
    · have hk5 : k = 4 := by omega
      subst hk5
      have hl4 := hI.out.len
      have h1 := E.h1
      rw [List.drop_eq_nil_of_le (by rw [List.length_replicate]; omega), List.append_nil] at h1
      obtain ⟨x0, x1, x2, x3, rfl⟩ := four l hl4
      have c0 := E.h0.byte 0 (by show 0 < 4; omega)
      have c1 := E.h0.byte 1 (by show 1 < 4; omega)
      have c2 := E.h0.byte 2 (by show 2 < 4; omega)
      have c3 := E.h0.byte 3 (by show 3 < 4; omega)
      have d0 := h1.byte 0 (by show 0 < 4; omega)
      have d1 := h1.byte 1 (by show 1 < 4; omega)
      have d2 := h1.byte 2 (by show 2 < 4; omega)
      have d3 := h1.byte 3 (by show 3 < 4; omega)
      have f0 := E.h0.frozen 0
      have f1 := E.h0.frozen 1
      have f2 := E.h0.frozen 2
      have f3 := E.h0.frozen 3
      by_cases hpe : p = s.size
      · have tp : ((p : Int) != (s.size : Int)) = false := by rw [hpe]; simp
        have hend := rd_end hI.out (by show p = s.size; exact hpe)
        have HM := Lib.hid hend
        have HEV := Lib.hid E
        clear hend h1 E hl4 hpe
        go_wp2
        refine bodyPost_ret (v := .tuple #[.agg (bs [x0, x1, x2, x3]), .bool true]) (results_row_tmp (fn := Tryd.f18) (p := 2) (u := 3) (ty := 25) rfl _ _ w.heap.size 25 (bs [x0, x1, x2, x3]) (0, 0) _ rfl (((((HEV.out.h0).setB 0 x0).setB 1 x1).setB 2 x2).setB 3 x3) Tryd.underlying25 rfl (hi.out [x0, x1, x2, x3] rfl)) rfl ⟨?_, Or.inl ⟨_, rfl, HM.out, rfl⟩⟩
        exact ((((HEV.out.below).setCell (p := ⟨w.heap.size, 0, none⟩) (Nat.le_refl _) (B8 x0)).setCell (p := ⟨w.heap.size, 1, none⟩) (Nat.le_refl _) (B8 x1)).setCell (p := ⟨w.heap.size, 2, none⟩) (Nat.le_refl _) (B8 x2)).setCell (p := ⟨w.heap.size, 3, none⟩) (Nat.le_refl _) (B8 x3)
      · have tp : ((p : Int) != (s.size : Int)) = true := by rw [bne_iff_ne]; omega
        have hno := rd_long hI.out (by show p ≠ s.size; exact hpe)
        have HNO := Lib.hid hno
        have HEV := Lib.hid E
        clear hno h1 E hl4 hpe d0 d1 d2 d3
        go_wp2
        refine bodyPost_ret (v := .tuple #[.agg z4, .bool false]) (results_row_tmp (fn := Tryd.f18) (p := 2) (u := 3) (ty := 25) rfl _ _ w.heap.size 25 z4 (0, 0) _ rfl (((((HEV.out.h0).setB 0 0).setB 1 0).setB 2 0).setB 3 0) Tryd.underlying25 rfl (hi.out [0, 0, 0, 0] rfl)) rfl ⟨?_, Or.inr ⟨HNO.out, rfl⟩⟩
        exact ((((HEV.out.below).setCell (p := ⟨w.heap.size, 0, none⟩) (Nat.le_refl _) (B8 0)).setCell (p := ⟨w.heap.size, 1, none⟩) (Nat.le_refl _) (B8 0)).setCell (p := ⟨w.heap.size, 2, none⟩) (Nat.le_refl _) (B8 0)).setCell (p := ⟨w.heap.size, 3, none⟩) (Nat.le_refl _) (B8 0)
end Go.Proofs.YtbeeebnocliaiaaDoor
