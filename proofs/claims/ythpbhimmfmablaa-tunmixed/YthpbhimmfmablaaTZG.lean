/- The law TunMixed: the texts that are looked at. -/
import Derived.Test.YthpbhimmfmablaaTZF
namespace Go.Proofs.Ythpbhimmfmablaa
open Go.RowKit
set_option maxRecDepth 20000 in
set_option maxHeartbeats 1000000 in
theorem mixed_go (n m : Nat) (hn : n < 4294967296) (hm : m < 4294967296) (s t : ByteArray) (a : Option Addr) (len cap : Nat) (B : Nat → Bool) (h1 : ¬ 1536 < s.size) (h2 : ¬ 1536 < t.size) (h3 : ¬ s.size = 0) (h4 : ¬ t.size = 0) (h5 : ¬ n = m) (h6 : ¬ 60 < len) (w : World) (hBo : Bools w a len B) : Calls Try.prog 7 #[.int .u32 (n : Int), .int .u32 (m : Int), .string s, .string t, .slice a len cap] w fun e w' => e = .returned (.bool true) ∧ Below w.heap.size w w' := by
  have AW := Lib.hid awake12_any
  have f1 : ¬ (1536 : Int) < (s.size : Int) := by omega
  have f2 : ¬ (1536 : Int) < (t.size : Int) := by omega
  have f3 : ((s.size : Int) == 0) = false := by rw [beq_eq_false_iff_ne]; omega
  have f4 : ((t.size : Int) == 0) = false := by rw [beq_eq_false_iff_ne]; omega
  have f5 : ((n : Int) == (m : Int)) = false := by rw [beq_eq_false_iff_ne]; omega
  have f6 : ¬ (60 : Int) < (len : Int) := by omega
  have ccs := fun W => cut_any n hn s (by omega) (by omega) W
  have cct := fun W => cut_any m hm t (by omega) (by omega) W
  have ha1 : 1 ≤ pieceN s.size := by unfold pieceN; omega
  have ha3 : pieceN s.size ≤ 3 := by unfold pieceN; omega
  have hb1 : 1 ≤ pieceN t.size := by unfold pieceN; omega
  have hb3 : pieceN t.size ≤ 3 := by unfold pieceN; omega
  have hla := cutL_length n s
  have hlb := cutL_length m t
  have hta : ∀ (S : List TS) (i : Nat), i < pieceN s.size → takeS S ((cutL n s).getD i ⟨#[]⟩) = joinS S n (pieceN s.size) i (chunk s i) := fun S i hi => by
    rw [cutL_get n s i hi]
    exact take_piece S n hn s (by omega) (by omega) i hi
  have htb : ∀ (S : List TS) (i : Nat), i < pieceN t.size → takeS S ((cutL m t).getD i ⟨#[]⟩) = joinS S m (pieceN t.size) i (chunk t i) := fun S i hi => by
    rw [cutL_get m t i hi]
    exact take_piece S m hm t (by omega) (by omega) i hi
  have hja := joinB_chunks s
  have hjb := joinB_chunks t
  generalize pieceN s.size = ca at *
  generalize pieceN t.size = cb at *
  have hz := mix_zero n m ca cb (chunk s) (chunk t)
  have he : ∀ S, Mix n m ca cb (chunk s) (chunk t) ca cb S → S = [] := fun S h => mix_end h
  have h1 : ∀ i k S, Mix n m ca cb (chunk s) (chunk t) i k S → i < ca → ∃ S', takeS S ((cutL n s).getD i ⟨#[]⟩) = (S', if i + 1 = ca then s.data.toList else [], decide (i + 1 = ca), 0) ∧ Mix n m ca cb (chunk s) (chunk t) (i + 1) k S' := fun i k S h hi => by
    rw [hta S i hi, ← hja]
    exact mix_one h h5 ha1 ha3 hi
  have h2 : ∀ i k S, Mix n m ca cb (chunk s) (chunk t) i k S → k < cb → ∃ S', takeS S ((cutL m t).getD k ⟨#[]⟩) = (S', if k + 1 = cb then t.data.toList else [], decide (k + 1 = cb), 0) ∧ Mix n m ca cb (chunk s) (chunk t) i (k + 1) S' := fun i k S h hk => by
    rw [htb S k hk, ← hjb]
    exact mix_two h h5 hb1 hb3 hk
  clear hta htb hja hjb
  obtain ⟨TA, hTA⟩ : ∃ l, s.data.toList = l := ⟨_, rfl⟩
  obtain ⟨TB, hTB⟩ : ∃ l, t.data.toList = l := ⟨_, rfl⟩
  have heA : ((⟨TA.toArray⟩ : ByteArray).data.toList == s.data.toList) = true := by rw [hTA]; simp
  have heB : ((⟨TB.toArray⟩ : ByteArray).data.toList == t.data.toList) = true := by rw [hTB]; simp
  rw [hTA] at h1
  rw [hTB] at h2
  have HEA := Lib.hid heA
  have HEB := Lib.hid heB
  clear heA heB hTA hTB
  generalize Mix n m ca cb (chunk s) (chunk t) = M at *
  generalize cutL n s = LA at *
  generalize cutL m t = LB at *
  have HZ := Lib.hid hz
  have HE := Lib.hid he
  have HA := Lib.hid h1
  have HBB := Lib.hid h2
  have CS := Lib.hid ccs
  have CT := Lib.hid cct
  have HL := Lib.hid (And.intro hla hlb)
  have HBO := Lib.hid hBo
  have HC := Lib.hid (And.intro (And.intro ha1 ha3) (And.intro hb1 hb3))
  clear hz he h1 h2 ccs cct hla hlb hBo ha1 ha3 hb1 hb3 h3 h4 h5 h6 hn hm
  go_enter Try.func7, Try.ntmps7
  go_wp2_with fail
  refine (AW.out _).mono ?_
  rintro e w1 ⟨rfl, hb1⟩
  have HB1 := Lib.hid hb1
  clear hb1
  go_wp2_with fail
  refine (CS.out _).mono ?_
  rintro e w2 ⟨rfl, hb2, hh2⟩
  have hlt2 : w1.heap.size < w2.heap.size := hh2.lt
  have HB2 := Lib.hid (And.intro (HB1.out.trans (hb2.mono HB1.out.size)) (And.intro hh2 hlt2))
  clear hb2 hh2 hlt2
  generalize w1.heap.size = ga at HB2 ⊢
  go_wp2_with fail
  refine (CT.out _).mono ?_
  rintro e w3 ⟨rfl, hb3, hh3⟩
  have hlt3 : w2.heap.size < w3.heap.size := hh3.lt
  have HB3 := Lib.hid (And.intro (HB2.out.1.trans (hb3.mono HB2.out.1.size)) (And.intro (And.intro hh3 hlt3) (And.intro (HB2.out.2.1.below hb3 HB2.out.2.2) (Nat.lt_trans HB2.out.2.2 hlt3))))
  clear hb3 hh3 hlt3 HB2
  generalize w2.heap.size = gb at HB3 ⊢
  have hJ := JS.fresh w3
  have hbj : Below w3.heap.size w3 (w3.alloc (.cells #[.map none, .slice none 0 0] 41)) := (Below.refl _ _).alloc (Nat.le_refl _) _
  have HJ := Lib.hid (And.intro hJ hbj)
  clear hJ hbj
  go_wp2
  generalize w3.alloc (.cells #[.map none, .slice none 0 0] 41) = w4 at HJ ⊢
  obtain ⟨jb, hjb⟩ : ∃ jb, w3.heap.size = jb := ⟨_, rfl⟩
  rw [hjb] at HJ HB3
  have HJB := Lib.hid hjb
  rw [hjb]
  clear hjb
  have hc1 := HC.out
  go_loopw [16, 17, 18, 19] (fun iv kv whole xv wr => ∃ (i k v x : Nat) (F : List Nat) (S : List TS), (i ≤ ca ∧ k ≤ cb) ∧ (v = (if i = ca then 1 else 0) + (if k = cb then 1 else 0) ∧ x = i + k) ∧ (iv = .int .i64 (i : Int) ∧ kv = .int .i64 (k : Int) ∧ whole = .int .i64 (v : Int) ∧ xv = .int .i64 (x : Int)) ∧ JS jb wr jb F S ∧ M i k S ∧ Below jb w3 wr) (fun iv kv _ _ _ => (ca - (intOf iv).toNat) + (cb - (intOf kv).toNat))
  case atStart => exact ⟨0, 0, 0, 0, _, _, ⟨by omega, by omega⟩, ⟨by rw [if_neg (by omega), if_neg (by omega)], rfl⟩, ⟨rfl, rfl, rfl, rfl⟩, HJ.out.1, HZ.out, HJ.out.2⟩
  case round =>
    obtain ⟨i, k, v, x, F, S, ⟨hi0, hk0⟩, ⟨hv, hx⟩, ⟨rfl, rfl, rfl, rfl⟩, hJ, hM, hB⟩ := hrel
    have hcb : jb ≤ wr.heap.size := by have := hB.size; have := HJB.out; omega
    have HW := Lib.hid (And.intro hJ (And.intro hM (And.intro hB hcb)))
    have HV := Lib.hid hv
    have hv2 : v ≤ 2 := by rw [hv]; split <;> split <;> omega
    have hx6 : x ≤ 6 := by omega
    have HX := Lib.hid hx
    clear hJ hM hB hcb hv HJ hx
    by_cases hk : k < cb
    · have d2 : ¬ (cb : Int) ≤ (k : Int) := by omega
      have d6 : (k : Int) < (cb : Int) := by omega
      by_cases hi : i < ca
      · have d1 : (i : Int) < (ca : Int) := by omega
        by_cases hxl : x < len
        · obtain ⟨g0, off, rfl, hg0, hc0⟩ := HBO.out x hxl
          have cB : wr.cell? ⟨g0, off + x, none⟩ = some (.bool (B x)) := (HW.out.2.2.1.cell (p := ⟨g0, off + x, none⟩) (by have := HB3.out.1.size; have := HJB.out; show g0 < _; omega)).trans ((HB3.out.1.cell (p := ⟨g0, off + x, none⟩) hg0).trans hc0)
          clear hc0
          generalize B x = bb at cB
          have d3 : ¬ (len : Int) ≤ (x : Int) := by omega
          have d4 : (x : Int) < (len : Int) := by omega
          cases bb
          · go_upto_region 13 with fail
            obtain ⟨S', hS1, hS2⟩ := HBB.out i k S HW.out.2.1 hk
            have hlg := HL.out.2
            have c0 : wr.cell? ⟨gb, k, none⟩ = some (.string (LB.getD k ⟨#[]⟩)) := (HW.out.2.2.1.cell (p := ⟨gb, k, none⟩) (by have := HJB.out; have := HB3.out.2.1.2; show gb < _; omega)).trans (HB3.out.2.1.1.text k (by omega))
            have htw := take_any HW.out.1 HW.out.2.2.2 (LB.getD k ⟨#[]⟩)
            rw [hS1] at htw
            generalize LB.getD k ⟨#[]⟩ = piece at c0 htw
            have HS2 := Lib.hid hS2
            clear hS1 hS2 hlg
            by_cases hl : k + 1 = cb
            · have e1 : ((k : Int) + 1 == (cb : Int)) = true := by rw [beq_iff_eq]; omega
              have e2 : decide (k + 1 = cb) = true := by simpa using hl
              rw [if_pos hl, e2] at htw
              have HT := Lib.hid htw
              have HLL := Lib.hid hl
              clear htw e2 hl
              go_wp2_with fail
              refine HT.out.mono ?_
              rintro e wb ⟨Fb, rfl, hJb, hKb, hFb⟩
              have hBb : Below jb w3 wb := HW.out.2.2.1.trans (hKb.below jb HW.out.2.2.2 HW.out.1.base)
              have HN := Lib.hid (And.intro hJb (And.intro HS2.out hBb))
              clear HT c0 hJb hKb hFb hBb HW
              go_wp2_with (first
                | (refine wpExec rfl (.bool (!true)) (exec_neqS13 (.tmp 154) (.tmp 155) _ _ true HEB.out rfl rfl rfl) ?_)
                | (refine wpExecG rfl (.bool (!true)) (exec_neqS13 (.tmp 154) (.tmp 155) _ _ true HEB.out rfl rfl rfl) ?_))
              have hvv : v + 1 = (if i = ca then 1 else 0) + (if k + 1 = cb then 1 else 0) := by
                have h1 := HV.out
                rw [if_neg (show ¬ k = cb from Nat.ne_of_lt hk)] at h1
                rw [if_pos HLL.out]
                omega
              refine ⟨⟨i, k + 1, v + 1, x + 1, Fb, S', ⟨by omega, by omega⟩, ⟨hvv, by have := HX.out; omega⟩, ⟨rfl, by go_num, by go_num, by go_num⟩, HN.out.1, HN.out.2.1, HN.out.2.2⟩, by simp [intOf]; omega⟩
            · have e1 : ((k : Int) + 1 == (cb : Int)) = false := by rw [beq_eq_false_iff_ne]; omega
              have e2 : decide (k + 1 = cb) = false := by simpa using hl
              rw [if_neg hl, e2] at htw
              have HT := Lib.hid htw
              have HLL := Lib.hid hl
              clear htw e2 hl
              go_wp2_with fail
              refine HT.out.mono ?_
              rintro e wb ⟨Fb, rfl, hJb, hKb, hFb⟩
              have hBb : Below jb w3 wb := HW.out.2.2.1.trans (hKb.below jb HW.out.2.2.2 HW.out.1.base)
              have HN := Lib.hid (And.intro hJb (And.intro HS2.out hBb))
              clear HT c0 hJb hKb hFb hBb HW
              go_wp2
              have hvv : v = (if i = ca then 1 else 0) + (if k + 1 = cb then 1 else 0) := by
                have h1 := HV.out
                rw [if_neg (show ¬ k = cb from Nat.ne_of_lt hk)] at h1
                rw [if_neg HLL.out]
                omega
              refine ⟨⟨i, k + 1, v, x + 1, Fb, S', ⟨by omega, by omega⟩, ⟨hvv, by have := HX.out; omega⟩, ⟨rfl, by go_num, rfl, by go_num⟩, HN.out.1, HN.out.2.1, HN.out.2.2⟩, by simp [intOf]; omega⟩
          · go_upto_region 13 with fail
            obtain ⟨S', hS1, hS2⟩ := HA.out i k S HW.out.2.1 hi
            have hlg := HL.out.1
            have c0 : wr.cell? ⟨ga, i, none⟩ = some (.string (LA.getD i ⟨#[]⟩)) := (HW.out.2.2.1.cell (p := ⟨ga, i, none⟩) (by have := HJB.out; have := HB3.out.2.2.2; show ga < _; omega)).trans (HB3.out.2.2.1.text i (by omega))
            have htw := take_any HW.out.1 HW.out.2.2.2 (LA.getD i ⟨#[]⟩)
            rw [hS1] at htw
            generalize LA.getD i ⟨#[]⟩ = piece at c0 htw
            have HS2 := Lib.hid hS2
            clear hS1 hS2 hlg
            by_cases hl : i + 1 = ca
            · have e1 : ((i : Int) + 1 == (ca : Int)) = true := by rw [beq_iff_eq]; omega
              have e2 : decide (i + 1 = ca) = true := by simpa using hl
              rw [if_pos hl, e2] at htw
              have HT := Lib.hid htw
              have HLL := Lib.hid hl
              clear htw e2 hl
              go_wp2_with fail
              refine HT.out.mono ?_
              rintro e wb ⟨Fb, rfl, hJb, hKb, hFb⟩
              have hBb : Below jb w3 wb := HW.out.2.2.1.trans (hKb.below jb HW.out.2.2.2 HW.out.1.base)
              have HN := Lib.hid (And.intro hJb (And.intro HS2.out hBb))
              clear HT c0 hJb hKb hFb hBb HW
              go_wp2_with (first
                | (refine wpExec rfl (.bool (!true)) (exec_neqS13 (.tmp 154) (.tmp 155) _ _ true HEA.out rfl rfl rfl) ?_)
                | (refine wpExecG rfl (.bool (!true)) (exec_neqS13 (.tmp 154) (.tmp 155) _ _ true HEA.out rfl rfl rfl) ?_))
              have hvv : v + 1 = (if i + 1 = ca then 1 else 0) + (if k = cb then 1 else 0) := by
                have h1 := HV.out
                rw [if_neg (show ¬ i = ca from Nat.ne_of_lt hi)] at h1
                rw [if_pos HLL.out]
                omega
              refine ⟨⟨i + 1, k, v + 1, x + 1, Fb, S', ⟨by omega, by omega⟩, ⟨hvv, by have := HX.out; omega⟩, ⟨by go_num, rfl, by go_num, by go_num⟩, HN.out.1, HN.out.2.1, HN.out.2.2⟩, by simp [intOf]; omega⟩
            · have e1 : ((i : Int) + 1 == (ca : Int)) = false := by rw [beq_eq_false_iff_ne]; omega
              have e2 : decide (i + 1 = ca) = false := by simpa using hl
              rw [if_neg hl, e2] at htw
              have HT := Lib.hid htw
              have HLL := Lib.hid hl
              clear htw e2 hl
              go_wp2_with fail
              refine HT.out.mono ?_
              rintro e wb ⟨Fb, rfl, hJb, hKb, hFb⟩
              have hBb : Below jb w3 wb := HW.out.2.2.1.trans (hKb.below jb HW.out.2.2.2 HW.out.1.base)
              have HN := Lib.hid (And.intro hJb (And.intro HS2.out hBb))
              clear HT c0 hJb hKb hFb hBb HW
              go_wp2
              have hvv : v = (if i + 1 = ca then 1 else 0) + (if k = cb then 1 else 0) := by
                have h1 := HV.out
                rw [if_neg (show ¬ i = ca from Nat.ne_of_lt hi)] at h1
                rw [if_neg HLL.out]
                omega
              refine ⟨⟨i + 1, k, v, x + 1, Fb, S', ⟨by omega, by omega⟩, ⟨hvv, by have := HX.out; omega⟩, ⟨by go_num, rfl, rfl, by go_num⟩, HN.out.1, HN.out.2.1, HN.out.2.2⟩, by simp [intOf]; omega⟩
        · have d3 : (len : Int) ≤ (x : Int) := by omega
          go_upto_region 13 with fail
          obtain ⟨S', hS1, hS2⟩ := HA.out i k S HW.out.2.1 hi
          have hlg := HL.out.1
          have c0 : wr.cell? ⟨ga, i, none⟩ = some (.string (LA.getD i ⟨#[]⟩)) := (HW.out.2.2.1.cell (p := ⟨ga, i, none⟩) (by have := HJB.out; have := HB3.out.2.2.2; show ga < _; omega)).trans (HB3.out.2.2.1.text i (by omega))
          have htw := take_any HW.out.1 HW.out.2.2.2 (LA.getD i ⟨#[]⟩)
          rw [hS1] at htw
          generalize LA.getD i ⟨#[]⟩ = piece at c0 htw
          have HS2 := Lib.hid hS2
          clear hS1 hS2 hlg
          by_cases hl : i + 1 = ca
          · have e1 : ((i : Int) + 1 == (ca : Int)) = true := by rw [beq_iff_eq]; omega
            have e2 : decide (i + 1 = ca) = true := by simpa using hl
            rw [if_pos hl, e2] at htw
            have HT := Lib.hid htw
            have HLL := Lib.hid hl
            clear htw e2 hl
            go_wp2_with fail
            refine HT.out.mono ?_
            rintro e wb ⟨Fb, rfl, hJb, hKb, hFb⟩
            have hBb : Below jb w3 wb := HW.out.2.2.1.trans (hKb.below jb HW.out.2.2.2 HW.out.1.base)
            have HN := Lib.hid (And.intro hJb (And.intro HS2.out hBb))
            clear HT c0 hJb hKb hFb hBb HW
            go_wp2_with (first
              | (refine wpExec rfl (.bool (!true)) (exec_neqS13 (.tmp 154) (.tmp 155) _ _ true HEA.out rfl rfl rfl) ?_)
              | (refine wpExecG rfl (.bool (!true)) (exec_neqS13 (.tmp 154) (.tmp 155) _ _ true HEA.out rfl rfl rfl) ?_))
            have hvv : v + 1 = (if i + 1 = ca then 1 else 0) + (if k = cb then 1 else 0) := by
              have h1 := HV.out
              rw [if_neg (show ¬ i = ca from Nat.ne_of_lt hi)] at h1
              rw [if_pos HLL.out]
              omega
            refine ⟨⟨i + 1, k, v + 1, x + 1, Fb, S', ⟨by omega, by omega⟩, ⟨hvv, by have := HX.out; omega⟩, ⟨by go_num, rfl, by go_num, by go_num⟩, HN.out.1, HN.out.2.1, HN.out.2.2⟩, by simp [intOf]; omega⟩
          · have e1 : ((i : Int) + 1 == (ca : Int)) = false := by rw [beq_eq_false_iff_ne]; omega
            have e2 : decide (i + 1 = ca) = false := by simpa using hl
            rw [if_neg hl, e2] at htw
            have HT := Lib.hid htw
            have HLL := Lib.hid hl
            clear htw e2 hl
            go_wp2_with fail
            refine HT.out.mono ?_
            rintro e wb ⟨Fb, rfl, hJb, hKb, hFb⟩
            have hBb : Below jb w3 wb := HW.out.2.2.1.trans (hKb.below jb HW.out.2.2.2 HW.out.1.base)
            have HN := Lib.hid (And.intro hJb (And.intro HS2.out hBb))
            clear HT c0 hJb hKb hFb hBb HW
            go_wp2
            have hvv : v = (if i + 1 = ca then 1 else 0) + (if k = cb then 1 else 0) := by
              have h1 := HV.out
              rw [if_neg (show ¬ i = ca from Nat.ne_of_lt hi)] at h1
              rw [if_neg HLL.out]
              omega
            refine ⟨⟨i + 1, k, v, x + 1, Fb, S', ⟨by omega, by omega⟩, ⟨hvv, by have := HX.out; omega⟩, ⟨by go_num, rfl, rfl, by go_num⟩, HN.out.1, HN.out.2.1, HN.out.2.2⟩, by simp [intOf]; omega⟩
      · have d1 : ¬ (i : Int) < (ca : Int) := by omega
        go_upto_region 13 with fail
        obtain ⟨S', hS1, hS2⟩ := HBB.out i k S HW.out.2.1 hk
        have hlg := HL.out.2
        have c0 : wr.cell? ⟨gb, k, none⟩ = some (.string (LB.getD k ⟨#[]⟩)) := (HW.out.2.2.1.cell (p := ⟨gb, k, none⟩) (by have := HJB.out; have := HB3.out.2.1.2; show gb < _; omega)).trans (HB3.out.2.1.1.text k (by omega))
        have htw := take_any HW.out.1 HW.out.2.2.2 (LB.getD k ⟨#[]⟩)
        rw [hS1] at htw
        generalize LB.getD k ⟨#[]⟩ = piece at c0 htw
        have HS2 := Lib.hid hS2
        clear hS1 hS2 hlg
        by_cases hl : k + 1 = cb
        · have e1 : ((k : Int) + 1 == (cb : Int)) = true := by rw [beq_iff_eq]; omega
          have e2 : decide (k + 1 = cb) = true := by simpa using hl
          rw [if_pos hl, e2] at htw
          have HT := Lib.hid htw
          have HLL := Lib.hid hl
          clear htw e2 hl
          go_wp2_with fail
          refine HT.out.mono ?_
          rintro e wb ⟨Fb, rfl, hJb, hKb, hFb⟩
          have hBb : Below jb w3 wb := HW.out.2.2.1.trans (hKb.below jb HW.out.2.2.2 HW.out.1.base)
          have HN := Lib.hid (And.intro hJb (And.intro HS2.out hBb))
          clear HT c0 hJb hKb hFb hBb HW
          go_wp2_with (first
            | (refine wpExec rfl (.bool (!true)) (exec_neqS13 (.tmp 154) (.tmp 155) _ _ true HEB.out rfl rfl rfl) ?_)
            | (refine wpExecG rfl (.bool (!true)) (exec_neqS13 (.tmp 154) (.tmp 155) _ _ true HEB.out rfl rfl rfl) ?_))
          have hvv : v + 1 = (if i = ca then 1 else 0) + (if k + 1 = cb then 1 else 0) := by
            have h1 := HV.out
            rw [if_neg (show ¬ k = cb from Nat.ne_of_lt hk)] at h1
            rw [if_pos HLL.out]
            omega
          refine ⟨⟨i, k + 1, v + 1, x + 1, Fb, S', ⟨by omega, by omega⟩, ⟨hvv, by have := HX.out; omega⟩, ⟨rfl, by go_num, by go_num, by go_num⟩, HN.out.1, HN.out.2.1, HN.out.2.2⟩, by simp [intOf]; omega⟩
        · have e1 : ((k : Int) + 1 == (cb : Int)) = false := by rw [beq_eq_false_iff_ne]; omega
          have e2 : decide (k + 1 = cb) = false := by simpa using hl
          rw [if_neg hl, e2] at htw
          have HT := Lib.hid htw
          have HLL := Lib.hid hl
          clear htw e2 hl
          go_wp2_with fail
          refine HT.out.mono ?_
          rintro e wb ⟨Fb, rfl, hJb, hKb, hFb⟩
          have hBb : Below jb w3 wb := HW.out.2.2.1.trans (hKb.below jb HW.out.2.2.2 HW.out.1.base)
          have HN := Lib.hid (And.intro hJb (And.intro HS2.out hBb))
          clear HT c0 hJb hKb hFb hBb HW
          go_wp2
          have hvv : v = (if i = ca then 1 else 0) + (if k + 1 = cb then 1 else 0) := by
            have h1 := HV.out
            rw [if_neg (show ¬ k = cb from Nat.ne_of_lt hk)] at h1
            rw [if_neg HLL.out]
            omega
          refine ⟨⟨i, k + 1, v, x + 1, Fb, S', ⟨by omega, by omega⟩, ⟨hvv, by have := HX.out; omega⟩, ⟨rfl, by go_num, rfl, by go_num⟩, HN.out.1, HN.out.2.1, HN.out.2.2⟩, by simp [intOf]; omega⟩
    · have d2 : (cb : Int) ≤ (k : Int) := by omega
      have d6 : ¬ (k : Int) < (cb : Int) := by omega
      by_cases hi : i < ca
      · have d1 : (i : Int) < (ca : Int) := by omega
        go_upto_region 13 with fail
        obtain ⟨S', hS1, hS2⟩ := HA.out i k S HW.out.2.1 hi
        have hlg := HL.out.1
        have c0 : wr.cell? ⟨ga, i, none⟩ = some (.string (LA.getD i ⟨#[]⟩)) := (HW.out.2.2.1.cell (p := ⟨ga, i, none⟩) (by have := HJB.out; have := HB3.out.2.2.2; show ga < _; omega)).trans (HB3.out.2.2.1.text i (by omega))
        have htw := take_any HW.out.1 HW.out.2.2.2 (LA.getD i ⟨#[]⟩)
        rw [hS1] at htw
        generalize LA.getD i ⟨#[]⟩ = piece at c0 htw
        have HS2 := Lib.hid hS2
        clear hS1 hS2 hlg
        by_cases hl : i + 1 = ca
        · have e1 : ((i : Int) + 1 == (ca : Int)) = true := by rw [beq_iff_eq]; omega
          have e2 : decide (i + 1 = ca) = true := by simpa using hl
          rw [if_pos hl, e2] at htw
          have HT := Lib.hid htw
          have HLL := Lib.hid hl
          clear htw e2 hl
          go_wp2_with fail
          refine HT.out.mono ?_
          rintro e wb ⟨Fb, rfl, hJb, hKb, hFb⟩
          have hBb : Below jb w3 wb := HW.out.2.2.1.trans (hKb.below jb HW.out.2.2.2 HW.out.1.base)
          have HN := Lib.hid (And.intro hJb (And.intro HS2.out hBb))
          clear HT c0 hJb hKb hFb hBb HW
          go_wp2_with (first
            | (refine wpExec rfl (.bool (!true)) (exec_neqS13 (.tmp 154) (.tmp 155) _ _ true HEA.out rfl rfl rfl) ?_)
            | (refine wpExecG rfl (.bool (!true)) (exec_neqS13 (.tmp 154) (.tmp 155) _ _ true HEA.out rfl rfl rfl) ?_))
          have hvv : v + 1 = (if i + 1 = ca then 1 else 0) + (if k = cb then 1 else 0) := by
            have h1 := HV.out
            rw [if_neg (show ¬ i = ca from Nat.ne_of_lt hi)] at h1
            rw [if_pos HLL.out]
            omega
          refine ⟨⟨i + 1, k, v + 1, x + 1, Fb, S', ⟨by omega, by omega⟩, ⟨hvv, by have := HX.out; omega⟩, ⟨by go_num, rfl, by go_num, by go_num⟩, HN.out.1, HN.out.2.1, HN.out.2.2⟩, by simp [intOf]; omega⟩
        · have e1 : ((i : Int) + 1 == (ca : Int)) = false := by rw [beq_eq_false_iff_ne]; omega
          have e2 : decide (i + 1 = ca) = false := by simpa using hl
          rw [if_neg hl, e2] at htw
          have HT := Lib.hid htw
          have HLL := Lib.hid hl
          clear htw e2 hl
          go_wp2_with fail
          refine HT.out.mono ?_
          rintro e wb ⟨Fb, rfl, hJb, hKb, hFb⟩
          have hBb : Below jb w3 wb := HW.out.2.2.1.trans (hKb.below jb HW.out.2.2.2 HW.out.1.base)
          have HN := Lib.hid (And.intro hJb (And.intro HS2.out hBb))
          clear HT c0 hJb hKb hFb hBb HW
          go_wp2
          have hvv : v = (if i + 1 = ca then 1 else 0) + (if k = cb then 1 else 0) := by
            have h1 := HV.out
            rw [if_neg (show ¬ i = ca from Nat.ne_of_lt hi)] at h1
            rw [if_neg HLL.out]
            omega
          refine ⟨⟨i + 1, k, v, x + 1, Fb, S', ⟨by omega, by omega⟩, ⟨hvv, by have := HX.out; omega⟩, ⟨by go_num, rfl, rfl, by go_num⟩, HN.out.1, HN.out.2.1, HN.out.2.2⟩, by simp [intOf]; omega⟩
      · have d1 : ¬ (i : Int) < (ca : Int) := by omega
        have hie : i = ca := by omega
        have hke : k = cb := by omega
        have hS : S = [] := HE.out S (by have := HW.out.2.1; rwa [hie, hke] at this)
        have hh := HW.out.1
        rw [hS] at hh
        have hh2 := held_any hh
        have hv3 : v = 2 := by
          have h1 := HV.out
          rw [if_pos hie, if_pos hke] at h1
          exact h1
        subst hv3
        have hbw : Below w.heap.size w wr := HB3.out.1.trans (HW.out.2.2.1.mono (by have := HB3.out.1.size; have := HJB.out; omega))
        have HBW := Lib.hid hbw
        have HH := Lib.hid hh2
        clear hh hh2 hbw hS hie hke HW HV
        go_wp2_with (go_at_call 14; refine HH.out.mono ?_; rintro e wb ⟨rfl, rfl⟩)
        go_ret
        exact ⟨rfl, HBW.out⟩
theorem mixed_any (n m : Nat) (hn : n < 4294967296) (hm : m < 4294967296) (s t : ByteArray) (a : Option Addr) (len cap : Nat) (B : Nat → Bool) (w : World) (hBo : Bools w a len B) : Calls Try.prog 7 #[.int .u32 (n : Int), .int .u32 (m : Int), .string s, .string t, .slice a len cap] w fun e w' => e = .returned (.bool true) ∧ Below w.heap.size w w' := by
  by_cases h1 : 1536 < s.size
  · exact mixed_e1 n m s t a len cap h1 w
  by_cases h2 : 1536 < t.size
  · exact mixed_e2 n m s t a len cap h1 h2 w
  by_cases h3 : s.size = 0
  · exact mixed_e3 n m s t a len cap h2 h3 w
  by_cases h4 : t.size = 0
  · exact mixed_e4 n m s t a len cap h1 h3 h4 w
  by_cases h5 : n = m
  · exact mixed_e5 n m s t a len cap h1 h2 h3 h4 h5 w
  by_cases h6 : 60 < len
  · exact mixed_e6 n m s t a len cap h1 h2 h3 h4 h5 h6 w
  exact mixed_go n m hn hm s t a len cap B h1 h2 h3 h4 h5 h6 w hBo
end Go.Proofs.Ythpbhimmfmablaa
