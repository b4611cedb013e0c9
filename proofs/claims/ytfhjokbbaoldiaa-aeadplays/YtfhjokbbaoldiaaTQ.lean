/- causeyref03.Block: walked. -/
import Derived.Test.YtfhjokbbaoldiaaTP
import Derived.BigRegion
namespace Go.Proofs.Ytfhjokbbaoldiaa
open Go.RowKit
theorem info22 (l : List UInt8) (hl : l.length = 32) : (Try.prog.info? 22).map (·.size) = some (bs l).size := by
  rw [bs_size, hl]; exact (by kernel_rfl : (Try.prog.info? 22).map (·.size) = some 32)
theorem wAt_ahead (k : List UInt8) (hk : k.length = 32) (c : UInt32) (n : List UInt8) (i : Nat) (h : i < 12) : wAt (txt k c n) i = wAt (ahead16 ++ k) i := by
  unfold wAt
  rw [txt_ahead k hk c n _ (by omega), txt_ahead k hk c n _ (by omega), txt_ahead k hk c n _ (by omega), txt_ahead k hk c n _ (by omega)]
theorem wAt_count (k : List UInt8) (hk : k.length = 32) (c : UInt32) (n : List UInt8) : wAt (txt k c n) 12 = c := by
  have e := leB_word c
  unfold wAt
  rw [show 4 * 12 + 3 = 48 + 3 from rfl, show 4 * 12 + 2 = 48 + 2 from rfl, show 4 * 12 + 1 = 48 + 1 from rfl, show 4 * 12 = 48 + 0 from rfl, txt_count k hk c n 3 (by omega), txt_count k hk c n 2 (by omega), txt_count k hk c n 1 (by omega), txt_count k hk c n 0 (by omega)]
  exact e
theorem wAt_nonce (k : List UInt8) (hk : k.length = 32) (c : UInt32) (n : List UInt8) (m : Nat) : wAt (txt k c n) (13 + m) = wAt n m := by
  unfold wAt
  rw [show 4 * (13 + m) + 3 = 52 + (4 * m + 3) from by omega, show 4 * (13 + m) + 2 = 52 + (4 * m + 2) from by omega, show 4 * (13 + m) + 1 = 52 + (4 * m + 1) from by omega, show 4 * (13 + m) = 52 + (4 * m) from by omega]
  simp only [txt_nonce k hk]
theorem le_mul (a b c d : UInt8) : ((((a.toNat : Int) % 4294967296 * 256 + (b.toNat : Int)) % 4294967296 * 256 + (c.toNat : Int)) % 4294967296 * 256 + (d.toNat : Int)) % 4294967296 = ((wordOf a b c d).toNat : Int) := by
  have := UInt8.toNat_lt a; have := UInt8.toNat_lt b; have := UInt8.toNat_lt c; have := UInt8.toNat_lt d
  rw [wordOf_toNat]
  omega
/-- what memory holds in the midst of the making of a state -/
structure RB (w W : World) (v : List UInt32) : Prop where
  h8 : Has W (w.heap.size + 1) 50 (ws v)
  hb : Below w.heap.size w W
theorem RB.set {w W : World} {v : List UInt32} (h : RB w W v) (i : Nat) (x : UInt32) : RB w (W.setCell ⟨w.heap.size + 1, i, none⟩ (W32 x)) (v.set i x) :=
  ⟨h.h8.setW i x, h.hb.setCell (p := ⟨w.heap.size + 1, i, none⟩) (Nat.le_succ _) _⟩
theorem RB.drew {w W : World} {v : List UInt32} (h : RB w W v) : RB w W.drew v := ⟨h.h8.drew, h.hb.drew⟩
/-- what memory holds in the midst of the rounds -/
structure RC (w : World) (v : List UInt32) (g : Nat) (W : World) (u : List UInt32) : Prop where
  h8 : Has W (w.heap.size + 1) 50 (ws v)
  h11 : Has W g 50 (ws u)
  hb : Below w.heap.size w W
theorem RC.step {w W W' : World} {v u : List UInt32} {g : Nat} (h : RC w v g W u) (hb : Below W.heap.size W W') : RC w v g W' u :=
  ⟨h.h8.below hb h.h8.lt, h.h11.below hb h.h11.lt, h.hb.trans (hb.mono h.hb.size)⟩
theorem RC.store {w W : World} {v u : List UInt32} {g : Nat} (h : RC w v g W u) (hg : w.heap.size + 1 < g) (u' : List UInt32) : RC w v g (W.setRow g (ws u')) u' :=
  ⟨h.h8.setRow_other (by omega) _, h.h11.setRow _, below_setRow h.hb (by omega) _⟩
theorem RC.stepB {w W W' : World} {v u : List UInt32} {g base : Nat} (h : RC w v g W u) (hb : Below base W W') (hg : g < base) (hg8 : w.heap.size + 1 < base) (hB : w.heap.size ≤ base) : RC w v g W' u :=
  ⟨h.h8.below hb hg8, h.h11.below hb hg, h.hb.trans (hb.mono hB)⟩
theorem size_ws (a b : List UInt32) (ha : a.length = 16) (hb : b.length = 16) : (ws a).size = (ws b).size := by rw [ws_size, ws_size, ha, hb]
/-- the bytes of the first i words -/
theorem bytesL_take (l : List UInt32) (i : Nat) (h : i < l.length) : bytesL (l.take (i + 1)) = bytesL (l.take i) ++ leB (l.getD i 0) := by
  unfold bytesL
  rw [List.take_succ_eq_append_getElem h, List.flatMap_append, List.getD_eq_getElem?_getD, List.getElem?_eq_getElem h]
  simp
/-- a word divided by 256, j times -/
def divB (x : UInt32) (j : Nat) : Int := ((x.toNat / 256 ^ j : Nat) : Int)
theorem leB_get (x : UInt32) (j : Nat) (h : j < 4) : (((leB x).getD j 0).toNat : Int) = divB x j % 256 := by
  have : j = 0 ∨ j = 1 ∨ j = 2 ∨ j = 3 := by omega
  unfold divB
  rcases this with rfl | rfl | rfl | rfl <;> (show ((UInt8.ofNat _).toNat : Int) = _; rw [UInt8.toNat_ofNat']; simp)
theorem leB_take (x : UInt32) (j : Nat) (h : j < 4) : (leB x).take (j + 1) = (leB x).take j ++ [(leB x).getD j 0] := by
  rw [List.take_succ_eq_append_getElem (by rw [leB_length]; exact h), List.getD_eq_getElem?_getD, List.getElem?_eq_getElem (by rw [leB_length]; exact h)]
  rfl
theorem divB_next (x : UInt32) (j : Nat) : divB x j / 256 = divB x (j + 1) := by
  unfold divB
  rw [Nat.pow_succ, ← Nat.div_div_eq_div_mul]
  simp
theorem divB_lt (x : UInt32) (j : Nat) : 0 ≤ divB x j ∧ divB x j < 4294967296 := by
  unfold divB
  have h1 := Nat.div_le_self x.toNat (256 ^ j)
  have := lt32 x
  generalize x.toNat / 256 ^ j = q at h1 ⊢
  omega
set_option maxRecDepth 100000 in
set_option maxHeartbeats 4000000 in
theorem refBlock_any (k : List UInt8) (hk : k.length = 32) (c : UInt32) (n : ByteArray) (hn : n.size = 12) (w : World) :
    Calls Try.prog 27 #[.agg (bs k), W32 c, .string n] w fun e w' => e = .returned (.string ⟨(blkB (fst0 k c n.data.toList)).toArray⟩) ∧ Below w.heap.size w w' := by
  obtain ⟨i0, hi0, hz0, hz1, hz2⟩ := info_parts u8_info
  have hcv := conv_bytes (Has.fresh w 22 (bs k)) 32 32 hk
  have E : RB w ((w.alloc (.cells (bs k) 22)).alloc (.cells z16 50)) (stTo (txt k c n.data.toList) 0) :=
    ⟨by rw [stTo_zero]; exact heap_alloc2_new w _ _, ((Below.refl _ _).alloc (Nat.le_refl _) _).alloc (by simp) _⟩
  have hcat : (⟨#[101, 120, 112, 97, 110, 100, 32, 51, 50, 45, 98, 121, 116, 101, 32, 107]⟩ : ByteArray) ++ ⟨k.toArray⟩ = ⟨(ahead16 ++ k).toArray⟩ := cat_str ahead16 k
  have hks : (⟨k.toArray⟩ : ByteArray).size = 32 := hk
  have hts : (⟨(ahead16 ++ k).toArray⟩ : ByteArray).size = 48 := by rw [str_size, List.length_append, hk]; rfl
  have htb : ∀ j, j < 12 → wordOf (bAt ⟨(ahead16 ++ k).toArray⟩ (4 * j + 3)) (bAt ⟨(ahead16 ++ k).toArray⟩ (4 * j + 2)) (bAt ⟨(ahead16 ++ k).toArray⟩ (4 * j + 1)) (bAt ⟨(ahead16 ++ k).toArray⟩ (4 * j)) = wAt (txt k c n.data.toList) j := fun j hj => by
    rw [wAt_ahead k hk c _ j hj]; rfl
  have hnb : ∀ j, wordOf (bAt n (4 * j + 3)) (bAt n (4 * j + 2)) (bAt n (4 * j + 1)) (bAt n (4 * j)) = wAt (txt k c n.data.toList) (13 + j) := fun j => by
    rw [wAt_nonce k hk c _ j]; rfl
  have hc := wAt_count k hk c n.data.toList
  have hfin : fst0 k c n.data.toList = stTo (txt k c n.data.toList) 16 := (stTo_done _).symm
  generalize txt k c n.data.toList = T at E htb hnb hc hfin
  rw [hfin]
  obtain ⟨v, hv0⟩ : ∃ v, stTo T 16 = v := ⟨_, rfl⟩
  rw [hv0]
  have HV0 := Lib.hid hv0
  generalize (⟨(ahead16 ++ k).toArray⟩ : ByteArray) = t at hcat hts htb
  have HCAT := Lib.hid hcat
  have HTB := Lib.hid htb
  have HNB := Lib.hid hnb
  have HC := Lib.hid hc
  clear hcat htb hnb hc hfin hk hv0
  generalize (⟨k.toArray⟩ : ByteArray) = kt at hcv HCAT hks
  go_enter Try.func27, Try.ntmps27
  go_upto_region 2 with fail
  rw [HCAT.out]
  clear hcv HCAT hks
  go_upto_region 3 with fail
  change Code.wp _ _ _ _ ((w.alloc (.cells (bs k) 22)).alloc (.cells z16 50))
  generalize (w.alloc (.cells (bs k) 22)).alloc (.cells z16 50) = w0 at E ⊢
  go_wp2_with fail
  go_loopw [9] (fun i wr => ∃ j : Nat, j ≤ 12 ∧ i = .int .i64 (j : Int) ∧ RB w wr (stTo T j)) (fun i _ => 12 - (intOf i).toNat)
  case atStart => exact ⟨0, by omega, rfl, E⟩
  case round =>
    clear E w0
    obtain ⟨j, hj, rfl, E⟩ := hrel
    by_cases hlt : j < 12
    · have t1 : decide ((j : Int) < 12) = true := by simp; omega
      have hw := HTB.out j hlt
      have hset := stTo_set T (j)
      have ct := E.h8.word (j) (by rw [stTo_length]; omega)
      have ft := E.h8.frozen (j)
      generalize wAt T (j) = x at hw hset
      generalize stTo T (j) = l at E hset ct
      generalize l.getD (j) 0 = x0 at ct
      have HSET := Lib.hid hset
      clear hset
      have j16 : ¬ ((16 : Int) ≤ (j : Int)) := by omega
      obtain ⟨A0, hA0⟩ : ∃ A0, 4 * j = A0 := ⟨_, rfl⟩
      rw [hA0] at hw
      obtain ⟨A1, hA1⟩ : ∃ A1, A0 + 1 = A1 := ⟨_, rfl⟩
      obtain ⟨A2, hA2⟩ : ∃ A2, A0 + 2 = A2 := ⟨_, rfl⟩
      obtain ⟨A3, hA3⟩ : ∃ A3, A0 + 3 = A3 := ⟨_, rfl⟩
      have e0 : IntKind.i64.wrap (4 * (j : Int)) = (A0 : Int) := by rw [IntWalk.i64_in _ (by omega)]; omega
      have e1 : IntKind.i64.wrap ((A0 : Int) + 1) = (A1 : Int) := by rw [IntWalk.i64_in _ (by omega)]; omega
      have e2 : IntKind.i64.wrap ((A0 : Int) + 2) = (A2 : Int) := by rw [IntWalk.i64_in _ (by omega)]; omega
      have e3 : IntKind.i64.wrap ((A0 : Int) + 3) = (A3 : Int) := by rw [IntWalk.i64_in _ (by omega)]; omega
      rw [hA1, hA2, hA3] at hw
      have h0 : A0 < t.size := by omega
      have h1 : A1 < t.size := by omega
      have h2 : A2 < t.size := by omega
      have h3 : A3 < t.size := by omega
      have b0 : (A0 : Int) < (t.size : Int) := by omega
      have b1 : (A1 : Int) < (t.size : Int) := by omega
      have b2 : (A2 : Int) < (t.size : Int) := by omega
      have b3 : (A3 : Int) < (t.size : Int) := by omega
      have hx := le_mul t[A3] t[A2] t[A1] t[A0]
      rw [← bAt_eq t A3 h3, ← bAt_eq t A2 h2, ← bAt_eq t A1 h1, ← bAt_eq t A0 h0] at hw
      rw [hw] at hx
      have HX := Lib.hid hx
      clear hw hx hA0 hA1 hA2 hA3 hts
      go_upto_region 6 with fail
      go_region
      rw [HX.out]
      go_wp2
      go_roundw
      case rel =>
        refine ⟨j + 1, by omega, by go_num, ?_⟩
        have hn2 := HSET.out
        rw [← hn2]
        exact (E.set j x).drew
      case measure => simp [intOf]; omega
    · have hj2 : j = 12 := by omega
      subst hj2
      have t1 : decide (((12 : Nat) : Int) < 12) = false := by simp
      have hset := stTo_set T 12
      rw [HC.out] at hset
      have ct := E.h8.word 12 (by rw [stTo_length]; omega)
      have ft := E.h8.frozen 12
      generalize stTo T 12 = l at E hset ct
      generalize l.getD 12 0 = x0 at ct
      have HSET := Lib.hid hset
      clear hset HTB HC hts
      go_upto_region 8 with fail
      have E2 := E.set 12 c
      rw [HSET.out] at E2
      clear ct ft HSET E
      generalize wr.setCell ⟨w.heap.size + 1, 12, none⟩ (W32 c) = w0 at E2 ⊢
      go_wp2_with fail
      go_loopw [10] (fun i wr => ∃ j : Nat, j ≤ 3 ∧ i = .int .i64 (j : Int) ∧ RB w wr (stTo T (13 + j))) (fun i _ => 3 - (intOf i).toNat)
      case atStart => exact ⟨0, by omega, rfl, E2⟩
      case round =>
        clear E2 w0 t1 hj
        obtain ⟨j, hj, rfl, E⟩ := hrel
        by_cases hlt : j < 3
        · have t1 : decide ((j : Int) < 3) = true := by simp; omega
          have hw := HNB.out j
          have hset := stTo_set T (13 + j)
          have ct := E.h8.word (13 + j) (by rw [stTo_length]; omega)
          have ft := E.h8.frozen (13 + j)
          generalize wAt T (13 + j) = x at hw hset
          generalize stTo T (13 + j) = l at E hset ct
          generalize l.getD (13 + j) 0 = x0 at ct
          obtain ⟨J, hJ⟩ : ∃ J, 13 + j = J := ⟨_, rfl⟩
          have eJ : IntKind.i64.wrap (13 + (j : Int)) = (J : Int) := by rw [IntWalk.i64_in _ (by omega)]; omega
          rw [hJ] at hset ct ft
          have HSET := Lib.hid hset
          clear hset
          have j16 : ¬ ((16 : Int) ≤ (J : Int)) := by omega
          obtain ⟨A0, hA0⟩ : ∃ A0, 4 * j = A0 := ⟨_, rfl⟩
          rw [hA0] at hw
          obtain ⟨A1, hA1⟩ : ∃ A1, A0 + 1 = A1 := ⟨_, rfl⟩
          obtain ⟨A2, hA2⟩ : ∃ A2, A0 + 2 = A2 := ⟨_, rfl⟩
          obtain ⟨A3, hA3⟩ : ∃ A3, A0 + 3 = A3 := ⟨_, rfl⟩
          have e0 : IntKind.i64.wrap (4 * (j : Int)) = (A0 : Int) := by rw [IntWalk.i64_in _ (by omega)]; omega
          have e1 : IntKind.i64.wrap ((A0 : Int) + 1) = (A1 : Int) := by rw [IntWalk.i64_in _ (by omega)]; omega
          have e2 : IntKind.i64.wrap ((A0 : Int) + 2) = (A2 : Int) := by rw [IntWalk.i64_in _ (by omega)]; omega
          have e3 : IntKind.i64.wrap ((A0 : Int) + 3) = (A3 : Int) := by rw [IntWalk.i64_in _ (by omega)]; omega
          rw [hA1, hA2, hA3] at hw
          have h0 : A0 < n.size := by omega
          have h1 : A1 < n.size := by omega
          have h2 : A2 < n.size := by omega
          have h3 : A3 < n.size := by omega
          have b0 : (A0 : Int) < (n.size : Int) := by omega
          have b1 : (A1 : Int) < (n.size : Int) := by omega
          have b2 : (A2 : Int) < (n.size : Int) := by omega
          have b3 : (A3 : Int) < (n.size : Int) := by omega
          have hx := le_mul n[A3] n[A2] n[A1] n[A0]
          rw [← bAt_eq n A3 h3, ← bAt_eq n A2 h2, ← bAt_eq n A1 h1, ← bAt_eq n A0 h0] at hw
          rw [hw] at hx
          have HX := Lib.hid hx
          clear hw hx hA0 hA1 hA2 hA3 hn
          go_upto_region 11 with fail
          go_region
          rw [HX.out]
          go_wp2
          go_roundw
          case rel =>
            refine ⟨j + 1, by omega, by go_num, ?_⟩
            have hn2 : l.set J x = stTo T (13 + (j + 1)) := by rw [HSET.out, ← hJ]; rfl
            rw [← hn2]
            exact (E.set J x).drew
          case measure => simp [intOf]; omega
        · have hj2 : j = 3 := by omega
          subst hj2
          have t1 : decide (((3 : Nat) : Int) < 3) = false := by simp
          have E2 : RB w _ (stTo T 16) := E
          clear E HNB hn
          have hv : (stTo T 16).length = 16 := stTo_length T 16
          rw [HV0.out] at E2 hv
          have HV := Lib.hid hv
          clear hv HV0
          have hA := E2.h8
          have hN : Has (wr.alloc (.cells z16 50)) wr.heap.size 50 z16 := Has.fresh wr 50 _
          have hg : w.heap.size + 1 < wr.heap.size := hA.lt
          have E3 : RC w v wr.heap.size ((wr.alloc (.cells z16 50)).setRow wr.heap.size (ws v)) v :=
            ⟨(hA.alloc _).setRow_other (by omega) _, hN.setRow _, below_setRow (E2.hb.alloc E2.hb.size _) (by omega) _⟩
          go_upto_region 13 with (first
            | (refine wpList_load_row rfl 50 (.tmp 8) rfl (w.heap.size + 1) rfl 50 (ws v) (0, 0) _ hA Try.underlying50 rfl (info16 v HV.out) ?_)
            | (refine wpList_store_row rfl 50 (.tmp 11) (.tmp 93) rfl wr.heap.size (ws v) rfl rfl 50 z16 hN (info16 v HV.out) (z16_size v HV.out) (ws_one v) ?_))
          change Code.wp _ _ _ _ ((wr.alloc (.cells z16 50)).setRow wr.heap.size (ws v))
          generalize (wr.alloc (.cells z16 50)).setRow wr.heap.size (ws v) = w0 at E3 ⊢
          clear hN hA E2
          generalize wr.heap.size = g11 at hg E3 ⊢
          go_wp2_with fail
          go_loopw [12] (fun i wr => ∃ j : Nat, j ≤ 10 ∧ i = .int .i64 (j : Int) ∧ RC w v g11 wr (dblN v j)) (fun i _ => 10 - (intOf i).toNat)
          case atStart => exact ⟨0, by omega, rfl, E3⟩
          case round =>
            clear E3 w0 t1 hj
            obtain ⟨j, hj, rfl, E⟩ := hrel
            have hul : (dblN v j).length = 16 := by rw [dblN_length]; exact HV.out
            by_cases hlt : j < 10
            · have t1 : decide ((j : Int) < 10) = true := by simp; omega
              have hnx : dblN v (j + 1) = q4 (q4 (q4 (q4 (q4 (q4 (q4 (q4 (dblN v j) 0 4 8 12) 1 5 9 13) 2 6 10 14) 3 7 11 15) 0 5 10 15) 1 6 11 12) 2 7 8 13) 3 4 9 14 := rfl
              generalize dblN v j = u0 at E hul hnx
              have U0 := Lib.hid hul
              have HNX := Lib.hid hnx
              clear hul hnx
              obtain ⟨W0, hW0⟩ : ∃ W0, wr = W0 := ⟨_, rfl⟩
              rw [hW0] at E ⊢
              clear hW0 wr
              have hN := E.h11
              go_wp2_with (refine wpList_load_row rfl 50 (.tmp 11) rfl g11 rfl 50 (ws u0) (0, 0) _ hN Try.underlying50 rfl (info16 u0 U0.out) ?_)
              refine (refQuarter_any u0 U0.out 0 4 8 12 (by omega) (by omega) (by omega) (by omega) (by omega) (by omega) (by omega) (by omega) (by omega) (by omega) _).mono ?_
              rintro e V0 ⟨rfl, hbq⟩
              clear hN
              replace E := E.step hbq
              have hul := (q4_length u0 0 4 8 12).trans U0.out
              obtain ⟨u1, hu⟩ : ∃ y, q4 u0 0 4 8 12 = y := ⟨_, rfl⟩
              rw [hu] at hul
              have Q0 := Lib.hid hu
              rw [Q0.out]
              have U1 := Lib.hid hul
              clear hul hu hbq W0
              have hN := E.h11
              replace E := E.store hg u1
              go_upto_region 17 with (refine wpList_store_row rfl 50 (.tmp 11) (.tmp 99) rfl g11 (ws u1) rfl rfl 50 (ws u0) hN (info16 u1 U1.out) (size_ws u0 u1 U0.out U1.out) (ws_one u1) ?_)
              clear hN
              generalize V0.setRow g11 (ws u1) = W1 at E ⊢
              have hN := E.h11
              go_wp2_with (refine wpList_load_row rfl 50 (.tmp 11) rfl g11 rfl 50 (ws u1) (0, 0) _ hN Try.underlying50 rfl (info16 u1 U1.out) ?_)
              refine (refQuarter_any u1 U1.out 1 5 9 13 (by omega) (by omega) (by omega) (by omega) (by omega) (by omega) (by omega) (by omega) (by omega) (by omega) _).mono ?_
              rintro e V1 ⟨rfl, hbq⟩
              clear hN
              replace E := E.step hbq
              have hul := (q4_length u1 1 5 9 13).trans U1.out
              obtain ⟨u2, hu⟩ : ∃ y, q4 u1 1 5 9 13 = y := ⟨_, rfl⟩
              rw [hu] at hul
              have Q1 := Lib.hid hu
              rw [Q1.out]
              have U2 := Lib.hid hul
              clear hul hu hbq W1
              have hN := E.h11
              replace E := E.store hg u2
              go_upto_region 18 with (refine wpList_store_row rfl 50 (.tmp 11) (.tmp 101) rfl g11 (ws u2) rfl rfl 50 (ws u1) hN (info16 u2 U2.out) (size_ws u1 u2 U1.out U2.out) (ws_one u2) ?_)
              clear hN
              generalize V1.setRow g11 (ws u2) = W2 at E ⊢
              have hN := E.h11
              go_wp2_with (refine wpList_load_row rfl 50 (.tmp 11) rfl g11 rfl 50 (ws u2) (0, 0) _ hN Try.underlying50 rfl (info16 u2 U2.out) ?_)
              refine (refQuarter_any u2 U2.out 2 6 10 14 (by omega) (by omega) (by omega) (by omega) (by omega) (by omega) (by omega) (by omega) (by omega) (by omega) _).mono ?_
              rintro e V2 ⟨rfl, hbq⟩
              clear hN
              replace E := E.step hbq
              have hul := (q4_length u2 2 6 10 14).trans U2.out
              obtain ⟨u3, hu⟩ : ∃ y, q4 u2 2 6 10 14 = y := ⟨_, rfl⟩
              rw [hu] at hul
              have Q2 := Lib.hid hu
              rw [Q2.out]
              have U3 := Lib.hid hul
              clear hul hu hbq W2
              have hN := E.h11
              replace E := E.store hg u3
              go_upto_region 19 with (refine wpList_store_row rfl 50 (.tmp 11) (.tmp 103) rfl g11 (ws u3) rfl rfl 50 (ws u2) hN (info16 u3 U3.out) (size_ws u2 u3 U2.out U3.out) (ws_one u3) ?_)
              clear hN
              generalize V2.setRow g11 (ws u3) = W3 at E ⊢
              have hN := E.h11
              go_wp2_with (refine wpList_load_row rfl 50 (.tmp 11) rfl g11 rfl 50 (ws u3) (0, 0) _ hN Try.underlying50 rfl (info16 u3 U3.out) ?_)
              refine (refQuarter_any u3 U3.out 3 7 11 15 (by omega) (by omega) (by omega) (by omega) (by omega) (by omega) (by omega) (by omega) (by omega) (by omega) _).mono ?_
              rintro e V3 ⟨rfl, hbq⟩
              clear hN
              replace E := E.step hbq
              have hul := (q4_length u3 3 7 11 15).trans U3.out
              obtain ⟨u4, hu⟩ : ∃ y, q4 u3 3 7 11 15 = y := ⟨_, rfl⟩
              rw [hu] at hul
              have Q3 := Lib.hid hu
              rw [Q3.out]
              have U4 := Lib.hid hul
              clear hul hu hbq W3
              have hN := E.h11
              replace E := E.store hg u4
              go_upto_region 20 with (refine wpList_store_row rfl 50 (.tmp 11) (.tmp 105) rfl g11 (ws u4) rfl rfl 50 (ws u3) hN (info16 u4 U4.out) (size_ws u3 u4 U3.out U4.out) (ws_one u4) ?_)
              clear hN
              generalize V3.setRow g11 (ws u4) = W4 at E ⊢
              have hN := E.h11
              go_wp2_with (refine wpList_load_row rfl 50 (.tmp 11) rfl g11 rfl 50 (ws u4) (0, 0) _ hN Try.underlying50 rfl (info16 u4 U4.out) ?_)
              refine (refQuarter_any u4 U4.out 0 5 10 15 (by omega) (by omega) (by omega) (by omega) (by omega) (by omega) (by omega) (by omega) (by omega) (by omega) _).mono ?_
              rintro e V4 ⟨rfl, hbq⟩
              clear hN
              replace E := E.step hbq
              have hul := (q4_length u4 0 5 10 15).trans U4.out
              obtain ⟨u5, hu⟩ : ∃ y, q4 u4 0 5 10 15 = y := ⟨_, rfl⟩
              rw [hu] at hul
              have Q4 := Lib.hid hu
              rw [Q4.out]
              have U5 := Lib.hid hul
              clear hul hu hbq W4
              have hN := E.h11
              replace E := E.store hg u5
              go_upto_region 21 with (refine wpList_store_row rfl 50 (.tmp 11) (.tmp 107) rfl g11 (ws u5) rfl rfl 50 (ws u4) hN (info16 u5 U5.out) (size_ws u4 u5 U4.out U5.out) (ws_one u5) ?_)
              clear hN
              generalize V4.setRow g11 (ws u5) = W5 at E ⊢
              have hN := E.h11
              go_wp2_with (refine wpList_load_row rfl 50 (.tmp 11) rfl g11 rfl 50 (ws u5) (0, 0) _ hN Try.underlying50 rfl (info16 u5 U5.out) ?_)
              refine (refQuarter_any u5 U5.out 1 6 11 12 (by omega) (by omega) (by omega) (by omega) (by omega) (by omega) (by omega) (by omega) (by omega) (by omega) _).mono ?_
              rintro e V5 ⟨rfl, hbq⟩
              clear hN
              replace E := E.step hbq
              have hul := (q4_length u5 1 6 11 12).trans U5.out
              obtain ⟨u6, hu⟩ : ∃ y, q4 u5 1 6 11 12 = y := ⟨_, rfl⟩
              rw [hu] at hul
              have Q5 := Lib.hid hu
              rw [Q5.out]
              have U6 := Lib.hid hul
              clear hul hu hbq W5
              have hN := E.h11
              replace E := E.store hg u6
              go_upto_region 22 with (refine wpList_store_row rfl 50 (.tmp 11) (.tmp 109) rfl g11 (ws u6) rfl rfl 50 (ws u5) hN (info16 u6 U6.out) (size_ws u5 u6 U5.out U6.out) (ws_one u6) ?_)
              clear hN
              generalize V5.setRow g11 (ws u6) = W6 at E ⊢
              have hN := E.h11
              go_wp2_with (refine wpList_load_row rfl 50 (.tmp 11) rfl g11 rfl 50 (ws u6) (0, 0) _ hN Try.underlying50 rfl (info16 u6 U6.out) ?_)
              refine (refQuarter_any u6 U6.out 2 7 8 13 (by omega) (by omega) (by omega) (by omega) (by omega) (by omega) (by omega) (by omega) (by omega) (by omega) _).mono ?_
              rintro e V6 ⟨rfl, hbq⟩
              clear hN
              replace E := E.step hbq
              have hul := (q4_length u6 2 7 8 13).trans U6.out
              obtain ⟨u7, hu⟩ : ∃ y, q4 u6 2 7 8 13 = y := ⟨_, rfl⟩
              rw [hu] at hul
              have Q6 := Lib.hid hu
              rw [Q6.out]
              have U7 := Lib.hid hul
              clear hul hu hbq W6
              have hN := E.h11
              replace E := E.store hg u7
              go_upto_region 23 with (refine wpList_store_row rfl 50 (.tmp 11) (.tmp 111) rfl g11 (ws u7) rfl rfl 50 (ws u6) hN (info16 u7 U7.out) (size_ws u6 u7 U6.out U7.out) (ws_one u7) ?_)
              clear hN
              generalize V6.setRow g11 (ws u7) = W7 at E ⊢
              have hN := E.h11
              go_wp2_with (refine wpList_load_row rfl 50 (.tmp 11) rfl g11 rfl 50 (ws u7) (0, 0) _ hN Try.underlying50 rfl (info16 u7 U7.out) ?_)
              refine (refQuarter_any u7 U7.out 3 4 9 14 (by omega) (by omega) (by omega) (by omega) (by omega) (by omega) (by omega) (by omega) (by omega) (by omega) _).mono ?_
              rintro e V7 ⟨rfl, hbq⟩
              clear hN
              replace E := E.step hbq
              have hul := (q4_length u7 3 4 9 14).trans U7.out
              obtain ⟨u8, hu⟩ : ∃ y, q4 u7 3 4 9 14 = y := ⟨_, rfl⟩
              rw [hu] at hul
              have Q7 := Lib.hid hu
              rw [Q7.out]
              have U8 := Lib.hid hul
              clear hul hu hbq W7
              have hN := E.h11
              replace E := E.store hg u8
              go_wp2_with (refine wpList_store_row rfl 50 (.tmp 11) (.tmp 113) rfl g11 (ws u8) rfl rfl 50 (ws u7) hN (info16 u8 U8.out) (size_ws u7 u8 U7.out U8.out) (ws_one u8) ?_)
              clear hN
              generalize V7.setRow g11 (ws u8) = W8 at E ⊢
              go_roundw
              case rel =>
                refine ⟨j + 1, by omega, by go_num, ?_⟩
                rw [HNX.out, Q0.out, Q1.out, Q2.out, Q3.out, Q4.out, Q5.out, Q6.out, Q7.out]
                exact E
              case measure => simp [intOf]; omega
            · have hj2 : j = 10 := by omega
              subst hj2
              have t1 : decide (((10 : Nat) : Int) < 10) = false := by simp
              have hfin : blkB v = bytesL (addL (dblN v 10) v) := rfl
              generalize dblN v 10 = u at E hul hfin
              have hal : (addL u v).length = 16 := by unfold addL; rw [List.length_zipWith, hul, HV.out]; rfl
              have hsum := fun i (hi : i < 16) => addL_get u v i (by omega) (by rw [HV.out]; exact hi)
              generalize addL u v = s at hal hsum hfin
              have HFIN := Lib.hid hfin
              clear hfin
              have HU := Lib.hid hul
              have HA := Lib.hid hal
              have HSUM := Lib.hid hsum
              clear hul hal hsum hj
              have B0 : w.heap.size ≤ wr.heap.size := E.hb.size
              obtain ⟨base, hbase⟩ : ∃ base, wr.heap.size = base := ⟨_, rfl⟩
              have hgb : g11 < base := by rw [← hbase]; exact E.h11.lt
              rw [hbase] at B0
              have O0 : wr.ownsRow base 5 1 (.slice none 0 0) 0 ((bytesL (s.take 0)).map B8) := World.ownsRow_nil _ _ _ _
              have S0 : base ≤ wr.heap.size := by rw [hbase]; exact Nat.le_refl _
              clear hbase
              go_wp2_with fail
              clear t1
              go_loopw [13, 14] (fun o i wr => ∃ (j : Nat) (a : Option Addr) (cap : Nat), j ≤ 16 ∧ o = .slice a (4 * j) cap ∧ i = .int .i64 (j : Int) ∧ wr.ownsRow base 5 1 (.slice a (4 * j) cap) (4 * j) ((bytesL (s.take j)).map B8) ∧ base ≤ wr.heap.size ∧ RC w v g11 wr u) (fun _ i _ => 16 - (intOf i).toNat)
              case atStart => exact ⟨0, none, 0, by omega, rfl, rfl, O0, S0, E⟩
              case round =>
                clear O0 S0 E
                obtain ⟨j, a, cap, hj, rfl, rfl, O, S, E⟩ := hrel
                by_cases hlt : j < 16
                · have t1 : decide ((j : Int) < 16) = true := by simp; omega
                  have hsum := HSUM.out j hlt
                  have c1 := E.h11.word j (by rw [HU.out]; exact hlt)
                  have c2 := E.h8.word j (by rw [HV.out]; exact hlt)
                  have hby := bytesL_take s j (by rw [HA.out]; exact hlt)
                  have hadd := add32 (u.getD j 0) (v.getD j 0)
                  rw [← hsum] at hadd
                  generalize s.getD j 0 = x at hadd hby
                  generalize u.getD j 0 = x1 at c1 hadd
                  generalize v.getD j 0 = x2 at c2 hadd
                  have HADD := Lib.hid hadd
                  have HBY := Lib.hid hby
                  clear hadd hby hsum
                  generalize bytesL (s.take j) = pre at O HBY
                  have j16 : ¬ ((16 : Int) ≤ (j : Int)) := by omega
                  go_wp2
                  go_quiet (fail)
                  rw [HADD.out]
                  clear c1 c2 j16 t1 HADD
                  have O1 : (wr.drewN nq).ownsRow base 5 1 (.slice a (4 * j + 0) cap) (4 * j + 0) ((pre ++ (leB x).take 0).map B8) := by
                    rw [List.take_zero, List.append_nil]; exact O
                  have S1 : base ≤ (wr.drewN nq).heap.size := S
                  have E1 : RC w v g11 (wr.drewN nq) u := ⟨E.h8.drewN _, E.h11.drewN _, below_drewN E.hb _⟩
                  have x1' : Value.int IntKind.u32 (x.toNat : Int) = .int .u32 (divB x 0) := by unfold divB; rw [Nat.pow_zero, Nat.div_one]
                  rw [x1']
                  generalize wr.drewN nq = w0 at O1 S1 E1 ⊢
                  clear O S E wr x1'
                  obtain ⟨J, hJ⟩ : ∃ J, 4 * j = J := ⟨_, rfl⟩
                  rw [hJ] at O1 ⊢
                  go_wp2_with fail
                  go_loopw [13, 15, 16] (fun o y i wr => ∃ (m : Nat) (a : Option Addr) (cap : Nat), m ≤ 4 ∧ o = .slice a (J + m) cap ∧ y = .int .u32 (divB x m) ∧ i = .int .i64 (m : Int) ∧ wr.ownsRow base 5 1 (.slice a (J + m) cap) (J + m) ((pre ++ (leB x).take m).map B8) ∧ base ≤ wr.heap.size ∧ RC w v g11 wr u) (fun _ _ i _ => 4 - (intOf i).toNat)
                  case atStart => exact ⟨0, a, cap, by omega, rfl, rfl, rfl, O1, S1, E1⟩
                  case round =>
                    clear O1 S1 E1 w0
                    obtain ⟨m, a, cap, hm, rfl, rfl, rfl, O, S, E⟩ := hrel
                    by_cases hlt2 : m < 4
                    · have t1 : decide ((m : Int) < 4) = true := by simp; omega
                      have hget := leB_get x m hlt2
                      have htk := leB_take x m hlt2
                      have hdn := divB_next x m
                      obtain ⟨hd0, hd1⟩ := divB_lt x m
                      generalize (leB x).getD m 0 = y at hget htk
                      generalize divB x m = d at hget hdn hd0 hd1 ⊢
                      have hr1 : d.tmod 256 = d % 256 := Int.tmod_eq_emod_of_nonneg hd0
                      have hr2 : d.tdiv 256 = d / 256 := Int.tdiv_eq_ediv_of_nonneg hd0
                      have HTK := Lib.hid htk
                      have HGET := Lib.hid hget
                      have HDN := Lib.hid hdn
                      clear htk hget hdn
                      generalize (leB x).take m = p at O HTK
                      go_wp2_with (at_builtin; rw [← HGET.out]; refine wpList_append_own _ rfl (.tmp 129) (.tmp 133) 32 rfl base 5 i0 _ 1 1 Try.underlying32 hi0 hz0 hz1 hz2 rfl (by omega) (.slice a (J + m) cap) (J + m) _ rfl (O.alloc _) ⟨wr.heap.size, 0, none⟩ 1 1 [.int .u8 (y.toNat : Int)] rfl rfl (fun j u hu => by cases j with | zero => (simp only [List.getElem?_cons_zero, Option.some.injEq] at hu; subst hu; exact (Has.fresh wr 5 #[B8 y]).cell 0) | succ j => simp at hu) (one_byte _) (by unfold maxLen; omega) (by omega) (by simp; omega) ?_; intro v2 w2 hown2 hg2 _; obtain ⟨a2, cap2, hv2⟩ := ownB_form hown2; rw [hv2] at hown2 ⊢)
                      rw [HDN.out]
                      have hB2 : Below base wr w2 := ((Below.refl base wr).alloc S _).grown hg2 (by simp; omega) (fun j hj => (O.lt j hj).1)
                      go_roundw
                      case rel =>
                        refine ⟨m + 1, a2, cap2, by omega, rfl, rfl, by go_num, ?_, Nat.le_trans S hB2.size, E.stepB hB2 hgb (by omega) B0⟩
                        rw [HTK.out, ← List.append_assoc, List.map_append (l₁ := pre ++ p)]
                        exact hown2
                      case measure => simp [intOf]; omega
                    · have hm2 : m = 4 := by omega
                      subst hm2
                      have t1 : decide (((4 : Nat) : Int) < 4) = false := by simp
                      rw [List.take_of_length_le (by rw [leB_length]; exact Nat.le_refl _), ← HBY.out] at O
                      go_upto_region 27 with fail
                      go_wp2
                      go_roundw
                      case rel =>
                        have e4 : J + 4 = 4 * (j + 1) := by omega
                        rw [e4] at O
                        iterate 27 apply Exists.intro
                        refine ⟨?_, rfl⟩
                        exact ⟨j + 1, a, cap, by omega, by rw [e4], by go_num, O, S, E⟩
                      case measure => simp [intOf]; omega
                · have hj2 : j = 16 := by omega
                  subst hj2
                  have t1 : decide (((16 : Nat) : Int) < 16) = false := by simp
                  rw [List.take_of_length_le (by rw [HA.out]; exact Nat.le_refl _)] at O
                  obtain ⟨hl, g, rfl, hr⟩ := own_bytes O (by omega)
                  have hcv := conv_range hr cap (4 * 16) hl
                  have hbb := E.hb
                  clear O hl E
                  go_wp2
                  go_ret
                  exact ⟨by rw [HFIN.out]; rfl, hbb⟩
end Go.Proofs.Ytfhjokbbaoldiaa
