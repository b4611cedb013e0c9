/- causeyref06.Less: walked. -/
import Derived.Test.YtdikkdediofieaaGC
namespace Go.Proofs.Ytdikkdediofieaa
open Go.RowKit
/-- all digits turned about -/
def flip8 (l : List Nat) : List Nat := l.map (255 - ·)
theorem flip8_length (l : List Nat) : (flip8 l).length = l.length := List.length_map _
theorem flip8_getD (l : List Nat) (i : Nat) (h : i < l.length) : (flip8 l).getD i 0 = 255 - l.getD i 0 := by
  unfold flip8
  rw [List.getD_eq_getElem?_getD, List.getElem?_map, List.getD_eq_getElem?_getD, List.getElem?_eq_getElem h]
  rfl
theorem flip8_num : ∀ (l : List Nat), Dig 256 l → num 256 (flip8 l) + num 256 l + 1 = 256 ^ l.length
  | [], _ => rfl
  | a :: l, h => by
    have ih := flip8_num l h.tail
    have ha := h.head
    simp only [flip8, List.map_cons, num, List.length_cons, Nat.pow_succ] at ih ⊢
    omega
/-- the digits of 2^255 - 19 -/
def dgP : List Nat := dg 256 57896044618658097711785492504343953926634992332820282019728792003956564819949 32
theorem dgP_length : dgP.length = 32 := dg_length _ _ _
theorem dgP_num : num 256 dgP = 57896044618658097711785492504343953926634992332820282019728792003956564819949 := by unfold dgP; rw [num_dg, e32]
theorem dgP_0 : dgP.getD 0 0 = 237 := by decide +kernel
theorem dgP_31 : dgP.getD 31 0 = 127 := by decide +kernel
theorem dgP_mid (i : Nat) (h0 : i ≠ 0) (h31 : i < 31) : dgP.getD i 0 = 255 := by
  have h : ∀ j : Fin 32, j.val ≠ 0 → j.val < 31 → dgP.getD j.val 0 = 255 := by decide +kernel
  exact h ⟨i, by omega⟩ h0 h31
theorem less_num (a b N k : Nat) (ha : a < 57896044618658097711785492504343953926634992332820282019728792003956564819949) (hb : b < 57896044618658097711785492504343953926634992332820282019728792003956564819949) (F : Nat) (hF : F + b + 1 = 115792089237316195423570985008687907853269984665640564039457584007913129639936) (hN : N < 115792089237316195423570985008687907853269984665640564039457584007913129639936) (h : N + k * 115792089237316195423570985008687907853269984665640564039457584007913129639936 = a + 57896044618658097711785492504343953926634992332820282019728792003956564819949 + F + 1) (hk : k ≤ 2) : 1 ≤ k ∧ N + (k - 1) * 115792089237316195423570985008687907853269984665640564039457584007913129639936 = a + (57896044618658097711785492504343953926634992332820282019728792003956564819949 - b) := by
  have : k = 0 ∨ k = 1 ∨ k = 2 := by omega
  rcases this with rfl | rfl | rfl <;> omega
set_option maxHeartbeats 2000000 in
theorem cless_any (a b : Nat) (ha : a < 57896044618658097711785492504343953926634992332820282019728792003956564819949) (hb : b < 57896044618658097711785492504343953926634992332820282019728792003956564819949) (w : World) :
    Calls Try.prog 28 #[.agg (de a), .agg (de b)] w fun e w' => e = .returned (.agg (de (fsub a b))) ∧ Below w.heap.size w w' := by
  have M0 : Mem w [(w.heap.size, 30, de a), (w.heap.size + 1, 30, de b), (w.heap.size + 1 + 1, 30, z32i)] (((w.alloc (.cells (de a) 30)).alloc (.cells (de b) 30)).alloc (.cells z32i 30)) :=
    (((Mem.init w).alloc _ rfl _ _).alloc _ (by simp) _ _).alloc _ (by simp) _ _
  have hsz : (((w.alloc (.cells (de a) 30)).alloc (.cells (de b) 30)).alloc (.cells z32i 30)).heap.size = w.heap.size + 1 + 1 + 1 := by simp
  have na := num_de a ha
  have nb' := num_de b hb
  have lA := dg_length 256 a 32
  have lB := dg_length 256 b 32
  have dA := dg_dig 256 a 32 (by omega)
  have dB := dg_dig 256 b 32 (by omega)
  have hR : ∀ o : List Nat, num 256 o = a + (57896044618658097711785492504343953926634992332820282019728792003956564819949 - b) → dg 256 (num 256 o % 57896044618658097711785492504343953926634992332820282019728792003956564819949) 32 = dg 256 (fsub a b) 32 := fun o h => by rw [h]; rfl
  have lR := dg_length 256 (fsub a b) 32
  unfold de at M0 hsz ⊢
  generalize dg 256 a 32 = A at *
  generalize dg 256 b 32 = B at *
  generalize dg 256 (fsub a b) 32 = R at *
  have nF := flip8_num B dB
  rw [lB, nb', e32] at nF
  have gF : ∀ i, i < 32 → (flip8 B).getD i 0 = 255 - B.getD i 0 := fun i hi => flip8_getD B i (by omega)
  have lF : (flip8 B).length = 32 := (flip8_length B).trans lB
  generalize flip8 B = F at nF gF lF
  have HA := Lib.hid (And.intro na (And.intro lA dA))
  have HB := Lib.hid (And.intro nb' (And.intro lB dB))
  have HF := Lib.hid (And.intro nF (And.intro gF lF))
  have HR := Lib.hid (And.intro hR lR)
  have HSZ := Lib.hid hsz
  have HAB := Lib.hid (And.intro ha hb)
  clear na nb' lA lB dA dB hR ha hb lR hsz nF gF lF
  go_enter Try.func28, Try.ntmps28
  go_upto_region 1 with fail
  change Code.wp _ _ _ _ (((w.alloc (.cells (is A) 30)).alloc (.cells (is B) 30)).alloc (.cells z32i 30))
  generalize ((w.alloc (.cells (is A) 30)).alloc (.cells (is B) 30)).alloc (.cells z32i 30) = w0 at M0 HSZ ⊢
  obtain ⟨Z, hZ⟩ : ∃ Z, Z = List.replicate 33 0 := ⟨_, rfl⟩
  have hmk : (Instr.makeSlice 47 (.int .i64 33) (.int .i64 33)).run Try.prog w0 = .ok (.slice (some ⟨w.heap.size + 1 + 1 + 1, 0, none⟩) 33 33) (w0.alloc (.cells (is Z) 3)) := by
    rw [← HSZ.out, hZ]; exact make_ints 33 (by omega) w0
  replace M0 := M0.alloc _ HSZ.out 3 (is Z)
  have HZ := Lib.hid hZ
  simp only [List.cons_append, List.nil_append] at M0
  clear HSZ hZ
  go_upto_region 2 with fail
  generalize w0.alloc (.cells (is Z) 3) = w1 at M0 ⊢
  clear hmk w0
  go_wp2
  go_loopw [6, 7] (fun bv iv wr => ∃ (i k : Nat) (bo : Int) (o : List Nat), i ≤ 32 ∧ iv = .int .i64 (i : Int) ∧ bv = .int .i64 bo ∧ bo = 1 - (k : Int) ∧ k ≤ 2 ∧ o.length = 33 ∧ Dig 256 o ∧ (∀ q, i ≤ q → o.getD q 0 = 0) ∧ num 256 o + k * 256 ^ i = num 256 (A.take i) + num 256 (dgP.take i) + num 256 (F.take i) + 1 ∧ Mem w [(w.heap.size, 30, is A), (w.heap.size + 1, 30, is B), (w.heap.size + 1 + 1, 30, z32i), (w.heap.size + 1 + 1 + 1, 3, is o)] wr) (fun _ iv _ => 32 - (intOf iv).toNat)
  case atStart =>
    have M1 := M0
    rw [HZ.out] at M1
    have hz : ∀ k, (List.replicate 33 0).getD k 0 = 0 := fun k => by
      rw [List.getD_eq_getElem?_getD, List.getElem?_replicate]
      split <;> rfl
    exact ⟨0, 1, 0, _, by omega, rfl, rfl, by omega, by omega, List.length_replicate, Dig.zeros _ (by omega) _, fun k _ => hz k, by rw [num_zeros]; rfl, M1⟩
  case round =>
    clear M0 w1 HZ Z
    obtain ⟨i, k, bo, o, hi, rfl, rfl, hbo, hk, lo, do', hz, hn, M⟩ := hrel
    by_cases hlt : i < 32
    · have t1 : decide ((i : Int) < 32) = true := by simp; omega
      have c2 := (M.drew.row 0 rfl).i64 i (by rw [HA.out.2.1]; omega)
      have c3 := (M.drew.row 1 rfl).i64 i (by rw [HB.out.2.1]; omega)
      have b2 := HA.out.2.2.getD (by omega) i
      have b3 := HB.out.2.2.getD (by omega) i
      obtain ⟨pd, hpd⟩ : ∃ pd, pd = dgP.getD i 0 := ⟨_, rfl⟩
      obtain ⟨t, ht⟩ : ∃ t, t = (A.getD i 0 + pd + (255 - B.getD i 0)) + k := ⟨_, rfl⟩
      have hnx : num 256 (o.set i (t % 256)) + t / 256 * 256 ^ (i + 1) = num 256 (A.take (i + 1)) + num 256 (dgP.take (i + 1)) + num 256 (F.take (i + 1)) + 1 := by
        have h1 := num_set 256 o i (t % 256) (by omega)
        rw [hz i (Nat.le_refl _), Nat.zero_mul, Nat.add_zero] at h1
        have h2 := step_add 256 (num 256 o) _ k i t hn (A.getD i 0 + pd + (255 - B.getD i 0)) ht
        rw [h1, h2, num_take_succ 256 A i (by rw [HA.out.2.1]; omega), num_take_succ 256 dgP i (by rw [dgP_length]; omega), num_take_succ 256 F i (by rw [HF.out.2.2]; omega), HF.out.2.1 i hlt, ← hpd, Nat.add_mul, Nat.add_mul]
        omega
      have hl : (o.set i (t % 256)).length = 33 := by rw [List.length_set, lo]
      have hd := do'.set i (Nat.mod_lt t (show 0 < 256 by omega))
      have hz2 : ∀ q, i + 1 ≤ q → (o.set i (t % 256)).getD q 0 = 0 := fun q hq => by rw [getD_set_other _ _ _ _ (by omega)]; exact hz q (by omega)
      have HN := Lib.hid (And.intro hl (And.intro hd (And.intro hz2 hnx)))
      have HLO := Lib.hid lo
      clear hl hd hz2 hnx lo do' hz hn
      have hp2 : pd < 256 := by rw [hpd]; exact (dg_dig 256 57896044618658097711785492504343953926634992332820282019728792003956564819949 32 (by omega)).getD (by omega) i
      obtain ⟨X, hX⟩ : ∃ X : Int, X = (A.getD i 0 : Int) + (pd : Int) - (B.getD i 0 : Int) - bo := ⟨_, rfl⟩
      have hXt : X = (t : Int) - 256 := by omega
      have hX1 : -256 ≤ X := by omega
      have hp3 : i ≠ 31 → i ≠ 0 → pd = 255 := fun h h' => by rw [hpd]; exact dgP_mid i h' (by omega)
      have hX2 : X ≤ 511 := by omega
      have ht3 : t < 768 := by omega
      have HXT := Lib.hid hXt
      clear ht
      generalize A.getD i 0 = x2 at *
      generalize B.getD i 0 = x3 at *
      have hbo1 : -1 ≤ bo ∧ bo ≤ 1 := by omega
      clear hbo hk hXt
      by_cases h0 : i = 0
      · have t2 : ((i : Int) == 0) = true := by simp; omega
        have t3 : ((i : Int) == 31) = false := by simp; omega
        have hpe : pd = 237 := by rw [hpd, h0]; exact dgP_0
        clear h0
        have hXX : (x2 : Int) + 237 - (x3 : Int) - bo = X := by omega
        have HX := Lib.hid hXX
        clear hXX hX hp2 hpd hp3
        go_upto_region 11 with fail
        go_region
        rw [HX.out]
        go_upto_region 12 with fail
        clear HX c2 c3
        clear hpe b2 b3
        replace M := M.drew
        change Code.wp _ _ _ _ wr.drew
        generalize wr.drew = w9 at M ⊢
        clear wr
        go_wp2_with fail
        go_loopw [6, 9] (fun bv xv W => ∃ (X' b' : Int), bv = .int .i64 b' ∧ xv = .int .i64 X' ∧ X' - 256 * b' = X ∧ -256 ≤ X' ∧ X' ≤ 511 ∧ Mem w [(w.heap.size, 30, is A), (w.heap.size + 1, 30, is B), (w.heap.size + 1 + 1, 30, z32i), (w.heap.size + 1 + 1 + 1, 3, is o)] W) (fun _ xv _ => (-(intOf xv)).toNat)
        case atStart => exact ⟨X, 0, rfl, rfl, by omega, hX1, hX2, M⟩
        case round =>
          clear M w9
          obtain ⟨X', b', rfl, rfl, hx1, hx2, hx3, M⟩ := hrel
          by_cases hneg : X' < 0
          · have t4 : decide (X' < 0) = true := by simp; omega
            go_wp2
            go_roundw
            case rel => exact ⟨X' + 256, b' + 1, by go_num, by go_num, by omega, by omega, by omega, M⟩
            case measure => simp [intOf]; omega
          · have t4 : decide (X' < 0) = false := by simp; omega
            obtain ⟨Y, rfl⟩ : ∃ Y : Nat, X' = (Y : Int) := ⟨X'.toNat, by omega⟩
            go_wp2_with fail
            go_loopw [6, 9] (fun bv xv W => ∃ (Y : Nat) (b' : Int), bv = .int .i64 b' ∧ xv = .int .i64 (Y : Int) ∧ (Y : Int) - 256 * b' = X ∧ Y ≤ 511 ∧ Mem w [(w.heap.size, 30, is A), (w.heap.size + 1, 30, is B), (w.heap.size + 1 + 1, 30, z32i), (w.heap.size + 1 + 1 + 1, 3, is o)] W) (fun _ xv _ => (intOf xv).toNat)
            case atStart => exact ⟨Y, b', rfl, rfl, by omega, by omega, M⟩
            case round =>
              clear hx1 hx2 hx3 hneg t4 M
              obtain ⟨y, c', rfl, rfl, hx1, hx3, M⟩ := hrel
              by_cases hbig : 255 < y
              · have t4 : decide ((255 : Int) < (y : Int)) = true := by simp; omega
                have hY : (y : Int) - 256 = ((y - 256 : Nat) : Int) := by omega
                go_wp2
                go_roundw
                case rel => exact ⟨y - 256, c' - 1, by go_num, by go_num, by omega, by omega, M⟩
                case measure => simp [intOf]; omega
              · have t4 : decide ((255 : Int) < (y : Int)) = false := by simp; omega
                have hr0 := HXT.out
                obtain rfl : y = t % 256 := by omega
                have hb9 : c' = 1 - ((t / 256 : Nat) : Int) := by omega
                have hk9 : t / 256 ≤ 2 := by omega
                have hm9 : t % 256 < 256 := Nat.mod_lt _ (by omega)
                clear hr0 HXT hx1 hX1 hX2 ht3
                generalize t % 256 = r at *
                generalize t / 256 = q at *
                clear t
                have co := (M.row 3 rfl).i64 i (by rw [HLO.out]; omega)
                have f1 := (M.row 3 rfl).frozen i
                have M2 := M.setCell 3 rfl i (I64 r)
                simp only [List.set_cons_zero, List.set_cons_succ] at M2
                rw [is_set] at M2
                have hn33 : ¬ ((33 : Int) ≤ (i : Int)) := by omega
                generalize o.getD i 0 = x1 at co
                clear M
                go_wp2
                go_roundw
                case rel => exact ⟨i + 1, q, c', _, by omega, by go_num, rfl, hb9, hk9, HN.out.1, HN.out.2.1, HN.out.2.2.1, HN.out.2.2.2, M2⟩
                case measure => simp [intOf]; omega
      · by_cases h31 : i = 31
        · have t2 : ((i : Int) == 0) = false := by simp; omega
          have t3 : ((i : Int) == 31) = true := by simp; omega
          have hpe : pd = 127 := by rw [hpd, h31]; exact dgP_31
          clear h31 h0
          have hXX : (x2 : Int) + 127 - (x3 : Int) - bo = X := by omega
          have HX := Lib.hid hXX
          clear hXX hX hp2 hpd hp3
          go_upto_region 11 with fail
          go_region
          rw [HX.out]
          go_upto_region 12 with fail
          clear HX c2 c3
          clear hpe b2 b3
          replace M := M.drew
          change Code.wp _ _ _ _ wr.drew
          generalize wr.drew = w9 at M ⊢
          clear wr
          go_wp2_with fail
          go_loopw [6, 9] (fun bv xv W => ∃ (X' b' : Int), bv = .int .i64 b' ∧ xv = .int .i64 X' ∧ X' - 256 * b' = X ∧ -256 ≤ X' ∧ X' ≤ 511 ∧ Mem w [(w.heap.size, 30, is A), (w.heap.size + 1, 30, is B), (w.heap.size + 1 + 1, 30, z32i), (w.heap.size + 1 + 1 + 1, 3, is o)] W) (fun _ xv _ => (-(intOf xv)).toNat)
          case atStart => exact ⟨X, 0, rfl, rfl, by omega, hX1, hX2, M⟩
          case round =>
            clear M w9
            obtain ⟨X', b', rfl, rfl, hx1, hx2, hx3, M⟩ := hrel
            by_cases hneg : X' < 0
            · have t4 : decide (X' < 0) = true := by simp; omega
              go_wp2
              go_roundw
              case rel => exact ⟨X' + 256, b' + 1, by go_num, by go_num, by omega, by omega, by omega, M⟩
              case measure => simp [intOf]; omega
            · have t4 : decide (X' < 0) = false := by simp; omega
              obtain ⟨Y, rfl⟩ : ∃ Y : Nat, X' = (Y : Int) := ⟨X'.toNat, by omega⟩
              go_wp2_with fail
              go_loopw [6, 9] (fun bv xv W => ∃ (Y : Nat) (b' : Int), bv = .int .i64 b' ∧ xv = .int .i64 (Y : Int) ∧ (Y : Int) - 256 * b' = X ∧ Y ≤ 511 ∧ Mem w [(w.heap.size, 30, is A), (w.heap.size + 1, 30, is B), (w.heap.size + 1 + 1, 30, z32i), (w.heap.size + 1 + 1 + 1, 3, is o)] W) (fun _ xv _ => (intOf xv).toNat)
              case atStart => exact ⟨Y, b', rfl, rfl, by omega, by omega, M⟩
              case round =>
                clear hx1 hx2 hx3 hneg t4 M
                obtain ⟨y, c', rfl, rfl, hx1, hx3, M⟩ := hrel
                by_cases hbig : 255 < y
                · have t4 : decide ((255 : Int) < (y : Int)) = true := by simp; omega
                  have hY : (y : Int) - 256 = ((y - 256 : Nat) : Int) := by omega
                  go_wp2
                  go_roundw
                  case rel => exact ⟨y - 256, c' - 1, by go_num, by go_num, by omega, by omega, M⟩
                  case measure => simp [intOf]; omega
                · have t4 : decide ((255 : Int) < (y : Int)) = false := by simp; omega
                  have hr0 := HXT.out
                  obtain rfl : y = t % 256 := by omega
                  have hb9 : c' = 1 - ((t / 256 : Nat) : Int) := by omega
                  have hk9 : t / 256 ≤ 2 := by omega
                  have hm9 : t % 256 < 256 := Nat.mod_lt _ (by omega)
                  clear hr0 HXT hx1 hX1 hX2 ht3
                  generalize t % 256 = r at *
                  generalize t / 256 = q at *
                  clear t
                  have co := (M.row 3 rfl).i64 i (by rw [HLO.out]; omega)
                  have f1 := (M.row 3 rfl).frozen i
                  have M2 := M.setCell 3 rfl i (I64 r)
                  simp only [List.set_cons_zero, List.set_cons_succ] at M2
                  rw [is_set] at M2
                  have hn33 : ¬ ((33 : Int) ≤ (i : Int)) := by omega
                  generalize o.getD i 0 = x1 at co
                  clear M
                  go_wp2
                  go_roundw
                  case rel => exact ⟨i + 1, q, c', _, by omega, by go_num, rfl, hb9, hk9, HN.out.1, HN.out.2.1, HN.out.2.2.1, HN.out.2.2.2, M2⟩
                  case measure => simp [intOf]; omega
        · have t2 : ((i : Int) == 0) = false := by simp; omega
          have t3 : ((i : Int) == 31) = false := by simp; omega
          have hpe := hp3 h31 h0
          clear h31 h0
          have hXX : (x2 : Int) + 255 - (x3 : Int) - bo = X := by omega
          have HX := Lib.hid hXX
          clear hXX hX hp2 hpd hp3
          go_upto_region 11 with fail
          go_region
          rw [HX.out]
          go_upto_region 12 with fail
          clear HX c2 c3
          clear hpe b2 b3
          replace M := M.drew
          change Code.wp _ _ _ _ wr.drew
          generalize wr.drew = w9 at M ⊢
          clear wr
          go_wp2_with fail
          go_loopw [6, 9] (fun bv xv W => ∃ (X' b' : Int), bv = .int .i64 b' ∧ xv = .int .i64 X' ∧ X' - 256 * b' = X ∧ -256 ≤ X' ∧ X' ≤ 511 ∧ Mem w [(w.heap.size, 30, is A), (w.heap.size + 1, 30, is B), (w.heap.size + 1 + 1, 30, z32i), (w.heap.size + 1 + 1 + 1, 3, is o)] W) (fun _ xv _ => (-(intOf xv)).toNat)
          case atStart => exact ⟨X, 0, rfl, rfl, by omega, hX1, hX2, M⟩
          case round =>
            clear M w9
            obtain ⟨X', b', rfl, rfl, hx1, hx2, hx3, M⟩ := hrel
            by_cases hneg : X' < 0
            · have t4 : decide (X' < 0) = true := by simp; omega
              go_wp2
              go_roundw
              case rel => exact ⟨X' + 256, b' + 1, by go_num, by go_num, by omega, by omega, by omega, M⟩
              case measure => simp [intOf]; omega
            · have t4 : decide (X' < 0) = false := by simp; omega
              obtain ⟨Y, rfl⟩ : ∃ Y : Nat, X' = (Y : Int) := ⟨X'.toNat, by omega⟩
              go_wp2_with fail
              go_loopw [6, 9] (fun bv xv W => ∃ (Y : Nat) (b' : Int), bv = .int .i64 b' ∧ xv = .int .i64 (Y : Int) ∧ (Y : Int) - 256 * b' = X ∧ Y ≤ 511 ∧ Mem w [(w.heap.size, 30, is A), (w.heap.size + 1, 30, is B), (w.heap.size + 1 + 1, 30, z32i), (w.heap.size + 1 + 1 + 1, 3, is o)] W) (fun _ xv _ => (intOf xv).toNat)
              case atStart => exact ⟨Y, b', rfl, rfl, by omega, by omega, M⟩
              case round =>
                clear hx1 hx2 hx3 hneg t4 M
                obtain ⟨y, c', rfl, rfl, hx1, hx3, M⟩ := hrel
                by_cases hbig : 255 < y
                · have t4 : decide ((255 : Int) < (y : Int)) = true := by simp; omega
                  have hY : (y : Int) - 256 = ((y - 256 : Nat) : Int) := by omega
                  go_wp2
                  go_roundw
                  case rel => exact ⟨y - 256, c' - 1, by go_num, by go_num, by omega, by omega, M⟩
                  case measure => simp [intOf]; omega
                · have t4 : decide ((255 : Int) < (y : Int)) = false := by simp; omega
                  have hr0 := HXT.out
                  obtain rfl : y = t % 256 := by omega
                  have hb9 : c' = 1 - ((t / 256 : Nat) : Int) := by omega
                  have hk9 : t / 256 ≤ 2 := by omega
                  have hm9 : t % 256 < 256 := Nat.mod_lt _ (by omega)
                  clear hr0 HXT hx1 hX1 hX2 ht3
                  generalize t % 256 = r at *
                  generalize t / 256 = q at *
                  clear t
                  have co := (M.row 3 rfl).i64 i (by rw [HLO.out]; omega)
                  have f1 := (M.row 3 rfl).frozen i
                  have M2 := M.setCell 3 rfl i (I64 r)
                  simp only [List.set_cons_zero, List.set_cons_succ] at M2
                  rw [is_set] at M2
                  have hn33 : ¬ ((33 : Int) ≤ (i : Int)) := by omega
                  generalize o.getD i 0 = x1 at co
                  clear M
                  go_wp2
                  go_roundw
                  case rel => exact ⟨i + 1, q, c', _, by omega, by go_num, rfl, hb9, hk9, HN.out.1, HN.out.2.1, HN.out.2.2.1, HN.out.2.2.2, M2⟩
                  case measure => simp [intOf]; omega
    · have hi3 : i = 32 := by omega
      subst hi3
      rw [show (((32 : Nat) : Int)) = 32 from rfl]
      have t1 : decide ((32 : Int) < 32) = false := by decide
      rw [List.take_of_length_le (by rw [HA.out.2.1]; omega), List.take_of_length_le (by rw [dgP_length]; omega), List.take_of_length_le (by rw [HF.out.2.2]; omega), HA.out.1, dgP_num, e32] at hn
      have hl32 := hz 32 (by omega)
      have hNl : num 256 o < 115792089237316195423570985008687907853269984665640564039457584007913129639936 := by
        have h1 : num 256 o = num 256 (o.take 32) := by
          have h0 := num_take_succ 256 o 32 (by omega)
          rw [hl32, Nat.zero_mul, List.take_of_length_le (by omega)] at h0
          omega
        have h2 := num_lt 256 _ (do'.take 32)
        rw [List.length_take, lo, ← h1, Nat.min_eq_left (by omega), e32] at h2
        exact h2
      have hln := less_num a b (num 256 o) k HAB.out.1 HAB.out.2 (num 256 F) HF.out.1 hNl hn hk
      have hset := num_set 256 o 32 (k - 1) (by omega)
      rw [hl32, Nat.zero_mul, Nat.add_zero, e32] at hset
      have hnum : num 256 (o.set 32 (k - 1)) = a + (57896044618658097711785492504343953926634992332820282019728792003956564819949 - b) := by rw [hset]; exact hln.2
      have hneg : -bo = ((k - 1 : Nat) : Int) := by omega
      have c1 := (M.row 3 rfl).i64 32 (by omega)
      have f1 := (M.row 3 rfl).frozen 32
      replace M := M.setCell 3 rfl 32 (I64 (k - 1))
      simp only [List.set_cons_zero, List.set_cons_succ] at M
      rw [is_set] at M
      have hd := do'.set 32 (show k - 1 < 256 by omega)
      have hl : (o.set 32 (k - 1)).length = 33 := by rw [List.length_set, lo]
      have hkk : k - 1 ≤ 1 := by omega
      have hb1 : -1 ≤ bo ∧ bo ≤ 1 := by omega
      rw [hl32] at c1
      clear hset hln hNl hl32 hn hz lo do' hbo hk
      generalize o.set 32 (k - 1) = o' at *
      generalize k - 1 = y at *
      go_upto_region 21 with fail
      change Code.wp _ _ _ _ (wr.setCell ⟨w.heap.size + 1 + 1 + 1, 32, none⟩ (I64 y))
      generalize wr.setCell ⟨w.heap.size + 1 + 1 + 1, 32, none⟩ (I64 y) = w3 at M ⊢
      clear c1 f1 wr
      have hrd := (M.row 3 rfl).rdI
      rw [hl] at hrd
      have p1 := crest_any o' hd (by omega) (by omega) _ w3 hrd
      rw [HR.out.1 o' hnum] at p1
      have P1 := Lib.hid p1
      clear p1 hrd hd hnum hl
      go_wp2_with fail
      go_at_call 26
      refine P1.out.mono ?_
      rintro e w9 ⟨rfl, hb1⟩
      replace M := M.step hb1
      clear hb1 P1 w3
      have r2 := M.row 2 rfl
      have lR := HR.out.2
      go_wp2_with (refine wpList_store_row rfl 30 (.tmp 4) (.tmp 51) rfl (w.heap.size + 1 + 1) (is R) rfl rfl 30 z32i r2 (infoD R lR) (z32i_size R lR) (is_one _) ?_)
      replace M := M.store 2 rfl (is R)
      simp only [List.set_cons_zero, List.set_cons_succ] at M
      exact bodyPost_ret (v := .agg (is R)) (results_cell_row rfl _ _ (w.heap.size + 1 + 1) 30 (is R) (0, 0) _ rfl (M.row 2 rfl) Try.underlying30 rfl (infoD R lR)) rfl ⟨rfl, M.below⟩
end Go.Proofs.Ytdikkdediofieaa
