/- internal/strconv.ParseUint at the bases 10 and 16, for numbers of a byte: walked. -/
import Derived.Test.YtbeeebnocliaiaaDoorOP
namespace Go.Proofs.YtbeeebnocliaiaaDoor
open Go.RowKit
theorem bytesWorld_beneath (w : World) (e : TypeId) (s : ByteArray) : Below w.heap.size w (Lib.bytesWorld w e s) :=
  ⟨rfl, rfl, rfl, by rw [Lib.bytesWorld_size]; omega, fun j hj => Lib.bytesWorld_at_old w e s j hj⟩
set_option maxHeartbeats 8000000 in
set_option maxRecDepth 100000 in
theorem parse16_any (t : ByteArray) (hne : t.size ≠ 0) (hmax : t.size ≤ 9223372036854775806) (w : World) :
    Calls Tryd.prog 37 #[.string t, .int .i64 16, .int .i64 8] w fun e w' => PuOut (puL 16 0 t.data.toList) e ∧ Below w.heap.size w w' := by
  have hemp : t.toList.isEmpty = false := by
    rw [← decide_eq_emptyBytes]
    exact decide_eq_false (fun h => hne (by rw [h]; rfl))
  have hcv := Lib.run_convert_string_bytes (P := Tryd.prog) w 9 51 5 t (u := .string) Tryd.underlying9 Tryd.underlying51 Tryd.underlying5
  have hB : ∀ j, j < t.size → (Lib.bytesWorld w 5 t).cell? ⟨w.heap.size, j, none⟩ = some (.int .u8 (t.data.toList.getD j 0).toNat) := fun j hj => Lib.bytesWorld_cell w 5 t j hj
  have hbw : Below w.heap.size w (Lib.bytesWorld w 5 t) := bytesWorld_beneath _ _ _
  obtain ⟨W1, hW1⟩ : ∃ W1, W1 = Lib.bytesWorld w 5 t := ⟨_, rfl⟩
  rw [← hW1] at hcv hB hbw
  clear hW1
  obtain ⟨l, hL⟩ : ∃ l, l = t.data.toList := ⟨_, rfl⟩
  have hLn : l.length = t.size := by rw [hL]; rfl
  rw [← hL] at hB ⊢
  clear hL
  have hmv : IntKind.u64.wrap (IntKind.u64.wrap 256 - 1) = 255 := by
    rw [IntKind.wrap_u64, IntKind.wrap_u64]
    decide
  have HBW := Lib.hid hbw
  clear hbw
  go_enter Tryd.func37, Tryd.ntmps37
  go_wp2
  go_loop [12, 13, 101] (fun vu vn vi => ∃ (k acc : Nat) (a : Int), vu = .bool false ∧ vn = .int .u64 a ∧ vi = .int .i64 k ∧ k ≤ t.size ∧ Hid (a = (acc : Int) ∧ acc ≤ 255 ∧ puL 16 0 l = puL 16 acc (l.drop k)))
    (fun _ _ vi => t.size - (intOf vi).toNat)
  case atStart => exact ⟨0, 0, 0, rfl, rfl, rfl, by omega, rfl, by omega, rfl⟩
  case round =>
    obtain ⟨k, acc, a, rfl, rfl, rfl, hk, hh⟩ := hrel
    obtain ⟨ha, hacc, hdec⟩ := hh.out
    clear hh
    have a0 : 0 ≤ a := by omega
    have a1 : a ≤ 255 := by omega
    by_cases hkn : k < t.size
    · have hc := hB k hkn
      have hdrop : l.drop k = l[k]'(by omega) :: l.drop (k + 1) := List.drop_eq_getElem_cons (by omega)
      have hget : l.getD k 0 = l[k]'(by omega) := by simp [List.getD, List.getElem?_eq_getElem (show k < l.length by omega)]
      rw [hdrop] at hdec
      rw [hget] at hc
      generalize l[k]'(by omega) = c at hc hdec
      have hc256 : c.toNat < 256 := c.toNat_lt
      clear hB hdrop hget
      by_cases hdig : 48 ≤ c.toNat ∧ c.toNat ≤ 57
      · obtain ⟨hd0, hd1⟩ := hdig
        have hdg : dg c = c.toNat - 48 := by unfold dg; rw [if_pos ⟨hd0, hd1⟩]
        have hst : puL 16 acc (c :: l.drop (k + 1)) = if dg c < 16 then (if acc * 16 + dg c ≤ 255 then puL 16 (acc * 16 + dg c) (l.drop (k + 1)) else none) else none := rfl
        rw [hdg, if_pos (by omega)] at hst
        by_cases hov : 255 < acc * 16 + (c.toNat - 48)
        · rw [if_neg (by omega)] at hst
          have HF := Lib.hid (hdec.trans hst)
          have iov : 255 < a * 16 + ((c.toNat : Int) - 48) := by omega
          clear hacc hst hov ha hdec hdg
          go_wp2
          go_ret2
          exact ⟨PuOut.bad HF.out _ _ (Or.inl rfl), HBW.out⟩
        · rw [if_pos (by omega)] at hst
          have HN : Hid (a * 16 + ((c.toNat : Int) - 48) = ((acc * 16 + (c.toNat - 48) : Nat) : Int) ∧ acc * 16 + (c.toNat - 48) ≤ 255 ∧ puL 16 0 l = puL 16 (acc * 16 + (c.toNat - 48)) (l.drop (k + 1))) := Lib.hid ⟨by omega, by omega, hdec.trans hst⟩
          have iov : a * 16 + ((c.toNat : Int) - 48) ≤ 255 := by omega
          clear hacc hst hov hdec ha hdg
          go_wp2
          refine ⟨⟨k + 1, acc * 16 + (c.toNat - 48), a * 16 + ((c.toNat : Int) - 48), rfl, (by first | rfl | (congr 1; omega)), (by first | rfl | (congr 1; omega)), by omega, HN⟩, by simp [intOf]; omega⟩
      · have hlow := fun W => lower_any c W
        have hst : puL 16 acc (c :: l.drop (k + 1)) = if dg c < 16 then (if acc * 16 + dg c ≤ 255 then puL 16 (acc * 16 + dg c) (l.drop (k + 1)) else none) else none := rfl
        have hdg : dg c = if 97 ≤ (c ||| 32).toNat ∧ (c ||| 32).toNat ≤ 122 then (c ||| 32).toNat - 87 else 255 := by unfold dg; rw [if_neg hdig]
        have hlc256 : (c ||| 32).toNat < 256 := (c ||| 32).toNat_lt
        by_cases h95 : c.toNat = 95
        · obtain rfl : c = 95 := UInt8.toNat_inj.1 (by rw [h95]; rfl)
          have hd : dg 95 = 255 := by decide
          rw [hd, if_neg (by omega)] at hst
          have HF := Lib.hid (hdec.trans hst)
          have e1 : ((95 : UInt8) ||| 32).toNat = 127 := by decide
          have e2 : (95 : UInt8).toNat = 95 := by decide
          rw [e1] at hlow
          rw [e2] at hc
          clear hacc hst ha hdec hdg hdig hlc256 h95 e1 hd
          go_wp2_with (go_at_call 44; refine (hlow _).mono ?_; rintro e w2 ⟨rfl, rfl⟩)
          go_ret2
          exact ⟨PuOut.bad HF.out _ _ (Or.inr rfl), HBW.out⟩
        · have t95 : ((c.toNat : Int) == 95) = false := by rw [beq_eq_false_iff_ne]; omega
          generalize (c ||| 32).toNat = lc at hlow hdg hlc256
          by_cases hlet : 97 ≤ lc ∧ lc ≤ 122
          · rw [if_pos hlet] at hdg
            rw [hdg] at hst
            have hl0 := hlet.1
            have hl1 := hlet.2
            by_cases hbase : lc - 87 < 16
            · rw [if_pos hbase] at hst
              have h57 : 57 < c.toNat ∨ c.toNat < 48 := by omega
              by_cases hov : 255 < acc * 16 + (lc - 87)
              · rw [if_neg (by omega)] at hst
                have HF := Lib.hid (hdec.trans hst)
                have iov : 255 < a * 16 + ((lc : Int) - 97 + 10) := by omega
                have hb2 : (lc : Int) - 97 + 10 < 16 := by omega
                rcases h57 with h57 | h57
                · clear hacc hst ha hdec hdg hdig hbase hlet h95 hov
                  go_wp2_with (go_at_call 44; refine (hlow _).mono ?_; rintro e w2 ⟨rfl, rfl⟩)
                  go_ret2
                  exact ⟨PuOut.bad HF.out _ _ (Or.inl rfl), HBW.out⟩
                · clear hacc hst ha hdec hdg hdig hbase hlet h95 hov
                  go_wp2_with (go_at_call 44; refine (hlow _).mono ?_; rintro e w2 ⟨rfl, rfl⟩)
                  go_ret2
                  exact ⟨PuOut.bad HF.out _ _ (Or.inl rfl), HBW.out⟩
              · rw [if_pos (by omega)] at hst
                have HN : Hid (a * 16 + ((lc : Int) - 97 + 10) = ((acc * 16 + (lc - 87) : Nat) : Int) ∧ acc * 16 + (lc - 87) ≤ 255 ∧ puL 16 0 l = puL 16 (acc * 16 + (lc - 87)) (l.drop (k + 1))) := Lib.hid ⟨by omega, by omega, hdec.trans hst⟩
                have iov : a * 16 + ((lc : Int) - 97 + 10) ≤ 255 := by omega
                have hb2 : (lc : Int) - 97 + 10 < 16 := by omega
                rcases h57 with h57 | h57
                · clear hacc hst ha hdec hdg hdig hbase hlet h95 hov
                  go_wp2_with (go_at_call 44; refine (hlow _).mono ?_; rintro e w2 ⟨rfl, rfl⟩)
                  refine ⟨⟨k + 1, acc * 16 + (lc - 87), a * 16 + ((lc : Int) - 97 + 10), rfl, (by first | rfl | (congr 1; omega)), (by first | rfl | (congr 1; omega)), by omega, HN⟩, by simp [intOf]; omega⟩
                · clear hacc hst ha hdec hdg hdig hbase hlet h95 hov
                  go_wp2_with (go_at_call 44; refine (hlow _).mono ?_; rintro e w2 ⟨rfl, rfl⟩)
                  refine ⟨⟨k + 1, acc * 16 + (lc - 87), a * 16 + ((lc : Int) - 97 + 10), rfl, (by first | rfl | (congr 1; omega)), (by first | rfl | (congr 1; omega)), by omega, HN⟩, by simp [intOf]; omega⟩
            · rw [if_neg hbase] at hst
              have HF := Lib.hid (hdec.trans hst)
              have hb2 : 16 ≤ (lc : Int) - 97 + 10 := by omega
              rcases Nat.lt_or_ge c.toNat 48 with h48 | h48
              · clear hacc hst ha hdec hdg hdig hbase hlet h95
                go_wp2_with (go_at_call 44; refine (hlow _).mono ?_; rintro e w2 ⟨rfl, rfl⟩)
                go_ret2
                exact ⟨PuOut.bad HF.out _ _ (Or.inr rfl), HBW.out⟩
              · have h57 : 57 < c.toNat := by omega
                clear hacc hst ha hdec hdg hdig hbase hlet h95
                go_wp2_with (go_at_call 44; refine (hlow _).mono ?_; rintro e w2 ⟨rfl, rfl⟩)
                go_ret2
                exact ⟨PuOut.bad HF.out _ _ (Or.inr rfl), HBW.out⟩
          · rw [if_neg hlet] at hdg
            rw [hdg, if_neg (by omega)] at hst
            have HF := Lib.hid (hdec.trans hst)
            rcases Nat.lt_or_ge c.toNat 48 with h48 | h48 <;> rcases Nat.lt_or_ge lc 97 with h97 | h97
            · clear hacc hst ha hdec hdg hdig hlet h95
              go_wp2_with (go_at_call 44; refine (hlow _).mono ?_; rintro e w2 ⟨rfl, rfl⟩)
              go_ret2
              exact ⟨PuOut.bad HF.out _ _ (Or.inr rfl), HBW.out⟩
            · have h122 : 122 < lc := by omega
              clear hacc hst ha hdec hdg hdig hlet h95
              go_wp2_with (go_at_call 44; refine (hlow _).mono ?_; rintro e w2 ⟨rfl, rfl⟩)
              go_ret2
              exact ⟨PuOut.bad HF.out _ _ (Or.inr rfl), HBW.out⟩
            · have h57 : 57 < c.toNat := by omega
              clear hacc hst ha hdec hdg hdig hlet h95
              go_wp2_with (go_at_call 44; refine (hlow _).mono ?_; rintro e w2 ⟨rfl, rfl⟩)
              go_ret2
              exact ⟨PuOut.bad HF.out _ _ (Or.inr rfl), HBW.out⟩
            · have h57 : 57 < c.toNat := by omega
              have h122 : 122 < lc := by omega
              clear hacc hst ha hdec hdg hdig hlet h95
              go_wp2_with (go_at_call 44; refine (hlow _).mono ?_; rintro e w2 ⟨rfl, rfl⟩)
              go_ret2
              exact ⟨PuOut.bad HF.out _ _ (Or.inr rfl), HBW.out⟩
    · have hkk : k = t.size := by omega
      subst hkk
      have hF : puL 16 acc (l.drop t.size) = some acc := by rw [List.drop_eq_nil_of_le (by omega)]; rfl
      have HF := Lib.hid (hdec.trans hF)
      subst ha
      clear hacc hF a0 a1 hdec
      go_wp2
      go_ret2
      exact ⟨PuOut.good HF.out, HBW.out⟩
set_option maxHeartbeats 8000000 in
set_option maxRecDepth 100000 in
theorem parse10_any (t : ByteArray) (hne : t.size ≠ 0) (hmax : t.size ≤ 9223372036854775806) (w : World) :
    Calls Tryd.prog 37 #[.string t, .int .i64 10, .int .i64 8] w fun e w' => PuOut (puL 10 0 t.data.toList) e ∧ Below w.heap.size w w' := by
  have hemp : t.toList.isEmpty = false := by
    rw [← decide_eq_emptyBytes]
    exact decide_eq_false (fun h => hne (by rw [h]; rfl))
  have hcv := Lib.run_convert_string_bytes (P := Tryd.prog) w 9 51 5 t (u := .string) Tryd.underlying9 Tryd.underlying51 Tryd.underlying5
  have hB : ∀ j, j < t.size → (Lib.bytesWorld w 5 t).cell? ⟨w.heap.size, j, none⟩ = some (.int .u8 (t.data.toList.getD j 0).toNat) := fun j hj => Lib.bytesWorld_cell w 5 t j hj
  have hbw : Below w.heap.size w (Lib.bytesWorld w 5 t) := bytesWorld_beneath _ _ _
  obtain ⟨W1, hW1⟩ : ∃ W1, W1 = Lib.bytesWorld w 5 t := ⟨_, rfl⟩
  rw [← hW1] at hcv hB hbw
  clear hW1
  obtain ⟨l, hL⟩ : ∃ l, l = t.data.toList := ⟨_, rfl⟩
  have hLn : l.length = t.size := by rw [hL]; rfl
  rw [← hL] at hB ⊢
  clear hL
  have hmv : IntKind.u64.wrap (IntKind.u64.wrap 256 - 1) = 255 := by
    rw [IntKind.wrap_u64, IntKind.wrap_u64]
    decide
  have HBW := Lib.hid hbw
  clear hbw
  go_enter Tryd.func37, Tryd.ntmps37
  go_wp2
  go_loop [12, 13, 101] (fun vu vn vi => ∃ (k acc : Nat) (a : Int), vu = .bool false ∧ vn = .int .u64 a ∧ vi = .int .i64 k ∧ k ≤ t.size ∧ Hid (a = (acc : Int) ∧ acc ≤ 255 ∧ puL 10 0 l = puL 10 acc (l.drop k)))
    (fun _ _ vi => t.size - (intOf vi).toNat)
  case atStart => exact ⟨0, 0, 0, rfl, rfl, rfl, by omega, rfl, by omega, rfl⟩
  case round =>
    obtain ⟨k, acc, a, rfl, rfl, rfl, hk, hh⟩ := hrel
    obtain ⟨ha, hacc, hdec⟩ := hh.out
    clear hh
    have a0 : 0 ≤ a := by omega
    have a1 : a ≤ 255 := by omega
    by_cases hkn : k < t.size
    · have hc := hB k hkn
      have hdrop : l.drop k = l[k]'(by omega) :: l.drop (k + 1) := List.drop_eq_getElem_cons (by omega)
      have hget : l.getD k 0 = l[k]'(by omega) := by simp [List.getD, List.getElem?_eq_getElem (show k < l.length by omega)]
      rw [hdrop] at hdec
      rw [hget] at hc
      generalize l[k]'(by omega) = c at hc hdec
      have hc256 : c.toNat < 256 := c.toNat_lt
      clear hB hdrop hget
      by_cases hdig : 48 ≤ c.toNat ∧ c.toNat ≤ 57
      · obtain ⟨hd0, hd1⟩ := hdig
        have hdg : dg c = c.toNat - 48 := by unfold dg; rw [if_pos ⟨hd0, hd1⟩]
        have hst : puL 10 acc (c :: l.drop (k + 1)) = if dg c < 10 then (if acc * 10 + dg c ≤ 255 then puL 10 (acc * 10 + dg c) (l.drop (k + 1)) else none) else none := rfl
        rw [hdg, if_pos (by omega)] at hst
        by_cases hov : 255 < acc * 10 + (c.toNat - 48)
        · rw [if_neg (by omega)] at hst
          have HF := Lib.hid (hdec.trans hst)
          have iov : 255 < a * 10 + ((c.toNat : Int) - 48) := by omega
          clear hacc hst hov ha hdec hdg
          go_wp2
          go_ret2
          exact ⟨PuOut.bad HF.out _ _ (Or.inl rfl), HBW.out⟩
        · rw [if_pos (by omega)] at hst
          have HN : Hid (a * 10 + ((c.toNat : Int) - 48) = ((acc * 10 + (c.toNat - 48) : Nat) : Int) ∧ acc * 10 + (c.toNat - 48) ≤ 255 ∧ puL 10 0 l = puL 10 (acc * 10 + (c.toNat - 48)) (l.drop (k + 1))) := Lib.hid ⟨by omega, by omega, hdec.trans hst⟩
          have iov : a * 10 + ((c.toNat : Int) - 48) ≤ 255 := by omega
          clear hacc hst hov hdec ha hdg
          go_wp2
          refine ⟨⟨k + 1, acc * 10 + (c.toNat - 48), a * 10 + ((c.toNat : Int) - 48), rfl, (by first | rfl | (congr 1; omega)), (by first | rfl | (congr 1; omega)), by omega, HN⟩, by simp [intOf]; omega⟩
      · have hlow := fun W => lower_any c W
        have hst : puL 10 acc (c :: l.drop (k + 1)) = if dg c < 10 then (if acc * 10 + dg c ≤ 255 then puL 10 (acc * 10 + dg c) (l.drop (k + 1)) else none) else none := rfl
        have hdg : dg c = if 97 ≤ (c ||| 32).toNat ∧ (c ||| 32).toNat ≤ 122 then (c ||| 32).toNat - 87 else 255 := by unfold dg; rw [if_neg hdig]
        have hlc256 : (c ||| 32).toNat < 256 := (c ||| 32).toNat_lt
        by_cases h95 : c.toNat = 95
        · obtain rfl : c = 95 := UInt8.toNat_inj.1 (by rw [h95]; rfl)
          have hd : dg 95 = 255 := by decide
          rw [hd, if_neg (by omega)] at hst
          have HF := Lib.hid (hdec.trans hst)
          have e1 : ((95 : UInt8) ||| 32).toNat = 127 := by decide
          have e2 : (95 : UInt8).toNat = 95 := by decide
          rw [e1] at hlow
          rw [e2] at hc
          clear hacc hst ha hdec hdg hdig hlc256 h95 e1 hd
          go_wp2_with (go_at_call 44; refine (hlow _).mono ?_; rintro e w2 ⟨rfl, rfl⟩)
          go_ret2
          exact ⟨PuOut.bad HF.out _ _ (Or.inr rfl), HBW.out⟩
        · have t95 : ((c.toNat : Int) == 95) = false := by rw [beq_eq_false_iff_ne]; omega
          generalize (c ||| 32).toNat = lc at hlow hdg hlc256
          by_cases hlet : 97 ≤ lc ∧ lc ≤ 122
          · rw [if_pos hlet] at hdg
            rw [hdg] at hst
            have hl0 := hlet.1
            have hl1 := hlet.2
            by_cases hbase : lc - 87 < 10
            · omega
            · rw [if_neg hbase] at hst
              have HF := Lib.hid (hdec.trans hst)
              have hb2 : 10 ≤ (lc : Int) - 97 + 10 := by omega
              rcases Nat.lt_or_ge c.toNat 48 with h48 | h48
              · clear hacc hst ha hdec hdg hdig hbase hlet h95
                go_wp2_with (go_at_call 44; refine (hlow _).mono ?_; rintro e w2 ⟨rfl, rfl⟩)
                go_ret2
                exact ⟨PuOut.bad HF.out _ _ (Or.inr rfl), HBW.out⟩
              · have h57 : 57 < c.toNat := by omega
                clear hacc hst ha hdec hdg hdig hbase hlet h95
                go_wp2_with (go_at_call 44; refine (hlow _).mono ?_; rintro e w2 ⟨rfl, rfl⟩)
                go_ret2
                exact ⟨PuOut.bad HF.out _ _ (Or.inr rfl), HBW.out⟩
          · rw [if_neg hlet] at hdg
            rw [hdg, if_neg (by omega)] at hst
            have HF := Lib.hid (hdec.trans hst)
            rcases Nat.lt_or_ge c.toNat 48 with h48 | h48 <;> rcases Nat.lt_or_ge lc 97 with h97 | h97
            · clear hacc hst ha hdec hdg hdig hlet h95
              go_wp2_with (go_at_call 44; refine (hlow _).mono ?_; rintro e w2 ⟨rfl, rfl⟩)
              go_ret2
              exact ⟨PuOut.bad HF.out _ _ (Or.inr rfl), HBW.out⟩
            · have h122 : 122 < lc := by omega
              clear hacc hst ha hdec hdg hdig hlet h95
              go_wp2_with (go_at_call 44; refine (hlow _).mono ?_; rintro e w2 ⟨rfl, rfl⟩)
              go_ret2
              exact ⟨PuOut.bad HF.out _ _ (Or.inr rfl), HBW.out⟩
            · have h57 : 57 < c.toNat := by omega
              clear hacc hst ha hdec hdg hdig hlet h95
              go_wp2_with (go_at_call 44; refine (hlow _).mono ?_; rintro e w2 ⟨rfl, rfl⟩)
              go_ret2
              exact ⟨PuOut.bad HF.out _ _ (Or.inr rfl), HBW.out⟩
            · have h57 : 57 < c.toNat := by omega
              have h122 : 122 < lc := by omega
              clear hacc hst ha hdec hdg hdig hlet h95
              go_wp2_with (go_at_call 44; refine (hlow _).mono ?_; rintro e w2 ⟨rfl, rfl⟩)
              go_ret2
              exact ⟨PuOut.bad HF.out _ _ (Or.inr rfl), HBW.out⟩
    · have hkk : k = t.size := by omega
      subst hkk
      have hF : puL 10 acc (l.drop t.size) = some acc := by rw [List.drop_eq_nil_of_le (by omega)]; rfl
      have HF := Lib.hid (hdec.trans hF)
      subst ha
      clear hacc hF a0 a1 hdec
      go_wp2
      go_ret2
      exact ⟨PuOut.good HF.out, HBW.out⟩
end Go.Proofs.YtbeeebnocliaiaaDoor
