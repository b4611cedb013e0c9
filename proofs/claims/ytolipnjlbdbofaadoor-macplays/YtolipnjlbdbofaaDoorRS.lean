/- The walk of law MacPlays. -/
import Derived.Test.YtolipnjlbdbofaaDoorRR
import Derived.Test.YtolipnjlbdbofaaDoorME
import Derived.OpenShut
namespace Go.Proofs.YtolipnjlbdbofaaDoor
open Go.RowKit
set_option maxHeartbeats 400000 in
theorem playsMac_over (k s : ByteArray) (n : Int) (h : 300 < k.size ∨ 300 < s.size) (w : World) (hT : HasK w) :
    Calls Tryd.prog 5 #[.string k, .string s, .int .i64 n] w fun e w' => e = .returned (.bool true) ∧ Below w.heap.size w w' := by
  have E : HasK w ∧ Below w.heap.size w w := ⟨hT, Below.refl _ _⟩
  by_cases h1 : 300 < k.size
  · have t1 : decide (300 < (k.size : Int)) = true := by simp; omega
    go_enter Tryd.func5, Tryd.ntmps5
    go_wp2_with (go_at_call 8; refine (awake2_any _ E.1).mono ?_; rintro e wq ⟨rfl, hbq⟩; replace E : HasK wq ∧ Below w.heap.size w wq := ⟨E.1.below E.1.lt hbq, E.2.trans (hbq.mono E.2.size)⟩)
    go_ret
    exact ⟨rfl, E.2⟩
  · have t1 : decide (300 < (k.size : Int)) = false := by simp; omega
    have t2 : decide (300 < (s.size : Int)) = true := by simp; omega
    go_enter Tryd.func5, Tryd.ntmps5
    go_wp2_with (go_at_call 8; refine (awake2_any _ E.1).mono ?_; rintro e wq ⟨rfl, hbq⟩; replace E : HasK wq ∧ Below w.heap.size w wq := ⟨E.1.below E.1.lt hbq, E.2.trans (hbq.mono E.2.size)⟩)
    go_ret
    exact ⟨rfl, E.2⟩
theorem exec_neq_key {o : Oper} {ev : Operand → Value} {w : World} (x y : Operand) (ho : o.op = .binOp .neq 25 x y 25) (K : List UInt8) (hl : K.length = 32) (hx : ev x = .agg (bs K)) (hy : ev y = .agg (bs K)) :
    (execOp ev o).run Tryd.prog w = .ok (.value (.bool false)) w := by
  have heq := sameKey K hl
  unfold execOp
  simp only [ho, hx, hy]
  go_simp
/-- mac.Keys of any count -/
theorem keys_all (root : List UInt8) (hrl : root.length = 32) (info : ByteArray) (hs : info.size ≤ 50000) (n : Int) (w : World) (hT : HasK w) :
    Calls Tryd.prog 11 #[.agg (bs root), .string info, .int .i64 n] w fun e w' => ∃ v, e = .returned v ∧ Below w.heap.size w w' ∧ ((n < 0 ∨ 255 < n) → v = .slice none 0 0) ∧
      (∀ N : Nat, n = (N : Int) → N ≤ 255 → ∃ g, v = .slice (some ⟨g, 0, none⟩) N N ∧ Has w' g 25 (bs (flatK root info.data.toList N))) := by
  by_cases hn : n < 0 ∨ 255 < n
  · refine (keys_none root info n hn w).mono ?_
    rintro e w' ⟨rfl, hb⟩
    exact ⟨_, rfl, hb, fun _ => rfl, fun N h1 h2 => by omega⟩
  · obtain ⟨N, rfl⟩ := Int.eq_ofNat_of_zero_le (show 0 ≤ n by omega)
    refine (keys_any root hrl info hs N (by omega) w hT).mono ?_
    rintro e w' ⟨g, rfl, _, hg, hb⟩
    refine ⟨_, rfl, hb, fun h => absurd h hn, fun M h1 _ => ?_⟩
    have : N = M := by omega
    subst this
    exact ⟨g, rfl, hg⟩
/-- a row of keys of the call's own: the j-th of them -/
theorem own_key {w : World} {base : Nat} {a : Option Addr} {cap n : Nat} {root info : List UInt8} (h : w.ownsRow base 23 32 (.slice a n cap) n ((flatK root info n).map B8)) (j : Nat) (hj : j < n) :
    ∃ g, a = some ⟨g, 0, none⟩ ∧ w.rangeAt g (j * 32) ((keyN root info (j + 1)).map B8) := by
  rcases h.2 with ⟨_, h0⟩ | ⟨g, cap', cur, hv, hg, hh, hnc, hcm, hcur, htk⟩
  · omega
  · have ha : a = some ⟨g, 0, none⟩ := by injection hv
    subst ha
    refine ⟨g, rfl, fun i v hv2 => ?_⟩
    have hi : i < (keyN root info (j + 1)).length := by
      have := (List.getElem?_eq_some_iff.1 hv2).1
      simpa using this
    have hi2 := hi
    rw [keyN_length] at hi2
    have hc := h.cellAt (g := g) (cap := cap) (j * 32 + i) (by omega)
    rw [hc]
    have hget := flatK_get root info n j hj
    have e : (keyN root info (j + 1))[i]? = (flatK root info n)[j * 32 + i]? := by
      have h2 : (((flatK root info n).drop (32 * j)).take (keyN root info (j + 1)).length)[i]? = (flatK root info n)[32 * j + i]? := by rw [List.getElem?_take_of_lt hi, List.getElem?_drop]
      rw [hget, Nat.mul_comm 32 j] at h2
      exact h2
    rw [List.getElem?_map, ← e, ← List.getElem?_map]
    exact hv2
/-- what memory holds in the midst of the law -/
def PEnv (w : World) (g : Nat) (X : List UInt8) (W : World) : Prop := Has W g 23 (bs X) ∧ HasK W ∧ Below w.heap.size w W
theorem PEnv.step {w : World} {g : Nat} {X : List UInt8} {W W' : World} (h : PEnv w g X W) (hb : Below W.heap.size W W') : PEnv w g X W' :=
  ⟨h.1.below hb h.1.lt, h.2.1.below h.2.1.lt hb, h.2.2.trans (hb.mono h.2.2.size)⟩
theorem PEnv.drew {w : World} {g : Nat} {X : List UInt8} {W : World} (h : PEnv w g X W) : PEnv w g X W.drew := ⟨h.1, h.2.1, h.2.2.drew⟩
set_option maxHeartbeats 2000000 in
theorem playsMac_short (k s : ByteArray) (n : Int) (hn1 : -9223372036854775808 ≤ n) (hn2 : n ≤ 9223372036854775807) (hk : k.size ≤ 300) (hs : s.size ≤ 300) (w : World) (hT : HasK w) :
    Calls Tryd.prog 5 #[.string k, .string s, .int .i64 n] w fun e w' => e = .returned (.bool true) ∧ Below w.heap.size w w' := by
  have c1 := refMac_any k s (by omega) (by omega)
  have c2 := macSum_any k s (by omega) (by omega)
  have c3 := macRoot_any k s (by omega) (by omega)
  have hXl := hmacL_length k.data.toList s.data.toList
  generalize hmacL k.data.toList s.data.toList = X at c1 c2 c3 hXl
  have c4 := keys_all X hXl s (by omega) n
  have c5 := refKeys_any X hXl s hs
  have heq := sameKey X hXl
  have C1 := Lib.hid c1
  have C2 := Lib.hid c2
  have C3 := Lib.hid c3
  have C4 := Lib.hid c4
  have C5 := Lib.hid c5
  have HXL := Lib.hid hXl
  clear c1 c2 c3 c4 c5
  have hu32 := Tryd.underlying23
  have hi32 : (Tryd.prog.info? 23).map (·.size) = some (X.map B8).length := by rw [List.length_map, hXl]; kernel_rfl
  have t1 : decide (300 < (k.size : Int)) = false := by simp; omega
  have t2 : decide (300 < (s.size : Int)) = false := by simp; omega
  have E : HasK w ∧ Below w.heap.size w w := ⟨hT, Below.refl _ _⟩
  go_enter Tryd.func5, Tryd.ntmps5
  go_wp2_with fail
  refine (awake2_any _ E.1).mono ?_
  rintro e w1 ⟨rfl, hbq⟩
  replace E : HasK w1 ∧ Below w.heap.size w w1 := ⟨E.1.below E.1.lt hbq, E.2.trans (hbq.mono E.2.size)⟩
  clear hbq
  go_wp2_with fail
  refine (C1.out _).mono ?_
  rintro e w2 ⟨rfl, hbq⟩
  replace E : HasK w2 ∧ Below w.heap.size w w2 := ⟨E.1.below E.1.lt hbq, E.2.trans (hbq.mono E.2.size)⟩
  clear hbq w1 C1
  have hN : Has (w2.alloc (.cells z32 23)) w2.heap.size 23 z32 := Has.fresh w2 23 _
  have hN2 := hN.setRow (bs X)
  have hB : Below w2.heap.size w2 ((w2.alloc (.cells z32 23)).setRow w2.heap.size (bs X)) := below_setRow ((Below.refl _ _).alloc (Nat.le_refl _) _) (Nat.le_refl _) _
  go_upto_region 4 with
    (refine wpList_store_row rfl 23 (.tmp 7) (.tmp 26) rfl w2.heap.size (bs X) rfl rfl 23 z32 hN (infoA X HXL.out) (z32_size X HXL.out) (bs_one X) ?_)
  change Code.wp _ _ _ _ ((w2.alloc (.cells z32 23)).setRow w2.heap.size (bs X))
  clear hN
  generalize (w2.alloc (.cells z32 23)).setRow w2.heap.size (bs X) = wr at hN2 hB ⊢
  have F : PEnv w w2.heap.size X wr := ⟨hN2, E.1.below E.1.lt hB, E.2.trans (hB.mono E.2.size)⟩
  generalize w2.heap.size = g7 at F ⊢
  clear E hB hN2
  replace F := F.drew
  have hy1 : ∀ w', w'.rangeAt g7 0 (X.map B8) → (Instr.loadAt 23 (.pointer (some ⟨g7, 0, none⟩))).run Tryd.prog w' = .ok (.agg (bs X)) w' := fun w' h => run_loadAt_mid (P := Tryd.prog) w' g7 0 23 (X.map B8) _ h hu32 rfl hi32
  refine wp_region_noPanic ?_
  refine wp_region_held_drew (S := fun w' => w'.rangeAt g7 0 (X.map B8)) (by kernel_rfl) F.1.range (fun hS => ?_)
  refine take1 hS 0 27 (.string k) _ rfl (by kernel_rfl) (by kernel_rfl) (by kernel_rfl) (fun _ _ _ h => h) rfl rfl (fun w' h => by go_simp) ?_
  simp only [Act.put, List.setIfInBounds_toArray, List.set_cons_zero, List.set_cons_succ]
  refine take1 hS 1 28 (.string s) _ rfl (by kernel_rfl) (by kernel_rfl) (by kernel_rfl) (fun _ _ _ h => h) rfl rfl (fun w' h => by go_simp) ?_
  simp only [Act.put, List.setIfInBounds_toArray, List.set_cons_zero, List.set_cons_succ]
  refine take1 hS 3 30 (.agg (bs X)) _ rfl (by kernel_rfl) (by kernel_rfl) (by kernel_rfl) (fun _ _ _ h => h) rfl rfl (fun w' h => by have := hy1 w' h; unfold execOp; simp [this, Act.eval]) ?_
  simp only [Act.put, List.setIfInBounds_toArray, List.set_cons_zero, List.set_cons_succ]
  have hcall := C2.out _ F.2.1
  refine onlyCall 2 29 _ _ _ (by kernel_rfl) rfl rfl rfl (by go_simp) hcall ?_
  rintro e wq ⟨rfl, hbq⟩
  replace F := F.step hbq
  refine ⟨_, rfl, F.1.range, ?_⟩
  simp only [Act.put, List.setIfInBounds_toArray, List.set_cons_zero, List.set_cons_succ]
  clear hS hbq hcall C2
  have hS := F.1.range
  refine take1 hS 4 31 (.bool false) _ rfl (by kernel_rfl) (by kernel_rfl) (by kernel_rfl) (fun _ _ _ h => h) rfl rfl (fun w' h => by go_simp) ?_
  simp only [Act.put, List.setIfInBounds_toArray, List.set_cons_zero, List.set_cons_succ]
  refine take1 hS 5 32 (.bool false) _ rfl (by kernel_rfl) (by kernel_rfl) (by kernel_rfl) (fun _ _ _ h => h) rfl rfl (fun w' h => by go_simp) ?_
  simp only [Act.put, List.setIfInBounds_toArray, List.set_cons_zero, List.set_cons_succ]
  refine take1 hS 6 33 (.string k) _ rfl (by kernel_rfl) (by kernel_rfl) (by kernel_rfl) (fun _ _ _ h => h) rfl rfl (fun w' h => by go_simp) ?_
  simp only [Act.put, List.setIfInBounds_toArray, List.set_cons_zero, List.set_cons_succ]
  refine take1 hS 7 34 (.string s) _ rfl (by kernel_rfl) (by kernel_rfl) (by kernel_rfl) (fun _ _ _ h => h) rfl rfl (fun w' h => by go_simp) ?_
  simp only [Act.put, List.setIfInBounds_toArray, List.set_cons_zero, List.set_cons_succ]
  refine take1 hS 9 36 (.agg (bs X)) _ rfl (by kernel_rfl) (by kernel_rfl) (by kernel_rfl) (fun _ _ _ h => h) rfl rfl (fun w' h => by have := hy1 w' h; unfold execOp; simp [this, Act.eval]) ?_
  simp only [Act.put, List.setIfInBounds_toArray, List.set_cons_zero, List.set_cons_succ]
  have hcall := C3.out _ F.2.1
  refine onlyCall 8 35 _ _ _ (by kernel_rfl) rfl rfl rfl (by go_simp) hcall ?_
  rintro e wq2 ⟨rfl, hbq⟩
  replace F := F.step hbq
  refine ⟨_, rfl, F.1.range, ?_⟩
  simp only [Act.put, List.setIfInBounds_toArray, List.set_cons_zero, List.set_cons_succ]
  clear hS hbq hcall C3
  have hS := F.1.range
  refine take1 hS 10 37 (.bool false) _ rfl (by kernel_rfl) (by kernel_rfl) (by kernel_rfl) (fun _ _ _ h => h) rfl rfl (fun w' h => by go_simp) ?_
  simp only [Act.put, List.setIfInBounds_toArray, List.set_cons_zero, List.set_cons_succ]
  refine take1 hS 11 38 (.bool false) _ rfl (by kernel_rfl) (by kernel_rfl) (by kernel_rfl) (fun _ _ _ h => h) rfl rfl (fun w' h => by go_simp) ?_
  simp only [Act.put, List.setIfInBounds_toArray, List.set_cons_zero, List.set_cons_succ]
  refine wpAnyH_done (by kernel_rfl) ?_ _
  refine NoPanic.normal ?_
  clear hS hy1 hi32 heq
  go_wp2_with (refine wpList_load_row rfl 23 (.tmp 7) rfl g7 rfl 23 (bs X) (0, 0) _ F.1 Tryd.underlying23 rfl (infoA X HXL.out) ?_)
  refine (C4.out _ F.2.1).mono ?_
  rintro e w3 ⟨v, rfl, hbq, hv1, hv2⟩
  replace F := F.step hbq
  clear hbq C4
  by_cases hnn : n < 0 ∨ 255 < n
  · obtain rfl := hv1 hnn
    clear hv1 hv2
    by_cases h0 : n < 0
    · go_wp2
      go_ret
      exact ⟨rfl, F.2.2⟩
    · have h2 : 255 < n := by omega
      go_wp2
      go_ret
      exact ⟨rfl, F.2.2⟩
  · obtain ⟨N, rfl⟩ := Int.eq_ofNat_of_zero_le (show 0 ≤ n by omega)
    have hN255 : N ≤ 255 := by omega
    obtain ⟨gk, rfl, hka⟩ := hv2 N rfl hN255
    clear hv1 hv2 hnn hn1 hn2
    have b1 : decide ((N : Int) < 0) = false := by simp
    have b2 : decide (255 < (N : Int)) = false := by simp; omega
    by_cases h4 : 4 < N
    · have b3 : decide (4 < (N : Int)) = true := by simp; omega
      go_wp2
      go_ret
      exact ⟨rfl, F.2.2⟩
    · have b3 : decide (4 < (N : Int)) = false := by simp; omega
      have hN4 : N ≤ 4 := by omega
      go_wp2_with (refine wpList_load_row rfl 23 (.tmp 7) rfl g7 rfl 23 (bs X) (0, 0) _ F.1 Tryd.underlying23 rfl (infoA X HXL.out) ?_)
      have hcall := C5.out N hN4 w3
      refine hcall.mono ?_
      rintro e w4 ⟨am, cm, rfl, hown, hbq⟩
      have base := w3.heap.size
      replace F := F.step hbq
      replace hka := hka.below hbq hka.lt
      clear hbq C5 hcall
      generalize w3.heap.size + 1 = base at hown
      go_wp2
      go_loopw [10] (fun i wr => ∃ j : Nat, j ≤ N ∧ i = .int .i64 (j : Int) ∧ Has wr gk 25 (bs (flatK X s.data.toList N)) ∧ wr.ownsRow base 23 32 (.slice am N cm) N ((flatK X s.data.toList N).map B8) ∧ Below w.heap.size w wr) (fun i _ => 10 - (intOf i).toNat)
      case atStart => exact ⟨0, by omega, rfl, hka, hown, F.2.2⟩
      case round =>
        clear hka hown F
        obtain ⟨j, hjN, rfl, hka, hown, hB⟩ := hrel
        by_cases hc : j < N
        · have ra := hka.rangeMid (j * 32) (keyN X s.data.toList (j + 1)) (by rw [Nat.mul_comm]; exact flatK_get _ _ _ _ hc)
          obtain ⟨gm, rfl, rb⟩ := own_key hown j hc
          have hl := keyN_length X s.data.toList j
          generalize keyN X s.data.toList (j + 1) = K at ra rb hl
          have HLK := Lib.hid hl
          have hu25 := Tryd.underlying25
          have hiK : (Tryd.prog.info? 25).map (·.size) = some (K.map B8).length := by rw [List.length_map, hl]; kernel_rfl
          have hiA : (Tryd.prog.info? 23).map (·.size) = some (K.map B8).length := by rw [List.length_map, hl]; kernel_rfl
          have hya : ∀ w', w'.rangeAt gk (j * 32) (K.map B8) → (Instr.loadAt 25 (.pointer (some ⟨gk, j * 32, none⟩))).run Tryd.prog w' = .ok (.agg (bs K)) w' := fun w' h => run_loadAt_mid (P := Tryd.prog) w' gk (j * 32) 25 (K.map B8) _ h hu25 rfl hiK
          have hyb : ∀ w', w'.rangeAt gm (j * 32) (K.map B8) → (Instr.loadAt 23 (.pointer (some ⟨gm, j * 32, none⟩))).run Tryd.prog w' = .ok (.agg (bs K)) w' := fun w' h => run_loadAt_mid (P := Tryd.prog) w' gm (j * 32) 23 (K.map B8) _ h hu32 rfl hiA
          have HOWN := Lib.hid hown
          clear hl hiK hiA hown
          go_wp2
          refine wp_region_noPanic ?_
          refine wp_region_held_drew (S := fun w' => w'.rangeAt gk (j * 32) (K.map B8) ∧ w'.rangeAt gm (j * 32) (K.map B8)) (by kernel_rfl) ⟨ra, rb⟩ (fun hS => ?_)
          refine take1 hS 0 68 (.slice (some ⟨gk, 0, none⟩) N N) _ rfl (by kernel_rfl) (by kernel_rfl) (by kernel_rfl) (fun _ _ _ h => h) rfl rfl (fun w' h => by go_simp) ?_
          simp only [Act.put, List.setIfInBounds_toArray, List.set_cons_zero, List.set_cons_succ]
          refine take1 hS 1 69 (.int .i64 (N : Int)) _ rfl (by kernel_rfl) (by kernel_rfl) (by kernel_rfl) (fun _ _ _ h => h) rfl rfl (fun w' h => by go_simp) ?_
          simp only [Act.put, List.setIfInBounds_toArray, List.set_cons_zero, List.set_cons_succ]
          refine take1 hS 2 70 (.slice (some ⟨gm, 0, none⟩) N cm) _ rfl (by kernel_rfl) (by kernel_rfl) (by kernel_rfl) (fun _ _ _ h => h) rfl rfl (fun w' h => by go_simp) ?_
          simp only [Act.put, List.setIfInBounds_toArray, List.set_cons_zero, List.set_cons_succ]
          refine take1 hS 3 71 (.int .i64 (N : Int)) _ rfl (by kernel_rfl) (by kernel_rfl) (by kernel_rfl) (fun _ _ _ h => h) rfl rfl (fun w' h => by go_simp) ?_
          simp only [Act.put, List.setIfInBounds_toArray, List.set_cons_zero, List.set_cons_succ]
          refine take1 hS 4 72 (.bool false) _ rfl (by kernel_rfl) (by kernel_rfl) (by kernel_rfl) (fun _ _ _ h => h) rfl rfl (fun w' h => by go_simp) ?_
          simp only [Act.put, List.setIfInBounds_toArray, List.set_cons_zero, List.set_cons_succ]
          refine take1 hS 5 73 (.bool false) _ rfl (by kernel_rfl) (by kernel_rfl) (by kernel_rfl) (fun _ _ _ h => h) rfl rfl (fun w' h => by go_simp) ?_
          simp only [Act.put, List.setIfInBounds_toArray, List.set_cons_zero, List.set_cons_succ]
          refine take1 hS 6 74 (.slice (some ⟨gk, 0, none⟩) N N) _ rfl (by kernel_rfl) (by kernel_rfl) (by kernel_rfl) (fun _ _ _ h => h) rfl rfl (fun w' h => by go_simp) ?_
          simp only [Act.put, List.setIfInBounds_toArray, List.set_cons_zero, List.set_cons_succ]
          refine take1 hS 7 75 (.int .i64 (j : Int)) _ rfl (by kernel_rfl) (by kernel_rfl) (by kernel_rfl) (fun _ _ _ h => h) rfl rfl (fun w' h => by go_simp) ?_
          simp only [Act.put, List.setIfInBounds_toArray, List.set_cons_zero, List.set_cons_succ]
          refine take1 hS 8 76 (.pointer (some ⟨gk, j * 32, none⟩)) _ rfl (by kernel_rfl) (by kernel_rfl) (by kernel_rfl) (fun _ _ _ h => h) rfl rfl (fun w' h => by go_simp) ?_
          simp only [Act.put, List.setIfInBounds_toArray, List.set_cons_zero, List.set_cons_succ]
          refine take1 hS 9 77 (.agg (bs K)) _ rfl (by kernel_rfl) (by kernel_rfl) (by kernel_rfl) (fun _ _ _ h => h) rfl rfl (fun w' h => by have := hya w' h.1; unfold execOp; simp [this, Act.eval]) ?_
          simp only [Act.put, List.setIfInBounds_toArray, List.set_cons_zero, List.set_cons_succ]
          refine take1 hS 10 78 (.slice (some ⟨gm, 0, none⟩) N cm) _ rfl (by kernel_rfl) (by kernel_rfl) (by kernel_rfl) (fun _ _ _ h => h) rfl rfl (fun w' h => by go_simp) ?_
          simp only [Act.put, List.setIfInBounds_toArray, List.set_cons_zero, List.set_cons_succ]
          refine take1 hS 11 79 (.int .i64 (j : Int)) _ rfl (by kernel_rfl) (by kernel_rfl) (by kernel_rfl) (fun _ _ _ h => h) rfl rfl (fun w' h => by go_simp) ?_
          simp only [Act.put, List.setIfInBounds_toArray, List.set_cons_zero, List.set_cons_succ]
          refine take1 hS 12 80 (.pointer (some ⟨gm, j * 32, none⟩)) _ rfl (by kernel_rfl) (by kernel_rfl) (by kernel_rfl) (fun _ _ _ h => h) rfl rfl (fun w' h => by go_simp) ?_
          simp only [Act.put, List.setIfInBounds_toArray, List.set_cons_zero, List.set_cons_succ]
          refine take1 hS 13 81 (.agg (bs K)) _ rfl (by kernel_rfl) (by kernel_rfl) (by kernel_rfl) (fun _ _ _ h => h) rfl rfl (fun w' h => by have := hyb w' h.2; unfold execOp; simp [this, Act.eval]) ?_
          simp only [Act.put, List.setIfInBounds_toArray, List.set_cons_zero, List.set_cons_succ]
          refine take1 hS 14 82 (.bool false) _ rfl (by kernel_rfl) (by kernel_rfl) (by kernel_rfl) (fun _ _ _ h => h) rfl rfl (fun w' h => exec_neq_key (.tmp 77) (.tmp 81) rfl K HLK.out rfl rfl) ?_
          simp only [Act.put, List.setIfInBounds_toArray, List.set_cons_zero, List.set_cons_succ]
          refine take1 hS 15 83 (.bool false) _ rfl (by kernel_rfl) (by kernel_rfl) (by kernel_rfl) (fun _ _ _ h => h) rfl rfl (fun w' h => by go_simp) ?_
          simp only [Act.put, List.setIfInBounds_toArray, List.set_cons_zero, List.set_cons_succ]
          refine wpAnyH_done (by kernel_rfl) ?_ _
          refine NoPanic.normal ?_
          clear hya hyb ra rb hS
          go_wp2
          go_roundw
          case rel => exact ⟨j + 1, by omega, by go_num, hka, HOWN.out.drew, hB.drew⟩
          case measure => simp [intOf]; omega
        · have hc2 : j = N := by omega
          subst hc2
          have t5 : decide ((j : Int) < (j : Int)) = false := by simp
          have HOWN := Lib.hid hown
          clear hown
          go_wp2
          go_ret
          exact ⟨rfl, hB⟩
theorem playsMac_any (k s : ByteArray) (n : Int) (hn : (Lit.int .i64 n).wf = true) (w : World) (hT : HasK w) :
    Calls Tryd.prog 5 #[.string k, .string s, .int .i64 n] w fun e w' => e = .returned (.bool true) ∧ Below w.heap.size w w' := by
  have hb := bounds_i64 hn
  by_cases h : 300 < k.size ∨ 300 < s.size
  · exact playsMac_over k s n h w hT
  · exact playsMac_short k s n hb.1 hb.2 (by omega) (by omega) w hT
end Go.Proofs.YtolipnjlbdbofaaDoor
