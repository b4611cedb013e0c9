/- oct.ReadMac, oct.ReadIp: walked. -/
import Derived.Test.YtbeeebnocliaiaaDoorOV
namespace Go.Proofs.YtbeeebnocliaiaaDoor
open Go.RowKit Go.Shelf
theorem hexL_nat (n : Nat) : hexL (UInt8.ofNat n) = [hexD (n % 256 / 16), hexD (n % 256 % 16)] := by unfold hexL; rw [UInt8.toNat_ofNat']
theorem canHex_nat : ∀ n, n < 256 → puS 16 [hexD (n % 256 / 16), hexD (n % 256 % 16)] = some n := by decide +kernel
theorem byte_nat (b : UInt8) : b = UInt8.ofNat b.toNat := by
  apply UInt8.toNat_inj.1
  rw [UInt8.toNat_ofNat', Nat.mod_eq_of_lt b.toNat_lt]
theorem canHex (b : UInt8) : puS 16 (hexL b) = some b.toNat := by
  have h := canHex_nat b.toNat b.toNat_lt
  rw [← hexL_nat, ← byte_nat] at h
  exact h
theorem canDec_nat : ∀ n, n < 256 → puS 10 (dec3 n) = some n := by decide +kernel
theorem canDec (b : UInt8) : puS 10 (decL b) = some b.toNat := by
  rw [decL_eq]
  exact canDec_nat b.toNat b.toNat_lt
theorem hexD_mark : ∀ n, n < 16 → hexD n ≠ 58 := by decide
theorem hexL_mark (b : UInt8) : ∀ c ∈ hexL b, c ≠ 58 := by
  intro c hc
  have hb := b.toNat_lt
  unfold hexL at hc
  rcases List.mem_cons.1 hc with rfl | hc
  · exact hexD_mark _ (by omega)
  · rcases List.mem_cons.1 hc with rfl | hc
    · exact hexD_mark _ (by omega)
    · cases hc
theorem dec3_mark : ∀ n, n < 256 → ∀ c ∈ dec3 n, c ≠ 46 := by decide +kernel
theorem decL_mark (b : UInt8) : ∀ c ∈ decL b, c ≠ 46 := by
  rw [decL_eq]
  exact dec3_mark b.toNat b.toNat_lt
theorem hexL_inj {a b : UInt8} (h : hexL a = hexL b) : a = b := by
  have h1 := canHex a
  rw [h, canHex b] at h1
  exact (UInt8.toNat_inj.1 (Option.some.inj h1)).symm
theorem decL_inj {a b : UInt8} (h : decL a = decL b) : a = b := by
  have h1 := canDec a
  rw [h, canDec b] at h1
  exact (UInt8.toNat_inj.1 (Option.some.inj h1)).symm
theorem map_ne {T : UInt8 → List UInt8} {l : List UInt8} {n : Nat} (h : l.length = n) (hn : 0 < n) : l.map T ≠ [] := by
  intro he
  have := congrArg List.length he
  rw [List.length_map, h] at this
  have h0 : ([] : List (List UInt8)).length = 0 := rfl
  omega
theorem split_mac (l : List UInt8) (h : l.length = 6) : splitL 58 (macL l) = l.map hexL :=
  splitL_join 58 _ (map_ne h (by omega)) (fun x hx => by obtain ⟨b, _, rfl⟩ := List.mem_map.1 hx; exact hexL_mark b)
theorem split_ip (l : List UInt8) (h : l.length = 4) : splitL 46 (ipL l) = l.map decL :=
  splitL_join 46 _ (map_ne h (by omega)) (fun x hx => by obtain ⟨b, _, rfl⟩ := List.mem_map.1 hx; exact decL_mark b)
theorem macL_inj {a b : List UInt8} (ha : a.length = 6) (hb : b.length = 6) (h : macL a = macL b) : a = b := by
  have h1 := split_mac a ha
  rw [h, split_mac b hb] at h1
  exact (List.map_inj_right (fun _ _ => hexL_inj)).1 h1.symm
theorem ipL_inj {a b : List UInt8} (ha : a.length = 4) (hb : b.length = 4) (h : ipL a = ipL b) : a = b := by
  have h1 := split_ip a ha
  rw [h, split_ip b hb] at h1
  exact (List.map_inj_right (fun _ _ => decL_inj)).1 h1.symm
/-- what two results read as, the first of which lies in a block -/
theorem results_row_tmp {P : Program} {fn : Func} {p u : Tmp} {ty : TypeId} (h : fn.results = #[.cell p ty, .tmp u]) (tmps : Array Value) (w : World) (g : Nat) (t : TypeId) (cs : Array Value) (fr : Nat × Nat) (d : TypeDesc)
    (hp : tmps.getD p undef = .pointer (some ⟨g, 0, none⟩)) (hg : w.heap[g]? = some (.cells cs t fr))
    (hu : P.underlying ty = some d) (hd : (match d with | .struct _ | .array _ _ => true | _ => false) = true) (hi : (P.info? ty).map (·.size) = some cs.size) :
    (results fn tmps).run P w = .ok (.tuple #[.agg cs, tmps.getD u undef]) w := by
  have hp' : tmps[p]?.getD undef = .pointer (some ⟨g, 0, none⟩) := by simpa using hp
  simp [results, h, hp', asAddr, run_loadVar_row w g t ty cs fr d hg hu hd hi]
def z6 : Array Value := bs [0, 0, 0, 0, 0, 0]
def z4 : Array Value := bs [0, 0, 0, 0]
set_option maxRecDepth 20000 in
set_option maxHeartbeats 1000000 in
theorem readMac_any (s : ByteArray) (hs : s.size ≤ 1000000) (w : World) (hE : HasE w) :
    Calls Tryd.prog 11 #[.string s] w fun e w' => Below w.heap.size w w' ∧
      ((∃ l : List UInt8, l.length = 6 ∧ s.data.toList = macL l ∧ e = .returned (.tuple #[.agg (bs l), .int .i64 0])) ∨
        ((∀ l : List UInt8, l.length = 6 → s.data.toList ≠ macL l) ∧ e = .returned (.tuple #[.agg z6, .int .i64 3]))) := by
  have a0 := Has.fresh w 24 z6
  have a1 := Has.fresh (w.alloc (.cells z6 24)) 24 z6
  rw [World.size_alloc] at a1
  have hb0 : Below w.heap.size w ((w.alloc (.cells z6 24)).alloc (.cells z6 24)) := ((Below.refl _ _).alloc (Nat.le_refl _) _).alloc (by simp) _
  have hsz : ((w.alloc (.cells z6 24)).alloc (.cells z6 24)).heap.size = w.heap.size + 1 + 1 := by simp
  have h0 := a0.alloc (.cells z6 24)
  have hi : ∀ l : List UInt8, l.length = 6 → (Tryd.prog.info? 24).map (·.size) = some (bs l).size := fun l hl => by
    rw [bs_size, hl]; kernel_rfl
  go_enter Tryd.func11, Tryd.ntmps11
  go_wp2_with fail
  change Calls Tryd.prog _ _ ((w.alloc (.cells z6 24)).alloc (.cells z6 24)) _
  generalize (w.alloc (.cells z6 24)).alloc (.cells z6 24) = w2 at a1 hb0 hsz h0 ⊢
  refine (read_any 26 hexL 58 16 (Or.inr rfl) (w.heap.size + 1) 24 [0, 0, 0, 0, 0, 0] 6 rfl (by omega) s hs w2 (enters_of Tryd.func26 (by kernel_rfl) rfl) a1
    (fun W hW => hE.below (hb0.trans (hW.below (by omega) (by omega)))) (fun b W _ => hexadecimal_any b W) canHex).mono ?_
  rintro e w3 ⟨hbut, hres⟩
  have hbw : Below w.heap.size w w3 := hb0.trans (hbut.below (by omega) (by omega))
  have h3 := hbut.has h0 h0.lt (by omega)
  rcases hres with ⟨l, hl, hsp, rfl, hgl⟩ | ⟨hno, rfl⟩
  · have hsl : s.data.toList = macL l := by
      have := join_splitL 58 s.data.toList
      rw [hsp] at this
      exact this.symm
    obtain ⟨xa, xb, xc, xd, xe, xf, rfl⟩ : ∃ xa xb xc xd xe xf, l = [xa, xb, xc, xd, xe, xf] := by
      match l, hl with
      | [xa, xb, xc, xd, xe, xf], _ => exact ⟨xa, xb, xc, xd, xe, xf, rfl⟩
    have HN := Lib.hid hsl
    have HB := Lib.hid hbw
    have HI := Lib.hid (hi [xa, xb, xc, xd, xe, xf] rfl)
    have c0 := h3.byte 0 (by show 0 < 6; omega)
    have c1 := h3.byte 1 (by show 1 < 6; omega)
    have c2 := h3.byte 2 (by show 2 < 6; omega)
    have c3 := h3.byte 3 (by show 3 < 6; omega)
    have c4 := h3.byte 4 (by show 4 < 6; omega)
    have c5 := h3.byte 5 (by show 5 < 6; omega)
    have d0 := hgl.byte 0 (by show 0 < 6; omega)
    have d1 := hgl.byte 1 (by show 1 < 6; omega)
    have d2 := hgl.byte 2 (by show 2 < 6; omega)
    have d3 := hgl.byte 3 (by show 3 < 6; omega)
    have d4 := hgl.byte 4 (by show 4 < 6; omega)
    have d5 := hgl.byte 5 (by show 5 < 6; omega)
    have f0 := h3.frozen 0
    have f1 := h3.frozen 1
    have f2 := h3.frozen 2
    have f3 := h3.frozen 3
    have f4 := h3.frozen 4
    have f5 := h3.frozen 5
    clear hsl hsp hl hbw hbut hb0 a1 h0 hi
    go_wp2
    refine bodyPost_ret (v := .tuple #[.agg (bs [xa, xb, xc, xd, xe, xf]), .int .i64 0]) (results_row_tmp (fn := Tryd.f11) (p := 2) (u := 3) (ty := 24) rfl _ _ w.heap.size 24 (bs [xa, xb, xc, xd, xe, xf]) (0, 0) _ rfl (((((((h3).setB 0 xa).setB 1 xb).setB 2 xc).setB 3 xd).setB 4 xe).setB 5 xf) Tryd.underlying24 rfl HI.out) rfl ⟨?_, Or.inl ⟨_, rfl, HN.out, rfl⟩⟩
    exact ((((((HB.out).setCell (p := ⟨w.heap.size, 0, none⟩) (Nat.le_refl _) (B8 xa)).setCell (p := ⟨w.heap.size, 1, none⟩) (Nat.le_refl _) (B8 xb)).setCell (p := ⟨w.heap.size, 2, none⟩) (Nat.le_refl _) (B8 xc)).setCell (p := ⟨w.heap.size, 3, none⟩) (Nat.le_refl _) (B8 xd)).setCell (p := ⟨w.heap.size, 4, none⟩) (Nat.le_refl _) (B8 xe)).setCell (p := ⟨w.heap.size, 5, none⟩) (Nat.le_refl _) (B8 xf)
  · have hno2 : ∀ l : List UInt8, l.length = 6 → s.data.toList ≠ macL l := fun l hl he => hno l hl (by rw [he, split_mac l hl])
    have HN := Lib.hid hno2
    have HB := Lib.hid hbw
    have HI := Lib.hid (hi [0, 0, 0, 0, 0, 0] rfl)
    have c0 := h3.byte 0 (by show 0 < 6; omega)
    have c1 := h3.byte 1 (by show 1 < 6; omega)
    have c2 := h3.byte 2 (by show 2 < 6; omega)
    have c3 := h3.byte 3 (by show 3 < 6; omega)
    have c4 := h3.byte 4 (by show 4 < 6; omega)
    have c5 := h3.byte 5 (by show 5 < 6; omega)
    have f0 := h3.frozen 0
    have f1 := h3.frozen 1
    have f2 := h3.frozen 2
    have f3 := h3.frozen 3
    have f4 := h3.frozen 4
    have f5 := h3.frozen 5
    clear hno hno2 hbw hbut hb0 a1 h0 hi
    go_wp2
    refine bodyPost_ret (v := .tuple #[.agg z6, .int .i64 3]) (results_row_tmp (fn := Tryd.f11) (p := 2) (u := 3) (ty := 24) rfl _ _ w.heap.size 24 z6 (0, 0) _ rfl (((((((h3).setB 0 0).setB 1 0).setB 2 0).setB 3 0).setB 4 0).setB 5 0) Tryd.underlying24 rfl HI.out) rfl ⟨?_, Or.inr ⟨HN.out, rfl⟩⟩
    exact ((((((HB.out).setCell (p := ⟨w.heap.size, 0, none⟩) (Nat.le_refl _) (B8 0)).setCell (p := ⟨w.heap.size, 1, none⟩) (Nat.le_refl _) (B8 0)).setCell (p := ⟨w.heap.size, 2, none⟩) (Nat.le_refl _) (B8 0)).setCell (p := ⟨w.heap.size, 3, none⟩) (Nat.le_refl _) (B8 0)).setCell (p := ⟨w.heap.size, 4, none⟩) (Nat.le_refl _) (B8 0)).setCell (p := ⟨w.heap.size, 5, none⟩) (Nat.le_refl _) (B8 0)
set_option maxRecDepth 20000 in
set_option maxHeartbeats 1000000 in
theorem readIp_any (s : ByteArray) (hs : s.size ≤ 1000000) (w : World) (hE : HasE w) (hQ : HasT w) :
    Calls Tryd.prog 13 #[.string s] w fun e w' => Below w.heap.size w w' ∧
      ((∃ l : List UInt8, l.length = 4 ∧ s.data.toList = ipL l ∧ e = .returned (.tuple #[.agg (bs l), .int .i64 0])) ∨
        ((∀ l : List UInt8, l.length = 4 → s.data.toList ≠ ipL l) ∧ e = .returned (.tuple #[.agg z4, .int .i64 3]))) := by
  have a0 := Has.fresh w 25 z4
  have a1 := Has.fresh (w.alloc (.cells z4 25)) 25 z4
  rw [World.size_alloc] at a1
  have hb0 : Below w.heap.size w ((w.alloc (.cells z4 25)).alloc (.cells z4 25)) := ((Below.refl _ _).alloc (Nat.le_refl _) _).alloc (by simp) _
  have hsz : ((w.alloc (.cells z4 25)).alloc (.cells z4 25)).heap.size = w.heap.size + 1 + 1 := by simp
  have h0 := a0.alloc (.cells z4 25)
  have hi : ∀ l : List UInt8, l.length = 4 → (Tryd.prog.info? 25).map (·.size) = some (bs l).size := fun l hl => by
    rw [bs_size, hl]; kernel_rfl
  go_enter Tryd.func13, Tryd.ntmps13
  go_wp2_with fail
  change Calls Tryd.prog _ _ ((w.alloc (.cells z4 25)).alloc (.cells z4 25)) _
  generalize (w.alloc (.cells z4 25)).alloc (.cells z4 25) = w2 at a1 hb0 hsz h0 ⊢
  refine (read_any 28 decL 46 10 (Or.inl rfl) (w.heap.size + 1) 25 [0, 0, 0, 0] 4 rfl (by omega) s hs w2 (enters_of Tryd.func28 (by kernel_rfl) rfl) a1
    (fun W hW => hE.below (hb0.trans (hW.below (by omega) (by omega)))) (fun b W hW => decimal_any b W (hQ.below (hb0.trans (hW.below (by omega) (by omega))))) canDec).mono ?_
  rintro e w3 ⟨hbut, hres⟩
  have hbw : Below w.heap.size w w3 := hb0.trans (hbut.below (by omega) (by omega))
  have h3 := hbut.has h0 h0.lt (by omega)
  rcases hres with ⟨l, hl, hsp, rfl, hgl⟩ | ⟨hno, rfl⟩
  · have hsl : s.data.toList = ipL l := by
      have := join_splitL 46 s.data.toList
      rw [hsp] at this
      exact this.symm
    obtain ⟨xa, xb, xc, xd, rfl⟩ : ∃ xa xb xc xd, l = [xa, xb, xc, xd] := by
      match l, hl with
      | [xa, xb, xc, xd], _ => exact ⟨xa, xb, xc, xd, rfl⟩
    have HN := Lib.hid hsl
    have HB := Lib.hid hbw
    have HI := Lib.hid (hi [xa, xb, xc, xd] rfl)
    have c0 := h3.byte 0 (by show 0 < 4; omega)
    have c1 := h3.byte 1 (by show 1 < 4; omega)
    have c2 := h3.byte 2 (by show 2 < 4; omega)
    have c3 := h3.byte 3 (by show 3 < 4; omega)
    have d0 := hgl.byte 0 (by show 0 < 4; omega)
    have d1 := hgl.byte 1 (by show 1 < 4; omega)
    have d2 := hgl.byte 2 (by show 2 < 4; omega)
    have d3 := hgl.byte 3 (by show 3 < 4; omega)
    have f0 := h3.frozen 0
    have f1 := h3.frozen 1
    have f2 := h3.frozen 2
    have f3 := h3.frozen 3
    clear hsl hsp hl hbw hbut hb0 a1 h0 hi
    go_wp2
    refine bodyPost_ret (v := .tuple #[.agg (bs [xa, xb, xc, xd]), .int .i64 0]) (results_row_tmp (fn := Tryd.f13) (p := 2) (u := 3) (ty := 25) rfl _ _ w.heap.size 25 (bs [xa, xb, xc, xd]) (0, 0) _ rfl (((((h3).setB 0 xa).setB 1 xb).setB 2 xc).setB 3 xd) Tryd.underlying25 rfl HI.out) rfl ⟨?_, Or.inl ⟨_, rfl, HN.out, rfl⟩⟩
    exact ((((HB.out).setCell (p := ⟨w.heap.size, 0, none⟩) (Nat.le_refl _) (B8 xa)).setCell (p := ⟨w.heap.size, 1, none⟩) (Nat.le_refl _) (B8 xb)).setCell (p := ⟨w.heap.size, 2, none⟩) (Nat.le_refl _) (B8 xc)).setCell (p := ⟨w.heap.size, 3, none⟩) (Nat.le_refl _) (B8 xd)
  · have hno2 : ∀ l : List UInt8, l.length = 4 → s.data.toList ≠ ipL l := fun l hl he => hno l hl (by rw [he, split_ip l hl])
    have HN := Lib.hid hno2
    have HB := Lib.hid hbw
    have HI := Lib.hid (hi [0, 0, 0, 0] rfl)
    have c0 := h3.byte 0 (by show 0 < 4; omega)
    have c1 := h3.byte 1 (by show 1 < 4; omega)
    have c2 := h3.byte 2 (by show 2 < 4; omega)
    have c3 := h3.byte 3 (by show 3 < 4; omega)
    have f0 := h3.frozen 0
    have f1 := h3.frozen 1
    have f2 := h3.frozen 2
    have f3 := h3.frozen 3
    clear hno hno2 hbw hbut hb0 a1 h0 hi
    go_wp2
    refine bodyPost_ret (v := .tuple #[.agg z4, .int .i64 3]) (results_row_tmp (fn := Tryd.f13) (p := 2) (u := 3) (ty := 25) rfl _ _ w.heap.size 25 z4 (0, 0) _ rfl (((((h3).setB 0 0).setB 1 0).setB 2 0).setB 3 0) Tryd.underlying25 rfl HI.out) rfl ⟨?_, Or.inr ⟨HN.out, rfl⟩⟩
    exact ((((HB.out).setCell (p := ⟨w.heap.size, 0, none⟩) (Nat.le_refl _) (B8 0)).setCell (p := ⟨w.heap.size, 1, none⟩) (Nat.le_refl _) (B8 0)).setCell (p := ⟨w.heap.size, 2, none⟩) (Nat.le_refl _) (B8 0)).setCell (p := ⟨w.heap.size, 3, none⟩) (Nat.le_refl _) (B8 0)
end Go.Proofs.YtbeeebnocliaiaaDoor
