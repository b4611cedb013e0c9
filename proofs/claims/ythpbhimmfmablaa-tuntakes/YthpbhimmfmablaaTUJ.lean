/- Slices of the call's own, of values of one cell; the document's Cut: walked. -/
import Derived.Test.YthpbhimmfmablaaTUD
import Derived.Test.YthpbhimmfmablaaHI
import Derived.Maps.AppendAt
namespace Go.Proofs.Ythpbhimmfmablaa
open Go.RowKit
/-- a slice of the call's own, of these values -/
def OwR (e : TypeId) (base : Nat) (W : World) (v : Value) (l : List Value) : Prop := W.ownsRow base e 1 v l.length l
section
variable {e : TypeId} {base : Nat} {W : World} {v : Value} {l : List Value}
theorem OwR.nil (e : TypeId) (base : Nat) (W : World) : OwR e base W (.slice none 0 0) [] := World.ownsRow_nil _ _ _ _
theorem OwR.alloc (h : OwR e base W v l) (o : Obj) : OwR e base (W.alloc o) v l := World.ownsRow.alloc h o
theorem OwR.form (h : OwR e base W v l) : ∃ a cap, v = .slice a l.length cap := by
  rcases h.2 with ⟨rfl, h0⟩ | ⟨g, cap, _, rfl, _⟩
  · exact ⟨none, 0, by rw [h0]⟩
  · exact ⟨_, _, rfl⟩
theorem OwR.parts (h : OwR e base W v l) (h0 : 0 < l.length) : ∃ g cap, v = .slice (some ⟨g, 0, none⟩) l.length cap ∧ base ≤ g ∧ g < W.heap.size ∧ l.length ≤ cap ∧ (∀ j, j < l.length → W.cell? ⟨g, j, none⟩ = some (l.getD j undef)) ∧ (∀ j, W.frozen? ⟨g, j, none⟩ = false) := by
  have hh := h
  unfold OwR at hh
  rcases h.2 with ⟨_, h1⟩ | ⟨g, cap, cur, rfl, hg, hh2, hnc, _, _, _⟩
  · omega
  · refine ⟨g, cap, rfl, hg, (Array.getElem?_eq_some_iff.1 hh2).1, hnc, fun j hj => ?_, fun j => hh.frozenAt j⟩
    rw [hh.cellAt j (by omega), List.getD_eq_getElem?_getD, List.getElem?_eq_getElem hj]
    rfl
theorem OwR.put {g cap : Nat} (h : OwR e base W (.slice (some ⟨g, 0, none⟩) l.length cap) l) (j : Nat) (y : Value) : OwR e base (W.setCell ⟨g, j, none⟩ y) (.slice (some ⟨g, 0, none⟩) l.length cap) (l.set j y) := by
  have hh := h
  unfold OwR at hh
  have h2 := hh.stored j y
  unfold OwR
  rw [List.length_set]
  exact h2.1
theorem OwR.mono {base' : Nat} (h : OwR e base W v l) (hb : base' ≤ base) : OwR e base' W v l := by
  obtain ⟨h1, h2⟩ := h
  refine ⟨h1, ?_⟩
  rcases h2 with h2 | ⟨g, cap, cur, h3, hg, h4⟩
  · exact Or.inl h2
  · exact Or.inr ⟨g, cap, cur, h3, Nat.le_trans hb hg, h4⟩
/-- kept while nothing below B but above is touched -/
theorem OwR.below {B : Nat} {W' : World} (h : OwR e base W v l) (hb : Below B W W') (hg : ∀ k, v.ownBlock = some k → k < B) : OwR e base W' v l := by
  obtain ⟨h1, h2⟩ := h
  refine ⟨h1, ?_⟩
  rcases h2 with h2 | ⟨g, cap, cur, rfl, hg2, h4, h5⟩
  · exact Or.inl h2
  · exact Or.inr ⟨g, cap, cur, rfl, hg2, (hb.block g (hg g rfl)).trans h4, h5⟩
theorem OwR.lt (h : OwR e base W v l) : ∀ k, v.ownBlock = some k → base ≤ k ∧ k < W.heap.size := World.ownsRow.lt h
theorem OwR.step {W' : World} (h : OwR e base W v l) (hb : Below W.heap.size W W') : OwR e base W' v l := h.below hb (fun k hk => (h.lt k hk).2)
end
/-- one value appended to a slice of the call's own -/
theorem wpList_appR {e : TypeId} {t : TypeId} {i0 : TypeInfo} {z : Value} {bytes : Nat} (ht : Try.prog.underlying t = some (.slice e)) (hi : Try.prog.info? e = some i0) (hz0 : i0.zero = some z) (hz1 : i0.size = 1) (hz2 : i0.bytes = bytes) (hzs : z.cells.size = 1) (hby : bytes ≤ 16)
    {ops : Array Oper} {rest : List Oper} {o : Oper} {a : Act} {Q : Exit → Act → World → Prop} {w : World} (hgd : o.guard = none) (s x : Operand) (ho : o.op = .call { callee := .builtin .append, args := #[s, x], argTypes := #[t, t] })
    {base : Nat} {v : Value} {l : List Value} (hs : a.eval s = v) (hown : OwR e base w v l) (g c : Nat) (y : Value) (hx : a.eval x = .slice (some ⟨g, 0, none⟩) 1 c) (hcell : w.cell? ⟨g, 0, none⟩ = some y) (h1 : y.oneCell' = true)
    (hn : l.length ≤ 10000) (hbase : base ≤ w.heap.size) (h : ∀ v' w', OwR e base w' v' (l ++ [y]) → w.grownBy w' v.ownBlock → (v'.ownBlock = v.ownBlock ∨ v'.ownBlock = some w.heap.size) → wpList Try.prog ops Q rest (a.put o.dst v') w') : wpList Try.prog ops Q (o :: rest) a w := by
  refine wpList_append_own_at _ hgd s x t ho base e i0 z 1 bytes ht hi hz0 hz1 hz2 hzs (by omega) v l.length l hs hown ⟨g, 0, none⟩ 1 c [y] hx rfl
    (fun j u hu => ?_) (by intro u hu; simp only [List.mem_singleton] at hu; subst hu; exact h1) (by unfold maxLen; omega) (by
      have : (l.length + 1) * bytes ≤ 10001 * 16 := Nat.mul_le_mul (by omega) hby
      omega) hbase (fun v' w' k1 k2 _ k3 => ?_)
  · obtain rfl : j = 0 := by
      have := (List.getElem?_eq_some_iff.1 hu).1
      simpa using this
    have : (⟨g, 0, none⟩ : Addr).add 0 = ⟨g, 0, none⟩ := addr_add g 0
    rw [this, hcell]
    exact hu
  · refine h v' w' ?_ k2 k3
    unfold OwR
    rw [List.length_append]
    exact k1
/-- the chunks of a text -/
def chunk (s : ByteArray) (i : Nat) : ByteArray := s.extract (i * 512) (min (i * 512 + 512) s.size)
def chunks (s : ByteArray) (k : Nat) : List Value := (List.range k).map fun i => .string (chunk s i)
theorem chunks_length (s : ByteArray) (k : Nat) : (chunks s k).length = k := by simp [chunks]
theorem chunks_succ (s : ByteArray) (k : Nat) : chunks s (k + 1) = chunks s k ++ [.string (chunk s k)] := by
  unfold chunks
  rw [List.range_succ, List.map_append]
  rfl
/-- the first k texts made pieces -/
def partly (s : ByteArray) (L : List ByteArray) (k : Nat) : List Value := (L.take k).map Value.string ++ (chunks s L.length).drop k
theorem partly_length (s : ByteArray) (L : List ByteArray) (k : Nat) (h : k ≤ L.length) : (partly s L k).length = L.length := by
  unfold partly
  rw [List.length_append, List.length_map, List.length_take, List.length_drop, chunks_length]
  omega
theorem partly_get (s : ByteArray) (L : List ByteArray) (k : Nat) (h : k < L.length) : (partly s L k).getD k undef = .string (chunk s k) := by
  unfold partly
  rw [List.getD_eq_getElem?_getD, List.getElem?_append_right (by rw [List.length_map, List.length_take]; omega), List.length_map, List.length_take, Nat.min_eq_left (by omega), Nat.sub_self, List.getElem?_drop]
  simp [chunks, h]
theorem partly_set (s : ByteArray) (L : List ByteArray) (k : Nat) (h : k < L.length) : (partly s L k).set k (.string (L.getD k ⟨#[]⟩)) = partly s L (k + 1) := by
  unfold partly
  have hl : ((L.take k).map Value.string).length = k := by rw [List.length_map, List.length_take]; omega
  rw [List.set_append_right _ _ (by omega), hl, Nat.sub_self, List.drop_eq_getElem_cons (by rw [chunks_length]; omega), List.set_cons_zero, List.take_succ_eq_append_getElem h, List.map_append, List.append_assoc]
  simp [h]
theorem partly_all (s : ByteArray) (L : List ByteArray) : partly s L L.length = L.map Value.string := by
  unfold partly
  rw [List.take_length, List.drop_of_length_le (by rw [chunks_length]; omega), List.append_nil]
theorem partly_none (s : ByteArray) (L : List ByteArray) : partly s L 0 = chunks s L.length := by
  unfold partly
  simp
set_option maxRecDepth 20000 in
set_option maxHeartbeats 1000000 in
theorem refCut_any (n : Nat) (hn : n < 4294967296) (s : ByteArray) (h1 : 1 ≤ s.size) (h2 : s.size ≤ 1536) (w : World) : Calls Try.prog 20 #[.int .u32 (n : Int), .string s] w fun e w' =>
    ∃ g cap, e = .returned (.slice (some ⟨g, 0, none⟩) (pieceN s.size) cap) ∧ Below w.heap.size w w' ∧ w.heap.size ≤ g ∧ (∀ j, j < pieceN s.size → w'.cell? ⟨g, j, none⟩ = some (.string ((cutL n s).getD j ⟨#[]⟩))) := by
  have hl := cutL_length n s
  have hget := cutL_get n s
  have hc0 : 1 ≤ pieceN s.size := by unfold pieceN; omega
  have hc1 : pieceN s.size ≤ 3 := by unfold pieceN; omega
  have hcl : ∀ k, (512 < s.size - k * 512 ↔ k + 1 < pieceN s.size) := fun k => by unfold pieceN; omega
  have hca : ∀ k, k < pieceN s.size → k * 512 < s.size := fun k hk => by unfold pieceN at hk; omega
  have hch : ∀ k, (s.extract (k * 512) s.size).extract 0 512 = s.extract (k * 512) (min (k * 512 + 512) s.size) := fun k => by
    rw [ByteArray.extract_extract]
    congr 1
  obtain ⟨i0, hi, hz0, hz1, hz2⟩ := info_parts text_info
  have HG := Lib.hid hget
  have HCL := Lib.hid hcl
  have HCA := Lib.hid hca
  have HL := Lib.hid hl
  have HCH := Lib.hid hch
  have HX0 : s.extract 0 s.size = s := by simp
  clear hget hcl hl hch hca
  go_enter Try.func20, Try.ntmps20
  go_wp2
  go_loopw [1, 5] (fun sv v wr => ∃ k : Nat, k < pieceN s.size ∧ sv = .string (s.extract (k * 512) s.size) ∧ OwR 9 w.heap.size wr v (chunks s k) ∧ Below w.heap.size w wr) (fun sv _ _ => match sv with | .string b => b.size | _ => 0)
  case atStart => exact ⟨0, by omega, by rw [Nat.zero_mul, HX0], OwR.nil _ _ _, Below.refl _ _⟩
  case round =>
    obtain ⟨k, hk, rfl, hO, hB⟩ := hrel
    have hz : (s.extract (k * 512) s.size).size = s.size - k * 512 := by rw [ByteArray.size_extract]; omega
    have hkk := HCA.out k hk
    by_cases hlt : k + 1 < pieceN s.size
    · have hgt := (HCL.out k).2 hlt
      have t1 : (512 : Int) < ((s.extract (k * 512) s.size).size : Int) := by omega
      have t2 : (512 : Int) ≤ ((s.extract (k * 512) s.size).size : Int) := by omega
      have hch := HCH.out k
      have hx2 : (s.extract (k * 512) s.size).extract 512 (s.extract (k * 512) s.size).size = s.extract ((k + 1) * 512) s.size := by
        rw [ByteArray.extract_extract, hz]
        congr 1
        · omega
        · omega
      have hz2' : (s.extract ((k + 1) * 512) s.size).size < (s.extract (k * 512) s.size).size := by rw [ByteArray.size_extract, ByteArray.size_extract]; omega
      have hsucc := chunks_succ s k
      unfold chunk at hsucc
      rw [← hch] at hsucc
      have hlen := chunks_length s k
      generalize chunks s k = C at *
      generalize s.extract (k * 512) s.size = R at *
      have HS := Lib.hid hsucc
      have HX := Lib.hid hx2
      have HZ := Lib.hid hz2'
      clear hsucc hx2 hz2' hch
      obtain ⟨a, cap, rfl⟩ := hO.form
      have hc1 := (Has.fresh wr 9 #[.string (R.extract 0 512)]).cell 0
      clear hz hgt hkk
      go_wp2_with (first
        | (refine wpList_appR Try.underlying34 hi hz0 hz1 hz2 rfl (by omega) rfl (.tmp 10) (.tmp 13) rfl rfl (hO.alloc _) wr.heap.size 1 (.string (R.extract 0 512)) rfl hc1 rfl (by omega) (by have := hB.size; simp; omega) (fun v' w' hO' hg' hat => ?_))
        | fail)
      refine ⟨⟨k + 1, hlt, by rw [HX.out], by rw [HS.out]; exact hO', (hB.alloc hB.size _).grown hg' (by have := hB.size; simp; omega) (fun j hj => (hO.lt j hj).1)⟩, ?_⟩
      show (R.extract 512 R.size).size < R.size
      rw [HX.out]
      exact HZ.out
    · have hgt : ¬ 512 < s.size - k * 512 := fun h => hlt ((HCL.out k).1 h)
      have t1 : ¬ (512 : Int) < ((s.extract (k * 512) s.size).size : Int) := by omega
      have hkc : k + 1 = pieceN s.size := by omega
      have hlast : s.extract (k * 512) s.size = chunk s k := by
        unfold chunk
        congr 1
        omega
      have hsucc := chunks_succ s k
      rw [← hlast, hkc] at hsucc
      have hlen := chunks_length s k
      rw [show chunks s (pieceN s.size) = partly s (cutL n s) 0 from by rw [partly_none, HL.out]] at hsucc
      have hpl := fun k h => partly_length s (cutL n s) k h
      have hpg := fun k h => partly_get s (cutL n s) k h
      have hps := fun k h => partly_set s (cutL n s) k h
      have hpa := partly_all s (cutL n s)
      unfold chunk at hpg
      unfold pieceB at HG
      have hlC : ∀ k, k < pieceN s.size → (s.extract (k * 512) (min (k * 512 + 512) s.size)).size ≤ 1536 := fun k _ => by rw [ByteArray.size_extract]; omega
      rw [HL.out] at hpl hpg hps hpa
      have HLL := HL.out
      generalize chunks s k = C at *
      generalize s.extract (k * 512) s.size = R at *
      obtain ⟨c, hcd⟩ : ∃ c, pieceN s.size = c := ⟨_, rfl⟩
      obtain ⟨L, hLd⟩ : ∃ L, cutL n s = L := ⟨_, rfl⟩
      rw [hcd] at hc0 hc1 HG HCL HCA HL hk hlt hkc hpl hpg hps hpa hlC HLL
      rw [hLd] at HG HL hsucc hpl hpg hps hpa HLL
      have HCD := Lib.hid (And.intro hcd hLd)
      clear hcd hLd
      have HS := Lib.hid hsucc
      have HPL := Lib.hid hpl
      have HPG := Lib.hid hpg
      have HPS := Lib.hid hps
      have HPA := Lib.hid hpa
      have HLC := Lib.hid hlC
      clear hsucc hz hgt hkk hpl hpg hps hpa hlast hlC
      obtain ⟨a, cap, rfl⟩ := hO.form
      have hc2 := (Has.fresh wr 9 #[.string R]).cell 0
      go_upto_region 7 with (first
        | (refine wpList_appR Try.underlying34 hi hz0 hz1 hz2 rfl (by omega) rfl (.tmp 17) (.tmp 19) rfl rfl (hO.alloc _) wr.heap.size 1 (.string R) rfl hc2 rfl (by omega) (by have := hB.size; simp; omega) (fun v' w' hO' hg' hat => ?_))
        | fail)
      have hB' := (hB.alloc hB.size (.cells #[.string R] 9)).grown hg' (by have := hB.size; simp; omega) (fun j hj => (hO.lt j hj).1)
      rw [← HS.out] at hO'
      clear hg' hat hO hB hc2 HS
      have hl0 := HPL.out 0 (by omega)
      obtain ⟨g, cap', rfl, hg1, hg2, hg3, _, _⟩ := hO'.parts (by omega)
      rw [hl0] at hO' hg3 ⊢
      have lA := beTail_length n 4
      have hbw := fun W => refBytes_any n 4 (by omega) (by omega) W
      generalize beTail n 4 = A at *
      have HBW := Lib.hid hbw
      have HO := Lib.hid hO'
      have HB := Lib.hid hB'
      clear hbw hO' hB' hl0 hi hz0 hz1 hz2 t1 hlen
      go_loopw [6] (fun i wr => ∃ q : Nat, q ≤ c ∧ i = .int .i64 (q : Int) ∧ OwR 9 w.heap.size wr (.slice (some ⟨g, 0, none⟩) c cap') (partly s L q) ∧ Below w.heap.size w wr) (fun i _ => c - (intOf i).toNat)
      case atStart => exact ⟨0, by omega, rfl, HO.out, HB.out⟩
      case round =>
        obtain ⟨q, hq, rfl, hO, hB⟩ := hrel
        have hln := HPL.out q hq
        by_cases hqc : q < c
        · have t1 : decide ((q : Int) < (c : Int)) = true := by simp; omega
          have t2 : (q : Int) < (c : Int) := by omega
          have hpt : (.slice (some ⟨g, 0, none⟩) c cap' : Value) = .slice (some ⟨g, 0, none⟩) (partly s L q).length cap' := by rw [hln]
          have hO2 := hO
          rw [hpt] at hO2
          obtain ⟨g', cap2, he, _, hgs, _, hcell, hfr⟩ := hO.parts (by omega)
          injection he with he1 he2 he3
          injection he1 with he1
          injection he1 with he1
          subst he1
          have hce := hcell q (by omega)
          rw [HPG.out q hqc] at hce
          have hgq := HG.out q hqc
          have hcz := HLC.out q hqc
          have hset := HPS.out q hqc
          have hput := hO2.put q (.string (L.getD q ⟨#[]⟩))
          rw [hset, hln] at hput
          generalize s.extract (q * 512) (min (q * 512 + 512) s.size) = K at hce hgq hcz
          have hfq := hfr q
          have HGQ := Lib.hid hgq
          clear hgq hset hpt hO2 hcell hfr he2 he3 hput
          go_upto_region 9 with fail
          refine wp_region_noPanic ?_
          refine wp_region_flow (fin := ?fin1) 20 1 (by kernel_rfl) [.inl (.slice (some ⟨g, 0, none⟩) c cap'),
            .inl (.int .i64 (q : Int)),
            .inl (.int .u32 (n : Int)),
            .inl (.int .i64 (n : Int)),
            .inl (.string ⟨A.toArray⟩),
            .inl (.string ⟨((1 : UInt8) :: A).toArray⟩),
            .inl (.int .i64 (q : Int)),
            .inl (.int .u8 ((lowB1 (q : Int)).toNat : Int)),
            .inl (.slice (some ⟨g, 0, none⟩) c cap'),
            .inl (.int .i64 (c : Int)),
            .inl (.int .u8 ((lowB1 (c : Int)).toNat : Int)),
            .inr (5, bs [lowB1 (q : Int), lowB1 (c : Int)], some 2),
            .inl (.string ⟨[lowB1 (q : Int), lowB1 (c : Int)].toArray⟩),
            .inl (.string ⟨((((1 : UInt8) :: A) ++ [lowB1 (q : Int)]) ++ [lowB1 (c : Int)]).toArray⟩),
            .inl (.slice (some ⟨g, 0, none⟩) c cap'),
            .inl (.int .i64 (q : Int)),
            .inl (.pointer (some ⟨g, q, none⟩)),
            .inl (.string K),
            .inl (.string (L.getD q ⟨#[]⟩)),
            .inl (.pointer (some ⟨g, q, none⟩))] rfl rfl (by kernel_rfl) ?hfin1 ?hE1 ?hend1
          case hfin1 =>
            intro G
            simp only [flowAll, flowVal, Act.put, List.setIfInBounds_toArray, List.set_cons_zero, List.set_cons_succ]
            exact rfl
          case hE1 =>
            intro G
            refine ⟨Or.inr (fun W hB hR => known_val rfl (by go_simp)),
              Or.inr (fun W hB hR => known_val rfl (by go_simp)),
              Or.inr (fun W hB hR => known_val rfl (by go_simp)),
              Or.inr (fun W hB hR => known_val rfl (by have hw : IntKind.i64.wrap (n : Int) = (n : Int) := IntWalk.i64_in _ (by omega); go_simp)),
              Or.inr (fun W hB hR => known_call 29 #[.int .i64 (n : Int), .int .i64 ((4 : Nat) : Int)] (HBW.out _) rfl (by go_simp)),
              Or.inr (fun W hB hR => known_val rfl (by exact exec_cat _ _ _ _ _ (cat_str [1] A) (by rw [str_size, str_size, lA]; decide) rfl rfl rfl)),
              Or.inr (fun W hB hR => known_val rfl (by go_simp)),
              Or.inr (fun W hB hR => known_val rfl (by have hw : IntKind.u8.wrap (q : Int) = ((lowB1 (q : Int)).toNat : Int) := low_u8 (q : Int); go_simp)),
              Or.inr (fun W hB hR => known_val rfl (by go_simp)),
              Or.inr (fun W hB hR => known_val rfl (by go_simp)),
              Or.inr (fun W hB hR => known_val rfl (by have hw : IntKind.u8.wrap (c : Int) = ((lowB1 (c : Int)).toNat : Int) := low_u8 (c : Int); go_simp)),
              ⟨rfl, fun W => made_slice (by unfold execOp; go_simp; rfl)⟩,
              Or.inr (fun W hB hR => known_val rfl (by have hrow := conv_bytes (hR 11 _ _ _ rfl (by kernel_rfl)) 2 2 rfl; go_simp)),
              Or.inr (fun W hB hR => known_val rfl (by exact exec_cat _ _ _ _ _ ((cat_str _ _).trans (by rw [List.append_assoc]; rfl)) (by rw [str_size, str_size, List.length_cons, lA]; simp only [List.length_cons, List.length_nil]; decide) rfl rfl rfl)),
              Or.inr (fun W hB hR => known_val rfl (by go_simp)),
              Or.inr (fun W hB hR => known_val rfl (by go_simp)),
              Or.inr (fun W hB hR => known_val rfl (by go_simp)),
              Or.inr (fun W hB hR => known_val rfl (by have hce2 := (hB.cell (p := ⟨g, q, none⟩) hgs).trans hce; go_simp)),
              Or.inr (fun W hB hR => known_val rfl (by exact exec_cat _ _ _ _ _ HGQ.out.symm (by rw [str_size, List.length_append, List.length_append, List.length_cons, lA]; simp only [List.length_cons, List.length_nil]; omega) rfl rfl rfl)),
              Or.inr (fun W hB hR => known_val rfl (by go_simp)), trivial⟩
          intro G W hB2 hM
          have hce2 := (hB2.cell (p := ⟨g, q, none⟩) hgs).trans hce
          have hfq2 := (World.frozen?_of_block (a := ⟨g, q, none⟩) (hB2.block g hgs)).trans hfq
          have hO2 : OwR 9 w.heap.size W (.slice (some ⟨g, 0, none⟩) c cap') (partly s L q) := OwR.step (W := wr.drew) hO hB2
          have hB3 : Below w.heap.size w W := hB.drew.trans (hB2.mono hB.size)
          rw [show (.slice (some ⟨g, 0, none⟩) c cap' : Value) = .slice (some ⟨g, 0, none⟩) (partly s L q).length cap' from by rw [hln]] at hO2
          have hput := hO2.put q (.string (L.getD q ⟨#[]⟩))
          rw [HPS.out q hqc, hln] at hput
          have hB4 : Below w.heap.size w (W.setCell ⟨g, q, none⟩ (.string (L.getD q ⟨#[]⟩))) := hB3.setCell (p := ⟨g, q, none⟩) hg1 _
          have HPU := Lib.hid (And.intro hput hB4)
          clear hM hB2 hO hB hO2 hB3 hput hB4 hce hfq
          refine only0 20 (W.setCell ⟨g, q, none⟩ (.string (L.getD q ⟨#[]⟩))) _ (by kernel_rfl) rfl rfl rfl (by go_simp) ?_
          clear hce2 hfq2
          have HPP := HPU.out
          clear HPU
          generalize W.setCell ⟨g, q, none⟩ (.string (L.getD q ⟨#[]⟩)) = W2 at HPP ⊢
          refine wpAny_end (by kernel_rfl) ?_ _
          refine NoPanic.normal ?_
          generalize L.getD q ⟨#[]⟩ = piece at *
          go_wp2
          go_roundw
          case rel => exact ⟨q + 1, by omega, by go_num, HPP.1, HPP.2⟩
          case measure => simp [intOf]; omega
        · have hq2 : q = c := by omega
          subst hq2
          have t1 : decide ((q : Int) < (q : Int)) = false := by simp
          rw [HPA.out] at hO hln
          obtain ⟨g', cap2, he, _, hgs, _, hcell, _⟩ := hO.parts (by omega)
          injection he with he1 he2 he3
          injection he1 with he1
          injection he1 with he1
          subst he1
          have HC := Lib.hid hcell
          have HBB := Lib.hid hB
          have HN := Lib.hid (And.intro hln HLL)
          clear hO hB hcell hqc hln HLL
          go_wp2
          go_ret
          refine ⟨g, ⟨cap2, ?_⟩, HBB.out, hg1, fun j hj => ?_⟩
          · rw [HCD.out.1, ← HN.out.2]
            rfl
          · rw [HCD.out.1, ← HN.out.2] at hj
            rw [HC.out j (by rw [HN.out.1, ← HN.out.2]; exact hj), HCD.out.2]
            simp [List.getD_eq_getElem?_getD, hj]
end Go.Proofs.Ythpbhimmfmablaa
