/- bpdu.readWord and its closures: walked. -/
import Derived.Test.YtingcoojhfadgaaZD
import Derived.Test.YtingcoojhfadgaaHI
import Derived.Laws.EntriesVeiled
namespace Go.Proofs.Ytingcoojhfadgaa
open Go.RowKit
/-- the closure takes the next bytes: its place is a cell of its own -/
theorem take11_any (s : ByteArray) (a n : Nat) (ha : a ≤ 100) (hn : n ≤ 100) (h : a + n ≤ s.size) {w0 w : World} {L : List MRow} (M : Mem w0 L w) (i0 i1 : Nat) {g0 g1 : Nat} {t0 t1 : TypeId} (h0 : L[i0]? = some (g0, t0, #[.string s])) (h1 : L[i1]? = some (g1, t1, #[.int .i64 (a : Int)])) (hne : i0 ≠ i1) :
    Calls Try.prog 28 #[.int .i64 (n : Int), .pointer (some ⟨g1, 0, none⟩), .pointer (some ⟨g0, 0, none⟩)] w fun e w' => e = .returned (.string (s.extract a (a + n))) ∧ Mem w0 (L.set i1 (g1, t1, #[.int .i64 ((a + n : Nat) : Int)])) w' := by
  have hz : IntKind.i64.wrap ((a : Int) + (n : Int)) = ((a + n : Nat) : Int) := by rw [IntWalk.i64_in _ (by omega)]; omega
  have hz2 : IntKind.i64.wrap (((a + n : Nat) : Int) - (n : Int)) = (a : Int) := by rw [IntWalk.i64_in _ (by omega)]; omega
  have c1 := (M.row i1 h1).cell 0
  have f1 := (M.row i1 h1).frozen 0
  have M2 := M.setCell i1 h1 0 (.int .i64 ((a + n : Nat) : Int))
  have hlt := (List.getElem?_eq_some_iff.1 h1).1
  have k0 := (M2.row i0 (g := g0) (t := t0) (cs := #[.string s]) (by rw [List.getElem?_set_ne (fun e => hne e.symm)]; exact h0)).cell 0
  have k1 := (M2.row i1 (g := g1) (t := t1) (cs := #[.int .i64 ((a + n : Nat) : Int)]) (by rw [List.getElem?_set_self hlt]; rfl)).cell 0
  have hb : ((a + n : Nat) : Int) ≤ (s.size : Int) := by omega
  have hab : (a : Int) ≤ ((a + n : Nat) : Int) := by omega
  have HM := Lib.hid M2
  clear M M2 h0 h1 hne hlt h ha hn
  generalize a + n = b at *
  go_enter Try.func28, Try.ntmps28
  go_wp2
  go_ret
  exact ⟨rfl, HM.out⟩
theorem ext_cut11 (s : ByteArray) (a n : Nat) : (s.extract a (a + n)).data.toList = cut9 s a n := by
  unfold cut9
  rw [extract_list, Nat.add_sub_cancel_left]
theorem numberAt (s : ByteArray) (a n : Nat) (hn : n ≤ 7) (h : a + n ≤ s.size) (w : World) : Calls Try.prog 30 #[.string (s.extract a (a + n))] w fun e w' => e = .returned (.tuple #[.int .i64 (numP (cut9 s a n) n : Int), .int .i64 0]) ∧ w' = w := by
  have hs : (s.extract a (a + n)).size = n := by rw [ByteArray.size_extract]; omega
  have := numberIn_any (s.extract a (a + n)) (by omega) w
  rw [hs, ext_cut11] at this
  exact this
/-- the closure reads the next bytes as a number -/
theorem number11_any (s : ByteArray) (a n : Nat) (ha : a ≤ 100) (hn : n ≤ 7) (h : a + n ≤ s.size) {w0 w : World} {L : List MRow} (M : Mem w0 L w) (i0 i1 i2 : Nat) {g0 g1 g2 : Nat} {t0 t1 t2 : TypeId} (h0 : L[i0]? = some (g0, t0, #[.string s])) (h1 : L[i1]? = some (g1, t1, #[.int .i64 (a : Int)])) (hne : i0 ≠ i1)
    (h2 : L[i2]? = some (g2, t2, #[.func (Fn.func 28) #[] #[.pointer (some ⟨g1, 0, none⟩), .pointer (some ⟨g0, 0, none⟩)]])) :
    Calls Try.prog 29 #[.int .i64 (n : Int), .pointer (some ⟨g2, 0, none⟩)] w fun e w' => e = .returned (.int .i64 (numP (cut9 s a n) n : Int)) ∧ Mem w0 (L.set i1 (g1, t1, #[.int .i64 ((a + n : Nat) : Int)])) w' := by
  have c2 := (M.row i2 h2).cell 0
  have hq := fun W => numberAt s a n hn h W
  have ht := take11_any s a n ha (by omega) h M i0 i1 h0 h1 hne
  have HQ := Lib.hid hq
  have HT := Lib.hid ht
  clear hq ht h0 h1 h2 hne M h ha hn
  generalize numP (cut9 s a n) n = N at HQ ⊢
  go_enter Try.func29, Try.ntmps29
  go_wp2_with fail
  refine HT.out.mono ?_
  rintro e w1 ⟨rfl, M1⟩
  have HM := Lib.hid M1
  clear M1 HT
  generalize s.extract a (a + n) = E at HQ ⊢
  go_wp2_with (go_at_call 30; refine (HQ.out _).mono ?_; rintro e w2 ⟨rfl, rfl⟩)
  go_ret
  exact ⟨rfl, HM.out⟩
section
variable {w : World} {g : Nat} {r b l : List UInt8} {c p a t h d n : Int} {y z : Bool}
theorem set11_cost (hx : (B11.mk r b c p a t h d y z).Fit) : (B11.mk r b c p a t h d y z).c.setIfInBounds 16 (.int .i64 n) = (B11.mk r b n p a t h d y z).c := seg_put (L := (B11.mk r b c p a t h d y z).segs) (i := 2) rfl (B11.at2 hx)
theorem set11_port (hx : (B11.mk r b c p a t h d y z).Fit) : (B11.mk r b c p a t h d y z).c.setIfInBounds 17 (.int .i64 n) = (B11.mk r b c n a t h d y z).c := seg_put (L := (B11.mk r b c p a t h d y z).segs) (i := 3) rfl (B11.at3 hx)
theorem set11_age (hx : (B11.mk r b c p a t h d y z).Fit) : (B11.mk r b c p a t h d y z).c.setIfInBounds 18 (.int .i64 n) = (B11.mk r b c p n t h d y z).c := seg_put (L := (B11.mk r b c p a t h d y z).segs) (i := 4) rfl (B11.at4 hx)
theorem set11_top (hx : (B11.mk r b c p a t h d y z).Fit) : (B11.mk r b c p a t h d y z).c.setIfInBounds 19 (.int .i64 n) = (B11.mk r b c p a n h d y z).c := seg_put (L := (B11.mk r b c p a t h d y z).segs) (i := 5) rfl (B11.at5 hx)
theorem set11_hello (hx : (B11.mk r b c p a t h d y z).Fit) : (B11.mk r b c p a t h d y z).c.setIfInBounds 20 (.int .i64 n) = (B11.mk r b c p a t n d y z).c := seg_put (L := (B11.mk r b c p a t h d y z).segs) (i := 6) rfl (B11.at6 hx)
theorem set11_delay (hx : (B11.mk r b c p a t h d y z).Fit) : (B11.mk r b c p a t h d y z).c.setIfInBounds 21 (.int .i64 n) = (B11.mk r b c p a t h n y z).c := seg_put (L := (B11.mk r b c p a t h d y z).segs) (i := 7) rfl (B11.at7 hx)
theorem copy11_r (hh : Has w g 28 (B11.mk r b c p a t h d y z).c) (hx : (B11.mk r b c p a t h d y z).Fit) (s : ByteArray) (hs : 8 ≤ s.size) (hl : s.data.toList.take 8 = l) :
    (Builtin.copy_ #[55, 9] 3 #[.slice (some ⟨g, 0, none⟩) 8 8, .string s]).run Try.prog w = .ok (.int .i64 8) (w.setRow g (B11.mk l b c p a t h d y z).c) :=
  copy_seg hh 0 8 rfl rfl (by simp [hx.r]) (by show 0 + 8 ≤ (B11.mk r b c p a t h d y z).c.size; rw [B11.size hx]; omega) s hs l hl
theorem copy11_b (hh : Has w g 28 (B11.mk r b c p a t h d y z).c) (hx : (B11.mk r b c p a t h d y z).Fit) (s : ByteArray) (hs : 8 ≤ s.size) (hl : s.data.toList.take 8 = l) :
    (Builtin.copy_ #[55, 9] 3 #[.slice (some ⟨g, 8, none⟩) 8 8, .string s]).run Try.prog w = .ok (.int .i64 8) (w.setRow g (B11.mk r l c p a t h d y z).c) :=
  copy_seg hh 1 8 rfl (B11.at1 hx) (by simp [hx.b]) (by show 8 + 8 ≤ (B11.mk r b c p a t h d y z).c.size; rw [B11.size hx]; omega) s hs l hl
end
theorem alloc11 {o : Oper} {ev : Operand → Value} {w : World} (ho : o.op = .alloc 28) : (execOp ev o).run Try.prog w = .ok (.value (.pointer (some ⟨w.heap.size, 0, none⟩))) (w.alloc (.cells bz.c 28)) := by
  unfold execOp
  simp only [ho]
  go_simp
  rfl
theorem store11 {o : Oper} {ev : Operand → Value} {w : World} (x y : Operand) (g : Nat) {old v : B11} (h : Has w g 28 old.c) (h0 : old.Fit) (h1 : v.Fit) (ho : o.op = .store 28 x y) (hx : ev x = .pointer (some ⟨g, 0, none⟩)) (hy : ev y = .agg v.c) :
    (execOp ev o).run Try.prog w = .ok .skip (w.setRow g v.c) := exec_store_row (P := Try.prog) (w := w) 28 x y g v.c h (b11_info h1) (by rw [B11.size h0, B11.size h1]) (B11.one v) ho hx hy
theorem and8 (a b : UInt8) : bits .and .u8 (a.toNat : Int) (b.toNat : Int) = ((a &&& b).toNat : Int) := by
  show IntKind.u8.wrap ((BitVec.ofInt 8 (a.toNat : Int) &&& BitVec.ofInt 8 (b.toNat : Int)).toNat : Int) = _
  have e : ∀ x : UInt8, BitVec.ofInt 8 (x.toNat : Int) = x.toBitVec := fun x => by
    apply BitVec.eq_of_toNat_eq
    have := x.toNat_lt
    rw [BitVec.toNat_ofInt]
    show ((x.toNat : Int) % 256).toNat = x.toNat
    omega
  rw [e, e]
  have : (a.toBitVec &&& b.toBitVec).toNat = (a &&& b).toNat := rfl
  rw [this]
  have := (a &&& b).toNat_lt
  show ((a &&& b).toNat : Int) % 256 = _
  omega
theorem and_not (b k : UInt8) : (((b &&& k).toNat : Int) != 0) = (b &&& k != 0) := by
  rw [Bool.eq_iff_iff, bne_iff_ne, bne_iff_ne, ne_eq, ne_eq]
  constructor
  · intro h e
    exact h (by rw [e]; rfl)
  · intro h e
    exact h (UInt8.toNat_inj.1 (by show (b &&& k).toNat = 0; omega))
set_option maxRecDepth 20000 in
set_option maxHeartbeats 4000000 in
theorem readWord_yes (m : ByteArray) (hs : m.size = 31) (hc : (cut9 m 0 1 == [(says m).flag]) = true) (w : World) : Calls Try.prog 20 #[.string m] w fun e w' => e = .returned (.tuple #[.agg (says m).c, .bool (saysOk m)]) ∧ Below w.heap.size w w' := by
  have hmf : ∀ (fn : Fn) (first cap : Array Value) (w : World), (Instr.makeFunc fn first cap).run Try.prog w = .ok (.func fn first cap) w := fun _ _ _ _ => rfl
  have M : Mem w [(w.heap.size, 9, #[.string m]), (w.heap.size + 1, 28, bz.c)] ((w.alloc (.cells #[.string m] 9)).alloc (.cells bz.c 28)) :=
    ((Mem.init w).alloc _ rfl _ _).alloc _ (by simp) _ _
  have hok : saysOk m = (true && (says m).young) := by unfold saysOk; rw [hc]
  rw [hok]
  have hfit := says_fit m hs
  have qf := fun W => flagsOf_any (says m) hfit W
  have qy := fun W => rightAge_any (says m) hfit W
  have he : ((m.extract 0 (0 + 1)).data.toList == (⟨[(says m).flag].toArray⟩ : ByteArray).data.toList) = true := by
    rw [ext_cut11, str_list]
    exact hc
  generalize (⟨[(says m).flag].toArray⟩ : ByteArray) = FT at qf he
  generalize (says m).young = yo at qy ⊢
  have hsay : says m = ⟨cut9 m 1 8, cut9 m 13 8, (numP (cut9 m 9 4) 4 : Int), (numP (cut9 m 21 2) 2 : Int), (numP (cut9 m 23 2) 2 : Int), (numP (cut9 m 25 2) 2 : Int), (numP (cut9 m 27 2) 2 : Int), (numP (cut9 m 29 2) 2 : Int), bAt m 0 &&& 1 != 0, bAt m 0 &&& 128 != 0⟩ := rfl
  rw [hsay] at qf qy ⊢
  have hf0 : bAt (m.extract 0 (0 + 1)) 0 = bAt m 0 := bAt_extract m 0 (0 + 1) 0 (by omega)
  have hfs : 0 < (m.extract 0 (0 + 1)).size := by rw [ByteArray.size_extract]; omega
  obtain ⟨fb, hfb⟩ : ∃ fb, bAt m 0 = fb := ⟨_, rfl⟩
  rw [hfb] at hf0 qf qy ⊢
  have a1 : bits .and .u8 (fb.toNat : Int) 1 = ((fb &&& 1).toNat : Int) := and8 fb 1
  have a2 : bits .and .u8 (fb.toNat : Int) 128 = ((fb &&& 128).toNat : Int) := and8 fb 128
  have e1 := and_not fb 1
  have e2 := and_not fb 128
  obtain ⟨ch, hch⟩ : ∃ ch, (fb &&& 1 != 0) = ch := ⟨_, rfl⟩
  obtain ⟨ack, hack⟩ : ∃ ack, (fb &&& 128 != 0) = ack := ⟨_, rfl⟩
  rw [hch] at e1 qf qy ⊢
  rw [hack] at e2 qf qy ⊢
  generalize (fb &&& 1).toNat = k1 at a1 e1
  generalize (fb &&& 128).toNat = k2 at a2 e2
  have lR := cut9_length m 1 8 (by omega)
  have lB := cut9_length m 13 8 (by omega)
  have tR : (m.extract 1 (1 + 8)).data.toList.take 8 = cut9 m 1 8 := by rw [ext_cut11]; exact List.take_of_length_le (by omega)
  have tB : (m.extract 13 (13 + 8)).data.toList.take 8 = cut9 m 13 8 := by rw [ext_cut11]; exact List.take_of_length_le (by omega)
  generalize cut9 m 1 8 = R at *
  generalize cut9 m 13 8 = B at *
  obtain ⟨C, nC⟩ : ∃ k : Nat, numP (cut9 m 9 4) 4 = k := ⟨_, rfl⟩
  obtain ⟨P, nP⟩ : ∃ k : Nat, numP (cut9 m 21 2) 2 = k := ⟨_, rfl⟩
  obtain ⟨A, nA⟩ : ∃ k : Nat, numP (cut9 m 23 2) 2 = k := ⟨_, rfl⟩
  obtain ⟨T, nT⟩ : ∃ k : Nat, numP (cut9 m 25 2) 2 = k := ⟨_, rfl⟩
  obtain ⟨H, nH⟩ : ∃ k : Nat, numP (cut9 m 27 2) 2 = k := ⟨_, rfl⟩
  obtain ⟨D, nD⟩ : ∃ k : Nat, numP (cut9 m 29 2) 2 = k := ⟨_, rfl⟩
  rw [nC, nP, nA, nT, nH, nD] at qf qy ⊢
  have HNC := Lib.hid nC
  have HNP := Lib.hid nP
  have HNA := Lib.hid nA
  have HNT := Lib.hid nT
  have HNH := Lib.hid nH
  have HND := Lib.hid nD
  have HTR := Lib.hid tR
  have HTB := Lib.hid tB
  have HLR := Lib.hid lR
  have HLB := Lib.hid lB
  have H31 := Lib.hid hs
  have HE := Lib.hid he
  have HQF := Lib.hid qf
  have HQY := Lib.hid qy
  have HF0 := Lib.hid (And.intro hfs hf0)
  have HA1 := Lib.hid (And.intro a1 e1)
  have HA2 := Lib.hid (And.intro a2 e2)
  clear nC nP nA nT nH nD tR tB lR lB hs he qf qy hf0 hfs a1 a2 e1 e2 hch hack hfb hsay hfit hc hok
  have x0 : (B11.mk o8 o8 0 0 0 0 0 0 ch ack).Fit := ⟨rfl, rfl⟩
  go_enter Try.func20, Try.ntmps20
  go_upto_region 1 with fail
  change Code.wp _ _ _ _ ((w.alloc (.cells #[.string m] 9)).alloc (.cells bz.c 28))
  generalize (w.alloc (.cells #[.string m] 9)).alloc (.cells bz.c 28) = W0 at M ⊢
  go_upto_region 2 with fail
  replace M := M.alloc _ rfl 3 #[.int .i64 0]
  simp only [List.cons_append, List.nil_append] at M
  change Code.wp _ _ _ _ (W0.alloc (.cells #[.int .i64 0] 3))
  generalize W0.alloc (.cells #[.int .i64 0] 3) = W1 at M ⊢
  generalize W0.heap.size = g at M ⊢
  go_upto_region 3 with fail
  replace M := M.alloc _ rfl 56 #[(.func (Fn.func 28) #[] #[.pointer (some ⟨g, 0, none⟩), .pointer (some ⟨w.heap.size, 0, none⟩)])]
  simp only [List.cons_append, List.nil_append] at M
  change Code.wp _ _ _ _ (W1.alloc (.cells #[(.func (Fn.func 28) #[] #[.pointer (some ⟨g, 0, none⟩), .pointer (some ⟨w.heap.size, 0, none⟩)])] 56))
  generalize W1.alloc (.cells #[(.func (Fn.func 28) #[] #[.pointer (some ⟨g, 0, none⟩), .pointer (some ⟨w.heap.size, 0, none⟩)])] 56) = W2 at M ⊢
  generalize W1.heap.size = gf at M ⊢
  have cf := (M.row 3 rfl).cell 0
  go_wp2_with fail
  refine (take11_any m 0 1 (by omega) (by omega) (by rw [H31.out]; omega) M 0 2 rfl rfl (by omega)).mono ?_
  rintro e w1 ⟨rfl, M1⟩
  simp only [List.set_cons_zero, List.set_cons_succ] at M1
  clear M cf
  generalize m.extract 0 (0 + 1) = F at HE HF0 ⊢
  go_upto_region 5 with fail
  refine wp_region_noPanic ?_
  refine wp_region_flow (fin := ?fin1) 10 1 (by kernel_rfl) [.inl (.string F),
    .inl (.int .u8 (fb.toNat : Int)),
    .inl (.int .u8 (k1 : Int)),
    .inl (.bool ch),
    .inl (.string F),
    .inl (.int .u8 (fb.toNat : Int)),
    .inl (.int .u8 (k2 : Int)),
    .inl (.bool ack),
    .inl (.agg (B11.mk o8 o8 0 0 0 0 0 0 ch ack).c),
    .inr (28, bz.c, none)] rfl rfl (by kernel_rfl) ?hfin1 ?hE1 ?hend1
  case hfin1 =>
    intro G
    simp only [flowAll, flowVal, Act.put, List.setIfInBounds_toArray, List.set_cons_zero, List.set_cons_succ]
    exact rfl
  case hE1 =>
    intro G
    refine ⟨Or.inr (fun W hB hR => known_val rfl (by go_simp)),
      Or.inr (fun W hB hR => known_val rfl (by rw [← HF0.out.2]; exact exec_index (.tmp 13) (.const (.int .i64 0)) F 0 HF0.out.1 rfl rfl rfl)),
      Or.inr (fun W hB hR => known_val rfl (by have h1 := HA1.out.1; go_simp)),
      Or.inr (fun W hB hR => known_val rfl (by have h1 := HA1.out.2; go_simp)),
      Or.inr (fun W hB hR => known_val rfl (by go_simp)),
      Or.inr (fun W hB hR => known_val rfl (by rw [← HF0.out.2]; exact exec_index (.tmp 17) (.const (.int .i64 0)) F 0 HF0.out.1 rfl rfl rfl)),
      Or.inr (fun W hB hR => known_val rfl (by have h1 := HA2.out.1; go_simp)),
      Or.inr (fun W hB hR => known_val rfl (by have h1 := HA2.out.2; go_simp)),
      Or.inr (fun W hB hR => known_val rfl (by exact build11f ch ack _ _ rfl rfl rfl)),
      ⟨rfl, fun W => made_ptr (alloc11 rfl)⟩, trivial⟩
  intro G W hB hM
  replace M1 := M1.drew.made hB hM 9 rfl rfl
  simp only [List.cons_append, List.nil_append] at M1
  generalize G 9 = gw at M1 ⊢
  clear hB hM G
  refine only0 10 (W.setRow gw (B11.mk o8 o8 0 0 0 0 0 0 ch ack).c) _ (by kernel_rfl) rfl rfl rfl (store11 (.tmp 8) (.tmp 21) gw (M1.row 4 rfl) bz_fit x0 rfl rfl rfl) ?_
  have M := M1.store 4 rfl (B11.mk o8 o8 0 0 0 0 0 0 ch ack).c
  simp only [List.set_cons_zero, List.set_cons_succ] at M
  generalize W.setRow gw (B11.mk o8 o8 0 0 0 0 0 0 ch ack).c = V at M ⊢
  clear M1
  simp only [Act.put]
  refine wpAny_end (by kernel_rfl) ?_ _
  refine NoPanic.normal ?_
  clear HF0 HA1 HA2
  go_upto_region 6 with fail
  have cf := (M.drew.row 3 rfl).cell 0
  refine wp_region_noPanic ?_
  refine wp_region_held_drew (S := fun w' => w'.cell? ⟨gf, 0, none⟩ = some (.func (Fn.func 28) #[] #[.pointer (some ⟨g, 0, none⟩), .pointer (some ⟨w.heap.size, 0, none⟩)])) (by kernel_rfl) cf (fun hS => ?_)
  refine take1 hS 0 22 (.pointer (some ⟨gw, 0, none⟩)) _ rfl (by kernel_rfl) (by kernel_rfl) (by kernel_rfl) (fun _ _ _ h => h) rfl rfl (fun w' h => by go_simp) ?_
  simp only [Act.put, List.setIfInBounds_toArray, List.set_cons_zero, List.set_cons_succ]
  refine take1 hS 1 23 (.slice (some ⟨gw, 0, none⟩) 8 8) _ rfl (by kernel_rfl) (by kernel_rfl) (by kernel_rfl) (fun _ _ _ h => h) rfl rfl (fun w' h => by go_simp) ?_
  simp only [Act.put, List.setIfInBounds_toArray, List.set_cons_zero, List.set_cons_succ]
  refine take1 hS 2 24 (.func (Fn.func 28) #[] #[.pointer (some ⟨g, 0, none⟩), .pointer (some ⟨w.heap.size, 0, none⟩)]) _ rfl (by kernel_rfl) (by kernel_rfl) (by kernel_rfl) (fun _ _ _ h => h) rfl rfl (fun w' h => by go_simp) ?_
  simp only [Act.put, List.setIfInBounds_toArray, List.set_cons_zero, List.set_cons_succ]
  have hcall := take11_any m 1 8 (by omega) (by omega) (by rw [H31.out]; omega) M.drew 0 2 rfl rfl (by omega)
  refine onlyCall 3 25 _ _ _ (by kernel_rfl) rfl rfl rfl (by go_simp) hcall ?_
  rintro e V ⟨rfl, M'⟩
  simp only [List.set_cons_zero, List.set_cons_succ] at M'
  clear hcall M cf
  refine ⟨_, rfl, (M'.row 3 rfl).cell 0, ?_⟩
  simp only [Act.put, List.setIfInBounds_toArray, List.set_cons_zero, List.set_cons_succ]
  have hcp := copy11_r (M'.row 4 rfl) x0 (m.extract 1 (1 + 8)) (by rw [ByteArray.size_extract, H31.out]; omega) HTR.out
  have x1 : (B11.mk R o8 0 0 0 0 0 0 ch ack).Fit := ⟨HLR.out, rfl⟩
  have M := M'.store 4 rfl (B11.mk R o8 0 0 0 0 0 0 ch ack).c
  simp only [List.set_cons_zero, List.set_cons_succ] at M
  clear M' hS
  refine onlyVal 4 26 (.int .i64 8) (V.setRow gw (B11.mk R o8 0 0 0 0 0 0 ch ack).c) _ (by kernel_rfl) rfl rfl rfl (by go_simp) ((M.row 3 rfl).cell 0) ?_
  simp only [Act.put, List.setIfInBounds_toArray, List.set_cons_zero, List.set_cons_succ]
  refine wpAnyH_done (by kernel_rfl) ?_ _
  refine NoPanic.normal ?_
  clear hcp
  generalize V.setRow gw (B11.mk R o8 0 0 0 0 0 0 ch ack).c = V at M ⊢
  go_wp2_with fail
  refine (number11_any m 9 4 (by omega) (by omega) (by rw [H31.out]; omega) M 0 2 3 rfl rfl (by omega) rfl).mono ?_
  rintro e V2 ⟨rfl, M'⟩
  simp only [List.set_cons_zero, List.set_cons_succ] at M'
  clear M
  have cc := (M'.row 4 rfl).b_cost x1
  have cz := (M'.row 4 rfl).frozen 16
  have M := M'.setCell 4 rfl 16 (.int .i64 (numP (cut9 m 9 4) 4 : Int))
  simp only [List.set_cons_zero, List.set_cons_succ] at M
  rw [set11_cost x1] at M
  have x2 : (B11.mk R o8 (C : Int) 0 0 0 0 0 ch ack).Fit := ⟨x1.r, x1.b⟩
  clear M'
  rw [HNC.out] at M ⊢
  go_upto_region 8 with fail
  clear cc cz
  change Code.wp _ _ _ _ (V2.setCell ⟨gw, 16, none⟩ (.int .i64 (C : Int)))
  generalize V2.setCell ⟨gw, 16, none⟩ (.int .i64 (C : Int)) = V at M ⊢
  go_upto_region 8 with fail
  have cf := (M.drew.row 3 rfl).cell 0
  refine wp_region_noPanic ?_
  refine wp_region_held_drew (S := fun w' => w'.cell? ⟨gf, 0, none⟩ = some (.func (Fn.func 28) #[] #[.pointer (some ⟨g, 0, none⟩), .pointer (some ⟨w.heap.size, 0, none⟩)])) (by kernel_rfl) cf (fun hS => ?_)
  refine take1 hS 0 30 (.pointer (some ⟨gw, 8, none⟩)) _ rfl (by kernel_rfl) (by kernel_rfl) (by kernel_rfl) (fun _ _ _ h => h) rfl rfl (fun w' h => by go_simp) ?_
  simp only [Act.put, List.setIfInBounds_toArray, List.set_cons_zero, List.set_cons_succ]
  refine take1 hS 1 31 (.slice (some ⟨gw, 8, none⟩) 8 8) _ rfl (by kernel_rfl) (by kernel_rfl) (by kernel_rfl) (fun _ _ _ h => h) rfl rfl (fun w' h => by go_simp) ?_
  simp only [Act.put, List.setIfInBounds_toArray, List.set_cons_zero, List.set_cons_succ]
  refine take1 hS 2 32 (.func (Fn.func 28) #[] #[.pointer (some ⟨g, 0, none⟩), .pointer (some ⟨w.heap.size, 0, none⟩)]) _ rfl (by kernel_rfl) (by kernel_rfl) (by kernel_rfl) (fun _ _ _ h => h) rfl rfl (fun w' h => by go_simp) ?_
  simp only [Act.put, List.setIfInBounds_toArray, List.set_cons_zero, List.set_cons_succ]
  have hcall := take11_any m 13 8 (by omega) (by omega) (by rw [H31.out]; omega) M.drew 0 2 rfl rfl (by omega)
  refine onlyCall 3 33 _ _ _ (by kernel_rfl) rfl rfl rfl (by go_simp) hcall ?_
  rintro e V ⟨rfl, M'⟩
  simp only [List.set_cons_zero, List.set_cons_succ] at M'
  clear hcall M cf
  refine ⟨_, rfl, (M'.row 3 rfl).cell 0, ?_⟩
  simp only [Act.put, List.setIfInBounds_toArray, List.set_cons_zero, List.set_cons_succ]
  have hcp := copy11_b (M'.row 4 rfl) x2 (m.extract 13 (13 + 8)) (by rw [ByteArray.size_extract, H31.out]; omega) HTB.out
  have x3 : (B11.mk R B (C : Int) 0 0 0 0 0 ch ack).Fit := ⟨HLR.out, HLB.out⟩
  have M := M'.store 4 rfl (B11.mk R B (C : Int) 0 0 0 0 0 ch ack).c
  simp only [List.set_cons_zero, List.set_cons_succ] at M
  clear M' hS
  refine onlyVal 4 34 (.int .i64 8) (V.setRow gw (B11.mk R B (C : Int) 0 0 0 0 0 ch ack).c) _ (by kernel_rfl) rfl rfl rfl (by go_simp) ((M.row 3 rfl).cell 0) ?_
  simp only [Act.put, List.setIfInBounds_toArray, List.set_cons_zero, List.set_cons_succ]
  refine wpAnyH_done (by kernel_rfl) ?_ _
  refine NoPanic.normal ?_
  clear hcp
  generalize V.setRow gw (B11.mk R B (C : Int) 0 0 0 0 0 ch ack).c = V at M ⊢
  go_wp2_with fail
  refine (number11_any m 21 2 (by omega) (by omega) (by rw [H31.out]; omega) M 0 2 3 rfl rfl (by omega) rfl).mono ?_
  rintro e V2 ⟨rfl, M'⟩
  simp only [List.set_cons_zero, List.set_cons_succ] at M'
  clear M
  have cc := (M'.row 4 rfl).b_port x3
  have cz := (M'.row 4 rfl).frozen 17
  have M := M'.setCell 4 rfl 17 (.int .i64 (numP (cut9 m 21 2) 2 : Int))
  simp only [List.set_cons_zero, List.set_cons_succ] at M
  rw [set11_port x3] at M
  have x4 : (B11.mk R B (C : Int) (P : Int) 0 0 0 0 ch ack).Fit := ⟨x3.r, x3.b⟩
  clear M'
  rw [HNP.out] at M ⊢
  go_upto_region 10 with fail
  clear cc cz
  change Code.wp _ _ _ _ (V2.setCell ⟨gw, 17, none⟩ (.int .i64 (P : Int)))
  generalize V2.setCell ⟨gw, 17, none⟩ (.int .i64 (P : Int)) = V at M ⊢
  go_wp2_with fail
  refine (number11_any m 23 2 (by omega) (by omega) (by rw [H31.out]; omega) M 0 2 3 rfl rfl (by omega) rfl).mono ?_
  rintro e V2 ⟨rfl, M'⟩
  simp only [List.set_cons_zero, List.set_cons_succ] at M'
  clear M
  have cc := (M'.row 4 rfl).b_age x4
  have cz := (M'.row 4 rfl).frozen 18
  have M := M'.setCell 4 rfl 18 (.int .i64 (numP (cut9 m 23 2) 2 : Int))
  simp only [List.set_cons_zero, List.set_cons_succ] at M
  rw [set11_age x4] at M
  have x5 : (B11.mk R B (C : Int) (P : Int) (A : Int) 0 0 0 ch ack).Fit := ⟨x4.r, x4.b⟩
  clear M'
  rw [HNA.out] at M ⊢
  go_upto_region 11 with fail
  clear cc cz
  change Code.wp _ _ _ _ (V2.setCell ⟨gw, 18, none⟩ (.int .i64 (A : Int)))
  generalize V2.setCell ⟨gw, 18, none⟩ (.int .i64 (A : Int)) = V at M ⊢
  go_wp2_with fail
  refine (number11_any m 25 2 (by omega) (by omega) (by rw [H31.out]; omega) M 0 2 3 rfl rfl (by omega) rfl).mono ?_
  rintro e V2 ⟨rfl, M'⟩
  simp only [List.set_cons_zero, List.set_cons_succ] at M'
  clear M
  have cc := (M'.row 4 rfl).b_top x5
  have cz := (M'.row 4 rfl).frozen 19
  have M := M'.setCell 4 rfl 19 (.int .i64 (numP (cut9 m 25 2) 2 : Int))
  simp only [List.set_cons_zero, List.set_cons_succ] at M
  rw [set11_top x5] at M
  have x6 : (B11.mk R B (C : Int) (P : Int) (A : Int) (T : Int) 0 0 ch ack).Fit := ⟨x5.r, x5.b⟩
  clear M'
  rw [HNT.out] at M ⊢
  go_upto_region 12 with fail
  clear cc cz
  change Code.wp _ _ _ _ (V2.setCell ⟨gw, 19, none⟩ (.int .i64 (T : Int)))
  generalize V2.setCell ⟨gw, 19, none⟩ (.int .i64 (T : Int)) = V at M ⊢
  go_wp2_with fail
  refine (number11_any m 27 2 (by omega) (by omega) (by rw [H31.out]; omega) M 0 2 3 rfl rfl (by omega) rfl).mono ?_
  rintro e V2 ⟨rfl, M'⟩
  simp only [List.set_cons_zero, List.set_cons_succ] at M'
  clear M
  have cc := (M'.row 4 rfl).b_hello x6
  have cz := (M'.row 4 rfl).frozen 20
  have M := M'.setCell 4 rfl 20 (.int .i64 (numP (cut9 m 27 2) 2 : Int))
  simp only [List.set_cons_zero, List.set_cons_succ] at M
  rw [set11_hello x6] at M
  have x7 : (B11.mk R B (C : Int) (P : Int) (A : Int) (T : Int) (H : Int) 0 ch ack).Fit := ⟨x6.r, x6.b⟩
  clear M'
  rw [HNH.out] at M ⊢
  go_upto_region 13 with fail
  clear cc cz
  change Code.wp _ _ _ _ (V2.setCell ⟨gw, 20, none⟩ (.int .i64 (H : Int)))
  generalize V2.setCell ⟨gw, 20, none⟩ (.int .i64 (H : Int)) = V at M ⊢
  go_wp2_with fail
  refine (number11_any m 29 2 (by omega) (by omega) (by rw [H31.out]; omega) M 0 2 3 rfl rfl (by omega) rfl).mono ?_
  rintro e V2 ⟨rfl, M'⟩
  simp only [List.set_cons_zero, List.set_cons_succ] at M'
  clear M
  have cc := (M'.row 4 rfl).b_delay x7
  have cz := (M'.row 4 rfl).frozen 21
  have M := M'.setCell 4 rfl 21 (.int .i64 (numP (cut9 m 29 2) 2 : Int))
  simp only [List.set_cons_zero, List.set_cons_succ] at M
  rw [set11_delay x7] at M
  have x8 : (B11.mk R B (C : Int) (P : Int) (A : Int) (T : Int) (H : Int) (D : Int) ch ack).Fit := ⟨x7.r, x7.b⟩
  clear M'
  rw [HND.out] at M ⊢
  go_upto_region 14 with fail
  clear cc cz
  change Code.wp _ _ _ _ (V2.setCell ⟨gw, 21, none⟩ (.int .i64 (D : Int)))
  generalize V2.setCell ⟨gw, 21, none⟩ (.int .i64 (D : Int)) = V at M ⊢
  have hrow := M.drew.row 4 rfl
  refine wp_region_noPanic ?_
  refine wp_region_held_drew (S := fun Y => Has Y gw 28 (B11.mk R B (C : Int) (P : Int) (A : Int) (T : Int) (H : Int) (D : Int) ch ack).c) (by kernel_rfl) hrow (fun hS => ?_)
  refine take1 hS 0 50 (.agg (B11.mk R B (C : Int) (P : Int) (A : Int) (T : Int) (H : Int) (D : Int) ch ack).c) _ rfl (by kernel_rfl) (by kernel_rfl) (by kernel_rfl) (fun _ _ _ h => h) rfl rfl (fun Y h => exec_load_row 28 (.tmp 8) gw h Try.underlying28 rfl (b11_info x8) rfl rfl) ?_
  simp only [Act.put, List.setIfInBounds_toArray, List.set_cons_zero, List.set_cons_succ]
  clear hS hrow
  refine wpAnyH_flow_pre (fin := ?fin2) 8 3 [0] [.inl (.agg (B11.mk R B (C : Int) (P : Int) (A : Int) (T : Int) (H : Int) (D : Int) ch ack).c),
    .inl (.string F),
    .inl (.agg (B11.mk R B (C : Int) (P : Int) (A : Int) (T : Int) (H : Int) (D : Int) ch ack).c),
    .inl (.string FT),
    .inl (.bool true),
    .inl (.bool true),
    .inl (.agg (B11.mk R B (C : Int) (P : Int) (A : Int) (T : Int) (H : Int) (D : Int) ch ack).c),
    .inl (.bool yo)] rfl rfl (by kernel_rfl) rfl (by kernel_rfl) (by kernel_rfl) rfl (fun Y hb => (M.drew.step hb).row 4 rfl) ?hfin2 ?hE2 ?hend2
  case hfin2 =>
    intro G
    simp only [flowAll, flowVal, Act.put, List.setIfInBounds_toArray, List.set_cons_zero, List.set_cons_succ]
    exact rfl
  case hE2 =>
    intro G
    refine ⟨Or.inl rfl,
      Or.inr (fun W hB hR => known_val rfl (by go_simp)),
      Or.inr (fun W hB hR => known_val rfl (by exact exec_load_row 28 (.tmp 8) gw ((M.drew.step hB).row 4 rfl) Try.underlying28 rfl (b11_info x8) rfl rfl)),
      Or.inr (fun W hB hR => known_call 25 #[.agg (B11.mk R B (C : Int) (P : Int) (A : Int) (T : Int) (H : Int) (D : Int) ch ack).c] (HQF.out W) rfl (by go_simp)),
      Or.inr (fun W hB hR => known_val rfl (by exact exec_eqS (.tmp 51) (.tmp 53) _ _ true HE.out rfl rfl rfl)),
      Or.inr (fun W hB hR => known_val rfl (by go_simp)),
      Or.inr (fun W hB hR => known_val rfl (by exact exec_load_row 28 (.tmp 8) gw ((M.drew.step hB).row 4 rfl) Try.underlying28 rfl (b11_info x8) rfl rfl)),
      Or.inr (fun W hB hR => known_call 22 #[.agg (B11.mk R B (C : Int) (P : Int) (A : Int) (T : Int) (H : Int) (D : Int) ch ack).c] (HQY.out W) rfl (by go_simp)), trivial⟩
  intro G W hB hM
  replace M := M.drew.step hB
  clear hB hM G
  refine take1 (M.row 4 rfl) 8 58 (.bool yo) _ rfl (by kernel_rfl) (by kernel_rfl) (by kernel_rfl) (fun _ _ _ h => h) rfl rfl (fun w' h => by go_simp) ?_
  simp only [Act.put, List.setIfInBounds_toArray, List.set_cons_zero, List.set_cons_succ]
  have M9 := M.store 1 rfl (B11.mk R B (C : Int) (P : Int) (A : Int) (T : Int) (H : Int) (D : Int) ch ack).c
  simp only [List.set_cons_zero, List.set_cons_succ] at M9
  refine onlySkip 9 (W.setRow (w.heap.size + 1) (B11.mk R B (C : Int) (P : Int) (A : Int) (T : Int) (H : Int) (D : Int) ch ack).c) _ (by kernel_rfl) rfl rfl rfl (store11 (.tmp 2) (.tmp 50) (w.heap.size + 1) (M.row 1 rfl) bz_fit x8 rfl rfl rfl) (M9.row 4 rfl) ?_
  clear M
  generalize W.setRow (w.heap.size + 1) (B11.mk R B (C : Int) (P : Int) (A : Int) (T : Int) (H : Int) (D : Int) ch ack).c = W9 at M9 ⊢
  simp only [Act.put]
  refine take1 (M9.row 4 rfl) 10 3 (.bool yo) _ rfl (by kernel_rfl) (by kernel_rfl) (by kernel_rfl) (fun _ _ _ h => h) rfl rfl (fun w' h => by go_simp) ?_
  simp only [Act.put, List.setIfInBounds_toArray, List.set_cons_zero, List.set_cons_succ]
  refine wpAnyH_done (by kernel_rfl) ?_ _
  refine NoPanic.normal ?_
  have HM := Lib.hid M9
  clear M9
  go_wp2
  exact bodyPost_ret (v := .tuple #[.agg (B11.mk R B (C : Int) (P : Int) (A : Int) (T : Int) (H : Int) (D : Int) ch ack).c, .bool yo]) (results_row_reg rfl _ _ (w.heap.size + 1) 28 (B11.mk R B (C : Int) (P : Int) (A : Int) (T : Int) (H : Int) (D : Int) ch ack).c (0, 0) _ rfl (HM.out.row 1 rfl) Try.underlying28 rfl (b11_info x8) _ rfl) rfl ⟨rfl, HM.out.below⟩
set_option maxRecDepth 20000 in
set_option maxHeartbeats 4000000 in
theorem readWord_no (m : ByteArray) (hs : m.size = 31) (hc : (cut9 m 0 1 == [(says m).flag]) = false) (w : World) : Calls Try.prog 20 #[.string m] w fun e w' => e = .returned (.tuple #[.agg (says m).c, .bool (saysOk m)]) ∧ Below w.heap.size w w' := by
  have hmf : ∀ (fn : Fn) (first cap : Array Value) (w : World), (Instr.makeFunc fn first cap).run Try.prog w = .ok (.func fn first cap) w := fun _ _ _ _ => rfl
  have M : Mem w [(w.heap.size, 9, #[.string m]), (w.heap.size + 1, 28, bz.c)] ((w.alloc (.cells #[.string m] 9)).alloc (.cells bz.c 28)) :=
    ((Mem.init w).alloc _ rfl _ _).alloc _ (by simp) _ _
  have hok : saysOk m = (false && (says m).young) := by unfold saysOk; rw [hc]
  rw [hok]
  have hfit := says_fit m hs
  have qf := fun W => flagsOf_any (says m) hfit W
  have qy := fun W => rightAge_any (says m) hfit W
  have he : ((m.extract 0 (0 + 1)).data.toList == (⟨[(says m).flag].toArray⟩ : ByteArray).data.toList) = false := by
    rw [ext_cut11, str_list]
    exact hc
  generalize (⟨[(says m).flag].toArray⟩ : ByteArray) = FT at qf he
  generalize (says m).young = yo at qy ⊢
  have hsay : says m = ⟨cut9 m 1 8, cut9 m 13 8, (numP (cut9 m 9 4) 4 : Int), (numP (cut9 m 21 2) 2 : Int), (numP (cut9 m 23 2) 2 : Int), (numP (cut9 m 25 2) 2 : Int), (numP (cut9 m 27 2) 2 : Int), (numP (cut9 m 29 2) 2 : Int), bAt m 0 &&& 1 != 0, bAt m 0 &&& 128 != 0⟩ := rfl
  rw [hsay] at qf qy ⊢
  have hf0 : bAt (m.extract 0 (0 + 1)) 0 = bAt m 0 := bAt_extract m 0 (0 + 1) 0 (by omega)
  have hfs : 0 < (m.extract 0 (0 + 1)).size := by rw [ByteArray.size_extract]; omega
  obtain ⟨fb, hfb⟩ : ∃ fb, bAt m 0 = fb := ⟨_, rfl⟩
  rw [hfb] at hf0 qf qy ⊢
  have a1 : bits .and .u8 (fb.toNat : Int) 1 = ((fb &&& 1).toNat : Int) := and8 fb 1
  have a2 : bits .and .u8 (fb.toNat : Int) 128 = ((fb &&& 128).toNat : Int) := and8 fb 128
  have e1 := and_not fb 1
  have e2 := and_not fb 128
  obtain ⟨ch, hch⟩ : ∃ ch, (fb &&& 1 != 0) = ch := ⟨_, rfl⟩
  obtain ⟨ack, hack⟩ : ∃ ack, (fb &&& 128 != 0) = ack := ⟨_, rfl⟩
  rw [hch] at e1 qf qy ⊢
  rw [hack] at e2 qf qy ⊢
  generalize (fb &&& 1).toNat = k1 at a1 e1
  generalize (fb &&& 128).toNat = k2 at a2 e2
  have lR := cut9_length m 1 8 (by omega)
  have lB := cut9_length m 13 8 (by omega)
  have tR : (m.extract 1 (1 + 8)).data.toList.take 8 = cut9 m 1 8 := by rw [ext_cut11]; exact List.take_of_length_le (by omega)
  have tB : (m.extract 13 (13 + 8)).data.toList.take 8 = cut9 m 13 8 := by rw [ext_cut11]; exact List.take_of_length_le (by omega)
  generalize cut9 m 1 8 = R at *
  generalize cut9 m 13 8 = B at *
  obtain ⟨C, nC⟩ : ∃ k : Nat, numP (cut9 m 9 4) 4 = k := ⟨_, rfl⟩
  obtain ⟨P, nP⟩ : ∃ k : Nat, numP (cut9 m 21 2) 2 = k := ⟨_, rfl⟩
  obtain ⟨A, nA⟩ : ∃ k : Nat, numP (cut9 m 23 2) 2 = k := ⟨_, rfl⟩
  obtain ⟨T, nT⟩ : ∃ k : Nat, numP (cut9 m 25 2) 2 = k := ⟨_, rfl⟩
  obtain ⟨H, nH⟩ : ∃ k : Nat, numP (cut9 m 27 2) 2 = k := ⟨_, rfl⟩
  obtain ⟨D, nD⟩ : ∃ k : Nat, numP (cut9 m 29 2) 2 = k := ⟨_, rfl⟩
  rw [nC, nP, nA, nT, nH, nD] at qf qy ⊢
  have HNC := Lib.hid nC
  have HNP := Lib.hid nP
  have HNA := Lib.hid nA
  have HNT := Lib.hid nT
  have HNH := Lib.hid nH
  have HND := Lib.hid nD
  have HTR := Lib.hid tR
  have HTB := Lib.hid tB
  have HLR := Lib.hid lR
  have HLB := Lib.hid lB
  have H31 := Lib.hid hs
  have HE := Lib.hid he
  have HQF := Lib.hid qf
  have HQY := Lib.hid qy
  have HF0 := Lib.hid (And.intro hfs hf0)
  have HA1 := Lib.hid (And.intro a1 e1)
  have HA2 := Lib.hid (And.intro a2 e2)
  clear nC nP nA nT nH nD tR tB lR lB hs he qf qy hf0 hfs a1 a2 e1 e2 hch hack hfb hsay hfit hc hok
  have x0 : (B11.mk o8 o8 0 0 0 0 0 0 ch ack).Fit := ⟨rfl, rfl⟩
  go_enter Try.func20, Try.ntmps20
  go_upto_region 1 with fail
  change Code.wp _ _ _ _ ((w.alloc (.cells #[.string m] 9)).alloc (.cells bz.c 28))
  generalize (w.alloc (.cells #[.string m] 9)).alloc (.cells bz.c 28) = W0 at M ⊢
  go_upto_region 2 with fail
  replace M := M.alloc _ rfl 3 #[.int .i64 0]
  simp only [List.cons_append, List.nil_append] at M
  change Code.wp _ _ _ _ (W0.alloc (.cells #[.int .i64 0] 3))
  generalize W0.alloc (.cells #[.int .i64 0] 3) = W1 at M ⊢
  generalize W0.heap.size = g at M ⊢
  go_upto_region 3 with fail
  replace M := M.alloc _ rfl 56 #[(.func (Fn.func 28) #[] #[.pointer (some ⟨g, 0, none⟩), .pointer (some ⟨w.heap.size, 0, none⟩)])]
  simp only [List.cons_append, List.nil_append] at M
  change Code.wp _ _ _ _ (W1.alloc (.cells #[(.func (Fn.func 28) #[] #[.pointer (some ⟨g, 0, none⟩), .pointer (some ⟨w.heap.size, 0, none⟩)])] 56))
  generalize W1.alloc (.cells #[(.func (Fn.func 28) #[] #[.pointer (some ⟨g, 0, none⟩), .pointer (some ⟨w.heap.size, 0, none⟩)])] 56) = W2 at M ⊢
  generalize W1.heap.size = gf at M ⊢
  have cf := (M.row 3 rfl).cell 0
  go_wp2_with fail
  refine (take11_any m 0 1 (by omega) (by omega) (by rw [H31.out]; omega) M 0 2 rfl rfl (by omega)).mono ?_
  rintro e w1 ⟨rfl, M1⟩
  simp only [List.set_cons_zero, List.set_cons_succ] at M1
  clear M cf
  generalize m.extract 0 (0 + 1) = F at HE HF0 ⊢
  go_upto_region 5 with fail
  refine wp_region_noPanic ?_
  refine wp_region_flow (fin := ?fin3) 10 1 (by kernel_rfl) [.inl (.string F),
    .inl (.int .u8 (fb.toNat : Int)),
    .inl (.int .u8 (k1 : Int)),
    .inl (.bool ch),
    .inl (.string F),
    .inl (.int .u8 (fb.toNat : Int)),
    .inl (.int .u8 (k2 : Int)),
    .inl (.bool ack),
    .inl (.agg (B11.mk o8 o8 0 0 0 0 0 0 ch ack).c),
    .inr (28, bz.c, none)] rfl rfl (by kernel_rfl) ?hfin3 ?hE3 ?hend3
  case hfin3 =>
    intro G
    simp only [flowAll, flowVal, Act.put, List.setIfInBounds_toArray, List.set_cons_zero, List.set_cons_succ]
    exact rfl
  case hE3 =>
    intro G
    refine ⟨Or.inr (fun W hB hR => known_val rfl (by go_simp)),
      Or.inr (fun W hB hR => known_val rfl (by rw [← HF0.out.2]; exact exec_index (.tmp 13) (.const (.int .i64 0)) F 0 HF0.out.1 rfl rfl rfl)),
      Or.inr (fun W hB hR => known_val rfl (by have h1 := HA1.out.1; go_simp)),
      Or.inr (fun W hB hR => known_val rfl (by have h1 := HA1.out.2; go_simp)),
      Or.inr (fun W hB hR => known_val rfl (by go_simp)),
      Or.inr (fun W hB hR => known_val rfl (by rw [← HF0.out.2]; exact exec_index (.tmp 17) (.const (.int .i64 0)) F 0 HF0.out.1 rfl rfl rfl)),
      Or.inr (fun W hB hR => known_val rfl (by have h1 := HA2.out.1; go_simp)),
      Or.inr (fun W hB hR => known_val rfl (by have h1 := HA2.out.2; go_simp)),
      Or.inr (fun W hB hR => known_val rfl (by exact build11f ch ack _ _ rfl rfl rfl)),
      ⟨rfl, fun W => made_ptr (alloc11 rfl)⟩, trivial⟩
  intro G W hB hM
  replace M1 := M1.drew.made hB hM 9 rfl rfl
  simp only [List.cons_append, List.nil_append] at M1
  generalize G 9 = gw at M1 ⊢
  clear hB hM G
  refine only0 10 (W.setRow gw (B11.mk o8 o8 0 0 0 0 0 0 ch ack).c) _ (by kernel_rfl) rfl rfl rfl (store11 (.tmp 8) (.tmp 21) gw (M1.row 4 rfl) bz_fit x0 rfl rfl rfl) ?_
  have M := M1.store 4 rfl (B11.mk o8 o8 0 0 0 0 0 0 ch ack).c
  simp only [List.set_cons_zero, List.set_cons_succ] at M
  generalize W.setRow gw (B11.mk o8 o8 0 0 0 0 0 0 ch ack).c = V at M ⊢
  clear M1
  simp only [Act.put]
  refine wpAny_end (by kernel_rfl) ?_ _
  refine NoPanic.normal ?_
  clear HF0 HA1 HA2
  go_upto_region 6 with fail
  have cf := (M.drew.row 3 rfl).cell 0
  refine wp_region_noPanic ?_
  refine wp_region_held_drew (S := fun w' => w'.cell? ⟨gf, 0, none⟩ = some (.func (Fn.func 28) #[] #[.pointer (some ⟨g, 0, none⟩), .pointer (some ⟨w.heap.size, 0, none⟩)])) (by kernel_rfl) cf (fun hS => ?_)
  refine take1 hS 0 22 (.pointer (some ⟨gw, 0, none⟩)) _ rfl (by kernel_rfl) (by kernel_rfl) (by kernel_rfl) (fun _ _ _ h => h) rfl rfl (fun w' h => by go_simp) ?_
  simp only [Act.put, List.setIfInBounds_toArray, List.set_cons_zero, List.set_cons_succ]
  refine take1 hS 1 23 (.slice (some ⟨gw, 0, none⟩) 8 8) _ rfl (by kernel_rfl) (by kernel_rfl) (by kernel_rfl) (fun _ _ _ h => h) rfl rfl (fun w' h => by go_simp) ?_
  simp only [Act.put, List.setIfInBounds_toArray, List.set_cons_zero, List.set_cons_succ]
  refine take1 hS 2 24 (.func (Fn.func 28) #[] #[.pointer (some ⟨g, 0, none⟩), .pointer (some ⟨w.heap.size, 0, none⟩)]) _ rfl (by kernel_rfl) (by kernel_rfl) (by kernel_rfl) (fun _ _ _ h => h) rfl rfl (fun w' h => by go_simp) ?_
  simp only [Act.put, List.setIfInBounds_toArray, List.set_cons_zero, List.set_cons_succ]
  have hcall := take11_any m 1 8 (by omega) (by omega) (by rw [H31.out]; omega) M.drew 0 2 rfl rfl (by omega)
  refine onlyCall 3 25 _ _ _ (by kernel_rfl) rfl rfl rfl (by go_simp) hcall ?_
  rintro e V ⟨rfl, M'⟩
  simp only [List.set_cons_zero, List.set_cons_succ] at M'
  clear hcall M cf
  refine ⟨_, rfl, (M'.row 3 rfl).cell 0, ?_⟩
  simp only [Act.put, List.setIfInBounds_toArray, List.set_cons_zero, List.set_cons_succ]
  have hcp := copy11_r (M'.row 4 rfl) x0 (m.extract 1 (1 + 8)) (by rw [ByteArray.size_extract, H31.out]; omega) HTR.out
  have x1 : (B11.mk R o8 0 0 0 0 0 0 ch ack).Fit := ⟨HLR.out, rfl⟩
  have M := M'.store 4 rfl (B11.mk R o8 0 0 0 0 0 0 ch ack).c
  simp only [List.set_cons_zero, List.set_cons_succ] at M
  clear M' hS
  refine onlyVal 4 26 (.int .i64 8) (V.setRow gw (B11.mk R o8 0 0 0 0 0 0 ch ack).c) _ (by kernel_rfl) rfl rfl rfl (by go_simp) ((M.row 3 rfl).cell 0) ?_
  simp only [Act.put, List.setIfInBounds_toArray, List.set_cons_zero, List.set_cons_succ]
  refine wpAnyH_done (by kernel_rfl) ?_ _
  refine NoPanic.normal ?_
  clear hcp
  generalize V.setRow gw (B11.mk R o8 0 0 0 0 0 0 ch ack).c = V at M ⊢
  go_wp2_with fail
  refine (number11_any m 9 4 (by omega) (by omega) (by rw [H31.out]; omega) M 0 2 3 rfl rfl (by omega) rfl).mono ?_
  rintro e V2 ⟨rfl, M'⟩
  simp only [List.set_cons_zero, List.set_cons_succ] at M'
  clear M
  have cc := (M'.row 4 rfl).b_cost x1
  have cz := (M'.row 4 rfl).frozen 16
  have M := M'.setCell 4 rfl 16 (.int .i64 (numP (cut9 m 9 4) 4 : Int))
  simp only [List.set_cons_zero, List.set_cons_succ] at M
  rw [set11_cost x1] at M
  have x2 : (B11.mk R o8 (C : Int) 0 0 0 0 0 ch ack).Fit := ⟨x1.r, x1.b⟩
  clear M'
  rw [HNC.out] at M ⊢
  go_upto_region 8 with fail
  clear cc cz
  change Code.wp _ _ _ _ (V2.setCell ⟨gw, 16, none⟩ (.int .i64 (C : Int)))
  generalize V2.setCell ⟨gw, 16, none⟩ (.int .i64 (C : Int)) = V at M ⊢
  go_upto_region 8 with fail
  have cf := (M.drew.row 3 rfl).cell 0
  refine wp_region_noPanic ?_
  refine wp_region_held_drew (S := fun w' => w'.cell? ⟨gf, 0, none⟩ = some (.func (Fn.func 28) #[] #[.pointer (some ⟨g, 0, none⟩), .pointer (some ⟨w.heap.size, 0, none⟩)])) (by kernel_rfl) cf (fun hS => ?_)
  refine take1 hS 0 30 (.pointer (some ⟨gw, 8, none⟩)) _ rfl (by kernel_rfl) (by kernel_rfl) (by kernel_rfl) (fun _ _ _ h => h) rfl rfl (fun w' h => by go_simp) ?_
  simp only [Act.put, List.setIfInBounds_toArray, List.set_cons_zero, List.set_cons_succ]
  refine take1 hS 1 31 (.slice (some ⟨gw, 8, none⟩) 8 8) _ rfl (by kernel_rfl) (by kernel_rfl) (by kernel_rfl) (fun _ _ _ h => h) rfl rfl (fun w' h => by go_simp) ?_
  simp only [Act.put, List.setIfInBounds_toArray, List.set_cons_zero, List.set_cons_succ]
  refine take1 hS 2 32 (.func (Fn.func 28) #[] #[.pointer (some ⟨g, 0, none⟩), .pointer (some ⟨w.heap.size, 0, none⟩)]) _ rfl (by kernel_rfl) (by kernel_rfl) (by kernel_rfl) (fun _ _ _ h => h) rfl rfl (fun w' h => by go_simp) ?_
  simp only [Act.put, List.setIfInBounds_toArray, List.set_cons_zero, List.set_cons_succ]
  have hcall := take11_any m 13 8 (by omega) (by omega) (by rw [H31.out]; omega) M.drew 0 2 rfl rfl (by omega)
  refine onlyCall 3 33 _ _ _ (by kernel_rfl) rfl rfl rfl (by go_simp) hcall ?_
  rintro e V ⟨rfl, M'⟩
  simp only [List.set_cons_zero, List.set_cons_succ] at M'
  clear hcall M cf
  refine ⟨_, rfl, (M'.row 3 rfl).cell 0, ?_⟩
  simp only [Act.put, List.setIfInBounds_toArray, List.set_cons_zero, List.set_cons_succ]
  have hcp := copy11_b (M'.row 4 rfl) x2 (m.extract 13 (13 + 8)) (by rw [ByteArray.size_extract, H31.out]; omega) HTB.out
  have x3 : (B11.mk R B (C : Int) 0 0 0 0 0 ch ack).Fit := ⟨HLR.out, HLB.out⟩
  have M := M'.store 4 rfl (B11.mk R B (C : Int) 0 0 0 0 0 ch ack).c
  simp only [List.set_cons_zero, List.set_cons_succ] at M
  clear M' hS
  refine onlyVal 4 34 (.int .i64 8) (V.setRow gw (B11.mk R B (C : Int) 0 0 0 0 0 ch ack).c) _ (by kernel_rfl) rfl rfl rfl (by go_simp) ((M.row 3 rfl).cell 0) ?_
  simp only [Act.put, List.setIfInBounds_toArray, List.set_cons_zero, List.set_cons_succ]
  refine wpAnyH_done (by kernel_rfl) ?_ _
  refine NoPanic.normal ?_
  clear hcp
  generalize V.setRow gw (B11.mk R B (C : Int) 0 0 0 0 0 ch ack).c = V at M ⊢
  go_wp2_with fail
  refine (number11_any m 21 2 (by omega) (by omega) (by rw [H31.out]; omega) M 0 2 3 rfl rfl (by omega) rfl).mono ?_
  rintro e V2 ⟨rfl, M'⟩
  simp only [List.set_cons_zero, List.set_cons_succ] at M'
  clear M
  have cc := (M'.row 4 rfl).b_port x3
  have cz := (M'.row 4 rfl).frozen 17
  have M := M'.setCell 4 rfl 17 (.int .i64 (numP (cut9 m 21 2) 2 : Int))
  simp only [List.set_cons_zero, List.set_cons_succ] at M
  rw [set11_port x3] at M
  have x4 : (B11.mk R B (C : Int) (P : Int) 0 0 0 0 ch ack).Fit := ⟨x3.r, x3.b⟩
  clear M'
  rw [HNP.out] at M ⊢
  go_upto_region 10 with fail
  clear cc cz
  change Code.wp _ _ _ _ (V2.setCell ⟨gw, 17, none⟩ (.int .i64 (P : Int)))
  generalize V2.setCell ⟨gw, 17, none⟩ (.int .i64 (P : Int)) = V at M ⊢
  go_wp2_with fail
  refine (number11_any m 23 2 (by omega) (by omega) (by rw [H31.out]; omega) M 0 2 3 rfl rfl (by omega) rfl).mono ?_
  rintro e V2 ⟨rfl, M'⟩
  simp only [List.set_cons_zero, List.set_cons_succ] at M'
  clear M
  have cc := (M'.row 4 rfl).b_age x4
  have cz := (M'.row 4 rfl).frozen 18
  have M := M'.setCell 4 rfl 18 (.int .i64 (numP (cut9 m 23 2) 2 : Int))
  simp only [List.set_cons_zero, List.set_cons_succ] at M
  rw [set11_age x4] at M
  have x5 : (B11.mk R B (C : Int) (P : Int) (A : Int) 0 0 0 ch ack).Fit := ⟨x4.r, x4.b⟩
  clear M'
  rw [HNA.out] at M ⊢
  go_upto_region 11 with fail
  clear cc cz
  change Code.wp _ _ _ _ (V2.setCell ⟨gw, 18, none⟩ (.int .i64 (A : Int)))
  generalize V2.setCell ⟨gw, 18, none⟩ (.int .i64 (A : Int)) = V at M ⊢
  go_wp2_with fail
  refine (number11_any m 25 2 (by omega) (by omega) (by rw [H31.out]; omega) M 0 2 3 rfl rfl (by omega) rfl).mono ?_
  rintro e V2 ⟨rfl, M'⟩
  simp only [List.set_cons_zero, List.set_cons_succ] at M'
  clear M
  have cc := (M'.row 4 rfl).b_top x5
  have cz := (M'.row 4 rfl).frozen 19
  have M := M'.setCell 4 rfl 19 (.int .i64 (numP (cut9 m 25 2) 2 : Int))
  simp only [List.set_cons_zero, List.set_cons_succ] at M
  rw [set11_top x5] at M
  have x6 : (B11.mk R B (C : Int) (P : Int) (A : Int) (T : Int) 0 0 ch ack).Fit := ⟨x5.r, x5.b⟩
  clear M'
  rw [HNT.out] at M ⊢
  go_upto_region 12 with fail
  clear cc cz
  change Code.wp _ _ _ _ (V2.setCell ⟨gw, 19, none⟩ (.int .i64 (T : Int)))
  generalize V2.setCell ⟨gw, 19, none⟩ (.int .i64 (T : Int)) = V at M ⊢
  go_wp2_with fail
  refine (number11_any m 27 2 (by omega) (by omega) (by rw [H31.out]; omega) M 0 2 3 rfl rfl (by omega) rfl).mono ?_
  rintro e V2 ⟨rfl, M'⟩
  simp only [List.set_cons_zero, List.set_cons_succ] at M'
  clear M
  have cc := (M'.row 4 rfl).b_hello x6
  have cz := (M'.row 4 rfl).frozen 20
  have M := M'.setCell 4 rfl 20 (.int .i64 (numP (cut9 m 27 2) 2 : Int))
  simp only [List.set_cons_zero, List.set_cons_succ] at M
  rw [set11_hello x6] at M
  have x7 : (B11.mk R B (C : Int) (P : Int) (A : Int) (T : Int) (H : Int) 0 ch ack).Fit := ⟨x6.r, x6.b⟩
  clear M'
  rw [HNH.out] at M ⊢
  go_upto_region 13 with fail
  clear cc cz
  change Code.wp _ _ _ _ (V2.setCell ⟨gw, 20, none⟩ (.int .i64 (H : Int)))
  generalize V2.setCell ⟨gw, 20, none⟩ (.int .i64 (H : Int)) = V at M ⊢
  go_wp2_with fail
  refine (number11_any m 29 2 (by omega) (by omega) (by rw [H31.out]; omega) M 0 2 3 rfl rfl (by omega) rfl).mono ?_
  rintro e V2 ⟨rfl, M'⟩
  simp only [List.set_cons_zero, List.set_cons_succ] at M'
  clear M
  have cc := (M'.row 4 rfl).b_delay x7
  have cz := (M'.row 4 rfl).frozen 21
  have M := M'.setCell 4 rfl 21 (.int .i64 (numP (cut9 m 29 2) 2 : Int))
  simp only [List.set_cons_zero, List.set_cons_succ] at M
  rw [set11_delay x7] at M
  have x8 : (B11.mk R B (C : Int) (P : Int) (A : Int) (T : Int) (H : Int) (D : Int) ch ack).Fit := ⟨x7.r, x7.b⟩
  clear M'
  rw [HND.out] at M ⊢
  go_upto_region 14 with fail
  clear cc cz
  change Code.wp _ _ _ _ (V2.setCell ⟨gw, 21, none⟩ (.int .i64 (D : Int)))
  generalize V2.setCell ⟨gw, 21, none⟩ (.int .i64 (D : Int)) = V at M ⊢
  have hrow := M.drew.row 4 rfl
  refine wp_region_noPanic ?_
  refine wp_region_held_drew (S := fun Y => Has Y gw 28 (B11.mk R B (C : Int) (P : Int) (A : Int) (T : Int) (H : Int) (D : Int) ch ack).c) (by kernel_rfl) hrow (fun hS => ?_)
  refine take1 hS 0 50 (.agg (B11.mk R B (C : Int) (P : Int) (A : Int) (T : Int) (H : Int) (D : Int) ch ack).c) _ rfl (by kernel_rfl) (by kernel_rfl) (by kernel_rfl) (fun _ _ _ h => h) rfl rfl (fun Y h => exec_load_row 28 (.tmp 8) gw h Try.underlying28 rfl (b11_info x8) rfl rfl) ?_
  simp only [Act.put, List.setIfInBounds_toArray, List.set_cons_zero, List.set_cons_succ]
  clear hS hrow
  refine wpAnyH_flow_pre (fin := ?fin4) 8 3 [0] [.inl (.agg (B11.mk R B (C : Int) (P : Int) (A : Int) (T : Int) (H : Int) (D : Int) ch ack).c),
    .inl (.string F),
    .inl (.agg (B11.mk R B (C : Int) (P : Int) (A : Int) (T : Int) (H : Int) (D : Int) ch ack).c),
    .inl (.string FT),
    .inl (.bool false),
    .inl (.bool false),
    .inl undef,
    .inl undef] rfl rfl (by kernel_rfl) rfl (by kernel_rfl) (by kernel_rfl) rfl (fun Y hb => (M.drew.step hb).row 4 rfl) ?hfin4 ?hE4 ?hend4
  case hfin4 =>
    intro G
    simp only [flowAll, flowVal, Act.put, List.setIfInBounds_toArray, List.set_cons_zero, List.set_cons_succ]
    exact rfl
  case hE4 =>
    intro G
    refine ⟨Or.inl rfl,
      Or.inr (fun W hB hR => known_val rfl (by go_simp)),
      Or.inr (fun W hB hR => known_val rfl (by exact exec_load_row 28 (.tmp 8) gw ((M.drew.step hB).row 4 rfl) Try.underlying28 rfl (b11_info x8) rfl rfl)),
      Or.inr (fun W hB hR => known_call 25 #[.agg (B11.mk R B (C : Int) (P : Int) (A : Int) (T : Int) (H : Int) (D : Int) ch ack).c] (HQF.out W) rfl (by go_simp)),
      Or.inr (fun W hB hR => known_val rfl (by exact exec_eqS (.tmp 51) (.tmp 53) _ _ false HE.out rfl rfl rfl)),
      Or.inr (fun W hB hR => known_val rfl (by go_simp)),
      Or.inr (fun W hB hR => Or.inr ⟨rfl, rfl⟩),
      Or.inr (fun W hB hR => Or.inr ⟨rfl, rfl⟩), trivial⟩
  intro G W hB hM
  replace M := M.drew.step hB
  clear hB hM G
  refine take1 (M.row 4 rfl) 8 58 (.bool false) _ rfl (by kernel_rfl) (by kernel_rfl) (by kernel_rfl) (fun _ _ _ h => h) rfl rfl (fun w' h => by go_simp) ?_
  simp only [Act.put, List.setIfInBounds_toArray, List.set_cons_zero, List.set_cons_succ]
  have M9 := M.store 1 rfl (B11.mk R B (C : Int) (P : Int) (A : Int) (T : Int) (H : Int) (D : Int) ch ack).c
  simp only [List.set_cons_zero, List.set_cons_succ] at M9
  refine onlySkip 9 (W.setRow (w.heap.size + 1) (B11.mk R B (C : Int) (P : Int) (A : Int) (T : Int) (H : Int) (D : Int) ch ack).c) _ (by kernel_rfl) rfl rfl rfl (store11 (.tmp 2) (.tmp 50) (w.heap.size + 1) (M.row 1 rfl) bz_fit x8 rfl rfl rfl) (M9.row 4 rfl) ?_
  clear M
  generalize W.setRow (w.heap.size + 1) (B11.mk R B (C : Int) (P : Int) (A : Int) (T : Int) (H : Int) (D : Int) ch ack).c = W9 at M9 ⊢
  simp only [Act.put]
  refine take1 (M9.row 4 rfl) 10 3 (.bool false) _ rfl (by kernel_rfl) (by kernel_rfl) (by kernel_rfl) (fun _ _ _ h => h) rfl rfl (fun w' h => by go_simp) ?_
  simp only [Act.put, List.setIfInBounds_toArray, List.set_cons_zero, List.set_cons_succ]
  refine wpAnyH_done (by kernel_rfl) ?_ _
  refine NoPanic.normal ?_
  have HM := Lib.hid M9
  clear M9
  go_wp2
  exact bodyPost_ret (v := .tuple #[.agg (B11.mk R B (C : Int) (P : Int) (A : Int) (T : Int) (H : Int) (D : Int) ch ack).c, .bool false]) (results_row_reg rfl _ _ (w.heap.size + 1) 28 (B11.mk R B (C : Int) (P : Int) (A : Int) (T : Int) (H : Int) (D : Int) ch ack).c (0, 0) _ rfl (HM.out.row 1 rfl) Try.underlying28 rfl (b11_info x8) _ rfl) rfl ⟨rfl, HM.out.below⟩
theorem readWord_any (m : ByteArray) (hs : m.size = 31) (w : World) : Calls Try.prog 20 #[.string m] w fun e w' => e = .returned (.tuple #[.agg (says m).c, .bool (saysOk m)]) ∧ Below w.heap.size w w' := by
  cases hc : cut9 m 0 1 == [(says m).flag] with
  | true => exact readWord_yes m hs hc w
  | false => exact readWord_no m hs hc w
end Go.Proofs.Ytingcoojhfadgaa
