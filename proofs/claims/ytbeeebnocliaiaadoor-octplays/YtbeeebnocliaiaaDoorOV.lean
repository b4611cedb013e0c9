/- oct.read: walked. -/
import Derived.Test.YtbeeebnocliaiaaDoorOU
namespace Go.Proofs.YtbeeebnocliaiaaDoor
open Go.RowKit Go.Shelf
attribute [local go_sem] Oper.semAt_some
/-- what memory holds while an address is read: k parts were read -/
structure REnv (f : FuncId) (base : Nat) (g : Nat) (t : TypeId) (n : Nat) (w : World) (L : List UInt8) (k : Nat) (W : World) : Prop where
  h0 : Has W w.heap.size 51 #[.slice (some ⟨g, 0, none⟩) n n]
  h1 : Has W (w.heap.size + 1) 3 #[.int .i64 (base : Int)]
  h2 : Has W (w.heap.size + 1 + 1) 52 #[.func (.func f) #[] #[]]
  h3 : Has W (w.heap.size + 1 + 1 + 1) 4 #[.bool false]
  h4 : Has W (w.heap.size + 1 + 1 + 1 + 1) 3 #[.int .i64 (k : Int)]
  hg : Has W g t (bs L)
  but : ButB g w.heap.size w W
section
variable {f : FuncId} {base g n : Nat} {t : TypeId} {w W W' : World} {L : List UInt8} {k : Nat}
theorem REnv.grown {row : Option Nat} (h : REnv f base g t n w L k W) (hg : W.grownBy W' row) (hB : ∀ r, row = some r → w.heap.size ≤ r) (hr : ∀ r, row = some r → ∃ o : Obj, W.heap[r]? = some o ∧ o.isCells = false) : REnv f base g t n w L k W' :=
  ⟨h.h0.grown hg hr, h.h1.grown hg hr, h.h2.grown hg hr, h.h3.grown hg hr, h.h4.grown hg hr, h.hg.grown hg hr, h.but.grown hg hB h.but.size⟩
theorem REnv.step (h : REnv f base g t n w L k W) (hb : Below W.heap.size W W') : REnv f base g t n w L k W' :=
  ⟨h.h0.below hb h.h0.lt, h.h1.below hb h.h1.lt, h.h2.below hb h.h2.lt, h.h3.below hb h.h3.lt, h.h4.below hb h.h4.lt, h.hg.below hb h.hg.lt, h.but.step hb h.but.size⟩
theorem REnv.put (h : REnv f base g t n w L k W) (hgw : g < w.heap.size) (i : Nat) (x : UInt8) : REnv f base g t n w (L.set i x) k (W.setCell ⟨g, i, none⟩ (B8 x)) :=
  ⟨h.h0.other (by show _ ≠ g; omega) _, h.h1.other (by show _ ≠ g; omega) _, h.h2.other (by show _ ≠ g; omega) _, h.h3.other (by show _ ≠ g; omega) _, h.h4.other (by show _ ≠ g; omega) _, h.hg.setB i x, h.but.setCell _ (Or.inl rfl) _⟩
theorem REnv.flag (h : REnv f base g t n w L k W) (hgw : g < w.heap.size) : REnv f base g t n w L k (W.setCell ⟨w.heap.size + 1 + 1 + 1, 0, none⟩ (.bool false)) :=
  ⟨h.h0.other (by show _ ≠ w.heap.size + 1 + 1 + 1; omega) _, h.h1.other (by show _ ≠ w.heap.size + 1 + 1 + 1; omega) _, h.h2.other (by show _ ≠ w.heap.size + 1 + 1 + 1; omega) _, h.h3.set 0 _, h.h4.other (by show _ ≠ w.heap.size + 1 + 1 + 1; omega) _, h.hg.other (by show _ ≠ w.heap.size + 1 + 1 + 1; omega) _, h.but.setCell _ (Or.inr (by show w.heap.size ≤ w.heap.size + 1 + 1 + 1; omega)) _⟩
theorem REnv.next (h : REnv f base g t n w L k W) (hgw : g < w.heap.size) : REnv f base g t n w L (k + 1) (W.setCell ⟨w.heap.size + 1 + 1 + 1 + 1, 0, none⟩ (.int .i64 ((k : Int) + 1))) :=
  ⟨h.h0.other (by show _ ≠ w.heap.size + 1 + 1 + 1 + 1; omega) _, h.h1.other (by show _ ≠ w.heap.size + 1 + 1 + 1 + 1; omega) _, h.h2.other (by show _ ≠ w.heap.size + 1 + 1 + 1 + 1; omega) _, h.h3.other (by show _ ≠ w.heap.size + 1 + 1 + 1 + 1; omega) _, h.h4.set 0 _, h.hg.other (by show _ ≠ w.heap.size + 1 + 1 + 1 + 1; omega) _, h.but.setCell _ (Or.inr (by show w.heap.size ≤ w.heap.size + 1 + 1 + 1 + 1; omega)) _⟩
end
theorem set_next (l init : List UInt8) (n : Nat) (hi : init.length = n) (hl : l.length < n) (c : UInt8) : (l ++ init.drop l.length).set l.length c = (l ++ [c]) ++ init.drop (l ++ [c]).length := by
  rw [List.set_append_right _ _ (Nat.le_refl _), Nat.sub_self, List.length_append, List.length_singleton, List.drop_eq_getElem_cons (by omega), List.set_cons_zero, List.append_assoc]
  rfl
set_option maxRecDepth 100000 in
set_option maxHeartbeats 4000000 in
theorem read_in (f : FuncId) (T : UInt8 → List UInt8) (m : UInt8) (base : Nat) (hb : base = 10 ∨ base = 16) (g : Nat) (t : TypeId) (init : List UInt8) (n : Nat) (hil : init.length = n) (hn2 : n ≤ 16) (s : ByteArray) (hs : s.size ≤ 1000000) (w : World)
    (hen : ∀ args w, (callFunc f args).run Tryd.prog w = .ok (.enter f args) w) (hg : Has w g t (bs init))
    (hE : ∀ W, ButB g w.heap.size w W → HasE W)
    (hT : ∀ b W, ButB g w.heap.size w W → Calls Tryd.prog f #[B8 b] W fun e w' => e = .returned (S9 (T b)) ∧ Below W.heap.size W w')
    (hcan : ∀ b, puS base (T b) = some b.toNat) :
    CallsIn Fence.wide 5 Tryd.prog 25 #[.slice (some ⟨g, 0, none⟩) n n, .string s, .string ⟨#[m]⟩, .int .i64 (base : Int), .func (.func f) #[] #[]] w fun e w' =>
      ButB g w.heap.size w w' ∧ ((∃ l : List UInt8, l.length = n ∧ splitL m s.data.toList = l.map T ∧ e = .returned (.bool true) ∧ Has w' g t (bs l)) ∨
        ((∀ l : List UInt8, l.length = n → splitL m s.data.toList ≠ l.map T) ∧ e = .returned (.bool false))) := by
  have hro : Fence.wide.round = none := rfl
  have hgw := hg.lt
  have henv : REnv f base g t n w init 0 (((((w.alloc (.cells #[.slice (some ⟨g, 0, none⟩) n n] 51)).alloc (.cells #[.int .i64 (base : Int)] 3)).alloc (.cells #[.func (.func f) #[] #[]] 52)).alloc (.cells #[.bool false] 4)).alloc (.cells #[.int .i64 0] 3)) ∧ w.heap.size + 1 + 1 + 1 + 1 + 1 = (((((w.alloc (.cells #[.slice (some ⟨g, 0, none⟩) n n] 51)).alloc (.cells #[.int .i64 (base : Int)] 3)).alloc (.cells #[.func (.func f) #[] #[]] 52)).alloc (.cells #[.bool false] 4)).alloc (.cells #[.int .i64 0] 3)).heap.size := by
    have a0 := Has.fresh w 51 #[.slice (some ⟨g, 0, none⟩) n n]
    have a1 := Has.fresh (w.alloc (.cells #[.slice (some ⟨g, 0, none⟩) n n] 51)) 3 #[.int .i64 (base : Int)]
    have a2 := Has.fresh ((w.alloc (.cells #[.slice (some ⟨g, 0, none⟩) n n] 51)).alloc (.cells #[.int .i64 (base : Int)] 3)) 52 #[.func (.func f) #[] #[]]
    have a3 := Has.fresh (((w.alloc (.cells #[.slice (some ⟨g, 0, none⟩) n n] 51)).alloc (.cells #[.int .i64 (base : Int)] 3)).alloc (.cells #[.func (.func f) #[] #[]] 52)) 4 #[.bool false]
    have a4 := Has.fresh ((((w.alloc (.cells #[.slice (some ⟨g, 0, none⟩) n n] 51)).alloc (.cells #[.int .i64 (base : Int)] 3)).alloc (.cells #[.func (.func f) #[] #[]] 52)).alloc (.cells #[.bool false] 4)) 3 #[.int .i64 0]
    simp only [World.size_alloc] at a1 a2 a3 a4 ⊢
    refine ⟨⟨(((a0.alloc _).alloc _).alloc _).alloc _, ((a1.alloc _).alloc _).alloc _, (a2.alloc _).alloc _, a3.alloc _, a4, ((((hg.alloc _).alloc _).alloc _).alloc _).alloc _, ?_⟩, trivial⟩
    exact ButB.of (((((Below.refl _ _).alloc (Nat.le_refl _) _).alloc (by simp) _).alloc (by simp; omega) _).alloc (by simp; omega) _ |>.alloc (by simp; omega) _)
  obtain ⟨hR, hsz⟩ := henv
  have HR := Lib.hid hR
  have HSZ := Lib.hid hsz
  clear hR hsz
  refine callsIn_of_wp_marks Tryd.func25 rfl trivial ?_ hro
  simp only [Tryd.ntmps25, List.size_toArray, List.length_cons, List.length_nil, Nat.reduceAdd, Nat.reduceSub, Array.replicate_succ, Array.replicate_zero, List.push_toArray, List.append_toArray, List.nil_append, List.cons_append]
  gi_wp2_with fail
  refine ⟨trivial, ?_⟩
  generalize ((((w.alloc (.cells #[.slice (some ⟨g, 0, none⟩) n n] 51)).alloc (.cells #[.int .i64 (base : Int)] 3)).alloc (.cells #[.func (.func f) #[] #[]] 52)).alloc (.cells #[.bool false] 4)).alloc (.cells #[.int .i64 0] 3) = w5 at HR HSZ ⊢
  refine (callsIn_wide.2 (parts_any s m w5)).mono ?_
  rintro e w7 ⟨rfl, hw7⟩
  have hc5 : w7.cell? ⟨w5.heap.size, 0, none⟩ = some (.string s) := by
    rw [hw7]; exact ((Has.fresh w5 9 #[.string s]).alloc _).cell 0
  have hc6 : w7.cell? ⟨w5.heap.size + 1, 0, none⟩ = some (.string ⟨#[m]⟩) := by
    have h := (Has.fresh (w5.alloc (.cells #[.string s] 9)) 9 #[.string ⟨#[m]⟩]).cell 0
    rw [World.size_alloc] at h
    rw [hw7]; exact h
  have hb7 : Below w5.heap.size w5 w7 := by rw [hw7]; exact ((Below.refl _ _).alloc (Nat.le_refl _) _).alloc (by simp) _
  have hs7 : w7.heap.size = w5.heap.size + 1 + 1 := by rw [hw7]; simp
  have hR7 := HR.out.step hb7
  have hsz := HSZ.out
  clear hw7 hb7 HR HSZ
  generalize w5.heap.size = b5 at hc5 hc6 hs7 hsz ⊢
  clear w5
  gi_wp2_with fail
  refine wpIn_rangeFunc_ownG (g := .tmp 17) hro (by omega) (gf := 35) (lb := #[.pointer (some ⟨b5, 0, none⟩), .pointer (some ⟨b5 + 1, 0, none⟩)]) rfl trivial (enters_of Tryd.func35 (by kernel_rfl) rfl)
    (parts_stops s (by omega) m 4 (by omega) b5 (b5 + 1) w7 hc5 hc6) keepM_t (keepM_b (by omega)) (Below.refl _ _) (fun _ => rfl)
    (fun pre W => ∃ l : List UInt8, l.length ≤ n ∧ pre.map (·.1) = l.map T ∧ REnv f base g t n w (l ++ init.drop l.length) l.length W ∧ w7.heap.size ≤ W.heap.size)
    (fun c pre W => c = .ret ∧ (∃ L k, REnv f base g t n w L k W) ∧ (pre.length = n + 1 ∨ ∃ x ∈ pre, ∀ b, x.1 ≠ T b))
    (fun pre A B row hi hgr hr => by
      obtain ⟨l, h1, h2, h3, h4⟩ := hi
      exact ⟨l, h1, h2, h3.grown hgr (fun r e => by have := (hr r e).1; omega) (fun r e => (hr r e).2), Nat.le_trans h4 hgr.size⟩)
    (fun c pre A B row hi hgr hr => by
      obtain ⟨h1, ⟨L, k, h3⟩, h2⟩ := hi
      exact ⟨h1, ⟨L, k, h3.grown hgr (fun r e => by have := (hr r e).1; omega) (fun r e => (hr r e).2)⟩, h2⟩)
    ⟨[], Nat.zero_le _, rfl, hR7, Nat.le_refl _⟩
    (fun x : PT => { tmps := #[.slice (some ⟨g, 0, none⟩) n n, .string s, .string ⟨#[m]⟩, .int .i64 (base : Int), .func (.func f) #[] #[], .pointer (some ⟨w.heap.size, 0, none⟩), undef, undef, .pointer (some ⟨w.heap.size + 1, 0, none⟩), .pointer (some ⟨w.heap.size + 1 + 1, 0, none⟩), .pointer (some ⟨w.heap.size + 1 + 1 + 1, 0, none⟩), .pointer (some ⟨w.heap.size + 1 + 1 + 1 + 1, 0, none⟩), S9 x.1, undef, undef, .string s, .string ⟨#[m]⟩, .func (.func 35) #[] #[.pointer (some ⟨b5, 0, none⟩), .pointer (some ⟨b5 + 1, 0, none⟩)], S9 x.1, undef, undef, undef, undef, undef, undef, undef, undef, undef, undef, undef, undef, undef, undef, undef, undef, undef, undef, undef, undef, undef, undef, undef, undef, undef, undef, undef, undef, undef, undef, undef], defers := [] }) ?assign ?body ?done ?stop
  case assign =>
    intro l x W K hK
    gi_wp2
    exact hK
  case body =>
    rintro lp pre x W ⟨l, hl, hpre, hRE, hws⟩ _
    have hlen : pre.length = l.length := by have := congrArg List.length hpre; simpa using this
    have c0 := hRE.h0.cell 0
    have c1 := hRE.h1.cell 0
    have c2 := hRE.h2.cell 0
    have c3 := hRE.h3.cell 0
    have c4 := hRE.h4.cell 0
    have f3 := hRE.h3.frozen 0
    by_cases hn : l.length = n
    · have te : ((l.length : Int) == (n : Int)) = true := by rw [hn]; simp
      have HRE := Lib.hid hRE
      clear hRE
      gi_wp2
      exact ⟨(KeepsOthers.setCell _ _ _).from _, rfl, ⟨_, _, HRE.out.flag hgw⟩, Or.inl (by rw [List.length_append, hlen, hn]; rfl)⟩
    · have te : ((l.length : Int) == (n : Int)) = false := by rw [beq_eq_false_iff_ne]; omega
      have hpu := parse_any base hb ⟨x.1.toArray⟩ (by show x.1.length ≤ _; have := x.2; omega) W (hE W hRE.but)
      have HPU := Lib.hid hpu
      have HRE := Lib.hid hRE
      have HL := Lib.hid hlen
      have HPR := Lib.hid hpre
      clear hpu hRE hlen hpre
      gi_wp2_with fail
      refine ⟨trivial, ?_⟩
      refine (CallsIn.inRound lp (callsIn_wide.2 HPU.out)).mono ?_
      rintro e W2 ⟨he, hb2⟩
      have hRE2 := HRE.out.step hb2
      clear HPU c0 c1 c2 c3 c4 f3
      have c0 := hRE2.h0.cell 0
      have c2 := hRE2.h2.cell 0
      have c3 := hRE2.h3.cell 0
      have c4 := hRE2.h4.cell 0
      have f3 := hRE2.h3.frozen 0
      rcases he with ⟨u, hu, rfl⟩ | ⟨hu, v, N, rfl⟩
      · have hub : u ≤ 255 := by
          unfold puS at hu
          split at hu
          · cases hu
          · exact puL_le base 0 _ u (by omega) hu
        obtain ⟨c, rfl⟩ : ∃ c : UInt8, c.toNat = u := ⟨UInt8.ofNat u, by rw [UInt8.toNat_ofNat']; exact Nat.mod_eq_of_lt (by omega)⟩
        have hw : IntKind.u8.wrap (c.toNat : Int) = (c.toNat : Int) := by rw [IntKind.wrap_u8']; omega
        have hcall := hT c W2 hRE2.but
        have HC := Lib.hid hcall
        have HK := Lib.hid hRE2
        have HB2 := Lib.hid hb2
        clear hcall hRE2 hb2
        gi_wp2_with fail
        refine ⟨trivial, ?_⟩
        refine (CallsIn.inRound lp (callsIn_wide.2 HC.out)).mono ?_
        rintro e W3 ⟨rfl, hb3⟩
        have hRE3 := HK.out.step hb3
        clear HC c0 c2 c3 c4 f3
        have c0 := hRE3.h0.cell 0
        have c3 := hRE3.h3.cell 0
        have c4 := hRE3.h4.cell 0
        have f3 := hRE3.h3.frozen 0
        have f4 := hRE3.h4.frozen 0
        have hlt : l.length < n := by omega
        have hB3 : Below W.heap.size W W3 := HB2.out.trans (hb3.mono HB2.out.size)
        by_cases hx : T c = x.1
        · have hcg := hRE3.hg.byte l.length (by rw [List.length_append, List.length_drop]; omega)
          have fcg := hRE3.hg.frozen l.length
          have hput := hRE3.put hgw l.length c
          rw [set_next l init n hil hlt c] at hput
          have hk4 : l.length + 1 = (l ++ [c]).length := by rw [List.length_append]; rfl
          generalize (l ++ List.drop l.length init).getD l.length 0 = old at hcg
          rw [hx]
          have hli : (l.length : Int) < (n : Int) := by omega
          have hwl : IntKind.i64.wrap ((l.length : Int) + 1) = (l.length : Int) + 1 := IntWalk.i64_in _ (by omega)
          have HP := Lib.hid hput
          have HB3 := Lib.hid hB3
          have HX := Lib.hid hx
          have HK4 := Lib.hid hk4
          clear hRE3 hput hB3 hb3 HK HB2 hx HRE hk4
          gi_wp2
          have hf := (HP.out.next hgw)
          rw [HK4.out] at hf
          refine ⟨(((keepsOthers_below HB3.out).trans (KeepsOthers.setCell _ _ _)).trans (KeepsOthers.setCell _ _ _)).from _, ?_, l ++ [c], ?_, ?_, hf, ?_⟩
          · show ((W3.setCell _ _).setCell _ _).heap[b5 + 1]? = W.heap[b5 + 1]?
            rw [heap_setCell_other _ _ _ _ (by show b5 + 1 ≠ w.heap.size + 1 + 1 + 1 + 1; omega), heap_setCell_other _ _ _ _ (by show b5 + 1 ≠ g; omega)]
            exact HB3.out.block _ (by omega)
          · rw [List.length_append]; show l.length + 1 ≤ n; omega
          · rw [List.map_append, HPR.out, List.map_append]; show _ ++ [x.1] = _ ++ [T c]; rw [HX.out]
          · have := HB3.out.size
            show w7.heap.size ≤ ((W3.setCell _ _).setCell _ _).heap.size
            simp
            omega
        · have hq : (T c == x.1) = false := beq_eq_false_iff_ne.2 hx
          have HP := Lib.hid hRE3
          have HB3 := Lib.hid hB3
          have HX := Lib.hid hx
          clear hRE3 hB3 hb3 HK HB2 hx HRE
          gi_wp2
          exact ⟨((keepsOthers_below HB3.out).trans (KeepsOthers.setCell _ _ _)).from _, rfl, ⟨_, _, HP.out.flag hgw⟩, Or.inr ⟨x, by simp, fun b hxb => by
            rw [hxb, hcan b] at hu
            have hbc : b = c := UInt8.toNat_inj.1 (Option.some.inj hu)
            exact HX.out (by rw [hxb, hbc])⟩⟩
      · have HK := Lib.hid hRE2
        have HB2 := Lib.hid hb2
        clear hRE2 hb2
        gi_wp2
        refine ⟨fun _ h => (by cases h), ?_⟩
        gi_wp2
        exact ⟨((keepsOthers_below HB2.out).trans (KeepsOthers.setCell _ _ _)).from _, rfl, ⟨_, _, HK.out.flag hgw⟩, Or.inr ⟨x, by simp, fun b hx => by rw [hx, hcan b] at hu; cases hu⟩⟩
  case done =>
    rintro D ys W hD hys ⟨l, hl, hpre, hRE, _⟩ hK
    have c0 := hRE.h0.cell 0
    have c3 := hRE.h3.cell 0
    have c4 := hRE.h4.cell 0
    have f3 := hRE.h3.frozen 0
    have HRE := Lib.hid hRE
    clear hRE
    gi_wp2
    have hK' := (KeepsOthers.setCell W ⟨w.heap.size + 1 + 1 + 1, 0, none⟩ (.bool ((l.length : Int) == (n : Int)))).same D _ hK rfl
    refine ⟨by simp, .inl ⟨_, _, rfl, run_takeDeferred hK', ?_⟩⟩
    have hc5 := cell_kept (World.cell?_setCell_same' W ⟨w.heap.size + 1 + 1 + 1, 0, none⟩ (.bool ((l.length : Int) == (n : Int))) (by rw [HRE.out.h3.cell 0]; rfl)) (grownBy_putObj' _ D (.deferred none)) (fun r e => by cases e; exact ⟨_, hK', rfl⟩)
    have hbut : ButB g w.heap.size w ((W.setCell ⟨w.heap.size + 1 + 1 + 1, 0, none⟩ (.bool ((l.length : Int) == (n : Int)))).putObj D (.deferred none)) :=
      (HRE.out.but.setCell _ (Or.inr (by show w.heap.size ≤ w.heap.size + 1 + 1 + 1; omega)) _).grown (grownBy_putObj' _ D _) (fun r e => by cases e; omega) (by have := HRE.out.but.size; simpa using this)
    have hgg : Has ((W.setCell ⟨w.heap.size + 1 + 1 + 1, 0, none⟩ (.bool ((l.length : Int) == (n : Int)))).putObj D (.deferred none)) g t (bs (l ++ List.drop l.length init)) :=
      (HRE.out.hg.other (by show g ≠ w.heap.size + 1 + 1 + 1; omega) _).grown (grownBy_putObj' _ D _) (fun r e => by cases e; exact ⟨_, hK', rfl⟩)
    refine ⟨.bool ((l.length : Int) == (n : Int)), ?_, hbut, ?_⟩
    · simp [results, Tryd.f25, go_sem, hc5]
    · by_cases hn : l.length = n
      · left
        refine ⟨l, hn, by rw [← hys, hpre], by rw [hn]; simp, ?_⟩
        rw [hn, List.drop_eq_nil_of_le (by omega), List.append_nil] at hgg
        rw [hn]
        exact hgg
      · right
        refine ⟨fun l' hl' he => hn ?_, by rw [beq_eq_false_iff_ne.2 (by omega)]⟩
        have h1 := congrArg List.length (hys.symm.trans hpre)
        rw [he] at h1
        rw [List.length_map, List.length_map] at h1
        omega
  case stop =>
    rintro D c pre W hD hpre ⟨rfl, ⟨L, k, hRE⟩, hbad⟩ hK
    gi_wp2
    refine ⟨by simp, .inl ⟨_, _, rfl, run_takeDeferred hK, ?_⟩⟩
    have hc5 := cell_kept (hRE.h3.cell 0) (grownBy_putObj' _ D (.deferred none)) (fun r e => by cases e; exact ⟨_, hK, rfl⟩)
    have hbut : ButB g w.heap.size w (W.putObj D (.deferred none)) := hRE.but.grown (grownBy_putObj' _ D _) (fun r e => by cases e; omega) hRE.but.size
    refine ⟨.bool false, ?_, hbut, Or.inr ⟨fun l' hl' he => ?_, rfl⟩⟩
    · simp [results, Tryd.f25, go_sem, hc5]
    · rw [he] at hpre
      rcases hbad with hbad | ⟨x, hx, hbad⟩
      · have := hpre.length_le
        rw [List.length_map, List.length_map] at this
        omega
      · obtain ⟨b, _, hbx⟩ := List.mem_map.1 (hpre.subset (List.mem_map.2 ⟨x, hx, rfl⟩))
        exact hbad b hbx.symm
theorem read_any (f : FuncId) (T : UInt8 → List UInt8) (m : UInt8) (base : Nat) (hb : base = 10 ∨ base = 16) (g : Nat) (t : TypeId) (init : List UInt8) (n : Nat) (hil : init.length = n) (hn2 : n ≤ 16) (s : ByteArray) (hs : s.size ≤ 1000000) (w : World)
    (hen : ∀ args w, (callFunc f args).run Tryd.prog w = .ok (.enter f args) w) (hg : Has w g t (bs init))
    (hE : ∀ W, ButB g w.heap.size w W → HasE W)
    (hT : ∀ b W, ButB g w.heap.size w W → Calls Tryd.prog f #[B8 b] W fun e w' => e = .returned (S9 (T b)) ∧ Below W.heap.size W w')
    (hcan : ∀ b, puS base (T b) = some b.toNat) :
    Calls Tryd.prog 25 #[.slice (some ⟨g, 0, none⟩) n n, .string s, .string ⟨#[m]⟩, .int .i64 (base : Int), .func (.func f) #[] #[]] w fun e w' =>
      ButB g w.heap.size w w' ∧ ((∃ l : List UInt8, l.length = n ∧ splitL m s.data.toList = l.map T ∧ e = .returned (.bool true) ∧ Has w' g t (bs l)) ∨
        ((∀ l : List UInt8, l.length = n → splitL m s.data.toList ≠ l.map T) ∧ e = .returned (.bool false))) :=
  callsIn_wide.1 (read_in f T m base hb g t init n hil hn2 s hs w hen hg hE hT hcan)
end Go.Proofs.YtbeeebnocliaiaaDoor
