/- What the proofs of this seat's laws share: the table of constants out of the row's list, arguments opened and shut again. -/
import Derived.Test.YtolipnjlbdbofaaDoorCards
import Derived.Test.YtolipnjlbdbofaaDoorTie
import Derived.Test.YtolipnjlbdbofaaDoorF
import Derived.WalkKit
import Derived.ProofKit
import Derived.OpenShut
import Derived.Deep.DeepHandedRow
import Derived.Lib.LaidTab
namespace Go.Proofs.YtolipnjlbdbofaaDoor
open Go.ChangeShapes Go.WideShapes Go.ChangeAt Go.RowKit

theorem own : ownKnob Tryd.prog.godebug = none := by kernel_rfl
theorem gTab : Tryd.prog.globalNamed "causey/sha.constants" = some 0 := by kernel_rfl
theorem gTabType : (Tryd.prog.globals[0]?).map (·.type) = some 39 := by kernel_rfl
theorem cellsW64 : Tryd.prog.cellsOf 39 = 64 := by kernel_rfl
theorem cellsW8 : Tryd.prog.cellsOf 41 = 8 := by kernel_rfl
theorem cellsW : Tryd.prog.cellsOf 38 = 1 := by kernel_rfl
def kInts : List Int := [1116352408, 1899447441, 3049323471, 3921009573, 961987163, 1508970993, 2453635748, 2870763221, 3624381080, 310598401, 607225278, 1426881987, 1925078388, 2162078206, 2614888103, 3248222580, 3835390401, 4022224774, 264347078, 604807628, 770255983, 1249150122, 1555081692, 1996064986, 2554220882, 2821834349, 2952996808, 3210313671, 3336571891, 3584528711, 113926993, 338241895, 666307205, 773529912, 1294757372, 1396182291, 1695183700, 1986661051, 2177026350, 2456956037, 2730485921, 2820302411, 3259730800, 3345764771, 3516065817, 3600352804, 4094571909, 275423344, 430227734, 506948616, 659060556, 883997877, 958139571, 1322822218, 1537002063, 1747873779, 1955562222, 2024104815, 2227730452, 2361852424, 2428436474, 2756734187, 3204031479, 3329325298]
theorem kk_ints : kInts = kk.map fun x => (x.toNat : Int) := by decide +kernel
/-- the table's cells hold its 64 numbers -/
theorem hasK_of {W : World} (h : laidMetH Tryd.prog [("causey/sha.constants", Rows.laid_causey_sha_constants)] W) : HasK W := by
  have ht : Lib.TabIs Tryd.prog W "causey/sha.constants" .u32 kInts := Lib.tabIs_of_head (rest := []) gTab gTabType Tryd.underlying39 Tryd.underlying38 cellsW cellsW64 h
  intro i hi
  have hl : kk.length = 64 := by decide +kernel
  rw [kk_ints] at ht
  have := ht.cell gTab i (by simpa using (by omega : i < kk.length))
  rw [this]
  simp [List.getD_eq_getElem?_getD, show i < kk.length from by omega]

theorem list8 {α : Type} (l : List α) (h : (⟨l⟩ : Array α).size = 8) : ∃ a b c d e f g h, l = [a, b, c, d, e, f, g, h] := by
  match l, h with
  | [a, b, c, d, e, f, g, h], _ => exact ⟨a, b, c, d, e, f, g, h, rfl⟩
section
variable {H : Type} {enc : TypeId × Value → H} {W : World} {base : Nat} {spare : Nat → Bool} {held : Bool}
/-- eight words as data -/
def d8 (v : W8) : DataW H := .agg (v.l.map fun x => .lit (.int .u32 (x.toNat : Int)))
theorem word_of {fuel : Nat} {c : Value} {y : DataW H × List MemPlace} (h : DataW.trod enc Tryd.prog W base spare held fuel 38 [c] = some y) : ∃ x : UInt32, c = W32 x ∧ y = (.lit (.int .u32 (x.toNat : Int)), []) := by
  obtain ⟨n, hc, hy, hw⟩ := DataW.trod_int Tryd.underlying38 h
  have hb := bounds_u32 hw
  simp only [List.cons.injEq, and_true] at hc
  obtain ⟨m, rfl⟩ := Int.eq_ofNat_of_zero_le hb.1
  have hm : (UInt32.ofNat m).toNat = m := by rw [UInt32.toNat_ofNat']; exact Nat.mod_eq_of_lt (by omega)
  exact ⟨UInt32.ofNat m, by rw [hc]; unfold W32; rw [hm], by rw [hy, hm]⟩
theorem open_w8 {b0 : Nat} {v : Value} {d : DataW H} {p : List MemPlace} (hv : Value.okWide Tryd.prog W .any b0 41 v) (h : DataW.Trod enc Tryd.prog W base spare held 41 v d p) : ∃ x : W8, v = .agg (c8 x) ∧ d = d8 x ∧ p = [] := by
  obtain ⟨cs, rfl, hsz, _⟩ : ∃ cs, v = .agg cs ∧ cs.size = Tryd.prog.cellsOf 41 ∧ Row.okWide Tryd.prog W .any b0 41 cs := by
    simpa [Value.okWide, Tryd.underlying41] using hv
  rw [cellsW8] at hsz
  obtain ⟨l⟩ := cs
  obtain ⟨c0, c1, c2, c3, c4, c5, c6, c7, rfl⟩ := list8 l hsz
  obtain ⟨fuel, hf⟩ := h
  obtain ⟨xs, m, _, hx, _, hlen, hg⟩ := DataW.trod_array Tryd.underlying41 hf
  rw [cellsW] at hg
  obtain ⟨y0, y1, y2, y3, y4, y5, y6, y7, rfl⟩ := list8 xs (by simpa using hlen)
  obtain ⟨x0, rfl, rfl⟩ := word_of (by simpa [Value.cells] using hg 0 (by omega))
  obtain ⟨x1, rfl, rfl⟩ := word_of (by simpa [Value.cells] using hg 1 (by omega))
  obtain ⟨x2, rfl, rfl⟩ := word_of (by simpa [Value.cells] using hg 2 (by omega))
  obtain ⟨x3, rfl, rfl⟩ := word_of (by simpa [Value.cells] using hg 3 (by omega))
  obtain ⟨x4, rfl, rfl⟩ := word_of (by simpa [Value.cells] using hg 4 (by omega))
  obtain ⟨x5, rfl, rfl⟩ := word_of (by simpa [Value.cells] using hg 5 (by omega))
  obtain ⟨x6, rfl, rfl⟩ := word_of (by simpa [Value.cells] using hg 6 (by omega))
  obtain ⟨x7, rfl, rfl⟩ := word_of (by simpa [Value.cells] using hg 7 (by omega))
  simp only [Prod.mk.injEq] at hx
  exact ⟨⟨x0, x1, x2, x3, x4, x5, x6, x7⟩, rfl, by rw [hx.1]; rfl, by rw [hx.2]; rfl⟩
theorem wf32 (x : UInt32) : (Lit.int .u32 (x.toNat : Int)).wf = true := by
  have := lt32 x
  simp [Lit.wf, IntKind.min, IntKind.max, IntKind.signed, IntKind.bits]; omega
theorem shut_w8 (x : W8) : DataW.Trod enc Tryd.prog W base spare held 41 (.agg (c8 x)) (d8 x) [] := by
  refine ⟨2, ?_⟩
  have r8 : List.range 8 = [0, 1, 2, 3, 4, 5, 6, 7] := rfl
  show DataW.trod enc Tryd.prog W base spare held 2 41 (Value.cells (.agg #[W32 x.a, W32 x.b, W32 x.c, W32 x.d, W32 x.e, W32 x.f, W32 x.g, W32 x.h])).toList = _
  simp [DataW.trod, Value.cells, Tryd.underlying41, Tryd.underlying38, cellsW8, cellsW, r8, wf32, d8, W8.l]
end
/-- where no argument reaches memory: what a call leaves that turns nothing that was there -/
theorem post_bare {H : Type} {enc : TypeId × Value → H} {P : Program} {f : Func} {s : ChangeSpec} {apart fresh handsOn again : Bool} {W W' : World} {args : Array Value} {v : Value} {ds gs : List (DataW H)}
    (hW : DataW.Whole enc P f.params.toList s.vars apart W args.toList ds gs [])
    (hres : ∀ (b : Nat) (sp : Nat → Bool) (hd : Bool), DataW.TrodAll enc P W' b sp hd f.resultTypes.toList (v.resultList f.resultTypes.size) (s.fn H (ds ++ gs)).results [])
    (hargs : ∀ sp : Nat → Bool, DataW.TrodAll enc P W' 0 sp true f.params.toList args.toList (s.fn H (ds ++ gs)).args [])
    (hvars : ∀ sp : Nat → Bool, DataW.TrodVars enc P W' sp s.vars (s.fn H (ds ++ gs)).vars [])
    (hb : Below W.heap.size W W')
    (hok : ∀ (j : Nat) (t : TypeId) (r : Value), f.resultTypes[j]? = some t → (v.resultList f.resultTypes.size)[j]? = some r → Value.okWide P W' .any 0 t r) :
    s.post enc P f apart fresh handsOn again W args v W' := by
  refine ⟨ds, gs, [], [], [], [], hW, hres _ _ _, hargs _, hvars _, World.keptBut_mono (fun p hp => absurd hp (by simp)) (hb.frame (· ∈ ([] : List MemPlace))), fun _ => ?_⟩
  refine ⟨hok, _, _, ([] ++ []) ++ [], ⟨[] ++ [], [], trodAll_append (hargs _) (hres _ _ _), hvars _, rfl, ?_, ?_⟩, ?_⟩
  · intro b off hp; simp at hp
  · intro _; simp
  · intro p hp; simp at hp
/-- the settled world, the table holding what its initialiser lays -/
noncomputable def laidWorld (os : Os) : World :=
  { World.holding Tryd.prog os ⟨#[], #[], []⟩ with heap := (World.holding Tryd.prog os ⟨#[], #[], []⟩).heap.modify 0 fun
      | .cells _ t frozen => .cells #[.int .u32 1116352408, .int .u32 1899447441, .int .u32 3049323471, .int .u32 3921009573, .int .u32 961987163, .int .u32 1508970993, .int .u32 2453635748, .int .u32 2870763221, .int .u32 3624381080, .int .u32 310598401, .int .u32 607225278, .int .u32 1426881987, .int .u32 1925078388, .int .u32 2162078206, .int .u32 2614888103, .int .u32 3248222580, .int .u32 3835390401, .int .u32 4022224774, .int .u32 264347078, .int .u32 604807628, .int .u32 770255983, .int .u32 1249150122, .int .u32 1555081692, .int .u32 1996064986, .int .u32 2554220882, .int .u32 2821834349, .int .u32 2952996808, .int .u32 3210313671, .int .u32 3336571891, .int .u32 3584528711, .int .u32 113926993, .int .u32 338241895, .int .u32 666307205, .int .u32 773529912, .int .u32 1294757372, .int .u32 1396182291, .int .u32 1695183700, .int .u32 1986661051, .int .u32 2177026350, .int .u32 2456956037, .int .u32 2730485921, .int .u32 2820302411, .int .u32 3259730800, .int .u32 3345764771, .int .u32 3516065817, .int .u32 3600352804, .int .u32 4094571909, .int .u32 275423344, .int .u32 430227734, .int .u32 506948616, .int .u32 659060556, .int .u32 883997877, .int .u32 958139571, .int .u32 1322822218, .int .u32 1537002063, .int .u32 1747873779, .int .u32 1955562222, .int .u32 2024104815, .int .u32 2227730452, .int .u32 2361852424, .int .u32 2428436474, .int .u32 2756734187, .int .u32 3204031479, .int .u32 3329325298] t frozen
      | o => o }
end Go.Proofs.YtolipnjlbdbofaaDoor
