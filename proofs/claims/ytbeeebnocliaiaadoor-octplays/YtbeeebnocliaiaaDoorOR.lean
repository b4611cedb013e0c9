/- strconv.ParseUint at the bases 10 and 16, for numbers of a byte: walked. -/
import Derived.Test.YtbeeebnocliaiaaDoorOQ
import Derived.Test.YtbeeebnocliaiaaDoorSU
namespace Go.Proofs.YtbeeebnocliaiaaDoor
open Go.RowKit
/-- the two errors' variables (the seat's numbers 0 and 1) hold values of an error's type -/
def HasE (w : World) : Prop := (∃ t p, w.cell? ⟨0, 0, none⟩ = some (.iface t p)) ∧ ∃ t p, w.cell? ⟨1, 0, none⟩ = some (.iface t p)
theorem HasE.below {w w' : World} (h : HasE w) (hb : Below w.heap.size w w') : HasE w' := by
  obtain ⟨⟨t0, p0, h0⟩, t1, p1, h1⟩ := h
  exact ⟨⟨t0, p0, (hb.cell (Lib.lt_of_cell h0)).trans h0⟩, t1, p1, (hb.cell (Lib.lt_of_cell h1)).trans h1⟩
/-- the number that a text makes, if it is below 256 -/
def puS (b : Nat) (l : List UInt8) : Option Nat := if l = [] then none else puL b 0 l
def PsOut (o : Option Nat) (e : Ending) : Prop :=
  (∃ u : Nat, o = some u ∧ e = .returned (.tuple #[.int .u64 (u : Int), .nilIface])) ∨ (o = none ∧ ∃ (v : Int) (N : Nat), e = .returned (.tuple #[.int .u64 v, .iface 78 (.pointer (some ⟨N, 0, none⟩))]))
set_option maxRecDepth 20000 in
set_option maxHeartbeats 2000000 in
theorem empty_any (b : Int) (w : World) :
    Calls Tryd.prog 37 #[.string ⟨#[]⟩, .int .i64 b, .int .i64 8] w fun e w' => e = .returned (.tuple #[.int .u64 0, .iface 76 (.int .i64 2)]) ∧ w' = w := by
  go_enter Tryd.func37, Tryd.ntmps37
  go_wp2
  go_ret2
  exact ⟨rfl, rfl⟩
theorem inner_any (b : Nat) (hb : b = 10 ∨ b = 16) (t : ByteArray) (hmax : t.size ≤ 9223372036854775806) (w : World) :
    Calls Tryd.prog 37 #[.string t, .int .i64 (b : Int), .int .i64 8] w fun e w' => PuOut (puS b t.data.toList) e ∧ Below w.heap.size w w' := by
  by_cases h0 : t.size = 0
  · obtain rfl : t = ⟨#[]⟩ := by
      apply ByteArray.ext
      exact Array.eq_empty_of_size_eq_zero h0
    exact (empty_any (b : Int) w).mono fun e w' h => by
      obtain ⟨rfl, rfl⟩ := h
      exact ⟨PuOut.bad rfl _ _ (Or.inr rfl), Below.refl _ _⟩
  · have hne : t.data.toList ≠ [] := fun h => h0 (by have := congrArg List.length h; exact this)
    have e : puS b t.data.toList = puL b 0 t.data.toList := if_neg hne
    rw [e]
    rcases hb with rfl | rfl
    · exact parse10_any t h0 hmax w
    · exact parse16_any t h0 hmax w
set_option maxRecDepth 20000 in
set_option maxHeartbeats 2000000 in
theorem parse_any (b : Nat) (hb : b = 10 ∨ b = 16) (t : ByteArray) (hmax : t.size ≤ 281474976710656) (w : World) (hE : HasE w) :
    Calls Tryd.prog 32 #[.string t, .int .i64 (b : Int), .int .i64 8] w fun e w' => PsOut (puS b t.data.toList) e ∧ Below w.heap.size w w' := by
  have hI := inner_any b hb t (by omega) w
  generalize puS b t.data.toList = o at hI ⊢
  have HI := Lib.hid hI
  clear hI hb
  go_enter Tryd.func32, Tryd.ntmps32
  go_wp2_with fail
  refine HI.out.mono ?_
  rintro e w1 ⟨he, hb1⟩
  clear HI
  rcases he with ⟨u, rfl, rfl⟩ | ⟨rfl, v, k, hk, rfl⟩
  · go_wp2
    go_ret2
    exact ⟨Or.inl ⟨u, rfl, rfl⟩, hb1⟩
  · obtain ⟨⟨t0, p0, h0⟩, t1, p1, h1⟩ := hE.below hb1
    rcases hk with rfl | rfl
    · have hc := AnyPu.strconv_toError_range { puS_laysPu14 with } ⟨#[80, 97, 114, 115, 101, 85, 105, 110, 116]⟩ t b 8 _ w1 hmax h1 (Or.inr ⟨_, _, rfl⟩)
      have HC := Lib.hid hc
      clear hc h0 h1
      go_wp2_with (go_at_call 38; refine HC.out.mono ?_; rintro e w2 ⟨N, rfl, _, _, hb2⟩)
      go_ret2
      exact ⟨Or.inr ⟨rfl, v, N, rfl⟩, hb1.trans (hb2.mono hb1.size)⟩
    · have hc := AnyPu.strconv_toError_syntax { puS_laysPu14 with } ⟨#[80, 97, 114, 115, 101, 85, 105, 110, 116]⟩ t b 8 _ w1 hmax h0 (Or.inr ⟨_, _, rfl⟩)
      have HC := Lib.hid hc
      clear hc h0 h1
      go_wp2_with (go_at_call 38; refine HC.out.mono ?_; rintro e w2 ⟨N, rfl, _, _, hb2⟩)
      go_ret2
      exact ⟨Or.inr ⟨rfl, v, N, rfl⟩, hb1.trans (hb2.mono hb1.size)⟩
end Go.Proofs.YtbeeebnocliaiaaDoor
