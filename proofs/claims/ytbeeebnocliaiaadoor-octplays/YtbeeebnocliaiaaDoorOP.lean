/- internal/strconv.ParseUint at the bases 10 and 16, for numbers of a byte: walked. -/
import Derived.Test.YtbeeebnocliaiaaDoorOI
import Derived.Lib.ConvBytes
import Derived.Laws.Strings3
import Derived.Laws.Closers25
import Derived.Laws.Closers25b
import Derived.BigCall
import Derived.BigGuard
namespace Go.Proofs.YtbeeebnocliaiaaDoor
open Go.RowKit
/-- a sign's number as a digit: 255, where it is none -/
def dg (c : UInt8) : Nat := if 48 ≤ c.toNat ∧ c.toNat ≤ 57 then c.toNat - 48 else if 97 ≤ (c ||| 32).toNat ∧ (c ||| 32).toNat ≤ 122 then (c ||| 32).toNat - 87 else 255
/-- the number that signs make behind acc, if it is below 256 all the way -/
def puL (b acc : Nat) : List UInt8 → Option Nat
  | [] => some acc
  | c :: r => if dg c < b then (if acc * b + dg c ≤ 255 then puL b (acc * b + dg c) r else none) else none
theorem puL_le (b acc : Nat) (l : List UInt8) (u : Nat) (ha : acc ≤ 255) (h : puL b acc l = some u) : u ≤ 255 := by
  induction l generalizing acc with
  | nil => cases h; exact ha
  | cons c r ih =>
    unfold puL at h
    split at h
    · split at h
      · rename_i h2
        exact ih _ h2 h
      · cases h
    · cases h
/-- what a call answers: the number, or an error -/
def PuOut (o : Option Nat) (e : Ending) : Prop :=
  (∃ u : Nat, o = some u ∧ e = .returned (.tuple #[.int .u64 (u : Int), .nilIface])) ∨ (o = none ∧ ∃ v k : Int, (k = 1 ∨ k = 2) ∧ e = .returned (.tuple #[.int .u64 v, .iface 76 (.int .i64 k)]))
theorem PuOut.bad {o : Option Nat} (h : o = none) (v k : Int) (hk : k = 1 ∨ k = 2) : PuOut o (.returned (.tuple #[.int .u64 v, .iface 76 (.int .i64 k)])) := Or.inr ⟨h, v, k, hk, rfl⟩
theorem PuOut.good {o : Option Nat} {u : Nat} (h : o = some u) : PuOut o (.returned (.tuple #[.int .u64 (u : Int), .nilIface])) := Or.inl ⟨u, h, rfl⟩
set_option maxRecDepth 20000 in
theorem lower_any (c : UInt8) (w : World) :
    Calls Tryd.prog 44 #[B8 c] w fun e w' => e = .returned (.int .u8 ((c ||| 32).toNat : Int)) ∧ w' = w := by
  have hc := UInt8.toNat_lt c
  have h : bits .or .u8 (c.toNat : Int) 32 = ((c ||| 32).toNat : Int) := by
    have h1 := u8_or_nat c.toNat 32 (by omega) (by omega)
    rw [show ((32 : Nat) : Int) = 32 from rfl] at h1
    rw [h1, UInt8.toNat_or]
    rfl
  go_enter Tryd.func44, Tryd.ntmps44
  go_wp2
  go_ret
  exact ⟨by rw [UInt8.toNat_or]; rfl, rfl⟩
end Go.Proofs.YtbeeebnocliaiaaDoor
