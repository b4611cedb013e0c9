/- What a row's listed variables give: the table of powers of ten, the two errors. -/
import Derived.Test.YtbeeebnocliaiaaDoorOR
import Derived.Test.YtbeeebnocliaiaaDoorCards
import Derived.Test.YtbeeebnocliaiaaDoorTie
import Derived.Test.YtbeeebnocliaiaaDoorMP
import Derived.Lib.LaidTab
import Derived.Stop.LaidErr
import Derived.Lay
import Derived.MakeChecks
namespace Go.Proofs.YtbeeebnocliaiaaDoor
open Go.RowKit
theorem gT : Tryd.prog.globalNamed "internal/strconv.uint64pow10" = some 3 := by kernel_rfl
theorem gTT : (Tryd.prog.globals[3]?).map (·.type) = some 102 := by kernel_rfl
theorem gS : Tryd.prog.globalNamed "strconv.ErrSyntax" = some 0 := by kernel_rfl
theorem gST : (Tryd.prog.globals[0]?).map (·.type) = some 60 := by kernel_rfl
theorem gR : Tryd.prog.globalNamed "strconv.ErrRange" = some 1 := by kernel_rfl
theorem gRT : (Tryd.prog.globals[1]?).map (·.type) = some 60 := by kernel_rfl
theorem cellsT : Tryd.prog.cellsOf 102 = 20 := by kernel_rfl
theorem cellsU : Tryd.prog.cellsOf 55 = 1 := by kernel_rfl
theorem cellsE : Tryd.prog.cellsOf 100 = 1 := by kernel_rfl
theorem cellsS : Tryd.prog.cellsOf 9 = 1 := by kernel_rfl
theorem starE : "*" ++ "errors.errorString" = "*errors.errorString" := by decide
theorem rowE (u : TypeId) (h : Tryd.prog.typeName? 3 u = some "*errors.errorString") : u = 98 :=
  typeName_ptr_named (nm := "errors.errorString") (by rw [starE]; kernel_rfl) (by kernel_rfl) (by decide) u (by rw [starE]; exact h)
theorem hasT_of {W : World} {r : List (String × DataW Unit)} (h : laidMet Tryd.prog (("internal/strconv.uint64pow10", Rows.laid_internal_strconv_uint64pow10) :: r) W) : HasT W :=
  Lib.tabIs_of_head (rest := r) gT gTT Tryd.underlying102 Tryd.underlying55 cellsU cellsT h
theorem texts_laid {W : World} (h : laidMetH Tryd.prog Rows.octTextsRow.laid W) : HasT W := by
  rw [MakeChecks.laidMetH_plain _ _ _ (by kernel_rfl)] at h
  exact hasT_of h.tail.tail
theorem five_laid {W : World} (h : laidMetH Tryd.prog Rows.octBackRow.laid W) : HasT W ∧ HasE W := by
  rw [MakeChecks.laidMetH_plain _ _ _ (by kernel_rfl)] at h
  have h3 := h.tail.tail
  refine ⟨hasT_of h3, ?_⟩
  obtain ⟨a0, s0, hv0, -, -, -⟩ := laid_sentinel h3.tail gR gRT Tryd.underlying60 rowE Tryd.underlying98 Tryd.underlying100 rfl rfl Tryd.underlying9 cellsE cellsS
  obtain ⟨a1, s1, hv1, -, -, -⟩ := laid_sentinel h3.tail.tail gS gST Tryd.underlying60 rowE Tryd.underlying98 Tryd.underlying100 rfl rfl Tryd.underlying9 cellsE cellsS
  have c0 : W.cell? ⟨0, 0, none⟩ = some (.iface 98 (.pointer (some a1))) := by have h0 := World.var?_cell gS hv1 0; simpa using h0
  have c1 : W.cell? ⟨1, 0, none⟩ = some (.iface 98 (.pointer (some a0))) := by have h0 := World.var?_cell gR hv0 0; simpa using h0
  exact ⟨⟨_, _, c0⟩, _, _, c1⟩
end Go.Proofs.YtbeeebnocliaiaaDoor
