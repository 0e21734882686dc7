/-
  From the row's condition on the program's table to what the walks ask.
-/
import Derived.Test.YtfeaflbohfclmaaDoorGLift
import Derived.Test.YtfeaflbohfclmaaDoorCLeaf
import Derived.Lib.LaidTab
import Derived.LaidMore
set_option linter.unusedVariables false
namespace Go.Proofs.YtfeaflbohfclmaaDoor
open Go.RowKit Wh

/-- The table's name, as the given rows spell it. -/
abbrev tabOf : String := Rows.civilDaysRow.named.headD default

theorem tabName : Tryd.prog.globalNamed tabOf = some 0 := by kernel_rfl
theorem tabType : (Tryd.prog.globals[0]?).map (·.type) = some 47 := by kernel_rfl

theorem tab_of {rest : List (String × DataW Unit)} {W : World} (h : laidMet Tryd.prog ((tabOf, Rows.laid_warehouse_civil_monthLengths) :: rest) W) : Tab W := by
  have hT := Lib.tabIs_of_head (k := .i64) (zs := tab) tabName tabType Tryd.underlying47 Tryd.underlying3 (by kernel_rfl) (by kernel_rfl) h
  have hc : ∀ i : Nat, i < 12 → W.cell? ⟨0, i, none⟩ = some (.int .i64 (tab.getD i 0)) := fun i hi => hT.cell tabName i hi
  exact ⟨World.block_lt_of_cell? W _ (hc 0 (by omega)), hc⟩

theorem tab_laid {W : World} (h : laidMetH Tryd.prog [(tabOf, Rows.laid_warehouse_civil_monthLengths)] W) : Tab W := by
  rw [MakeChecks.laidMetH_plain _ _ _ (by kernel_rfl)] at h
  exact tab_of h

end Go.Proofs.YtfeaflbohfclmaaDoor
