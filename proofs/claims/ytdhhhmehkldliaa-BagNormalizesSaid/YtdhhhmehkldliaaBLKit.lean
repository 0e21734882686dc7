/-
  A small word for the walks of the laws of layer 6.
-/
import Derived.Test.YtdhhhmehkldliaaBKnown
import Derived.Test.YtdhhhmehkldliaaBAlg
import Derived.Test.YtdhhhmehkldliaaBLaw
import Derived.Test.YtdhhhmehkldliaaBTable
set_option linter.unusedVariables false
namespace Go.Proofs.Ytdhhhmehkldliaa
open Go.RowKit Wh

theorem errTo {f : Nat} {args : Array Value} {w : World} {o o' : List En × Int} (h : Calls Try.prog f args w (EntsErr w o)) (e : o = o') : Calls Try.prog f args w (EntsErr w o') := e ▸ h

/-- A call that returns entries and no error. -/
theorem errOk {f : Nat} {args : Array Value} {w : World} {o : List En × Int} {es : List En} (h : Calls Try.prog f args w (EntsErr w o)) (e : o = (es, 0)) :
    Calls Try.prog f args w fun e w' => ∃ sv : Value, e = .returned (.tuple #[sv, .int .i64 0]) ∧ OwnEnts w' w.heap.size sv es ∧ Below w.heap.size w w' := by
  subst e
  exact h

end Go.Proofs.Ytdhhhmehkldliaa
