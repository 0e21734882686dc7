/-
  A small word for the walks of the laws of layer 6.
-/
import Derived.Test.YtdhhhmehkldliaaBKnown
import Derived.Test.YtdhhhmehkldliaaBLaw
import Derived.Test.YtdhhhmehkldliaaBTable
set_option linter.unusedVariables false
namespace Go.Proofs.Ytdhhhmehkldliaa
open Go.RowKit Wh

theorem errTo {f : Nat} {args : Array Value} {w : World} {o o' : List En × Int} (h : Calls Try.prog f args w (EntsErr w o)) (e : o = o') : Calls Try.prog f args w (EntsErr w o') := e ▸ h

end Go.Proofs.Ytdhhhmehkldliaa
