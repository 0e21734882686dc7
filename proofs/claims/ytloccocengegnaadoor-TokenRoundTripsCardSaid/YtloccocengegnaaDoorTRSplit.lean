/-
  Split, of the reference.
-/
import Derived.Test.YtloccocengegnaaDoorTRTx
import Derived.Test.YtloccocengegnaaDoorTPMore
set_option linter.unusedVariables false
set_option maxRecDepth 100000
namespace Wh
open Go Go.Proofs.YtloccocengegnaaDoor

theorem skipG_le : ∀ (l : List UInt8) (c : Bool), skipG c l ≤ l.length
  | [], c => Nat.le_refl _
  | x :: l, c => by
    have h1 := skipG_le l (decide (x.toNat ≠ 10))
    have h2 := skipG_le l false
    have h3 := skipG_le l true
    unfold skipG
    simp only [List.length_cons]
    split
    · omega
    · split
      · omega
      · split
        · omega
        · omega
theorem skip_le {s : ByteArray} {i : Nat} (c : Bool) (h : i ≤ s.size) : skipN s c i ≤ s.size := by
  unfold skipN
  have := skipG_le ((bts s).drop i) c
  rw [List.length_drop, bts_length] at this
  omega

end Wh
namespace Go.Proofs.YtloccocengegnaaDoor
open Go.RowKit Wh

end Go.Proofs.YtloccocengegnaaDoor

