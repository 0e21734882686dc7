/-
  For every layer: rows of bytes that the call makes, and texts out of them.
-/
import Derived.Test.YtloccocengegnaaDoorGOwn
import Derived.Test.YtloccocengegnaaDoorGStr
import Derived.Laws.BytesArg
set_option linter.unusedVariables false
namespace Go.Proofs.YtloccocengegnaaDoor
open Go.RowKit Wh

def byC (l : List UInt8) : List Value := l.map fun x => .int .u8 x.toNat
theorem byC_push (l : List UInt8) (x : UInt8) (c : Int) (h : c = x.toNat) : byC l ++ [.int .u8 c] = byC (l ++ [x]) := by
  subst h
  simp [byC]
theorem info_u8 : (Tryd.prog.info? 5).map (fun i => (i.zero, i.size, i.bytes)) = some (some (.int .u8 0), 1, 1) := by kernel_rfl

/-- 'string(b)' of a row that the call owns. -/
theorem conv_own {w : World} {base n g cap : Nat} {l : List UInt8} (h : w.ownsRow base 5 1 (.slice (some ⟨g, 0, none⟩) n cap) n (byC l)) (hn : l.length = n) :
    (convert 54 9 (.slice (some ⟨g, 0, none⟩) n cap)).run Tryd.prog w = .ok (.string ⟨l.toArray⟩) w := by
  refine conv_str hn fun j x hx => ?_
  have hk := (List.getElem?_eq_some_iff.1 hx).1
  rw [Nat.zero_add, h.cellAt j (by omega)]
  unfold byC
  rw [List.getElem?_map, hx]
  rfl
theorem conv_nil (w : World) : (convert 54 9 (.slice none 0 0)).run Tryd.prog w = .ok (.string ⟨#[]⟩) w := by
  exact run_convert_bytes_nil w 54 5 Tryd.underlying54 Tryd.underlying5 0 0 _ Tryd.underlying9

end Go.Proofs.YtloccocengegnaaDoor

