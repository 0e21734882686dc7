/-
  No cell of these rows narrows 'for every input' (looked for: loops, veiled, ifaces, maps, wideKeys, modest, calm, conditions, laid).
  DERIVED. THE GIVEN ROWS OF THIS SEAT. 7 by the template 'for every input the law returns true; each argument reads behind the call as it read before'; 0 by the template 'total and deterministic' (their statements: YtknpjfmpflbcfaaTotals.lean).
  GIVEN WITH THE SEED: the statements are not yours to turn. If you find one false, say at which input.
  Laid BY PROGRAM, IN A SANDBOX (cutbox-rows.mjs): the forced cells as the released guide's own fill.sh prints them over the translation 606acdca02077227… (all of the seat's roots in one cut). By AI agents, Wed Nov 11 2026. No macro, syntax, notation, axiom, sorry.
-/
import Derived.Test.YtknpjfmpflbcfaaChecked
import GoSem.Claim
import GoSem.ClaimJoined
import GoSem.ClaimMapViews
import Derived.JoinedTies
import Derived.KernelRfl
namespace Go.Proofs.Ytknpjfmpflbcfaa
/- THE CELL 'sum', in the pinned program and in every row, IS THE sha256 OF THE DUMP (.gsa) THAT YtknpjfmpflbcfaaProg.lean LOADS. Nothing in Lean hashes anything: it is a label: what it is worth is what the hold of that sum in a sandbox is worth. -/
noncomputable def Try.pinned : Pinned := { name := "ytknpjfmpflbcfaa", sum := "606acdca02077227fb989e94894c2c6112064fa13a0ecf29ccd50ca01b059b06", checked := Try.checked }
namespace Rows
def none {H : Type} : Left H := { results := [], args := [] }

/-- 'warehouselaw2.ExactAdds': WHATEVER THE INPUT: true; the input reads as it did. -/
def exactAddsSpec : ChangeSpec := { name := "exactAdds", fn := fun _ => fun
  | [d1, d2] => { results := [.lit (.bool true)], args := [d1, d2] }
  | _ => none }
def exactAddsRow : OpenClaim := { program := "ytknpjfmpflbcfaa", sum := "606acdca02077227fb989e94894c2c6112064fa13a0ecf29ccd50ca01b059b06", func := "warehouse/warehouselaw2.ExactAdds", spec := "exactAdds", apart := false }
def ExactAddsSaid : Prop := exactAddsRow.holds Try.pinned (OpenSpec.ofChange exactAddsSpec)

/-- ITS FALSE NEIGHBOUR: 'it returns false'. Refute it at one input. -/
def exactAddsWrong : ChangeSpec := { name := "exactAdds", fn := fun _ => fun
  | [d1, d2] => { results := [.lit (.bool false)], args := [d1, d2] }
  | _ => none }
def ExactAddsWrongFalsely : Prop := exactAddsRow.holds Try.pinned (OpenSpec.ofChange exactAddsWrong)

/-- 'warehouselaw2.ExactDivides': WHATEVER THE INPUT: true; the input reads as it did. -/
def exactDividesSpec : ChangeSpec := { name := "exactDivides", fn := fun _ => fun
  | [d1, d2] => { results := [.lit (.bool true)], args := [d1, d2] }
  | _ => none }
def exactDividesRow : OpenClaim := { program := "ytknpjfmpflbcfaa", sum := "606acdca02077227fb989e94894c2c6112064fa13a0ecf29ccd50ca01b059b06", func := "warehouse/warehouselaw2.ExactDivides", spec := "exactDivides", apart := false }
def ExactDividesSaid : Prop := exactDividesRow.holds Try.pinned (OpenSpec.ofChange exactDividesSpec)

/-- ITS FALSE NEIGHBOUR: 'it returns false'. Refute it at one input. -/
def exactDividesWrong : ChangeSpec := { name := "exactDivides", fn := fun _ => fun
  | [d1, d2] => { results := [.lit (.bool false)], args := [d1, d2] }
  | _ => none }
def ExactDividesWrongFalsely : Prop := exactDividesRow.holds Try.pinned (OpenSpec.ofChange exactDividesWrong)

/-- 'warehouselaw2.ExactSums': WHATEVER THE INPUT: true; the input reads as it did. -/
def exactSumsSpec : ChangeSpec := { name := "exactSums", fn := fun _ => fun
  | [d1, d2] => { results := [.lit (.bool true)], args := [d1, d2] }
  | _ => none }
def exactSumsRow : OpenClaim := { program := "ytknpjfmpflbcfaa", sum := "606acdca02077227fb989e94894c2c6112064fa13a0ecf29ccd50ca01b059b06", func := "warehouse/warehouselaw2.ExactSums", spec := "exactSums", apart := false }
def ExactSumsSaid : Prop := exactSumsRow.holds Try.pinned (OpenSpec.ofChange exactSumsSpec)

/-- ITS FALSE NEIGHBOUR: 'it returns false'. Refute it at one input. -/
def exactSumsWrong : ChangeSpec := { name := "exactSums", fn := fun _ => fun
  | [d1, d2] => { results := [.lit (.bool false)], args := [d1, d2] }
  | _ => none }
def ExactSumsWrongFalsely : Prop := exactSumsRow.holds Try.pinned (OpenSpec.ofChange exactSumsWrong)

/-- 'warehouselaw2.ExactReduces': WHATEVER THE INPUT: true; the input reads as it did. -/
def exactReducesSpec : ChangeSpec := { name := "exactReduces", fn := fun _ => fun
  | [d1, d2, d3] => { results := [.lit (.bool true)], args := [d1, d2, d3] }
  | _ => none }
def exactReducesRow : OpenClaim := { program := "ytknpjfmpflbcfaa", sum := "606acdca02077227fb989e94894c2c6112064fa13a0ecf29ccd50ca01b059b06", func := "warehouse/warehouselaw2.ExactReduces", spec := "exactReduces", apart := false }
def ExactReducesSaid : Prop := exactReducesRow.holds Try.pinned (OpenSpec.ofChange exactReducesSpec)

/-- ITS FALSE NEIGHBOUR: 'it returns false'. Refute it at one input. -/
def exactReducesWrong : ChangeSpec := { name := "exactReduces", fn := fun _ => fun
  | [d1, d2, d3] => { results := [.lit (.bool false)], args := [d1, d2, d3] }
  | _ => none }
def ExactReducesWrongFalsely : Prop := exactReducesRow.holds Try.pinned (OpenSpec.ofChange exactReducesWrong)

/-- 'warehouselaw2.ExactCompares': WHATEVER THE INPUT: true; the input reads as it did. -/
def exactComparesSpec : ChangeSpec := { name := "exactCompares", fn := fun _ => fun
  | [d1, d2, d3, d4, d5, d6] => { results := [.lit (.bool true)], args := [d1, d2, d3, d4, d5, d6] }
  | _ => none }
def exactComparesRow : OpenClaim := { program := "ytknpjfmpflbcfaa", sum := "606acdca02077227fb989e94894c2c6112064fa13a0ecf29ccd50ca01b059b06", func := "warehouse/warehouselaw2.ExactCompares", spec := "exactCompares", apart := false }
def ExactComparesSaid : Prop := exactComparesRow.holds Try.pinned (OpenSpec.ofChange exactComparesSpec)

/-- ITS FALSE NEIGHBOUR: 'it returns false'. Refute it at one input. -/
def exactComparesWrong : ChangeSpec := { name := "exactCompares", fn := fun _ => fun
  | [d1, d2, d3, d4, d5, d6] => { results := [.lit (.bool false)], args := [d1, d2, d3, d4, d5, d6] }
  | _ => none }
def ExactComparesWrongFalsely : Prop := exactComparesRow.holds Try.pinned (OpenSpec.ofChange exactComparesWrong)

/-- 'warehouselaw2.ExactWithin': WHATEVER THE INPUT: true; the input reads as it did. -/
def exactWithinSpec : ChangeSpec := { name := "exactWithin", fn := fun _ => fun
  | [d1, d2, d3, d4, d5] => { results := [.lit (.bool true)], args := [d1, d2, d3, d4, d5] }
  | _ => none }
def exactWithinRow : OpenClaim := { program := "ytknpjfmpflbcfaa", sum := "606acdca02077227fb989e94894c2c6112064fa13a0ecf29ccd50ca01b059b06", func := "warehouse/warehouselaw2.ExactWithin", spec := "exactWithin", apart := false }
def ExactWithinSaid : Prop := exactWithinRow.holds Try.pinned (OpenSpec.ofChange exactWithinSpec)

/-- ITS FALSE NEIGHBOUR: 'it returns false'. Refute it at one input. -/
def exactWithinWrong : ChangeSpec := { name := "exactWithin", fn := fun _ => fun
  | [d1, d2, d3, d4, d5] => { results := [.lit (.bool false)], args := [d1, d2, d3, d4, d5] }
  | _ => none }
def ExactWithinWrongFalsely : Prop := exactWithinRow.holds Try.pinned (OpenSpec.ofChange exactWithinWrong)

/-- 'warehouselaw2.ExactShares': WHATEVER THE INPUT: true; the input reads as it did. -/
def exactSharesSpec : ChangeSpec := { name := "exactShares", fn := fun _ => fun
  | [d1, d2, d3] => { results := [.lit (.bool true)], args := [d1, d2, d3] }
  | _ => none }
def exactSharesRow : OpenClaim := { program := "ytknpjfmpflbcfaa", sum := "606acdca02077227fb989e94894c2c6112064fa13a0ecf29ccd50ca01b059b06", func := "warehouse/warehouselaw2.ExactShares", spec := "exactShares", apart := false }
def ExactSharesSaid : Prop := exactSharesRow.holds Try.pinned (OpenSpec.ofChange exactSharesSpec)

/-- ITS FALSE NEIGHBOUR: 'it returns false'. Refute it at one input. -/
def exactSharesWrong : ChangeSpec := { name := "exactShares", fn := fun _ => fun
  | [d1, d2, d3] => { results := [.lit (.bool false)], args := [d1, d2, d3] }
  | _ => none }
def ExactSharesWrongFalsely : Prop := exactSharesRow.holds Try.pinned (OpenSpec.ofChange exactSharesWrong)

/- THE SECOND FORM. 'bulk': how many values and letters a reading holds, each counted each time it is reached (what is shared counts as often as it is met; a slice's spare places count too). A statement '..UptoSaid' is the law's where the arguments, and the package variables that the reading takes, are together of bulk at most 1048576: NARROWER than '..Said'. Prove '..Said' where nothing that the law and all that it calls make is longer than what came in: it says more and counts as full. Else prove '..UptoSaid'. A law counts once. -/
mutual
def uptoBulk {H : Type} : DataW H → Nat
  | .lit (.string bytes) => bytes.length + 1
  | .lit _ => 1
  | .nil => 1
  | .ptr d => uptoBulk d + 1
  | .slice elems spare => uptoBulkAll elems + uptoBulkAll spare + 1
  | .agg parts => uptoBulkAll parts + 1
  | .iface _ d => uptoBulk d + 1
  | .map entries => uptoBulkEntries entries + 1
  | .held _ => 1
def uptoBulkAll {H : Type} : List (DataW H) → Nat
  | [] => 0
  | d :: r => uptoBulk d + uptoBulkAll r
def uptoBulkEntries {H : Type} : List (Lit × DataW H) → Nat
  | [] => 0
  | x :: r => uptoBulkEntry x + uptoBulkEntries r
def uptoBulkEntry {H : Type} : Lit × DataW H → Nat
  | (.string bytes, d) => bytes.length + uptoBulk d + 1
  | (_, d) => uptoBulk d + 1
 end
def uptoSmall : (H : Type) → List (DataW H) → Bool := fun _ ds => decide (uptoBulkAll ds ≤ 1048576)
def OpenSpec.upto (s : _root_.Go.ChangeSpec) : _root_.Go.OpenSpec := { _root_.Go.OpenSpec.ofChange s with cond := some uptoSmall }

/-- 'warehouselaw2.ExactAdds', WHERE WHAT IT READS IS OF BULK AT MOST 1048576: true; the input reads as it did. -/
def exactAddsUptoRow : OpenClaim := { program := "ytknpjfmpflbcfaa", sum := "606acdca02077227fb989e94894c2c6112064fa13a0ecf29ccd50ca01b059b06", func := "warehouse/warehouselaw2.ExactAdds", spec := "exactAdds", apart := false, narrowed := true }
def ExactAddsUptoSaid : Prop := exactAddsUptoRow.holds Try.pinned (OpenSpec.upto exactAddsSpec)

/-- 'warehouselaw2.ExactDivides', WHERE WHAT IT READS IS OF BULK AT MOST 1048576: true; the input reads as it did. -/
def exactDividesUptoRow : OpenClaim := { program := "ytknpjfmpflbcfaa", sum := "606acdca02077227fb989e94894c2c6112064fa13a0ecf29ccd50ca01b059b06", func := "warehouse/warehouselaw2.ExactDivides", spec := "exactDivides", apart := false, narrowed := true }
def ExactDividesUptoSaid : Prop := exactDividesUptoRow.holds Try.pinned (OpenSpec.upto exactDividesSpec)

/-- 'warehouselaw2.ExactSums', WHERE WHAT IT READS IS OF BULK AT MOST 1048576: true; the input reads as it did. -/
def exactSumsUptoRow : OpenClaim := { program := "ytknpjfmpflbcfaa", sum := "606acdca02077227fb989e94894c2c6112064fa13a0ecf29ccd50ca01b059b06", func := "warehouse/warehouselaw2.ExactSums", spec := "exactSums", apart := false, narrowed := true }
def ExactSumsUptoSaid : Prop := exactSumsUptoRow.holds Try.pinned (OpenSpec.upto exactSumsSpec)

/-- 'warehouselaw2.ExactReduces', WHERE WHAT IT READS IS OF BULK AT MOST 1048576: true; the input reads as it did. -/
def exactReducesUptoRow : OpenClaim := { program := "ytknpjfmpflbcfaa", sum := "606acdca02077227fb989e94894c2c6112064fa13a0ecf29ccd50ca01b059b06", func := "warehouse/warehouselaw2.ExactReduces", spec := "exactReduces", apart := false, narrowed := true }
def ExactReducesUptoSaid : Prop := exactReducesUptoRow.holds Try.pinned (OpenSpec.upto exactReducesSpec)

/-- 'warehouselaw2.ExactCompares', WHERE WHAT IT READS IS OF BULK AT MOST 1048576: true; the input reads as it did. -/
def exactComparesUptoRow : OpenClaim := { program := "ytknpjfmpflbcfaa", sum := "606acdca02077227fb989e94894c2c6112064fa13a0ecf29ccd50ca01b059b06", func := "warehouse/warehouselaw2.ExactCompares", spec := "exactCompares", apart := false, narrowed := true }
def ExactComparesUptoSaid : Prop := exactComparesUptoRow.holds Try.pinned (OpenSpec.upto exactComparesSpec)

/-- 'warehouselaw2.ExactWithin', WHERE WHAT IT READS IS OF BULK AT MOST 1048576: true; the input reads as it did. -/
def exactWithinUptoRow : OpenClaim := { program := "ytknpjfmpflbcfaa", sum := "606acdca02077227fb989e94894c2c6112064fa13a0ecf29ccd50ca01b059b06", func := "warehouse/warehouselaw2.ExactWithin", spec := "exactWithin", apart := false, narrowed := true }
def ExactWithinUptoSaid : Prop := exactWithinUptoRow.holds Try.pinned (OpenSpec.upto exactWithinSpec)

/-- 'warehouselaw2.ExactShares', WHERE WHAT IT READS IS OF BULK AT MOST 1048576: true; the input reads as it did. -/
def exactSharesUptoRow : OpenClaim := { program := "ytknpjfmpflbcfaa", sum := "606acdca02077227fb989e94894c2c6112064fa13a0ecf29ccd50ca01b059b06", func := "warehouse/warehouselaw2.ExactShares", spec := "exactShares", apart := false, narrowed := true }
def ExactSharesUptoSaid : Prop := exactSharesUptoRow.holds Try.pinned (OpenSpec.upto exactSharesSpec)

end Rows
end Go.Proofs.Ytknpjfmpflbcfaa
