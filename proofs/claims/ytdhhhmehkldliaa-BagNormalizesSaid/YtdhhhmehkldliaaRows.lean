/-
  No cell of these rows narrows 'for every input' (looked for: loops, veiled, ifaces, maps, wideKeys, modest, calm, conditions, laid).
  DERIVED. THE GIVEN ROWS OF THIS SEAT. 9 by the template 'for every input the law returns true; each argument reads behind the call as it read before'; 0 by the template 'total and deterministic' (their statements: YtdhhhmehkldliaaTotals.lean).
  GIVEN WITH THE SEED: the statements are not yours to turn. If you find one false, say at which input.
  Laid BY PROGRAM, IN A SANDBOX (cutbox-rows.mjs): the forced cells as the released guide's own fill.sh prints them over the translation 0b807a3399cc0a89… (all of the seat's roots in one cut). By AI agents, Wed Nov 11 2026. No macro, syntax, notation, axiom, sorry.
-/
import Derived.Test.YtdhhhmehkldliaaChecked
import GoSem.Claim
import GoSem.ClaimJoined
import GoSem.ClaimMapViews
import Derived.JoinedTies
import Derived.KernelRfl
namespace Go.Proofs.Ytdhhhmehkldliaa
/- THE CELL 'sum', in the pinned program and in every row, IS THE sha256 OF THE DUMP (.gsa) THAT YtdhhhmehkldliaaProg.lean LOADS. Nothing in Lean hashes anything: it is a label: what it is worth is what the hold of that sum in a sandbox is worth. -/
noncomputable def Try.pinned : Pinned := { name := "ytdhhhmehkldliaa", sum := "0b807a3399cc0a895a684590a32f557c3233080cfaba541d8b8477b7f6a6073e", checked := Try.checked }
namespace Rows
def none {H : Type} : Left H := { results := [], args := [] }

/-- 'warehouselaw6.BagValidates': WHATEVER THE INPUT: true; the input reads as it did. -/
def bagValidatesSpec : ChangeSpec := { name := "bagValidates", fn := fun _ => fun
  | [d1, d2, d3] => { results := [.lit (.bool true)], args := [d1, d2, d3] }
  | _ => none }
def bagValidatesRow : OpenClaim := { program := "ytdhhhmehkldliaa", sum := "0b807a3399cc0a895a684590a32f557c3233080cfaba541d8b8477b7f6a6073e", func := "warehouse/warehouselaw6.BagValidates", spec := "bagValidates", inPlace := ["internal/bytealg.abigen_runtime_cmpstring"], unfollowed := true, recurses := true, apart := false }
def BagValidatesSaid : Prop := bagValidatesRow.holds Try.pinned (OpenSpec.ofChange bagValidatesSpec)

/-- ITS FALSE NEIGHBOUR: 'it returns false'. Refute it at one input. -/
def bagValidatesWrong : ChangeSpec := { name := "bagValidates", fn := fun _ => fun
  | [d1, d2, d3] => { results := [.lit (.bool false)], args := [d1, d2, d3] }
  | _ => none }
def BagValidatesWrongFalsely : Prop := bagValidatesRow.holds Try.pinned (OpenSpec.ofChange bagValidatesWrong)

/-- 'warehouselaw6.BagNormalizes': WHATEVER THE INPUT: true; the input reads as it did. -/
def bagNormalizesSpec : ChangeSpec := { name := "bagNormalizes", fn := fun _ => fun
  | [d1, d2, d3] => { results := [.lit (.bool true)], args := [d1, d2, d3] }
  | _ => none }
def bagNormalizesRow : OpenClaim := { program := "ytdhhhmehkldliaa", sum := "0b807a3399cc0a895a684590a32f557c3233080cfaba541d8b8477b7f6a6073e", func := "warehouse/warehouselaw6.BagNormalizes", spec := "bagNormalizes", inPlace := ["internal/bytealg.abigen_runtime_cmpstring"], unfollowed := true, recurses := true, apart := false }
def BagNormalizesSaid : Prop := bagNormalizesRow.holds Try.pinned (OpenSpec.ofChange bagNormalizesSpec)

/-- ITS FALSE NEIGHBOUR: 'it returns false'. Refute it at one input. -/
def bagNormalizesWrong : ChangeSpec := { name := "bagNormalizes", fn := fun _ => fun
  | [d1, d2, d3] => { results := [.lit (.bool false)], args := [d1, d2, d3] }
  | _ => none }
def BagNormalizesWrongFalsely : Prop := bagNormalizesRow.holds Try.pinned (OpenSpec.ofChange bagNormalizesWrong)

/-- 'warehouselaw6.BagCounts': WHATEVER THE INPUT: true; the input reads as it did. -/
def bagCountsSpec : ChangeSpec := { name := "bagCounts", fn := fun _ => fun
  | [d1, d2, d3, d4, d5] => { results := [.lit (.bool true)], args := [d1, d2, d3, d4, d5] }
  | _ => none }
def bagCountsRow : OpenClaim := { program := "ytdhhhmehkldliaa", sum := "0b807a3399cc0a895a684590a32f557c3233080cfaba541d8b8477b7f6a6073e", func := "warehouse/warehouselaw6.BagCounts", spec := "bagCounts", inPlace := ["internal/bytealg.abigen_runtime_cmpstring"], unfollowed := true, recurses := true, apart := false }
def BagCountsSaid : Prop := bagCountsRow.holds Try.pinned (OpenSpec.ofChange bagCountsSpec)

/-- ITS FALSE NEIGHBOUR: 'it returns false'. Refute it at one input. -/
def bagCountsWrong : ChangeSpec := { name := "bagCounts", fn := fun _ => fun
  | [d1, d2, d3, d4, d5] => { results := [.lit (.bool false)], args := [d1, d2, d3, d4, d5] }
  | _ => none }
def BagCountsWrongFalsely : Prop := bagCountsRow.holds Try.pinned (OpenSpec.ofChange bagCountsWrong)

/-- 'warehouselaw6.BagSums': WHATEVER THE INPUT: true; the input reads as it did. -/
def bagSumsSpec : ChangeSpec := { name := "bagSums", fn := fun _ => fun
  | [d1, d2, d3, d4, d5] => { results := [.lit (.bool true)], args := [d1, d2, d3, d4, d5] }
  | _ => none }
def bagSumsRow : OpenClaim := { program := "ytdhhhmehkldliaa", sum := "0b807a3399cc0a895a684590a32f557c3233080cfaba541d8b8477b7f6a6073e", func := "warehouse/warehouselaw6.BagSums", spec := "bagSums", inPlace := ["internal/bytealg.abigen_runtime_cmpstring"], unfollowed := true, recurses := true, apart := false }
def BagSumsSaid : Prop := bagSumsRow.holds Try.pinned (OpenSpec.ofChange bagSumsSpec)

/-- ITS FALSE NEIGHBOUR: 'it returns false'. Refute it at one input. -/
def bagSumsWrong : ChangeSpec := { name := "bagSums", fn := fun _ => fun
  | [d1, d2, d3, d4, d5] => { results := [.lit (.bool false)], args := [d1, d2, d3, d4, d5] }
  | _ => none }
def BagSumsWrongFalsely : Prop := bagSumsRow.holds Try.pinned (OpenSpec.ofChange bagSumsWrong)

/-- 'warehouselaw6.BagGroups': WHATEVER THE INPUT: true; the input reads as it did. -/
def bagGroupsSpec : ChangeSpec := { name := "bagGroups", fn := fun _ => fun
  | [d1, d2, d3, d4] => { results := [.lit (.bool true)], args := [d1, d2, d3, d4] }
  | _ => none }
def bagGroupsRow : OpenClaim := { program := "ytdhhhmehkldliaa", sum := "0b807a3399cc0a895a684590a32f557c3233080cfaba541d8b8477b7f6a6073e", func := "warehouse/warehouselaw6.BagGroups", spec := "bagGroups", inPlace := ["internal/bytealg.abigen_runtime_cmpstring"], unfollowed := true, recurses := true, apart := false }
def BagGroupsSaid : Prop := bagGroupsRow.holds Try.pinned (OpenSpec.ofChange bagGroupsSpec)

/-- ITS FALSE NEIGHBOUR: 'it returns false'. Refute it at one input. -/
def bagGroupsWrong : ChangeSpec := { name := "bagGroups", fn := fun _ => fun
  | [d1, d2, d3, d4] => { results := [.lit (.bool false)], args := [d1, d2, d3, d4] }
  | _ => none }
def BagGroupsWrongFalsely : Prop := bagGroupsRow.holds Try.pinned (OpenSpec.ofChange bagGroupsWrong)

/-- 'warehouselaw6.BagExcepts': WHATEVER THE INPUT: true; the input reads as it did. -/
def bagExceptsSpec : ChangeSpec := { name := "bagExcepts", fn := fun _ => fun
  | [d1, d2, d3, d4, d5] => { results := [.lit (.bool true)], args := [d1, d2, d3, d4, d5] }
  | _ => none }
def bagExceptsRow : OpenClaim := { program := "ytdhhhmehkldliaa", sum := "0b807a3399cc0a895a684590a32f557c3233080cfaba541d8b8477b7f6a6073e", func := "warehouse/warehouselaw6.BagExcepts", spec := "bagExcepts", inPlace := ["internal/bytealg.abigen_runtime_cmpstring"], unfollowed := true, recurses := true, apart := false }
def BagExceptsSaid : Prop := bagExceptsRow.holds Try.pinned (OpenSpec.ofChange bagExceptsSpec)

/-- ITS FALSE NEIGHBOUR: 'it returns false'. Refute it at one input. -/
def bagExceptsWrong : ChangeSpec := { name := "bagExcepts", fn := fun _ => fun
  | [d1, d2, d3, d4, d5] => { results := [.lit (.bool false)], args := [d1, d2, d3, d4, d5] }
  | _ => none }
def BagExceptsWrongFalsely : Prop := bagExceptsRow.holds Try.pinned (OpenSpec.ofChange bagExceptsWrong)

/-- 'warehouselaw6.BagProjects': WHATEVER THE INPUT: true; the input reads as it did. -/
def bagProjectsSpec : ChangeSpec := { name := "bagProjects", fn := fun _ => fun
  | [d1, d2, d3, d4, d5, d6] => { results := [.lit (.bool true)], args := [d1, d2, d3, d4, d5, d6] }
  | _ => none }
def bagProjectsRow : OpenClaim := { program := "ytdhhhmehkldliaa", sum := "0b807a3399cc0a895a684590a32f557c3233080cfaba541d8b8477b7f6a6073e", func := "warehouse/warehouselaw6.BagProjects", spec := "bagProjects", inPlace := ["internal/bytealg.abigen_runtime_cmpstring"], unfollowed := true, recurses := true, apart := false }
def BagProjectsSaid : Prop := bagProjectsRow.holds Try.pinned (OpenSpec.ofChange bagProjectsSpec)

/-- ITS FALSE NEIGHBOUR: 'it returns false'. Refute it at one input. -/
def bagProjectsWrong : ChangeSpec := { name := "bagProjects", fn := fun _ => fun
  | [d1, d2, d3, d4, d5, d6] => { results := [.lit (.bool false)], args := [d1, d2, d3, d4, d5, d6] }
  | _ => none }
def BagProjectsWrongFalsely : Prop := bagProjectsRow.holds Try.pinned (OpenSpec.ofChange bagProjectsWrong)

/-- 'warehouselaw6.BagExpands': WHATEVER THE INPUT: true; the input reads as it did. -/
def bagExpandsSpec : ChangeSpec := { name := "bagExpands", fn := fun _ => fun
  | [d1, d2, d3] => { results := [.lit (.bool true)], args := [d1, d2, d3] }
  | _ => none }
def bagExpandsRow : OpenClaim := { program := "ytdhhhmehkldliaa", sum := "0b807a3399cc0a895a684590a32f557c3233080cfaba541d8b8477b7f6a6073e", func := "warehouse/warehouselaw6.BagExpands", spec := "bagExpands", inPlace := ["internal/bytealg.abigen_runtime_cmpstring"], unfollowed := true, recurses := true, apart := false }
def BagExpandsSaid : Prop := bagExpandsRow.holds Try.pinned (OpenSpec.ofChange bagExpandsSpec)

/-- ITS FALSE NEIGHBOUR: 'it returns false'. Refute it at one input. -/
def bagExpandsWrong : ChangeSpec := { name := "bagExpands", fn := fun _ => fun
  | [d1, d2, d3] => { results := [.lit (.bool false)], args := [d1, d2, d3] }
  | _ => none }
def BagExpandsWrongFalsely : Prop := bagExpandsRow.holds Try.pinned (OpenSpec.ofChange bagExpandsWrong)

/-- 'warehouselaw6.BagLimits': WHATEVER THE INPUT: true; the input reads as it did. -/
def bagLimitsSpec : ChangeSpec := { name := "bagLimits", fn := fun _ => fun
  | [d1, d2] => { results := [.lit (.bool true)], args := [d1, d2] }
  | _ => none }
def bagLimitsRow : OpenClaim := { program := "ytdhhhmehkldliaa", sum := "0b807a3399cc0a895a684590a32f557c3233080cfaba541d8b8477b7f6a6073e", func := "warehouse/warehouselaw6.BagLimits", spec := "bagLimits", inPlace := ["internal/bytealg.abigen_runtime_cmpstring"], unfollowed := true, recurses := true, apart := false }
def BagLimitsSaid : Prop := bagLimitsRow.holds Try.pinned (OpenSpec.ofChange bagLimitsSpec)

/-- ITS FALSE NEIGHBOUR: 'it returns false'. Refute it at one input. -/
def bagLimitsWrong : ChangeSpec := { name := "bagLimits", fn := fun _ => fun
  | [d1, d2] => { results := [.lit (.bool false)], args := [d1, d2] }
  | _ => none }
def BagLimitsWrongFalsely : Prop := bagLimitsRow.holds Try.pinned (OpenSpec.ofChange bagLimitsWrong)

/- THE SECOND FORM. 'bulk': how many values and letters a reading holds, each counted each time it is reached (what is shared counts as often as it is met; a slice's spare places count too). A statement '..UptoSaid' is the law's where the arguments, and the package variables that the reading takes, are together of bulk at most 1048576: NARROWER than '..Said'. Prove '..Said' where nothing that the law and all that it calls make is longer than what came in: it says more and counts as full. Else prove '..UptoSaid'. A law counts once. -/
mutual
def uptoBulk {H : Type} : DataW H → Nat
  | .lit (.string bytes) => bytes.length + 1
  | .lit _ => 1
  | .nil => 1
  | .ptr d => uptoBulk d + 1
  | .slice elems spare => uptoBulkAll elems + uptoBulkAll spare + 1
  | .agg parts => uptoBulkAll parts + 1
  | .iface _ d => uptoBulk d + 1
  | .map entries => uptoBulkEntries entries + 1
  | .held _ => 1
def uptoBulkAll {H : Type} : List (DataW H) → Nat
  | [] => 0
  | d :: r => uptoBulk d + uptoBulkAll r
def uptoBulkEntries {H : Type} : List (Lit × DataW H) → Nat
  | [] => 0
  | x :: r => uptoBulkEntry x + uptoBulkEntries r
def uptoBulkEntry {H : Type} : Lit × DataW H → Nat
  | (.string bytes, d) => bytes.length + uptoBulk d + 1
  | (_, d) => uptoBulk d + 1
 end
def uptoSmall : (H : Type) → List (DataW H) → Bool := fun _ ds => decide (uptoBulkAll ds ≤ 1048576)
def OpenSpec.upto (s : _root_.Go.ChangeSpec) : _root_.Go.OpenSpec := { _root_.Go.OpenSpec.ofChange s with cond := some uptoSmall }

/-- 'warehouselaw6.BagValidates', WHERE WHAT IT READS IS OF BULK AT MOST 1048576: true; the input reads as it did. -/
def bagValidatesUptoRow : OpenClaim := { program := "ytdhhhmehkldliaa", sum := "0b807a3399cc0a895a684590a32f557c3233080cfaba541d8b8477b7f6a6073e", func := "warehouse/warehouselaw6.BagValidates", spec := "bagValidates", inPlace := ["internal/bytealg.abigen_runtime_cmpstring"], unfollowed := true, recurses := true, apart := false, narrowed := true }
def BagValidatesUptoSaid : Prop := bagValidatesUptoRow.holds Try.pinned (OpenSpec.upto bagValidatesSpec)

/-- 'warehouselaw6.BagNormalizes', WHERE WHAT IT READS IS OF BULK AT MOST 1048576: true; the input reads as it did. -/
def bagNormalizesUptoRow : OpenClaim := { program := "ytdhhhmehkldliaa", sum := "0b807a3399cc0a895a684590a32f557c3233080cfaba541d8b8477b7f6a6073e", func := "warehouse/warehouselaw6.BagNormalizes", spec := "bagNormalizes", inPlace := ["internal/bytealg.abigen_runtime_cmpstring"], unfollowed := true, recurses := true, apart := false, narrowed := true }
def BagNormalizesUptoSaid : Prop := bagNormalizesUptoRow.holds Try.pinned (OpenSpec.upto bagNormalizesSpec)

/-- 'warehouselaw6.BagCounts', WHERE WHAT IT READS IS OF BULK AT MOST 1048576: true; the input reads as it did. -/
def bagCountsUptoRow : OpenClaim := { program := "ytdhhhmehkldliaa", sum := "0b807a3399cc0a895a684590a32f557c3233080cfaba541d8b8477b7f6a6073e", func := "warehouse/warehouselaw6.BagCounts", spec := "bagCounts", inPlace := ["internal/bytealg.abigen_runtime_cmpstring"], unfollowed := true, recurses := true, apart := false, narrowed := true }
def BagCountsUptoSaid : Prop := bagCountsUptoRow.holds Try.pinned (OpenSpec.upto bagCountsSpec)

/-- 'warehouselaw6.BagSums', WHERE WHAT IT READS IS OF BULK AT MOST 1048576: true; the input reads as it did. -/
def bagSumsUptoRow : OpenClaim := { program := "ytdhhhmehkldliaa", sum := "0b807a3399cc0a895a684590a32f557c3233080cfaba541d8b8477b7f6a6073e", func := "warehouse/warehouselaw6.BagSums", spec := "bagSums", inPlace := ["internal/bytealg.abigen_runtime_cmpstring"], unfollowed := true, recurses := true, apart := false, narrowed := true }
def BagSumsUptoSaid : Prop := bagSumsUptoRow.holds Try.pinned (OpenSpec.upto bagSumsSpec)

/-- 'warehouselaw6.BagGroups', WHERE WHAT IT READS IS OF BULK AT MOST 1048576: true; the input reads as it did. -/
def bagGroupsUptoRow : OpenClaim := { program := "ytdhhhmehkldliaa", sum := "0b807a3399cc0a895a684590a32f557c3233080cfaba541d8b8477b7f6a6073e", func := "warehouse/warehouselaw6.BagGroups", spec := "bagGroups", inPlace := ["internal/bytealg.abigen_runtime_cmpstring"], unfollowed := true, recurses := true, apart := false, narrowed := true }
def BagGroupsUptoSaid : Prop := bagGroupsUptoRow.holds Try.pinned (OpenSpec.upto bagGroupsSpec)

/-- 'warehouselaw6.BagExcepts', WHERE WHAT IT READS IS OF BULK AT MOST 1048576: true; the input reads as it did. -/
def bagExceptsUptoRow : OpenClaim := { program := "ytdhhhmehkldliaa", sum := "0b807a3399cc0a895a684590a32f557c3233080cfaba541d8b8477b7f6a6073e", func := "warehouse/warehouselaw6.BagExcepts", spec := "bagExcepts", inPlace := ["internal/bytealg.abigen_runtime_cmpstring"], unfollowed := true, recurses := true, apart := false, narrowed := true }
def BagExceptsUptoSaid : Prop := bagExceptsUptoRow.holds Try.pinned (OpenSpec.upto bagExceptsSpec)

/-- 'warehouselaw6.BagProjects', WHERE WHAT IT READS IS OF BULK AT MOST 1048576: true; the input reads as it did. -/
def bagProjectsUptoRow : OpenClaim := { program := "ytdhhhmehkldliaa", sum := "0b807a3399cc0a895a684590a32f557c3233080cfaba541d8b8477b7f6a6073e", func := "warehouse/warehouselaw6.BagProjects", spec := "bagProjects", inPlace := ["internal/bytealg.abigen_runtime_cmpstring"], unfollowed := true, recurses := true, apart := false, narrowed := true }
def BagProjectsUptoSaid : Prop := bagProjectsUptoRow.holds Try.pinned (OpenSpec.upto bagProjectsSpec)

/-- 'warehouselaw6.BagExpands', WHERE WHAT IT READS IS OF BULK AT MOST 1048576: true; the input reads as it did. -/
def bagExpandsUptoRow : OpenClaim := { program := "ytdhhhmehkldliaa", sum := "0b807a3399cc0a895a684590a32f557c3233080cfaba541d8b8477b7f6a6073e", func := "warehouse/warehouselaw6.BagExpands", spec := "bagExpands", inPlace := ["internal/bytealg.abigen_runtime_cmpstring"], unfollowed := true, recurses := true, apart := false, narrowed := true }
def BagExpandsUptoSaid : Prop := bagExpandsUptoRow.holds Try.pinned (OpenSpec.upto bagExpandsSpec)

/-- 'warehouselaw6.BagLimits', WHERE WHAT IT READS IS OF BULK AT MOST 1048576: true; the input reads as it did. -/
def bagLimitsUptoRow : OpenClaim := { program := "ytdhhhmehkldliaa", sum := "0b807a3399cc0a895a684590a32f557c3233080cfaba541d8b8477b7f6a6073e", func := "warehouse/warehouselaw6.BagLimits", spec := "bagLimits", inPlace := ["internal/bytealg.abigen_runtime_cmpstring"], unfollowed := true, recurses := true, apart := false, narrowed := true }
def BagLimitsUptoSaid : Prop := bagLimitsUptoRow.holds Try.pinned (OpenSpec.upto bagLimitsSpec)

end Rows
end Go.Proofs.Ytdhhhmehkldliaa
