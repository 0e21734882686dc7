/-
  No cell of these rows narrows 'for every input' (looked for: loops, veiled, ifaces, maps, wideKeys, modest, calm, conditions, laid).
  DERIVED. THE GIVEN ROWS OF THIS SEAT. 7 by the template 'for every input the law returns true; each argument reads behind the call as it read before'; 0 by the template 'total and deterministic' (their statements: YtfknoclmpdnkdaaTotals.lean).
  GIVEN WITH THE SEED: the statements are not yours to turn. If you find one false, say at which input.
  Laid BY PROGRAM, IN A SANDBOX (cutbox-rows.mjs): the forced cells as the released guide's own fill.sh prints them over the translation 46131d694c372345… (all of the seat's roots in one cut). By AI agents, Wed Nov 11 2026. No macro, syntax, notation, axiom, sorry.
-/
import Derived.Test.YtfknoclmpdnkdaaChecked
import GoSem.Claim
import GoSem.ClaimJoined
import GoSem.ClaimMapViews
import Derived.JoinedTies
import Derived.KernelRfl
namespace Go.Proofs.Ytfknoclmpdnkdaa
/- THE CELL 'sum', in the pinned program and in every row, IS THE sha256 OF THE DUMP (.gsa) THAT YtfknoclmpdnkdaaProg.lean LOADS. Nothing in Lean hashes anything: it is a label: what it is worth is what the hold of that sum in a sandbox is worth. -/
noncomputable def Try.pinned : Pinned := { name := "ytfknoclmpdnkdaa", sum := "46131d694c372345bd523d245e9e7b7dbcb339d90b45312b231c6ee378b44ccb", checked := Try.checked }
namespace Rows
def none {H : Type} : Left H := { results := [], args := [] }

/-- 'warehouselaw4.ZoneValidates': WHATEVER THE INPUT: true; the input reads as it did. -/
def zoneValidatesSpec : ChangeSpec := { name := "zoneValidates", fn := fun _ => fun
  | [d1, d2, d3] => { results := [.lit (.bool true)], args := [d1, d2, d3] }
  | _ => none }
def zoneValidatesRow : OpenClaim := { program := "ytfknoclmpdnkdaa", sum := "46131d694c372345bd523d245e9e7b7dbcb339d90b45312b231c6ee378b44ccb", func := "warehouse/warehouselaw4.ZoneValidates", spec := "zoneValidates", unfollowed := true, recurses := true, apart := false }
def ZoneValidatesSaid : Prop := zoneValidatesRow.holds Try.pinned (OpenSpec.ofChange zoneValidatesSpec)

/-- ITS FALSE NEIGHBOUR: 'it returns false'. Refute it at one input. -/
def zoneValidatesWrong : ChangeSpec := { name := "zoneValidates", fn := fun _ => fun
  | [d1, d2, d3] => { results := [.lit (.bool false)], args := [d1, d2, d3] }
  | _ => none }
def ZoneValidatesWrongFalsely : Prop := zoneValidatesRow.holds Try.pinned (OpenSpec.ofChange zoneValidatesWrong)

/-- 'warehouselaw4.ZoneOffsets': WHATEVER THE INPUT: true; the input reads as it did. -/
def zoneOffsetsSpec : ChangeSpec := { name := "zoneOffsets", fn := fun _ => fun
  | [d1, d2, d3, d4] => { results := [.lit (.bool true)], args := [d1, d2, d3, d4] }
  | _ => none }
def zoneOffsetsRow : OpenClaim := { program := "ytfknoclmpdnkdaa", sum := "46131d694c372345bd523d245e9e7b7dbcb339d90b45312b231c6ee378b44ccb", func := "warehouse/warehouselaw4.ZoneOffsets", spec := "zoneOffsets", unfollowed := true, recurses := true, apart := false }
def ZoneOffsetsSaid : Prop := zoneOffsetsRow.holds Try.pinned (OpenSpec.ofChange zoneOffsetsSpec)

/-- ITS FALSE NEIGHBOUR: 'it returns false'. Refute it at one input. -/
def zoneOffsetsWrong : ChangeSpec := { name := "zoneOffsets", fn := fun _ => fun
  | [d1, d2, d3, d4] => { results := [.lit (.bool false)], args := [d1, d2, d3, d4] }
  | _ => none }
def ZoneOffsetsWrongFalsely : Prop := zoneOffsetsRow.holds Try.pinned (OpenSpec.ofChange zoneOffsetsWrong)

/-- 'warehouselaw4.ZoneDays': WHATEVER THE INPUT: true; the input reads as it did. -/
def zoneDaysSpec : ChangeSpec := { name := "zoneDays", fn := fun _ => fun
  | [d1, d2, d3, d4] => { results := [.lit (.bool true)], args := [d1, d2, d3, d4] }
  | _ => none }
def zoneDaysRow : OpenClaim := { program := "ytfknoclmpdnkdaa", sum := "46131d694c372345bd523d245e9e7b7dbcb339d90b45312b231c6ee378b44ccb", func := "warehouse/warehouselaw4.ZoneDays", spec := "zoneDays", unfollowed := true, recurses := true, apart := false }
def ZoneDaysSaid : Prop := zoneDaysRow.holds Try.pinned (OpenSpec.ofChange zoneDaysSpec)

/-- ITS FALSE NEIGHBOUR: 'it returns false'. Refute it at one input. -/
def zoneDaysWrong : ChangeSpec := { name := "zoneDays", fn := fun _ => fun
  | [d1, d2, d3, d4] => { results := [.lit (.bool false)], args := [d1, d2, d3, d4] }
  | _ => none }
def ZoneDaysWrongFalsely : Prop := zoneDaysRow.holds Try.pinned (OpenSpec.ofChange zoneDaysWrong)

/-- 'warehouselaw4.ZoneRises': WHATEVER THE INPUT: true; the input reads as it did. -/
def zoneRisesSpec : ChangeSpec := { name := "zoneRises", fn := fun _ => fun
  | [d1, d2, d3] => { results := [.lit (.bool true)], args := [d1, d2, d3] }
  | _ => none }
def zoneRisesRow : OpenClaim := { program := "ytfknoclmpdnkdaa", sum := "46131d694c372345bd523d245e9e7b7dbcb339d90b45312b231c6ee378b44ccb", func := "warehouse/warehouselaw4.ZoneRises", spec := "zoneRises", unfollowed := true, recurses := true, apart := false }
def ZoneRisesSaid : Prop := zoneRisesRow.holds Try.pinned (OpenSpec.ofChange zoneRisesSpec)

/-- ITS FALSE NEIGHBOUR: 'it returns false'. Refute it at one input. -/
def zoneRisesWrong : ChangeSpec := { name := "zoneRises", fn := fun _ => fun
  | [d1, d2, d3] => { results := [.lit (.bool false)], args := [d1, d2, d3] }
  | _ => none }
def ZoneRisesWrongFalsely : Prop := zoneRisesRow.holds Try.pinned (OpenSpec.ofChange zoneRisesWrong)

/-- 'warehouselaw4.ZoneStarts': WHATEVER THE INPUT: true; the input reads as it did. -/
def zoneStartsSpec : ChangeSpec := { name := "zoneStarts", fn := fun _ => fun
  | [d1, d2, d3, d4] => { results := [.lit (.bool true)], args := [d1, d2, d3, d4] }
  | _ => none }
def zoneStartsRow : OpenClaim := { program := "ytfknoclmpdnkdaa", sum := "46131d694c372345bd523d245e9e7b7dbcb339d90b45312b231c6ee378b44ccb", func := "warehouse/warehouselaw4.ZoneStarts", spec := "zoneStarts", unfollowed := true, recurses := true, apart := false }
def ZoneStartsSaid : Prop := zoneStartsRow.holds Try.pinned (OpenSpec.ofChange zoneStartsSpec)

/-- ITS FALSE NEIGHBOUR: 'it returns false'. Refute it at one input. -/
def zoneStartsWrong : ChangeSpec := { name := "zoneStarts", fn := fun _ => fun
  | [d1, d2, d3, d4] => { results := [.lit (.bool false)], args := [d1, d2, d3, d4] }
  | _ => none }
def ZoneStartsWrongFalsely : Prop := zoneStartsRow.holds Try.pinned (OpenSpec.ofChange zoneStartsWrong)

/-- 'warehouselaw4.ZoneTiles': WHATEVER THE INPUT: true; the input reads as it did. -/
def zoneTilesSpec : ChangeSpec := { name := "zoneTiles", fn := fun _ => fun
  | [d1, d2, d3] => { results := [.lit (.bool true)], args := [d1, d2, d3] }
  | _ => none }
def zoneTilesRow : OpenClaim := { program := "ytfknoclmpdnkdaa", sum := "46131d694c372345bd523d245e9e7b7dbcb339d90b45312b231c6ee378b44ccb", func := "warehouse/warehouselaw4.ZoneTiles", spec := "zoneTiles", unfollowed := true, recurses := true, apart := false }
def ZoneTilesSaid : Prop := zoneTilesRow.holds Try.pinned (OpenSpec.ofChange zoneTilesSpec)

/-- ITS FALSE NEIGHBOUR: 'it returns false'. Refute it at one input. -/
def zoneTilesWrong : ChangeSpec := { name := "zoneTiles", fn := fun _ => fun
  | [d1, d2, d3] => { results := [.lit (.bool false)], args := [d1, d2, d3] }
  | _ => none }
def ZoneTilesWrongFalsely : Prop := zoneTilesRow.holds Try.pinned (OpenSpec.ofChange zoneTilesWrong)

/-- 'warehouselaw4.ZoneCovers': WHATEVER THE INPUT: true; the input reads as it did. -/
def zoneCoversSpec : ChangeSpec := { name := "zoneCovers", fn := fun _ => fun
  | [d] => { results := [.lit (.bool true)], args := [d] }
  | _ => none }
def zoneCoversRow : OpenClaim := { program := "ytfknoclmpdnkdaa", sum := "46131d694c372345bd523d245e9e7b7dbcb339d90b45312b231c6ee378b44ccb", func := "warehouse/warehouselaw4.ZoneCovers", spec := "zoneCovers", unfollowed := true, recurses := true, apart := false }
def ZoneCoversSaid : Prop := zoneCoversRow.holds Try.pinned (OpenSpec.ofChange zoneCoversSpec)

/-- ITS FALSE NEIGHBOUR: 'it returns false'. Refute it at one input. -/
def zoneCoversWrong : ChangeSpec := { name := "zoneCovers", fn := fun _ => fun
  | [d] => { results := [.lit (.bool false)], args := [d] }
  | _ => none }
def ZoneCoversWrongFalsely : Prop := zoneCoversRow.holds Try.pinned (OpenSpec.ofChange zoneCoversWrong)

/- THE SECOND FORM. 'bulk': how many values and letters a reading holds, each counted each time it is reached (what is shared counts as often as it is met; a slice's spare places count too). A statement '..UptoSaid' is the law's where the arguments, and the package variables that the reading takes, are together of bulk at most 1048576: NARROWER than '..Said'. Prove '..Said' where nothing that the law and all that it calls make is longer than what came in: it says more and counts as full. Else prove '..UptoSaid'. A law counts once. -/
mutual
def uptoBulk {H : Type} : DataW H → Nat
  | .lit (.string bytes) => bytes.length + 1
  | .lit _ => 1
  | .nil => 1
  | .ptr d => uptoBulk d + 1
  | .slice elems spare => uptoBulkAll elems + uptoBulkAll spare + 1
  | .agg parts => uptoBulkAll parts + 1
  | .iface _ d => uptoBulk d + 1
  | .map entries => uptoBulkEntries entries + 1
  | .held _ => 1
def uptoBulkAll {H : Type} : List (DataW H) → Nat
  | [] => 0
  | d :: r => uptoBulk d + uptoBulkAll r
def uptoBulkEntries {H : Type} : List (Lit × DataW H) → Nat
  | [] => 0
  | x :: r => uptoBulkEntry x + uptoBulkEntries r
def uptoBulkEntry {H : Type} : Lit × DataW H → Nat
  | (.string bytes, d) => bytes.length + uptoBulk d + 1
  | (_, d) => uptoBulk d + 1
 end
def uptoSmall : (H : Type) → List (DataW H) → Bool := fun _ ds => decide (uptoBulkAll ds ≤ 1048576)
def OpenSpec.upto (s : _root_.Go.ChangeSpec) : _root_.Go.OpenSpec := { _root_.Go.OpenSpec.ofChange s with cond := some uptoSmall }

/-- 'warehouselaw4.ZoneValidates', WHERE WHAT IT READS IS OF BULK AT MOST 1048576: true; the input reads as it did. -/
def zoneValidatesUptoRow : OpenClaim := { program := "ytfknoclmpdnkdaa", sum := "46131d694c372345bd523d245e9e7b7dbcb339d90b45312b231c6ee378b44ccb", func := "warehouse/warehouselaw4.ZoneValidates", spec := "zoneValidates", unfollowed := true, recurses := true, apart := false, narrowed := true }
def ZoneValidatesUptoSaid : Prop := zoneValidatesUptoRow.holds Try.pinned (OpenSpec.upto zoneValidatesSpec)

/-- 'warehouselaw4.ZoneOffsets', WHERE WHAT IT READS IS OF BULK AT MOST 1048576: true; the input reads as it did. -/
def zoneOffsetsUptoRow : OpenClaim := { program := "ytfknoclmpdnkdaa", sum := "46131d694c372345bd523d245e9e7b7dbcb339d90b45312b231c6ee378b44ccb", func := "warehouse/warehouselaw4.ZoneOffsets", spec := "zoneOffsets", unfollowed := true, recurses := true, apart := false, narrowed := true }
def ZoneOffsetsUptoSaid : Prop := zoneOffsetsUptoRow.holds Try.pinned (OpenSpec.upto zoneOffsetsSpec)

/-- 'warehouselaw4.ZoneDays', WHERE WHAT IT READS IS OF BULK AT MOST 1048576: true; the input reads as it did. -/
def zoneDaysUptoRow : OpenClaim := { program := "ytfknoclmpdnkdaa", sum := "46131d694c372345bd523d245e9e7b7dbcb339d90b45312b231c6ee378b44ccb", func := "warehouse/warehouselaw4.ZoneDays", spec := "zoneDays", unfollowed := true, recurses := true, apart := false, narrowed := true }
def ZoneDaysUptoSaid : Prop := zoneDaysUptoRow.holds Try.pinned (OpenSpec.upto zoneDaysSpec)

/-- 'warehouselaw4.ZoneRises', WHERE WHAT IT READS IS OF BULK AT MOST 1048576: true; the input reads as it did. -/
def zoneRisesUptoRow : OpenClaim := { program := "ytfknoclmpdnkdaa", sum := "46131d694c372345bd523d245e9e7b7dbcb339d90b45312b231c6ee378b44ccb", func := "warehouse/warehouselaw4.ZoneRises", spec := "zoneRises", unfollowed := true, recurses := true, apart := false, narrowed := true }
def ZoneRisesUptoSaid : Prop := zoneRisesUptoRow.holds Try.pinned (OpenSpec.upto zoneRisesSpec)

/-- 'warehouselaw4.ZoneStarts', WHERE WHAT IT READS IS OF BULK AT MOST 1048576: true; the input reads as it did. -/
def zoneStartsUptoRow : OpenClaim := { program := "ytfknoclmpdnkdaa", sum := "46131d694c372345bd523d245e9e7b7dbcb339d90b45312b231c6ee378b44ccb", func := "warehouse/warehouselaw4.ZoneStarts", spec := "zoneStarts", unfollowed := true, recurses := true, apart := false, narrowed := true }
def ZoneStartsUptoSaid : Prop := zoneStartsUptoRow.holds Try.pinned (OpenSpec.upto zoneStartsSpec)

/-- 'warehouselaw4.ZoneTiles', WHERE WHAT IT READS IS OF BULK AT MOST 1048576: true; the input reads as it did. -/
def zoneTilesUptoRow : OpenClaim := { program := "ytfknoclmpdnkdaa", sum := "46131d694c372345bd523d245e9e7b7dbcb339d90b45312b231c6ee378b44ccb", func := "warehouse/warehouselaw4.ZoneTiles", spec := "zoneTiles", unfollowed := true, recurses := true, apart := false, narrowed := true }
def ZoneTilesUptoSaid : Prop := zoneTilesUptoRow.holds Try.pinned (OpenSpec.upto zoneTilesSpec)

/-- 'warehouselaw4.ZoneCovers', WHERE WHAT IT READS IS OF BULK AT MOST 1048576: true; the input reads as it did. -/
def zoneCoversUptoRow : OpenClaim := { program := "ytfknoclmpdnkdaa", sum := "46131d694c372345bd523d245e9e7b7dbcb339d90b45312b231c6ee378b44ccb", func := "warehouse/warehouselaw4.ZoneCovers", spec := "zoneCovers", unfollowed := true, recurses := true, apart := false, narrowed := true }
def ZoneCoversUptoSaid : Prop := zoneCoversUptoRow.holds Try.pinned (OpenSpec.upto zoneCoversSpec)

end Rows
end Go.Proofs.Ytfknoclmpdnkdaa
