/-
  No cell of these rows narrows 'for every input' (looked for: loops, veiled, ifaces, maps, wideKeys, modest, calm, conditions, laid).
  DERIVED. THE GIVEN ROWS OF THIS SEAT. 7 by the template 'for every input the law returns true; each argument reads behind the call as it read before'; 0 by the template 'total and deterministic' (their statements: YtdlkkajkflebgaaTotals.lean).
  GIVEN WITH THE SEED: the statements are not yours to turn. If you find one false, say at which input.
  Laid BY PROGRAM, IN A SANDBOX (cutbox-rows.mjs): the forced cells as the released guide's own fill.sh prints them over the translation dc4c5143d071961b… (all of the seat's roots in one cut). By AI agents, Wed Nov 11 2026. No macro, syntax, notation, axiom, sorry.
-/
import Derived.Test.YtdlkkajkflebgaaChecked
import GoSem.Claim
import GoSem.ClaimJoined
import GoSem.ClaimMapViews
import Derived.JoinedTies
import Derived.KernelRfl
namespace Go.Proofs.Ytdlkkajkflebgaa
/- THE CELL 'sum', in the pinned program and in every row, IS THE sha256 OF THE DUMP (.gsa) THAT YtdlkkajkflebgaaProg.lean LOADS. Nothing in Lean hashes anything: it is a label: what it is worth is what the hold of that sum in a sandbox is worth. -/
noncomputable def Try.pinned : Pinned := { name := "ytdlkkajkflebgaa", sum := "dc4c5143d071961b4f78f31f5205693bdbf0db32281c22f1928711052e8d04a5", checked := Try.checked }
namespace Rows
def none {H : Type} : Left H := { results := [], args := [] }

/-- 'warehouselaw5.SchemaNames': WHATEVER THE INPUT: true; the input reads as it did. -/
def schemaNamesSpec : ChangeSpec := { name := "schemaNames", fn := fun _ => fun
  | [d1, d2, d3] => { results := [.lit (.bool true)], args := [d1, d2, d3] }
  | _ => none }
def schemaNamesRow : OpenClaim := { program := "ytdlkkajkflebgaa", sum := "dc4c5143d071961b4f78f31f5205693bdbf0db32281c22f1928711052e8d04a5", func := "warehouse/warehouselaw5.SchemaNames", spec := "schemaNames", inPlace := ["internal/bytealg.IndexByteString", "internal/bytealg.IndexString"], named := ["internal/bytealg.MaxLen"], apart := false }
def SchemaNamesSaid : Prop := schemaNamesRow.holds Try.pinned (OpenSpec.ofChange schemaNamesSpec)

/-- ITS FALSE NEIGHBOUR: 'it returns false'. Refute it at one input. -/
def schemaNamesWrong : ChangeSpec := { name := "schemaNames", fn := fun _ => fun
  | [d1, d2, d3] => { results := [.lit (.bool false)], args := [d1, d2, d3] }
  | _ => none }
def SchemaNamesWrongFalsely : Prop := schemaNamesRow.holds Try.pinned (OpenSpec.ofChange schemaNamesWrong)

/-- 'warehouselaw5.SchemaValidates': WHATEVER THE INPUT: true; the input reads as it did. -/
def schemaValidatesSpec : ChangeSpec := { name := "schemaValidates", fn := fun _ => fun
  | [d1, d2, d3] => { results := [.lit (.bool true)], args := [d1, d2, d3] }
  | _ => none }
def schemaValidatesRow : OpenClaim := { program := "ytdlkkajkflebgaa", sum := "dc4c5143d071961b4f78f31f5205693bdbf0db32281c22f1928711052e8d04a5", func := "warehouse/warehouselaw5.SchemaValidates", spec := "schemaValidates", inPlace := ["internal/bytealg.IndexByteString", "internal/bytealg.IndexString"], named := ["internal/bytealg.MaxLen"], apart := false }
def SchemaValidatesSaid : Prop := schemaValidatesRow.holds Try.pinned (OpenSpec.ofChange schemaValidatesSpec)

/-- ITS FALSE NEIGHBOUR: 'it returns false'. Refute it at one input. -/
def schemaValidatesWrong : ChangeSpec := { name := "schemaValidates", fn := fun _ => fun
  | [d1, d2, d3] => { results := [.lit (.bool false)], args := [d1, d2, d3] }
  | _ => none }
def SchemaValidatesWrongFalsely : Prop := schemaValidatesRow.holds Try.pinned (OpenSpec.ofChange schemaValidatesWrong)

/-- 'warehouselaw5.SchemaFinds': WHATEVER THE INPUT: true; the input reads as it did. -/
def schemaFindsSpec : ChangeSpec := { name := "schemaFinds", fn := fun _ => fun
  | [d1, d2, d3, d4] => { results := [.lit (.bool true)], args := [d1, d2, d3, d4] }
  | _ => none }
def schemaFindsRow : OpenClaim := { program := "ytdlkkajkflebgaa", sum := "dc4c5143d071961b4f78f31f5205693bdbf0db32281c22f1928711052e8d04a5", func := "warehouse/warehouselaw5.SchemaFinds", spec := "schemaFinds", inPlace := ["internal/bytealg.IndexByteString", "internal/bytealg.IndexString"], named := ["internal/bytealg.MaxLen"], apart := false }
def SchemaFindsSaid : Prop := schemaFindsRow.holds Try.pinned (OpenSpec.ofChange schemaFindsSpec)

/-- ITS FALSE NEIGHBOUR: 'it returns false'. Refute it at one input. -/
def schemaFindsWrong : ChangeSpec := { name := "schemaFinds", fn := fun _ => fun
  | [d1, d2, d3, d4] => { results := [.lit (.bool false)], args := [d1, d2, d3, d4] }
  | _ => none }
def SchemaFindsWrongFalsely : Prop := schemaFindsRow.holds Try.pinned (OpenSpec.ofChange schemaFindsWrong)

/-- 'warehouselaw5.SchemaRows': WHATEVER THE INPUT: true; the input reads as it did. -/
def schemaRowsSpec : ChangeSpec := { name := "schemaRows", fn := fun _ => fun
  | [d1, d2, d3, d4] => { results := [.lit (.bool true)], args := [d1, d2, d3, d4] }
  | _ => none }
def schemaRowsRow : OpenClaim := { program := "ytdlkkajkflebgaa", sum := "dc4c5143d071961b4f78f31f5205693bdbf0db32281c22f1928711052e8d04a5", func := "warehouse/warehouselaw5.SchemaRows", spec := "schemaRows", inPlace := ["internal/bytealg.IndexByteString", "internal/bytealg.IndexString"], named := ["internal/bytealg.MaxLen"], apart := false }
def SchemaRowsSaid : Prop := schemaRowsRow.holds Try.pinned (OpenSpec.ofChange schemaRowsSpec)

/-- ITS FALSE NEIGHBOUR: 'it returns false'. Refute it at one input. -/
def schemaRowsWrong : ChangeSpec := { name := "schemaRows", fn := fun _ => fun
  | [d1, d2, d3, d4] => { results := [.lit (.bool false)], args := [d1, d2, d3, d4] }
  | _ => none }
def SchemaRowsWrongFalsely : Prop := schemaRowsRow.holds Try.pinned (OpenSpec.ofChange schemaRowsWrong)

/-- 'warehouselaw5.SchemaIndices': WHATEVER THE INPUT: true; the input reads as it did. -/
def schemaIndicesSpec : ChangeSpec := { name := "schemaIndices", fn := fun _ => fun
  | [d1, d2, d3, d4] => { results := [.lit (.bool true)], args := [d1, d2, d3, d4] }
  | _ => none }
def schemaIndicesRow : OpenClaim := { program := "ytdlkkajkflebgaa", sum := "dc4c5143d071961b4f78f31f5205693bdbf0db32281c22f1928711052e8d04a5", func := "warehouse/warehouselaw5.SchemaIndices", spec := "schemaIndices", inPlace := ["internal/bytealg.IndexByteString", "internal/bytealg.IndexString"], named := ["internal/bytealg.MaxLen"], apart := false }
def SchemaIndicesSaid : Prop := schemaIndicesRow.holds Try.pinned (OpenSpec.ofChange schemaIndicesSpec)

/-- ITS FALSE NEIGHBOUR: 'it returns false'. Refute it at one input. -/
def schemaIndicesWrong : ChangeSpec := { name := "schemaIndices", fn := fun _ => fun
  | [d1, d2, d3, d4] => { results := [.lit (.bool false)], args := [d1, d2, d3, d4] }
  | _ => none }
def SchemaIndicesWrongFalsely : Prop := schemaIndicesRow.holds Try.pinned (OpenSpec.ofChange schemaIndicesWrong)

/-- 'warehouselaw5.SchemaPicks': WHATEVER THE INPUT: true; the input reads as it did. -/
def schemaPicksSpec : ChangeSpec := { name := "schemaPicks", fn := fun _ => fun
  | [d1, d2, d3, d4] => { results := [.lit (.bool true)], args := [d1, d2, d3, d4] }
  | _ => none }
def schemaPicksRow : OpenClaim := { program := "ytdlkkajkflebgaa", sum := "dc4c5143d071961b4f78f31f5205693bdbf0db32281c22f1928711052e8d04a5", func := "warehouse/warehouselaw5.SchemaPicks", spec := "schemaPicks", inPlace := ["internal/bytealg.IndexByteString", "internal/bytealg.IndexString"], named := ["internal/bytealg.MaxLen"], apart := false }
def SchemaPicksSaid : Prop := schemaPicksRow.holds Try.pinned (OpenSpec.ofChange schemaPicksSpec)

/-- ITS FALSE NEIGHBOUR: 'it returns false'. Refute it at one input. -/
def schemaPicksWrong : ChangeSpec := { name := "schemaPicks", fn := fun _ => fun
  | [d1, d2, d3, d4] => { results := [.lit (.bool false)], args := [d1, d2, d3, d4] }
  | _ => none }
def SchemaPicksWrongFalsely : Prop := schemaPicksRow.holds Try.pinned (OpenSpec.ofChange schemaPicksWrong)

/-- 'warehouselaw5.SchemaWidens': WHATEVER THE INPUT: true; the input reads as it did. -/
def schemaWidensSpec : ChangeSpec := { name := "schemaWidens", fn := fun _ => fun
  | [d1, d2, d3, d4, d5] => { results := [.lit (.bool true)], args := [d1, d2, d3, d4, d5] }
  | _ => none }
def schemaWidensRow : OpenClaim := { program := "ytdlkkajkflebgaa", sum := "dc4c5143d071961b4f78f31f5205693bdbf0db32281c22f1928711052e8d04a5", func := "warehouse/warehouselaw5.SchemaWidens", spec := "schemaWidens", inPlace := ["internal/bytealg.IndexByteString", "internal/bytealg.IndexString"], named := ["internal/bytealg.MaxLen"], apart := false }
def SchemaWidensSaid : Prop := schemaWidensRow.holds Try.pinned (OpenSpec.ofChange schemaWidensSpec)

/-- ITS FALSE NEIGHBOUR: 'it returns false'. Refute it at one input. -/
def schemaWidensWrong : ChangeSpec := { name := "schemaWidens", fn := fun _ => fun
  | [d1, d2, d3, d4, d5] => { results := [.lit (.bool false)], args := [d1, d2, d3, d4, d5] }
  | _ => none }
def SchemaWidensWrongFalsely : Prop := schemaWidensRow.holds Try.pinned (OpenSpec.ofChange schemaWidensWrong)

/- THE SECOND FORM. 'bulk': how many values and letters a reading holds, each counted each time it is reached (what is shared counts as often as it is met; a slice's spare places count too). A statement '..UptoSaid' is the law's where the arguments, and the package variables that the reading takes, are together of bulk at most 1048576: NARROWER than '..Said'. Prove '..Said' where nothing that the law and all that it calls make is longer than what came in: it says more and counts as full. Else prove '..UptoSaid'. A law counts once. -/
mutual
def uptoBulk {H : Type} : DataW H → Nat
  | .lit (.string bytes) => bytes.length + 1
  | .lit _ => 1
  | .nil => 1
  | .ptr d => uptoBulk d + 1
  | .slice elems spare => uptoBulkAll elems + uptoBulkAll spare + 1
  | .agg parts => uptoBulkAll parts + 1
  | .iface _ d => uptoBulk d + 1
  | .map entries => uptoBulkEntries entries + 1
  | .held _ => 1
def uptoBulkAll {H : Type} : List (DataW H) → Nat
  | [] => 0
  | d :: r => uptoBulk d + uptoBulkAll r
def uptoBulkEntries {H : Type} : List (Lit × DataW H) → Nat
  | [] => 0
  | x :: r => uptoBulkEntry x + uptoBulkEntries r
def uptoBulkEntry {H : Type} : Lit × DataW H → Nat
  | (.string bytes, d) => bytes.length + uptoBulk d + 1
  | (_, d) => uptoBulk d + 1
 end
def uptoSmall : (H : Type) → List (DataW H) → Bool := fun _ ds => decide (uptoBulkAll ds ≤ 1048576)
def OpenSpec.upto (s : _root_.Go.ChangeSpec) : _root_.Go.OpenSpec := { _root_.Go.OpenSpec.ofChange s with cond := some uptoSmall }

/-- 'warehouselaw5.SchemaNames', WHERE WHAT IT READS IS OF BULK AT MOST 1048576: true; the input reads as it did. -/
def schemaNamesUptoRow : OpenClaim := { program := "ytdlkkajkflebgaa", sum := "dc4c5143d071961b4f78f31f5205693bdbf0db32281c22f1928711052e8d04a5", func := "warehouse/warehouselaw5.SchemaNames", spec := "schemaNames", inPlace := ["internal/bytealg.IndexByteString", "internal/bytealg.IndexString"], named := ["internal/bytealg.MaxLen"], apart := false, narrowed := true }
def SchemaNamesUptoSaid : Prop := schemaNamesUptoRow.holds Try.pinned (OpenSpec.upto schemaNamesSpec)

/-- 'warehouselaw5.SchemaValidates', WHERE WHAT IT READS IS OF BULK AT MOST 1048576: true; the input reads as it did. -/
def schemaValidatesUptoRow : OpenClaim := { program := "ytdlkkajkflebgaa", sum := "dc4c5143d071961b4f78f31f5205693bdbf0db32281c22f1928711052e8d04a5", func := "warehouse/warehouselaw5.SchemaValidates", spec := "schemaValidates", inPlace := ["internal/bytealg.IndexByteString", "internal/bytealg.IndexString"], named := ["internal/bytealg.MaxLen"], apart := false, narrowed := true }
def SchemaValidatesUptoSaid : Prop := schemaValidatesUptoRow.holds Try.pinned (OpenSpec.upto schemaValidatesSpec)

/-- 'warehouselaw5.SchemaFinds', WHERE WHAT IT READS IS OF BULK AT MOST 1048576: true; the input reads as it did. -/
def schemaFindsUptoRow : OpenClaim := { program := "ytdlkkajkflebgaa", sum := "dc4c5143d071961b4f78f31f5205693bdbf0db32281c22f1928711052e8d04a5", func := "warehouse/warehouselaw5.SchemaFinds", spec := "schemaFinds", inPlace := ["internal/bytealg.IndexByteString", "internal/bytealg.IndexString"], named := ["internal/bytealg.MaxLen"], apart := false, narrowed := true }
def SchemaFindsUptoSaid : Prop := schemaFindsUptoRow.holds Try.pinned (OpenSpec.upto schemaFindsSpec)

/-- 'warehouselaw5.SchemaRows', WHERE WHAT IT READS IS OF BULK AT MOST 1048576: true; the input reads as it did. -/
def schemaRowsUptoRow : OpenClaim := { program := "ytdlkkajkflebgaa", sum := "dc4c5143d071961b4f78f31f5205693bdbf0db32281c22f1928711052e8d04a5", func := "warehouse/warehouselaw5.SchemaRows", spec := "schemaRows", inPlace := ["internal/bytealg.IndexByteString", "internal/bytealg.IndexString"], named := ["internal/bytealg.MaxLen"], apart := false, narrowed := true }
def SchemaRowsUptoSaid : Prop := schemaRowsUptoRow.holds Try.pinned (OpenSpec.upto schemaRowsSpec)

/-- 'warehouselaw5.SchemaIndices', WHERE WHAT IT READS IS OF BULK AT MOST 1048576: true; the input reads as it did. -/
def schemaIndicesUptoRow : OpenClaim := { program := "ytdlkkajkflebgaa", sum := "dc4c5143d071961b4f78f31f5205693bdbf0db32281c22f1928711052e8d04a5", func := "warehouse/warehouselaw5.SchemaIndices", spec := "schemaIndices", inPlace := ["internal/bytealg.IndexByteString", "internal/bytealg.IndexString"], named := ["internal/bytealg.MaxLen"], apart := false, narrowed := true }
def SchemaIndicesUptoSaid : Prop := schemaIndicesUptoRow.holds Try.pinned (OpenSpec.upto schemaIndicesSpec)

/-- 'warehouselaw5.SchemaPicks', WHERE WHAT IT READS IS OF BULK AT MOST 1048576: true; the input reads as it did. -/
def schemaPicksUptoRow : OpenClaim := { program := "ytdlkkajkflebgaa", sum := "dc4c5143d071961b4f78f31f5205693bdbf0db32281c22f1928711052e8d04a5", func := "warehouse/warehouselaw5.SchemaPicks", spec := "schemaPicks", inPlace := ["internal/bytealg.IndexByteString", "internal/bytealg.IndexString"], named := ["internal/bytealg.MaxLen"], apart := false, narrowed := true }
def SchemaPicksUptoSaid : Prop := schemaPicksUptoRow.holds Try.pinned (OpenSpec.upto schemaPicksSpec)

/-- 'warehouselaw5.SchemaWidens', WHERE WHAT IT READS IS OF BULK AT MOST 1048576: true; the input reads as it did. -/
def schemaWidensUptoRow : OpenClaim := { program := "ytdlkkajkflebgaa", sum := "dc4c5143d071961b4f78f31f5205693bdbf0db32281c22f1928711052e8d04a5", func := "warehouse/warehouselaw5.SchemaWidens", spec := "schemaWidens", inPlace := ["internal/bytealg.IndexByteString", "internal/bytealg.IndexString"], named := ["internal/bytealg.MaxLen"], apart := false, narrowed := true }
def SchemaWidensUptoSaid : Prop := schemaWidensUptoRow.holds Try.pinned (OpenSpec.upto schemaWidensSpec)

end Rows
end Go.Proofs.Ytdlkkajkflebgaa
