/-
  NARROWER THAN 'FOR EVERY INPUT', by the rows' own cells (each row's printed sentence says how): ExprValidates: laid · ExprRenames: laid.
  DERIVED. THE GIVEN ROWS OF THIS SEAT. 2 by the template 'for every input the law returns true; each argument reads behind the call as it read before'; 0 by the template 'total and deterministic' (their statements: YtmdpjahhhfajaaaDoorTotals.lean).
  GIVEN WITH THE SEED: the statements are not yours to turn. If you find one false, say at which input.
  Laid BY PROGRAM, IN A SANDBOX (cutbox-rows.mjs): the forced cells as the released guide's own fill.sh prints them over the translation 6b409edffc653d93… (all of the seat's roots in one cut). By AI agents, Wed Nov 11 2026. No macro, syntax, notation, axiom, sorry.
-/
import Derived.Test.YtmdpjahhhfajaaaDoorChecked
import GoSem.Claim
import GoSem.ClaimJoined
import GoSem.ClaimMapViews
import Derived.JoinedTies
import Derived.KernelRfl
namespace Go.Proofs.YtmdpjahhhfajaaaDoor
/- THE CELL 'sum', in the pinned program and in every row, IS THE sha256 OF THE DUMP (.gsa) THAT YtmdpjahhhfajaaaDoorProg.lean LOADS. Nothing in Lean hashes anything: it is a label: what it is worth is what the hold of that sum in a sandbox is worth. -/
noncomputable def Tryd.pinned : Pinned := { name := "ytmdpjahhhfajaaadoor", sum := "6b409edffc653d934b69f1d560f7fa3e422432e760f3c2c34f876326ef9c03f5", checked := Tryd.checked }
namespace Rows
def none {H : Type} : Left H := { results := [], args := [] }

/- WHAT THE LISTED PACKAGE-LEVEL VARIABLES READ AS WHEN THE CALL BEGINS. Each datum BY PROGRAM (the guide's laid-datum.mjs) off the statement by which the dump's own 'gosem.cut.vars' lays the variable. In a bare row this is a premise. The card (YtmdpjahhhfajaaaDoorCards.lean) ties it to the program's text. -/
def laid_warehouse_expr_builtins {H : Type} : DataW H := .agg [.agg [.lit (.string [105, 102]), .lit (.int .i64 17)], .agg [.lit (.string [99, 111, 97, 108, 101, 115, 99, 101]), .lit (.int .i64 18)], .agg [.lit (.string [105, 115, 110, 117, 108, 108]), .lit (.int .i64 16)], .agg [.lit (.string [108, 101, 110, 103, 116, 104]), .lit (.int .i64 19)], .agg [.lit (.string [100, 97, 121]), .lit (.int .i64 20)]]

/-- 'warehouselaw8.ExprValidates': WHATEVER THE INPUT: true; the input reads as it did. -/
def exprValidatesSpec : ChangeSpec := { name := "exprValidates", fn := fun _ => fun
  | [d1, d2, d3, d4] => { results := [.lit (.bool true)], args := [d1, d2, d3, d4] }
  | _ => none }
def exprValidatesRow : OpenClaim := { program := "ytmdpjahhhfajaaadoor", sum := "6b409edffc653d934b69f1d560f7fa3e422432e760f3c2c34f876326ef9c03f5", func := "warehouse/warehouselaw8.ExprValidates", spec := "exprValidates", inPlace := ["internal/bytealg.IndexByteString", "internal/bytealg.IndexString"], recurses := true, named := ["internal/bytealg.MaxLen", "warehouse/expr.builtins"], apart := false, laid := [("warehouse/expr.builtins", laid_warehouse_expr_builtins)] }
def ExprValidatesSaid : Prop := exprValidatesRow.holds Tryd.pinned (OpenSpec.ofChange exprValidatesSpec)

/-- ITS FALSE NEIGHBOUR: 'it returns false'. Refute it at one input. -/
def exprValidatesWrong : ChangeSpec := { name := "exprValidates", fn := fun _ => fun
  | [d1, d2, d3, d4] => { results := [.lit (.bool false)], args := [d1, d2, d3, d4] }
  | _ => none }
def ExprValidatesWrongFalsely : Prop := exprValidatesRow.holds Tryd.pinned (OpenSpec.ofChange exprValidatesWrong)

/-- 'warehouselaw8.ExprRenames': WHATEVER THE INPUT: true; the input reads as it did. -/
def exprRenamesSpec : ChangeSpec := { name := "exprRenames", fn := fun _ => fun
  | [d1, d2, d3, d4, d5] => { results := [.lit (.bool true)], args := [d1, d2, d3, d4, d5] }
  | _ => none }
def exprRenamesRow : OpenClaim := { program := "ytmdpjahhhfajaaadoor", sum := "6b409edffc653d934b69f1d560f7fa3e422432e760f3c2c34f876326ef9c03f5", func := "warehouse/warehouselaw8.ExprRenames", spec := "exprRenames", inPlace := ["internal/bytealg.IndexByteString", "internal/bytealg.IndexString"], recurses := true, named := ["internal/bytealg.MaxLen", "warehouse/expr.builtins"], apart := false, laid := [("warehouse/expr.builtins", laid_warehouse_expr_builtins)] }
def ExprRenamesSaid : Prop := exprRenamesRow.holds Tryd.pinned (OpenSpec.ofChange exprRenamesSpec)

/-- ITS FALSE NEIGHBOUR: 'it returns false'. Refute it at one input. -/
def exprRenamesWrong : ChangeSpec := { name := "exprRenames", fn := fun _ => fun
  | [d1, d2, d3, d4, d5] => { results := [.lit (.bool false)], args := [d1, d2, d3, d4, d5] }
  | _ => none }
def ExprRenamesWrongFalsely : Prop := exprRenamesRow.holds Tryd.pinned (OpenSpec.ofChange exprRenamesWrong)

/- THE SECOND FORM. 'bulk': how many values and letters a reading holds, each counted each time it is reached (what is shared counts as often as it is met; a slice's spare places count too). A statement '..UptoSaid' is the law's where the arguments, and the package variables that the reading takes, are together of bulk at most 1048576: NARROWER than '..Said'. Prove '..Said' where nothing that the law and all that it calls make is longer than what came in: it says more and counts as full. Else prove '..UptoSaid'. A law counts once. -/
mutual
def uptoBulk {H : Type} : DataW H → Nat
  | .lit (.string bytes) => bytes.length + 1
  | .lit _ => 1
  | .nil => 1
  | .ptr d => uptoBulk d + 1
  | .slice elems spare => uptoBulkAll elems + uptoBulkAll spare + 1
  | .agg parts => uptoBulkAll parts + 1
  | .iface _ d => uptoBulk d + 1
  | .map entries => uptoBulkEntries entries + 1
  | .held _ => 1
def uptoBulkAll {H : Type} : List (DataW H) → Nat
  | [] => 0
  | d :: r => uptoBulk d + uptoBulkAll r
def uptoBulkEntries {H : Type} : List (Lit × DataW H) → Nat
  | [] => 0
  | x :: r => uptoBulkEntry x + uptoBulkEntries r
def uptoBulkEntry {H : Type} : Lit × DataW H → Nat
  | (.string bytes, d) => bytes.length + uptoBulk d + 1
  | (_, d) => uptoBulk d + 1
 end
def uptoSmall : (H : Type) → List (DataW H) → Bool := fun _ ds => decide (uptoBulkAll ds ≤ 1048576)
def OpenSpec.upto (s : _root_.Go.ChangeSpec) : _root_.Go.OpenSpec := { _root_.Go.OpenSpec.ofChange s with cond := some uptoSmall }

/-- 'warehouselaw8.ExprValidates', WHERE WHAT IT READS IS OF BULK AT MOST 1048576: true; the input reads as it did. -/
def exprValidatesUptoRow : OpenClaim := { program := "ytmdpjahhhfajaaadoor", sum := "6b409edffc653d934b69f1d560f7fa3e422432e760f3c2c34f876326ef9c03f5", func := "warehouse/warehouselaw8.ExprValidates", spec := "exprValidates", inPlace := ["internal/bytealg.IndexByteString", "internal/bytealg.IndexString"], recurses := true, named := ["internal/bytealg.MaxLen", "warehouse/expr.builtins"], apart := false, laid := [("warehouse/expr.builtins", laid_warehouse_expr_builtins)], narrowed := true }
def ExprValidatesUptoSaid : Prop := exprValidatesUptoRow.holds Tryd.pinned (OpenSpec.upto exprValidatesSpec)

/-- 'warehouselaw8.ExprRenames', WHERE WHAT IT READS IS OF BULK AT MOST 1048576: true; the input reads as it did. -/
def exprRenamesUptoRow : OpenClaim := { program := "ytmdpjahhhfajaaadoor", sum := "6b409edffc653d934b69f1d560f7fa3e422432e760f3c2c34f876326ef9c03f5", func := "warehouse/warehouselaw8.ExprRenames", spec := "exprRenames", inPlace := ["internal/bytealg.IndexByteString", "internal/bytealg.IndexString"], recurses := true, named := ["internal/bytealg.MaxLen", "warehouse/expr.builtins"], apart := false, laid := [("warehouse/expr.builtins", laid_warehouse_expr_builtins)], narrowed := true }
def ExprRenamesUptoSaid : Prop := exprRenamesUptoRow.holds Tryd.pinned (OpenSpec.upto exprRenamesSpec)

end Rows
end Go.Proofs.YtmdpjahhhfajaaaDoor
