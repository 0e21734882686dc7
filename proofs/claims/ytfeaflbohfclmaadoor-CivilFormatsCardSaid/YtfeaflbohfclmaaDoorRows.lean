/-
  NARROWER THAN 'FOR EVERY INPUT', by the rows' own cells (each row's printed sentence says how): CivilDays: laid · CivilDates: laid · CivilWeeks: laid · CivilMonths: laid · CivilMoves: laid · CivilParses: laid · CivilFormats: laid.
  DERIVED. THE GIVEN ROWS OF THIS SEAT. 7 by the template 'for every input the law returns true; each argument reads behind the call as it read before'; 0 by the template 'total and deterministic' (their statements: YtfeaflbohfclmaaDoorTotals.lean).
  GIVEN WITH THE SEED: the statements are not yours to turn. If you find one false, say at which input.
  Laid BY PROGRAM, IN A SANDBOX (cutbox-rows.mjs): the forced cells as the released guide's own fill.sh prints them over the translation e8339a76f4c5a7d7… (all of the seat's roots in one cut). By AI agents, Wed Nov 11 2026. No macro, syntax, notation, axiom, sorry.
-/
import Derived.Test.YtfeaflbohfclmaaDoorChecked
import GoSem.Claim
import GoSem.ClaimJoined
import GoSem.ClaimMapViews
import Derived.JoinedTies
import Derived.KernelRfl
namespace Go.Proofs.YtfeaflbohfclmaaDoor
/- THE CELL 'sum', in the pinned program and in every row, IS THE sha256 OF THE DUMP (.gsa) THAT YtfeaflbohfclmaaDoorProg.lean LOADS. Nothing in Lean hashes anything: it is a label: what it is worth is what the hold of that sum in a sandbox is worth. -/
noncomputable def Tryd.pinned : Pinned := { name := "ytfeaflbohfclmaadoor", sum := "e8339a76f4c5a7d7a799be28172b515409cd646e6300c53b871bcefcf29d4c27", checked := Tryd.checked }
namespace Rows
def none {H : Type} : Left H := { results := [], args := [] }

/- WHAT THE LISTED PACKAGE-LEVEL VARIABLES READ AS WHEN THE CALL BEGINS. Each datum BY PROGRAM (the guide's laid-datum.mjs) off the statement by which the dump's own 'gosem.cut.vars' lays the variable. In a bare row this is a premise. The card (YtfeaflbohfclmaaDoorCards.lean) ties it to the program's text. -/
def laid_warehouse_civil_monthLengths {H : Type} : DataW H := .agg [.lit (.int .i64 31), .lit (.int .i64 28), .lit (.int .i64 31), .lit (.int .i64 30), .lit (.int .i64 31), .lit (.int .i64 30), .lit (.int .i64 31), .lit (.int .i64 31), .lit (.int .i64 30), .lit (.int .i64 31), .lit (.int .i64 30), .lit (.int .i64 31)]

/-- 'warehouselaw3.CivilDays': WHATEVER THE INPUT: true; the input reads as it did. -/
def civilDaysSpec : ChangeSpec := { name := "civilDays", fn := fun _ => fun
  | [d1, d2, d3] => { results := [.lit (.bool true)], args := [d1, d2, d3] }
  | _ => none }
def civilDaysRow : OpenClaim := { program := "ytfeaflbohfclmaadoor", sum := "e8339a76f4c5a7d7a799be28172b515409cd646e6300c53b871bcefcf29d4c27", func := "warehouse/warehouselaw3.CivilDays", spec := "civilDays", named := ["warehouse/civil.monthLengths"], apart := false, laid := [("warehouse/civil.monthLengths", laid_warehouse_civil_monthLengths)] }
def CivilDaysSaid : Prop := civilDaysRow.holds Tryd.pinned (OpenSpec.ofChange civilDaysSpec)

/-- ITS FALSE NEIGHBOUR: 'it returns false'. Refute it at one input. -/
def civilDaysWrong : ChangeSpec := { name := "civilDays", fn := fun _ => fun
  | [d1, d2, d3] => { results := [.lit (.bool false)], args := [d1, d2, d3] }
  | _ => none }
def CivilDaysWrongFalsely : Prop := civilDaysRow.holds Tryd.pinned (OpenSpec.ofChange civilDaysWrong)

/-- 'warehouselaw3.CivilDates': WHATEVER THE INPUT: true; the input reads as it did. -/
def civilDatesSpec : ChangeSpec := { name := "civilDates", fn := fun _ => fun
  | [d1, d2] => { results := [.lit (.bool true)], args := [d1, d2] }
  | _ => none }
def civilDatesRow : OpenClaim := { program := "ytfeaflbohfclmaadoor", sum := "e8339a76f4c5a7d7a799be28172b515409cd646e6300c53b871bcefcf29d4c27", func := "warehouse/warehouselaw3.CivilDates", spec := "civilDates", named := ["warehouse/civil.monthLengths"], apart := false, laid := [("warehouse/civil.monthLengths", laid_warehouse_civil_monthLengths)] }
def CivilDatesSaid : Prop := civilDatesRow.holds Tryd.pinned (OpenSpec.ofChange civilDatesSpec)

/-- ITS FALSE NEIGHBOUR: 'it returns false'. Refute it at one input. -/
def civilDatesWrong : ChangeSpec := { name := "civilDates", fn := fun _ => fun
  | [d1, d2] => { results := [.lit (.bool false)], args := [d1, d2] }
  | _ => none }
def CivilDatesWrongFalsely : Prop := civilDatesRow.holds Tryd.pinned (OpenSpec.ofChange civilDatesWrong)

/-- 'warehouselaw3.CivilWeeks': WHATEVER THE INPUT: true; the input reads as it did. -/
def civilWeeksSpec : ChangeSpec := { name := "civilWeeks", fn := fun _ => fun
  | [d1, d2] => { results := [.lit (.bool true)], args := [d1, d2] }
  | _ => none }
def civilWeeksRow : OpenClaim := { program := "ytfeaflbohfclmaadoor", sum := "e8339a76f4c5a7d7a799be28172b515409cd646e6300c53b871bcefcf29d4c27", func := "warehouse/warehouselaw3.CivilWeeks", spec := "civilWeeks", named := ["warehouse/civil.monthLengths"], apart := false, laid := [("warehouse/civil.monthLengths", laid_warehouse_civil_monthLengths)] }
def CivilWeeksSaid : Prop := civilWeeksRow.holds Tryd.pinned (OpenSpec.ofChange civilWeeksSpec)

/-- ITS FALSE NEIGHBOUR: 'it returns false'. Refute it at one input. -/
def civilWeeksWrong : ChangeSpec := { name := "civilWeeks", fn := fun _ => fun
  | [d1, d2] => { results := [.lit (.bool false)], args := [d1, d2] }
  | _ => none }
def CivilWeeksWrongFalsely : Prop := civilWeeksRow.holds Tryd.pinned (OpenSpec.ofChange civilWeeksWrong)

/-- 'warehouselaw3.CivilMonths': WHATEVER THE INPUT: true; the input reads as it did. -/
def civilMonthsSpec : ChangeSpec := { name := "civilMonths", fn := fun _ => fun
  | [d1, d2, d3, d4] => { results := [.lit (.bool true)], args := [d1, d2, d3, d4] }
  | _ => none }
def civilMonthsRow : OpenClaim := { program := "ytfeaflbohfclmaadoor", sum := "e8339a76f4c5a7d7a799be28172b515409cd646e6300c53b871bcefcf29d4c27", func := "warehouse/warehouselaw3.CivilMonths", spec := "civilMonths", named := ["warehouse/civil.monthLengths"], apart := false, laid := [("warehouse/civil.monthLengths", laid_warehouse_civil_monthLengths)] }
def CivilMonthsSaid : Prop := civilMonthsRow.holds Tryd.pinned (OpenSpec.ofChange civilMonthsSpec)

/-- ITS FALSE NEIGHBOUR: 'it returns false'. Refute it at one input. -/
def civilMonthsWrong : ChangeSpec := { name := "civilMonths", fn := fun _ => fun
  | [d1, d2, d3, d4] => { results := [.lit (.bool false)], args := [d1, d2, d3, d4] }
  | _ => none }
def CivilMonthsWrongFalsely : Prop := civilMonthsRow.holds Tryd.pinned (OpenSpec.ofChange civilMonthsWrong)

/-- 'warehouselaw3.CivilMoves': WHATEVER THE INPUT: true; the input reads as it did. -/
def civilMovesSpec : ChangeSpec := { name := "civilMoves", fn := fun _ => fun
  | [d1, d2, d3] => { results := [.lit (.bool true)], args := [d1, d2, d3] }
  | _ => none }
def civilMovesRow : OpenClaim := { program := "ytfeaflbohfclmaadoor", sum := "e8339a76f4c5a7d7a799be28172b515409cd646e6300c53b871bcefcf29d4c27", func := "warehouse/warehouselaw3.CivilMoves", spec := "civilMoves", named := ["warehouse/civil.monthLengths"], apart := false, laid := [("warehouse/civil.monthLengths", laid_warehouse_civil_monthLengths)] }
def CivilMovesSaid : Prop := civilMovesRow.holds Tryd.pinned (OpenSpec.ofChange civilMovesSpec)

/-- ITS FALSE NEIGHBOUR: 'it returns false'. Refute it at one input. -/
def civilMovesWrong : ChangeSpec := { name := "civilMoves", fn := fun _ => fun
  | [d1, d2, d3] => { results := [.lit (.bool false)], args := [d1, d2, d3] }
  | _ => none }
def CivilMovesWrongFalsely : Prop := civilMovesRow.holds Tryd.pinned (OpenSpec.ofChange civilMovesWrong)

/-- 'warehouselaw3.CivilParses': WHATEVER THE INPUT: true; the input reads as it did. -/
def civilParsesSpec : ChangeSpec := { name := "civilParses", fn := fun _ => fun
  | [d1, d2, d3, d4] => { results := [.lit (.bool true)], args := [d1, d2, d3, d4] }
  | _ => none }
def civilParsesRow : OpenClaim := { program := "ytfeaflbohfclmaadoor", sum := "e8339a76f4c5a7d7a799be28172b515409cd646e6300c53b871bcefcf29d4c27", func := "warehouse/warehouselaw3.CivilParses", spec := "civilParses", named := ["warehouse/civil.monthLengths"], apart := false, laid := [("warehouse/civil.monthLengths", laid_warehouse_civil_monthLengths)] }
def CivilParsesSaid : Prop := civilParsesRow.holds Tryd.pinned (OpenSpec.ofChange civilParsesSpec)

/-- ITS FALSE NEIGHBOUR: 'it returns false'. Refute it at one input. -/
def civilParsesWrong : ChangeSpec := { name := "civilParses", fn := fun _ => fun
  | [d1, d2, d3, d4] => { results := [.lit (.bool false)], args := [d1, d2, d3, d4] }
  | _ => none }
def CivilParsesWrongFalsely : Prop := civilParsesRow.holds Tryd.pinned (OpenSpec.ofChange civilParsesWrong)

/-- 'warehouselaw3.CivilFormats': WHATEVER THE INPUT: true; the input reads as it did. -/
def civilFormatsSpec : ChangeSpec := { name := "civilFormats", fn := fun _ => fun
  | [d1, d2, d3] => { results := [.lit (.bool true)], args := [d1, d2, d3] }
  | _ => none }
def civilFormatsRow : OpenClaim := { program := "ytfeaflbohfclmaadoor", sum := "e8339a76f4c5a7d7a799be28172b515409cd646e6300c53b871bcefcf29d4c27", func := "warehouse/warehouselaw3.CivilFormats", spec := "civilFormats", named := ["warehouse/civil.monthLengths"], apart := false, laid := [("warehouse/civil.monthLengths", laid_warehouse_civil_monthLengths)] }
def CivilFormatsSaid : Prop := civilFormatsRow.holds Tryd.pinned (OpenSpec.ofChange civilFormatsSpec)

/-- ITS FALSE NEIGHBOUR: 'it returns false'. Refute it at one input. -/
def civilFormatsWrong : ChangeSpec := { name := "civilFormats", fn := fun _ => fun
  | [d1, d2, d3] => { results := [.lit (.bool false)], args := [d1, d2, d3] }
  | _ => none }
def CivilFormatsWrongFalsely : Prop := civilFormatsRow.holds Tryd.pinned (OpenSpec.ofChange civilFormatsWrong)

/- THE SECOND FORM. 'bulk': how many values and letters a reading holds, each counted each time it is reached (what is shared counts as often as it is met; a slice's spare places count too). A statement '..UptoSaid' is the law's where the arguments, and the package variables that the reading takes, are together of bulk at most 1048576: NARROWER than '..Said'. Prove '..Said' where nothing that the law and all that it calls make is longer than what came in: it says more and counts as full. Else prove '..UptoSaid'. A law counts once. -/
mutual
def uptoBulk {H : Type} : DataW H → Nat
  | .lit (.string bytes) => bytes.length + 1
  | .lit _ => 1
  | .nil => 1
  | .ptr d => uptoBulk d + 1
  | .slice elems spare => uptoBulkAll elems + uptoBulkAll spare + 1
  | .agg parts => uptoBulkAll parts + 1
  | .iface _ d => uptoBulk d + 1
  | .map entries => uptoBulkEntries entries + 1
  | .held _ => 1
def uptoBulkAll {H : Type} : List (DataW H) → Nat
  | [] => 0
  | d :: r => uptoBulk d + uptoBulkAll r
def uptoBulkEntries {H : Type} : List (Lit × DataW H) → Nat
  | [] => 0
  | x :: r => uptoBulkEntry x + uptoBulkEntries r
def uptoBulkEntry {H : Type} : Lit × DataW H → Nat
  | (.string bytes, d) => bytes.length + uptoBulk d + 1
  | (_, d) => uptoBulk d + 1
 end
def uptoSmall : (H : Type) → List (DataW H) → Bool := fun _ ds => decide (uptoBulkAll ds ≤ 1048576)
def OpenSpec.upto (s : _root_.Go.ChangeSpec) : _root_.Go.OpenSpec := { _root_.Go.OpenSpec.ofChange s with cond := some uptoSmall }

/-- 'warehouselaw3.CivilDays', WHERE WHAT IT READS IS OF BULK AT MOST 1048576: true; the input reads as it did. -/
def civilDaysUptoRow : OpenClaim := { program := "ytfeaflbohfclmaadoor", sum := "e8339a76f4c5a7d7a799be28172b515409cd646e6300c53b871bcefcf29d4c27", func := "warehouse/warehouselaw3.CivilDays", spec := "civilDays", named := ["warehouse/civil.monthLengths"], apart := false, laid := [("warehouse/civil.monthLengths", laid_warehouse_civil_monthLengths)], narrowed := true }
def CivilDaysUptoSaid : Prop := civilDaysUptoRow.holds Tryd.pinned (OpenSpec.upto civilDaysSpec)

/-- 'warehouselaw3.CivilDates', WHERE WHAT IT READS IS OF BULK AT MOST 1048576: true; the input reads as it did. -/
def civilDatesUptoRow : OpenClaim := { program := "ytfeaflbohfclmaadoor", sum := "e8339a76f4c5a7d7a799be28172b515409cd646e6300c53b871bcefcf29d4c27", func := "warehouse/warehouselaw3.CivilDates", spec := "civilDates", named := ["warehouse/civil.monthLengths"], apart := false, laid := [("warehouse/civil.monthLengths", laid_warehouse_civil_monthLengths)], narrowed := true }
def CivilDatesUptoSaid : Prop := civilDatesUptoRow.holds Tryd.pinned (OpenSpec.upto civilDatesSpec)

/-- 'warehouselaw3.CivilWeeks', WHERE WHAT IT READS IS OF BULK AT MOST 1048576: true; the input reads as it did. -/
def civilWeeksUptoRow : OpenClaim := { program := "ytfeaflbohfclmaadoor", sum := "e8339a76f4c5a7d7a799be28172b515409cd646e6300c53b871bcefcf29d4c27", func := "warehouse/warehouselaw3.CivilWeeks", spec := "civilWeeks", named := ["warehouse/civil.monthLengths"], apart := false, laid := [("warehouse/civil.monthLengths", laid_warehouse_civil_monthLengths)], narrowed := true }
def CivilWeeksUptoSaid : Prop := civilWeeksUptoRow.holds Tryd.pinned (OpenSpec.upto civilWeeksSpec)

/-- 'warehouselaw3.CivilMonths', WHERE WHAT IT READS IS OF BULK AT MOST 1048576: true; the input reads as it did. -/
def civilMonthsUptoRow : OpenClaim := { program := "ytfeaflbohfclmaadoor", sum := "e8339a76f4c5a7d7a799be28172b515409cd646e6300c53b871bcefcf29d4c27", func := "warehouse/warehouselaw3.CivilMonths", spec := "civilMonths", named := ["warehouse/civil.monthLengths"], apart := false, laid := [("warehouse/civil.monthLengths", laid_warehouse_civil_monthLengths)], narrowed := true }
def CivilMonthsUptoSaid : Prop := civilMonthsUptoRow.holds Tryd.pinned (OpenSpec.upto civilMonthsSpec)

/-- 'warehouselaw3.CivilMoves', WHERE WHAT IT READS IS OF BULK AT MOST 1048576: true; the input reads as it did. -/
def civilMovesUptoRow : OpenClaim := { program := "ytfeaflbohfclmaadoor", sum := "e8339a76f4c5a7d7a799be28172b515409cd646e6300c53b871bcefcf29d4c27", func := "warehouse/warehouselaw3.CivilMoves", spec := "civilMoves", named := ["warehouse/civil.monthLengths"], apart := false, laid := [("warehouse/civil.monthLengths", laid_warehouse_civil_monthLengths)], narrowed := true }
def CivilMovesUptoSaid : Prop := civilMovesUptoRow.holds Tryd.pinned (OpenSpec.upto civilMovesSpec)

/-- 'warehouselaw3.CivilParses', WHERE WHAT IT READS IS OF BULK AT MOST 1048576: true; the input reads as it did. -/
def civilParsesUptoRow : OpenClaim := { program := "ytfeaflbohfclmaadoor", sum := "e8339a76f4c5a7d7a799be28172b515409cd646e6300c53b871bcefcf29d4c27", func := "warehouse/warehouselaw3.CivilParses", spec := "civilParses", named := ["warehouse/civil.monthLengths"], apart := false, laid := [("warehouse/civil.monthLengths", laid_warehouse_civil_monthLengths)], narrowed := true }
def CivilParsesUptoSaid : Prop := civilParsesUptoRow.holds Tryd.pinned (OpenSpec.upto civilParsesSpec)

/-- 'warehouselaw3.CivilFormats', WHERE WHAT IT READS IS OF BULK AT MOST 1048576: true; the input reads as it did. -/
def civilFormatsUptoRow : OpenClaim := { program := "ytfeaflbohfclmaadoor", sum := "e8339a76f4c5a7d7a799be28172b515409cd646e6300c53b871bcefcf29d4c27", func := "warehouse/warehouselaw3.CivilFormats", spec := "civilFormats", named := ["warehouse/civil.monthLengths"], apart := false, laid := [("warehouse/civil.monthLengths", laid_warehouse_civil_monthLengths)], narrowed := true }
def CivilFormatsUptoSaid : Prop := civilFormatsUptoRow.holds Tryd.pinned (OpenSpec.upto civilFormatsSpec)

end Rows
end Go.Proofs.YtfeaflbohfclmaaDoor
