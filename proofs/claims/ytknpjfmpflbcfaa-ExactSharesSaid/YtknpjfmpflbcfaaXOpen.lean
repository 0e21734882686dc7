/-
  A ratio that came in.
-/
import Derived.Test.YtknpjfmpflbcfaaGLift
import Derived.Test.YtknpjfmpflbcfaaXRatio
set_option linter.unusedVariables false
namespace Go.Proofs.Ytknpjfmpflbcfaa
open Go.ChangeShapes Go.WideShapes Go.ChangeAt Go.RowKit Go.Joins Wh

theorem cellsR : Try.prog.cellsOf 31 = 2 := by kernel_rfl

/-- A ratio that came in: its two fields. -/
theorem open_rat {H : Type} {enc : TypeId × Value → H} {W : World} {base : Nat} {v : Value} {d : DataW H} {p : List MemPlace} (hv : Value.okWide Try.prog W .any base 31 v)
    (h : DataW.Trod enc Try.prog W 0 (fun _ => true) true 31 v d p) :
    ∃ (k n : Int), v = rat k n ∧ (Lit.int .i64 k).wf = true ∧ (Lit.int .i64 n).wf = true := by
  obtain ⟨c0, c1, y0, y1, m, rfl, rfl, rfl, h0, h1⟩ := open_agg2 Try.underlying31 (by kernel_rfl) cellsR hv h
  obtain ⟨k, e0, _, wk⟩ := DataW.trod_int Try.underlying3 h0
  obtain ⟨n, e1, _, wn⟩ := DataW.trod_int Try.underlying3 h1
  simp at e0 e1
  subst e0 e1
  exact ⟨k, n, rfl, wk, wn⟩

end Go.Proofs.Ytknpjfmpflbcfaa
