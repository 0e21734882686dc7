/-
  The statement of the law BagNormalizes: for every input it returns true, and its arguments read as they read before. No conditions.
-/
import Derived.Test.YtdhhhmehkldliaaBOpen
import Derived.Test.YtdhhhmehkldliaaGInts
import Derived.Test.YtdhhhmehkldliaaBLNorm
set_option linter.unusedVariables false
namespace Go.Proofs.Ytdhhhmehkldliaa
open Go.ChangeShapes Go.WideShapes Go.ChangeAt Go.RowKit Wh

set_option maxRecDepth 100000 in
theorem bagNormalizes_lifted (os : Os) (started : os.Started) (H : Type) (enc : TypeId × Value → H) :
    ReturnsInHanded {} Try.checked os 4 .any (Rows.bagNormalizesSpec.pre6 enc Try.prog Try.f4 Rows.bagNormalizesRow.domain false) (Rows.bagNormalizesSpec.post enc Try.prog Try.f4 false true false false) := by
  refine returnsInHanded_of_change (C := Try.checked) own started (by kernel_rfl) Try.func4
    (ChangeSpec.witness6 (enc := enc) (C := Try.checked) false ⟨#[], #[.slice none 0 0, .slice none 0 0, .int .i64 0], []⟩ 8 (by kernel_rfl) (by kernel_rfl) (by kernel_rfl) (by kernel_rfl)) ?_
  intro W base args ds gs before hval0 hW hcnd _
  have hval : ∀ (j : Nat) t v, Try.f4.params[j]? = some t → args[j]? = some v → Value.okWide Try.prog W .any base t v := hval0
  have hW' := hW
  obtain ⟨p, q, hA0, hV, rfl, hfz, hnd⟩ := hW
  have hA : DataW.TrodAll enc Try.prog W 0 (fun _ => true) true Try.f4.params.toList args.toList ds p := hA0
  rw [Try.params4] at hA hval
  obtain ⟨v0, vs0, d0, ds0, p0, q0, hargs, rfl, rfl, h0, r0⟩ := trodAll_cons hA
  obtain ⟨v1, vs1, d1, ds1, p1, q1, rfl, rfl, rfl, h1, r1⟩ := trodAll_cons r0
  obtain ⟨v2, vs2, d2, ds2, p2, q2, rfl, rfl, rfl, h2, r2⟩ := trodAll_cons r1
  obtain ⟨rfl, rfl, rfl⟩ := trodAll_nil r2
  obtain rfl : args = #[v0, v1, v2] := by cases args; simp_all
  obtain ⟨rfl, rfl⟩ := trodVars_none hV
  have t0 := h0
  obtain ⟨a0, len0, cap0, l0, rfl, hl0, hc0, hm0, hn0, hb0⟩ := open_ents (hval 0 22 v0 rfl rfl) h0
  have t1 := h1
  obtain ⟨a1, len1, cap1, l1, rfl, hl1, hc1, hm1, hb1⟩ := open_intlist (hval 1 23 v1 rfl rfl) h1
  have t2 := h2
  obtain ⟨n2, rfl, _, _, w2⟩ := open_int Try.underlying3 (hval 2 3 v2 rfl rfl) h2
  clear hA0 hval0
  refine (normalizes_walk W a0 len0 cap0 l0 hl0 hc0 hm0 hn0 hb0 a1 len1 cap1 l1 hl1 hc1 hm1 hb1 n2 (bounds_i64 w2).1 (bounds_i64 w2).2).mono fun e W' ⟨he, bel⟩ => ?_
  subst he
  exact ⟨_, rfl, _, _, _, [], _, [], hW', trodAll_mk1 (shut_bool Try.underlying4 _), (trodAll_cons_mk (trod_back (by kernel_rfl) (of_decide_eq_true (by kernel_rfl)) t0 bel) (trodAll_cons_mk (trod_back (by kernel_rfl) (of_decide_eq_true (by kernel_rfl)) t1 bel) (trodAll_cons_mk (trod_back (by kernel_rfl) (of_decide_eq_true (by kernel_rfl)) t2 bel) trodAll_mk0))), rfl, bel.frame _, fun h => by cases h⟩

/-- For every input the law BagNormalizes returns true, and its arguments read as they read before. -/
theorem bagNormalizes_holds : Rows.BagNormalizesSaid :=
  OpenClaim.holds_of_wide 4 Try.f4 rfl rfl rfl rfl rfl rfl rfl ⟨rfl, rfl, rfl, rfl, rfl⟩ rfl rfl rfl rfl rfl (by kernel_rfl) Try.func4 (by kernel_rfl)
    (of_decide_eq_true (by kernel_rfl)) (by unfold Func.isWrapper; first | (rw [if_pos (by decide +kernel)]; kernel_rfl) | (rw [if_neg (by decide +kernel)]; exact ⟨rfl, rfl⟩))
    (fun os started H enc _ => bagNormalizes_lifted os started H enc)

end Go.Proofs.Ytdhhhmehkldliaa
