/-
  The tied card of the law ExprValidates: for every input it returns true, and its arguments read as they read before. The listed package-level variable (expr's table of built-in functions) holds what the program's own initialiser lays (tied by the given tie). No other conditions.
-/
import Derived.Test.YtmdpjahhhfajaaaDoorJA12
import Derived.Test.YtmdpjahhhfajaaaDoorJA04
import Derived.Test.YtmdpjahhhfajaaaDoorJA01
import Derived.Test.YtmdpjahhhfajaaaDoorJA38
import Derived.Test.YtmdpjahhhfajaaaDoorTie
import Derived.Test.YtmdpjahhhfajaaaDoorCards
import Derived.LaidMore
import Derived.Lay
import Derived.SevenTiedAt
import Derived.LaidLaws
set_option linter.unusedVariables false
namespace Go.Proofs.YtmdpjahhhfajaaaDoor
open Go.ChangeShapes Go.WideShapes Go.ChangeAt Go.RowKit Wh

set_option maxRecDepth 100000 in
theorem exprValidates_lifted (os : Os) (started : os.Started) (H : Type) (enc : TypeId × Value → H) :
    ReturnsInHanded {} Tryd.checked os 3 .any (fun w args => (Rows.exprValidatesSpec.pre enc Tryd.prog Tryd.f3 [] false w args ∧ laidMetH Tryd.prog Rows.exprValidatesRow.laid w) ∧ sizedMet enc Tryd.prog Tryd.f3 (OpenSpec.ofChange Rows.exprValidatesSpec) false w args)
      (Rows.exprValidatesSpec.post enc Tryd.prog Tryd.f3 false true false false) := by
  refine returns_laid (C := Tryd.checked) (X := fun w _ => laidMetH Tryd.prog Rows.exprValidatesRow.laid w) (fun _ _ _ hh h => h.of_heap hh) own started (by kernel_rfl) Tryd.func3
    (ChangeSpec.witness_shaped (enc := enc) (C := Tryd.checked) (os := os) (X := fun w _ => laidMetH Tryd.prog Rows.exprValidatesRow.laid w) false (World.laidAll Tryd.prog os Rows.exprValidatesRow.laid) #[.slice none 0 0, .agg #[.int .i64 0, .int .i64 0, .int .i64 0, .string ⟨#[]⟩, .string ⟨#[]⟩, .int .i64 0], .slice none 0 0, .int .i64 0] 8 (World.laidAll_os _ _ _)
      (World.shaped_of_ZipB (by kernel_rfl) (by kernel_rfl)) (by kernel_rfl) (by kernel_rfl) (by kernel_rfl)
      (by rw [MakeChecks.laidMetH_plain _ _ _ (by kernel_rfl)]; exact laidMet_laidAll _ (by kernel_rfl) (by kernel_rfl))) ?_
  intro W base args ds gs before hval0 hW _ hsz hL hsh _
  have hval : ∀ (j : Nat) t v, Tryd.f3.params[j]? = some t → args[j]? = some v → Value.okWide Tryd.prog W .any base t v := hval0
  have hW' := hW
  obtain ⟨p, q, hA0, hV, rfl, hfz, hnd⟩ := hW
  have hA : DataW.TrodAll enc Tryd.prog W 0 (fun _ => true) true Tryd.f3.params.toList args.toList ds p := hA0
  rw [Tryd.params3] at hA hval hsz
  obtain ⟨v0, vs0, d0, ds0, p0, q0, hargs, rfl, rfl, h0, r0⟩ := trodAll_cons hA
  obtain ⟨v1, vs1, d1, ds1, p1, q1, rfl, rfl, rfl, h1, r1⟩ := trodAll_cons r0
  obtain ⟨v2, vs2, d2, ds2, p2, q2, rfl, rfl, rfl, h2, r2⟩ := trodAll_cons r1
  obtain ⟨v3, vs3, d3, ds3, p3, q3, rfl, rfl, rfl, h3, r3⟩ := trodAll_cons r2
  obtain ⟨rfl, rfl, rfl⟩ := trodAll_nil r3
  obtain rfl : args = #[v0, v1, v2, v3] := by cases args; simp_all
  obtain ⟨rfl, rfl⟩ := trodVars_none hV
  have hL' : laidMet Tryd.prog Rows.exprValidatesRow.laid W := by
    rw [MakeChecks.laidMetH_plain _ _ _ (by kernel_rfl)] at hL
    exact hL
  have hT : TabB W := tabD_of (n := _) hL' (by kernel_rfl)
  clear hL hL' hsh
  have t0 := h0
  obtain ⟨a0, len0, cap0, l0, rfl, hl0, hc0, hm0, hn0, hz0⟩ := open_nodesS (hval 0 22 v0 rfl rfl) h0 fun n hn => by simpa using List.all_eq_true.1 hsz n (DataW.weights_mem_each (j := 0) rfl rfl n hn)
  have t1 := h1
  obtain ⟨nd1, rfl⟩ := open_node1 (hval 1 26 v1 rfl rfl) h1
  have t2 := h2
  obtain ⟨a2, len2, cap2, l2, rfl, hl2, hc2, hm2, hb2⟩ := open_intlist (hval 2 27 v2 rfl rfl) h2
  have t3 := h3
  obtain ⟨n3, rfl, _, _, w3⟩ := open_int Tryd.underlying3 (hval 3 3 v3 rfl rfl) h3
  clear hA0 hval0 hsz
  refine (evalidates_walk W a0 len0 cap0 l0 hl0 hc0 hm0 hn0 hz0 nd1 a2 len2 cap2 l2 hl2 hc2 hm2 n3 (bounds_i64 w3).1 (bounds_i64 w3).2 hT).mono fun e W' ⟨he, bel⟩ => ?_
  subst he
  exact ⟨_, rfl, _, _, _, [], _, [], hW', trodAll_mk1 (shut_bool Tryd.underlying4 _), (trodAll_cons_mk (trod_back (by kernel_rfl) (of_decide_eq_true (by kernel_rfl)) t0 bel) (trodAll_cons_mk (trod_back (by kernel_rfl) (of_decide_eq_true (by kernel_rfl)) t1 bel) (trodAll_cons_mk (trod_back (by kernel_rfl) (of_decide_eq_true (by kernel_rfl)) t2 bel) (trodAll_cons_mk (trod_back (by kernel_rfl) (of_decide_eq_true (by kernel_rfl)) t3 bel) trodAll_mk0)))), rfl, bel.frame _, fun h => by cases h⟩

/-- The row: for every input the law ExprValidates returns true, and its arguments read as they read before. -/
theorem exprValidates_holds : Rows.ExprValidatesSaid :=
  OpenClaim.holds_of_wide 3 Tryd.f3 rfl rfl rfl rfl rfl rfl rfl ⟨rfl, rfl, rfl, rfl, rfl⟩ rfl rfl rfl rfl rfl (by kernel_rfl) Tryd.func3 (by kernel_rfl)
    (of_decide_eq_true (by kernel_rfl)) (by unfold Func.isWrapper; first | (rw [if_pos (by decide +kernel)]; kernel_rfl) | (rw [if_neg (by decide +kernel)]; exact ⟨rfl, rfl⟩))
    (fun os started H enc _ => exprValidates_lifted os started H enc)

/-- The tied card. -/
theorem exprValidatesCard_holds : Rows.ExprValidatesCardSaid :=
  Claim7.holds_tied_plain_at .later [] Rows.exprValidatesCard.laidKinds Rows.exprValidatesCard.laidTests Rows.exprValidatesCard.stood.harness Rows.exprValidatesCard.stood.looks
    exprValidates_holds (fun _ h => by cases h) (by kernel_rfl) (fun _ h => by cases h) exprValidates_row_tie rfl ⟨rfl, rfl⟩ (by kernel_rfl) rfl
    (fun f fn hf hfn => by
      obtain rfl : f = 3 := Option.some.inj ((show Tryd.prog.funcNamed Rows.exprValidatesRow.func = some 3 by kernel_rfl).symm.trans hf) |>.symm
      obtain rfl : fn = Tryd.f3 := (Option.some.inj (Tryd.func3.symm.trans hfn)).symm
      exact ⟨by kernel_rfl, fun j t ht => by
        rw [Tryd.params3] at ht
        have hm : t ∈ [22, 26, 27, 3] := by simpa using Array.mem_of_getElem? ht
        have hall : ([22, 26, 27, 3].all fun u => !Tryd.prog.wantsStandIn u) = true := by kernel_rfl
        exact (show Tryd.prog.wantsStandIn t = false by simpa using List.all_eq_true.1 hall t hm)⟩)
    (by kernel_rfl)

end Go.Proofs.YtmdpjahhhfajaaaDoor

