/-
  The tied card of the law ExprFormats: for every input it returns true, and its arguments read as they read before. The listed package-level variables (seven of the library and of civil, two of expr) hold what the program's own initialisers lay (tied by the given ties). No other conditions.
-/
import Derived.Test.YtmdpjahhhfajaaaGreatDoorJC27
import Derived.Test.YtmdpjahhhfajaaaGreatDoorJC03
import Derived.Test.YtmdpjahhhfajaaaGreatDoorJC50
import Derived.Test.YtmdpjahhhfajaaaGreatDoorTie
import Derived.Test.YtmdpjahhhfajaaaGreatDoorCards
import Derived.LaidMore
import Derived.Lay
import Derived.SevenTiedAt
import Derived.LaidLaws
set_option linter.unusedVariables false
namespace Go.Proofs.YtmdpjahhhfajaaaGreatDoor
open Go.ChangeShapes Go.WideShapes Go.ChangeAt Go.RowKit Wh

set_option maxRecDepth 100000 in
theorem exprFormats_lifted (os : Os) (started : os.Started) (H : Type) (enc : TypeId × Value → H) :
    ReturnsInHanded {} Tryz.checked os 6 .any (fun w args => (Rows.exprFormatsSpec.pre enc Tryz.prog Tryz.f6 [] false w args ∧ laidMetH Tryz.prog Rows.exprFormatsRow.laid w) ∧ sizedMet enc Tryz.prog Tryz.f6 (OpenSpec.ofChange Rows.exprFormatsSpec) false w args)
      (Rows.exprFormatsSpec.post enc Tryz.prog Tryz.f6 false true false false) := by
  refine returns_laid (C := Tryz.checked) (X := fun w _ => laidMetH Tryz.prog Rows.exprFormatsRow.laid w) (fun _ _ _ hh h => h.of_heap hh) own started (by kernel_rfl) Tryz.func6
    (ChangeSpec.witness_shaped (enc := enc) (C := Tryz.checked) (os := os) (X := fun w _ => laidMetH Tryz.prog Rows.exprFormatsRow.laid w) false (World.laidAll Tryz.prog os Rows.exprFormatsRow.laid) #[.slice none 0 0, .slice none 0 0, .int .i64 0] 8 (World.laidAll_os _ _ _)
      (World.shaped_of_ZipB (by kernel_rfl) (by kernel_rfl)) (by kernel_rfl) (by kernel_rfl) (by kernel_rfl)
      (by rw [MakeChecks.laidMetH_plain _ _ _ (by kernel_rfl)]; exact laidMet_laidAll _ (by kernel_rfl) (by kernel_rfl))) ?_
  intro W base args ds gs before hval0 hW _ hsz hL hsh _
  have hval : ∀ (j : Nat) t v, Tryz.f6.params[j]? = some t → args[j]? = some v → Value.okWide Tryz.prog W .any base t v := hval0
  have hW' := hW
  obtain ⟨p, q, hA0, hV, rfl, hfz, hnd⟩ := hW
  have hA : DataW.TrodAll enc Tryz.prog W 0 (fun _ => true) true Tryz.f6.params.toList args.toList ds p := hA0
  rw [Tryz.params6] at hA hval hsz
  obtain ⟨v0, vs0, d0, ds0, p0, q0, hargs, rfl, rfl, h0, r0⟩ := trodAll_cons hA
  obtain ⟨v1, vs1, d1, ds1, p1, q1, rfl, rfl, rfl, h1, r1⟩ := trodAll_cons r0
  obtain ⟨v2, vs2, d2, ds2, p2, q2, rfl, rfl, rfl, h2, r2⟩ := trodAll_cons r1
  obtain ⟨rfl, rfl, rfl⟩ := trodAll_nil r2
  obtain rfl : args = #[v0, v1, v2] := by cases args; simp_all
  obtain ⟨rfl, rfl⟩ := trodVars_none hV
  have hL' : laidMet Tryz.prog Rows.exprFormatsRow.laid W := by
    rw [MakeChecks.laidMetH_plain _ _ _ (by kernel_rfl)] at hL
    exact hL
  have hT := glx_of hL' hsh (by kernel_rfl) (by kernel_rfl) (by kernel_rfl) (by kernel_rfl) (by kernel_rfl)
  clear hL hL' hsh
  have t0 := h0
  obtain ⟨a0, len0, cap0, l0, rfl, hl0, hc0, hm0, hn0, hz0⟩ := open_nodesS (hval 0 30 v0 rfl rfl) h0 fun n hn => by simpa using List.all_eq_true.1 hsz n (DataW.weights_mem_each (j := 0) rfl rfl n hn)
  have t1 := h1
  obtain ⟨a1, len1, cap1, l1, rfl, hl1, hc1, hm1, hb1⟩ := open_intlist (hval 1 22 v1 rfl rfl) h1
  have t2 := h2
  obtain ⟨n2, rfl, _, _, w2⟩ := open_int Tryz.underlying3 (hval 2 3 v2 rfl rfl) h2
  clear hA0 hval0 hsz
  refine (eformats_walk W a0 len0 cap0 l0 hl0 hc0 hm0 hn0 hz0 a1 len1 cap1 l1 hl1 hc1 hm1 n2 (bounds_i64 w2).1 (bounds_i64 w2).2 hT).mono fun e W' ⟨he, bel⟩ => ?_
  subst he
  exact ⟨_, rfl, _, _, _, [], _, [], hW', trodAll_mk1 (shut_bool Tryz.underlying4 _), (trodAll_cons_mk (trod_back (by kernel_rfl) (of_decide_eq_true (by kernel_rfl)) t0 bel) (trodAll_cons_mk (trod_back (by kernel_rfl) (of_decide_eq_true (by kernel_rfl)) t1 bel) (trodAll_cons_mk (trod_back (by kernel_rfl) (of_decide_eq_true (by kernel_rfl)) t2 bel) trodAll_mk0))), rfl, bel.frame _, fun h => by cases h⟩

/-- The row: for every input the law ExprFormats returns true, and its arguments read as they read before. -/
theorem exprFormats_holds : Rows.ExprFormatsSaid :=
  OpenClaim.holds_of_wide 6 Tryz.f6 rfl rfl rfl rfl rfl rfl rfl ⟨rfl, rfl, rfl, rfl, rfl⟩ rfl rfl rfl rfl rfl (by kernel_rfl) Tryz.func6 (by kernel_rfl)
    (of_decide_eq_true (by kernel_rfl)) (by unfold Func.isWrapper; first | (rw [if_pos (by decide +kernel)]; kernel_rfl) | (rw [if_neg (by decide +kernel)]; exact ⟨rfl, rfl⟩))
    (fun os started H enc _ => exprFormats_lifted os started H enc)

/-- The tied card. -/
theorem exprFormatsCard_holds : Rows.ExprFormatsCardSaid :=
  Claim7.holds_tied_plain_at .later [] Rows.exprFormatsCard.laidKinds Rows.exprFormatsCard.laidTests Rows.exprFormatsCard.stood.harness Rows.exprFormatsCard.stood.looks
    exprFormats_holds (fun _ h => by cases h) (by kernel_rfl) (fun _ h => by cases h) exprFormats_row_tie rfl ⟨rfl, rfl⟩ (by kernel_rfl) rfl
    (fun f fn hf hfn => by
      obtain rfl : f = 6 := Option.some.inj ((show Tryz.prog.funcNamed Rows.exprFormatsRow.func = some 6 by kernel_rfl).symm.trans hf) |>.symm
      obtain rfl : fn = Tryz.f6 := (Option.some.inj (Tryz.func6.symm.trans hfn)).symm
      exact ⟨by kernel_rfl, fun j t ht => by
        rw [Tryz.params6] at ht
        have hm : t ∈ [30, 22, 3] := by simpa using Array.mem_of_getElem? ht
        have hall : ([30, 22, 3].all fun u => !Tryz.prog.wantsStandIn u) = true := by kernel_rfl
        exact (show Tryz.prog.wantsStandIn t = false by simpa using List.all_eq_true.1 hall t hm)⟩)
    (by kernel_rfl)

end Go.Proofs.YtmdpjahhhfajaaaGreatDoor
