/-
  The tied card of the law TokenRoundTrips: for every input it returns true, and its arguments read as they read before. The listed package-level variables (eight of the library and of civil) hold what the program's own initialisers lay (tied by the given ties). No other conditions.
-/
import Derived.Test.YtloccocengegnaaDoorTOpen
import Derived.Test.YtloccocengegnaaDoorTLTrips
import Derived.Test.YtloccocengegnaaDoorTie
import Derived.Test.YtloccocengegnaaDoorCards
import Derived.LaidMore
import Derived.Lay
import Derived.SevenTiedAt
import Derived.ChangeMaps5
set_option linter.unusedVariables false
namespace Go.Proofs.YtloccocengegnaaDoor
open Go.ChangeShapes Go.WideShapes Go.ChangeAt Go.RowKit Wh

set_option maxRecDepth 100000 in
theorem tokenRoundTrips_lifted (os : Os) (started : os.Started) (H : Type) (enc : TypeId × Value → H) :
    ReturnsInHanded {} Tryd.checked os 5 .any (fun w args => (Rows.tokenRoundTripsSpec.pre enc Tryd.prog Tryd.f5 [] false w args ∧ laidMetH Tryd.prog Rows.tokenRoundTripsRow.laid w) ∧ sizedMet enc Tryd.prog Tryd.f5 (OpenSpec.ofChange Rows.tokenRoundTripsSpec) false w args)
      (Rows.tokenRoundTripsSpec.post enc Tryd.prog Tryd.f5 false true false false) := by
  refine returns_laid (C := Tryd.checked) (X := fun w _ => laidMetH Tryd.prog Rows.tokenRoundTripsRow.laid w) (fun _ _ _ hh h => h.of_heap hh) own started (by kernel_rfl) Tryd.func5
    (ChangeSpec.witness_shaped (enc := enc) (C := Tryd.checked) (os := os) (X := fun w _ => laidMetH Tryd.prog Rows.tokenRoundTripsRow.laid w) false (World.laidAll Tryd.prog os Rows.tokenRoundTripsRow.laid) #[.slice none 0 0, .string ⟨#[]⟩, .int .i64 0] 8 (World.laidAll_os _ _ _)
      (World.shaped_of_ZipB (by kernel_rfl) (by kernel_rfl)) (by kernel_rfl) (by kernel_rfl) (by kernel_rfl)
      (by rw [MakeChecks.laidMetH_plain _ _ _ (by kernel_rfl)]; exact laidMet_laidAll _ (by kernel_rfl) (by kernel_rfl))) ?_
  intro W base args ds gs before hval0 hW _ hsz hL hsh _
  have hval : ∀ (j : Nat) t v, Tryd.f5.params[j]? = some t → args[j]? = some v → Value.okWide Tryd.prog W .any base t v := hval0
  have hW' := hW
  obtain ⟨p, q, hA0, hV, rfl, hfz, hnd⟩ := hW
  have hA : DataW.TrodAll enc Tryd.prog W 0 (fun _ => true) true Tryd.f5.params.toList args.toList ds p := hA0
  rw [Tryd.params5] at hA hval hsz
  obtain ⟨v0, vs0, d0, ds0, p0, q0, hargs, rfl, rfl, h0, r0⟩ := trodAll_cons hA
  obtain ⟨v1, vs1, d1, ds1, p1, q1, rfl, rfl, rfl, h1, r1⟩ := trodAll_cons r0
  obtain ⟨v2, vs2, d2, ds2, p2, q2, rfl, rfl, rfl, h2, r2⟩ := trodAll_cons r1
  obtain ⟨rfl, rfl, rfl⟩ := trodAll_nil r2
  obtain rfl : args = #[v0, v1, v2] := by cases args; simp_all
  obtain ⟨rfl, rfl⟩ := trodVars_none hV
  have hL' : laidMet Tryd.prog Rows.tokenRoundTripsRow.laid W := by
    rw [MakeChecks.laidMetH_plain _ _ _ (by kernel_rfl)] at hL
    exact hL
  have hT := glo_of hL' hsh (by kernel_rfl) (by kernel_rfl) (by kernel_rfl)
  clear hL hL' hsh
  have t0 := h0
  obtain ⟨a0, len0, cap0, l0, rfl, hl0, hc0, hm0, hb0⟩ := open_intlist (hval 0 27 v0 rfl rfl) h0
  have t1 := h1
  obtain ⟨s1, rfl, _, _, w1⟩ := ChangeMaps.open_string Tryd.underlying9 (hval 1 9 v1 rfl rfl) h1
  have t2 := h2
  obtain ⟨n2, rfl, _, _, w2⟩ := open_int Tryd.underlying3 (hval 2 3 v2 rfl rfl) h2
  clear hA0 hval0 hsz
  refine (ttrips_walk W a0 len0 cap0 l0 hl0 hc0 hm0 s1 w1 n2 (bounds_i64 w2).1 (bounds_i64 w2).2 hT).mono fun e W' ⟨he, bel⟩ => ?_
  subst he
  exact ⟨_, rfl, _, _, _, [], _, [], hW', trodAll_mk1 (shut_bool Tryd.underlying4 _), (trodAll_cons_mk (trod_back (by kernel_rfl) (of_decide_eq_true (by kernel_rfl)) t0 bel) (trodAll_cons_mk (trod_back (by kernel_rfl) (of_decide_eq_true (by kernel_rfl)) t1 bel) (trodAll_cons_mk (trod_back (by kernel_rfl) (of_decide_eq_true (by kernel_rfl)) t2 bel) trodAll_mk0))), rfl, bel.frame _, fun h => by cases h⟩

/-- The row: for every input the law TokenRoundTrips returns true, and its arguments read as they read before. -/
theorem tokenRoundTrips_holds : Rows.TokenRoundTripsSaid :=
  OpenClaim.holds_of_wide 5 Tryd.f5 rfl rfl rfl rfl rfl rfl rfl ⟨rfl, rfl, rfl, rfl, rfl⟩ rfl rfl rfl rfl rfl (by kernel_rfl) Tryd.func5 (by kernel_rfl)
    (of_decide_eq_true (by kernel_rfl)) (by unfold Func.isWrapper; first | (rw [if_pos (by decide +kernel)]; kernel_rfl) | (rw [if_neg (by decide +kernel)]; exact ⟨rfl, rfl⟩))
    (fun os started H enc _ => tokenRoundTrips_lifted os started H enc)

/-- The tied card. -/
theorem tokenRoundTripsCard_holds : Rows.TokenRoundTripsCardSaid :=
  Claim7.holds_tied_plain_at .later [] Rows.tokenRoundTripsCard.laidKinds Rows.tokenRoundTripsCard.laidTests Rows.tokenRoundTripsCard.stood.harness Rows.tokenRoundTripsCard.stood.looks
    tokenRoundTrips_holds (fun _ h => by cases h) (by kernel_rfl) (fun _ h => by cases h) tokenRoundTrips_row_tie rfl ⟨rfl, rfl⟩ (by kernel_rfl) rfl
    (fun f fn hf hfn => by
      obtain rfl : f = 5 := Option.some.inj ((show Tryd.prog.funcNamed Rows.tokenRoundTripsRow.func = some 5 by kernel_rfl).symm.trans hf) |>.symm
      obtain rfl : fn = Tryd.f5 := (Option.some.inj (Tryd.func5.symm.trans hfn)).symm
      exact ⟨by kernel_rfl, fun j t ht => by
        rw [Tryd.params5] at ht
        have hm : t ∈ [27, 9, 3] := by simpa using Array.mem_of_getElem? ht
        have hall : ([27, 9, 3].all fun u => !Tryd.prog.wantsStandIn u) = true := by kernel_rfl
        exact (show Tryd.prog.wantsStandIn t = false by simpa using List.all_eq_true.1 hall t hm)⟩)
    (by kernel_rfl)

end Go.Proofs.YtloccocengegnaaDoor

