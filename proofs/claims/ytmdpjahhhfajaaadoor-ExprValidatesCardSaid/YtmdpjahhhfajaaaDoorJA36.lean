/-
  The laws' expressions: columns, made.
-/
import Derived.Test.YtmdpjahhhfajaaaDoorJA35
set_option linter.unusedVariables false
set_option linter.unusedSimpArgs false
set_option maxRecDepth 100000
namespace Go.Proofs.YtmdpjahhhfajaaaDoor
open Go.RowKit Wh
theorem mcols_any (w : World) : Calls Tryd.prog 22 #[] w fun e w' => ∃ cb, e = .returned (.slice (some ⟨cb, 0, none⟩) 4 4) ∧ ColsX w' cb ∧ Below w.heap.size w w' := by
  go_enter Tryd.func22, Tryd.ntmps22
  go_wp2_with fail
  go_ret
  exact ⟨w.heap.size, rfl, ⟨by simp, range_row (heap_alloc_new w (.cells colC.toArray 63))⟩, (Below.refl _ _).alloc (Nat.le_refl _) _⟩
theorem bnd4 : 15 ≤ bnd 4 := by decide +kernel
set_option maxHeartbeats 4000000 in
theorem made_any (la : Option Addr) (ll lc : Nat) (zs : List Int) (hl : ll ≤ 9223372036854775807) (n : Int) :
    ∃ es, GoodE 4 es ∧ ∀ W, IsInts W la ll zs → Calls Tryd.prog 8 #[.slice la ll lc, .int .i64 n] W (MdP W es) := by
  have h4 : 0 ≤ n % 4 ∧ n % 4 < 4 := by omega
  have h16 : 0 ≤ n / 4 % 16 ∧ n / 4 % 16 < 16 := by omega
  obtain ⟨es, g, C⟩ := mexpr_any la ll lc zs hl 4 (by omega) (1 + n % 4) (n / 4 % 16) (by omega) (by omega) (by omega) (by have := bnd4; omega)
  refine ⟨es, g, fun W hW => ?_⟩
  have HC := Lib.hid C
  have HW := Lib.hid hW
  have CC := Lib.hid (mcols_any W)
  have b3 := and_3
  have b15 := and_15
  clear C g hW
  go_enter Tryd.func8, Tryd.ntmps8
  go_wp2_with fail
  refine CC.out.mono ?_
  rintro ev w1 ⟨cb, rfl, hc, hb1⟩
  have HE := Lib.hid (ExW.mk (HW.out.below hb1 (Nat.le_refl _)) hc)
  have HB1 := Lib.hid hb1
  clear hc hb1 CC
  go_wp2_with fail
  refine (HC.out _ _ HE.out).mono ?_
  intro ev wf hm
  obtain ⟨v, rfl, hown, hbf⟩ := hm.up HB1.out
  have H := Lib.hid (And.intro hown hbf)
  clear hown hbf hm
  go_wp2_with fail
  go_ret
  exact ⟨_, rfl, H.out.1, H.out.2⟩
end Go.Proofs.YtmdpjahhhfajaaaDoor
