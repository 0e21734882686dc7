/-
  For every layer: warehousebase.At, the natural number for a position in a list of numbers.
-/
import Derived.Test.YtloccocengegnaaDoorGInts
import Derived.Test.YtloccocengegnaaDoorGOwn
import Derived.Test.YtloccocengegnaaDoorMask
import Derived.WalkSmall
import Derived.BigQuiet
import Derived.WalkLawsBesides
import Derived.WalkSpells
import Derived.Lib.Hide
import Derived.LoopTactic
set_option linter.unusedVariables false
namespace Wh
open Go

/-- The natural number for a position in a list of numbers. -/
def atZ (zs : List Int) (i : Int) : Int :=
  if zs.length = 0 then i % 65536 else zs.getD (i % 65536 % zs.length).toNat 0 % 65536 + i % 65536 / zs.length

theorem atZ_bounds (zs : List Int) (i : Int) : 0 ≤ atZ zs i ∧ atZ zs i ≤ 131070 := by
  unfold atZ
  split
  · omega
  · rename_i h
    have h1 : 0 ≤ i % 65536 / zs.length := Int.ediv_nonneg (by omega) (by omega)
    have h2 : i % 65536 / (zs.length : Int) ≤ i % 65536 := Int.ediv_le_self _ (by omega)
    omega

end Wh
namespace Go.Proofs.YtloccocengegnaaDoor
open Go.RowKit Wh

theorem at_any (a : Option Addr) (len cap : Nat) (zs : List Int) (n : Int) (w : World) (hz : IsInts w a len zs) (hl : len ≤ 9223372036854775807) :
    Calls Tryd.prog 16 #[.slice a len cap, .int .i64 n] w fun e w' => e = .returned (.int .i64 (atZ zs n)) ∧ Below w.heap.size w w' := by
  obtain ⟨hlen, hz⟩ := hz
  have b1 := and_65535
  have i0 : 0 ≤ n % 65536 := by omega
  have i1 : n % 65536 < 65536 := by omega
  by_cases h0 : len = 0
  · have hv : atZ zs n = n % 65536 := by unfold atZ; rw [if_pos (by omega)]
    rw [hv]
    subst h0
    clear hv hlen hz
    go_enter Tryd.func16, Tryd.ntmps16
    go_wp2_with fail
    go_ret
    exact ⟨rfl, Below.refl _ _⟩
  · rcases hz with rfl | ⟨b, off, rfl, hb, hat⟩
    · exact absurd hlen.symm (by simpa using h0)
    · have hd : ((len : Int) == 0) = false := by simpa using h0
      have l1 : (1 : Int) ≤ len := by omega
      have r0 : 0 ≤ n % 65536 % (len : Int) := Int.emod_nonneg _ (by omega)
      have r1 : n % 65536 % (len : Int) < len := Int.emod_lt_of_pos _ (by omega)
      have q0 : 0 ≤ n % 65536 / (len : Int) := Int.ediv_nonneg i0 (by omega)
      have q1 : n % 65536 / (len : Int) ≤ 65536 := by have : n % 65536 / (len : Int) ≤ n % 65536 := Int.ediv_le_self _ i0; omega
      obtain ⟨z, hzz⟩ : ∃ z, zs[(n % 65536 % (len : Int)).toNat]? = some z := ⟨_, List.getElem?_eq_getElem (by omega)⟩
      have hc := hat _ _ hzz
      have hv : atZ zs n = z % 65536 + n % 65536 / (len : Int) := by
        unfold atZ
        rw [if_neg (by omega), hlen]
        simp [List.getD, hzz]
      rw [hv]
      have z0 : 0 ≤ z % 65536 := by omega
      have z1 : z % 65536 < 65536 := by omega
      clear hv hat hzz hlen
      go_enter Tryd.func16, Tryd.ntmps16
      go_wp2_with fail
      go_quiet (fail)
      go_wp2_with fail
      go_ret
      exact ⟨rfl, below_drewN (Below.refl _ _) nq⟩

end Go.Proofs.YtloccocengegnaaDoor

