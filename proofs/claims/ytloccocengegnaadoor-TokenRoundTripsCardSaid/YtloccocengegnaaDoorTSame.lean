/-
  Same of the reference, exact of the laws, at lists that are the same; Reserved of the reference.
-/
import Derived.Test.YtloccocengegnaaDoorGTok
import Derived.Test.YtloccocengegnaaDoorTPLeaf
import Derived.Deep.RegionHeld3
set_option linter.unusedVariables false
set_option maxRecDepth 100000
namespace Wh
open Go Go.Proofs.YtloccocengegnaaDoor

theorem map_at {α β : Type} {f : α → β} {a b : List α} (h : a.map f = b.map f) {k : Nat} {x y : α} (hx : a[k]? = some x) (hy : b[k]? = some y) : f x = f y := by
  have := congrArg (·[k]?) h
  simp only [List.getElem?_map, hx, hy, Option.map_some] at this
  exact Option.some.inj this

end Wh
namespace Go.Proofs.YtloccocengegnaaDoor
open Go.RowKit Wh

set_option maxHeartbeats 4000000 in
theorem same_yes (a1 : Option Addr) (n c1 : Nat) (t1 : List TA) (a2 : Option Addr) (c2 : Nat) (t2 : List TA) (w : World) (h1 : IsToks w a1 n t1) (h2 : IsToks w a2 n t2) (he : t1.map (·.1) = t2.map (·.1)) (hn : n ≤ 1000000000000) :
    Calls Tryd.prog 14 #[.slice a1 n c1, .slice a2 n c2] w fun e w' => e = .returned (.bool true) ∧ Below w.heap.size w w' := by
  have H1 := Lib.hid h1
  have H2 := Lib.hid h2
  have HE := Lib.hid he
  clear h1 h2 he
  go_enter Tryd.func14, Tryd.ntmps14
  go_wp2_with fail
  go_loopw [5] (fun iv wr => ∃ k : Nat, k ≤ n ∧ iv = .int .i64 k ∧ Below w.heap.size w wr) (fun iv _ => n - (intOf iv).toNat)
  case atStart => exact ⟨0, Nat.zero_le _, rfl, Below.refl _ _⟩
  case round =>
    obtain ⟨k, hk, rfl, hbel⟩ := hrel
    by_cases hlt : k < n
    · obtain ⟨k1, x1, n1, p1, b1, o1, e1, rfl, l1, c10, c11, c12, c13⟩ := (H1.out.below hbel (Nat.le_refl _)).at hlt
      obtain ⟨k2, x2, n2, p2, b2, o2, e2, rfl, l2, c20, c21, c22, c23⟩ := (H2.out.below hbel (Nat.le_refl _)).at hlt
      have e := map_at HE.out e1 e2
      cases e
      clear e1 e2
      go_wp2_with fail
      go_quiet (fail)
      go_wp2_with fail
      go_roundw
      case rel => exact ⟨k + 1, by omega, by go_num, Below.drewN' hbel _⟩
      case measure => simp [intOf]; omega
    · go_wp2_with fail
      go_ret
      exact ⟨rfl, hbel⟩

end Go.Proofs.YtloccocengegnaaDoor

