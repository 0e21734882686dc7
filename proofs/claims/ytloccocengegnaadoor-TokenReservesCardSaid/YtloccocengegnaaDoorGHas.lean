/-
  For every layer: is a text in a list (Has of the reference)?
-/
import Derived.Test.YtloccocengegnaaDoorNLeaf
import Derived.BigQuiet
set_option linter.unusedVariables false
namespace Wh
open Go

/-- Is a text in a list? -/
def hasB (ss : List ByteArray) (s : ByteArray) : Bool := ss.any fun t => eqS t s

theorem hasB_no {ss : List ByteArray} {s : ByteArray} (h : ∀ (i : Nat) (t : ByteArray), ss[i]? = some t → eqS t s = false) : hasB ss s = false := by
  unfold hasB
  rw [List.any_eq_false]
  intro t ht
  obtain ⟨i, hi⟩ := List.mem_iff_getElem?.1 ht
  simp [h i t hi]
theorem hasB_yes {ss : List ByteArray} {s t : ByteArray} {i : Nat} (h : ss[i]? = some t) (he : eqS t s = true) : hasB ss s = true := by
  unfold hasB
  rw [List.any_eq_true]
  exact ⟨t, List.mem_of_getElem? h, he⟩

end Wh
namespace Go.Proofs.YtloccocengegnaaDoor
open Go.RowKit Wh

theorem has_any (a : Option Addr) (len cap : Nat) (ss : List ByteArray) (s : ByteArray) (w : World) (hs : IsStrs w a len ss) (hl : len ≤ 9223372036854775807) :
    Calls Tryd.prog 15 #[.slice a len cap, .string s] w fun e w' => e = .returned (.bool (hasB ss s)) ∧ w = w' := by
  have NO := Lib.hid (fun h => hasB_no (ss := ss) (s := s) h)
  have YE := Lib.hid (fun (i : Nat) (t : ByteArray) h he => hasB_yes (ss := ss) (s := s) (t := t) (i := i) h he)
  have HS := Lib.hid hs
  generalize hasB ss s = E at *
  clear hs
  go_enter Tryd.func15, Tryd.ntmps15
  go_wp2_with fail
  go_loop [5] (fun iv => ∃ k : Nat, k ≤ len ∧ iv = .int .i64 k ∧ Hid (∀ (i : Nat) (t : ByteArray), i < k → ss[i]? = some t → eqS t s = false)) (fun i => len - (intOf i).toNat)
  case atStart => exact ⟨0, Nat.zero_le _, rfl, fun i s hi => absurd hi (by omega)⟩
  case round =>
    obtain ⟨k, hk, rfl, HI⟩ := hrel
    by_cases hlt : k < len
    · obtain ⟨t, b, off, hx, rfl, hbl, hc0⟩ := HS.out.at hlt
      have HX := Lib.hid hx
      clear hx
      cases he : eqS t s with
      | true =>
        obtain rfl := YE.out k t HX.out he
        have he2 : (t.toList == s.toList) = true := he
        clear he HI NO YE
        go_wp2_with fail
        go_ret
        exact ⟨rfl, rfl⟩
      | false =>
        have HI2 : Hid (∀ (i : Nat) (u : ByteArray), i < k + 1 → ss[i]? = some u → eqS u s = false) := fun i u hi hu => by
          by_cases e : i = k
          · subst e
            have := HX.out
            rw [hu] at this
            cases this
            exact he
          · exact HI.out i u (by omega) hu
        have he2 : (t.toList == s.toList) = false := he
        clear he HI NO YE
        go_wp2_with fail
        go_round
        case rel => exact ⟨k + 1, by omega, by go_num, HI2⟩
        case measure => simp [intOf]; omega
    · obtain rfl := NO.out fun i s hi => HI.out i s (by have := (List.getElem?_eq_some_iff.1 hi).1; have := HS.out.1; omega) hi
      clear NO YE HI
      go_wp2_with fail
      go_ret
      exact ⟨rfl, rfl⟩

end Go.Proofs.YtloccocengegnaaDoor

