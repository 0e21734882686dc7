/-
  sort.Search, with a function that may make new memory.
-/
import Derived.Test.YtfknoclmpdnkdaaZLeaf
import Derived.Shelf.Abstract

set_option linter.unusedVariables false
namespace Go.Proofs.Ytfknoclmpdnkdaa
open Go.RowKit Wh

theorem search_any (g : Nat) (cb : Array Value) (n s : Nat) (p : Nat → Bool) (w : World) (eg : ∀ args W, (callFunc g args).run Try.prog W = .ok (.enter g args) W) (hn : n < 4611686018427387904)
    (hf : ∀ W i, Below w.heap.size w W → i < n → Calls Try.prog g (#[.int .i64 i] ++ cb) W fun e w' => e = .returned (.bool (p i)) ∧ Below W.heap.size W w')
    (hs : s ≤ n) (hp : ∀ t, t < n → (p t = true ↔ s ≤ t)) :
    Calls Try.prog 33 #[.int .i64 n, .func (.func g) #[] cb] w fun e w' => e = .returned (.int .i64 s) ∧ Below w.heap.size w w' := by
  have HF := Lib.hid hf
  have HP := Lib.hid hp
  clear hf hp
  go_enter Try.func33, Try.ntmps33
  go_wp2_with fail
  go_loopw [5, 6] (fun lv hv wr => ∃ (lo hi : Nat), lv = .int .i64 lo ∧ hv = .int .i64 hi ∧ lo ≤ s ∧ s ≤ hi ∧ hi ≤ n ∧ Below w.heap.size w wr) (fun lv hv _ => (intOf hv - intOf lv).toNat)
  case atStart => exact ⟨0, n, rfl, rfl, Nat.zero_le _, hs, Nat.le_refl _, Below.refl _ _⟩
  case round =>
    obtain ⟨lo, hi, rfl, rfl, h1, h2, h3, hbel⟩ := hrel
    have hsz := hbel.size
    by_cases hlt : lo < hi
    · have hc := HF.out wr ((lo + hi) / 2) hbel (by omega)
      have hq := HP.out ((lo + hi) / 2) (by omega)
      rw [show (((lo + hi) / 2 : Nat) : Int) = ((lo : Int) + (hi : Int)) / 2 by omega] at hc
      cases hpm : p ((lo + hi) / 2) <;> rw [hpm] at hc hq
      · have hq2 : (lo + hi) / 2 + 1 ≤ s := by
          by_cases h : s ≤ (lo + hi) / 2
          · exact absurd (hq.2 h) (by decide)
          · omega
        clear hq hpm
        go_wp2_with (refine hc.mono ?_; rintro e w' ⟨rfl, hb⟩)
        go_roundw
        case rel => exact ⟨(lo + hi) / 2 + 1, hi, by rw [show ((lo : Int) + (hi : Int)) / 2 + 1 = (((lo + hi) / 2 + 1 : Nat) : Int) by omega], rfl, hq2, h2, h3, hbel.trans (hb.mono hsz)⟩
        case measure => simp [intOf]; omega
      · have hq2 : s ≤ (lo + hi) / 2 := hq.1 rfl
        clear hq hpm
        go_wp2_with (refine hc.mono ?_; rintro e w' ⟨rfl, hb⟩)
        go_roundw
        case rel => exact ⟨lo, (lo + hi) / 2, rfl, by rw [show ((lo : Int) + (hi : Int)) / 2 = (((lo + hi) / 2 : Nat) : Int) by omega], h1, hq2, by omega, hbel.trans (hb.mono hsz)⟩
        case measure => simp [intOf]; omega
    · obtain rfl : hi = lo := by omega
      obtain rfl : s = hi := by omega
      go_wp2_with fail
      go_ret
      exact ⟨rfl, hbel⟩

end Go.Proofs.Ytfknoclmpdnkdaa
