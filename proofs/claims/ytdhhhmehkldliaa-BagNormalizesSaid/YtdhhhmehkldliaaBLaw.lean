/-
  light and one, of the laws.
-/
import Derived.Test.YtdhhhmehkldliaaBRead
set_option linter.unusedVariables false
namespace Wh

def lightB (es : List En) : Bool := decide (es.length ≤ 60) && es.all fun e => decide (e.row.length ≤ 60)
theorem lightB_long {es : List En} (h : 60 < es.length) : lightB es = false := by
  unfold lightB
  rw [show decide (es.length ≤ 60) = false by simpa using h]
  rfl
theorem lightB_no {es : List En} {i : Nat} {e : En} (h : es[i]? = some e) (hn : 60 < e.row.length) : lightB es = false := by
  unfold lightB
  rw [Bool.and_eq_false_iff]
  right
  rw [List.all_eq_false]
  exact ⟨e, List.mem_of_getElem? h, by simpa using hn⟩
theorem lightB_yes {es : List En} (h0 : es.length ≤ 60) (h : ∀ (i : Nat) (e : En), es[i]? = some e → e.row.length ≤ 60) : lightB es = true := by
  unfold lightB
  rw [Bool.and_eq_true, List.all_eq_true]
  refine ⟨by simpa using h0, fun e he => ?_⟩
  obtain ⟨i, hi⟩ := List.mem_iff_getElem?.1 he
  simpa using h i e hi
theorem lightB_facts {es : List En} (h : lightB es = true) : es.length ≤ 60 ∧ ∀ e ∈ es, e.row.length ≤ 60 := by
  unfold lightB at h
  rw [Bool.and_eq_true, List.all_eq_true] at h
  exact ⟨by simpa using h.1, fun e he => by simpa using h.2 e he⟩

end Wh
namespace Go.Proofs.Ytdhhhmehkldliaa
open Go.RowKit Wh

set_option maxHeartbeats 2000000
set_option maxRecDepth 100000

theorem light_any (a : Option Addr) (len cap : Nat) (es : List En) (w : World) (hs : IsEnts w a len es) (hl : len ≤ 9223372036854775807) :
    Calls Try.prog 12 #[.slice a len cap] w fun e w' => e = .returned (.bool (lightB es)) ∧ w = w' := by
  have hln := hs.1
  by_cases h60 : 60 < len
  · rw [lightB_long (by omega)]
    clear hs hln
    go_enter Try.func12, Try.ntmps12
    go_wp2_with fail
    go_ret
    exact ⟨rfl, rfl⟩
  have NO := Lib.hid (fun (i : Nat) (e : En) h hn => lightB_no (es := es) (i := i) (e := e) h hn)
  have YE := Lib.hid (fun h => lightB_yes (es := es) (by omega) h)
  have HS := Lib.hid hs
  generalize lightB es = E at *
  clear hs
  go_enter Try.func12, Try.ntmps12
  go_wp2_with fail
  go_loopw [3] (fun iv wr => ∃ k : Nat, k ≤ len ∧ iv = .int .i64 k ∧ Hid (∀ (i : Nat) (e : En), i < k → es[i]? = some e → e.row.length ≤ 60) ∧ wr = w) (fun i _ => len - (intOf i).toNat)
  case atStart => exact ⟨0, Nat.zero_le _, rfl, fun i e hi => absurd hi (by omega), rfl⟩
  case round =>
    obtain ⟨k, hk, rfl, HI, rfl⟩ := hrel
    by_cases hlt : k < len
    · obtain ⟨r, n, ra, rl, rc, b, off, hx, rfl, hbl, c0, c1, hv, g1, g2, g3⟩ := HS.out.at hlt
      have hrl := hv.1
      have HX := Lib.hid hx
      have hm : maxLen = 9223372036854775807 := rfl
      clear hx
      by_cases hb : 60 < rl
      · obtain rfl := NO.out k _ HX.out (show 60 < r.length by omega)
        clear hv NO YE HI
        go_wp2_with fail
        go_ret
        exact ⟨rfl, rfl⟩
      · have HI2 : Hid (∀ (i : Nat) (e : En), i < k + 1 → es[i]? = some e → e.row.length ≤ 60) := fun i e hi he => by
          by_cases h : i = k
          · subst h
            have := HX.out
            rw [he] at this
            cases this
            show r.length ≤ 60
            omega
          · exact HI.out i e (by omega) he
        clear hv NO YE HI
        go_wp2_with fail
        go_roundw
        case rel => exact ⟨k + 1, by omega, by go_num, HI2, trivial⟩
        case measure => simp [intOf]; omega
    · obtain rfl := YE.out fun i e he => HI.out i e (by have := (List.getElem?_eq_some_iff.1 he).1; omega) he
      clear NO YE HI
      go_wp2_with fail
      go_ret
      exact ⟨rfl, rfl⟩

end Go.Proofs.Ytdhhhmehkldliaa
