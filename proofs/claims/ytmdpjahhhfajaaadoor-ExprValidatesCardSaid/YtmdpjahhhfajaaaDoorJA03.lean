/-
  IsName of the reference.
-/
import Derived.Test.YtmdpjahhhfajaaaDoorJA02
set_option linter.unusedVariables false
namespace Go.Proofs.YtmdpjahhhfajaaaDoor
open Go.RowKit Wh
def chrB (x : Nat) : Bool := letB x || (digB x || decide (x = 95))
theorem okN_zero (x : Nat) : okN 0 x = letB x := by simp [okN]
theorem okN_succ {i : Nat} (h : ¬ i = 0) (x : Nat) : okN i x = chrB x := by simp [okN, chrB, h]
set_option maxHeartbeats 2000000 in
theorem rIsName_any (s : ByteArray) (w : World) : Calls Tryd.prog 55 #[.string s] w fun e w' => e = .returned (.bool (nameB s)) ∧ w = w' := by
  by_cases h0 : s.size = 0
  · rw [nameB_size (.inl h0)]
    go_enter Tryd.func55, Tryd.ntmps55
    go_wp2_with fail
    go_ret
    exact ⟨rfl, rfl⟩
  by_cases h24 : 24 < s.size
  · rw [nameB_size (.inr h24)]
    go_enter Tryd.func55, Tryd.ntmps55
    go_wp2_with fail
    go_ret
    exact ⟨rfl, rfl⟩
  have i0 : ∀ W, (Instr.index 9 (.string s) (.int .i64 0)).run Tryd.prog W = .ok (.int .u8 (btN s 0)) W := fun W => index_str s 0 (by omega) W
  have NO := Lib.hid (fun i hi h => nameB_no (s := s) (i := i) hi h)
  have YE := Lib.hid (fun h => nameB_yes (s := s) (by omega) (by omega) h)
  generalize nameB s = E at *
  cases hl : letB (btN s 0) with
  | false =>
    obtain rfl := NO.out 0 (by omega) (by rw [okN_zero, hl])
    generalize btN s 0 = x at *
    rcases (show x < 97 ∨ (97 ≤ x ∧ 122 < x) by
      by_cases h1 : x < 97
      · exact .inl h1
      · by_cases h2 : 122 < x
        · exact .inr ⟨by omega, h2⟩
        · unfold letB at hl; rw [decide_eq_true (by omega), decide_eq_true (by omega)] at hl; cases hl) with h1 | ⟨h1, h2⟩
    all_goals
      clear hl NO YE
      go_enter Tryd.func55, Tryd.ntmps55
      go_wp2_with fail
      go_ret
      exact ⟨rfl, rfl⟩
  | true =>
    have hl2 : 97 ≤ btN s 0 ∧ btN s 0 ≤ 122 := by
      unfold letB at hl
      rw [Bool.and_eq_true, decide_eq_true_eq, decide_eq_true_eq] at hl
      omega
    have H0 : Hid (okN 0 (btN s 0) = true) := by show _ = _; rw [okN_zero, hl]
    have IX := Lib.hid (fun i (hi : i < s.size) W => index_str s i hi W)
    generalize hb : btN s 0 = x at hl hl2 i0
    have HB := Lib.hid hb
    obtain ⟨l1, l2⟩ := hl2
    clear hl hb
    go_enter Tryd.func55, Tryd.ntmps55
    go_wp2_with fail
    clear i0 l1 l2
    go_loop [3] (fun i => ∃ k : Nat, k ≤ s.size ∧ i = .int .i64 k ∧ Hid (∀ j, j < k → okN j (btN s j) = true)) (fun i => s.size - (intOf i).toNat)
    case atStart => exact ⟨0, by omega, rfl, fun j hj => absurd hj (by omega)⟩
    case round =>
      obtain ⟨k, hk, rfl, HI⟩ := hrel
      by_cases hlt : k < s.size
      · have hi := IX.out k hlt
        have CH : Hid (chrB (btN s k) = true → okN k (btN s k) = true) := fun h => by
          by_cases e : k = 0
          · subst e; exact H0.out
          · rw [okN_succ e]; exact h
        have CN : Hid (chrB (btN s k) = false → E = false) := fun h => by
          refine NO.out k hlt ?_
          by_cases e : k = 0
          · subst e
            have h2 := H0.out
            rw [okN_zero] at h2
            unfold chrB at h
            rw [h2] at h
            cases h
          · rw [okN_succ e]; exact h
        have HI2 : Hid (okN k (btN s k) = true → ∀ j, j < k + 1 → okN j (btN s j) = true) := fun h j hj => by
          by_cases e : j = k
          · subst e; exact h
          · exact HI.out j (by omega)
        clear HI NO YE IX H0 HB
        have hi8 := btN_lt s k
        generalize hx : btN s k = y at CH CN HI2 hi hi8
        rcases (show y < 48 ∨ (48 ≤ y ∧ y ≤ 57) ∨ (57 < y ∧ y < 95) ∨ y = 95 ∨ y = 96 ∨ (97 ≤ y ∧ y ≤ 122) ∨ 122 < y by omega) with h | ⟨h, h'⟩ | ⟨h, h'⟩ | h | h | ⟨h, h'⟩ | h
        · obtain rfl := CN.out (by simp only [chrB, letB, digB, decide_eq_false (show ¬ (97 : Int) ≤ y by omega), decide_eq_false (show ¬ (48 : Int) ≤ y by omega), decide_eq_false (show ¬ y = 95 by omega), Bool.false_and, Bool.false_or])
          have h1 : ¬ (y : Int) = 95 := by omega
          clear CH CN HI2
          go_wp2_with fail
          all_goals first | (go_ret; exact ⟨rfl, rfl⟩) | (exfalso; rename_i hh; rcases hh with hh | hh <;> simp at hh <;> omega)
        · have HR := Lib.hid (HI2.out (CH.out (by simp only [chrB, digB, decide_eq_true (show (48 : Int) ≤ y by omega), decide_eq_true (show (y : Int) ≤ 57 by omega), Bool.true_and, Bool.true_or, Bool.or_true])))
          clear CH CN HI2
          go_wp2_with fail
          go_round
          case rel => exact ⟨k + 1, by omega, by go_num, HR.out⟩
          case measure => simp [intOf]; omega
        · obtain rfl := CN.out (by simp only [chrB, letB, digB, decide_eq_false (show ¬ (97 : Int) ≤ y by omega), decide_eq_false (show ¬ (y : Int) ≤ 57 by omega), decide_eq_false (show ¬ y = 95 by omega), Bool.false_and, Bool.and_false, Bool.false_or])
          have h1 : ¬ (y : Int) = 95 := by omega
          clear CH CN HI2
          go_wp2_with fail
          all_goals first | (go_ret; exact ⟨rfl, rfl⟩) | (exfalso; rename_i hh; rcases hh with hh | hh <;> simp at hh <;> omega)
        · subst h
          have HR := Lib.hid (HI2.out (CH.out (by decide)))
          clear CH CN HI2
          go_wp2_with fail
          go_round
          case rel => exact ⟨k + 1, by omega, by go_num, HR.out⟩
          case measure => simp [intOf]; omega
        · subst h
          obtain rfl := CN.out (by decide)
          clear CH CN HI2
          go_wp2_with fail
          go_ret
          exact ⟨rfl, rfl⟩
        · have HR := Lib.hid (HI2.out (CH.out (by simp only [chrB, letB, decide_eq_true (show (97 : Int) ≤ y by omega), decide_eq_true (show (y : Int) ≤ 122 by omega), Bool.true_and, Bool.true_or])))
          clear CH CN HI2
          go_wp2_with fail
          go_round
          case rel => exact ⟨k + 1, by omega, by go_num, HR.out⟩
          case measure => simp [intOf]; omega
        · obtain rfl := CN.out (by simp only [chrB, letB, digB, decide_eq_false (show ¬ (y : Int) ≤ 122 by omega), decide_eq_false (show ¬ (y : Int) ≤ 57 by omega), decide_eq_false (show ¬ y = 95 by omega), Bool.and_false, Bool.false_or])
          have h1 : ¬ (y : Int) = 95 := by omega
          clear CH CN HI2
          go_wp2_with fail
          all_goals first | (go_ret; exact ⟨rfl, rfl⟩) | (exfalso; rename_i hh; rcases hh with hh | hh <;> simp at hh <;> omega)
      · obtain rfl := YE.out fun i hi => HI.out i (by omega)
        clear NO YE HI H0 HB IX
        go_wp2_with fail
        go_ret
        exact ⟨rfl, rfl⟩
end Go.Proofs.YtmdpjahhhfajaaaDoor
