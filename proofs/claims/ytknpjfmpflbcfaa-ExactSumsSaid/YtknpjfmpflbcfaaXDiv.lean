/-
  Divide and Modulo, of exact and of its reference.
-/
import Derived.Test.YtknpjfmpflbcfaaXCalc
namespace Go.Proofs.Ytknpjfmpflbcfaa
open Go.RowKit Wh

theorem divB_of {a b : Int} (h : divB a b = false) : divZ a b = 0 ∧ modZ a b = 0 := by
  unfold divZ modZ
  rw [h]
  exact ⟨rfl, rfl⟩

theorem divB_yes {a b : Int} (h : divB a b = true) : divZ a b = floorZ a b ∧ modZ a b = a - floorZ a b * b := by
  unfold divZ modZ
  rw [h]
  exact ⟨rfl, rfl⟩

theorem divB_parts {a b : Int} (h : divB a b = true) : smB a = true ∧ smB b = true ∧ (b == 0) = false := by
  unfold divB at h
  simp only [Bool.and_eq_true, Bool.not_eq_true'] at h
  exact ⟨h.1.1, h.1.2, h.2⟩

theorem divide_any (a b : Int) (w : World) :
    Calls Try.prog 18 #[.int .i64 a, .int .i64 b] w (IsPair (divZ a b) (divB a b) w) := by
  by_cases hd : divB a b = true
  · obtain ⟨h1, h2, h3⟩ := divB_parts hd
    have b1 := smB_bd h1
    have b2 := smB_bd h2
    have b0 : b ≠ 0 := by simpa using h3
    have b3 := tdiv_small a b b1.1 b1.2
    have HD := Lib.hid hd
    have HZ := Lib.hid ((divB_yes hd).1.trans (floorZ_go a b b0))
    have hs := tmod_sign a b b0
    have hw : wrap64 (a.tdiv b) = a.tdiv b := IntWalk.wrap64_in _ (by omega)
    clear hd
    go_enter Try.func18, Try.ntmps18
    go_wp2_with (first | (go_at_call 31; refine (small_any _ _).mono ?_; rintro e w' ⟨rfl, rfl⟩))
    clear h1 h2 h3 hw b1 b2 b3
    all_goals
      go_ret2
      refine ⟨ret_pair ?_ HD.out.symm, rfl⟩
      rw [HZ.out]
      clear HZ HD
      by_cases e1 : a < 0 <;> by_cases e2 : b < 0 <;> split <;> first | rfl | (exfalso; simp_all; done) | (exfalso; simp_all; omega)
  · have hf : divB a b = false := by simpa using hd
    have HD := Lib.hid hf
    have HZ := Lib.hid (divB_of hf).1
    have hp : smB a = true → smB b = true → (b == 0) = true := by
      intro h1 h2
      cases h3 : b == 0
      · exact absurd (by unfold divB; rw [h1, h2, h3]; rfl) hd
      · rfl
    clear hd hf
    cases h1 : smB a
    case true =>
      cases h2 : smB b
      case true =>
        have h3 := hp h1 h2
        clear hp
        go_enter Try.func18, Try.ntmps18
        go_wp2_with (first | (go_at_call 31; refine (small_any _ _).mono ?_; rintro e w' ⟨rfl, rfl⟩))
        go_ret2
        exact ⟨ret_pair HZ.out.symm HD.out.symm, rfl⟩
      case false =>
        clear hp
        go_enter Try.func18, Try.ntmps18
        go_wp2_with (first | (go_at_call 31; refine (small_any _ _).mono ?_; rintro e w' ⟨rfl, rfl⟩))
        go_ret2
        exact ⟨ret_pair HZ.out.symm HD.out.symm, rfl⟩
    case false =>
      clear hp
      go_enter Try.func18, Try.ntmps18
      go_wp2_with (first | (go_at_call 31; refine (small_any _ _).mono ?_; rintro e w' ⟨rfl, rfl⟩))
      go_ret2
      exact ⟨ret_pair HZ.out.symm HD.out.symm, rfl⟩

theorem rfloor_any (a b : Int) (h0 : -1073741824 ≤ a) (h1 : a ≤ 1073741824) (hb : 0 < b) (w : World) :
    Calls Try.prog 35 #[.int .i64 a, .int .i64 b] w fun e w' => e = .returned (.int .i64 (a / b)) ∧ w = w' := by
  have HF := Lib.hid (floor_pos a b hb)
  have b3 := tdiv_small a b h0 h1
  have hz : (b == 0) = false := by simpa using (show b ≠ 0 by omega)
  have hw : wrap64 (a.tdiv b) = a.tdiv b := IntWalk.wrap64_in _ (by omega)
  have hm : wrap64 (a.tmod b) = a.tmod b := IntWalk.wrap64_in _ (by
    have h2 := Int.mul_tdiv_add_tmod a b
    have h3 : (a.tmod b).natAbs ≤ a.natAbs := by
      rw [Int.natAbs_tmod]
      exact Nat.mod_le _ _
    omega)
  by_cases hp : 0 ≤ a
  · have e1 : a.tdiv b = a / b := Int.tdiv_eq_ediv_of_nonneg hp
    have e2 := Int.emod_nonneg a (show b ≠ 0 by omega)
    clear hw hm
    go_enter Try.func35, Try.ntmps35
    go_wp2_with fail
    go_ret
    exact ⟨rfl, rfl⟩
  · go_enter Try.func35, Try.ntmps35
    go_wp2_with fail
    all_goals
      go_ret
      refine ⟨ret_int ?_, rfl⟩
      rw [HF.out]
      clear HF
      split <;> first | rfl | omega

theorem rdivide_any (a b : Int) (w : World) :
    Calls Try.prog 19 #[.int .i64 a, .int .i64 b] w (IsPair (divZ a b) (divB a b) w) := by
  by_cases hd : divB a b = true
  · obtain ⟨h1, h2, h3⟩ := divB_parts hd
    have b1 := smB_bd h1
    have b2 := smB_bd h2
    have b0 : b ≠ 0 := by simpa using h3
    have HD := Lib.hid hd
    have HZ := Lib.hid (show divZ a b = if 0 < b then a / b else (-a) / (-b) from (divB_yes hd).1)
    clear hd
    by_cases hb : b < 0
    all_goals
      go_enter Try.func19, Try.ntmps19
      go_wp2_with (first | (go_at_call 34; refine (rsmall_any _ _).mono ?_; rintro e w' ⟨rfl, rfl⟩) | (go_at_call 35; refine (rfloor_any _ _ (by omega) (by omega) (by omega) _).mono ?_; rintro e w' ⟨rfl, rfl⟩))
      go_ret2
      refine ⟨ret_pair ?_ HD.out.symm, rfl⟩
      rw [HZ.out]
      first | rw [if_pos (by omega)] | (rw [if_neg (by omega)]; exact (Int.ediv_neg _ _).symm)
  · have hf : divB a b = false := by simpa using hd
    have HD := Lib.hid hf
    have HZ := Lib.hid (divB_of hf).1
    have hp : smB a = true → smB b = true → (b == 0) = true := by
      intro h1 h2
      cases h3 : b == 0
      · exact absurd (by unfold divB; rw [h1, h2, h3]; rfl) hd
      · rfl
    clear hd hf
    cases h1 : smB a
    case true =>
      cases h2 : smB b
      case true =>
        have h3 := hp h1 h2
        clear hp
        go_enter Try.func19, Try.ntmps19
        go_wp2_with (first | (go_at_call 34; refine (rsmall_any _ _).mono ?_; rintro e w' ⟨rfl, rfl⟩))
        go_ret2
        exact ⟨ret_pair HZ.out.symm HD.out.symm, rfl⟩
      case false =>
        clear hp
        go_enter Try.func19, Try.ntmps19
        go_wp2_with (first | (go_at_call 34; refine (rsmall_any _ _).mono ?_; rintro e w' ⟨rfl, rfl⟩))
        go_ret2
        exact ⟨ret_pair HZ.out.symm HD.out.symm, rfl⟩
    case false =>
      clear hp
      go_enter Try.func19, Try.ntmps19
      go_wp2_with (first | (go_at_call 34; refine (rsmall_any _ _).mono ?_; rintro e w' ⟨rfl, rfl⟩))
      go_ret2
      exact ⟨ret_pair HZ.out.symm HD.out.symm, rfl⟩

theorem modulo_any (a b : Int) (w : World) :
    Calls Try.prog 20 #[.int .i64 a, .int .i64 b] w (IsPair (modZ a b) (divB a b) w) := by
  have hc := fun W => divide_any a b W
  by_cases hd : divB a b = true
  · obtain ⟨h1, h2, h3⟩ := divB_parts hd
    have b1 := smB_bd h1
    have b2 := smB_bd h2
    have b0 : b ≠ 0 := by simpa using h3
    rw [(divB_yes hd).1, hd] at hc
    have HC := Lib.hid hc
    have HD := Lib.hid hd
    have HZ := Lib.hid (divB_yes hd).2
    have hr := floorZ_rest a b b0
    generalize floorZ a b = q at *
    have q0 : -9223372036854775808 ≤ q * b := by omega
    have q1 : q * b ≤ 9223372036854775807 := by omega
    have q2 : -1073741824 ≤ a - q * b := by omega
    have q3 : a - q * b ≤ 1073741824 := by omega
    clear hd hc hr h1 h2 h3
    go_enter Try.func20, Try.ntmps20
    go_wp2_with fail
    refine (HC.out _).mono ?_
    rintro e w' ⟨rfl, rfl⟩
    go_wp2_with fail
    go_ret2
    exact ⟨ret_pair HZ.out.symm HD.out.symm, rfl⟩
  · have hf : divB a b = false := by simpa using hd
    have HD := Lib.hid hf
    have HZ := Lib.hid (divB_of hf).2
    rw [(divB_of hf).1, hf] at hc
    have HC := Lib.hid hc
    clear hd hf hc
    go_enter Try.func20, Try.ntmps20
    go_wp2_with fail
    refine (HC.out _).mono ?_
    rintro e w' ⟨rfl, rfl⟩
    go_wp2_with fail
    go_ret2
    exact ⟨ret_pair HZ.out.symm HD.out.symm, rfl⟩

theorem rmodulo_any (a b : Int) (w : World) :
    Calls Try.prog 21 #[.int .i64 a, .int .i64 b] w (IsPair (modZ a b) (divB a b) w) := by
  have hc := fun W => rdivide_any a b W
  by_cases hd : divB a b = true
  · obtain ⟨h1, h2, h3⟩ := divB_parts hd
    have b1 := smB_bd h1
    have b2 := smB_bd h2
    have b0 : b ≠ 0 := by simpa using h3
    rw [(divB_yes hd).1, hd] at hc
    have HC := Lib.hid hc
    have HD := Lib.hid hd
    have hz := (divB_yes hd).2
    have hr := floorZ_rest a b b0
    rw [Int.mul_comm] at hz hr
    generalize floorZ a b = q at *
    have HZ := Lib.hid hz
    have q0 : -9223372036854775808 ≤ b * q := by omega
    have q1 : b * q ≤ 9223372036854775807 := by omega
    have q2 : -1073741824 ≤ a - b * q := by omega
    have q3 : a - b * q ≤ 1073741824 := by omega
    clear hd hc hr h1 h2 h3 hz
    go_enter Try.func21, Try.ntmps21
    go_wp2_with fail
    refine (HC.out _).mono ?_
    rintro e w' ⟨rfl, rfl⟩
    go_wp2_with fail
    go_ret2
    exact ⟨ret_pair HZ.out.symm HD.out.symm, rfl⟩
  · have hf : divB a b = false := by simpa using hd
    have HD := Lib.hid hf
    have HZ := Lib.hid (divB_of hf).2
    rw [(divB_of hf).1, hf] at hc
    have HC := Lib.hid hc
    clear hd hf hc
    go_enter Try.func21, Try.ntmps21
    go_wp2_with fail
    refine (HC.out _).mono ?_
    rintro e w' ⟨rfl, rfl⟩
    go_wp2_with fail
    go_ret2
    exact ⟨ret_pair HZ.out.symm HD.out.symm, rfl⟩

end Go.Proofs.Ytknpjfmpflbcfaa
