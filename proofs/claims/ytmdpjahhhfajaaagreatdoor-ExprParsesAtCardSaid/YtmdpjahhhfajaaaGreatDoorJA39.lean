/-
  valid and Validate, of the reference.
-/
import Derived.Test.YtmdpjahhhfajaaaGreatDoorJA15
import Derived.Test.YtmdpjahhhfajaaaGreatDoorJA38
import Derived.Deep.RegionHeld3
set_option linter.unusedVariables false
set_option maxRecDepth 100000
namespace Go.Proofs.YtmdpjahhhfajaaaGreatDoor
open Go.RowKit Wh

theorem keepTok {w w' w'' : World} {B : Nat} {s : ByteArray} (hB : B < w.heap.size) (h : w'.cell? ⟨B, 1, none⟩ = some (.string s) ∧ w'.cell? ⟨B, 2, none⟩ = some (.int .i64 0) ∧ Below w.heap.size w w') (hb : Below w'.heap.size w' w'') :
    w''.cell? ⟨B, 1, none⟩ = some (.string s) ∧ w''.cell? ⟨B, 2, none⟩ = some (.int .i64 0) ∧ Below w.heap.size w w'' := by
  obtain ⟨h1, h2, h3⟩ := h
  have hs := h3.size
  have hc := (bcell hb).1
  refine ⟨?_, ?_, h3.trans (hb.mono hs)⟩ <;> (rw [hc _ _ (by omega)]; assumption)

set_option maxHeartbeats 8000000 in
theorem rvalid7_any (t : Tk) (at_ : Int) (w : World) (hs : t.tx.size ≤ 9223372036854775800) : Calls Tryz.prog 56 #[tokV (t, at_)] w fun e w' => e = .returned (.bool (okT t)) ∧ Below w.heap.size w w' := by
  obtain ⟨k, s, n⟩ := t
  simp only at hs
  have Q := Lib.hid (fun W => rIsQualified_any s hs W)
  have S := Lib.hid (fun W => rsymbol_any s hs W)
  unfold okT empB
  simp only [tokV]
  by_cases k1 : k = 1
  · subst k1
    rw [if_pos rfl]
    by_cases h2 : n = 0
    · subst h2
      cases hq : qualB s with
      | true =>
        rw [hq] at Q
        clear hq S
        go_enter Tryz.func56, Tryz.ntmps56
        go_wp2_with (first | (go_at_call 98; refine (Q.out _).mono ?_; rintro e w1 ⟨rfl, rfl⟩))
        go_ret
        exact ⟨rfl, (Below.refl _ _).alloc (Nat.le_refl _) _⟩
      | false =>
        rw [hq] at Q
        clear hq S
        go_enter Tryz.func56, Tryz.ntmps56
        go_wp2_with (first | (go_at_call 98; refine (Q.out _).mono ?_; rintro e w1 ⟨rfl, rfl⟩))
        go_ret
        exact ⟨rfl, (Below.refl _ _).alloc (Nat.le_refl _) _⟩
    · rw [decide_eq_false h2, Bool.and_false]
      have h3 : (n == 0) = false := by simpa using h2
      clear Q S
      go_enter Tryz.func56, Tryz.ntmps56
      go_wp2_with fail
      go_ret
      exact ⟨rfl, (Below.refl _ _).alloc (Nat.le_refl _) _⟩
  rw [if_neg k1]
  by_cases k2 : k = 2
  · subst k2
    rw [if_pos rfl]
    clear k1
    by_cases h1 : s.size = 0
    · obtain rfl := empty_of_size h1
      clear h1 Q S hs
      by_cases h2 : 0 ≤ n
      · by_cases h3 : n ≤ 1073741824
        · rw [decide_eq_true h2, decide_eq_true h3]
          go_enter Tryz.func56, Tryz.ntmps56
          go_wp2_with fail
          go_ret
          exact ⟨rfl, (Below.refl _ _).alloc (Nat.le_refl _) _⟩
        · rw [decide_eq_true h2, decide_eq_false h3]
          go_enter Tryz.func56, Tryz.ntmps56
          go_wp2_with fail
          go_ret
          exact ⟨rfl, (Below.refl _ _).alloc (Nat.le_refl _) _⟩
      · rw [decide_eq_false h2]
        go_enter Tryz.func56, Tryz.ntmps56
        go_wp2_with fail
        go_ret
        exact ⟨rfl, (Below.refl _ _).alloc (Nat.le_refl _) _⟩
    · obtain ⟨e1, e2⟩ := ne_empty h1
      rw [decide_eq_false h1]
      clear h1 Q S hs
      go_enter Tryz.func56, Tryz.ntmps56
      go_wp2_with fail
      go_ret
      exact ⟨rfl, (Below.refl _ _).alloc (Nat.le_refl _) _⟩
  rw [if_neg k2]
  by_cases k3 : k = 3
  · subst k3
    rw [if_pos rfl]
    clear k1 k2 Q S
    by_cases h2 : n = 0
    · subst h2
      by_cases h1 : s.size ≤ 64
      · have h1i : (s.size : Int) ≤ 64 := by omega
        rw [decide_eq_true h1]
        go_enter Tryz.func56, Tryz.ntmps56
        go_wp2_with fail
        go_ret
        exact ⟨rfl, (Below.refl _ _).alloc (Nat.le_refl _) _⟩
      · have h1i : ¬ (s.size : Int) ≤ 64 := by omega
        rw [decide_eq_false h1]
        go_enter Tryz.func56, Tryz.ntmps56
        go_wp2_with fail
        go_ret
        exact ⟨rfl, (Below.refl _ _).alloc (Nat.le_refl _) _⟩
    · rw [decide_eq_false h2, Bool.and_false]
      have h3 : (n == 0) = false := by simpa using h2
      go_enter Tryz.func56, Tryz.ntmps56
      go_wp2_with fail
      go_ret
      exact ⟨rfl, (Below.refl _ _).alloc (Nat.le_refl _) _⟩
  rw [if_neg k3]
  by_cases k4 : k = 4
  · subst k4
    rw [if_pos rfl]
    clear k1 k2 k3
    by_cases h1 : s.size = 0
    · obtain rfl := empty_of_size h1
      clear h1 Q S hs
      by_cases h2 : 0 ≤ n
      · by_cases h3 : n ≤ 575999999
        · rw [decide_eq_true h2, decide_eq_true h3]
          go_enter Tryz.func56, Tryz.ntmps56
          go_wp2_with fail
          go_ret
          exact ⟨rfl, (Below.refl _ _).alloc (Nat.le_refl _) _⟩
        · rw [decide_eq_true h2, decide_eq_false h3]
          go_enter Tryz.func56, Tryz.ntmps56
          go_wp2_with fail
          go_ret
          exact ⟨rfl, (Below.refl _ _).alloc (Nat.le_refl _) _⟩
      · rw [decide_eq_false h2]
        go_enter Tryz.func56, Tryz.ntmps56
        go_wp2_with fail
        go_ret
        exact ⟨rfl, (Below.refl _ _).alloc (Nat.le_refl _) _⟩
    · obtain ⟨e1, e2⟩ := ne_empty h1
      rw [decide_eq_false h1]
      clear h1 Q S hs
      go_enter Tryz.func56, Tryz.ntmps56
      go_wp2_with fail
      go_ret
      exact ⟨rfl, (Below.refl _ _).alloc (Nat.le_refl _) _⟩
  rw [if_neg k4]
  by_cases k5 : k = 5
  · subst k5
    rw [if_pos rfl]
    clear k1 k2 k3 k4 Q
    by_cases h2 : n = 0
    · subst h2
      by_cases h1 : s.size = 0
      · obtain rfl := empty_of_size h1
        have hq : symB ⟨#[]⟩ = false := by decide
        rw [hq]
        clear h1 hq S hs
        go_enter Tryz.func56, Tryz.ntmps56
        go_wp2_with fail
        go_quiet (fail)
        go_wp2_with fail
        go_ret
        exact ⟨rfl, Below.drewN' ((Below.refl _ _).alloc (Nat.le_refl _) _) _⟩
      · obtain ⟨e1, e2⟩ := ne_empty h1
        have hsb := symS_self s
        rw [decide_eq_true (by omega : 0 < s.size), Bool.true_and] at hsb
        rw [hsb]
        have hq : ((symS s).toList == s.toList) = eqS (symS s) s := rfl
        generalize eqS (symS s) s = b at *
        generalize symS s = y at *
        clear h1 hsb
        have hw1 : w.heap.size < (w.alloc (.cells #[.int .i64 5, .string s, .int .i64 0, .int .i64 at_] 71)).heap.size := by simp
        have hS0 : (w.alloc (.cells #[.int .i64 5, .string s, .int .i64 0, .int .i64 at_] 71)).drew.cell? ⟨w.heap.size, 1, none⟩ = some (.string s) ∧ (w.alloc (.cells #[.int .i64 5, .string s, .int .i64 0, .int .i64 at_] 71)).drew.cell? ⟨w.heap.size, 2, none⟩ = some (.int .i64 0) ∧ Below (w.alloc (.cells #[.int .i64 5, .string s, .int .i64 0, .int .i64 at_] 71)).heap.size (w.alloc (.cells #[.int .i64 5, .string s, .int .i64 0, .int .i64 at_] 71)) (w.alloc (.cells #[.int .i64 5, .string s, .int .i64 0, .int .i64 at_] 71)).drew := by
          have hb4 := Box4.new w (.int .i64 5) (.string s) (.int .i64 0) (.int .i64 at_) 71
          exact ⟨hb4.c1, hb4.c2, (Below.refl _ _).drew⟩
        cases b
        all_goals
          go_enter Tryz.func56, Tryz.ntmps56
          go_wp2_with fail
          go_region_held3 (fun w' => w'.cell? ⟨w.heap.size, 1, none⟩ = some (.string s) ∧ w'.cell? ⟨w.heap.size, 2, none⟩ = some (.int .i64 0) ∧ Below (w.alloc (.cells #[.int .i64 5, .string s, .int .i64 0, .int .i64 at_] 71)).heap.size (w.alloc (.cells #[.int .i64 5, .string s, .int .i64 0, .int .i64 at_] 71)) w')
            (first | with_reducible exact hS0 | with_reducible exact keepTok hw1 hS0 hcall)
            (first | (go_at_call 66; refine (S.out _).mono ?_; rintro e w' ⟨rfl, hcall⟩))
          all_goals
            have hF := (keepTok hw1 hS0 hcall).2.2
            go_wp2_with fail
            go_ret
            exact ⟨rfl, ((Below.refl _ _).alloc (Nat.le_refl _) _).trans (hF.mono (by simp))⟩
    · rw [decide_eq_false h2, Bool.and_false]
      have h3 : (n == 0) = false := by simpa using h2
      clear S
      go_enter Tryz.func56, Tryz.ntmps56
      go_wp2_with fail
      go_quiet (fail)
      go_wp2_with fail
      go_ret
      exact ⟨rfl, Below.drewN' ((Below.refl _ _).alloc (Nat.le_refl _) _) _⟩
  rw [if_neg k5]
  have e1 : (k == 1) = false := by simpa using k1
  have e2 : (k == 2) = false := by simpa using k2
  have e3 : (k == 3) = false := by simpa using k3
  have e4 : (k == 4) = false := by simpa using k4
  have e5 : (k == 5) = false := by simpa using k5
  clear k1 k2 k3 k4 k5 Q S hs
  go_enter Tryz.func56, Tryz.ntmps56
  go_wp2_with fail
  go_ret
  exact ⟨rfl, (Below.refl _ _).alloc (Nat.le_refl _) _⟩

set_option maxHeartbeats 4000000 in
theorem rvalidate_any7 (a : Option Addr) (len cap : Nat) (ts : List TA) (w : World) (hs : IsToks w a len ts) (hl : len ≤ 1000000000000) (hz : ∀ t ∈ ts, t.1.tx.size ≤ 9223372036854775800) :
    Calls Tryz.prog 31 #[.slice a len cap] w fun e w' => e = .returned (.int .i64 (valE ts)) ∧ Below w.heap.size w w' := by
  have hln := hs.1
  have HS := Lib.hid hs
  have HZ := Lib.hid hz
  clear hs hz
  by_cases h0 : len = 0
  · subst h0
    obtain rfl := List.eq_nil_of_length_eq_zero hln
    rw [valE_nil]
    go_enter Tryz.func31, Tryz.ntmps31
    go_wp2_with fail
    go_ret
    exact ⟨rfl, Below.refl _ _⟩
  · obtain ⟨m, rfl⟩ : ∃ m, len = m + 1 := ⟨len - 1, by omega⟩
    clear h0
    have hm9 : ((m : Int) + 1 == 0) = false := by rw [beq_eq_false_iff_ne]; omega
    have NO := Lib.hid (fun i hi h => valE_no (ts := ts) (i := i) hi h)
    have YES := Lib.hid (fun h => valE_yes (ts := ts) (by omega) h)
    obtain ⟨E, hE⟩ : ∃ E, valE ts = E := ⟨_, rfl⟩
    rw [hE] at NO YES ⊢
    have HL := Lib.hid hln
    clear hE hln
    obtain ⟨kd, tx, nm, p, b, off, hx, rfl, hblt, c0, c1, c2, c3⟩ := HS.out.at (k := m) (by omega)
    have HLAST := Lib.hid (okAt_last hx HL.out.symm)
    have NOL := Lib.hid (NO.out m (by rw [HL.out]; omega))
    simp only at HLAST
    clear hx
    by_cases q0 : kd = 0
    · subst q0
      by_cases q1 : nm = 0
      · subst q1
        by_cases q2 : tx.size = 0
        · obtain rfl := empty_of_size q2
          have HLT : Hid (okAtT ts m = true) := by show _ = _; rw [HLAST.out]; rfl
          clear HLAST NOL q2
          go_enter Tryz.func31, Tryz.ntmps31
          go_wp2_with fail
          clear c0 c1 c2 c3
          go_loopw [4] (fun iv wr => ∃ k : Nat, k ≤ m ∧ iv = .int .i64 k ∧ Hid (∀ i, i < k → okAtT ts i = true) ∧ Below w.heap.size w wr) (fun iv _ => m - (intOf iv).toNat)
          case atStart => exact ⟨0, Nat.zero_le _, rfl, fun i hi => absurd hi (by omega), Below.refl _ _⟩
          case round =>
            obtain ⟨k, hk, rfl, HI, hbel⟩ := hrel
            have hsz := hbel.size
            by_cases hlt : k < m
            · obtain ⟨kd2, tx2, nm2, p2, b2, off2, hx, hb2, hblt2, c0, c1, c2, c3⟩ := (HS.out.below hbel (Nat.le_refl _)).at (k := k) (by omega)
              have h91 : b = b2 := by cases hb2; rfl
              have h92 : off = off2 := by cases hb2; rfl
              subst h91
              subst h92
              clear hb2
              have hx9 := HZ.out _ (List.mem_of_getElem? hx)
              have IT := Lib.hid (fun W => rvalid7_any ⟨kd2, tx2, nm2⟩ p2 W hx9)
              have HOK := Lib.hid (okAt_mid hx (by rw [HL.out]; omega))
              simp only [tokV] at IT
              simp only at HOK
              have NO2 := Lib.hid (NO.out k (by rw [HL.out]; omega))
              clear hx hx9
              cases hit : okT ⟨kd2, tx2, nm2⟩ with
              | true =>
                rw [hit] at IT HOK
                have HI3 : Hid (∀ i, i < k + 1 → okAtT ts i = true) := fun i hi => by
                  by_cases e : i = k
                  · rw [e]; exact HOK.out
                  · exact HI.out i (by omega)
                clear NO HI NO2 HOK YES hit
                go_wp2_with (go_at_call 56; refine (IT.out _).mono ?_; rintro e w1 ⟨rfl, hb⟩)
                go_roundw
                case rel => exact ⟨k + 1, by omega, by go_num, HI3, hbel.trans (hb.mono hsz)⟩
                case measure => simp [intOf]; omega
              | false =>
                rw [hit] at IT HOK
                obtain rfl := NO2.out HOK.out
                clear NO HI NO2 HOK YES hit
                go_wp2_with (go_at_call 56; refine (IT.out _).mono ?_; rintro e w1 ⟨rfl, hb⟩)
                go_ret
                exact ⟨rfl, hbel.trans (hb.mono hsz)⟩
            · obtain rfl := YES.out fun i hi => by
                by_cases e : i = m
                · rw [e]; exact HLT.out
                · exact HI.out i (by have := HL.out; omega)
              clear NO YES HI HLT
              go_wp2_with fail
              go_ret
              exact ⟨rfl, hbel⟩
        · obtain ⟨e1, e2⟩ := ne_empty q2
          obtain rfl := NOL.out (by rw [HLAST.out]; unfold empB; rw [decide_eq_false q2]; rfl)
          clear HLAST NOL NO YES q2
          go_enter Tryz.func31, Tryz.ntmps31
          go_wp2_with fail
          go_ret
          exact ⟨rfl, Below.refl _ _⟩
      · obtain rfl := NOL.out (by rw [HLAST.out, decide_eq_false q1, Bool.and_false, Bool.and_false])
        have e1 : (nm != 0) = true := by simpa using q1
        have e2 : (nm == 0) = false := by simpa using q1
        clear HLAST NOL NO YES q1
        go_enter Tryz.func31, Tryz.ntmps31
        go_wp2_with fail
        go_ret
        exact ⟨rfl, Below.refl _ _⟩
    · obtain rfl := NOL.out (by rw [HLAST.out, decide_eq_false q0]; rfl)
      have e1 : (kd != 0) = true := by simpa using q0
      have e2 : (kd == 0) = false := by simpa using q0
      clear HLAST NOL NO YES q0
      go_enter Tryz.func31, Tryz.ntmps31
      go_wp2_with fail
      go_ret
      exact ⟨rfl, Below.refl _ _⟩

end Go.Proofs.YtmdpjahhhfajaaaGreatDoor
