/-
  Reserved, isToken and Validate, of package token.
-/
import Derived.Test.YtloccocengegnaaDoorTTok
import Derived.Test.YtloccocengegnaaDoorTPLeaf
set_option linter.unusedVariables false
set_option maxRecDepth 100000
namespace Go.Proofs.YtloccocengegnaaDoor
open Go.RowKit Wh

set_option maxHeartbeats 4000000 in
theorem tReserved_any (s : ByteArray) (w : World) : Calls Tryd.prog 6 #[.string s] w fun e w' => e = .returned (.bool (resB s)) ∧ w = w' := by
  cases hb : resB s with
  | true =>
    have hm := resB_mem hb
    simp only [resL, List.mem_cons, List.not_mem_nil, or_false] at hm
    clear hb
    rcases hm with rfl | rfl | rfl | rfl | rfl | rfl | rfl | rfl
    all_goals
      go_enter Tryd.func6, Tryd.ntmps6
      go_wp2_with fail
      go_ret
      exact ⟨rfl, rfl⟩
  | false =>
    have q := fun t (ht : t ∈ resL) => ne_lit (p := resB) (resL_all t ht) hb
    have q0 := q ⟨#[97, 110, 100]⟩ (by simp [resL])
    rw [toList_bts (⟨#[97, 110, 100]⟩ : ByteArray)] at q0
    have q1 := q ⟨#[111, 114]⟩ (by simp [resL])
    rw [toList_bts (⟨#[111, 114]⟩ : ByteArray)] at q1
    have q2 := q ⟨#[110, 111, 116]⟩ (by simp [resL])
    rw [toList_bts (⟨#[110, 111, 116]⟩ : ByteArray)] at q2
    have q3 := q ⟨#[110, 117, 108, 108]⟩ (by simp [resL])
    rw [toList_bts (⟨#[110, 117, 108, 108]⟩ : ByteArray)] at q3
    have q4 := q ⟨#[116, 114, 117, 101]⟩ (by simp [resL])
    rw [toList_bts (⟨#[116, 114, 117, 101]⟩ : ByteArray)] at q4
    have q5 := q ⟨#[102, 97, 108, 115, 101]⟩ (by simp [resL])
    rw [toList_bts (⟨#[102, 97, 108, 115, 101]⟩ : ByteArray)] at q5
    have q6 := q ⟨#[98, 121]⟩ (by simp [resL])
    rw [toList_bts (⟨#[98, 121]⟩ : ByteArray)] at q6
    have q7 := q ⟨#[115, 101, 108, 102]⟩ (by simp [resL])
    rw [toList_bts (⟨#[115, 101, 108, 102]⟩ : ByteArray)] at q7
    simp only [bts] at q0 q1 q2 q3 q4 q5 q6 q7
    clear q hb
    go_enter Tryd.func6, Tryd.ntmps6
    go_wp2_with fail
    go_ret
    exact ⟨rfl, rfl⟩

theorem ne_empty {s : ByteArray} (h : ¬ s.size = 0) : (s.toList == ([] : List UInt8)) = false ∧ s.toList.isEmpty = false := by
  constructor
  · rw [toList_bts, beq_eq_false_iff_ne]
    intro h1
    exact h (by rw [← bts_length, h1]; rfl)
  · rw [toList_bts]
    cases h1 : bts s with
    | nil => exact absurd (by rw [← bts_length, h1]; rfl) h
    | cons => rfl

set_option maxHeartbeats 8000000 in
theorem isToken_any (t : Tk) (at_ : Int) (w : World) (hs : t.tx.size ≤ 9223372036854775800) : Calls Tryd.prog 17 #[tokV (t, at_)] w fun e w' => e = .returned (.bool (isT t)) ∧ Below w.heap.size w w' := by
  obtain ⟨k, s, n⟩ := t
  simp only at hs
  have Q := Lib.hid (fun W => isQualified_any s hs W)
  have S := Lib.hid (fun W => isSymbol_any s W)
  have hbel0 : Below w.heap.size w (w.alloc (.cells #[.int .i64 k, .string s, .int .i64 n, .int .i64 at_] 41)) := (Below.refl _ _).alloc (Nat.le_refl _) _
  unfold isT okT empB
  simp only [tokV]
  by_cases k0 : k = 0
  · subst k0
    rw [if_pos rfl]
    by_cases h1 : s.size = 0
    · obtain rfl := empty_of_size h1
      clear h1 hbel0 Q S hs
      by_cases h2 : n = 0
      · subst h2
        go_enter Tryd.func17, Tryd.ntmps17
        go_wp2_with fail
        go_ret
        exact ⟨rfl, (Below.refl _ _).alloc (Nat.le_refl _) _⟩
      · rw [decide_eq_false h2]
        have h3 : (n == 0) = false := by simpa using h2
        go_enter Tryd.func17, Tryd.ntmps17
        go_wp2_with fail
        go_ret
        exact ⟨rfl, (Below.refl _ _).alloc (Nat.le_refl _) _⟩
    · obtain ⟨e1, e2⟩ := ne_empty h1
      rw [decide_eq_false h1]
      clear h1 hbel0 Q S hs
      go_enter Tryd.func17, Tryd.ntmps17
      go_wp2_with fail
      go_ret
      exact ⟨rfl, (Below.refl _ _).alloc (Nat.le_refl _) _⟩
  rw [if_neg k0]
  by_cases k1 : k = 1
  · subst k1
    rw [if_pos rfl]
    clear k0
    cases hq : qualB s with
    | true =>
      rw [hq] at Q
      clear hq S
      by_cases h2 : n = 0
      · subst h2
        go_enter Tryd.func17, Tryd.ntmps17
        go_wp2_with (first | (go_at_call 23; refine (Q.out _).mono ?_; rintro e w1 ⟨rfl, hb⟩; obtain ⟨hc, hf⟩ := bcell hb; have hsz1 : w.heap.size < w1.heap.size := (by have := hb.size; simp at this; omega)))
        go_ret
        exact ⟨rfl, hbel0.trans (hb.mono (by simp))⟩
      · rw [decide_eq_false h2]
        have h3 : (n == 0) = false := by simpa using h2
        go_enter Tryd.func17, Tryd.ntmps17
        go_wp2_with (first | (go_at_call 23; refine (Q.out _).mono ?_; rintro e w1 ⟨rfl, hb⟩; obtain ⟨hc, hf⟩ := bcell hb; have hsz1 : w.heap.size < w1.heap.size := (by have := hb.size; simp at this; omega)))
        go_ret
        exact ⟨rfl, hbel0.trans (hb.mono (by simp))⟩
    | false =>
      rw [hq] at Q
      clear hq S
      go_enter Tryd.func17, Tryd.ntmps17
      go_wp2_with (first | (go_at_call 23; refine (Q.out _).mono ?_; rintro e w1 ⟨rfl, hb⟩; obtain ⟨hc, hf⟩ := bcell hb; have hsz1 : w.heap.size < w1.heap.size := (by have := hb.size; simp at this; omega)))
      go_ret
      exact ⟨rfl, hbel0.trans (hb.mono (by simp))⟩
  rw [if_neg k1]
  by_cases k2 : k = 2
  · subst k2
    rw [if_pos rfl]
    clear k0 k1
    by_cases h1 : s.size = 0
    · obtain rfl := empty_of_size h1
      clear h1 hbel0 Q S hs
      by_cases h2 : 0 ≤ n
      · by_cases h3 : n ≤ 1073741824
        · rw [decide_eq_true h2, decide_eq_true h3]
          go_enter Tryd.func17, Tryd.ntmps17
          go_wp2_with fail
          go_ret
          exact ⟨rfl, (Below.refl _ _).alloc (Nat.le_refl _) _⟩
        · rw [decide_eq_true h2, decide_eq_false h3]
          go_enter Tryd.func17, Tryd.ntmps17
          go_wp2_with fail
          go_ret
          exact ⟨rfl, (Below.refl _ _).alloc (Nat.le_refl _) _⟩
      · rw [decide_eq_false h2]
        go_enter Tryd.func17, Tryd.ntmps17
        go_wp2_with fail
        go_ret
        exact ⟨rfl, (Below.refl _ _).alloc (Nat.le_refl _) _⟩
    · obtain ⟨e1, e2⟩ := ne_empty h1
      rw [decide_eq_false h1]
      clear h1 hbel0 Q S hs
      go_enter Tryd.func17, Tryd.ntmps17
      go_wp2_with fail
      go_ret
      exact ⟨rfl, (Below.refl _ _).alloc (Nat.le_refl _) _⟩
  rw [if_neg k2]
  by_cases k3 : k = 3
  · subst k3
    rw [if_pos rfl]
    clear k0 k1 k2 Q S
    by_cases h1 : s.size ≤ 64
    · have h1i : (s.size : Int) ≤ 64 := by omega
      rw [decide_eq_true h1]
      clear hbel0
      by_cases h2 : n = 0
      · subst h2
        go_enter Tryd.func17, Tryd.ntmps17
        go_wp2_with fail
        go_ret
        exact ⟨rfl, (Below.refl _ _).alloc (Nat.le_refl _) _⟩
      · rw [decide_eq_false h2]
        have h3 : (n == 0) = false := by simpa using h2
        go_enter Tryd.func17, Tryd.ntmps17
        go_wp2_with fail
        go_ret
        exact ⟨rfl, (Below.refl _ _).alloc (Nat.le_refl _) _⟩
    · have h1i : ¬ (s.size : Int) ≤ 64 := by omega
      rw [decide_eq_false h1]
      clear hbel0
      go_enter Tryd.func17, Tryd.ntmps17
      go_wp2_with fail
      go_ret
      exact ⟨rfl, (Below.refl _ _).alloc (Nat.le_refl _) _⟩
  rw [if_neg k3]
  by_cases k4 : k = 4
  · subst k4
    rw [if_pos rfl]
    clear k0 k1 k2 k3
    by_cases h1 : s.size = 0
    · obtain rfl := empty_of_size h1
      clear h1 hbel0 Q S hs
      by_cases h2 : 0 ≤ n
      · by_cases h3 : n ≤ 575999999
        · rw [decide_eq_true h2, decide_eq_true h3]
          go_enter Tryd.func17, Tryd.ntmps17
          go_wp2_with fail
          go_ret
          exact ⟨rfl, (Below.refl _ _).alloc (Nat.le_refl _) _⟩
        · rw [decide_eq_true h2, decide_eq_false h3]
          go_enter Tryd.func17, Tryd.ntmps17
          go_wp2_with fail
          go_ret
          exact ⟨rfl, (Below.refl _ _).alloc (Nat.le_refl _) _⟩
      · rw [decide_eq_false h2]
        go_enter Tryd.func17, Tryd.ntmps17
        go_wp2_with fail
        go_ret
        exact ⟨rfl, (Below.refl _ _).alloc (Nat.le_refl _) _⟩
    · obtain ⟨e1, e2⟩ := ne_empty h1
      rw [decide_eq_false h1]
      clear h1 hbel0 Q S hs
      go_enter Tryd.func17, Tryd.ntmps17
      go_wp2_with fail
      go_ret
      exact ⟨rfl, (Below.refl _ _).alloc (Nat.le_refl _) _⟩
  rw [if_neg k4]
  by_cases k5 : k = 5
  · subst k5
    rw [if_pos rfl]
    clear k0 k1 k2 k3 k4
    cases hq : symB s with
    | true =>
      rw [hq] at S
      clear hq Q hbel0
      by_cases h2 : n = 0
      · subst h2
        go_enter Tryd.func17, Tryd.ntmps17
        go_wp2_with (first | (go_at_call 24; refine (S.out _).mono ?_; rintro e w1 ⟨rfl, rfl⟩))
        go_ret
        exact ⟨rfl, (Below.refl _ _).alloc (Nat.le_refl _) _⟩
      · rw [decide_eq_false h2]
        have h3 : (n == 0) = false := by simpa using h2
        go_enter Tryd.func17, Tryd.ntmps17
        go_wp2_with (first | (go_at_call 24; refine (S.out _).mono ?_; rintro e w1 ⟨rfl, rfl⟩))
        go_ret
        exact ⟨rfl, (Below.refl _ _).alloc (Nat.le_refl _) _⟩
    | false =>
      rw [hq] at S
      clear hq Q hbel0
      go_enter Tryd.func17, Tryd.ntmps17
      go_wp2_with (first | (go_at_call 24; refine (S.out _).mono ?_; rintro e w1 ⟨rfl, rfl⟩))
      go_ret
      exact ⟨rfl, (Below.refl _ _).alloc (Nat.le_refl _) _⟩
  rw [if_neg k5]
  have e0 : (k == 0) = false := by simpa using k0
  have e1 : (k == 1) = false := by simpa using k1
  have e2 : (k == 2) = false := by simpa using k2
  have e3 : (k == 3) = false := by simpa using k3
  have e4 : (k == 4) = false := by simpa using k4
  have e5 : (k == 5) = false := by simpa using k5
  clear k0 k1 k2 k3 k4 k5 Q S hbel0 hs
  go_enter Tryd.func17, Tryd.ntmps17
  go_wp2_with fail
  go_ret
  exact ⟨rfl, (Below.refl _ _).alloc (Nat.le_refl _) _⟩

set_option maxHeartbeats 4000000 in
theorem validate_any7 (a : Option Addr) (len cap : Nat) (ts : List TA) (w : World) (hs : IsToks w a len ts) (hl : len ≤ 1000000000000) (hz : ∀ t ∈ ts, t.1.tx.size ≤ 9223372036854775800) :
    Calls Tryd.prog 10 #[.slice a len cap] w fun e w' => e = .returned (.int .i64 (valE ts)) ∧ Below w.heap.size w w' := by
  have hln := hs.1
  have HS := Lib.hid hs
  have HZ := Lib.hid hz
  clear hs hz
  by_cases h0 : len = 0
  · subst h0
    obtain rfl := List.eq_nil_of_length_eq_zero hln
    rw [valE_nil]
    go_enter Tryd.func10, Tryd.ntmps10
    go_wp2_with fail
    go_ret
    exact ⟨rfl, Below.refl _ _⟩
  · have h0i : ((len : Int) == 0) = false := by simp; omega
    have NO := Lib.hid (fun i hi h => valE_no (ts := ts) (i := i) hi h)
    have YES := Lib.hid (fun h => valE_yes (ts := ts) (by omega) h)
    obtain ⟨E, hE⟩ : ∃ E, valE ts = E := ⟨_, rfl⟩
    rw [hE] at NO YES ⊢
    have HL := Lib.hid hln
    clear hE hln
    go_enter Tryd.func10, Tryd.ntmps10
    go_wp2_with fail
    go_loopw [14] (fun iv wr => ∃ k : Nat, k ≤ len ∧ iv = .int .i64 k ∧ Hid (∀ i, i < k → okAtT ts i = true) ∧ Below w.heap.size w wr) (fun iv _ => len - (intOf iv).toNat)
    case atStart => exact ⟨0, Nat.zero_le _, rfl, fun i hi => absurd hi (by omega), Below.refl _ _⟩
    case round =>
      obtain ⟨k, hk, rfl, HI, hbel⟩ := hrel
      have hsz := hbel.size
      by_cases hlt : k < len
      · obtain ⟨kd, tx, nm, p, b, off, hx, rfl, hblt, c0, c1, c2, c3⟩ := (HS.out.below hbel (Nat.le_refl _)).at hlt
        have hx9 := HZ.out _ (List.mem_of_getElem? hx)
        have IT := Lib.hid (fun W => isToken_any ⟨kd, tx, nm⟩ p W hx9)
        have HOK := Lib.hid (okAt_some hx)
        rw [HL.out] at HOK
        simp only [tokV] at IT
        simp only at HOK
        have NO2 := Lib.hid (NO.out k (by rw [HL.out]; exact hlt))
        have HI2 : Hid (okAtT ts k = true → ∀ i, i < k + 1 → okAtT ts i = true) := fun h i hi => by
          by_cases e : i = k
          · rw [e]; exact h
          · exact HI.out i (by omega)
        have ek : (kd == 0) = decide (kd = 0) := rfl
        have el : ((k : Int) == (len : Int) - 1) = decide (k + 1 = len) := by
          by_cases h : k + 1 = len
          · rw [decide_eq_true h]; simp; omega
          · rw [decide_eq_false h]; simp; omega
        generalize okAtT ts k = ok at *
        generalize isT ⟨kd, tx, nm⟩ = it at *
        generalize decide (kd = 0) = b1 at *
        generalize decide (k + 1 = len) = b2 at *
        clear NO HI hx hx9
        cases b1 <;> cases b2 <;> cases it
        case false.false.true =>
          obtain rfl : ok = true := HOK.out
          have HI3 := Lib.hid (HI2.out rfl)
          clear HI2 HOK NO2 YES
          go_wp2_with (go_at_call 17; refine (IT.out _).mono ?_; rintro e w1 ⟨rfl, hb⟩)
          go_roundw
          case rel => exact ⟨k + 1, by omega, by go_num, HI3, (hbel.alloc (by omega) _).trans (hb.mono (by simp; omega))⟩
          case measure => simp [intOf]; omega
        case true.true.true =>
          obtain rfl : ok = true := HOK.out
          have HI3 := Lib.hid (HI2.out rfl)
          clear HI2 HOK NO2 YES
          go_wp2_with (go_at_call 17; refine (IT.out _).mono ?_; rintro e w1 ⟨rfl, hb⟩)
          go_roundw
          case rel => exact ⟨k + 1, by omega, by go_num, HI3, (hbel.alloc (by omega) _).trans (hb.mono (by simp; omega))⟩
          case measure => simp [intOf]; omega
        all_goals
          obtain rfl : ok = false := HOK.out
          obtain rfl := NO2.out rfl
          clear HI2 HOK NO2 YES
          go_wp2_with (go_at_call 17; refine (IT.out _).mono ?_; rintro e w1 ⟨rfl, hb⟩)
          go_ret
          first | exact ⟨rfl, (hbel.alloc (by omega) _).trans (hb.mono (by simp; omega))⟩ | exact ⟨rfl, hbel.alloc (by omega) _⟩
      · obtain rfl := YES.out fun i hi => HI.out i (by have := HL.out; omega)
        clear NO YES HI
        go_wp2_with fail
        go_ret
        exact ⟨rfl, hbel⟩

end Go.Proofs.YtloccocengegnaaDoor

