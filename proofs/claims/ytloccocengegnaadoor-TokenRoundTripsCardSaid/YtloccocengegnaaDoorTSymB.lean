/-
  Which texts are symbols, plainly.
-/
import Derived.Test.YtloccocengegnaaDoorTRef
import Derived.Test.YtloccocengegnaaDoorNLeaf
set_option linter.unusedVariables false
set_option maxRecDepth 100000
namespace Wh
open Go.Proofs.YtloccocengegnaaDoor

/-- Is it one of the symbols? -/
def symB (s : ByteArray) : Bool :=
  (decide (s.size = 2) && (List.range 4).any fun i => s.toList == (twoL i).toList) || (decide (s.size = 1) && (List.range 14).any (isOne s))

theorem extract_self (s : ByteArray) : s.extract 0 s.size = s := by
  apply ByteArray.ext
  apply Array.toList_inj.1
  have := bts_extract s 0 s.size
  show bts (s.extract 0 s.size) = bts s
  rw [this, Nat.sub_zero, List.drop_zero, List.take_of_length_le (by rw [bts_length]; exact Nat.le_refl _)]
theorem isOne_extract (s : ByteArray) (h : 1 ≤ s.size) (i : Nat) : isOne (s.extract 0 1) i = isOne s i := by
  unfold isOne
  rw [size_extract (by omega) h, btN_extract s 0 1 0 (by omega), decide_eq_true (by omega : 1 ≤ 1 - 0), decide_eq_true h]
theorem symB_two {s : ByteArray} (h : 2 ≤ s.size) : symB (s.extract 0 2) = (List.range 4).any (isTwo s) := by
  unfold symB
  rw [size_extract (by omega) h]
  have e : (fun i => (s.extract 0 2).toList == (twoL i).toList) = isTwo s := by
    funext i
    unfold isTwo
    rw [decide_eq_true h]
    rfl
  rw [e]
  simp
theorem symB_one {s : ByteArray} (h : 1 ≤ s.size) : symB (s.extract 0 1) = (List.range 14).any (isOne s) := by
  unfold symB
  rw [size_extract (by omega) h]
  have e : isOne (s.extract 0 1) = isOne s := by
    funext i
    exact isOne_extract s h i
  rw [e]
  simp
theorem twoL_size : ∀ i, i < 4 → (twoL i).size = 2 := by decide
/-- The longest symbol: two bytes, .. -/
theorem symS_at2 {s : ByteArray} (h : 2 ≤ s.size) (hb : symB (s.extract 0 2) = true) : symS s = s.extract 0 2 := by
  rw [symB_two h, List.any_eq_true] at hb
  unfold symS
  cases hf : (List.range 4).find? (isTwo s) with
  | some i =>
    have h1 := List.find?_some hf
    unfold isTwo at h1
    rw [Bool.and_eq_true] at h1
    exact (eqS_iff.1 h1.2).symm
  | none =>
    obtain ⟨i, hi, ht⟩ := hb
    have := List.find?_eq_none.1 hf i hi
    exact absurd ht this
theorem no_two {s : ByteArray} (h : s.size < 2 ∨ symB (s.extract 0 2) = false) : ∀ j, j < 4 → isTwo s j = false := by
  intro j hj
  by_cases h2 : 2 ≤ s.size
  · rcases h with h | h
    · omega
    · rw [symB_two h2, List.any_eq_false] at h
      have := h j (List.mem_range.2 hj)
      simpa using this
  · unfold isTwo
    rw [decide_eq_false h2]
    rfl
/-- .. or one .. -/
theorem symS_at1 {s : ByteArray} (h2 : s.size < 2 ∨ symB (s.extract 0 2) = false) (h : 1 ≤ s.size) (hb : symB (s.extract 0 1) = true) : symS s = s.extract 0 1 := by
  rw [symS_one (no_two h2), ← symB_one h, if_pos hb]
/-- .. or none. -/
theorem symS_at0 {s : ByteArray} (h2 : s.size < 2 ∨ symB (s.extract 0 2) = false) (h1 : s.size < 1 ∨ symB (s.extract 0 1) = false) : symS s = ⟨#[]⟩ := by
  rw [symS_one (no_two h2)]
  by_cases h : 1 ≤ s.size
  · rcases h1 with h1 | h1
    · omega
    · rw [← symB_one h, h1, if_neg (by simp)]
  · rw [if_neg]
    intro ha
    rw [List.any_eq_true] at ha
    obtain ⟨i, _, hi⟩ := ha
    unfold isOne at hi
    rw [decide_eq_false h] at hi
    cases hi

theorem symS_self (s : ByteArray) : symB s = (decide (0 < s.size) && eqS (symS s) s) := by
  by_cases h0 : 0 < s.size
  · rw [decide_eq_true h0, Bool.true_and]
    by_cases h1 : s.size = 1
    · have hx : s.extract 0 1 = s := by rw [← h1]; exact extract_self s
      cases hb : symB s with
      | true => rw [symS_at1 (.inl (by omega)) (by omega) (by rw [hx]; exact hb), hx, eqS_refl]
      | false =>
        rw [symS_at0 (.inl (by omega)) (.inr (by rw [hx]; exact hb))]
        cases he : eqS ⟨#[]⟩ s with
        | false => rfl
        | true => rw [← eqS_iff.1 he] at h0; exact absurd h0 (by decide)
    · by_cases h2 : s.size = 2
      · have hx : s.extract 0 2 = s := by rw [← h2]; exact extract_self s
        cases hb : symB s with
        | true => rw [symS_at2 (by omega) (by rw [hx]; exact hb), hx, eqS_refl]
        | false =>
          cases he : eqS (symS s) s with
          | false => rfl
          | true =>
            have h3 := eqS_iff.1 he
            have h4 : symS s = if (List.range 14).any (isOne s) = true then s.extract 0 1 else ⟨#[]⟩ := symS_one (no_two (.inr (by rw [hx]; exact hb)))
            have h5 : (symS s).size < 2 := by
              rw [h4]
              split
              · rw [size_extract (by omega) (by omega)]; omega
              · exact Nat.lt_of_lt_of_le Nat.zero_lt_one (by omega)
            rw [h3] at h5
            omega
      · have hb : symB s = false := by
          unfold symB
          rw [decide_eq_false h2, decide_eq_false h1]
          rfl
        rw [hb]
        cases he : eqS (symS s) s with
        | false => rfl
        | true =>
          have h3 := eqS_iff.1 he
          have h4 : (symS s).size ≤ 2 := by
            by_cases hs2 : symB (s.extract 0 2) = true
            · rw [symS_at2 (by omega) hs2, size_extract (by omega) (by omega)]; omega
            · rw [symS_one (no_two (.inr (by simpa using hs2)))]
              split
              · rw [size_extract (by omega) (by omega)]; omega
              · exact Nat.zero_le _
          rw [h3] at h4
          omega
  · rw [decide_eq_false h0, Bool.false_and]
    unfold symB
    rw [decide_eq_false (by omega : ¬ s.size = 2), decide_eq_false (by omega : ¬ s.size = 1)]
    rfl

/-- The symbols. -/
def symL : List ByteArray := [⟨#[40]⟩, ⟨#[41]⟩, ⟨#[44]⟩, ⟨#[59]⟩, ⟨#[58]⟩, ⟨#[124]⟩, ⟨#[61]⟩, ⟨#[43]⟩, ⟨#[43, 43]⟩, ⟨#[45]⟩, ⟨#[42]⟩, ⟨#[47]⟩, ⟨#[37]⟩, ⟨#[60]⟩, ⟨#[60, 61]⟩, ⟨#[62]⟩, ⟨#[62, 61]⟩, ⟨#[33, 61]⟩]
theorem symL_all : ∀ s ∈ symL, symB s = true := by decide +kernel
theorem one_byte_of {s : ByteArray} {x : UInt8} (h1 : s.size = 1) (h : btN s 0 = x.toNat) : s = ⟨#[x]⟩ := by
  obtain ⟨y, hy⟩ := bts_at (s := s) (i := 0) (by omega)
  rw [btN_of hy] at h
  obtain rfl := UInt8.toNat_inj.1 h
  apply ByteArray.ext
  apply Array.toList_inj.1
  show bts s = [y]
  have hl := bts_length s
  cases hb : bts s with
  | nil => rw [hb] at hy; cases hy
  | cons a l =>
    rw [hb] at hy hl
    cases hy
    cases l with
    | nil => rfl
    | cons b l => simp at hl; omega
theorem symB_mem {s : ByteArray} (h : symB s = true) : s ∈ symL := by
  unfold symB at h
  rcases Bool.or_eq_true_iff.1 h with h | h
  · rw [Bool.and_eq_true, List.any_eq_true] at h
    obtain ⟨_, i, hi, he⟩ := h
    have hi := List.mem_range.1 hi
    have := eqS_iff.1 he
    subst this
    rcases (show i = 0 ∨ i = 1 ∨ i = 2 ∨ i = 3 by omega) with rfl | rfl | rfl | rfl
    · simp [symL, twoL]
    · simp [symL, twoL]
    · simp [symL, twoL]
    · simp [symL, twoL]
  · rw [Bool.and_eq_true, decide_eq_true_eq, List.any_eq_true] at h
    obtain ⟨h1, i, hi, he⟩ := h
    have hi := List.mem_range.1 hi
    unfold isOne at he
    rw [Bool.and_eq_true, decide_eq_true_eq, decide_eq_true_eq] at he
    have hall : ∀ i, i < 14 → ∃ x : UInt8, btN oneL i = x.toNat ∧ (⟨#[x]⟩ : ByteArray) ∈ symL := by
      intro i hi
      have hx : ∃ x, (bts oneL)[i]? = some x := bts_at (s := oneL) (by show i < 14; exact hi)
      rcases (show i = 0 ∨ i = 1 ∨ i = 2 ∨ i = 3 ∨ i = 4 ∨ i = 5 ∨ i = 6 ∨ i = 7 ∨ i = 8 ∨ i = 9 ∨ i = 10 ∨ i = 11 ∨ i = 12 ∨ i = 13 by omega) with rfl | rfl | rfl | rfl | rfl | rfl | rfl | rfl | rfl | rfl | rfl | rfl | rfl | rfl
      · exact ⟨40, by decide, by simp [symL]⟩
      · exact ⟨41, by decide, by simp [symL]⟩
      · exact ⟨44, by decide, by simp [symL]⟩
      · exact ⟨59, by decide, by simp [symL]⟩
      · exact ⟨58, by decide, by simp [symL]⟩
      · exact ⟨124, by decide, by simp [symL]⟩
      · exact ⟨61, by decide, by simp [symL]⟩
      · exact ⟨43, by decide, by simp [symL]⟩
      · exact ⟨45, by decide, by simp [symL]⟩
      · exact ⟨42, by decide, by simp [symL]⟩
      · exact ⟨47, by decide, by simp [symL]⟩
      · exact ⟨37, by decide, by simp [symL]⟩
      · exact ⟨60, by decide, by simp [symL]⟩
      · exact ⟨62, by decide, by simp [symL]⟩
    obtain ⟨x, hx, hm⟩ := hall i hi
    rw [one_byte_of h1 (by rw [he.2, hx])]
    exact hm

end Wh

