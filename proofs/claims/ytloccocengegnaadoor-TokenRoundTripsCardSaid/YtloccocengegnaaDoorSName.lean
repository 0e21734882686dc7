/-
  IsName, of schema and of its reference.
-/
import Derived.Test.YtloccocengegnaaDoorNLeaf
import Derived.Laws.RangeAny
set_option linter.unusedVariables false
namespace Go.Proofs.YtloccocengegnaaDoor
open Go.RowKit Wh

/-- May byte x stand at place i of a name? -/
def okN (i x : Nat) : Bool := letB x || (!decide (i = 0) && (digB x || decide (x = 95)))
/-- Is it a name? -/
def nameB (s : ByteArray) : Bool := decide (1 ≤ s.size) && decide (s.size ≤ 24) && (List.range s.size).all fun i => okN i (btN s i)

theorem nameB_size {s : ByteArray} (h : s.size = 0 ∨ 24 < s.size) : nameB s = false := by
  unfold nameB
  rcases h with h | h
  · rw [decide_eq_false (by omega : ¬ 1 ≤ s.size)]; rfl
  · rw [decide_eq_false (by omega : ¬ s.size ≤ 24), Bool.and_false]; rfl
theorem nameB_no {s : ByteArray} {i : Nat} (hi : i < s.size) (h : okN i (btN s i) = false) : nameB s = false := by
  unfold nameB
  rw [Bool.and_eq_false_iff]
  right
  rw [List.all_eq_false]
  exact ⟨i, List.mem_range.2 hi, by simp [h]⟩
theorem nameB_yes {s : ByteArray} (h1 : 1 ≤ s.size) (h2 : s.size ≤ 24) (h : ∀ i, i < s.size → okN i (btN s i) = true) : nameB s = true := by
  unfold nameB
  rw [decide_eq_true h1, decide_eq_true h2, List.all_eq_true.2 fun i hi => h i (List.mem_range.1 hi)]
  rfl

theorem btN_get {s : ByteArray} {pos : Nat} (h : pos < s.size) : (s[pos]'h).toNat = btN s pos := by
  rw [btN_of (x := s[pos]'h)]
  show s.data.toList[pos]? = _
  rw [Array.getElem?_toList]
  exact Array.getElem?_eq_getElem (show pos < s.data.size from h)

theorem empty_of_size {s : ByteArray} (h : s.size = 0) : s = ⟨#[]⟩ := by
  apply ByteArray.ext
  exact Array.eq_empty_of_size_eq_zero h

theorem isName_any (s : ByteArray) (w : World) : Calls Tryd.prog 56 #[.string s] w fun e w' => e = .returned (.bool (nameB s)) ∧ Below w.heap.size w w' := by
  by_cases h0 : s.size = 0
  · obtain rfl := empty_of_size h0
    rw [nameB_size (.inl h0)]
    clear h0
    go_enter Tryd.func56, Tryd.ntmps56
    go_wp2_with fail
    go_ret
    exact ⟨rfl, Below.refl _ _⟩
  have he : (s.toList == ([] : List UInt8)) = false := by
    rw [toList_bts, beq_eq_false_iff_ne]
    intro h
    exact h0 (by rw [← bts_length, h]; rfl)
  have he2 : s.toList.isEmpty = false := by
    rw [toList_bts]
    cases h : bts s with
    | nil => exact absurd (by rw [← bts_length, h]; rfl) h0
    | cons => rfl
  by_cases h24 : 24 < s.size
  · rw [nameB_size (.inr h24)]
    go_enter Tryd.func56, Tryd.ntmps56
    go_wp2_with fail
    go_ret
    exact ⟨rfl, Below.refl _ _⟩
  · have NO := Lib.hid (fun i hi h => nameB_no (s := s) (i := i) hi h)
    have YE := Lib.hid (fun h => nameB_yes (s := s) (by omega) (by omega) h)
    generalize nameB s = E at *
    go_enter Tryd.func56, Tryd.ntmps56
    go_wp2_with fail
    clear he he2
    go_loopw [3, 4] (fun _ _ w' => ∃ pos : Nat, w' = w.iter s pos ∧ pos ≤ s.size ∧ Hid (∀ i, i < pos → okN i (btN s i) = true)) (fun _ _ w' => s.size - w'.iterPos w.heap.size)
    case atStart => exact ⟨0, rfl, Nat.zero_le _, fun i hi => absurd hi (by omega)⟩
    case round =>
      obtain ⟨pos, rfl, hps, HI⟩ := hrel
      have hB : Below w.heap.size w (w.iter s pos) := (Below.refl _ _).alloc (Nat.le_refl _) _
      by_cases hp : pos < s.size
      · have hnx : ∀ ty, (Instr.next (.pointer (some ⟨w.heap.size, 0, none⟩)) true ty).run Tryd.prog (w.iter s pos) = _ := fun ty => run_next_any w s pos ty hp
        have hB2 : ∀ p, Below w.heap.size w (w.iter s p) := fun p => (Below.refl _ _).alloc (Nat.le_refl _) _
        by_cases hx : btN s pos < 128
        · have hd := decode_ascii s pos hp (by rw [btN_get hp]; exact hx)
          rw [btN_get hp] at hd
          rw [hd] at hnx
          simp only at hnx
          by_cases hk : okN pos (btN s pos) = true
          · have HI2 : Hid (∀ i, i < pos + 1 → okN i (btN s i) = true) := fun i hi => by
              by_cases e : i = pos
              · subst e; exact hk
              · exact HI.out i (by omega)
            clear HI hd NO YE
            generalize btN s pos = x at *
            cases hl : letB x with
            | true =>
              clear hk
              go_wp2_with (first | (go_at_call 73; refine (isLetter_any x _).mono ?_; rintro e w' ⟨rfl, rfl⟩; rw [hl]))
              go_roundw
              case rel => exact ⟨pos + 1, rfl, by omega, HI2⟩
              case measure => simp; omega
            | false =>
              have hp0 : ¬ pos = 0 := by rintro rfl; simp [okN, hl] at hk
              have hp1 : ((pos : Int) == 0) = false := by simpa using hp0
              cases hg : digB x with
              | true =>
                clear hk
                go_wp2_with (first | (go_at_call 73; refine (isLetter_any x _).mono ?_; rintro e w' ⟨rfl, rfl⟩; rw [hl]) | (go_at_call 74; refine (isDigit_any x _).mono ?_; rintro e w' ⟨rfl, rfl⟩; rw [hg]))
                go_roundw
                case rel => exact ⟨pos + 1, rfl, by omega, HI2⟩
                case measure => simp; omega
              | false =>
                have h95 : x = 95 := by
                  have := hk
                  simp only [okN, hl, hg, Bool.false_or, Bool.and_eq_true, decide_eq_true_eq] at this
                  exact this.2
                clear hk
                subst h95
                have hl : letB 95 = false := by decide
                have hg : digB 95 = false := by decide
                go_wp2_with (first | (go_at_call 73; refine (isLetter_any 95 _).mono ?_; rintro e w' ⟨rfl, rfl⟩; rw [hl]) | (go_at_call 74; refine (isDigit_any 95 _).mono ?_; rintro e w' ⟨rfl, rfl⟩; rw [hg]))
                go_roundw
                case rel => exact ⟨pos + 1, rfl, by omega, HI2⟩
                case measure => simp; omega
          · have hk : okN pos (btN s pos) = false := by simpa using hk
            obtain rfl := NO.out pos hp hk
            clear NO YE HI hd
            generalize btN s pos = x at *
            have hl : letB x = false := by
              cases hl : letB x with
              | false => rfl
              | true => simp [okN, hl] at hk
            by_cases hp0 : pos = 0
            · subst hp0
              clear hk
              go_wp2_with (first | (go_at_call 73; refine (isLetter_any x _).mono ?_; rintro e w' ⟨rfl, rfl⟩; rw [hl]))
              go_ret
              exact ⟨rfl, hB2 _⟩
            · have hp1 : ((pos : Int) == 0) = false := by simpa using hp0
              have hg : digB x = false ∧ ¬ x = 95 := by
                simp only [okN, hl, decide_eq_false hp0, Bool.false_or, Bool.not_false, Bool.true_and, Bool.or_eq_false_iff, decide_eq_false_iff_not] at hk
                exact hk
              obtain ⟨hg, h95⟩ := hg
              have h95 : ¬ (x : Int) = 95 := by omega
              clear hk
              go_wp2_with (first | (go_at_call 73; refine (isLetter_any x _).mono ?_; rintro e w' ⟨rfl, rfl⟩; rw [hl]) | (go_at_call 74; refine (isDigit_any x _).mono ?_; rintro e w' ⟨rfl, rfl⟩; rw [hg]))
              go_ret
              exact ⟨rfl, hB2 _⟩
        · have hd := decode_high s pos hp (by rw [btN_get hp]; omega)
          have hk : okN pos (btN s pos) = false := by
            simp only [okN, letB, digB, decide_eq_false (show ¬ (btN s pos : Int) ≤ 122 by omega), decide_eq_false (show ¬ (btN s pos : Int) ≤ 57 by omega), decide_eq_false (show ¬ btN s pos = 95 by omega), Bool.and_false, Bool.or_false]
          obtain rfl := NO.out pos hp hk
          generalize (Utf8.decode s pos).2 = y at *
          generalize (Utf8.decode s pos).1 = x at *
          have hx1 := hd.1
          have hl : letB x = false := by unfold letB; rw [decide_eq_false (show ¬ (x : Int) ≤ 122 by omega), Bool.and_false]
          have hg : digB x = false := by unfold digB; rw [decide_eq_false (show ¬ (x : Int) ≤ 57 by omega), Bool.and_false]
          have h95 : ¬ (x : Int) = 95 := by omega
          clear NO YE HI hd hk hx
          by_cases hp0 : pos = 0
          · subst hp0
            go_wp2_with (first | (go_at_call 73; refine (isLetter_any x _).mono ?_; rintro e w' ⟨rfl, rfl⟩; rw [hl]))
            go_ret
            exact ⟨rfl, hB2 _⟩
          · have hp1 : ((pos : Int) == 0) = false := by simpa using hp0
            go_wp2_with (first | (go_at_call 73; refine (isLetter_any x _).mono ?_; rintro e w' ⟨rfl, rfl⟩; rw [hl]) | (go_at_call 74; refine (isDigit_any x _).mono ?_; rintro e w' ⟨rfl, rfl⟩; rw [hg]))
            go_ret
            exact ⟨rfl, hB2 _⟩
      · have hnx : ∀ ty, (Instr.next (.pointer (some ⟨w.heap.size, 0, none⟩)) true ty).run Tryd.prog (w.iter s pos) = _ := fun ty => run_next_end w s pos ty hp
        obtain rfl := YE.out fun i hi => HI.out i (by omega)
        clear NO YE HI
        go_wp2_with fail
        go_ret
        exact ⟨rfl, hB⟩

end Go.Proofs.YtloccocengegnaaDoor

