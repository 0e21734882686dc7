/-
  IsName, of schema and of its reference. · IsName of the reference. · IsQualified, of schema and of its reference; strings.Cut at the separator ".".
-/
import Derived.Test.YtmdpjahhhfajaaaGreatDoorJA05
import Derived.Laws.RangeAny
import Derived.Lib.IndexLaws
set_option linter.unusedVariables false
namespace Go.Proofs.YtmdpjahhhfajaaaGreatDoor
open Go.RowKit Wh

/-- May byte x stand at place i of a name? -/
def okN (i x : Nat) : Bool := letB x || (!decide (i = 0) && (digB x || decide (x = 95)))
/-- Is it a name? -/
def nameB (s : ByteArray) : Bool := decide (1 ≤ s.size) && decide (s.size ≤ 24) && (List.range s.size).all fun i => okN i (btN s i)

theorem nameB_size {s : ByteArray} (h : s.size = 0 ∨ 24 < s.size) : nameB s = false := by
  unfold nameB
  rcases h with h | h
  · rw [decide_eq_false (by omega : ¬ 1 ≤ s.size)]; rfl
  · rw [decide_eq_false (by omega : ¬ s.size ≤ 24), Bool.and_false]; rfl
theorem nameB_no {s : ByteArray} {i : Nat} (hi : i < s.size) (h : okN i (btN s i) = false) : nameB s = false := by
  unfold nameB
  rw [Bool.and_eq_false_iff]
  right
  rw [List.all_eq_false]
  exact ⟨i, List.mem_range.2 hi, by simp [h]⟩
theorem nameB_yes {s : ByteArray} (h1 : 1 ≤ s.size) (h2 : s.size ≤ 24) (h : ∀ i, i < s.size → okN i (btN s i) = true) : nameB s = true := by
  unfold nameB
  rw [decide_eq_true h1, decide_eq_true h2, List.all_eq_true.2 fun i hi => h i (List.mem_range.1 hi)]
  rfl

theorem btN_get {s : ByteArray} {pos : Nat} (h : pos < s.size) : (s[pos]'h).toNat = btN s pos := by
  rw [btN_of (x := s[pos]'h)]
  show s.data.toList[pos]? = _
  rw [Array.getElem?_toList]
  exact Array.getElem?_eq_getElem (show pos < s.data.size from h)

theorem empty_of_size {s : ByteArray} (h : s.size = 0) : s = ⟨#[]⟩ := by
  apply ByteArray.ext
  exact Array.eq_empty_of_size_eq_zero h

theorem isName_any (s : ByteArray) (w : World) : Calls Tryz.prog 131 #[.string s] w fun e w' => e = .returned (.bool (nameB s)) ∧ Below w.heap.size w w' := by
  by_cases h0 : s.size = 0
  · obtain rfl := empty_of_size h0
    rw [nameB_size (.inl h0)]
    clear h0
    go_enter Tryz.func131, Tryz.ntmps131
    go_wp2_with fail
    go_ret
    exact ⟨rfl, Below.refl _ _⟩
  have he : (s.toList == ([] : List UInt8)) = false := by
    rw [toList_bts, beq_eq_false_iff_ne]
    intro h
    exact h0 (by rw [← bts_length, h]; rfl)
  have he2 : s.toList.isEmpty = false := by
    rw [toList_bts]
    cases h : bts s with
    | nil => exact absurd (by rw [← bts_length, h]; rfl) h0
    | cons => rfl
  by_cases h24 : 24 < s.size
  · rw [nameB_size (.inr h24)]
    go_enter Tryz.func131, Tryz.ntmps131
    go_wp2_with fail
    go_ret
    exact ⟨rfl, Below.refl _ _⟩
  · have NO := Lib.hid (fun i hi h => nameB_no (s := s) (i := i) hi h)
    have YE := Lib.hid (fun h => nameB_yes (s := s) (by omega) (by omega) h)
    generalize nameB s = E at *
    go_enter Tryz.func131, Tryz.ntmps131
    go_wp2_with fail
    clear he he2
    go_loopw [3, 4] (fun _ _ w' => ∃ pos : Nat, w' = w.iter s pos ∧ pos ≤ s.size ∧ Hid (∀ i, i < pos → okN i (btN s i) = true)) (fun _ _ w' => s.size - w'.iterPos w.heap.size)
    case atStart => exact ⟨0, rfl, Nat.zero_le _, fun i hi => absurd hi (by omega)⟩
    case round =>
      obtain ⟨pos, rfl, hps, HI⟩ := hrel
      have hB : Below w.heap.size w (w.iter s pos) := (Below.refl _ _).alloc (Nat.le_refl _) _
      by_cases hp : pos < s.size
      · have hnx : ∀ ty, (Instr.next (.pointer (some ⟨w.heap.size, 0, none⟩)) true ty).run Tryz.prog (w.iter s pos) = _ := fun ty => run_next_any w s pos ty hp
        have hB2 : ∀ p, Below w.heap.size w (w.iter s p) := fun p => (Below.refl _ _).alloc (Nat.le_refl _) _
        by_cases hx : btN s pos < 128
        · have hd := decode_ascii s pos hp (by rw [btN_get hp]; exact hx)
          rw [btN_get hp] at hd
          rw [hd] at hnx
          simp only at hnx
          by_cases hk : okN pos (btN s pos) = true
          · have HI2 : Hid (∀ i, i < pos + 1 → okN i (btN s i) = true) := fun i hi => by
              by_cases e : i = pos
              · subst e; exact hk
              · exact HI.out i (by omega)
            clear HI hd NO YE
            generalize btN s pos = x at *
            cases hl : letB x with
            | true =>
              clear hk
              go_wp2_with (first | (go_at_call 165; refine (isLetter_any x _).mono ?_; rintro e w' ⟨rfl, rfl⟩; rw [hl]))
              go_roundw
              case rel => exact ⟨pos + 1, rfl, by omega, HI2⟩
              case measure => simp; omega
            | false =>
              have hp0 : ¬ pos = 0 := by rintro rfl; simp [okN, hl] at hk
              have hp1 : ((pos : Int) == 0) = false := by simpa using hp0
              cases hg : digB x with
              | true =>
                clear hk
                go_wp2_with (first | (go_at_call 165; refine (isLetter_any x _).mono ?_; rintro e w' ⟨rfl, rfl⟩; rw [hl]) | (go_at_call 166; refine (isDigit_any x _).mono ?_; rintro e w' ⟨rfl, rfl⟩; rw [hg]))
                go_roundw
                case rel => exact ⟨pos + 1, rfl, by omega, HI2⟩
                case measure => simp; omega
              | false =>
                have h95 : x = 95 := by
                  have := hk
                  simp only [okN, hl, hg, Bool.false_or, Bool.and_eq_true, decide_eq_true_eq] at this
                  exact this.2
                clear hk
                subst h95
                have hl : letB 95 = false := by decide
                have hg : digB 95 = false := by decide
                go_wp2_with (first | (go_at_call 165; refine (isLetter_any 95 _).mono ?_; rintro e w' ⟨rfl, rfl⟩; rw [hl]) | (go_at_call 166; refine (isDigit_any 95 _).mono ?_; rintro e w' ⟨rfl, rfl⟩; rw [hg]))
                go_roundw
                case rel => exact ⟨pos + 1, rfl, by omega, HI2⟩
                case measure => simp; omega
          · have hk : okN pos (btN s pos) = false := by simpa using hk
            obtain rfl := NO.out pos hp hk
            clear NO YE HI hd
            generalize btN s pos = x at *
            have hl : letB x = false := by
              cases hl : letB x with
              | false => rfl
              | true => simp [okN, hl] at hk
            by_cases hp0 : pos = 0
            · subst hp0
              clear hk
              go_wp2_with (first | (go_at_call 165; refine (isLetter_any x _).mono ?_; rintro e w' ⟨rfl, rfl⟩; rw [hl]))
              go_ret
              exact ⟨rfl, hB2 _⟩
            · have hp1 : ((pos : Int) == 0) = false := by simpa using hp0
              have hg : digB x = false ∧ ¬ x = 95 := by
                simp only [okN, hl, decide_eq_false hp0, Bool.false_or, Bool.not_false, Bool.true_and, Bool.or_eq_false_iff, decide_eq_false_iff_not] at hk
                exact hk
              obtain ⟨hg, h95⟩ := hg
              have h95 : ¬ (x : Int) = 95 := by omega
              clear hk
              go_wp2_with (first | (go_at_call 165; refine (isLetter_any x _).mono ?_; rintro e w' ⟨rfl, rfl⟩; rw [hl]) | (go_at_call 166; refine (isDigit_any x _).mono ?_; rintro e w' ⟨rfl, rfl⟩; rw [hg]))
              go_ret
              exact ⟨rfl, hB2 _⟩
        · have hd := decode_high s pos hp (by rw [btN_get hp]; omega)
          have hk : okN pos (btN s pos) = false := by
            simp only [okN, letB, digB, decide_eq_false (show ¬ (btN s pos : Int) ≤ 122 by omega), decide_eq_false (show ¬ (btN s pos : Int) ≤ 57 by omega), decide_eq_false (show ¬ btN s pos = 95 by omega), Bool.and_false, Bool.or_false]
          obtain rfl := NO.out pos hp hk
          generalize (Utf8.decode s pos).2 = y at *
          generalize (Utf8.decode s pos).1 = x at *
          have hx1 := hd.1
          have hl : letB x = false := by unfold letB; rw [decide_eq_false (show ¬ (x : Int) ≤ 122 by omega), Bool.and_false]
          have hg : digB x = false := by unfold digB; rw [decide_eq_false (show ¬ (x : Int) ≤ 57 by omega), Bool.and_false]
          have h95 : ¬ (x : Int) = 95 := by omega
          clear NO YE HI hd hk hx
          by_cases hp0 : pos = 0
          · subst hp0
            go_wp2_with (first | (go_at_call 165; refine (isLetter_any x _).mono ?_; rintro e w' ⟨rfl, rfl⟩; rw [hl]))
            go_ret
            exact ⟨rfl, hB2 _⟩
          · have hp1 : ((pos : Int) == 0) = false := by simpa using hp0
            go_wp2_with (first | (go_at_call 165; refine (isLetter_any x _).mono ?_; rintro e w' ⟨rfl, rfl⟩; rw [hl]) | (go_at_call 166; refine (isDigit_any x _).mono ?_; rintro e w' ⟨rfl, rfl⟩; rw [hg]))
            go_ret
            exact ⟨rfl, hB2 _⟩
      · have hnx : ∀ ty, (Instr.next (.pointer (some ⟨w.heap.size, 0, none⟩)) true ty).run Tryz.prog (w.iter s pos) = _ := fun ty => run_next_end w s pos ty hp
        obtain rfl := YE.out fun i hi => HI.out i (by omega)
        clear NO YE HI
        go_wp2_with fail
        go_ret
        exact ⟨rfl, hB⟩

end Go.Proofs.YtmdpjahhhfajaaaGreatDoor
set_option linter.unusedVariables false
namespace Go.Proofs.YtmdpjahhhfajaaaGreatDoor
open Go.RowKit Wh

/-- The bytes of names. -/
def chrB (x : Nat) : Bool := letB x || (digB x || decide (x = 95))

theorem okN_zero (x : Nat) : okN 0 x = letB x := by simp [okN]
theorem okN_succ {i : Nat} (h : ¬ i = 0) (x : Nat) : okN i x = chrB x := by simp [okN, chrB, h]

set_option maxHeartbeats 2000000 in
theorem rIsName_any (s : ByteArray) (w : World) : Calls Tryz.prog 110 #[.string s] w fun e w' => e = .returned (.bool (nameB s)) ∧ w = w' := by
  by_cases h0 : s.size = 0
  · rw [nameB_size (.inl h0)]
    go_enter Tryz.func110, Tryz.ntmps110
    go_wp2_with fail
    go_ret
    exact ⟨rfl, rfl⟩
  by_cases h24 : 24 < s.size
  · rw [nameB_size (.inr h24)]
    go_enter Tryz.func110, Tryz.ntmps110
    go_wp2_with fail
    go_ret
    exact ⟨rfl, rfl⟩
  have i0 : ∀ W, (Instr.index 9 (.string s) (.int .i64 0)).run Tryz.prog W = .ok (.int .u8 (btN s 0)) W := fun W => index_str s 0 (by omega) W
  have NO := Lib.hid (fun i hi h => nameB_no (s := s) (i := i) hi h)
  have YE := Lib.hid (fun h => nameB_yes (s := s) (by omega) (by omega) h)
  generalize nameB s = E at *
  cases hl : letB (btN s 0) with
  | false =>
    obtain rfl := NO.out 0 (by omega) (by rw [okN_zero, hl])
    generalize btN s 0 = x at *
    rcases (show x < 97 ∨ (97 ≤ x ∧ 122 < x) by
      by_cases h1 : x < 97
      · exact .inl h1
      · by_cases h2 : 122 < x
        · exact .inr ⟨by omega, h2⟩
        · unfold letB at hl; rw [decide_eq_true (by omega), decide_eq_true (by omega)] at hl; cases hl) with h1 | ⟨h1, h2⟩
    all_goals
      clear hl NO YE
      go_enter Tryz.func110, Tryz.ntmps110
      go_wp2_with fail
      go_ret
      exact ⟨rfl, rfl⟩
  | true =>
    have hl2 : 97 ≤ btN s 0 ∧ btN s 0 ≤ 122 := by
      unfold letB at hl
      rw [Bool.and_eq_true, decide_eq_true_eq, decide_eq_true_eq] at hl
      omega
    have H0 : Hid (okN 0 (btN s 0) = true) := by show _ = _; rw [okN_zero, hl]
    have IX := Lib.hid (fun i (hi : i < s.size) W => index_str s i hi W)
    generalize hb : btN s 0 = x at hl hl2 i0
    have HB := Lib.hid hb
    obtain ⟨l1, l2⟩ := hl2
    clear hl hb
    go_enter Tryz.func110, Tryz.ntmps110
    go_wp2_with fail
    clear i0 l1 l2
    go_loop [3] (fun i => ∃ k : Nat, k ≤ s.size ∧ i = .int .i64 k ∧ Hid (∀ j, j < k → okN j (btN s j) = true)) (fun i => s.size - (intOf i).toNat)
    case atStart => exact ⟨0, by omega, rfl, fun j hj => absurd hj (by omega)⟩
    case round =>
      obtain ⟨k, hk, rfl, HI⟩ := hrel
      by_cases hlt : k < s.size
      · have hi := IX.out k hlt
        have CH : Hid (chrB (btN s k) = true → okN k (btN s k) = true) := fun h => by
          by_cases e : k = 0
          · subst e; exact H0.out
          · rw [okN_succ e]; exact h
        have CN : Hid (chrB (btN s k) = false → E = false) := fun h => by
          refine NO.out k hlt ?_
          by_cases e : k = 0
          · subst e
            have h2 := H0.out
            rw [okN_zero] at h2
            unfold chrB at h
            rw [h2] at h
            cases h
          · rw [okN_succ e]; exact h
        have HI2 : Hid (okN k (btN s k) = true → ∀ j, j < k + 1 → okN j (btN s j) = true) := fun h j hj => by
          by_cases e : j = k
          · subst e; exact h
          · exact HI.out j (by omega)
        clear HI NO YE IX H0 HB
        have hi8 := btN_lt s k
        generalize hx : btN s k = y at CH CN HI2 hi hi8
        rcases (show y < 48 ∨ (48 ≤ y ∧ y ≤ 57) ∨ (57 < y ∧ y < 95) ∨ y = 95 ∨ y = 96 ∨ (97 ≤ y ∧ y ≤ 122) ∨ 122 < y by omega) with h | ⟨h, h'⟩ | ⟨h, h'⟩ | h | h | ⟨h, h'⟩ | h
        · obtain rfl := CN.out (by simp only [chrB, letB, digB, decide_eq_false (show ¬ (97 : Int) ≤ y by omega), decide_eq_false (show ¬ (48 : Int) ≤ y by omega), decide_eq_false (show ¬ y = 95 by omega), Bool.false_and, Bool.false_or])
          have h1 : ¬ (y : Int) = 95 := by omega
          clear CH CN HI2
          go_wp2_with fail
          all_goals first | (go_ret; exact ⟨rfl, rfl⟩) | (exfalso; rename_i hh; rcases hh with hh | hh <;> simp at hh <;> omega)
        · have HR := Lib.hid (HI2.out (CH.out (by simp only [chrB, digB, decide_eq_true (show (48 : Int) ≤ y by omega), decide_eq_true (show (y : Int) ≤ 57 by omega), Bool.true_and, Bool.true_or, Bool.or_true])))
          clear CH CN HI2
          go_wp2_with fail
          go_round
          case rel => exact ⟨k + 1, by omega, by go_num, HR.out⟩
          case measure => simp [intOf]; omega
        · obtain rfl := CN.out (by simp only [chrB, letB, digB, decide_eq_false (show ¬ (97 : Int) ≤ y by omega), decide_eq_false (show ¬ (y : Int) ≤ 57 by omega), decide_eq_false (show ¬ y = 95 by omega), Bool.false_and, Bool.and_false, Bool.false_or])
          have h1 : ¬ (y : Int) = 95 := by omega
          clear CH CN HI2
          go_wp2_with fail
          all_goals first | (go_ret; exact ⟨rfl, rfl⟩) | (exfalso; rename_i hh; rcases hh with hh | hh <;> simp at hh <;> omega)
        · subst h
          have HR := Lib.hid (HI2.out (CH.out (by decide)))
          clear CH CN HI2
          go_wp2_with fail
          go_round
          case rel => exact ⟨k + 1, by omega, by go_num, HR.out⟩
          case measure => simp [intOf]; omega
        · subst h
          obtain rfl := CN.out (by decide)
          clear CH CN HI2
          go_wp2_with fail
          go_ret
          exact ⟨rfl, rfl⟩
        · have HR := Lib.hid (HI2.out (CH.out (by simp only [chrB, letB, decide_eq_true (show (97 : Int) ≤ y by omega), decide_eq_true (show (y : Int) ≤ 122 by omega), Bool.true_and, Bool.true_or])))
          clear CH CN HI2
          go_wp2_with fail
          go_round
          case rel => exact ⟨k + 1, by omega, by go_num, HR.out⟩
          case measure => simp [intOf]; omega
        · obtain rfl := CN.out (by simp only [chrB, letB, digB, decide_eq_false (show ¬ (y : Int) ≤ 122 by omega), decide_eq_false (show ¬ (y : Int) ≤ 57 by omega), decide_eq_false (show ¬ y = 95 by omega), Bool.and_false, Bool.false_or])
          have h1 : ¬ (y : Int) = 95 := by omega
          clear CH CN HI2
          go_wp2_with fail
          all_goals first | (go_ret; exact ⟨rfl, rfl⟩) | (exfalso; rename_i hh; rcases hh with hh | hh <;> simp at hh <;> omega)
      · obtain rfl := YE.out fun i hi => HI.out i (by omega)
        clear NO YE HI H0 HB IX
        go_wp2_with fail
        go_ret
        exact ⟨rfl, rfl⟩

end Go.Proofs.YtmdpjahhhfajaaaGreatDoor
set_option linter.unusedVariables false
set_option maxRecDepth 100000
namespace Go.Proofs.YtmdpjahhhfajaaaGreatDoor
open Go.RowKit Wh

/-- The place of the first dot, or -1. -/
def dotI (s : ByteArray) : Int := Lib.indexByte s.data.toList 46
/-- Is it a name, or two names with a dot between them? -/
def qualB (s : ByteArray) : Bool := if dotI s < 0 then nameB s else nameB (s.extract 0 (dotI s).toNat) && nameB (s.extract ((dotI s).toNat + 1) s.size)

theorem qualB_no {s : ByteArray} (h : dotI s = -1) : qualB s = nameB s := by unfold qualB; rw [if_pos (by omega)]
theorem qualB_at {s : ByteArray} {i : Nat} (h : dotI s = i) : qualB s = (nameB (s.extract 0 i) && nameB (s.extract (i + 1) s.size)) := by
  unfold qualB
  rw [if_neg (by omega), h]
  rfl

theorem dot_cases (s : ByteArray) : dotI s = -1 ∨ ∃ i : Nat, dotI s = i ∧ i < s.size := by
  have h := Lib.indexByte_ge s.data.toList 46
  by_cases h1 : dotI s = -1
  · exact .inl h1
  · obtain ⟨i, hi⟩ : ∃ i : Nat, dotI s = i := ⟨(dotI s).toNat, by unfold dotI at *; omega⟩
    refine .inr ⟨i, hi, ?_⟩
    have := (Lib.indexByte_some hi).1
    have := (List.getElem?_eq_some_iff.1 this).1
    rwa [show s.data.toList.length = s.size from Array.length_toList] at this

theorem dot_first {s : ByteArray} {k : Nat} (h : ∀ j, j < k → ¬ btN s j = 46) (hk : k < s.size) (hd : btN s k = 46) : dotI s = k := by
  have e : (bts s)[k]? = some 46 := by
    obtain ⟨x, hx⟩ := bts_at hk
    rw [hx]
    rw [btN_of hx] at hd
    congr 1
    exact UInt8.toNat_inj.1 hd
  rcases dot_cases s with h1 | ⟨i, hi, hs⟩
  · exact absurd e (Lib.indexByte_none h1 k)
  · obtain ⟨p1, p2⟩ := Lib.indexByte_some hi
    by_cases hik : i < k
    · exact absurd (by rw [btN_of (x := 46) p1]; rfl) (h i hik)
    · by_cases hki : k < i
      · exact absurd e (p2 k hki)
      · rw [hi]; omega

theorem dot_none {s : ByteArray} (h : ∀ j, j < s.size → ¬ btN s j = 46) : dotI s = -1 := by
  rcases dot_cases s with h1 | ⟨i, hi, hs⟩
  · exact h1
  · exact absurd (by rw [btN_of (x := 46) (Lib.indexByte_some hi).1]; rfl) (h i hs)

theorem indexByteString_any (s : ByteArray) (w : World) :
    Calls Tryz.prog 144 #[.string s, .int .u8 46] w fun e w' => e = .returned (.int .i64 (dotI s)) ∧ w = w' := by
  go_enter Tryz.func144, Tryz.ntmps144
  go_wp2
  rw [run_callFunc_extern Tryz.func174 (by kernel_rfl) (by kernel_rfl) (by kernel_rfl) (e := Extern.BytealgIndexByte.indexByte) (by kernel_rfl), Lib.run_indexByteString]
  simp only [Result.andThen]
  rw [Oper.upon_value]
  go_wp2
  go_ret
  exact ⟨rfl, rfl⟩

set_option maxRecDepth 100000 in
theorem index_any (s : ByteArray) (w : World) :
    Calls Tryz.prog 182 #[.string s, .string ⟨#[46]⟩] w fun e w' => e = .returned (.int .i64 (dotI s)) ∧ w = w' := by
  cases he : eqS ⟨#[46]⟩ s with
  | true =>
    obtain rfl := eqS_iff.1 he
    rw [show dotI ⟨#[46]⟩ = 0 by decide +kernel]
    clear he
    go_enter Tryz.func182, Tryz.ntmps182
    go_wp2_with (go_at_call 144; refine (indexByteString_any _ _).mono ?_; rintro e w' ⟨rfl, rfl⟩)
    go_ret
    exact ⟨rfl, rfl⟩
  | false =>
    have he2 : ([46] == s.toList) = false := by
      unfold eqS at he
      rw [toList_bts (⟨#[46]⟩ : ByteArray)] at he
      exact he
    clear he
    go_enter Tryz.func182, Tryz.ntmps182
    go_wp2_with (go_at_call 144; refine (indexByteString_any _ _).mono ?_; rintro e w' ⟨rfl, rfl⟩)
    go_ret
    exact ⟨rfl, rfl⟩

/-- The three results of Cut. -/
def IsCut (a b : ByteArray) (f : Bool) (w : World) (e : Ending) (w' : World) : Prop := e = .returned (.tuple #[.string a, .string b, .bool f]) ∧ Below w.heap.size w w'

theorem litecut_no (s : ByteArray) (h : dotI s = -1) (w : World) : Calls Tryz.prog 159 #[.string s, .string ⟨#[46]⟩] w (IsCut s ⟨#[]⟩ false w) := by
  have c := fun W => index_any s W
  rw [h] at c
  clear h
  go_enter Tryz.func159, Tryz.ntmps159
  go_wp2_with (go_at_call 182; refine (c _).mono ?_; rintro e w' ⟨rfl, rfl⟩)
  go_ret3
  exact ⟨rfl, Below.refl _ _⟩

theorem litecut_at (s : ByteArray) (i : Nat) (h : dotI s = i) (hi : i < s.size) (hs : s.size ≤ 9223372036854775800) (w : World) :
    Calls Tryz.prog 159 #[.string s, .string ⟨#[46]⟩] w (IsCut (s.extract 0 i) (s.extract (i + 1) s.size) true w) := by
  have c := fun W => index_any s W
  rw [h] at c
  have s1 := fun W => slice_str_to s i (by omega) W
  have s2 := fun W => slice_str_from s (i + 1) (by omega) W
  rw [show ((i + 1 : Nat) : Int) = (i : Int) + 1 by omega] at s2
  generalize s.extract 0 i = t1 at *
  generalize s.extract (i + 1) s.size = t2 at *
  clear h
  go_enter Tryz.func159, Tryz.ntmps159
  go_wp2_with (go_at_call 182; refine (c _).mono ?_; rintro e w' ⟨rfl, rfl⟩)
  go_quiet (fail)
  go_wp2_with fail
  go_ret3
  exact ⟨rfl, below_drewN (Below.refl _ _) _⟩

theorem cut_no (s : ByteArray) (h : dotI s = -1) (w : World) : Calls Tryz.prog 125 #[.string s, .string ⟨#[46]⟩] w (IsCut s ⟨#[]⟩ false w) := by
  go_enter Tryz.func125, Tryz.ntmps125
  go_wp2_with (go_at_call 159; refine (litecut_no s h _).mono ?_; rintro e w' ⟨rfl, hb⟩)
  go_ret3
  exact ⟨rfl, hb⟩

theorem cut_at (s : ByteArray) (i : Nat) (h : dotI s = i) (hi : i < s.size) (hs : s.size ≤ 9223372036854775800) (w : World) :
    Calls Tryz.prog 125 #[.string s, .string ⟨#[46]⟩] w (IsCut (s.extract 0 i) (s.extract (i + 1) s.size) true w) := by
  have c := fun W => litecut_at s i h hi hs W
  generalize s.extract 0 i = t1 at *
  generalize s.extract (i + 1) s.size = t2 at *
  go_enter Tryz.func125, Tryz.ntmps125
  go_wp2_with (go_at_call 159; refine (c _).mono ?_; rintro e w' ⟨rfl, hb⟩)
  go_ret3
  exact ⟨rfl, hb⟩

theorem areNames_any (a : Option Addr) (len cap : Nat) (ss : List ByteArray) (w : World) (hs : IsStrs w a len ss) (hl : len ≤ 9223372036854775807) :
    Calls Tryz.prog 126 #[.slice a len cap] w fun e w' => e = .returned (.bool (ss.all nameB)) ∧ Below w.heap.size w w' := by
  have NO := Lib.hid (fun i s (h : ss[i]? = some s) (hn : nameB s = false) => show ss.all nameB = false by
    rw [List.all_eq_false]
    exact ⟨s, List.mem_of_getElem? h, by simp [hn]⟩)
  have YE := Lib.hid (fun (h : ∀ i s, ss[i]? = some s → nameB s = true) => show ss.all nameB = true by
    rw [List.all_eq_true]
    intro s hs
    obtain ⟨i, hi⟩ := List.mem_iff_getElem?.1 hs
    exact h i s hi)
  have HS := Lib.hid hs
  generalize ss.all nameB = E at *
  clear hs
  go_enter Tryz.func126, Tryz.ntmps126
  go_wp2_with fail
  go_loopw [7] (fun iv wr => ∃ k : Nat, k ≤ len ∧ iv = .int .i64 k ∧ Hid (∀ i s, i < k → ss[i]? = some s → nameB s = true) ∧ Below w.heap.size w wr) (fun i _ => len - (intOf i).toNat)
  case atStart => exact ⟨0, Nat.zero_le _, rfl, fun i s hi => absurd hi (by omega), Below.refl _ _⟩
  case round =>
    obtain ⟨k, hk, rfl, HI, hbel⟩ := hrel
    have hsz := hbel.size
    by_cases hlt : k < len
    · obtain ⟨s, b, off, hx, rfl, hbl, hc0⟩ := (HS.out.below hbel (Nat.le_refl _)).at hlt
      have HX := Lib.hid hx
      clear hx
      have c := fun W => isName_any s W
      cases hn : nameB s with
      | true =>
        have HI2 : Hid (∀ i s, i < k + 1 → ss[i]? = some s → nameB s = true) := fun i t hi ht => by
          by_cases e : i = k
          · subst e
            have := HX.out
            rw [ht] at this
            cases this
            exact hn
          · exact HI.out i t (by omega) ht
        rw [hn] at c
        clear hn HI NO YE
        go_wp2_with (go_at_call 131; refine (c _).mono ?_; rintro e w1 ⟨rfl, hb⟩)
        go_roundw
        case rel => exact ⟨k + 1, by omega, by go_num, HI2, hbel.trans (hb.mono hsz)⟩
        case measure => simp [intOf]; omega
      | false =>
        obtain rfl := NO.out k s HX.out hn
        rw [hn] at c
        clear hn HI NO YE
        go_wp2_with (go_at_call 131; refine (c _).mono ?_; rintro e w1 ⟨rfl, hb⟩)
        go_ret
        exact ⟨rfl, hbel.trans (hb.mono hsz)⟩
    · obtain rfl := YE.out fun i s hi => HI.out i s (by have := (List.getElem?_eq_some_iff.1 hi).1; have := HS.out.1; omega) hi
      clear NO YE HI
      go_wp2_with fail
      go_ret
      exact ⟨rfl, hbel⟩

theorem new_strs1 (w : World) (s : ByteArray) : IsStrs (w.alloc (.cells #[.string s] 9)) (some ⟨w.heap.size, 0, none⟩) 1 [s] := by
  refine ⟨rfl, .inr ⟨w.heap.size, 0, rfl, by simp, fun i t ht => ?_⟩⟩
  cases i with
  | zero => simp at ht; subst ht; exact cell_of_row _ _ 0 _ _ _ (heap_alloc_new w _)
  | succ i => simp at ht

theorem new_strs2 (w : World) (s u : ByteArray) : IsStrs (w.alloc (.cells #[.string s, .string u] 9)) (some ⟨w.heap.size, 0, none⟩) 2 [s, u] := by
  refine ⟨rfl, .inr ⟨w.heap.size, 0, rfl, by simp, fun i t ht => ?_⟩⟩
  match i, ht with
  | 0, ht => simp at ht; subst ht; exact cell_of_row _ _ 0 _ _ _ (heap_alloc_new w _)
  | 1, ht => simp at ht; subst ht; exact cell_of_row _ _ 1 _ _ _ (heap_alloc_new w _)
  | i + 2, ht => simp at ht

theorem isQualified_any (s : ByteArray) (hs : s.size ≤ 9223372036854775800) (w : World) : Calls Tryz.prog 86 #[.string s] w fun e w' => e = .returned (.bool (qualB s)) ∧ Below w.heap.size w w' := by
  rcases dot_cases s with h | ⟨i, h, hi⟩
  · rw [qualB_no h]
    have c := fun W => cut_no s h W
    clear h
    go_enter Tryz.func86, Tryz.ntmps86
    go_wp2_with (go_at_call 125; refine (c _).mono ?_; rintro e w1 ⟨rfl, hb⟩)
    refine (areNames_any _ 1 1 [s] _ (new_strs1 _ s) (by omega)).mono ?_
    rintro e w2 ⟨rfl, hb2⟩
    go_wp2_with fail
    go_ret
    refine ⟨ret_bool (by simp), (hb.alloc hb.size _).trans (hb2.mono (by have := hb.size; simp; omega))⟩
  · rw [qualB_at h]
    have c := fun W => cut_at s i h hi hs W
    generalize s.extract 0 i = t1 at *
    generalize s.extract (i + 1) s.size = t2 at *
    clear h hi
    go_enter Tryz.func86, Tryz.ntmps86
    go_wp2_with (go_at_call 125; refine (c _).mono ?_; rintro e w1 ⟨rfl, hb⟩)
    refine (areNames_any _ 2 2 [t1, t2] _ (new_strs2 _ t1 t2) (by omega)).mono ?_
    rintro e w2 ⟨rfl, hb2⟩
    go_wp2_with fail
    go_ret
    refine ⟨ret_bool (by simp), (hb.alloc hb.size _).trans (hb2.mono (by have := hb.size; simp; omega))⟩

theorem rIsQualified_any (s : ByteArray) (hs : s.size ≤ 9223372036854775800) (w : World) : Calls Tryz.prog 98 #[.string s] w fun e w' => e = .returned (.bool (qualB s)) ∧ w = w' := by
  have IX := Lib.hid (fun i (hi : i < s.size) W => index_str s i hi W)
  have QA := Lib.hid (fun (i : Nat) (h : dotI s = i) => qualB_at h)
  have QN := Lib.hid (fun (h : dotI s = -1) => qualB_no h)
  generalize qualB s = E at *
  go_enter Tryz.func98, Tryz.ntmps98
  go_wp2_with fail
  go_loop [3] (fun i => ∃ k : Nat, k ≤ s.size ∧ i = .int .i64 k ∧ Hid (∀ j, j < k → ¬ btN s j = 46)) (fun i => s.size - (intOf i).toNat)
  case atStart => exact ⟨0, by omega, rfl, fun j hj => absurd hj (by omega)⟩
  case round =>
    obtain ⟨k, hk, rfl, HI⟩ := hrel
    by_cases hlt : k < s.size
    · have hi := IX.out k hlt
      by_cases hd : btN s k = 46
      · rw [hd] at hi
        have h := dot_first HI.out hlt hd
        have hE := QA.out k h
        clear QA QN
        have s1 := fun W => slice_str_to s k (by omega) W
        have s2 := fun W => slice_str_from s (k + 1) (by omega) W
        rw [show ((k + 1 : Nat) : Int) = (k : Int) + 1 by omega] at s2
        generalize s.extract 0 k = t1 at *
        generalize s.extract (k + 1) s.size = t2 at *
        have c1 := fun W => rIsName_any t1 W
        have c2 := fun W => rIsName_any t2 W
        generalize nameB t1 = b1 at *
        generalize nameB t2 = b2 at *
        clear hd h HI IX
        subst hE
        cases b1 <;> cases b2
        all_goals
          go_wp2_with (first | (go_at_call_of 110 (Value.string t1); refine (c1 _).mono ?_; rintro e w' ⟨rfl, rfl⟩) | (go_at_call_of 110 (Value.string t2); refine (c2 _).mono ?_; rintro e w' ⟨rfl, rfl⟩))
          go_ret
          exact ⟨rfl, rfl⟩
      · have HI2 : Hid (∀ j, j < k + 1 → ¬ btN s j = 46) := fun j hj => by
          by_cases e : j = k
          · subst e; exact hd
          · exact HI.out j (by omega)
        have hd2 : ¬ (btN s k : Int) = 46 := by omega
        generalize btN s k = x at hi hd2
        clear hd HI IX
        go_wp2_with fail
        go_round
        case rel => exact ⟨k + 1, by omega, by go_num, HI2⟩
        case measure => simp [intOf]; omega
    · obtain rfl := QN.out (dot_none fun j hj => HI.out j (by omega))
      have c1 := fun W => rIsName_any s W
      clear HI IX
      go_wp2_with (go_at_call 110; refine (c1 _).mono ?_; rintro e w' ⟨rfl, rfl⟩)
      go_ret
      exact ⟨rfl, rfl⟩

end Go.Proofs.YtmdpjahhhfajaaaGreatDoor
