/-
  Pieces of a text, plainly: how far a kind of byte goes; blanks and comments. No program's functions. · letter, digit, run, skip, of the reference. · name, of the reference. · integer, of the reference. · The longest symbol with which a text begins, plainly (the reference's symbol goes over the same two lists). · strings.ReplaceAll at apostrophes, plainly: a pair for one, one for a pair; the text literal with which a text begins. No program's functions.
-/
import Derived.Test.YtmdpjahhhfajaaaGreatDoorJA01
import Derived.OwnWalk
import Derived.Lib.Replace
import Derived.Lib.ReplaceLaws
set_option linter.unusedVariables false
namespace Wh
open Go

def lowB (c : Nat) : Bool := decide (97 ≤ c) && decide (c ≤ 122)
def numB (c : Nat) : Bool := decide (48 ≤ c) && decide (c ≤ 57)
def wordB (c : Nat) : Bool := lowB c || numB c || decide (c = 95)
/-- The number of bytes of the kind p with which a text begins. -/
def spanN (p : Nat → Bool) (s : ByteArray) : Nat := ((bts s).takeWhile fun x => p x.toNat).length

theorem takeWhile_stop {α : Type} (q : α → Bool) : ∀ (l : List α) (n : Nat), (∀ j x, j < n → l[j]? = some x → q x = true) → n ≤ l.length → (n = l.length ∨ ∃ x, l[n]? = some x ∧ q x = false) → (l.takeWhile q).length = n
  | [], n, _, h2, _ => by
    simp at h2
    subst h2
    rfl
  | x :: l, 0, _, _, h3 => by
    rcases h3 with h3 | ⟨y, hy, hq⟩
    · simp at h3
    · simp at hy
      subst hy
      rw [List.takeWhile_cons, hq]
      rfl
  | x :: l, n + 1, h1, h2, h3 => by
    have hx := h1 0 x (by omega) rfl
    rw [List.takeWhile_cons, hx]
    simp only [if_true, List.length_cons, Nat.add_right_cancel_iff]
    refine takeWhile_stop q l n (fun j y hj hy => h1 (j + 1) y (by omega) (by simpa using hy)) (by simpa using h2) ?_
    rcases h3 with h3 | ⟨y, hy, hq⟩
    · left; simpa using h3
    · right; exact ⟨y, by simpa using hy, hq⟩
theorem spanN_eq {p : Nat → Bool} {s : ByteArray} {n : Nat} (h1 : ∀ j, j < n → p (btN s j) = true) (h2 : n ≤ s.size) (h3 : n = s.size ∨ p (btN s n) = false) : spanN p s = n := by
  unfold spanN
  refine takeWhile_stop _ (bts s) n (fun j x hj hx => by rw [← btN_of hx]; exact h1 j hj) (by rw [bts_length]; exact h2) ?_
  by_cases hn : n = s.size
  · left; rw [bts_length]; exact hn
  · obtain ⟨x, hx⟩ := bts_at (s := s) (i := n) (by omega)
    right
    refine ⟨x, hx, ?_⟩
    rw [← btN_of hx]
    rcases h3 with h3 | h3
    · exact absurd h3 hn
    · exact h3

/-- The number of bytes that are blank or in a comment (inC: a comment has begun). -/
def skipG (inC : Bool) : List UInt8 → Nat
  | [] => 0
  | x :: l => if inC = true then 1 + skipG (decide (x.toNat ≠ 10)) l else if x.toNat = 32 ∨ x.toNat = 9 ∨ x.toNat = 10 then 1 + skipG false l else if x.toNat = 35 then 1 + skipG true l else 0
def skipN (s : ByteArray) (inC : Bool) (i : Nat) : Nat := i + skipG inC ((bts s).drop i)
theorem drop_at {s : ByteArray} {i : Nat} (h : i < s.size) : ∃ x, (bts s).drop i = x :: (bts s).drop (i + 1) ∧ x.toNat = btN s i := by
  obtain ⟨x, hx⟩ := bts_at h
  have hk := List.getElem?_eq_some_iff.1 hx
  exact ⟨x, by rw [List.drop_eq_getElem_cons hk.1, hk.2], (btN_of hx).symm⟩
theorem skip_end {s : ByteArray} {i : Nat} (c : Bool) (h : s.size ≤ i) : skipN s c i = i := by
  unfold skipN
  rw [List.drop_of_length_le (by rw [bts_length]; exact h)]
  rfl
theorem skip_blank {s : ByteArray} {i : Nat} (h : i < s.size) (hb : btN s i = 32 ∨ btN s i = 9 ∨ btN s i = 10) : skipN s false i = skipN s false (i + 1) := by
  obtain ⟨x, e, hx⟩ := drop_at h
  unfold skipN
  rw [e]
  simp only [skipG, hx, if_pos hb]
  simp
  omega
theorem skip_hash {s : ByteArray} {i : Nat} (h : i < s.size) (hb : btN s i = 35) : skipN s false i = skipN s true (i + 1) := by
  obtain ⟨x, e, hx⟩ := drop_at h
  unfold skipN
  rw [e]
  simp only [skipG, hx, hb]
  simp
  omega
theorem skip_stop {s : ByteArray} {i : Nat} (h : i < s.size) (h1 : ¬ btN s i = 32) (h2 : ¬ btN s i = 9) (h3 : ¬ btN s i = 10) (h4 : ¬ btN s i = 35) : skipN s false i = i := by
  obtain ⟨x, e, hx⟩ := drop_at h
  unfold skipN
  rw [e]
  simp [skipG, hx, h1, h2, h3, h4]
theorem skip_in {s : ByteArray} {i : Nat} (h : i < s.size) (hb : ¬ btN s i = 10) : skipN s true i = skipN s true (i + 1) := by
  obtain ⟨x, e, hx⟩ := drop_at h
  unfold skipN
  rw [e]
  simp [skipG, hx, hb]
  omega
/-- A comment ends ahead of the line feed; this one is blank. -/
theorem skip_out {s : ByteArray} {i : Nat} (h : i < s.size) (hb : btN s i = 10) : skipN s true i = skipN s false i := by
  obtain ⟨x, e, hx⟩ := drop_at h
  unfold skipN
  rw [e]
  simp [skipG, hx, hb]

/-- The longest symbol with which a text begins: its length, or 0. -/
def symN (s : ByteArray) : Nat :=
  if 2 ≤ s.size ∧ ((btN s 0 = 43 ∧ btN s 1 = 43) ∨ (btN s 0 = 60 ∧ btN s 1 = 61) ∨ (btN s 0 = 62 ∧ btN s 1 = 61) ∨ (btN s 0 = 33 ∧ btN s 1 = 61)) then 2
  else if 1 ≤ s.size ∧ btN s 0 ∈ [40, 41, 44, 59, 58, 124, 61, 43, 45, 42, 47, 37, 60, 62] then 1 else 0

end Wh

set_option linter.unusedVariables false
set_option maxRecDepth 100000
namespace Go.Proofs.YtmdpjahhhfajaaaGreatDoor
open Go.RowKit Wh

theorem letter_any (c : Nat) (w : World) : Calls Tryz.prog 60 #[.int .u8 c] w fun e w' => e = .returned (.bool (lowB c)) ∧ w = w' := by
  unfold lowB
  go_enter Tryz.func60, Tryz.ntmps60
  by_cases h : 97 ≤ c
  · have h1 : (97 : Int) ≤ (c : Int) := by omega
    by_cases h2 : c ≤ 122
    · have h3 : (c : Int) ≤ 122 := by omega
      go_wp2_with fail
      go_ret
      exact ⟨by simp [h, h2], rfl⟩
    · have h3 : ¬ (c : Int) ≤ 122 := by omega
      go_wp2_with fail
      go_ret
      exact ⟨by simp, rfl⟩
  · have h1 : ¬ (97 : Int) ≤ (c : Int) := by omega
    go_wp2_with fail
    go_ret
    exact ⟨by simp, rfl⟩
theorem digit_any (c : Nat) (w : World) : Calls Tryz.prog 62 #[.int .u8 c] w fun e w' => e = .returned (.bool (numB c)) ∧ w = w' := by
  unfold numB
  go_enter Tryz.func62, Tryz.ntmps62
  by_cases h : 48 ≤ c
  · have h1 : (48 : Int) ≤ (c : Int) := by omega
    by_cases h2 : c ≤ 57
    · have h3 : (c : Int) ≤ 57 := by omega
      go_wp2_with fail
      go_ret
      exact ⟨by simp [h, h2], rfl⟩
    · have h3 : ¬ (c : Int) ≤ 57 := by omega
      go_wp2_with fail
      go_ret
      exact ⟨by simp, rfl⟩
  · have h1 : ¬ (48 : Int) ≤ (c : Int) := by omega
    go_wp2_with fail
    go_ret
    exact ⟨by simp, rfl⟩

theorem run_any (s : ByteArray) (hs : s.size ≤ 9223372036854775807) (w : World) : Calls Tryz.prog 101 #[.string s] w fun e w' => e = .returned (.int .i64 (spanN wordB s)) ∧ w = w' := by
  have FIN := Lib.hid (fun n h1 h2 h3 => spanN_eq (p := wordB) (s := s) (n := n) h1 h2 h3)
  generalize spanN wordB s = E at *
  go_enter Tryz.func101, Tryz.ntmps101
  go_wp2_with fail
  go_loop [3] (fun iv => ∃ k : Nat, k ≤ s.size ∧ iv = .int .i64 k ∧ Hid (∀ j, j < k → wordB (btN s j) = true)) (fun i => s.size - (intOf i).toNat)
  case atStart => exact ⟨0, Nat.zero_le _, rfl, fun j hj => absurd hj (by omega)⟩
  case round =>
    obtain ⟨k, hk, rfl, HI⟩ := hrel
    by_cases hlt : k < s.size
    · have ix := fun W => index_str s k hlt W
      have L := fun W => letter_any (btN s k) W
      have D := fun W => digit_any (btN s k) W
      have HW : Hid (wordB (btN s k) = (lowB (btN s k) || numB (btN s k) || decide (btN s k = 95))) := rfl
      have STEP := Lib.hid (fun (h : wordB (btN s k) = true) => show ∀ j, j < k + 1 → wordB (btN s j) = true from fun j hj => by
        by_cases e : j = k
        · rw [e]; exact h
        · exact HI.out j (by omega))
      have STOP := Lib.hid (fun (h : wordB (btN s k) = false) => FIN.out k HI.out hk (.inr h))
      have h95 : ((btN s k : Int) == 95) = decide (btN s k = 95) := by
        by_cases h : btN s k = 95
        · simp [h]
        · rw [decide_eq_false h]; simp; omega
      generalize wordB (btN s k) = wb at *
      generalize lowB (btN s k) = b1 at *
      generalize numB (btN s k) = b2 at *
      generalize decide (btN s k = 95) = b3 at *
      clear FIN HI
      cases b1 with
      | true =>
        obtain rfl : wb = true := HW.out
        have HI2 := Lib.hid (STEP.out rfl)
        clear STEP STOP HW
        go_wp2_with (first | (go_at_call 60; refine (L _).mono ?_; rintro e w1 ⟨rfl, rfl⟩))
        go_round
        case rel => exact ⟨k + 1, by omega, by go_num, HI2⟩
        case measure => simp [intOf]; omega
      | false =>
        cases b2 with
        | true =>
          obtain rfl : wb = true := HW.out
          have HI2 := Lib.hid (STEP.out rfl)
          clear STEP STOP HW
          go_wp2_with (first | (go_at_call 60; refine (L _).mono ?_; rintro e w1 ⟨rfl, rfl⟩) | (go_at_call 62; refine (D _).mono ?_; rintro e w1 ⟨rfl, rfl⟩))
          go_round
          case rel => exact ⟨k + 1, by omega, by go_num, HI2⟩
          case measure => simp [intOf]; omega
        | false =>
          cases b3 with
          | true =>
            obtain rfl : wb = true := HW.out
            have HI2 := Lib.hid (STEP.out rfl)
            clear STEP STOP HW
            go_wp2_with (first | (go_at_call 60; refine (L _).mono ?_; rintro e w1 ⟨rfl, rfl⟩) | (go_at_call 62; refine (D _).mono ?_; rintro e w1 ⟨rfl, rfl⟩))
            go_round
            case rel => exact ⟨k + 1, by omega, by go_num, HI2⟩
            case measure => simp [intOf]; omega
          | false =>
            obtain rfl : wb = false := HW.out
            obtain rfl := STOP.out rfl
            clear STEP STOP HW
            go_wp2_with (first | (go_at_call 60; refine (L _).mono ?_; rintro e w1 ⟨rfl, rfl⟩) | (go_at_call 62; refine (D _).mono ?_; rintro e w1 ⟨rfl, rfl⟩))
            go_ret
            exact ⟨rfl, rfl⟩
    · obtain rfl : k = s.size := by omega
      obtain rfl := FIN.out _ HI.out (Nat.le_refl _) (.inl rfl)
      clear FIN HI
      go_wp2_with fail
      go_ret
      exact ⟨rfl, rfl⟩

theorem skip_any (s : ByteArray) (hs : s.size ≤ 9223372036854775806) (i : Nat) (hi : i ≤ s.size) (w : World) : Calls Tryz.prog 33 #[.string s, .int .i64 i] w fun e w' => e = .returned (.int .i64 (skipN s false i)) ∧ w = w' := by
  obtain ⟨E, hE⟩ : ∃ E, skipN s false i = E := ⟨_, rfl⟩
  rw [hE]
  go_enter Tryz.func33, Tryz.ntmps33
  go_wp2_with fail
  go_loop [1] (fun iv => ∃ k : Nat, k ≤ s.size ∧ iv = .int .i64 k ∧ Hid (skipN s false k = E)) (fun i => s.size - (intOf i).toNat)
  case atStart => exact ⟨i, hi, rfl, hE⟩
  case round =>
    obtain ⟨k, hk, rfl, HE⟩ := hrel
    clear hE
    by_cases hlt : k < s.size
    · have ix := fun W => index_str s k hlt W
      have BL := Lib.hid (fun h => skip_blank (s := s) (i := k) hlt h)
      have HA := Lib.hid (fun h => skip_hash (s := s) (i := k) hlt h)
      have ST := Lib.hid (fun h1 h2 h3 h4 => skip_stop (s := s) (i := k) hlt h1 h2 h3 h4)
      have SI := Lib.hid (fun (h : ¬ btN s k = 10) (h2 : skipN s true (k + 1) = E) => (skip_in (s := s) hlt h).trans h2)
      generalize hcc : btN s k = c at *
      have HCC := Lib.hid hcc
      clear hcc
      by_cases h32 : c = 32
      · subst h32
        have HE2 := Lib.hid ((BL.out (by omega)).symm.trans HE.out)
        clear BL HA ST HE SI
        go_wp2_with fail
        go_round
        case rel => exact ⟨k + 1, by omega, by go_num, HE2⟩
        case measure => simp [intOf]; omega
      · by_cases h9 : c = 9
        · subst h9
          have HE2 := Lib.hid ((BL.out (by omega)).symm.trans HE.out)
          clear BL HA ST HE SI
          go_wp2_with fail
          go_round
          case rel => exact ⟨k + 1, by omega, by go_num, HE2⟩
          case measure => simp [intOf]; omega
        · by_cases h10 : c = 10
          · subst h10
            have HE2 := Lib.hid ((BL.out (by omega)).symm.trans HE.out)
            clear BL HA ST HE SI
            go_wp2_with fail
            go_round
            case rel => exact ⟨k + 1, by omega, by go_num, HE2⟩
            case measure => simp [intOf]; omega
          · by_cases h35 : c = 35
            · subst h35
              have HE2 := Lib.hid (SI.out (by omega) ((HA.out rfl).symm.trans HE.out))
              clear BL HA ST HE SI
              go_wp2_with fail
              go_loop [1] (fun iv => ∃ j : Nat, k ≤ j ∧ j ≤ s.size ∧ iv = .int .i64 j ∧ Hid (skipN s true j = E)) (fun i => s.size - (intOf i).toNat)
              case atStart => exact ⟨k, Nat.le_refl _, hk, rfl, HE2⟩
              case round =>
                obtain ⟨j, hkj, hj, rfl, HJ⟩ := hrel
                clear HE2
                by_cases hjl : j < s.size
                · have ix2 := fun W => index_str s j hjl W
                  have hne : btN s j = 10 → k < j := fun h => by
                    rcases Nat.lt_or_ge k j with h1 | h1
                    · exact h1
                    · obtain rfl : j = k := by omega
                      rw [HCC.out] at h
                      omega
                  have OUT := Lib.hid (fun (h : btN s j = 10) => (skip_out hjl h).symm.trans HJ.out)
                  have IN := Lib.hid (fun (h : ¬ btN s j = 10) => (skip_in hjl h).symm.trans HJ.out)
                  clear HJ ix HCC
                  generalize btN s j = d at *
                  by_cases hd : d = 10
                  · subst hd
                    have HE3 := Lib.hid (OUT.out rfl)
                    have hlt2 := hne rfl
                    clear OUT IN hne
                    go_wp2_with fail
                    go_round
                    case rel => exact ⟨j, hj, rfl, HE3⟩
                    case measure => simp [intOf]; omega
                  · have HJ2 := Lib.hid (IN.out hd)
                    have e1 : ((d : Int) != 10) = true := by simp; omega
                    clear OUT IN hne
                    go_wp2_with fail
                    go_round
                    case rel => exact ⟨j + 1, by omega, by omega, by go_num, HJ2⟩
                    case measure => simp [intOf]; omega
                · obtain rfl : j = s.size := by omega
                  have HE3 : Hid (skipN s false s.size = E) := by
                    have h := HJ.out
                    rw [skip_end true (Nat.le_refl _)] at h
                    show _ = _
                    rw [skip_end false (Nat.le_refl _)]
                    exact h
                  clear HJ
                  go_wp2_with fail
                  go_round
                  case rel => exact ⟨s.size, Nat.le_refl _, rfl, HE3⟩
                  case measure => simp [intOf]; omega
            · have HF := (ST.out h32 h9 h10 h35).symm.trans HE.out
              subst HF
              clear BL HA ST HE SI
              have e1 : ((c : Int) == 32) = false := by simp; omega
              have e2 : ((c : Int) == 9) = false := by simp; omega
              have e3 : ((c : Int) == 10) = false := by simp; omega
              have e4 : ((c : Int) == 35) = false := by simp; omega
              go_wp2_with fail
              go_ret
              exact ⟨rfl, rfl⟩
    · obtain rfl : k = s.size := by omega
      have HF := HE.out
      rw [skip_end false (Nat.le_refl _)] at HF
      subst HF
      clear HE
      go_wp2_with fail
      go_ret
      exact ⟨rfl, rfl⟩

end Go.Proofs.YtmdpjahhhfajaaaGreatDoor

set_option linter.unusedVariables false
set_option maxRecDepth 100000
namespace Wh

/-- The length of the name with which a text begins, and the error. -/
def nameT (s : ByteArray) : Int × Int :=
  if 24 < spanN wordB s then (0, 4)
  else if spanN wordB s + 1 < s.size ∧ btN s (spanN wordB s) = 46 ∧ lowB (btN s (spanN wordB s + 1)) = true then
    (if 24 < spanN wordB (s.extract (spanN wordB s + 1) s.size) then (0, 4) else ((spanN wordB s : Int) + (1 + (spanN wordB (s.extract (spanN wordB s + 1) s.size) : Int)), 0))
  else ((spanN wordB s : Int), 0)
theorem takeWhile_le {α : Type} (q : α → Bool) : ∀ l : List α, (l.takeWhile q).length ≤ l.length
  | [] => Nat.le_refl _
  | x :: l => by
    have := takeWhile_le q l
    rw [List.takeWhile_cons]
    split
    · simp; exact this
    · simp
theorem spanN_le (p : Nat → Bool) (s : ByteArray) : spanN p s ≤ s.size := by
  unfold spanN
  rw [← bts_length]
  exact takeWhile_le _ _

end Wh
namespace Go.Proofs.YtmdpjahhhfajaaaGreatDoor
open Go.RowKit Wh

set_option maxHeartbeats 1000000 in
theorem name_any (s : ByteArray) (hs : s.size ≤ 9223372036854775800) (w : World) : Calls Tryz.prog 61 #[.string s] w fun e w' => e = .returned (.tuple #[.int .i64 (nameT s).1, .int .i64 (nameT s).2]) ∧ w = w' := by
  have R1 := Lib.hid (run_any s (by omega) w)
  have hn := spanN_le wordB s
  unfold nameT
  generalize hN : spanN wordB s = n at *
  clear hN
  by_cases h24 : 24 < n
  · have e1 : (24 : Int) < (n : Int) := by omega
    rw [if_pos h24]
    go_enter Tryz.func61, Tryz.ntmps61
    go_wp2_with fail
    refine R1.out.mono ?_
    rintro e w1 ⟨rfl, rfl⟩
    go_wp2_with fail
    go_ret2
    exact ⟨rfl, rfl⟩
  · have e1 : ¬ (24 : Int) < (n : Int) := by omega
    rw [if_neg h24]
    by_cases hl : n + 1 < s.size
    · have e2 : ((n : Int) + 1) < (s.size : Int) := by omega
      have ix := fun W => index_str s n (by omega) W
      have ix1 := fun W => index_str s (n + 1) hl W
      have LT := Lib.hid (fun W => letter_any (btN s (n + 1)) W)
      have sl := fun W => slice_str_from s (n + 1) (by omega) W
      have hcast : ((n + 1 : Nat) : Int) = (n : Int) + 1 := by omega
      rw [hcast] at ix1 sl
      have hsz := size_extract (s := s) (a := n + 1) (b := s.size) (by omega) (Nat.le_refl _)
      have R2 := Lib.hid (run_any (s.extract (n + 1) s.size) (by omega) w)
      have hk := spanN_le wordB (s.extract (n + 1) s.size)
      rw [hsz] at hk
      generalize hK : spanN wordB (s.extract (n + 1) s.size) = k at *
      generalize s.extract (n + 1) s.size = t at *
      generalize btN s n = c at *
      generalize lowB (btN s (n + 1)) = lb at *
      generalize btN s (n + 1) = c1 at *
      clear hK hsz hcast
      by_cases h46 : c = 46
      · subst h46
        cases lb with
        | true =>
          rw [if_pos ⟨hl, rfl, rfl⟩]
          by_cases hk24 : 24 < k
          · have e3 : (24 : Int) < (k : Int) := by omega
            rw [if_pos hk24]
            go_enter Tryz.func61, Tryz.ntmps61
            go_wp2_with fail
            refine R1.out.mono ?_
            rintro e w1 ⟨rfl, rfl⟩
            go_wp2_with fail
            refine (LT.out _).mono ?_
            rintro e w1 ⟨rfl, rfl⟩
            go_wp2_with fail
            refine R2.out.mono ?_
            rintro e w1 ⟨rfl, rfl⟩
            go_wp2_with fail
            go_ret2
            exact ⟨rfl, rfl⟩
          · have e3 : ¬ (24 : Int) < (k : Int) := by omega
            rw [if_neg hk24]
            go_enter Tryz.func61, Tryz.ntmps61
            go_wp2_with fail
            refine R1.out.mono ?_
            rintro e w1 ⟨rfl, rfl⟩
            go_wp2_with fail
            refine (LT.out _).mono ?_
            rintro e w1 ⟨rfl, rfl⟩
            go_wp2_with fail
            refine R2.out.mono ?_
            rintro e w1 ⟨rfl, rfl⟩
            go_wp2_with fail
            go_ret2
            exact ⟨rfl, rfl⟩
        | false =>
          rw [if_neg (by simp)]
          go_enter Tryz.func61, Tryz.ntmps61
          go_wp2_with fail
          refine R1.out.mono ?_
          rintro e w1 ⟨rfl, rfl⟩
          go_wp2_with fail
          refine (LT.out _).mono ?_
          rintro e w1 ⟨rfl, rfl⟩
          go_wp2_with fail
          go_ret2
          exact ⟨rfl, rfl⟩
      · rw [if_neg (by simp [h46])]
        have e3 : ((c : Int) == 46) = false := by simp; omega
        go_enter Tryz.func61, Tryz.ntmps61
        go_wp2_with fail
        refine R1.out.mono ?_
        rintro e w1 ⟨rfl, rfl⟩
        go_wp2_with fail
        go_ret2
        exact ⟨rfl, rfl⟩
    · have e2 : ¬ ((n : Int) + 1) < (s.size : Int) := by omega
      rw [if_neg (by simp [hl])]
      go_enter Tryz.func61, Tryz.ntmps61
      go_wp2_with fail
      refine R1.out.mono ?_
      rintro e w1 ⟨rfl, rfl⟩
      go_wp2_with fail
      go_ret2
      exact ⟨rfl, rfl⟩

end Go.Proofs.YtmdpjahhhfajaaaGreatDoor

set_option linter.unusedVariables false
set_option maxRecDepth 100000
namespace Wh

/-- What the first k digits say, MaxInt + 1 at most. -/
def decV (s : ByteArray) : Nat → Int
  | 0 => 0
  | k + 1 => min (decV s k * 10 + ((btN s k : Int) - 48)) 1073741825
def badI (s : ByteArray) : Bool := (decide (1 < spanN numB s) && decide (btN s 0 = 48)) || (decide (spanN numB s < s.size) && (lowB (btN s (spanN numB s)) || decide (btN s (spanN numB s) = 95)))
/-- The integer with which a text begins, its length, and the error. -/
def intT (s : ByteArray) : Int × Int × Int :=
  if badI s = true then (0, 0, 3) else if 1073741824 < decV s (spanN numB s) then (0, 0, 1) else (decV s (spanN numB s), (spanN numB s : Int), 0)
theorem numB_bd {c : Nat} (h : numB c = true) : 48 ≤ c ∧ c ≤ 57 := by
  unfold numB at h
  simpa using h
theorem decV_bd {s : ByteArray} : ∀ k, (∀ j, j < k → numB (btN s j) = true) → 0 ≤ decV s k ∧ decV s k ≤ 1073741825
  | 0, _ => by simp [decV]
  | k + 1, h => by
    have ih := decV_bd k fun j hj => h j (by omega)
    have := numB_bd (h k (by omega))
    unfold decV
    omega

end Wh
namespace Go.Proofs.YtmdpjahhhfajaaaGreatDoor
open Go.RowKit Wh

set_option maxHeartbeats 4000000 in
theorem integer_any (s : ByteArray) (hs : s.size ≤ 9223372036854775800) (w : World) : Calls Tryz.prog 63 #[.string s] w fun e w' => e = .returned (.tuple #[.int .i64 (intT s).1, .int .i64 (intT s).2.1, .int .i64 (intT s).2.2]) ∧ w = w' := by
  have FIN := Lib.hid (fun n h1 h2 h3 => spanN_eq (p := numB) (s := s) (n := n) h1 h2 h3)
  obtain ⟨E, hE⟩ : ∃ E, intT s = E := ⟨_, rfl⟩
  rw [hE]
  have HE := Lib.hid hE
  clear hE
  go_enter Tryz.func63, Tryz.ntmps63
  go_wp2_with fail
  go_loop [5, 6] (fun vv iv => ∃ k : Nat, k ≤ s.size ∧ iv = .int .i64 k ∧ vv = .int .i64 (decV s k) ∧ Hid (∀ j, j < k → numB (btN s j) = true)) (fun _ i => s.size - (intOf i).toNat)
  case atStart => exact ⟨0, Nat.zero_le _, rfl, rfl, fun j hj => absurd hj (by omega)⟩
  case round =>
    obtain ⟨k, hk, rfl, rfl, HI⟩ := hrel
    have hbd := decV_bd k HI.out
    have END : Hid (spanN numB s = k → E = intT s) := fun _ => HE.out.symm
    by_cases hd : k < s.size ∧ numB (btN s k) = true
    · obtain ⟨hlt, hdg⟩ := hd
      have ix := fun W => index_str s k hlt W
      have D := Lib.hid (fun W => digit_any (btN s k) W)
      rw [hdg] at D
      have hc := numB_bd hdg
      have HV : Hid (decV s (k + 1) = min (decV s k * 10 + ((btN s k : Int) - 48)) 1073741825) := rfl
      have HI2 : Hid (∀ j, j < k + 1 → numB (btN s j) = true) := fun j hj => by
        by_cases e : j = k
        · rw [e]; exact hdg
        · exact HI.out j (by omega)
      generalize hv2 : decV s (k + 1) = v2 at *
      have HV2 := Lib.hid hv2
      clear hv2
      generalize decV s k = v at *
      generalize btN s k = c at *
      clear FIN HI hdg END HE
      have hw : IntKind.u8.wrap ((c : Int) - 48) = (c : Int) - 48 := by rw [IntKind.wrap_u8]; omega
      go_wp2_with (first | (go_at_call 62; refine (D.out _).mono ?_; rintro e w1 ⟨rfl, rfl⟩))
      go_round
      case rel =>
        refine ⟨k + 1, by omega, by go_num, ?_, HI2⟩
        rw [HV2.out, HV.out]
        by_cases h : 1073741825 < v * 10 + ((c : Int) - 48)
        · rw [if_pos h, Int.min_def, if_neg (by omega)]
        · rw [if_neg h, Int.min_def, if_pos (by omega)]
      case measure => simp [intOf]; omega
    · have hsp : spanN numB s = k := FIN.out k HI.out hk (by
        by_cases h : k = s.size
        · exact .inl h
        · right
          cases hx : numB (btN s k) with
          | false => rfl
          | true => exact absurd ⟨by omega, hx⟩ hd)
      have HEX : Hid (E = if ((decide (1 < k) && decide (btN s 0 = 48)) || (decide (k < s.size) && (lowB (btN s k) || decide (btN s k = 95)))) = true then (0, 0, 3) else if 1073741824 < decV s k then (0, 0, 1) else (decV s k, (k : Int), 0)) := by
        show _ = _
        rw [← HE.out, intT, badI, hsp]
      clear END HE FIN HI hsp
      generalize decV s k = v at *
      have hv1 : (1073741824 < v) = ((1073741824 : Int) < v) := rfl
      by_cases hlt : k < s.size
      · have ix := fun W => index_str s k hlt W
        have ix0 : ∀ W, (Instr.index 9 (.string s) (.int .i64 0)).run Tryz.prog W = .ok (.int .u8 (btN s 0)) W := fun W => index_str s 0 (by omega) W
        have hdg : numB (btN s k) = false := by
          cases hx : numB (btN s k) with
          | false => rfl
          | true => exact absurd ⟨hlt, hx⟩ hd
        have D := Lib.hid (fun W => digit_any (btN s k) W)
        have L := Lib.hid (fun W => letter_any (btN s k) W)
        rw [hdg] at D
        have hq : decide (k < s.size) = true := decide_eq_true hlt
        rw [hq] at HEX
        clear hdg hd hq
        generalize lowB (btN s k) = lb at *
        generalize btN s k = c at *
        generalize btN s 0 = z at *
        have e95 : ((c : Int) == 95) = decide (c = 95) := by
          by_cases h : c = 95
          · simp [h]
          · rw [decide_eq_false h]; simp; omega
        have e48 : ((z : Int) == 48) = decide (z = 48) := by
          by_cases h : z = 48
          · simp [h]
          · rw [decide_eq_false h]; simp; omega
        generalize decide (c = 95) = b95 at *
        generalize decide (z = 48) = b48 at *
        have hk1 : decide (1 < k) = decide ((1 : Int) < (k : Int)) := by simp; omega
        rw [hk1] at HEX
        by_cases h1k : (1 : Int) < (k : Int)
        · rw [decide_eq_true h1k] at HEX
          cases b48 <;> cases lb <;> cases b95 <;> by_cases hv : (1073741824 : Int) < v
          all_goals
            have hE := HEX.out
            simp only [Bool.true_and, Bool.or_true, Bool.or_false, Bool.false_eq_true, hv, if_true, if_false] at hE
            subst hE
            clear HEX hk1 hv1
            go_wp2_with (first | (go_at_call 62; refine (D.out _).mono ?_; rintro e w1 ⟨rfl, rfl⟩) | (go_at_call 60; refine (L.out _).mono ?_; rintro e w1 ⟨rfl, rfl⟩))
            go_ret3
            exact ⟨rfl, rfl⟩
        · rw [decide_eq_false h1k] at HEX
          clear ix0
          cases lb <;> cases b95 <;> by_cases hv : (1073741824 : Int) < v
          all_goals
            have hE := HEX.out
            simp only [Bool.true_and, Bool.false_and, Bool.or_true, Bool.or_false, Bool.false_eq_true, hv, if_true, if_false] at hE
            subst hE
            clear HEX hk1 hv1
            go_wp2_with (first | (go_at_call 62; refine (D.out _).mono ?_; rintro e w1 ⟨rfl, rfl⟩) | (go_at_call 60; refine (L.out _).mono ?_; rintro e w1 ⟨rfl, rfl⟩))
            go_ret3
            exact ⟨rfl, rfl⟩
      · obtain rfl : k = s.size := by omega
        have hq : decide (s.size < s.size) = false := decide_eq_false (by omega)
        rw [hq] at HEX
        clear hd hq
        have hk1 : decide (1 < s.size) = decide ((1 : Int) < (s.size : Int)) := by simp; omega
        rw [hk1] at HEX
        have e48 : ((btN s 0 : Int) == 48) = decide (btN s 0 = 48) := by
          by_cases h : btN s 0 = 48
          · simp [h]
          · rw [decide_eq_false h]; simp; omega
        by_cases h1k : (1 : Int) < (s.size : Int)
        · rw [decide_eq_true h1k] at HEX
          have ix0 : ∀ W, (Instr.index 9 (.string s) (.int .i64 0)).run Tryz.prog W = .ok (.int .u8 (btN s 0)) W := fun W => index_str s 0 (by omega) W
          generalize decide (btN s 0 = 48) = b48 at *
          generalize btN s 0 = z at *
          cases b48 <;> by_cases hv : (1073741824 : Int) < v
          all_goals
            have hE := HEX.out
            simp only [Bool.true_and, Bool.false_and, Bool.or_false, Bool.false_eq_true, hv, if_true, if_false] at hE
            subst hE
            clear HEX hk1 hv1
            go_wp2_with fail
            go_ret3
            exact ⟨rfl, rfl⟩
        · rw [decide_eq_false h1k] at HEX
          by_cases hv : (1073741824 : Int) < v
          all_goals
            have hE := HEX.out
            simp only [Bool.false_and, Bool.or_false, Bool.false_eq_true, hv, if_true, if_false] at hE
            subst hE
            clear HEX hk1 hv1
            go_wp2_with fail
            go_ret3
            exact ⟨rfl, rfl⟩

end Go.Proofs.YtmdpjahhhfajaaaGreatDoor

set_option linter.unusedVariables false
set_option maxRecDepth 100000
namespace Wh

def twoL (i : Nat) : ByteArray := [⟨#[43, 43]⟩, ⟨#[60, 61]⟩, ⟨#[62, 61]⟩, ⟨#[33, 61]⟩].getD i ⟨#[]⟩
def oneL : ByteArray := ⟨#[40, 41, 44, 59, 58, 124, 61, 43, 45, 42, 47, 37, 60, 62]⟩
/-- Is the text's beginning the symbol i of two bytes? -/
def isTwo (s : ByteArray) (i : Nat) : Bool := decide (2 ≤ s.size) && ((s.extract 0 2).toList == (twoL i).toList)
def isOne (s : ByteArray) (i : Nat) : Bool := decide (1 ≤ s.size) && decide (btN s 0 = btN oneL i)
/-- The longest symbol with which a text begins. -/
def symS (s : ByteArray) : ByteArray :=
  match (List.range 4).find? (isTwo s) with
  | some i => twoL i
  | none => if (List.range 14).any (isOne s) = true then s.extract 0 1 else ⟨#[]⟩

theorem symS_two {s : ByteArray} {k : Nat} (hk : k < 4) (h : ∀ j, j < k → isTwo s j = false) (ht : isTwo s k = true) : symS s = twoL k := by
  unfold symS
  rw [show List.range 4 = [0, 1, 2, 3] from rfl]
  rcases (show k = 0 ∨ k = 1 ∨ k = 2 ∨ k = 3 by omega) with rfl | rfl | rfl | rfl
  · simp [ht]
  · simp [ht, h 0]
  · simp [ht, h 0, h 1]
  · simp [ht, h 0, h 1, h 2]
theorem symS_one {s : ByteArray} (h : ∀ j, j < 4 → isTwo s j = false) : symS s = if (List.range 14).any (isOne s) = true then s.extract 0 1 else ⟨#[]⟩ := by
  unfold symS
  rw [show List.range 4 = [0, 1, 2, 3] from rfl]
  simp [h 0, h 1, h 2, h 3]

end Wh

set_option linter.unusedVariables false
namespace Wh
open Go

theorem replaceK_eq (F : List UInt8 → List UInt8) {old new : List UInt8} (h1 : old ≠ [])
    (hno : ∀ s, Lib.index s old = -1 → F s = s)
    (hat : ∀ s (i : Nat), Lib.index s old = i → F s = s.take i ++ new ++ F (s.drop (i + old.length))) :
    ∀ (k : Nat) (s : List UInt8), Lib.count s old = k → Lib.replaceK old new k s = F s
  | 0, s, h => by
    have hm : Lib.index s old = -1 := by
      have hge := Lib.index_ge s old
      by_cases hm : Lib.index s old = -1
      · exact hm
      · obtain ⟨i, hi⟩ : ∃ i : Nat, Lib.index s old = i := ⟨(Lib.index s old).toNat, by omega⟩
        rw [Lib.count_hit h1 hi] at h
        omega
    rw [Lib.replaceK, hno s hm]
  | k + 1, s, h => by
    obtain ⟨i, hi⟩ := Lib.index_of_count (s := s) (old := old) (by omega)
    rw [Lib.count_hit h1 hi] at h
    rw [Lib.replaceK_hit _ _ _ _ _ hi, hat s i hi, replaceK_eq F h1 hno hat k _ (by omega)]
theorem replaceAll_eq (F : List UInt8 → List UInt8) {old new : List UInt8} (h1 : old ≠ []) (h2 : (old == new) = false)
    (hno : ∀ s, Lib.index s old = -1 → F s = s)
    (hat : ∀ s (i : Nat), Lib.index s old = i → F s = s.take i ++ new ++ F (s.drop (i + old.length))) (s : List UInt8) :
    Lib.replaceAll s old new = F s := by
  have hn : Lib.replaceNum s old (-1) = Lib.count s old := by unfold Lib.replaceNum; rw [if_pos (by omega)]
  unfold Lib.replaceAll Lib.replace
  rw [hn, h2]
  exact replaceK_eq F h1 hno hat _ s rfl

/-- Two apostrophes for each one. -/
def dbl : List UInt8 → List UInt8
  | [] => []
  | x :: l => if x = 39 then 39 :: 39 :: dbl l else x :: dbl l
/-- One apostrophe for each pair, from the left. -/
def unp : List UInt8 → List UInt8
  | [] => []
  | [x] => [x]
  | x :: y :: l => if x = 39 ∧ y = 39 then 39 :: unp l else x :: unp (y :: l)

theorem index_cons (b : UInt8) (l sub : List UInt8) : Lib.index (b :: l) sub = if sub.isPrefixOf (b :: l) then 0 else if Lib.index l sub == -1 then -1 else Lib.index l sub + 1 := rfl
theorem index_cons_no {b : UInt8} {l sub : List UInt8} (h : Lib.index (b :: l) sub = -1) : sub.isPrefixOf (b :: l) = false ∧ Lib.index l sub = -1 := by
  rw [index_cons] at h
  cases hp : sub.isPrefixOf (b :: l) with
  | true => rw [hp] at h; simp at h
  | false =>
    rw [hp] at h
    have hge := Lib.index_ge l sub
    by_cases hm : Lib.index l sub = -1
    · exact ⟨rfl, hm⟩
    · have : (Lib.index l sub == -1) = false := by rw [beq_eq_false_iff_ne]; exact hm
      rw [this] at h
      simp at h
      omega
theorem index_cons_at {b : UInt8} {l sub : List UInt8} {i : Nat} (h : Lib.index (b :: l) sub = i) : (sub.isPrefixOf (b :: l) = true ∧ i = 0) ∨ (sub.isPrefixOf (b :: l) = false ∧ ∃ j : Nat, i = j + 1 ∧ Lib.index l sub = j) := by
  rw [index_cons] at h
  cases hp : sub.isPrefixOf (b :: l) with
  | true => rw [hp] at h; simp at h; exact .inl ⟨rfl, by omega⟩
  | false =>
    rw [hp] at h
    have hge := Lib.index_ge l sub
    by_cases hm : Lib.index l sub = -1
    · rw [hm] at h; simp at h
    · have : (Lib.index l sub == -1) = false := by rw [beq_eq_false_iff_ne]; exact hm
      rw [this] at h
      simp at h
      exact .inr ⟨rfl, (Lib.index l sub).toNat, by omega, by omega⟩

theorem dbl_replace (s : List UInt8) : Lib.replaceAll s [39] [39, 39] = dbl s := by
  refine replaceAll_eq dbl (by simp) (by decide) ?_ ?_ s
  · intro s
    induction s with
    | nil => intro _; rfl
    | cons x l ih =>
      intro h
      obtain ⟨h1, h2⟩ := index_cons_no h
      have hx : ¬ x = 39 := by rintro rfl; simp [List.isPrefixOf] at h1
      rw [dbl, if_neg hx, ih h2]
  · intro s
    induction s with
    | nil => intro i h; simp [Lib.index] at h
    | cons x l ih =>
      intro i h
      rcases index_cons_at h with ⟨h1, rfl⟩ | ⟨h1, j, rfl, h2⟩
      · have hx : x = 39 := by simp [List.isPrefixOf] at h1; exact h1.symm
        subst hx
        simp [dbl]
      · have hx : ¬ x = 39 := by rintro rfl; simp [List.isPrefixOf] at h1
        rw [dbl, if_neg hx, ih j h2, List.take_succ_cons]
        have : j + 1 + ([39] : List UInt8).length = (j + ([39] : List UInt8).length) + 1 := by simp
        rw [this, List.drop_succ_cons]
        simp
theorem unp_replace (s : List UInt8) : Lib.replaceAll s [39, 39] [39] = unp s := by
  refine replaceAll_eq unp (by simp) (by decide) ?_ ?_ s
  · intro s
    induction s with
    | nil => intro _; rfl
    | cons x l ih =>
      intro h
      obtain ⟨h1, h2⟩ := index_cons_no h
      cases l with
      | nil => rfl
      | cons y l =>
        have hx : ¬ (x = 39 ∧ y = 39) := by rintro ⟨rfl, rfl⟩; simp [List.isPrefixOf] at h1
        rw [unp, if_neg hx, ih h2]
  · intro s
    induction s with
    | nil => intro i h; simp [Lib.index] at h
    | cons x l ih =>
      intro i h
      rcases index_cons_at h with ⟨h1, rfl⟩ | ⟨h1, j, rfl, h2⟩
      · cases l with
        | nil => simp [List.isPrefixOf] at h1
        | cons y l =>
          have hx : x = 39 ∧ y = 39 := by simp [List.isPrefixOf] at h1; exact ⟨h1.1.symm, h1.2.symm⟩
          rw [unp, if_pos hx]
          simp
      · cases l with
        | nil => simp [Lib.index] at h2
        | cons y l =>
          have hx : ¬ (x = 39 ∧ y = 39) := by rintro ⟨rfl, rfl⟩; simp [List.isPrefixOf] at h1
          rw [unp, if_neg hx, ih j h2, List.take_succ_cons]
          have : j + 1 + ([39, 39] : List UInt8).length = (j + ([39, 39] : List UInt8).length) + 1 := by simp
          rw [this, List.drop_succ_cons]
          simp

theorem dbl_length_le (l : List UInt8) : (dbl l).length ≤ 2 * l.length := by
  induction l with
  | nil => simp [dbl]
  | cons x l ih => unfold dbl; split <;> simp <;> omega

/-- Behind the opening apostrophe of a literal: its text, and how many bytes go to its end, this one counted. -/
def litL : List UInt8 → Option (List UInt8 × Nat)
  | [] => none
  | [x] => if x = 39 then some ([], 1) else none
  | x :: y :: l => if x = 39 then (if y = 39 then (litL l).map fun p => (39 :: p.1, p.2 + 2) else some ([], 1)) else (litL (y :: l)).map fun p => (x :: p.1, p.2 + 1)

theorem litL_stop {l : List UInt8} (h : ∀ y, l[0]? = some y → ¬ y = 39) : litL (39 :: l) = some ([], 1) := by
  cases l with
  | nil => simp [litL]
  | cons y l => rw [litL, if_pos rfl, if_neg (h y rfl)]
theorem litL_pair (l : List UInt8) : litL (39 :: 39 :: l) = (litL l).map fun p => (39 :: p.1, p.2 + 2) := by rw [litL, if_pos rfl, if_pos rfl]
theorem litL_byte {x : UInt8} (hx : ¬ x = 39) (l : List UInt8) : litL (x :: l) = (litL l).map fun p => (x :: p.1, p.2 + 1) := by
  cases l with
  | nil => simp [litL, hx]
  | cons y l => rw [litL, if_neg hx]

theorem litL_facts : ∀ (k : Nat) (l : List UInt8), l.length ≤ k → ∀ c n, litL l = some (c, n) → 1 ≤ n ∧ n ≤ l.length ∧ unp (l.take (n - 1)) = c ∧ n = (dbl c).length + 1
  | _, [], _, c, n, h => by simp [litL] at h
  | 0, x :: l, hk, _, _, _ => by simp at hk
  | k + 1, x :: l, hk, c, n, h => by
    by_cases hx : x = 39
    · subst hx
      cases l with
      | nil =>
        rw [litL_stop (by simp)] at h
        cases h
        simp [unp, dbl]
      | cons y l =>
        by_cases hy : y = 39
        · subst hy
          rw [litL_pair] at h
          cases hl : litL l with
          | none => rw [hl] at h; cases h
          | some p =>
            obtain ⟨c1, n1⟩ := p
            rw [hl] at h
            cases h
            obtain ⟨a, b, d, e⟩ := litL_facts k l (by simp at hk; omega) c1 n1 hl
            refine ⟨by omega, by simp; omega, ?_, ?_⟩
            · rw [show n1 + 2 - 1 = (n1 - 1) + 1 + 1 by omega, List.take_succ_cons, List.take_succ_cons, unp, if_pos ⟨rfl, rfl⟩, d]
            · rw [dbl, if_pos rfl]; simp; omega
        · rw [litL_stop (by simp; exact hy)] at h
          cases h
          simp [unp, dbl]
    · rw [litL_byte hx] at h
      cases hl : litL l with
      | none => rw [hl] at h; cases h
      | some p =>
        obtain ⟨c1, n1⟩ := p
        rw [hl] at h
        cases h
        obtain ⟨a, b, d, e⟩ := litL_facts k l (by simp at hk; omega) c1 n1 hl
        refine ⟨by omega, by simp; omega, ?_, ?_⟩
        · rw [show n1 + 1 - 1 = (n1 - 1) + 1 by omega, List.take_succ_cons]
          cases hz : l.take (n1 - 1) with
          | nil => rw [hz] at d; rw [← d]; rfl
          | cons y z => rw [hz] at d; rw [unp, if_neg (fun h => hx h.1), d]
        · rw [dbl, if_neg hx]; simp; omega

/-- A literal that was written is read. -/
theorem litL_dbl (t r : List UInt8) (hr : ∀ y, r[0]? = some y → ¬ y = 39) : litL (dbl t ++ 39 :: r) = some (t, (dbl t).length + 1) := by
  induction t with
  | nil => exact litL_stop hr
  | cons x t ih =>
    unfold dbl
    split
    · rename_i hx
      subst hx
      rw [List.cons_append, List.cons_append, litL_pair, ih]
      rfl
    · rename_i hx
      rw [List.cons_append, litL_byte hx, ih]
      rfl

end Wh
