/-
  isLetter, isDigit, wordSize, commentSize, isSymbol, Reserved, of package token.
-/
import Derived.Test.YtloccocengegnaaDoorTRef
import Derived.Test.YtloccocengegnaaDoorTSymB
import Derived.Lib.IndexLaws
set_option linter.unusedVariables false
set_option maxRecDepth 100000
namespace Wh
open Go Go.Proofs.YtloccocengegnaaDoor

/-- The place of the first line feed, or -1. -/
def nlI (s : ByteArray) : Int := Lib.indexByte s.data.toList 10
/-- The number of bytes before the first line feed. -/
def cmtN (s : ByteArray) : Nat := if nlI s < 0 then s.size else (nlI s).toNat

theorem nl_cases (s : ByteArray) : nlI s = -1 ∨ ∃ i : Nat, nlI s = i ∧ i < s.size := by
  have h := Lib.indexByte_ge s.data.toList 10
  by_cases h1 : nlI s = -1
  · exact .inl h1
  · obtain ⟨i, hi⟩ : ∃ i : Nat, nlI s = i := ⟨(nlI s).toNat, by unfold nlI at *; omega⟩
    refine .inr ⟨i, hi, ?_⟩
    have := (Lib.indexByte_some hi).1
    have := (List.getElem?_eq_some_iff.1 this).1
    rwa [show s.data.toList.length = s.size from Array.length_toList] at this
theorem cmtN_facts (s : ByteArray) : cmtN s ≤ s.size ∧ (∀ j, j < cmtN s → ¬ btN s j = 10) ∧ (cmtN s = s.size ∨ btN s (cmtN s) = 10) := by
  rcases nl_cases s with h | ⟨i, h, hi⟩
  · have e : cmtN s = s.size := by unfold cmtN; rw [if_pos (by omega)]
    rw [e]
    refine ⟨Nat.le_refl _, fun j hj hb => ?_, .inl rfl⟩
    obtain ⟨x, hx⟩ := bts_at hj
    rw [btN_of hx] at hb
    have hx10 : x = 10 := UInt8.toNat_inj.1 hb
    rw [hx10] at hx
    exact Lib.indexByte_none h j hx
  · have e : cmtN s = i := by unfold cmtN; rw [if_neg (by omega), h]; rfl
    rw [e]
    obtain ⟨p1, p2⟩ := Lib.indexByte_some h
    refine ⟨by omega, fun j hj hb => ?_, .inr (by rw [btN_of (x := 10) p1]; rfl)⟩
    obtain ⟨x, hx⟩ := bts_at (s := s) (i := j) (by omega)
    rw [btN_of hx] at hb
    have hx10 : x = 10 := UInt8.toNat_inj.1 hb
    rw [hx10] at hx
    exact p2 j hj hx
theorem skip_through {s : ByteArray} {i n : Nat} (hn : i + n ≤ s.size) (h : ∀ j, j < n → ¬ btN s (i + j) = 10) : skipN s true i = skipN s true (i + n) := by
  induction n with
  | zero => rfl
  | succ n ih =>
    rw [ih (by omega) fun j hj => h j (by omega), skip_in (by omega) (h n (by omega))]
    rfl
/-- A comment is skipped. -/
theorem skip_cmt {s : ByteArray} {i : Nat} (hi : i < s.size) (hb : btN s i = 35) : skipN s false i = skipN s false (i + cmtN (s.extract i s.size)) ∧ 1 ≤ cmtN (s.extract i s.size) ∧ i + cmtN (s.extract i s.size) ≤ s.size := by
  obtain ⟨h1, h2, h3⟩ := cmtN_facts (s.extract i s.size)
  have hs : (s.extract i s.size).size = s.size - i := size_extract (by omega) (Nat.le_refl _)
  rw [hs] at h1 h3
  generalize cmtN (s.extract i s.size) = c at *
  have hx : ∀ j, j < s.size - i → btN (s.extract i s.size) j = btN s (i + j) := fun j hj => btN_extract s i s.size j hj
  have hc : 1 ≤ c := by
    rcases Nat.eq_zero_or_pos c with e | e
    · subst e
      rcases h3 with h3 | h3
      · omega
      · rw [hx 0 (by omega), Nat.add_zero, hb] at h3
        cases h3
    · exact e
  have e1 : skipN s true (i + 1) = skipN s true (i + 1 + (c - 1)) := skip_through (by omega) fun j hj => by
    have := h2 (1 + j) (by omega)
    rw [hx _ (by omega)] at this
    rw [Nat.add_assoc]
    exact this
  rw [show i + 1 + (c - 1) = i + c by omega] at e1
  refine ⟨?_, hc, by omega⟩
  rw [skip_hash hi hb, e1]
  rcases h3 with h3 | h3
  · rw [skip_end true (by omega), skip_end false (by omega)]
  · by_cases he : i + c < s.size
    · rw [hx _ (by omega)] at h3
      exact skip_out he h3
    · rw [skip_end true (by omega), skip_end false (by omega)]

/-- Is it a reserved word? -/
def resL : List ByteArray := [⟨#[97, 110, 100]⟩, ⟨#[111, 114]⟩, ⟨#[110, 111, 116]⟩, ⟨#[110, 117, 108, 108]⟩, ⟨#[116, 114, 117, 101]⟩, ⟨#[102, 97, 108, 115, 101]⟩, ⟨#[98, 121]⟩, ⟨#[115, 101, 108, 102]⟩]
def resB (s : ByteArray) : Bool := resL.any fun x => eqS x s
theorem resB_mem {s : ByteArray} (h : resB s = true) : s ∈ resL := by
  unfold resB at h
  rw [List.any_eq_true] at h
  obtain ⟨x, hx, he⟩ := h
  rw [← eqS_iff.1 he]
  exact hx
theorem resL_all : ∀ s ∈ resL, resB s = true := fun s hs => by
  unfold resB
  rw [List.any_eq_true]
  exact ⟨s, hs, eqS_refl s⟩
theorem ne_lit {s t : ByteArray} {p : ByteArray → Bool} (ht : p t = true) (h : p s = false) : (s.toList == t.toList) = false := by
  cases he : (s.toList == t.toList) with
  | false => rfl
  | true =>
    rw [eqS_iff.1 (show eqS s t = true from he), ht] at h
    cases h

end Wh
namespace Go.Proofs.YtloccocengegnaaDoor
open Go.RowKit Wh

theorem tisLetter_any (c : Nat) (w : World) : Calls Tryd.prog 34 #[.int .u8 c] w fun e w' => e = .returned (.bool (lowB c)) ∧ w = w' := by
  unfold lowB
  go_enter Tryd.func34, Tryd.ntmps34
  by_cases h : 97 ≤ c
  · have h1 : (97 : Int) ≤ (c : Int) := by omega
    by_cases h2 : c ≤ 122
    · have h3 : (c : Int) ≤ 122 := by omega
      go_wp2_with fail
      go_ret
      exact ⟨by simp [h, h2], rfl⟩
    · have h3 : ¬ (c : Int) ≤ 122 := by omega
      go_wp2_with fail
      go_ret
      exact ⟨by simp, rfl⟩
  · have h1 : ¬ (97 : Int) ≤ (c : Int) := by omega
    go_wp2_with fail
    go_ret
    exact ⟨by simp, rfl⟩
theorem tisDigit_any (c : Nat) (w : World) : Calls Tryd.prog 36 #[.int .u8 c] w fun e w' => e = .returned (.bool (numB c)) ∧ w = w' := by
  unfold numB
  go_enter Tryd.func36, Tryd.ntmps36
  by_cases h : 48 ≤ c
  · have h1 : (48 : Int) ≤ (c : Int) := by omega
    by_cases h2 : c ≤ 57
    · have h3 : (c : Int) ≤ 57 := by omega
      go_wp2_with fail
      go_ret
      exact ⟨by simp [h, h2], rfl⟩
    · have h3 : ¬ (c : Int) ≤ 57 := by omega
      go_wp2_with fail
      go_ret
      exact ⟨by simp, rfl⟩
  · have h1 : ¬ (48 : Int) ≤ (c : Int) := by omega
    go_wp2_with fail
    go_ret
    exact ⟨by simp, rfl⟩

set_option maxHeartbeats 1000000 in
theorem wordSize_any (s : ByteArray) (hs : s.size ≤ 9223372036854775800) (w : World) : Calls Tryd.prog 51 #[.string s] w fun e w' => e = .returned (.int .i64 (spanN wordB s)) ∧ w = w' := by
  have FIN := Lib.hid (fun n h1 h2 h3 => spanN_eq (p := wordB) (s := s) (n := n) h1 h2 h3)
  generalize spanN wordB s = E at *
  go_enter Tryd.func51, Tryd.ntmps51
  go_wp2_with fail
  go_loop [7] (fun iv => ∃ k : Nat, k ≤ s.size ∧ iv = .int .i64 k ∧ Hid (∀ j, j < k → wordB (btN s j) = true)) (fun i => s.size - (intOf i).toNat)
  case atStart => exact ⟨0, Nat.zero_le _, rfl, fun j hj => absurd hj (by omega)⟩
  case round =>
    obtain ⟨k, hk, rfl, HI⟩ := hrel
    by_cases hlt : k < s.size
    · have ix := fun W => index_str s k hlt W
      have L := Lib.hid (fun W => tisLetter_any (btN s k) W)
      have D := Lib.hid (fun W => tisDigit_any (btN s k) W)
      have HW : Hid (wordB (btN s k) = (lowB (btN s k) || numB (btN s k) || decide (btN s k = 95))) := rfl
      have STEP := Lib.hid (fun (h : wordB (btN s k) = true) => show ∀ j, j < k + 1 → wordB (btN s j) = true from fun j hj => by
        by_cases e : j = k
        · rw [e]; exact h
        · exact HI.out j (by omega))
      have STOP := Lib.hid (fun (h : wordB (btN s k) = false) => FIN.out k HI.out hk (.inr h))
      have h95 : ((btN s k : Int) != 95) = !decide (btN s k = 95) := by
        by_cases h : btN s k = 95
        · simp [h]
        · rw [decide_eq_false h]; simp; omega
      generalize wordB (btN s k) = wb at *
      generalize lowB (btN s k) = b1 at *
      generalize numB (btN s k) = b2 at *
      generalize decide (btN s k = 95) = b3 at *
      generalize btN s k = c at *
      clear FIN HI
      cases b1 <;> cases b2 <;> cases b3
      case false.false.false =>
        obtain rfl : wb = false := HW.out
        obtain rfl := STOP.out rfl
        clear STEP STOP HW
        go_wp2_with (first | (go_at_call 34; refine (L.out _).mono ?_; rintro e w1 ⟨rfl, rfl⟩) | (go_at_call 36; refine (D.out _).mono ?_; rintro e w1 ⟨rfl, rfl⟩))
        go_ret
        exact ⟨rfl, rfl⟩
      all_goals
        obtain rfl : wb = true := HW.out
        have HI2 := Lib.hid (STEP.out rfl)
        clear STEP STOP HW
        go_wp2_with (first | (go_at_call 34; refine (L.out _).mono ?_; rintro e w1 ⟨rfl, rfl⟩) | (go_at_call 36; refine (D.out _).mono ?_; rintro e w1 ⟨rfl, rfl⟩))
        go_round
        case rel => exact ⟨k + 1, by omega, by go_num, HI2⟩
        case measure => simp [intOf]; omega
    · obtain rfl : k = s.size := by omega
      obtain rfl := FIN.out _ HI.out (Nat.le_refl _) (.inl rfl)
      clear FIN HI
      go_wp2_with fail
      go_ret
      exact ⟨rfl, rfl⟩

theorem indexNl_any (s : ByteArray) (w : World) :
    Calls Tryd.prog 50 #[.string s, .int .u8 10] w fun e w' => e = .returned (.int .i64 (nlI s)) ∧ w = w' := by
  go_enter Tryd.func50, Tryd.ntmps50
  go_wp2
  rw [run_callFunc_extern Tryd.func66 (by kernel_rfl) (by kernel_rfl) (by kernel_rfl) (e := Extern.BytealgIndexByte.indexByte) (by kernel_rfl), Lib.run_indexByteString]
  simp only [Result.andThen]
  rw [Oper.upon_value]
  go_wp2
  go_ret
  exact ⟨rfl, rfl⟩
theorem sIndexNl_any (s : ByteArray) (w : World) :
    Calls Tryd.prog 33 #[.string s, .int .u8 10] w fun e w' => e = .returned (.int .i64 (nlI s)) ∧ w = w' := by
  go_enter Tryd.func33, Tryd.ntmps33
  go_wp2_with (go_at_call 50; refine (indexNl_any _ _).mono ?_; rintro e w1 ⟨rfl, rfl⟩)
  go_ret
  exact ⟨rfl, rfl⟩
theorem commentSize_any (s : ByteArray) (hs : s.size ≤ 9223372036854775800) (w : World) : Calls Tryd.prog 21 #[.string s] w fun e w' => e = .returned (.int .i64 (cmtN s)) ∧ w = w' := by
  have c := fun W => sIndexNl_any s W
  rcases nl_cases s with h | ⟨i, h, hi⟩
  · have e : cmtN s = s.size := by unfold cmtN; rw [if_pos (by omega)]
    rw [e]
    rw [h] at c
    clear h e
    go_enter Tryd.func21, Tryd.ntmps21
    go_wp2_with (go_at_call 33; refine (c _).mono ?_; rintro e w1 ⟨rfl, rfl⟩)
    go_ret
    exact ⟨rfl, rfl⟩
  · have e : cmtN s = i := by unfold cmtN; rw [if_neg (by omega), h]; rfl
    rw [e]
    rw [h] at c
    clear h e
    go_enter Tryd.func21, Tryd.ntmps21
    go_wp2_with (go_at_call 33; refine (c _).mono ?_; rintro e w1 ⟨rfl, rfl⟩)
    go_ret
    exact ⟨rfl, rfl⟩

set_option maxHeartbeats 4000000 in
theorem isSymbol_any (s : ByteArray) (w : World) : Calls Tryd.prog 24 #[.string s] w fun e w' => e = .returned (.bool (symB s)) ∧ w = w' := by
  cases hb : symB s with
  | true =>
    have hm := symB_mem hb
    simp only [symL, List.mem_cons, List.not_mem_nil, or_false] at hm
    clear hb
    rcases hm with rfl | rfl | rfl | rfl | rfl | rfl | rfl | rfl | rfl | rfl | rfl | rfl | rfl | rfl | rfl | rfl | rfl | rfl
    all_goals
      go_enter Tryd.func24, Tryd.ntmps24
      go_wp2_with fail
      go_ret
      exact ⟨rfl, rfl⟩
  | false =>
    have q := fun t (ht : t ∈ symL) => ne_lit (p := symB) (symL_all t ht) hb
    have q0 := q ⟨#[40]⟩ (by simp [symL])
    have q1 := q ⟨#[41]⟩ (by simp [symL])
    have q2 := q ⟨#[44]⟩ (by simp [symL])
    have q3 := q ⟨#[59]⟩ (by simp [symL])
    have q4 := q ⟨#[58]⟩ (by simp [symL])
    have q5 := q ⟨#[124]⟩ (by simp [symL])
    have q6 := q ⟨#[61]⟩ (by simp [symL])
    have q7 := q ⟨#[43]⟩ (by simp [symL])
    have q8 := q ⟨#[43, 43]⟩ (by simp [symL])
    have q9 := q ⟨#[45]⟩ (by simp [symL])
    have q10 := q ⟨#[42]⟩ (by simp [symL])
    have q11 := q ⟨#[47]⟩ (by simp [symL])
    have q12 := q ⟨#[37]⟩ (by simp [symL])
    have q13 := q ⟨#[60]⟩ (by simp [symL])
    have q14 := q ⟨#[60, 61]⟩ (by simp [symL])
    have q15 := q ⟨#[62]⟩ (by simp [symL])
    have q16 := q ⟨#[62, 61]⟩ (by simp [symL])
    have q17 := q ⟨#[33, 61]⟩ (by simp [symL])
    rw [toList_bts (⟨#[40]⟩ : ByteArray)] at q0
    rw [toList_bts (⟨#[41]⟩ : ByteArray)] at q1
    rw [toList_bts (⟨#[44]⟩ : ByteArray)] at q2
    rw [toList_bts (⟨#[59]⟩ : ByteArray)] at q3
    rw [toList_bts (⟨#[58]⟩ : ByteArray)] at q4
    rw [toList_bts (⟨#[124]⟩ : ByteArray)] at q5
    rw [toList_bts (⟨#[61]⟩ : ByteArray)] at q6
    rw [toList_bts (⟨#[43]⟩ : ByteArray)] at q7
    rw [toList_bts (⟨#[43, 43]⟩ : ByteArray)] at q8
    rw [toList_bts (⟨#[45]⟩ : ByteArray)] at q9
    rw [toList_bts (⟨#[42]⟩ : ByteArray)] at q10
    rw [toList_bts (⟨#[47]⟩ : ByteArray)] at q11
    rw [toList_bts (⟨#[37]⟩ : ByteArray)] at q12
    rw [toList_bts (⟨#[60]⟩ : ByteArray)] at q13
    rw [toList_bts (⟨#[60, 61]⟩ : ByteArray)] at q14
    rw [toList_bts (⟨#[62]⟩ : ByteArray)] at q15
    rw [toList_bts (⟨#[62, 61]⟩ : ByteArray)] at q16
    rw [toList_bts (⟨#[33, 61]⟩ : ByteArray)] at q17
    simp only [bts] at q0 q1 q2 q3 q4 q5 q6 q7 q8 q9 q10 q11 q12 q13 q14 q15 q16 q17
    clear q hb
    go_enter Tryd.func24, Tryd.ntmps24
    go_wp2_with fail
    go_ret
    exact ⟨rfl, rfl⟩

end Go.Proofs.YtloccocengegnaaDoor

