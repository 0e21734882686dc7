/-
  Reserved, isToken and Validate, of package token. · The program: Arity, isColumn, isUsable, isMacro, isNode. · The reference's parser: not. · The reference's parser: unary. · The reference's parser: day.
-/
import Derived.Test.YtmdpjahhhfajaaaGreatDoorJC07
import Derived.Test.YtmdpjahhhfajaaaGreatDoorJC09
import Derived.Test.YtmdpjahhhfajaaaGreatDoorJC04
set_option linter.unusedVariables false
set_option maxRecDepth 100000
set_option linter.unusedSimpArgs false
namespace Go.Proofs.YtmdpjahhhfajaaaGreatDoor
open Go.RowKit Wh
set_option maxHeartbeats 4000000 in
theorem tReserved_any (s : ByteArray) (w : World) : Calls Tryz.prog 132 #[.string s] w fun e w' => e = .returned (.bool (resB s)) ∧ w = w' := by
 cases hb : resB s with
 | true =>
  have hm := resB_mem hb
  simp only [resL, List.mem_cons, List.not_mem_nil, or_false] at hm
  clear hb
  rcases hm with rfl | rfl | rfl | rfl | rfl | rfl | rfl | rfl
  all_goals
   go_enter Tryz.func132, Tryz.ntmps132
   go_wp2_with fail
   go_ret
   exact ⟨rfl, rfl⟩
 | false =>
  have q := fun t (ht : t ∈ resL) => ne_lit (p := resB) (resL_all t ht) hb
  have q0 := q ⟨#[97, 110, 100]⟩ (by simp [resL])
  rw [toList_bts (⟨#[97, 110, 100]⟩ : ByteArray)] at q0
  have q1 := q ⟨#[111, 114]⟩ (by simp [resL])
  rw [toList_bts (⟨#[111, 114]⟩ : ByteArray)] at q1
  have q2 := q ⟨#[110, 111, 116]⟩ (by simp [resL])
  rw [toList_bts (⟨#[110, 111, 116]⟩ : ByteArray)] at q2
  have q3 := q ⟨#[110, 117, 108, 108]⟩ (by simp [resL])
  rw [toList_bts (⟨#[110, 117, 108, 108]⟩ : ByteArray)] at q3
  have q4 := q ⟨#[116, 114, 117, 101]⟩ (by simp [resL])
  rw [toList_bts (⟨#[116, 114, 117, 101]⟩ : ByteArray)] at q4
  have q5 := q ⟨#[102, 97, 108, 115, 101]⟩ (by simp [resL])
  rw [toList_bts (⟨#[102, 97, 108, 115, 101]⟩ : ByteArray)] at q5
  have q6 := q ⟨#[98, 121]⟩ (by simp [resL])
  rw [toList_bts (⟨#[98, 121]⟩ : ByteArray)] at q6
  have q7 := q ⟨#[115, 101, 108, 102]⟩ (by simp [resL])
  rw [toList_bts (⟨#[115, 101, 108, 102]⟩ : ByteArray)] at q7
  simp only [bts] at q0 q1 q2 q3 q4 q5 q6 q7
  clear q hb
  go_enter Tryz.func132, Tryz.ntmps132
  go_wp2_with fail
  go_ret
  exact ⟨rfl, rfl⟩
theorem ne_empty {s : ByteArray} (h : ¬ s.size = 0) : (s.toList == ([] : List UInt8)) = false ∧ s.toList.isEmpty = false := by
 constructor
 ·rw [toList_bts, beq_eq_false_iff_ne]
  intro h1
  exact h (by rw [← bts_length, h1]; rfl)
 ·rw [toList_bts]
  cases h1 : bts s with
  | nil => exact absurd (by rw [← bts_length, h1]; rfl) h
  | cons => rfl
set_option maxHeartbeats 8000000 in
theorem isToken_any (t : Tk) (at_ : Int) (w : World) (hs : t.tx.size ≤ 9223372036854775800) : Calls Tryz.prog 50 #[tokV (t, at_)] w fun e w' => e = .returned (.bool (isT t)) ∧ Below w.heap.size w w' := by
 obtain ⟨k, s, n⟩ := t
 simp only at hs
 have Q := Lib.hid (fun W => isQualified_any s hs W)
 have S := Lib.hid (fun W => isSymbol_any s W)
 have hbel0 : Below w.heap.size w (w.alloc (.cells #[.int .i64 k, .string s, .int .i64 n, .int .i64 at_] 71)) := (Below.refl _ _).alloc (Nat.le_refl _) _
 unfold isT okT empB
 simp only [tokV]
 by_cases k0 : k = 0
 ·subst k0
  rw [if_pos rfl]
  by_cases h1 : s.size = 0
  ·obtain rfl := empty_of_size h1
   clear h1 hbel0 Q S hs
   by_cases h2 : n = 0
   ·subst h2
    go_enter Tryz.func50, Tryz.ntmps50
    go_wp2_with fail
    go_ret
    exact ⟨rfl, (Below.refl _ _).alloc (Nat.le_refl _) _⟩
   ·rw [decide_eq_false h2]
    have h3 : (n == 0) = false := by simpa using h2
    go_enter Tryz.func50, Tryz.ntmps50
    go_wp2_with fail
    go_ret
    exact ⟨rfl, (Below.refl _ _).alloc (Nat.le_refl _) _⟩
  ·obtain ⟨e1, e2⟩ := ne_empty h1
   rw [decide_eq_false h1]
   clear h1 hbel0 Q S hs
   go_enter Tryz.func50, Tryz.ntmps50
   go_wp2_with fail
   go_ret
   exact ⟨rfl, (Below.refl _ _).alloc (Nat.le_refl _) _⟩
 rw [if_neg k0]
 by_cases k1 : k = 1
 ·subst k1
  rw [if_pos rfl]
  clear k0
  cases hq : qualB s with
  | true =>
   rw [hq] at Q
   clear hq S
   by_cases h2 : n = 0
   ·subst h2
    go_enter Tryz.func50, Tryz.ntmps50
    go_wp2_with (first | (go_at_call 86; refine (Q.out _).mono ?_; rintro e w1 ⟨rfl, hb⟩; obtain ⟨hc, hf⟩ := bcell hb; have hsz1 : w.heap.size < w1.heap.size := (by have := hb.size; simp at this; omega)))
    go_ret
    exact ⟨rfl, hbel0.trans (hb.mono (by simp))⟩
   ·rw [decide_eq_false h2]
    have h3 : (n == 0) = false := by simpa using h2
    go_enter Tryz.func50, Tryz.ntmps50
    go_wp2_with (first | (go_at_call 86; refine (Q.out _).mono ?_; rintro e w1 ⟨rfl, hb⟩; obtain ⟨hc, hf⟩ := bcell hb; have hsz1 : w.heap.size < w1.heap.size := (by have := hb.size; simp at this; omega)))
    go_ret
    exact ⟨rfl, hbel0.trans (hb.mono (by simp))⟩
  | false =>
   rw [hq] at Q
   clear hq S
   go_enter Tryz.func50, Tryz.ntmps50
   go_wp2_with (first | (go_at_call 86; refine (Q.out _).mono ?_; rintro e w1 ⟨rfl, hb⟩; obtain ⟨hc, hf⟩ := bcell hb; have hsz1 : w.heap.size < w1.heap.size := (by have := hb.size; simp at this; omega)))
   go_ret
   exact ⟨rfl, hbel0.trans (hb.mono (by simp))⟩
 rw [if_neg k1]
 by_cases k2 : k = 2
 ·subst k2
  rw [if_pos rfl]
  clear k0 k1
  by_cases h1 : s.size = 0
  ·obtain rfl := empty_of_size h1
   clear h1 hbel0 Q S hs
   by_cases h2 : 0 ≤ n
   ·by_cases h3 : n ≤ 1073741824
    ·rw [decide_eq_true h2, decide_eq_true h3]
     go_enter Tryz.func50, Tryz.ntmps50
     go_wp2_with fail
     go_ret
     exact ⟨rfl, (Below.refl _ _).alloc (Nat.le_refl _) _⟩
    ·rw [decide_eq_true h2, decide_eq_false h3]
     go_enter Tryz.func50, Tryz.ntmps50
     go_wp2_with fail
     go_ret
     exact ⟨rfl, (Below.refl _ _).alloc (Nat.le_refl _) _⟩
   ·rw [decide_eq_false h2]
    go_enter Tryz.func50, Tryz.ntmps50
    go_wp2_with fail
    go_ret
    exact ⟨rfl, (Below.refl _ _).alloc (Nat.le_refl _) _⟩
  ·obtain ⟨e1, e2⟩ := ne_empty h1
   rw [decide_eq_false h1]
   clear h1 hbel0 Q S hs
   go_enter Tryz.func50, Tryz.ntmps50
   go_wp2_with fail
   go_ret
   exact ⟨rfl, (Below.refl _ _).alloc (Nat.le_refl _) _⟩
 rw [if_neg k2]
 by_cases k3 : k = 3
 ·subst k3
  rw [if_pos rfl]
  clear k0 k1 k2 Q S
  by_cases h1 : s.size ≤ 64
  ·have h1i : (s.size : Int) ≤ 64 := by omega
   rw [decide_eq_true h1]
   clear hbel0
   by_cases h2 : n = 0
   ·subst h2
    go_enter Tryz.func50, Tryz.ntmps50
    go_wp2_with fail
    go_ret
    exact ⟨rfl, (Below.refl _ _).alloc (Nat.le_refl _) _⟩
   ·rw [decide_eq_false h2]
    have h3 : (n == 0) = false := by simpa using h2
    go_enter Tryz.func50, Tryz.ntmps50
    go_wp2_with fail
    go_ret
    exact ⟨rfl, (Below.refl _ _).alloc (Nat.le_refl _) _⟩
  ·have h1i : ¬ (s.size : Int) ≤ 64 := by omega
   rw [decide_eq_false h1]
   clear hbel0
   go_enter Tryz.func50, Tryz.ntmps50
   go_wp2_with fail
   go_ret
   exact ⟨rfl, (Below.refl _ _).alloc (Nat.le_refl _) _⟩
 rw [if_neg k3]
 by_cases k4 : k = 4
 ·subst k4
  rw [if_pos rfl]
  clear k0 k1 k2 k3
  by_cases h1 : s.size = 0
  ·obtain rfl := empty_of_size h1
   clear h1 hbel0 Q S hs
   by_cases h2 : 0 ≤ n
   ·by_cases h3 : n ≤ 575999999
    ·rw [decide_eq_true h2, decide_eq_true h3]
     go_enter Tryz.func50, Tryz.ntmps50
     go_wp2_with fail
     go_ret
     exact ⟨rfl, (Below.refl _ _).alloc (Nat.le_refl _) _⟩
    ·rw [decide_eq_true h2, decide_eq_false h3]
     go_enter Tryz.func50, Tryz.ntmps50
     go_wp2_with fail
     go_ret
     exact ⟨rfl, (Below.refl _ _).alloc (Nat.le_refl _) _⟩
   ·rw [decide_eq_false h2]
    go_enter Tryz.func50, Tryz.ntmps50
    go_wp2_with fail
    go_ret
    exact ⟨rfl, (Below.refl _ _).alloc (Nat.le_refl _) _⟩
  ·obtain ⟨e1, e2⟩ := ne_empty h1
   rw [decide_eq_false h1]
   clear h1 hbel0 Q S hs
   go_enter Tryz.func50, Tryz.ntmps50
   go_wp2_with fail
   go_ret
   exact ⟨rfl, (Below.refl _ _).alloc (Nat.le_refl _) _⟩
 rw [if_neg k4]
 by_cases k5 : k = 5
 ·subst k5
  rw [if_pos rfl]
  clear k0 k1 k2 k3 k4
  cases hq : symB s with
  | true =>
   rw [hq] at S
   clear hq Q hbel0
   by_cases h2 : n = 0
   ·subst h2
    go_enter Tryz.func50, Tryz.ntmps50
    go_wp2_with (first | (go_at_call 87; refine (S.out _).mono ?_; rintro e w1 ⟨rfl, rfl⟩))
    go_ret
    exact ⟨rfl, (Below.refl _ _).alloc (Nat.le_refl _) _⟩
   ·rw [decide_eq_false h2]
    have h3 : (n == 0) = false := by simpa using h2
    go_enter Tryz.func50, Tryz.ntmps50
    go_wp2_with (first | (go_at_call 87; refine (S.out _).mono ?_; rintro e w1 ⟨rfl, rfl⟩))
    go_ret
    exact ⟨rfl, (Below.refl _ _).alloc (Nat.le_refl _) _⟩
  | false =>
   rw [hq] at S
   clear hq Q hbel0
   go_enter Tryz.func50, Tryz.ntmps50
   go_wp2_with (first | (go_at_call 87; refine (S.out _).mono ?_; rintro e w1 ⟨rfl, rfl⟩))
   go_ret
   exact ⟨rfl, (Below.refl _ _).alloc (Nat.le_refl _) _⟩
 rw [if_neg k5]
 have e0 : (k == 0) = false := by simpa using k0
 have e1 : (k == 1) = false := by simpa using k1
 have e2 : (k == 2) = false := by simpa using k2
 have e3 : (k == 3) = false := by simpa using k3
 have e4 : (k == 4) = false := by simpa using k4
 have e5 : (k == 5) = false := by simpa using k5
 clear k0 k1 k2 k3 k4 k5 Q S hbel0 hs
 go_enter Tryz.func50, Tryz.ntmps50
 go_wp2_with fail
 go_ret
 exact ⟨rfl, (Below.refl _ _).alloc (Nat.le_refl _) _⟩
set_option maxHeartbeats 4000000 in
theorem validate_any7 (a : Option Addr) (len cap : Nat) (ts : List TA) (w : World) (hs : IsToks w a len ts) (hl : len ≤ 1000000000000) (hz : ∀ t ∈ ts, t.1.tx.size ≤ 9223372036854775800) :
  Calls Tryz.prog 28 #[.slice a len cap] w fun e w' => e = .returned (.int .i64 (valE ts)) ∧ Below w.heap.size w w' := by
 have hln := hs.1
 have HS := Lib.hid hs
 have HZ := Lib.hid hz
 clear hs hz
 by_cases h0 : len = 0
 ·subst h0
  obtain rfl := List.eq_nil_of_length_eq_zero hln
  rw [valE_nil]
  go_enter Tryz.func28, Tryz.ntmps28
  go_wp2_with fail
  go_ret
  exact ⟨rfl, Below.refl _ _⟩
 ·have h0i : ((len : Int) == 0) = false := by simp; omega
  have NO := Lib.hid (fun i hi h => valE_no (ts := ts) (i := i) hi h)
  have YES := Lib.hid (fun h => valE_yes (ts := ts) (by omega) h)
  obtain ⟨E, hE⟩ : ∃ E, valE ts = E := ⟨_, rfl⟩
  rw [hE] at NO YES ⊢
  have HL := Lib.hid hln
  clear hE hln
  go_enter Tryz.func28, Tryz.ntmps28
  go_wp2_with fail
  go_loopw [14] (fun iv wr => ∃ k : Nat, k ≤ len ∧ iv = .int .i64 k ∧ Hid (∀ i, i < k → okAtT ts i = true) ∧ Below w.heap.size w wr) (fun iv _ => len - (intOf iv).toNat)
  case atStart => exact ⟨0, Nat.zero_le _, rfl, fun i hi => absurd hi (by omega), Below.refl _ _⟩
  case round =>
   obtain ⟨k, hk, rfl, HI, hbel⟩ := hrel
   have hsz := hbel.size
   by_cases hlt : k < len
   ·obtain ⟨kd, tx, nm, p, b, off, hx, rfl, hblt, c0, c1, c2, c3⟩ := (HS.out.below hbel (Nat.le_refl _)).at hlt
    have hx9 := HZ.out _ (List.mem_of_getElem? hx)
    have IT := Lib.hid (fun W => isToken_any ⟨kd, tx, nm⟩ p W hx9)
    have HOK := Lib.hid (okAt_some hx)
    rw [HL.out] at HOK
    simp only [tokV] at IT
    simp only at HOK
    have NO2 := Lib.hid (NO.out k (by rw [HL.out]; exact hlt))
    have HI2 : Hid (okAtT ts k = true → ∀ i, i < k + 1 → okAtT ts i = true) := fun h i hi => by
     by_cases e : i = k
     ·rw [e]; exact h
     ·exact HI.out i (by omega)
    have ek : (kd == 0) = decide (kd = 0) := rfl
    have el : ((k : Int) == (len : Int) - 1) = decide (k + 1 = len) := by
     by_cases h : k + 1 = len
     ·rw [decide_eq_true h]; simp; omega
     ·rw [decide_eq_false h]; simp; omega
    generalize okAtT ts k = ok at *
    generalize isT ⟨kd, tx, nm⟩ = it at *
    generalize decide (kd = 0) = b1 at *
    generalize decide (k + 1 = len) = b2 at *
    clear NO HI hx hx9
    cases b1 <;> cases b2 <;> cases it
    case false.false.true =>
     obtain rfl : ok = true := HOK.out
     have HI3 := Lib.hid (HI2.out rfl)
     clear HI2 HOK NO2 YES
     go_wp2_with (go_at_call 50; refine (IT.out _).mono ?_; rintro e w1 ⟨rfl, hb⟩)
     go_roundw
     case rel => exact ⟨k + 1, by omega, by go_num, HI3, (hbel.alloc (by omega) _).trans (hb.mono (by simp; omega))⟩
     case measure => simp [intOf]; omega
    case true.true.true =>
     obtain rfl : ok = true := HOK.out
     have HI3 := Lib.hid (HI2.out rfl)
     clear HI2 HOK NO2 YES
     go_wp2_with (go_at_call 50; refine (IT.out _).mono ?_; rintro e w1 ⟨rfl, hb⟩)
     go_roundw
     case rel => exact ⟨k + 1, by omega, by go_num, HI3, (hbel.alloc (by omega) _).trans (hb.mono (by simp; omega))⟩
     case measure => simp [intOf]; omega
    all_goals
     obtain rfl : ok = false := HOK.out
     obtain rfl := NO2.out rfl
     clear HI2 HOK NO2 YES
     go_wp2_with (go_at_call 50; refine (IT.out _).mono ?_; rintro e w1 ⟨rfl, hb⟩)
     go_ret
     first | exact ⟨rfl, (hbel.alloc (by omega) _).trans (hb.mono (by simp; omega))⟩ | exact ⟨rfl, hbel.alloc (by omega) _⟩
   ·obtain rfl := YES.out fun i hi => HI.out i (by have := HL.out; omega)
    clear NO YES HI
    go_wp2_with fail
    go_ret
    exact ⟨rfl, hbel⟩
end Go.Proofs.YtmdpjahhhfajaaaGreatDoor
namespace Wh
open Go Go.Proofs.YtmdpjahhhfajaaaGreatDoor
theorem bltO_isSome (s : ByteArray) : (bltO s).isSome = bltB s := by
 unfold bltO bltB hasB bltL
 rw [Bool.eq_iff_iff, List.find?_isSome, List.any_eq_true]
 simp [bltP]
end Wh
namespace Go.Proofs.YtmdpjahhhfajaaaGreatDoor
open Go.RowKit Wh
set_option maxHeartbeats 1000000 in
theorem parity_any (t : Nd) (w : World) : Calls Tryz.prog 35 #[ndV t] w fun e w' => e = .returned (.int .i64 (arN t)) ∧ Below w.heap.size w w' := by
 obtain ⟨op, ⟨k, n, s⟩, nm, ar⟩ := t
 unfold ndV
 simp only
 go_enter Tryz.func35, Tryz.ntmps35
 go_wp2
 all_goals
  go_ret
  refine ⟨ret_int ?_, (Below.refl _ _).alloc (Nat.le_refl _) _⟩
  unfold arN
  simp only
  simp_all
  try omega
set_option maxHeartbeats 1000000 in
theorem pcol_any (s : ByteArray) (w : World) (hs : s.size ≤ 9223372036854775800) : Calls Tryz.prog 95 #[.string s] w fun e w' => e = .returned (.bool (colB s)) ∧ Below w.heap.size w w' := by
 unfold colB
 have C1 := Lib.hid (isName_any s w)
 have C2 := Lib.hid (fun W => tReserved_any s W)
 generalize nameB s = b1 at *
 generalize resB s = b2 at *
 cases b1
 ·go_enter Tryz.func95, Tryz.ntmps95
  go_wp2_with fail
  refine C1.out.mono ?_
  rintro e w1 ⟨rfl, hb⟩
  have HB := Lib.hid hb
  clear hb
  go_wp2_with fail
  go_ret
  exact ⟨rfl, HB.out⟩
 ·go_enter Tryz.func95, Tryz.ntmps95
  go_wp2_with fail
  refine C1.out.mono ?_
  rintro e w1 ⟨rfl, hb⟩
  have HB := Lib.hid hb
  clear hb
  go_wp2_with fail
  refine (C2.out _).mono ?_
  rintro e w1 ⟨rfl, rfl⟩
  go_wp2_with fail
  go_ret
  exact ⟨rfl, HB.out⟩
set_option maxHeartbeats 1000000 in
theorem pref_any (s : ByteArray) (w : World) (hs : s.size ≤ 9223372036854775800) : Calls Tryz.prog 96 #[.string s] w fun e w' => e = .returned (.bool (refB s)) ∧ Below w.heap.size w w' := by
 unfold refB
 have C1 := Lib.hid (isQualified_any s hs w)
 have C2 := Lib.hid (fun W => tReserved_any s W)
 generalize qualB s = b1 at *
 generalize resB s = b2 at *
 cases b1
 ·go_enter Tryz.func96, Tryz.ntmps96
  go_wp2_with fail
  refine C1.out.mono ?_
  rintro e w1 ⟨rfl, hb⟩
  have HB := Lib.hid hb
  clear hb
  go_wp2_with fail
  go_ret
  exact ⟨rfl, HB.out⟩
 ·go_enter Tryz.func96, Tryz.ntmps96
  go_wp2_with fail
  refine C1.out.mono ?_
  rintro e w1 ⟨rfl, hb⟩
  have HB := Lib.hid hb
  clear hb
  go_wp2_with fail
  refine (C2.out _).mono ?_
  rintro e w1 ⟨rfl, rfl⟩
  go_wp2_with fail
  go_ret
  exact ⟨rfl, HB.out⟩
set_option maxHeartbeats 1000000 in
theorem pmacro_any (s : ByteArray) (w : World) (hs : s.size ≤ 9223372036854775800) (hT : TabB w) : Calls Tryz.prog 97 #[.string s] w fun e w' => e = .returned (.bool (refB s && !bltB s)) ∧ Below w.heap.size w w' := by
 have C1 := Lib.hid (builtinOp_any s w hT)
 rw [bltO_isSome] at C1
 have C2 := Lib.hid (fun W => pref_any s W hs)
 generalize refB s = b1 at *
 generalize bltB s = b2 at *
 generalize ((bltO s).map (·.2) |>.getD 0) = z at *
 cases b1
 all_goals
  go_enter Tryz.func97, Tryz.ntmps97
  go_wp2_with fail
  refine C1.out.mono ?_
  rintro e w1 ⟨rfl, hb⟩
  have HB := Lib.hid hb
  clear hb
  go_wp2_with fail
  refine (C2.out _).mono ?_
  rintro e w2 ⟨rfl, hb⟩
  have HB2 := Lib.hid (HB.out.trans (hb.mono HB.out.size))
  clear hb
  go_wp2_with fail
  go_ret
  exact ⟨rfl, HB2.out⟩
set_option maxHeartbeats 8000000 in
theorem pnode_any (t : Nd) (w : World) (hs : t.nm.size ≤ 9223372036854775800) (hT : TabB w) : Calls Tryz.prog 54 #[ndV t] w fun e w' => e = .returned (.bool (nodB t)) ∧ Below w.heap.size w w' := by
 obtain ⟨op, ⟨k, n, s⟩, nm, ar⟩ := t
 have hb0 : Below w.heap.size w (w.alloc (.cells #[.int .i64 op, .int .i64 k, .int .i64 n, .string s, .string nm, .int .i64 ar] 53)) := (Below.refl _ _).alloc (Nat.le_refl _) _
 have AR := Lib.hid (fun W => parity_any ⟨op, ⟨k, n, s⟩, nm, ar⟩ W)
 have HT := Lib.hid (hT.below hb0 (Nat.le_refl _))
 have HB0 := Lib.hid hb0
 have HZ := Lib.hid hs
 clear hb0 hT hs
 unfold ndV at AR ⊢
 simp only at AR HZ ⊢
 have hE : (⟨#[]⟩ : ByteArray).toList = [] := by decide +kernel
 obtain ⟨en, hen⟩ : ∃ q, empB nm = q := ⟨_, rfl⟩
 have hen2 : (nm.toList == []) = en := by rw [← hen, emp_list]; by_cases h : nm.toList = [] <;> simp [h]
 by_cases h0 : op = 0
 ·subst h0
  have CV := Lib.hid (fun W => valid_any k n s W)
  unfold agg at CV
  have hR : nodB ⟨0, ⟨k, n, s⟩, nm, ar⟩ = (validB k n s && (en && decide (ar = 0))) := by unfold nodB; rw [if_pos rfl, hen]
  rw [hR]
  generalize validB k n s = vb at *
  clear hR AR hen HT
  have hcase : en = false ∨ (en = true ∧ (ar == 0) = false) ∨ (en = true ∧ (ar == 0) = true) := by
   cases en
   ·exact .inl rfl
   ·by_cases h : ar = 0
    ·exact .inr (.inr ⟨rfl, by simpa using h⟩)
    ·exact .inr (.inl ⟨rfl, by simpa using h⟩)
  rcases hcase with rfl | ⟨rfl, ha⟩ | ⟨rfl, ha⟩
  ·go_enter Tryz.func54, Tryz.ntmps54
   go_wp2_with fail
   go_ret
   exact ⟨ret_bool (by simp), HB0.out⟩
  ·have ha2 : ¬ ar = 0 := by simpa using ha
   go_enter Tryz.func54, Tryz.ntmps54
   go_wp2_with fail
   go_ret
   exact ⟨ret_bool (by simp [ha2]), HB0.out⟩
  ·have ha2 : ar = 0 := by simpa using ha
   rw [decide_eq_true ha2]
   clear ha2
   go_enter Tryz.func54, Tryz.ntmps54
   go_wp2_with fail
   refine (CV.out _).mono ?_
   rintro e w1 ⟨rfl, hb⟩
   have HB := Lib.hid (below_box hb)
   clear hb CV
   go_wp2_with fail
   go_ret
   exact ⟨ret_bool (by simp), HB.out⟩
 have hzc : zeroV ⟨k, n, s⟩ = true ∨ (zeroV ⟨k, n, s⟩ = false ∧ ((k == 0) = false ∨ ((k == 0) = true ∧ (n == 0) = false) ∨ ((k == 0) = true ∧ (n == 0) = true ∧ (s.toList == []) = false))) := by
  by_cases h1 : k = 0
  ·by_cases h2 : n = 0
   ·by_cases h3 : s.toList = []
    ·left; unfold zeroV; simp [h1, h2, emp_list, h3]
    ·right; exact ⟨by unfold zeroV; simp [emp_list, h3], .inr (.inr ⟨by simpa using h1, by simpa using h2, by simpa using h3⟩)⟩
   ·right; exact ⟨by unfold zeroV; simp [h2], .inr (.inl ⟨by simpa using h1, by simpa using h2⟩)⟩
  ·right; exact ⟨by unfold zeroV; simp [h1], .inl (by simpa using h1)⟩
 have hopb : ¬ op = 0 := h0
 rcases hzc with hz | ⟨hz, hzf⟩
 rotate_left
 ·have hR : nodB ⟨op, ⟨k, n, s⟩, nm, ar⟩ = false := by
   unfold nodB
   simp only [h0, if_false, hz, Bool.false_and, Bool.and_false, ite_self]
  rw [hR]
  clear hR hen AR HT hz
  by_cases h1 : op = 1
  ·subst h1
   rcases hzf with hk | ⟨hk, hn⟩ | ⟨hk, hn, hss⟩
   all_goals
    go_enter Tryz.func54, Tryz.ntmps54
    go_wp2_with fail
    go_ret
    exact ⟨rfl, HB0.out⟩
  by_cases h20 : op = 20
  ·subst h20
   rcases hzf with hk | ⟨hk, hn⟩ | ⟨hk, hn, hss⟩
   all_goals
    go_enter Tryz.func54, Tryz.ntmps54
    go_wp2_with fail
    go_ret
    exact ⟨rfl, HB0.out⟩
  by_cases h21 : op = 21
  ·subst h21
   rcases hzf with hk | ⟨hk, hn⟩ | ⟨hk, hn, hss⟩
   all_goals
    go_enter Tryz.func54, Tryz.ntmps54
    go_wp2_with fail
    go_ret
    exact ⟨rfl, HB0.out⟩
  ·rcases hzf with hk | ⟨hk, hn⟩ | ⟨hk, hn, hss⟩
   all_goals
    go_enter Tryz.func54, Tryz.ntmps54
    go_wp2_with fail
    go_ret
    exact ⟨rfl, HB0.out⟩
 obtain ⟨rfl, rfl, rfl⟩ : k = 0 ∧ n = 0 ∧ s = ⟨#[]⟩ := by
  unfold zeroV at hz
  simp only [Bool.and_eq_true, decide_eq_true_eq] at hz
  exact ⟨hz.1, hz.2.1, empty_of_size (by have := hz.2.2; unfold empB at this; exact of_decide_eq_true this)⟩
 by_cases h1 : op = 1
 ·subst h1
  have C := Lib.hid (fun W => pcol_any nm W HZ.out)
  have hR : nodB ⟨1, ⟨0, 0, ⟨#[]⟩⟩, nm, ar⟩ = (decide (ar = 0) && colB nm) := by unfold nodB; rw [if_neg (by simp), if_pos rfl, hz, Bool.true_and]
  rw [hR]
  generalize colB nm = cb at *
  clear hR AR HT hz hen hen2
  by_cases ha : ar = 0
  ·subst ha
   go_enter Tryz.func54, Tryz.ntmps54
   go_wp2_with fail
   refine (C.out _).mono ?_
   rintro e w1 ⟨rfl, hb⟩
   have HB := Lib.hid (below_box hb)
   clear hb C
   go_wp2_with fail
   go_ret
   exact ⟨ret_bool (by simp), HB.out⟩
  ·have hab : (ar == 0) = false := by simpa using ha
   go_enter Tryz.func54, Tryz.ntmps54
   go_wp2_with fail
   go_ret
   exact ⟨ret_bool (by simp [ha]), HB0.out⟩
 by_cases h20 : op = 20
 ·subst h20
  have C := Lib.hid (fun W => pref_any nm W HZ.out)
  have hR : nodB ⟨20, ⟨0, 0, ⟨#[]⟩⟩, nm, ar⟩ = (decide (ar = 0) && refB nm) := by unfold nodB; rw [if_neg (by simp), if_neg (by simp), if_pos rfl, hz, Bool.true_and]
  rw [hR]
  generalize refB nm = cb at *
  clear hR AR HT hz hen hen2
  by_cases ha : ar = 0
  ·subst ha
   go_enter Tryz.func54, Tryz.ntmps54
   go_wp2_with fail
   refine (C.out _).mono ?_
   rintro e w1 ⟨rfl, hb⟩
   have HB := Lib.hid (below_box hb)
   clear hb C
   go_wp2_with fail
   go_ret
   exact ⟨ret_bool (by simp), HB.out⟩
  ·have hab : (ar == 0) = false := by simpa using ha
   go_enter Tryz.func54, Tryz.ntmps54
   go_wp2_with fail
   go_ret
   exact ⟨ret_bool (by simp [ha]), HB0.out⟩
 by_cases h21 : op = 21
 ·subst h21
  have C := Lib.hid (pmacro_any nm _ HZ.out HT.out)
  have hR : nodB ⟨21, ⟨0, 0, ⟨#[]⟩⟩, nm, ar⟩ = (decide (0 ≤ ar) && (decide (ar ≤ 8) && (refB nm && !bltB nm))) := by unfold nodB; rw [if_neg (by simp), if_neg (by simp), if_neg (by simp), if_pos rfl, hz, Bool.true_and]
  rw [hR]
  generalize (refB nm && !bltB nm) = cb at *
  clear hR AR HT hz hen hen2
  go_enter Tryz.func54, Tryz.ntmps54
  go_wp2_with fail
  refine C.out.mono ?_
  rintro e w1 ⟨rfl, hb⟩
  obtain ⟨b0, b1, b2, b3, b4, b5⟩ := box6 hb
  have HB := Lib.hid (below_box hb)
  clear hb C
  cases cb
  ·go_wp2_with fail
   go_ret
   exact ⟨ret_bool (by simp), HB.out⟩
  ·go_wp2_with fail
   all_goals
    go_ret
    refine ⟨ret_bool ?_, HB.out⟩
    simp_all
    try omega
 ·have hR : nodB ⟨op, ⟨0, 0, ⟨#[]⟩⟩, nm, ar⟩ = (decide (0 ≤ arN ⟨op, ⟨0, 0, ⟨#[]⟩⟩, nm, ar⟩) && (en && decide (ar = 0))) := by unfold nodB; rw [if_neg h0, if_neg h1, if_neg h20, if_neg h21, hz, Bool.true_and, hen]
  rw [hR]
  generalize arN ⟨op, ⟨0, 0, ⟨#[]⟩⟩, nm, ar⟩ = z at *
  clear hR HT hz hen
  cases en
  ·go_enter Tryz.func54, Tryz.ntmps54
   go_wp2_with fail
   go_ret
   exact ⟨ret_bool (by simp), HB0.out⟩
  ·by_cases ha : ar = 0
   ·subst ha
    go_enter Tryz.func54, Tryz.ntmps54
    go_wp2_with fail
    refine (AR.out _).mono ?_
    rintro e w1 ⟨rfl, hb⟩
    have HB := Lib.hid (below_box hb)
    clear hb AR
    go_wp2_with fail
    go_ret
    exact ⟨ret_bool (by simp), HB.out⟩
   ·have hab : (ar == 0) = false := by simpa using ha
    go_enter Tryz.func54, Tryz.ntmps54
    go_wp2_with fail
    go_ret
    exact ⟨ret_bool (by simp [ha]), HB0.out⟩
end Go.Proofs.YtmdpjahhhfajaaaGreatDoor
namespace Go.Proofs.YtmdpjahhhfajaaaGreatDoor
open Go.RowKit Wh
theorem RdP.from {w w1 w' : World} {b : Nat} {sl : Value} {len i d : Nat} {P : PO} {e : Ending} (hg : w.grownBy w1 (some b)) (h : RdP w1 b sl len i d P e w') : RdP w b sl len i d P e w' := by
 obtain ⟨v, l, j, dd, x, rfl, hown, hb, hP, hg1, hc⟩ := h
 exact ⟨v, l, j, dd, x, rfl, own_mono hown hg.size, hb, hP, hg.trans hg1, hc⟩
theorem RdP.ret {w w' : World} {b : Nat} {sl : Value} {len i d : Nat} {P : PO} {e : Ending} (h : RdP w b sl len i d P e w') : ∃ v, e = .returned v := by
 obtain ⟨v, l, j, dd, x, rfl, _⟩ := h
 exact ⟨v, rfl⟩
theorem RdP.nil {w w' : World} {b : Nat} {sl : Value} {len i d j dd : Nat} {P : PO} {x : Int} (hP : Pr w' b sl j dd x) (hx : ¬ x = 0) (hR : P = .bad x j) (hj : j < len) (hd : d ≤ dd) (hdd : dd ≤ 300) (hg : w.grownBy w' (some b)) : RdP w b sl len i d P (.returned (.slice none 0 0)) w' :=
 ⟨_, [], j, dd, x, rfl, World.ownsRow_nil _ _ _ _, ⟨Nat.zero_le _, hj, hdd⟩, hP, hg, .inr ⟨hx, hR, hd⟩⟩
theorem RdP.push {w w5 : World} {b : Nat} {sl : Value} {len i i1 d j dd : Nat} {f lvl : Nat} {ts : List TA} {x : Int} {l : List Nd} {t : Nd} {v5 : Value} {P : PO}
  (hb : l.length ≤ len - i1 ∧ j < len ∧ dd ≤ 300) (hi : i < i1) (hin : i1 ≤ len - 1) (hil : i < len) (hP : Pr w5 b sl j (dd - 1) x) (hg : w.grownBy w5 (some b)) (hown : w5.ownsRow w.heap.size 53 6 v5 (l.length + 1) (nodesL (l ++ [t])))
  (hc : (x = 0 ∧ prT ts f lvl i1 (d + 1) = .ok l j ∧ dd = d + 1) ∨ (¬ x = 0 ∧ prT ts f lvl i1 (d + 1) = .bad x j ∧ d + 1 ≤ dd)) (hR : P = seqP (prT ts f lvl i1 (d + 1)) fun e j => .ok (e ++ [t]) j) :
  RdP w b sl len i d P (.returned v5) w5 := by
 have e : (l ++ [t]).length = l.length + 1 := by simp only [List.length_append, List.length_cons, List.length_nil]
 refine ⟨v5, l ++ [t], j, dd - 1, x, rfl, by rw [e]; exact hown, ⟨by rw [e]; omega, hb.2.1, by omega⟩, hP, hg, ?_⟩
 rcases hc with ⟨h1, h2, h3⟩ | ⟨h1, h2, h3⟩
 ·exact .inl ⟨h1, by rw [hR, h2]; rfl, by omega⟩
 ·exact .inr ⟨h1, by rw [hR, h2]; rfl, by omega⟩
end Go.Proofs.YtmdpjahhhfajaaaGreatDoor
namespace Go.Proofs.YtmdpjahhhfajaaaGreatDoor
open Go.RowKit Wh
end Go.Proofs.YtmdpjahhhfajaaaGreatDoor
namespace Go.Proofs.YtmdpjahhhfajaaaGreatDoor
open Go.RowKit Wh
theorem bne0 {x : Int} (h : ¬ x = 0) : (x == 0) = false := by simpa using h
end Go.Proofs.YtmdpjahhhfajaaaGreatDoor
