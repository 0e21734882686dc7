/-
  isLetter, isDigit, wordSize, commentSize, isSymbol, Reserved, of packa · Which tokens, and which lists of tokens, are well-formed, plainly. No  · For every layer: is a text in a list (Has of the reference)? · Nodes, plainly: arity, form; the error of a list of nodes. · The syntax of expressions, plainly: what a text's tokens are read as, 
-/
import Derived.Test.YtmdpjahhhfajaaaGreatDoorJC01
import Derived.Test.YtmdpjahhhfajaaaGreatDoorJC06
import Derived.Lib.IndexLaws
import Derived.Test.YtmdpjahhhfajaaaGreatDoorJC03
import Derived.Test.YtmdpjahhhfajaaaGreatDoorJC05
import Derived.BigQuiet
set_option linter.unusedVariables false
set_option maxRecDepth 100000
namespace Wh
open Go Go.Proofs.YtmdpjahhhfajaaaGreatDoor
def nlI (s : ByteArray) : Int := Lib.indexByte s.data.toList 10
def cmtN (s : ByteArray) : Nat := if nlI s < 0 then s.size else (nlI s).toNat
theorem nl_cases (s : ByteArray) : nlI s = -1 ∨ ∃ i : Nat, nlI s = i ∧ i < s.size := by
 have h := Lib.indexByte_ge s.data.toList 10
 by_cases h1 : nlI s = -1
 ·exact .inl h1
 ·obtain ⟨i, hi⟩ : ∃ i : Nat, nlI s = i := ⟨(nlI s).toNat, by unfold nlI at *; omega⟩
  refine .inr ⟨i, hi, ?_⟩
  have := (Lib.indexByte_some hi).1
  have := (List.getElem?_eq_some_iff.1 this).1
  rwa [show s.data.toList.length = s.size from Array.length_toList] at this
theorem cmtN_facts (s : ByteArray) : cmtN s ≤ s.size ∧ (∀ j, j < cmtN s → ¬ btN s j = 10) ∧ (cmtN s = s.size ∨ btN s (cmtN s) = 10) := by
 rcases nl_cases s with h | ⟨i, h, hi⟩
 ·have e : cmtN s = s.size := by unfold cmtN; rw [if_pos (by omega)]
  rw [e]
  refine ⟨Nat.le_refl _, fun j hj hb => ?_, .inl rfl⟩
  obtain ⟨x, hx⟩ := bts_at hj
  rw [btN_of hx] at hb
  have hx10 : x = 10 := UInt8.toNat_inj.1 hb
  rw [hx10] at hx
  exact Lib.indexByte_none h j hx
 ·have e : cmtN s = i := by unfold cmtN; rw [if_neg (by omega), h]; rfl
  rw [e]
  obtain ⟨p1, p2⟩ := Lib.indexByte_some h
  refine ⟨by omega, fun j hj hb => ?_, .inr (by rw [btN_of (x := 10) p1]; rfl)⟩
  obtain ⟨x, hx⟩ := bts_at (s := s) (i := j) (by omega)
  rw [btN_of hx] at hb
  have hx10 : x = 10 := UInt8.toNat_inj.1 hb
  rw [hx10] at hx
  exact p2 j hj hx
theorem skip_through {s : ByteArray} {i n : Nat} (hn : i + n ≤ s.size) (h : ∀ j, j < n → ¬ btN s (i + j) = 10) : skipN s true i = skipN s true (i + n) := by
 induction n with
 | zero => rfl
 | succ n ih =>
  rw [ih (by omega) fun j hj => h j (by omega), skip_in (by omega) (h n (by omega))]
  rfl
theorem skip_cmt {s : ByteArray} {i : Nat} (hi : i < s.size) (hb : btN s i = 35) : skipN s false i = skipN s false (i + cmtN (s.extract i s.size)) ∧ 1 ≤ cmtN (s.extract i s.size) ∧ i + cmtN (s.extract i s.size) ≤ s.size := by
 obtain ⟨h1, h2, h3⟩ := cmtN_facts (s.extract i s.size)
 have hs : (s.extract i s.size).size = s.size - i := size_extract (by omega) (Nat.le_refl _)
 rw [hs] at h1 h3
 generalize cmtN (s.extract i s.size) = c at *
 have hx : ∀ j, j < s.size - i → btN (s.extract i s.size) j = btN s (i + j) := fun j hj => btN_extract s i s.size j hj
 have hc : 1 ≤ c := by
  rcases Nat.eq_zero_or_pos c with e | e
  ·subst e
   rcases h3 with h3 | h3
   ·omega
   ·rw [hx 0 (by omega), Nat.add_zero, hb] at h3
    cases h3
  ·exact e
 have e1 : skipN s true (i + 1) = skipN s true (i + 1 + (c - 1)) := skip_through (by omega) fun j hj => by
  have := h2 (1 + j) (by omega)
  rw [hx _ (by omega)] at this
  rw [Nat.add_assoc]
  exact this
 rw [show i + 1 + (c - 1) = i + c by omega] at e1
 refine ⟨?_, hc, by omega⟩
 rw [skip_hash hi hb, e1]
 rcases h3 with h3 | h3
 ·rw [skip_end true (by omega), skip_end false (by omega)]
 ·by_cases he : i + c < s.size
  ·rw [hx _ (by omega)] at h3
   exact skip_out he h3
  ·rw [skip_end true (by omega), skip_end false (by omega)]
def resL : List ByteArray := [⟨#[97, 110, 100]⟩, ⟨#[111, 114]⟩, ⟨#[110, 111, 116]⟩, ⟨#[110, 117, 108, 108]⟩, ⟨#[116, 114, 117, 101]⟩, ⟨#[102, 97, 108, 115, 101]⟩, ⟨#[98, 121]⟩, ⟨#[115, 101, 108, 102]⟩]
def resB (s : ByteArray) : Bool := resL.any fun x => eqS x s
theorem resB_mem {s : ByteArray} (h : resB s = true) : s ∈ resL := by
 unfold resB at h
 rw [List.any_eq_true] at h
 obtain ⟨x, hx, he⟩ := h
 rw [← eqS_iff.1 he]
 exact hx
theorem resL_all : ∀ s ∈ resL, resB s = true := fun s hs => by
 unfold resB
 rw [List.any_eq_true]
 exact ⟨s, hs, eqS_refl s⟩
theorem ne_lit {s t : ByteArray} {p : ByteArray → Bool} (ht : p t = true) (h : p s = false) : (s.toList == t.toList) = false := by
 cases he : (s.toList == t.toList) with
 | false => rfl
 | true =>
  rw [eqS_iff.1 (show eqS s t = true from he), ht] at h
  cases h
end Wh
namespace Go.Proofs.YtmdpjahhhfajaaaGreatDoor
open Go.RowKit Wh
theorem tisLetter_any (c : Nat) (w : World) : Calls Tryz.prog 114 #[.int .u8 c] w fun e w' => e = .returned (.bool (lowB c)) ∧ w = w' := by
 unfold lowB
 go_enter Tryz.func114, Tryz.ntmps114
 by_cases h : 97 ≤ c
 ·have h1 : (97 : Int) ≤ (c : Int) := by omega
  by_cases h2 : c ≤ 122
  ·have h3 : (c : Int) ≤ 122 := by omega
   go_wp2_with fail
   go_ret
   exact ⟨by simp [h, h2], rfl⟩
  ·have h3 : ¬ (c : Int) ≤ 122 := by omega
   go_wp2_with fail
   go_ret
   exact ⟨by simp, rfl⟩
 ·have h1 : ¬ (97 : Int) ≤ (c : Int) := by omega
  go_wp2_with fail
  go_ret
  exact ⟨by simp, rfl⟩
theorem tisDigit_any (c : Nat) (w : World) : Calls Tryz.prog 116 #[.int .u8 c] w fun e w' => e = .returned (.bool (numB c)) ∧ w = w' := by
 unfold numB
 go_enter Tryz.func116, Tryz.ntmps116
 by_cases h : 48 ≤ c
 ·have h1 : (48 : Int) ≤ (c : Int) := by omega
  by_cases h2 : c ≤ 57
  ·have h3 : (c : Int) ≤ 57 := by omega
   go_wp2_with fail
   go_ret
   exact ⟨by simp [h, h2], rfl⟩
  ·have h3 : ¬ (c : Int) ≤ 57 := by omega
   go_wp2_with fail
   go_ret
   exact ⟨by simp, rfl⟩
 ·have h1 : ¬ (48 : Int) ≤ (c : Int) := by omega
  go_wp2_with fail
  go_ret
  exact ⟨by simp, rfl⟩
set_option maxHeartbeats 1000000 in
theorem wordSize_any (s : ByteArray) (hs : s.size ≤ 9223372036854775800) (w : World) : Calls Tryz.prog 145 #[.string s] w fun e w' => e = .returned (.int .i64 (spanN wordB s)) ∧ w = w' := by
 have FIN := Lib.hid (fun n h1 h2 h3 => spanN_eq (p := wordB) (s := s) (n := n) h1 h2 h3)
 generalize spanN wordB s = E at *
 go_enter Tryz.func145, Tryz.ntmps145
 go_wp2_with fail
 go_loop [7] (fun iv => ∃ k : Nat, k ≤ s.size ∧ iv = .int .i64 k ∧ Hid (∀ j, j < k → wordB (btN s j) = true)) (fun i => s.size - (intOf i).toNat)
 case atStart => exact ⟨0, Nat.zero_le _, rfl, fun j hj => absurd hj (by omega)⟩
 case round =>
  obtain ⟨k, hk, rfl, HI⟩ := hrel
  by_cases hlt : k < s.size
  ·have ix := fun W => index_str s k hlt W
   have L := Lib.hid (fun W => tisLetter_any (btN s k) W)
   have D := Lib.hid (fun W => tisDigit_any (btN s k) W)
   have HW : Hid (wordB (btN s k) = (lowB (btN s k) || numB (btN s k) || decide (btN s k = 95))) := rfl
   have STEP := Lib.hid (fun (h : wordB (btN s k) = true) => show ∀ j, j < k + 1 → wordB (btN s j) = true from fun j hj => by
    by_cases e : j = k
    ·rw [e]; exact h
    ·exact HI.out j (by omega))
   have STOP := Lib.hid (fun (h : wordB (btN s k) = false) => FIN.out k HI.out hk (.inr h))
   have h95 : ((btN s k : Int) != 95) = !decide (btN s k = 95) := by
    by_cases h : btN s k = 95
    ·simp [h]
    ·rw [decide_eq_false h]; simp; omega
   generalize wordB (btN s k) = wb at *
   generalize lowB (btN s k) = b1 at *
   generalize numB (btN s k) = b2 at *
   generalize decide (btN s k = 95) = b3 at *
   generalize btN s k = c at *
   clear FIN HI
   cases b1 <;> cases b2 <;> cases b3
   case false.false.false =>
    obtain rfl : wb = false := HW.out
    obtain rfl := STOP.out rfl
    clear STEP STOP HW
    go_wp2_with (first | (go_at_call 114; refine (L.out _).mono ?_; rintro e w1 ⟨rfl, rfl⟩) | (go_at_call 116; refine (D.out _).mono ?_; rintro e w1 ⟨rfl, rfl⟩))
    go_ret
    exact ⟨rfl, rfl⟩
   all_goals
    obtain rfl : wb = true := HW.out
    have HI2 := Lib.hid (STEP.out rfl)
    clear STEP STOP HW
    go_wp2_with (first | (go_at_call 114; refine (L.out _).mono ?_; rintro e w1 ⟨rfl, rfl⟩) | (go_at_call 116; refine (D.out _).mono ?_; rintro e w1 ⟨rfl, rfl⟩))
    go_round
    case rel => exact ⟨k + 1, by omega, by go_num, HI2⟩
    case measure => simp [intOf]; omega
  ·obtain rfl : k = s.size := by omega
   obtain rfl := FIN.out _ HI.out (Nat.le_refl _) (.inl rfl)
   clear FIN HI
   go_wp2_with fail
   go_ret
   exact ⟨rfl, rfl⟩
theorem indexNl_any (s : ByteArray) (w : World) :
  Calls Tryz.prog 144 #[.string s, .int .u8 10] w fun e w' => e = .returned (.int .i64 (nlI s)) ∧ w = w' := by
 go_enter Tryz.func144, Tryz.ntmps144
 go_wp2
 rw [run_callFunc_extern Tryz.func174 (by kernel_rfl) (by kernel_rfl) (by kernel_rfl) (e := Extern.BytealgIndexByte.indexByte) (by kernel_rfl), Lib.run_indexByteString]
 simp only [Result.andThen]
 rw [Oper.upon_value]
 go_wp2
 go_ret
 exact ⟨rfl, rfl⟩
theorem sIndexNl_any (s : ByteArray) (w : World) :
  Calls Tryz.prog 113 #[.string s, .int .u8 10] w fun e w' => e = .returned (.int .i64 (nlI s)) ∧ w = w' := by
 go_enter Tryz.func113, Tryz.ntmps113
 go_wp2_with (go_at_call 144; refine (indexNl_any _ _).mono ?_; rintro e w1 ⟨rfl, rfl⟩)
 go_ret
 exact ⟨rfl, rfl⟩
theorem commentSize_any (s : ByteArray) (hs : s.size ≤ 9223372036854775800) (w : World) : Calls Tryz.prog 78 #[.string s] w fun e w' => e = .returned (.int .i64 (cmtN s)) ∧ w = w' := by
 have c := fun W => sIndexNl_any s W
 rcases nl_cases s with h | ⟨i, h, hi⟩
 ·have e : cmtN s = s.size := by unfold cmtN; rw [if_pos (by omega)]
  rw [e]
  rw [h] at c
  clear h e
  go_enter Tryz.func78, Tryz.ntmps78
  go_wp2_with (go_at_call 113; refine (c _).mono ?_; rintro e w1 ⟨rfl, rfl⟩)
  go_ret
  exact ⟨rfl, rfl⟩
 ·have e : cmtN s = i := by unfold cmtN; rw [if_neg (by omega), h]; rfl
  rw [e]
  rw [h] at c
  clear h e
  go_enter Tryz.func78, Tryz.ntmps78
  go_wp2_with (go_at_call 113; refine (c _).mono ?_; rintro e w1 ⟨rfl, rfl⟩)
  go_ret
  exact ⟨rfl, rfl⟩
set_option maxHeartbeats 4000000 in
theorem isSymbol_any (s : ByteArray) (w : World) : Calls Tryz.prog 87 #[.string s] w fun e w' => e = .returned (.bool (symB s)) ∧ w = w' := by
 cases hb : symB s with
 | true =>
  have hm := symB_mem hb
  simp only [symL, List.mem_cons, List.not_mem_nil, or_false] at hm
  clear hb
  rcases hm with rfl | rfl | rfl | rfl | rfl | rfl | rfl | rfl | rfl | rfl | rfl | rfl | rfl | rfl | rfl | rfl | rfl | rfl
  all_goals
   go_enter Tryz.func87, Tryz.ntmps87
   go_wp2_with fail
   go_ret
   exact ⟨rfl, rfl⟩
 | false =>
  have q := fun t (ht : t ∈ symL) => ne_lit (p := symB) (symL_all t ht) hb
  have q0 := q ⟨#[40]⟩ (by simp [symL])
  have q1 := q ⟨#[41]⟩ (by simp [symL])
  have q2 := q ⟨#[44]⟩ (by simp [symL])
  have q3 := q ⟨#[59]⟩ (by simp [symL])
  have q4 := q ⟨#[58]⟩ (by simp [symL])
  have q5 := q ⟨#[124]⟩ (by simp [symL])
  have q6 := q ⟨#[61]⟩ (by simp [symL])
  have q7 := q ⟨#[43]⟩ (by simp [symL])
  have q8 := q ⟨#[43, 43]⟩ (by simp [symL])
  have q9 := q ⟨#[45]⟩ (by simp [symL])
  have q10 := q ⟨#[42]⟩ (by simp [symL])
  have q11 := q ⟨#[47]⟩ (by simp [symL])
  have q12 := q ⟨#[37]⟩ (by simp [symL])
  have q13 := q ⟨#[60]⟩ (by simp [symL])
  have q14 := q ⟨#[60, 61]⟩ (by simp [symL])
  have q15 := q ⟨#[62]⟩ (by simp [symL])
  have q16 := q ⟨#[62, 61]⟩ (by simp [symL])
  have q17 := q ⟨#[33, 61]⟩ (by simp [symL])
  rw [toList_bts (⟨#[40]⟩ : ByteArray)] at q0
  rw [toList_bts (⟨#[41]⟩ : ByteArray)] at q1
  rw [toList_bts (⟨#[44]⟩ : ByteArray)] at q2
  rw [toList_bts (⟨#[59]⟩ : ByteArray)] at q3
  rw [toList_bts (⟨#[58]⟩ : ByteArray)] at q4
  rw [toList_bts (⟨#[124]⟩ : ByteArray)] at q5
  rw [toList_bts (⟨#[61]⟩ : ByteArray)] at q6
  rw [toList_bts (⟨#[43]⟩ : ByteArray)] at q7
  rw [toList_bts (⟨#[43, 43]⟩ : ByteArray)] at q8
  rw [toList_bts (⟨#[45]⟩ : ByteArray)] at q9
  rw [toList_bts (⟨#[42]⟩ : ByteArray)] at q10
  rw [toList_bts (⟨#[47]⟩ : ByteArray)] at q11
  rw [toList_bts (⟨#[37]⟩ : ByteArray)] at q12
  rw [toList_bts (⟨#[60]⟩ : ByteArray)] at q13
  rw [toList_bts (⟨#[60, 61]⟩ : ByteArray)] at q14
  rw [toList_bts (⟨#[62]⟩ : ByteArray)] at q15
  rw [toList_bts (⟨#[62, 61]⟩ : ByteArray)] at q16
  rw [toList_bts (⟨#[33, 61]⟩ : ByteArray)] at q17
  simp only [bts] at q0 q1 q2 q3 q4 q5 q6 q7 q8 q9 q10 q11 q12 q13 q14 q15 q16 q17
  clear q hb
  go_enter Tryz.func87, Tryz.ntmps87
  go_wp2_with fail
  go_ret
  exact ⟨rfl, rfl⟩
end Go.Proofs.YtmdpjahhhfajaaaGreatDoor
namespace Wh
open Go Go.Proofs.YtmdpjahhhfajaaaGreatDoor
def empB (s : ByteArray) : Bool := decide (s.size = 0)
def okT (t : Tk) : Bool :=
 if t.k = 1 then qualB t.tx && decide (t.nm = 0)
 else if t.k = 2 then empB t.tx && (decide (0 ≤ t.nm) && decide (t.nm ≤ 1073741824))
 else if t.k = 3 then decide (t.tx.size ≤ 64) && decide (t.nm = 0)
 else if t.k = 4 then empB t.tx && (decide (0 ≤ t.nm) && decide (t.nm ≤ 575999999))
 else if t.k = 5 then symB t.tx && decide (t.nm = 0)
 else false
def isT (t : Tk) : Bool := if t.k = 0 then empB t.tx && decide (t.nm = 0) else okT t
def okAtT (ts : List TA) (i : Nat) : Bool :=
 match ts[i]? with
 | none => true
 | some t => (decide (t.1.k = 0) == decide (i + 1 = ts.length)) && isT t.1
def valB (ts : List TA) : Bool := decide (1 ≤ ts.length) && (List.range ts.length).all (okAtT ts)
def valE (ts : List TA) : Int := if valB ts = true then 0 else 8
theorem okT_kind {t : Tk} (h : t.k = 0) : okT t = false := by unfold okT; simp [h]
theorem valE_nil : valE [] = 8 := rfl
theorem valE_no {ts : List TA} {i : Nat} (hi : i < ts.length) (h : okAtT ts i = false) : valE ts = 8 := by
 unfold valE valB
 have : (List.range ts.length).all (okAtT ts) = false := by
  rw [List.all_eq_false]
  exact ⟨i, List.mem_range.2 hi, by simp [h]⟩
 rw [this, Bool.and_false]
 rfl
theorem valE_yes {ts : List TA} (h1 : 1 ≤ ts.length) (h : ∀ i, i < ts.length → okAtT ts i = true) : valE ts = 0 := by
 unfold valE valB
 rw [decide_eq_true h1, List.all_eq_true.2 fun i hi => h i (List.mem_range.1 hi)]
 rfl
theorem valE_zero {ts : List TA} (h : valE ts = 0) : 1 ≤ ts.length ∧ ∀ i, i < ts.length → okAtT ts i = true := by
 unfold valE at h
 by_cases hb : valB ts = true
 ·unfold valB at hb
  rw [Bool.and_eq_true, decide_eq_true_eq, List.all_eq_true] at hb
  exact ⟨hb.1, fun i hi => hb.2 i (List.mem_range.2 hi)⟩
 ·rw [if_neg hb] at h; cases h
theorem okAt_some {ts : List TA} {i : Nat} {t : TA} (h : ts[i]? = some t) : okAtT ts i = ((decide (t.1.k = 0) == decide (i + 1 = ts.length)) && isT t.1) := by
 unfold okAtT
 rw [h]
theorem okAt_mid {ts : List TA} {i : Nat} {t : TA} (h : ts[i]? = some t) (hi : i + 1 < ts.length) : okAtT ts i = okT t.1 := by
 rw [okAt_some h, decide_eq_false (by omega : ¬ i + 1 = ts.length)]
 by_cases h0 : t.1.k = 0
 ·rw [decide_eq_true h0, okT_kind h0]; rfl
 ·rw [decide_eq_false h0]
  unfold isT
  rw [if_neg h0]
  rfl
theorem okAt_last {ts : List TA} {i : Nat} {t : TA} (h : ts[i]? = some t) (hi : i + 1 = ts.length) : okAtT ts i = (decide (t.1.k = 0) && (empB t.1.tx && decide (t.1.nm = 0))) := by
 rw [okAt_some h, decide_eq_true hi]
 by_cases h0 : t.1.k = 0
 ·rw [decide_eq_true h0]
  unfold isT
  rw [if_pos h0]
  rfl
 ·rw [decide_eq_false h0]; rfl
end Wh
namespace Wh
open Go
def hasB (ss : List ByteArray) (s : ByteArray) : Bool := ss.any fun t => eqS t s
theorem hasB_no {ss : List ByteArray} {s : ByteArray} (h : ∀ (i : Nat) (t : ByteArray), ss[i]? = some t → eqS t s = false) : hasB ss s = false := by
 unfold hasB
 rw [List.any_eq_false]
 intro t ht
 obtain ⟨i, hi⟩ := List.mem_iff_getElem?.1 ht
 simp [h i t hi]
theorem hasB_yes {ss : List ByteArray} {s t : ByteArray} {i : Nat} (h : ss[i]? = some t) (he : eqS t s = true) : hasB ss s = true := by
 unfold hasB
 rw [List.any_eq_true]
 exact ⟨t, List.mem_of_getElem? h, he⟩
end Wh
namespace Go.Proofs.YtmdpjahhhfajaaaGreatDoor
open Go.RowKit Wh
theorem has_any (a : Option Addr) (len cap : Nat) (ss : List ByteArray) (s : ByteArray) (w : World) (hs : IsStrs w a len ss) (hl : len ≤ 9223372036854775807) :
  Calls Tryz.prog 112 #[.slice a len cap, .string s] w fun e w' => e = .returned (.bool (hasB ss s)) ∧ w = w' := by
 have NO := Lib.hid (fun h => hasB_no (ss := ss) (s := s) h)
 have YE := Lib.hid (fun (i : Nat) (t : ByteArray) h he => hasB_yes (ss := ss) (s := s) (t := t) (i := i) h he)
 have HS := Lib.hid hs
 generalize hasB ss s = E at *
 clear hs
 go_enter Tryz.func112, Tryz.ntmps112
 go_wp2_with fail
 go_loop [5] (fun iv => ∃ k : Nat, k ≤ len ∧ iv = .int .i64 k ∧ Hid (∀ (i : Nat) (t : ByteArray), i < k → ss[i]? = some t → eqS t s = false)) (fun i => len - (intOf i).toNat)
 case atStart => exact ⟨0, Nat.zero_le _, rfl, fun i s hi => absurd hi (by omega)⟩
 case round =>
  obtain ⟨k, hk, rfl, HI⟩ := hrel
  by_cases hlt : k < len
  ·obtain ⟨t, b, off, hx, rfl, hbl, hc0⟩ := HS.out.at hlt
   have HX := Lib.hid hx
   clear hx
   cases he : eqS t s with
   | true =>
    obtain rfl := YE.out k t HX.out he
    have he2 : (t.toList == s.toList) = true := he
    clear he HI NO YE
    go_wp2_with fail
    go_ret
    exact ⟨rfl, rfl⟩
   | false =>
    have HI2 : Hid (∀ (i : Nat) (u : ByteArray), i < k + 1 → ss[i]? = some u → eqS u s = false) := fun i u hi hu => by
     by_cases e : i = k
     ·subst e
      have := HX.out
      rw [hu] at this
      cases this
      exact he
     ·exact HI.out i u (by omega) hu
    have he2 : (t.toList == s.toList) = false := he
    clear he HI NO YE
    go_wp2_with fail
    go_round
    case rel => exact ⟨k + 1, by omega, by go_num, HI2⟩
    case measure => simp [intOf]; omega
  ·obtain rfl := NO.out fun i s hi => HI.out i s (by have := (List.getElem?_eq_some_iff.1 hi).1; have := HS.out.1; omega) hi
   clear NO YE HI
   go_wp2_with fail
   go_ret
   exact ⟨rfl, rfl⟩
end Go.Proofs.YtmdpjahhhfajaaaGreatDoor
namespace Wh
open Go Go.Proofs.YtmdpjahhhfajaaaGreatDoor
def bltL : List ByteArray := [⟨#[105, 102]⟩, ⟨#[99, 111, 97, 108, 101, 115, 99, 101]⟩, ⟨#[105, 115, 110, 117, 108, 108]⟩, ⟨#[108, 101, 110, 103, 116, 104]⟩, ⟨#[100, 97, 121]⟩]
def bltB (s : ByteArray) : Bool := hasB bltL s
def colB (s : ByteArray) : Bool := nameB s && !resB s
def refB (s : ByteArray) : Bool := qualB s && !resB s
def arN (t : Nd) : Int :=
 if t.op = 21 then t.ar
 else if t.op = 0 ∨ t.op = 1 then 0
 else if t.op = 2 ∨ t.op = 3 ∨ t.op = 16 ∨ t.op = 19 ∨ t.op = 20 then 1
 else if t.op = 17 then 3
 else if 4 ≤ t.op ∧ t.op ≤ 18 then 2
 else -1
def zeroV (v : V) : Bool := decide (v.k = 0) && (decide (v.n = 0) && empB v.s)
def nodB (t : Nd) : Bool :=
 if t.op = 0 then validB t.v.k t.v.n t.v.s && (empB t.nm && decide (t.ar = 0))
 else if t.op = 1 then zeroV t.v && (decide (t.ar = 0) && colB t.nm)
 else if t.op = 20 then zeroV t.v && (decide (t.ar = 0) && refB t.nm)
 else if t.op = 21 then zeroV t.v && (decide (0 ≤ t.ar) && (decide (t.ar ≤ 8) && (refB t.nm && !bltB t.nm)))
 else decide (0 ≤ arN t) && (zeroV t.v && (empB t.nm && decide (t.ar = 0)))
theorem nodB_ar {t : Nd} (h : nodB t = true) : 0 ≤ arN t ∧ arN t ≤ 8 := by
 unfold nodB at h
 unfold arN
 by_cases h0 : t.op = 0
 ·simp [h0]
 ·rw [if_neg h0] at h
  by_cases h1 : t.op = 1
  ·simp [h1]
  ·rw [if_neg h1] at h
   by_cases h20 : t.op = 20
   ·simp [h20]
   ·rw [if_neg h20] at h
    by_cases h21 : t.op = 21
    ·rw [if_pos h21] at h ⊢
     simp only [Bool.and_eq_true, decide_eq_true_eq] at h
     omega
    ·rw [if_neg h21] at h ⊢
     simp only [Bool.and_eq_true, decide_eq_true_eq] at h
     have h2 := h.1
     unfold arN at h2
     rw [if_neg h21] at h2
     revert h2
     split
     ·omega
     ·split
      ·omega
      ·split
       ·omega
       ·split <;> omega
def maxL (l : List Int) : Int := l.foldl max 0
def valS : List Nd → List Int → Int
 | [], st => if st.length = 1 then 0 else 8
 | t :: l, st =>
  if nodB t = false ∨ (st.length : Int) < arN t then 8
  else
   if 64 < maxL (st.drop (st.length - (arN t).toNat)) + 1 then 2
   else valS l (st.take (st.length - (arN t).toNat) ++ [maxL (st.drop (st.length - (arN t).toNat)) + 1])
def valN (l : List Nd) : Int := if 256 < l.length then 2 else valS l []
theorem maxL_take (l : List Int) (i : Nat) (x : Int) (h : l[i]? = some x) : maxL (l.take (i + 1)) = max (maxL (l.take i)) x := by
 unfold maxL
 have hlt := (List.getElem?_eq_some_iff.1 h).1
 rw [List.take_add_one, h]
 simp
theorem maxL_nonneg (l : List Int) : 0 ≤ maxL l := by
 unfold maxL
 have : ∀ (l : List Int) (a : Int), 0 ≤ a → 0 ≤ l.foldl max a := by
  intro l
  induction l with
  | nil => intro a h; exact h
  | cons x l ih => intro a h; exact ih _ (by omega)
 exact this l 0 (Int.le_refl _)
end Wh
namespace Wh
open Go Go.Proofs.YtmdpjahhhfajaaaGreatDoor
abbrev cstN (k n : Int) (s : ByteArray) : Nd := ⟨0, ⟨k, n, s⟩, ⟨#[]⟩, 0⟩
abbrev opNd (op : Int) : Nd := ⟨op, ⟨0, 0, ⟨#[]⟩⟩, ⟨#[]⟩, 0⟩
inductive PO where
 | ok (e : List Nd) (i : Nat)
 | bad (c : Int) (i : Nat)
def seqP (P : PO) (k : List Nd → Nat → PO) : PO := match P with | .bad c j => .bad c j | .ok e j => k e j
theorem seqP_ok (e : List Nd) (j : Nat) (k : List Nd → Nat → PO) : seqP (.ok e j) k = k e j := rfl
def tkA (ts : List TA) (i : Nat) : TA := ts.getD (min i (ts.length - 1)) (⟨0, ⟨#[]⟩, 0⟩, 0)
def symT (t : TA) (s : ByteArray) : Bool := decide (t.1.k = 5) && eqS t.1.tx s
def wrdT (t : TA) (s : ByteArray) : Bool := decide (t.1.k = 1) && eqS t.1.tx s
def nulS : ByteArray := ⟨#[110, 117, 108, 108]⟩
def truS : ByteArray := ⟨#[116, 114, 117, 101]⟩
def falS : ByteArray := ⟨#[102, 97, 108, 115, 101]⟩
def opnS : ByteArray := ⟨#[40]⟩
def clsS : ByteArray := ⟨#[41]⟩
def comS : ByteArray := ⟨#[44]⟩
def minS : ByteArray := ⟨#[45]⟩
def notS : ByteArray := ⟨#[110, 111, 116]⟩
def andS : ByteArray := ⟨#[97, 110, 100]⟩
def orS : ByteArray := ⟨#[111, 114]⟩
def dayS : ByteArray := ⟨#[100, 97, 121]⟩
def begT (t u : TA) : Bool :=
 if t.1.k = 2 ∨ t.1.k = 3 ∨ t.1.k = 4 then true
 else if t.1.k = 1 then
  if eqS t.1.tx nulS = true ∨ eqS t.1.tx truS = true ∨ eqS t.1.tx falS = true then true
  else !resB t.1.tx && (symT u opnS || nameB t.1.tx)
 else symT t minS || symT t opnS
def binO (lvl : Nat) (t : TA) : Option Int :=
 if lvl = 0 then (if wrdT t orS = true then some 15 else none)
 else if lvl = 1 then (if wrdT t andS = true then some 14 else none)
 else if lvl = 4 then (if symT t ⟨#[43, 43]⟩ = true then some 9 else none)
 else if lvl = 5 then (if symT t ⟨#[43]⟩ = true then some 4 else if symT t minS = true then some 5 else none)
 else (if symT t ⟨#[42]⟩ = true then some 6 else if symT t ⟨#[47]⟩ = true then some 7 else if symT t ⟨#[37]⟩ = true then some 8 else none)
def cmpO (t : TA) : Option (Int × Bool) :=
 if symT t ⟨#[61]⟩ = true then some (10, false) else if symT t ⟨#[33, 61]⟩ = true then some (11, false)
 else if symT t ⟨#[60]⟩ = true then some (12, false) else if symT t ⟨#[60, 61]⟩ = true then some (13, false)
 else if symT t ⟨#[62]⟩ = true then some (12, true) else if symT t ⟨#[62, 61]⟩ = true then some (13, true) else none
def callO (s : ByteArray) (n : Nat) : Nd × Int :=
 if eqS s ⟨#[105, 102]⟩ = true then (opNd 17, 3) else if eqS s ⟨#[99, 111, 97, 108, 101, 115, 99, 101]⟩ = true then (opNd 18, 2)
 else if eqS s ⟨#[105, 115, 110, 117, 108, 108]⟩ = true then (opNd 16, 1) else if eqS s ⟨#[108, 101, 110, 103, 116, 104]⟩ = true then (opNd 19, 1)
 else (⟨21, ⟨0, 0, ⟨#[]⟩⟩, s, n⟩, n)
def lpT (ts : List TA) (rd : Nat → PO) (lvl : Nat) : Nat → List Nd → Nat → PO
 | 0, e, i => .bad 0 i
 | g + 1, e, i =>
  match binO lvl (tkA ts i) with
  | none => .ok e i
  | some op =>
   match rd (i + 1) with
   | .bad c j => .bad c j
   | .ok e2 j => lpT ts rd lvl g (e ++ e2 ++ [opNd op]) j
def finT (s : ByteArray) (rs : List (List Nd)) (j : Nat) : PO :=
 if 8 < rs.length ∨ (callO s rs.length).2 ≠ rs.length then .bad 3 j else .ok (rs.flatten ++ [(callO s rs.length).1]) (j + 1)
def agT (ts : List TA) (rd : Nat → PO) (s : ByteArray) : Nat → List (List Nd) → Nat → PO
 | 0, rs, i => .bad 0 i
 | g + 1, rs, i =>
  match rd i with
  | .bad c j => .bad c j
  | .ok e j =>
   if symT (tkA ts j) clsS = true then finT s (rs ++ [e]) j
   else if symT (tkA ts j) comS = true then agT ts rd s g (rs ++ [e]) (j + 1)
   else .bad 3 j
def dayT (ts : List TA) (e : List Nd) (j : Nat) : PO :=
 if symT (tkA ts j) comS = false then .bad 3 j
 else if ¬ (tkA ts (j + 1)).1.k = 1 ∨ resB (tkA ts (j + 1)).1.tx = true then .bad 3 (j + 1)
 else if symT (tkA ts (j + 2)) clsS = false then .bad 3 (j + 2)
 else .ok (e ++ [⟨20, ⟨0, 0, ⟨#[]⟩⟩, (tkA ts (j + 1)).1.tx, 0⟩]) (j + 3)
def prT (ts : List TA) : Nat → Nat → Nat → Nat → PO
 | 0, _, i, _ => .bad 0 i
 | f + 1, lvl, i, d =>
  if lvl = 2 then
   if wrdT (tkA ts i) notS = true then
    if 256 < d then .bad 2 i
    else match prT ts f 2 (i + 1) (d + 1) with
     | .bad c j => .bad c j
     | .ok e j => .ok (e ++ [opNd 2]) j
   else prT ts f 3 i d
  else if lvl = 3 then
   match prT ts f 4 i d with
   | .bad c j => .bad c j
   | .ok e j =>
    match cmpO (tkA ts j) with
    | none => .ok e j
    | some (op, sw) =>
     match prT ts f 4 (j + 1) d with
     | .bad c j2 => .bad c j2
     | .ok e2 j2 => .ok ((if sw = true then e2 ++ e else e ++ e2) ++ [opNd op]) j2
  else if lvl = 7 then
   if begT (tkA ts i) (tkA ts (i + 1)) = false then .bad 3 i
   else if 256 < d then .bad 2 i
   else if symT (tkA ts i) minS = true then
    if (tkA ts (i + 1)).1.k = 2 then .ok [cstN 2 (-(tkA ts (i + 1)).1.nm) ⟨#[]⟩] (i + 2)
    else match prT ts f 7 (i + 1) (d + 1) with
     | .bad c j => .bad c j
     | .ok e j => .ok (e ++ [opNd 3]) j
   else prT ts f 8 i d
  else if lvl = 8 then
   if (tkA ts i).1.k = 2 then .ok [cstN 2 (tkA ts i).1.nm ⟨#[]⟩] (i + 1)
   else if (tkA ts i).1.k = 3 then .ok [cstN 3 0 (tkA ts i).1.tx] (i + 1)
   else if (tkA ts i).1.k = 4 then .ok [cstN 4 (tkA ts i).1.nm ⟨#[]⟩] (i + 1)
   else if (tkA ts i).1.k = 1 then
    if eqS (tkA ts i).1.tx nulS = true then .ok [cstN 0 0 ⟨#[]⟩] (i + 1)
    else if eqS (tkA ts i).1.tx truS = true then .ok [cstN 1 1 ⟨#[]⟩] (i + 1)
    else if eqS (tkA ts i).1.tx falS = true then .ok [cstN 1 0 ⟨#[]⟩] (i + 1)
    else if symT (tkA ts (i + 1)) opnS = true then
     if eqS (tkA ts i).1.tx dayS = true then
      match prT ts f 0 (i + 2) (d + 1) with
      | .bad c j => .bad c j
      | .ok e j => dayT ts e j
     else if symT (tkA ts (i + 2)) clsS = true then finT (tkA ts i).1.tx [] (i + 2)
     else agT ts (fun i => prT ts f 0 i (d + 1)) (tkA ts i).1.tx ts.length [] (i + 2)
    else .ok [⟨1, ⟨0, 0, ⟨#[]⟩⟩, (tkA ts i).1.tx, 0⟩] (i + 1)
   else
    match prT ts f 0 (i + 1) (d + 1) with
    | .bad c j => .bad c j
    | .ok e j => if symT (tkA ts j) clsS = true then .ok e (j + 1) else .bad 3 j
  else
   match prT ts f (lvl + 1) i d with
   | .bad c j => .bad c j
   | .ok e j => lpT ts (fun i => prT ts f (lvl + 1) i d) lvl ts.length e j
end Wh
