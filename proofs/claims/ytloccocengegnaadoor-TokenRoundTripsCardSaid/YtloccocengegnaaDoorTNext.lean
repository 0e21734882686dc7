/-
  The tokens of a text, plainly: the token with which a text begins; all tokens from a place on. No program's functions.
-/
import Derived.Test.YtloccocengegnaaDoorTRef
import Derived.Test.YtloccocengegnaaDoorCRParse
import Derived.Test.YtloccocengegnaaDoorGTok
set_option linter.unusedVariables false
set_option maxRecDepth 100000
namespace Wh
open Go.Proofs.YtloccocengegnaaDoor

/-- The literal with which a text begins: the error, its text, its length. -/
def litO (s : ByteArray) : Int × List UInt8 × Nat :=
  match litL ((bts s).drop 1) with
  | none => (3, [], 0)
  | some p => if 64 < p.1.length then (2, [], 0) else (0, p.1, p.2 + 1)

/-- The token with which a text begins: the error, the token, its length. -/
def nx (s : ByteArray) : Int × Tk × Nat :=
  if lowB (btN s 0) = true then ((nameT s).2, ⟨1, s.extract 0 (nameT s).1.toNat, 0⟩, (nameT s).1.toNat)
  else if numB (btN s 0) = true then ((intT s).2.2, ⟨2, ⟨#[]⟩, (intT s).1⟩, (intT s).2.1.toNat)
  else if btN s 0 = 39 then ((litO s).1, ⟨3, ⟨(litO s).2.1.toArray⟩, 0⟩, (litO s).2.2)
  else if btN s 0 = 64 then (if s.size < 17 then (3, noT, 0) else (parseE (s.extract 1 17), ⟨4, ⟨#[]⟩, parseZ (s.extract 1 17)⟩, 17))
  else if (symS s).size = 0 then (3, noT, 0) else (0, ⟨5, symS s, 0⟩, (symS s).size)

theorem nx_name {s : ByteArray} (h : lowB (btN s 0) = true) : nx s = ((nameT s).2, ⟨1, s.extract 0 (nameT s).1.toNat, 0⟩, (nameT s).1.toNat) := by unfold nx; rw [if_pos h]
theorem nx_int {s : ByteArray} (h0 : lowB (btN s 0) = false) (h : numB (btN s 0) = true) : nx s = ((intT s).2.2, ⟨2, ⟨#[]⟩, (intT s).1⟩, (intT s).2.1.toNat) := by unfold nx; rw [h0, if_neg (by simp), if_pos h]
theorem nx_lit {s : ByteArray} (h : btN s 0 = 39) : nx s = ((litO s).1, ⟨3, ⟨(litO s).2.1.toArray⟩, 0⟩, (litO s).2.2) := by
  unfold nx
  rw [if_neg (by rw [h]; decide), if_neg (by rw [h]; decide), if_pos h]
theorem nx_time {s : ByteArray} (h : btN s 0 = 64) : nx s = (if s.size < 17 then (3, noT, 0) else (parseE (s.extract 1 17), ⟨4, ⟨#[]⟩, parseZ (s.extract 1 17)⟩, 17)) := by
  unfold nx
  rw [if_neg (by rw [h]; decide), if_neg (by rw [h]; decide), if_neg (by rw [h]; decide), if_pos h]
theorem nx_sym {s : ByteArray} (h0 : lowB (btN s 0) = false) (h1 : numB (btN s 0) = false) (h2 : ¬ btN s 0 = 39) (h3 : ¬ btN s 0 = 64) : nx s = if (symS s).size = 0 then (3, noT, 0) else (0, ⟨5, symS s, 0⟩, (symS s).size) := by
  unfold nx
  rw [h0, h1, if_neg (by simp), if_neg (by simp), if_neg h2, if_neg h3]

theorem spanN_pos {p : Nat → Bool} {s : ByteArray} (h : 0 < s.size) (h0 : p (btN s 0) = true) : 1 ≤ spanN p s := by
  unfold spanN
  obtain ⟨x, hx⟩ := bts_at h
  cases hl : bts s with
  | nil => rw [hl] at hx; cases hx
  | cons y l =>
    rw [btN_of hx] at h0
    rw [hl] at hx
    cases hx
    rw [List.takeWhile_cons, h0]
    simp
theorem nameT_pos {s : ByteArray} (h : 0 < s.size) (h0 : lowB (btN s 0) = true) (he : (nameT s).2 = 0) : 1 ≤ (nameT s).1 ∧ (nameT s).1 ≤ s.size ∧ spanN wordB s ≤ 24 := by
  have h1 := spanN_pos (p := wordB) h (by unfold wordB; rw [h0]; rfl)
  have h2 := spanN_le wordB s
  unfold nameT at he ⊢
  by_cases h24 : 24 < spanN wordB s
  · rw [if_pos h24] at he; cases he
  · rw [if_neg h24] at he ⊢
    split at he
    · rename_i hd
      rw [if_pos hd]
      split at he
      · cases he
      · rename_i hk
        rw [if_neg hk]
        have h3 := spanN_le wordB (s.extract (spanN wordB s + 1) s.size)
        rw [size_extract (by omega) (Nat.le_refl _)] at h3
        refine ⟨?_, ?_, by omega⟩
        · show (1 : Int) ≤ (spanN wordB s : Int) + (1 + (spanN wordB (s.extract (spanN wordB s + 1) s.size) : Int))
          omega
        · show (spanN wordB s : Int) + (1 + (spanN wordB (s.extract (spanN wordB s + 1) s.size) : Int)) ≤ (s.size : Int)
          omega
    · rename_i hd
      rw [if_neg hd]
      refine ⟨?_, ?_, by omega⟩
      · show (1 : Int) ≤ (spanN wordB s : Int); omega
      · show (spanN wordB s : Int) ≤ (s.size : Int); omega
theorem intT_pos {s : ByteArray} (h : 0 < s.size) (h0 : numB (btN s 0) = true) (he : (intT s).2.2 = 0) : 1 ≤ (intT s).2.1 ∧ (intT s).2.1 ≤ s.size := by
  have h1 := spanN_pos (p := numB) h h0
  have h2 := spanN_le numB s
  unfold intT at he ⊢
  by_cases hb : badI s = true
  · rw [if_pos hb] at he; cases he
  · rw [if_neg hb] at he ⊢
    by_cases hv : 1073741824 < decV s (spanN numB s)
    · rw [if_pos hv] at he; cases he
    · rw [if_neg hv]
      refine ⟨?_, ?_⟩
      · show (1 : Int) ≤ (spanN numB s : Int); omega
      · show (spanN numB s : Int) ≤ (s.size : Int); omega
theorem symS_size {s : ByteArray} : (symS s).size ≤ s.size ∧ (symS s).size ≤ 2 := by
  unfold symS
  cases hf : (List.range 4).find? (isTwo s) with
  | some i =>
    have h1 := List.find?_some hf
    have h2 := List.mem_range.1 (List.mem_of_find?_eq_some hf)
    have h3 : 2 ≤ s.size := by
      unfold isTwo at h1
      rw [Bool.and_eq_true, decide_eq_true_eq] at h1
      exact h1.1
    simp only
    rcases (show i = 0 ∨ i = 1 ∨ i = 2 ∨ i = 3 by omega) with rfl | rfl | rfl | rfl
    all_goals
      constructor
      · exact h3
      · exact Nat.le_refl 2
  | none =>
    simp only
    split
    · rename_i ha
      rw [List.any_eq_true] at ha
      obtain ⟨i, _, hi⟩ := ha
      unfold isOne at hi
      rw [Bool.and_eq_true, decide_eq_true_eq] at hi
      rw [size_extract (by omega) hi.1]
      omega
    · exact ⟨Nat.zero_le _, Nat.zero_le _⟩

/-- A token has a byte, and lies within the text. -/
theorem nx_pos {s : ByteArray} (h : 0 < s.size) (he : (nx s).1 = 0) : 1 ≤ (nx s).2.2 ∧ (nx s).2.2 ≤ s.size := by
  cases h0 : lowB (btN s 0) with
  | true =>
    rw [nx_name h0] at he ⊢
    have := nameT_pos h h0 he
    constructor
    · show 1 ≤ (nameT s).1.toNat; omega
    · show (nameT s).1.toNat ≤ s.size; omega
  | false =>
    cases h1 : numB (btN s 0) with
    | true =>
      rw [nx_int h0 h1] at he ⊢
      have := intT_pos h h1 he
      constructor
      · show 1 ≤ (intT s).2.1.toNat; omega
      · show (intT s).2.1.toNat ≤ s.size; omega
    | false =>
      by_cases h2 : btN s 0 = 39
      · rw [nx_lit h2] at he ⊢
        simp only at he ⊢
        unfold litO at he ⊢
        cases hl : litL ((bts s).drop 1) with
        | none => rw [hl] at he; cases he
        | some p =>
          rw [hl] at he
          simp only at he ⊢
          by_cases h64 : 64 < p.1.length
          · rw [if_pos h64] at he; cases he
          · rw [if_neg h64]
            obtain ⟨a, b, _⟩ := litL_facts _ _ (Nat.le_refl _) p.1 p.2 hl
            rw [List.length_drop, bts_length] at b
            simp only
            omega
      · by_cases h3 : btN s 0 = 64
        · rw [nx_time h3] at he ⊢
          by_cases h17 : s.size < 17
          · rw [if_pos h17] at he; cases he
          · rw [if_neg h17]
            simp only
            omega
        · rw [nx_sym h0 h1 h2 h3] at he ⊢
          by_cases hz : (symS s).size = 0
          · rw [if_pos hz] at he; cases he
          · rw [if_neg hz]
            have := symS_size (s := s)
            simp only
            omega

/-! ### All tokens -/
/-- The tokens with their places, a place, an error. -/
structure Out where
  l : List (Tk × Int)
  i : Nat
  e : Int

/-- The result behind the tokens that were found before. -/
def accO (a : List (Tk × Int)) (o : Out) : Out := if o.e = 0 then ⟨a ++ o.l, o.i, 0⟩ else o
theorem accO_nil {o : Out} : accO [] o = o := by
  unfold accO
  split
  · rename_i h; cases o; simp at h ⊢; exact h.symm
  · rfl
theorem accO_acc {a b : List (Tk × Int)} {o : Out} : accO a (accO b o) = accO (a ++ b) o := by
  unfold accO
  by_cases h : o.e = 0
  · rw [if_pos h, if_pos rfl, if_pos h, List.append_assoc]
  · rw [if_neg h, if_neg h, if_neg h]

theorem skip_ge (s : ByteArray) (c : Bool) (i : Nat) : i ≤ skipN s c i := Nat.le_add_right _ _

/-- The tokens from place i on, at most n of them. -/
def splitF (s : ByteArray) : Nat → Nat → Out
  | 0, i => ⟨[], i, 3⟩
  | n + 1, i =>
    if s.size ≤ skipN s false i then ⟨[(noT, (s.size : Int))], 0, 0⟩
    else if (nx (s.extract (skipN s false i) s.size)).1 = 0 then accO [((nx (s.extract (skipN s false i) s.size)).2.1, (skipN s false i : Int))] (splitF s n (skipN s false i + (nx (s.extract (skipN s false i) s.size)).2.2))
    else ⟨[], skipN s false i, (nx (s.extract (skipN s false i) s.size)).1⟩
theorem splitF_enough (s : ByteArray) : ∀ n m i, s.size - i < n → s.size - i < m → splitF s n i = splitF s m i
  | 0, _, _, h, _ => absurd h (Nat.not_lt_zero _)
  | _, 0, _, _, h => absurd h (Nat.not_lt_zero _)
  | n + 1, m + 1, i, hn, hm => by
    have hge := skip_ge s false i
    unfold splitF
    by_cases h1 : s.size ≤ skipN s false i
    · rw [if_pos h1, if_pos h1]
    · rw [if_neg h1, if_neg h1]
      by_cases h2 : (nx (s.extract (skipN s false i) s.size)).1 = 0
      · rw [if_pos h2, if_pos h2]
        have hs : (s.extract (skipN s false i) s.size).size = s.size - skipN s false i := size_extract (by omega) (Nat.le_refl _)
        have hp := nx_pos (s := s.extract (skipN s false i) s.size) (by omega) h2
        rw [splitF_enough s n m _ (by omega) (by omega)]
      · rw [if_neg h2, if_neg h2]
/-- The tokens from place i on. -/
def splitA (s : ByteArray) (i : Nat) : Out := splitF s (s.size - i + 1) i
theorem splitA_end {s : ByteArray} {i : Nat} (h : s.size ≤ skipN s false i) : splitA s i = ⟨[(noT, (s.size : Int))], 0, 0⟩ := by
  unfold splitA splitF
  rw [if_pos h]
theorem splitA_bad {s : ByteArray} {i j : Nat} (hj : skipN s false i = j) (h : j < s.size) (he : ¬ (nx (s.extract j s.size)).1 = 0) : splitA s i = ⟨[], j, (nx (s.extract j s.size)).1⟩ := by
  subst hj
  unfold splitA splitF
  rw [if_neg (by omega), if_neg he]
theorem splitA_ok {s : ByteArray} {i j : Nat} (hj : skipN s false i = j) (h : j < s.size) (he : (nx (s.extract j s.size)).1 = 0) : splitA s i = accO [((nx (s.extract j s.size)).2.1, (j : Int))] (splitA s (j + (nx (s.extract j s.size)).2.2)) := by
  subst hj
  have hge := skip_ge s false i
  have hs : (s.extract (skipN s false i) s.size).size = s.size - skipN s false i := size_extract (by omega) (Nat.le_refl _)
  have hp := nx_pos (s := s.extract (skipN s false i) s.size) (by omega) he
  conv => lhs; unfold splitA splitF
  rw [if_neg (by omega), if_pos he]
  unfold splitA
  rw [splitF_enough s _ (s.size - (skipN s false i + (nx (s.extract (skipN s false i) s.size)).2.2) + 1) _ (by omega) (by omega)]
theorem splitA_skip {s : ByteArray} {i j : Nat} (h : skipN s false i = skipN s false j) (hi : i ≤ s.size) (hj : j ≤ s.size) : splitA s i = splitA s j := by
  unfold splitA
  rw [splitF_enough s _ (s.size + 1) i (by omega) (by omega), splitF_enough s _ (s.size + 1) j (by omega) (by omega)]
  unfold splitF
  rw [h]

/-- The tokens of a text. -/
def splitP (s : ByteArray) : Out := if 65536 < s.size then ⟨[], 0, 2⟩ else splitA s 0

end Wh

