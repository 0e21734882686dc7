/-
  Pieces of a text, plainly: how far a kind of byte goes; blanks and comments. No program's functions. · letter, digit, run, skip, of the reference. · name, of the reference. · integer, of the reference. · The longest symbol with which a text begins, plainly (the reference's symbol goes over the same two lists). · strings.ReplaceAll at apostrophes, plainly: a pair for one, one for a pair; the text literal with which a text begins. No program's functions.
-/
import Derived.Test.YtloccocengegnaaDoorGStr
import Derived.Test.YtloccocengegnaaDoorGRet
import Derived.OwnWalk
import Derived.Lib.Replace
import Derived.Lib.ReplaceLaws
set_option linter.unusedVariables false
namespace Wh
open Go

def lowB (c : Nat) : Bool := decide (97 ≤ c) && decide (c ≤ 122)
def numB (c : Nat) : Bool := decide (48 ≤ c) && decide (c ≤ 57)
def wordB (c : Nat) : Bool := lowB c || numB c || decide (c = 95)
/-- The number of bytes of the kind p with which a text begins. -/
def spanN (p : Nat → Bool) (s : ByteArray) : Nat := ((bts s).takeWhile fun x => p x.toNat).length

theorem takeWhile_stop {α : Type} (q : α → Bool) : ∀ (l : List α) (n : Nat), (∀ j x, j < n → l[j]? = some x → q x = true) → n ≤ l.length → (n = l.length ∨ ∃ x, l[n]? = some x ∧ q x = false) → (l.takeWhile q).length = n
  | [], n, _, h2, _ => by
    simp at h2
    subst h2
    rfl
  | x :: l, 0, _, _, h3 => by
    rcases h3 with h3 | ⟨y, hy, hq⟩
    · simp at h3
    · simp at hy
      subst hy
      rw [List.takeWhile_cons, hq]
      rfl
  | x :: l, n + 1, h1, h2, h3 => by
    have hx := h1 0 x (by omega) rfl
    rw [List.takeWhile_cons, hx]
    simp only [if_true, List.length_cons, Nat.add_right_cancel_iff]
    refine takeWhile_stop q l n (fun j y hj hy => h1 (j + 1) y (by omega) (by simpa using hy)) (by simpa using h2) ?_
    rcases h3 with h3 | ⟨y, hy, hq⟩
    · left; simpa using h3
    · right; exact ⟨y, by simpa using hy, hq⟩
theorem spanN_eq {p : Nat → Bool} {s : ByteArray} {n : Nat} (h1 : ∀ j, j < n → p (btN s j) = true) (h2 : n ≤ s.size) (h3 : n = s.size ∨ p (btN s n) = false) : spanN p s = n := by
  unfold spanN
  refine takeWhile_stop _ (bts s) n (fun j x hj hx => by rw [← btN_of hx]; exact h1 j hj) (by rw [bts_length]; exact h2) ?_
  by_cases hn : n = s.size
  · left; rw [bts_length]; exact hn
  · obtain ⟨x, hx⟩ := bts_at (s := s) (i := n) (by omega)
    right
    refine ⟨x, hx, ?_⟩
    rw [← btN_of hx]
    rcases h3 with h3 | h3
    · exact absurd h3 hn
    · exact h3

/-- The number of bytes that are blank or in a comment (inC: a comment has begun). -/
def skipG (inC : Bool) : List UInt8 → Nat
  | [] => 0
  | x :: l => if inC = true then 1 + skipG (decide (x.toNat ≠ 10)) l else if x.toNat = 32 ∨ x.toNat = 9 ∨ x.toNat = 10 then 1 + skipG false l else if x.toNat = 35 then 1 + skipG true l else 0
def skipN (s : ByteArray) (inC : Bool) (i : Nat) : Nat := i + skipG inC ((bts s).drop i)
theorem drop_at {s : ByteArray} {i : Nat} (h : i < s.size) : ∃ x, (bts s).drop i = x :: (bts s).drop (i + 1) ∧ x.toNat = btN s i := by
  obtain ⟨x, hx⟩ := bts_at h
  have hk := List.getElem?_eq_some_iff.1 hx
  exact ⟨x, by rw [List.drop_eq_getElem_cons hk.1, hk.2], (btN_of hx).symm⟩
theorem skip_end {s : ByteArray} {i : Nat} (c : Bool) (h : s.size ≤ i) : skipN s c i = i := by
  unfold skipN
  rw [List.drop_of_length_le (by rw [bts_length]; exact h)]
  rfl
theorem skip_blank {s : ByteArray} {i : Nat} (h : i < s.size) (hb : btN s i = 32 ∨ btN s i = 9 ∨ btN s i = 10) : skipN s false i = skipN s false (i + 1) := by
  obtain ⟨x, e, hx⟩ := drop_at h
  unfold skipN
  rw [e]
  simp only [skipG, hx, if_pos hb]
  simp
  omega
theorem skip_hash {s : ByteArray} {i : Nat} (h : i < s.size) (hb : btN s i = 35) : skipN s false i = skipN s true (i + 1) := by
  obtain ⟨x, e, hx⟩ := drop_at h
  unfold skipN
  rw [e]
  simp only [skipG, hx, hb]
  simp
  omega
theorem skip_stop {s : ByteArray} {i : Nat} (h : i < s.size) (h1 : ¬ btN s i = 32) (h2 : ¬ btN s i = 9) (h3 : ¬ btN s i = 10) (h4 : ¬ btN s i = 35) : skipN s false i = i := by
  obtain ⟨x, e, hx⟩ := drop_at h
  unfold skipN
  rw [e]
  simp [skipG, hx, h1, h2, h3, h4]
theorem skip_in {s : ByteArray} {i : Nat} (h : i < s.size) (hb : ¬ btN s i = 10) : skipN s true i = skipN s true (i + 1) := by
  obtain ⟨x, e, hx⟩ := drop_at h
  unfold skipN
  rw [e]
  simp [skipG, hx, hb]
  omega
/-- A comment ends ahead of the line feed; this one is blank. -/
theorem skip_out {s : ByteArray} {i : Nat} (h : i < s.size) (hb : btN s i = 10) : skipN s true i = skipN s false i := by
  obtain ⟨x, e, hx⟩ := drop_at h
  unfold skipN
  rw [e]
  simp [skipG, hx, hb]

/-- The longest symbol with which a text begins: its length, or 0. -/
def symN (s : ByteArray) : Nat :=
  if 2 ≤ s.size ∧ ((btN s 0 = 43 ∧ btN s 1 = 43) ∨ (btN s 0 = 60 ∧ btN s 1 = 61) ∨ (btN s 0 = 62 ∧ btN s 1 = 61) ∨ (btN s 0 = 33 ∧ btN s 1 = 61)) then 2
  else if 1 ≤ s.size ∧ btN s 0 ∈ [40, 41, 44, 59, 58, 124, 61, 43, 45, 42, 47, 37, 60, 62] then 1 else 0

end Wh

set_option linter.unusedVariables false
set_option maxRecDepth 100000
namespace Go.Proofs.YtloccocengegnaaDoor
open Go.RowKit Wh

end Go.Proofs.YtloccocengegnaaDoor

set_option linter.unusedVariables false
set_option maxRecDepth 100000
namespace Wh

/-- The length of the name with which a text begins, and the error. -/
def nameT (s : ByteArray) : Int × Int :=
  if 24 < spanN wordB s then (0, 4)
  else if spanN wordB s + 1 < s.size ∧ btN s (spanN wordB s) = 46 ∧ lowB (btN s (spanN wordB s + 1)) = true then
    (if 24 < spanN wordB (s.extract (spanN wordB s + 1) s.size) then (0, 4) else ((spanN wordB s : Int) + (1 + (spanN wordB (s.extract (spanN wordB s + 1) s.size) : Int)), 0))
  else ((spanN wordB s : Int), 0)
theorem takeWhile_le {α : Type} (q : α → Bool) : ∀ l : List α, (l.takeWhile q).length ≤ l.length
  | [] => Nat.le_refl _
  | x :: l => by
    have := takeWhile_le q l
    rw [List.takeWhile_cons]
    split
    · simp; exact this
    · simp
theorem spanN_le (p : Nat → Bool) (s : ByteArray) : spanN p s ≤ s.size := by
  unfold spanN
  rw [← bts_length]
  exact takeWhile_le _ _

end Wh
namespace Go.Proofs.YtloccocengegnaaDoor
open Go.RowKit Wh

end Go.Proofs.YtloccocengegnaaDoor

set_option linter.unusedVariables false
set_option maxRecDepth 100000
namespace Wh

/-- What the first k digits say, MaxInt + 1 at most. -/
def decV (s : ByteArray) : Nat → Int
  | 0 => 0
  | k + 1 => min (decV s k * 10 + ((btN s k : Int) - 48)) 1073741825
def badI (s : ByteArray) : Bool := (decide (1 < spanN numB s) && decide (btN s 0 = 48)) || (decide (spanN numB s < s.size) && (lowB (btN s (spanN numB s)) || decide (btN s (spanN numB s) = 95)))
/-- The integer with which a text begins, its length, and the error. -/
def intT (s : ByteArray) : Int × Int × Int :=
  if badI s = true then (0, 0, 3) else if 1073741824 < decV s (spanN numB s) then (0, 0, 1) else (decV s (spanN numB s), (spanN numB s : Int), 0)
theorem numB_bd {c : Nat} (h : numB c = true) : 48 ≤ c ∧ c ≤ 57 := by
  unfold numB at h
  simpa using h
theorem decV_bd {s : ByteArray} : ∀ k, (∀ j, j < k → numB (btN s j) = true) → 0 ≤ decV s k ∧ decV s k ≤ 1073741825
  | 0, _ => by simp [decV]
  | k + 1, h => by
    have ih := decV_bd k fun j hj => h j (by omega)
    have := numB_bd (h k (by omega))
    unfold decV
    omega

end Wh
namespace Go.Proofs.YtloccocengegnaaDoor
open Go.RowKit Wh

end Go.Proofs.YtloccocengegnaaDoor

set_option linter.unusedVariables false
set_option maxRecDepth 100000
namespace Wh

def twoL (i : Nat) : ByteArray := [⟨#[43, 43]⟩, ⟨#[60, 61]⟩, ⟨#[62, 61]⟩, ⟨#[33, 61]⟩].getD i ⟨#[]⟩
def oneL : ByteArray := ⟨#[40, 41, 44, 59, 58, 124, 61, 43, 45, 42, 47, 37, 60, 62]⟩
/-- Is the text's beginning the symbol i of two bytes? -/
def isTwo (s : ByteArray) (i : Nat) : Bool := decide (2 ≤ s.size) && ((s.extract 0 2).toList == (twoL i).toList)
def isOne (s : ByteArray) (i : Nat) : Bool := decide (1 ≤ s.size) && decide (btN s 0 = btN oneL i)
/-- The longest symbol with which a text begins. -/
def symS (s : ByteArray) : ByteArray :=
  match (List.range 4).find? (isTwo s) with
  | some i => twoL i
  | none => if (List.range 14).any (isOne s) = true then s.extract 0 1 else ⟨#[]⟩

theorem symS_two {s : ByteArray} {k : Nat} (hk : k < 4) (h : ∀ j, j < k → isTwo s j = false) (ht : isTwo s k = true) : symS s = twoL k := by
  unfold symS
  rw [show List.range 4 = [0, 1, 2, 3] from rfl]
  rcases (show k = 0 ∨ k = 1 ∨ k = 2 ∨ k = 3 by omega) with rfl | rfl | rfl | rfl
  · simp [ht]
  · simp [ht, h 0]
  · simp [ht, h 0, h 1]
  · simp [ht, h 0, h 1, h 2]
theorem symS_one {s : ByteArray} (h : ∀ j, j < 4 → isTwo s j = false) : symS s = if (List.range 14).any (isOne s) = true then s.extract 0 1 else ⟨#[]⟩ := by
  unfold symS
  rw [show List.range 4 = [0, 1, 2, 3] from rfl]
  simp [h 0, h 1, h 2, h 3]

end Wh

set_option linter.unusedVariables false
namespace Wh
open Go

theorem replaceK_eq (F : List UInt8 → List UInt8) {old new : List UInt8} (h1 : old ≠ [])
    (hno : ∀ s, Lib.index s old = -1 → F s = s)
    (hat : ∀ s (i : Nat), Lib.index s old = i → F s = s.take i ++ new ++ F (s.drop (i + old.length))) :
    ∀ (k : Nat) (s : List UInt8), Lib.count s old = k → Lib.replaceK old new k s = F s
  | 0, s, h => by
    have hm : Lib.index s old = -1 := by
      have hge := Lib.index_ge s old
      by_cases hm : Lib.index s old = -1
      · exact hm
      · obtain ⟨i, hi⟩ : ∃ i : Nat, Lib.index s old = i := ⟨(Lib.index s old).toNat, by omega⟩
        rw [Lib.count_hit h1 hi] at h
        omega
    rw [Lib.replaceK, hno s hm]
  | k + 1, s, h => by
    obtain ⟨i, hi⟩ := Lib.index_of_count (s := s) (old := old) (by omega)
    rw [Lib.count_hit h1 hi] at h
    rw [Lib.replaceK_hit _ _ _ _ _ hi, hat s i hi, replaceK_eq F h1 hno hat k _ (by omega)]
theorem replaceAll_eq (F : List UInt8 → List UInt8) {old new : List UInt8} (h1 : old ≠ []) (h2 : (old == new) = false)
    (hno : ∀ s, Lib.index s old = -1 → F s = s)
    (hat : ∀ s (i : Nat), Lib.index s old = i → F s = s.take i ++ new ++ F (s.drop (i + old.length))) (s : List UInt8) :
    Lib.replaceAll s old new = F s := by
  have hn : Lib.replaceNum s old (-1) = Lib.count s old := by unfold Lib.replaceNum; rw [if_pos (by omega)]
  unfold Lib.replaceAll Lib.replace
  rw [hn, h2]
  exact replaceK_eq F h1 hno hat _ s rfl

/-- Two apostrophes for each one. -/
def dbl : List UInt8 → List UInt8
  | [] => []
  | x :: l => if x = 39 then 39 :: 39 :: dbl l else x :: dbl l
/-- One apostrophe for each pair, from the left. -/
def unp : List UInt8 → List UInt8
  | [] => []
  | [x] => [x]
  | x :: y :: l => if x = 39 ∧ y = 39 then 39 :: unp l else x :: unp (y :: l)

theorem index_cons (b : UInt8) (l sub : List UInt8) : Lib.index (b :: l) sub = if sub.isPrefixOf (b :: l) then 0 else if Lib.index l sub == -1 then -1 else Lib.index l sub + 1 := rfl
theorem index_cons_no {b : UInt8} {l sub : List UInt8} (h : Lib.index (b :: l) sub = -1) : sub.isPrefixOf (b :: l) = false ∧ Lib.index l sub = -1 := by
  rw [index_cons] at h
  cases hp : sub.isPrefixOf (b :: l) with
  | true => rw [hp] at h; simp at h
  | false =>
    rw [hp] at h
    have hge := Lib.index_ge l sub
    by_cases hm : Lib.index l sub = -1
    · exact ⟨rfl, hm⟩
    · have : (Lib.index l sub == -1) = false := by rw [beq_eq_false_iff_ne]; exact hm
      rw [this] at h
      simp at h
      omega
theorem index_cons_at {b : UInt8} {l sub : List UInt8} {i : Nat} (h : Lib.index (b :: l) sub = i) : (sub.isPrefixOf (b :: l) = true ∧ i = 0) ∨ (sub.isPrefixOf (b :: l) = false ∧ ∃ j : Nat, i = j + 1 ∧ Lib.index l sub = j) := by
  rw [index_cons] at h
  cases hp : sub.isPrefixOf (b :: l) with
  | true => rw [hp] at h; simp at h; exact .inl ⟨rfl, by omega⟩
  | false =>
    rw [hp] at h
    have hge := Lib.index_ge l sub
    by_cases hm : Lib.index l sub = -1
    · rw [hm] at h; simp at h
    · have : (Lib.index l sub == -1) = false := by rw [beq_eq_false_iff_ne]; exact hm
      rw [this] at h
      simp at h
      exact .inr ⟨rfl, (Lib.index l sub).toNat, by omega, by omega⟩

theorem dbl_replace (s : List UInt8) : Lib.replaceAll s [39] [39, 39] = dbl s := by
  refine replaceAll_eq dbl (by simp) (by decide) ?_ ?_ s
  · intro s
    induction s with
    | nil => intro _; rfl
    | cons x l ih =>
      intro h
      obtain ⟨h1, h2⟩ := index_cons_no h
      have hx : ¬ x = 39 := by rintro rfl; simp [List.isPrefixOf] at h1
      rw [dbl, if_neg hx, ih h2]
  · intro s
    induction s with
    | nil => intro i h; simp [Lib.index] at h
    | cons x l ih =>
      intro i h
      rcases index_cons_at h with ⟨h1, rfl⟩ | ⟨h1, j, rfl, h2⟩
      · have hx : x = 39 := by simp [List.isPrefixOf] at h1; exact h1.symm
        subst hx
        simp [dbl]
      · have hx : ¬ x = 39 := by rintro rfl; simp [List.isPrefixOf] at h1
        rw [dbl, if_neg hx, ih j h2, List.take_succ_cons]
        have : j + 1 + ([39] : List UInt8).length = (j + ([39] : List UInt8).length) + 1 := by simp
        rw [this, List.drop_succ_cons]
        simp
theorem unp_replace (s : List UInt8) : Lib.replaceAll s [39, 39] [39] = unp s := by
  refine replaceAll_eq unp (by simp) (by decide) ?_ ?_ s
  · intro s
    induction s with
    | nil => intro _; rfl
    | cons x l ih =>
      intro h
      obtain ⟨h1, h2⟩ := index_cons_no h
      cases l with
      | nil => rfl
      | cons y l =>
        have hx : ¬ (x = 39 ∧ y = 39) := by rintro ⟨rfl, rfl⟩; simp [List.isPrefixOf] at h1
        rw [unp, if_neg hx, ih h2]
  · intro s
    induction s with
    | nil => intro i h; simp [Lib.index] at h
    | cons x l ih =>
      intro i h
      rcases index_cons_at h with ⟨h1, rfl⟩ | ⟨h1, j, rfl, h2⟩
      · cases l with
        | nil => simp [List.isPrefixOf] at h1
        | cons y l =>
          have hx : x = 39 ∧ y = 39 := by simp [List.isPrefixOf] at h1; exact ⟨h1.1.symm, h1.2.symm⟩
          rw [unp, if_pos hx]
          simp
      · cases l with
        | nil => simp [Lib.index] at h2
        | cons y l =>
          have hx : ¬ (x = 39 ∧ y = 39) := by rintro ⟨rfl, rfl⟩; simp [List.isPrefixOf] at h1
          rw [unp, if_neg hx, ih j h2, List.take_succ_cons]
          have : j + 1 + ([39, 39] : List UInt8).length = (j + ([39, 39] : List UInt8).length) + 1 := by simp
          rw [this, List.drop_succ_cons]
          simp

theorem dbl_length_le (l : List UInt8) : (dbl l).length ≤ 2 * l.length := by
  induction l with
  | nil => simp [dbl]
  | cons x l ih => unfold dbl; split <;> simp <;> omega

/-- Behind the opening apostrophe of a literal: its text, and how many bytes go to its end, this one counted. -/
def litL : List UInt8 → Option (List UInt8 × Nat)
  | [] => none
  | [x] => if x = 39 then some ([], 1) else none
  | x :: y :: l => if x = 39 then (if y = 39 then (litL l).map fun p => (39 :: p.1, p.2 + 2) else some ([], 1)) else (litL (y :: l)).map fun p => (x :: p.1, p.2 + 1)

theorem litL_stop {l : List UInt8} (h : ∀ y, l[0]? = some y → ¬ y = 39) : litL (39 :: l) = some ([], 1) := by
  cases l with
  | nil => simp [litL]
  | cons y l => rw [litL, if_pos rfl, if_neg (h y rfl)]
theorem litL_pair (l : List UInt8) : litL (39 :: 39 :: l) = (litL l).map fun p => (39 :: p.1, p.2 + 2) := by rw [litL, if_pos rfl, if_pos rfl]
theorem litL_byte {x : UInt8} (hx : ¬ x = 39) (l : List UInt8) : litL (x :: l) = (litL l).map fun p => (x :: p.1, p.2 + 1) := by
  cases l with
  | nil => simp [litL, hx]
  | cons y l => rw [litL, if_neg hx]

theorem litL_facts : ∀ (k : Nat) (l : List UInt8), l.length ≤ k → ∀ c n, litL l = some (c, n) → 1 ≤ n ∧ n ≤ l.length ∧ unp (l.take (n - 1)) = c ∧ n = (dbl c).length + 1
  | _, [], _, c, n, h => by simp [litL] at h
  | 0, x :: l, hk, _, _, _ => by simp at hk
  | k + 1, x :: l, hk, c, n, h => by
    by_cases hx : x = 39
    · subst hx
      cases l with
      | nil =>
        rw [litL_stop (by simp)] at h
        cases h
        simp [unp, dbl]
      | cons y l =>
        by_cases hy : y = 39
        · subst hy
          rw [litL_pair] at h
          cases hl : litL l with
          | none => rw [hl] at h; cases h
          | some p =>
            obtain ⟨c1, n1⟩ := p
            rw [hl] at h
            cases h
            obtain ⟨a, b, d, e⟩ := litL_facts k l (by simp at hk; omega) c1 n1 hl
            refine ⟨by omega, by simp; omega, ?_, ?_⟩
            · rw [show n1 + 2 - 1 = (n1 - 1) + 1 + 1 by omega, List.take_succ_cons, List.take_succ_cons, unp, if_pos ⟨rfl, rfl⟩, d]
            · rw [dbl, if_pos rfl]; simp; omega
        · rw [litL_stop (by simp; exact hy)] at h
          cases h
          simp [unp, dbl]
    · rw [litL_byte hx] at h
      cases hl : litL l with
      | none => rw [hl] at h; cases h
      | some p =>
        obtain ⟨c1, n1⟩ := p
        rw [hl] at h
        cases h
        obtain ⟨a, b, d, e⟩ := litL_facts k l (by simp at hk; omega) c1 n1 hl
        refine ⟨by omega, by simp; omega, ?_, ?_⟩
        · rw [show n1 + 1 - 1 = (n1 - 1) + 1 by omega, List.take_succ_cons]
          cases hz : l.take (n1 - 1) with
          | nil => rw [hz] at d; rw [← d]; rfl
          | cons y z => rw [hz] at d; rw [unp, if_neg (fun h => hx h.1), d]
        · rw [dbl, if_neg hx]; simp; omega

/-- A literal that was written is read. -/
theorem litL_dbl (t r : List UInt8) (hr : ∀ y, r[0]? = some y → ¬ y = 39) : litL (dbl t ++ 39 :: r) = some (t, (dbl t).length + 1) := by
  induction t with
  | nil => exact litL_stop hr
  | cons x t ih =>
    unfold dbl
    split
    · rename_i hx
      subst hx
      rw [List.cons_append, List.cons_append, litL_pair, ih]
      rfl
    · rename_i hx
      rw [List.cons_append, litL_byte hx, ih]
      rfl

end Wh

