/-
  Plain functions on numbers and lists of bytes: what the value layer computes. No program is imported.
-/
import Derived.Lib.Bytealg
namespace Wh
open Go

/-- A value: kind, number, text. -/
structure V where
  k : Int
  n : Int
  s : ByteArray

def bytes (v : V) : List UInt8 := v.s.data.toList

/-- Is it a value? -/
def validB (k n : Int) (s : ByteArray) : Bool :=
  (decide (k = 0) && decide (n = 0) && s.toList.isEmpty) || (decide (k = 1) && (decide (n = 0) || decide (n = 1)) && s.toList.isEmpty) ||
  (decide (k = 2) && decide (-1073741824 ≤ n) && decide (n ≤ 1073741824) && s.toList.isEmpty) || (decide (k = 3) && decide (n = 0) && decide (s.size ≤ 64)) ||
  (decide (k = 4) && decide (0 ≤ n) && decide (n ≤ 575999999) && s.toList.isEmpty)

/-- The truth of a value: 1, 0 or -1. -/
def truthZ (k n : Int) (s : ByteArray) : Int :=
  if k = 1 ∧ (n = 0 ∨ n = 1) ∧ s.toList.isEmpty = true then n else -1

/-- -1, 0 or 1. -/
def cmpI (a b : Int) : Int := if a < b then -1 else if b < a then 1 else 0

/-- Two texts, by their bytes. -/
def cmpS (a b : ByteArray) : Int := Lib.compareBytes a.data.toList b.data.toList

/-- Two structs: by kind, number and text. -/
def cmpV (a b : V) : Int :=
  if (cmpI a.k b.k == 0) = false then cmpI a.k b.k else if (cmpI a.n b.n == 0) = false then cmpI a.n b.n else cmpS a.s b.s

theorem less_iff : ∀ a b : List UInt8, Op.bytesLess a b = true ↔ Lib.compareBytes a b = -1
  | [], [] => by simp [Op.bytesLess, Lib.compareBytes]
  | [], _ :: _ => by simp [Op.bytesLess, Lib.compareBytes]
  | _ :: _, [] => by simp [Op.bytesLess, Lib.compareBytes]
  | x :: a, y :: b => by
    have ih := less_iff a b
    unfold Op.bytesLess Lib.compareBytes
    by_cases h : x < y
    · simp [h]
    · by_cases e : x = y
      · subst e; simp [h, ih]
      · have h2 : y < x := UInt8.lt_of_le_of_ne (UInt8.not_lt.1 h) (Ne.symm e)
        simp [h, e, h2]

theorem cmpB_zero : ∀ a b : List UInt8, Lib.compareBytes a b = 0 ↔ a = b
  | [], [] => by simp [Lib.compareBytes]
  | [], _ :: _ => by simp [Lib.compareBytes]
  | _ :: _, [] => by simp [Lib.compareBytes]
  | x :: a, y :: b => by
    have ih := cmpB_zero a b
    unfold Lib.compareBytes
    by_cases h : x < y
    · have hne : x ≠ y := UInt8.ne_of_lt h
      simp [h, hne]
    · by_cases e : x = y
      · subst e; simp [h, ih]
      · have h2 : y < x := UInt8.lt_of_le_of_ne (UInt8.not_lt.1 h) (Ne.symm e)
        simp [h, e, h2]

theorem cmpB_neg : ∀ a b : List UInt8, Lib.compareBytes b a = - Lib.compareBytes a b
  | [], [] => by simp [Lib.compareBytes]
  | [], _ :: _ => by simp [Lib.compareBytes]
  | _ :: _, [] => by simp [Lib.compareBytes]
  | x :: a, y :: b => by
    have ih := cmpB_neg a b
    unfold Lib.compareBytes
    by_cases h : x < y
    · have h2 : ¬ y < x := UInt8.lt_asymm h
      simp [h, h2]
    · by_cases e : x = y
      · subst e; simp [h, ih]
      · have h2 : y < x := UInt8.lt_of_le_of_ne (UInt8.not_lt.1 h) (Ne.symm e)
        simp [h, h2]

theorem cmpB_vals : ∀ a b : List UInt8, Lib.compareBytes a b = -1 ∨ Lib.compareBytes a b = 0 ∨ Lib.compareBytes a b = 1
  | [], [] => by simp [Lib.compareBytes]
  | [], _ :: _ => by simp [Lib.compareBytes]
  | _ :: _, [] => by simp [Lib.compareBytes]
  | x :: a, y :: b => by
    have ih := cmpB_vals a b
    unfold Lib.compareBytes
    split
    · simp
    · split
      · simp
      · exact ih

theorem cmpB_trans : ∀ a b c : List UInt8, Lib.compareBytes a b = -1 → Lib.compareBytes b c = -1 → Lib.compareBytes a c = -1
  | _, [], _ => by intro h; rename_i a _; cases a <;> simp [Lib.compareBytes] at h
  | [], _ :: _, [] => by simp [Lib.compareBytes]
  | [], _ :: _, _ :: _ => by simp [Lib.compareBytes]
  | _ :: _, _ :: _, [] => by simp [Lib.compareBytes]
  | x :: a, y :: b, z :: c => by
    have ih := cmpB_trans a b c
    unfold Lib.compareBytes
    intro h1 h2
    by_cases xy : x < y
    · by_cases yz : y < z
      · have xz : x < z := UInt8.lt_trans xy yz
        simp [xz]
      · by_cases e : y = z
        · subst e; simp [xy]
        · have zy : z < y := UInt8.lt_of_le_of_ne (UInt8.not_lt.1 yz) (Ne.symm e)
          simp [yz, zy] at h2
    · by_cases e : x = y
      · subst e
        simp [xy] at h1
        by_cases xz : x < z
        · simp [xz]
        · by_cases e : x = z
          · subst e; simp [xz] at h2 ⊢; exact ih h1 h2
          · have zx : z < x := UInt8.lt_of_le_of_ne (UInt8.not_lt.1 xz) (Ne.symm e)
            simp [xz, zx] at h2
      · have yx : y < x := UInt8.lt_of_le_of_ne (UInt8.not_lt.1 xy) (Ne.symm e)
        simp [xy, yx] at h1

/-- The four bytes of a number, the most significant one first. -/
def four (x : Int) : List UInt8 := [UInt8.ofNat (x / 16777216).toNat, UInt8.ofNat (x / 65536).toNat, UInt8.ofNat (x / 256).toNat, UInt8.ofNat x.toNat]

/-- The encoding of a value. -/
def encV (v : V) : List UInt8 :=
  UInt8.ofNat v.k.toNat ::
    (if v.k = 1 then [UInt8.ofNat v.n.toNat] else if v.k = 2 then four (v.n + 1073741824) else if v.k = 3 then UInt8.ofNat v.s.size :: v.s.data.toList else if v.k = 4 then four v.n else [])

theorem valid_cases {k n : Int} {s : ByteArray} (h : validB k n s = true) :
    (k = 0 ∧ n = 0 ∧ s.toList.isEmpty = true) ∨ (k = 1 ∧ n = 0 ∧ s.toList.isEmpty = true) ∨ (k = 1 ∧ n = 1 ∧ s.toList.isEmpty = true) ∨
    (k = 2 ∧ -1073741824 ≤ n ∧ n ≤ 1073741824 ∧ s.toList.isEmpty = true) ∨ (k = 3 ∧ n = 0 ∧ s.size ≤ 64) ∨ (k = 4 ∧ 0 ≤ n ∧ n ≤ 575999999 ∧ s.toList.isEmpty = true) := by
  simp only [validB, Bool.or_eq_true, Bool.and_eq_true, decide_eq_true_eq] at h
  rcases h with (((⟨⟨a, b⟩, c⟩ | ⟨⟨a, b | b⟩, c⟩) | ⟨⟨⟨a, b⟩, b'⟩, c⟩) | ⟨⟨a, b⟩, c⟩) | ⟨⟨⟨a, b⟩, b'⟩, c⟩
  · exact .inl ⟨a, b, c⟩
  · exact .inr (.inl ⟨a, b, c⟩)
  · exact .inr (.inr (.inl ⟨a, b, c⟩))
  · exact .inr (.inr (.inr (.inl ⟨a, b, b', c⟩)))
  · exact .inr (.inr (.inr (.inr (.inl ⟨a, b, c⟩))))
  · exact .inr (.inr (.inr (.inr (.inr ⟨a, b, b', c⟩))))

/-- The encoding of a row of values. -/
def encR (vs : List V) : List UInt8 := UInt8.ofNat vs.length :: vs.flatMap encV

theorem enc_len {v : V} (h : validB v.k v.n v.s = true) : 1 ≤ (encV v).length ∧ (encV v).length ≤ 66 := by
  obtain ⟨k, n, s⟩ := v
  rcases valid_cases h with ⟨rfl, _⟩ | ⟨rfl, _⟩ | ⟨rfl, _⟩ | ⟨rfl, _⟩ | ⟨rfl, _, h1⟩ | ⟨rfl, _⟩ <;> simp [encV, four]
  exact h1

theorem flat_len : ∀ {l : List V}, (∀ v, v ∈ l → validB v.k v.n v.s = true) → (l.flatMap encV).length ≤ 66 * l.length
  | [], _ => by simp
  | v :: l, h => by
    have h1 := (enc_len (h v (by simp))).2
    have h2 := flat_len (l := l) fun x hx => h x (by simp [hx])
    simp only [List.flatMap_cons, List.length_append, List.length_cons]
    omega

theorem take_next {vs : List V} {k : Nat} {v : V} (h : vs[k]? = some v) : vs.take (k + 1) = vs.take k ++ [v] := by
  rw [List.take_add_one, h]
  rfl

/-- A byte as the program holds it. -/
def B (b : UInt8) : Value := .int .u8 b.toNat

end Wh
