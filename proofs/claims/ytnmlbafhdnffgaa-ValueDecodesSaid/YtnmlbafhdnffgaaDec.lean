/-
  What decoding bytes gives. No program is imported.
-/
import Derived.Test.YtnmlbafhdnffgaaOrder
namespace Wh
open Go

/-- The number that four bytes stand for. -/
def num4 (x0 x1 x2 x3 : UInt8) : Int := ((x0.toNat * 16777216 + x1.toNat * 65536 + x2.toNat * 256 + x3.toNat : Nat) : Int)

/-- The struct of a kind that bytes begin with, and the number of bytes that it takes. -/
def fieldsOf (k : UInt8) (l : List UInt8) : Option (V × Nat) :=
  if k = 0 then some (⟨0, 0, ⟨#[]⟩⟩, 0)
  else if k = 1 then (match l with
    | x :: _ => some (⟨1, x.toNat, ⟨#[]⟩⟩, 1)
    | [] => none)
  else if k = 2 then (match l with
    | x0 :: x1 :: x2 :: x3 :: _ => some (⟨2, num4 x0 x1 x2 x3 - 1073741824, ⟨#[]⟩⟩, 4)
    | _ => none)
  else if k = 4 then (match l with
    | x0 :: x1 :: x2 :: x3 :: _ => some (⟨4, num4 x0 x1 x2 x3, ⟨#[]⟩⟩, 4)
    | _ => none)
  else if k = 3 then (match l with
    | x :: r => if x.toNat ≤ r.length then some (⟨3, 0, ⟨(r.take x.toNat).toArray⟩⟩, 1 + x.toNat) else none
    | [] => none)
  else none

def nullV : V := ⟨0, 0, ⟨#[]⟩⟩

/-- The value that bytes begin with, and the number of bytes that it takes. -/
def readV : List UInt8 → Option (V × Nat)
  | [] => none
  | k :: r => match fieldsOf k r with
    | none => none
    | some (v, n) => if validB v.k v.n v.s = true then some (v, 1 + n) else none

/-- The row of n values that bytes are. -/
def readR : Nat → List UInt8 → Option (List V)
  | 0, l => if l.length = 0 then some [] else none
  | n + 1, l => match readV l with
    | none => none
    | some (v, k) => match readR n (l.drop k) with
      | none => none
      | some vs => some (v :: vs)

/-- What decoding gives: the row and the error. -/
def decOut : List UInt8 → List V × Int
  | [] => ([], 11)
  | n :: r => if 12 < n.toNat then ([], 11) else match readR n.toNat r with
    | none => ([], 11)
    | some vs => (vs, 0)

theorem fields_size {k : UInt8} {l : List UInt8} {v : V} {n : Nat} (h : fieldsOf k l = some (v, n)) : n ≤ l.length ∧ n ≤ 256 := by
  unfold fieldsOf at h
  split at h
  · simp only [Option.some.injEq, Prod.mk.injEq] at h; omega
  split at h
  · split at h
    · simp only [Option.some.injEq, Prod.mk.injEq] at h; simp; omega
    · cases h
  split at h
  · split at h
    · simp only [Option.some.injEq, Prod.mk.injEq] at h; simp; omega
    · cases h
  split at h
  · split at h
    · simp only [Option.some.injEq, Prod.mk.injEq] at h; simp; omega
    · cases h
  split at h
  · split at h
    · rename_i x r
      have := x.toNat_lt
      split at h
      · simp only [Option.some.injEq, Prod.mk.injEq] at h; simp; omega
      · cases h
    · cases h
  · cases h

theorem read_size {l : List UInt8} {v : V} {n : Nat} (h : readV l = some (v, n)) : 1 ≤ n ∧ n ≤ l.length ∧ n ≤ 257 ∧ validB v.k v.n v.s = true := by
  cases l with
  | nil => simp [readV] at h
  | cons k r =>
    simp only [readV] at h
    split at h
    · cases h
    · rename_i v' n' hf
      have := fields_size hf
      split at h
      · rename_i hv
        simp only [Option.some.injEq, Prod.mk.injEq] at h
        obtain ⟨rfl, rfl⟩ := h
        simp only [List.length_cons]
        exact ⟨by omega, by omega, by omega, hv⟩
      · cases h

end Wh
