/-
  Format of the reference.
-/
import Derived.Test.YtloccocengegnaaDoorCPad
import Derived.Test.YtloccocengegnaaDoorCDate
set_option linter.unusedVariables false
namespace Wh

/-- The text of minute t of a day. -/
def fmtL (y : Int) (k : Nat) (d : Int) (t : Nat) : List UInt8 :=
  digs 4 y.toNat ++ [45] ++ digs 2 (k + 1) ++ [45] ++ digs 2 d.toNat ++ [84] ++ digs 2 (t / 60) ++ [58] ++ digs 2 (t % 60)

theorem fmtL_length (y : Int) (k : Nat) (d : Int) (t : Nat) : (fmtL y k d t).length = 16 := by
  simp [fmtL, digs_length]

/-- Every number of minutes is a minute of a day that has a date. -/
theorem time_of {m : Int} (h0 : 0 ≤ m) (h1 : m ≤ 575999999) : ∃ (y : Int) (k : Nat) (d : Int) (t : Nat), Dt y k d ∧ t < 1440 ∧ dayZ y k d ≤ 399999 ∧ m = dayZ y k d * 1440 + t := by
  obtain ⟨y, k, d, hd, e⟩ := date_of (n := m / 1440) (by omega) (by omega)
  exact ⟨y, k, d, (m % 1440).toNat, hd, by omega, by omega, by omega⟩

end Wh
namespace Go.Proofs.YtloccocengegnaaDoor
open Go.RowKit Wh

/-- The call returns a text and an error, and nothing that was there has changed. -/
def IsTxt (l : List UInt8) (x : Int) (w : World) (e : Ending) (w' : World) : Prop := e = .returned (.tuple #[.string ⟨l.toArray⟩, .int .i64 x]) ∧ Below w.heap.size w w'

theorem ret_txt {a b : ByteArray} {x y : Int} (h : a = b) (g : x = y) : Ending.returned (.tuple #[.string a, .int .i64 x]) = .returned (.tuple #[.string b, .int .i64 y]) := by rw [h, g]

end Go.Proofs.YtloccocengegnaaDoor

