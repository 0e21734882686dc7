/-
  Format of the reference.
-/
import Derived.Test.YtloccocengegnaaGreatDoorCPad
import Derived.Test.YtloccocengegnaaGreatDoorCDate
set_option linter.unusedVariables false
namespace Wh

/-- The text of minute t of a day. -/
def fmtL (y : Int) (k : Nat) (d : Int) (t : Nat) : List UInt8 :=
  digs 4 y.toNat ++ [45] ++ digs 2 (k + 1) ++ [45] ++ digs 2 d.toNat ++ [84] ++ digs 2 (t / 60) ++ [58] ++ digs 2 (t % 60)

theorem fmtL_length (y : Int) (k : Nat) (d : Int) (t : Nat) : (fmtL y k d t).length = 16 := by
  simp [fmtL, digs_length]

/-- Every number of minutes is a minute of a day that has a date. -/
theorem time_of {m : Int} (h0 : 0 ≤ m) (h1 : m ≤ 575999999) : ∃ (y : Int) (k : Nat) (d : Int) (t : Nat), Dt y k d ∧ t < 1440 ∧ dayZ y k d ≤ 399999 ∧ m = dayZ y k d * 1440 + t := by
  obtain ⟨y, k, d, hd, e⟩ := date_of (n := m / 1440) (by omega) (by omega)
  exact ⟨y, k, d, (m % 1440).toNat, hd, by omega, by omega, by omega⟩

end Wh
namespace Go.Proofs.YtloccocengegnaaGreatDoor
open Go.RowKit Wh

/-- The call returns a text and an error, and nothing that was there has changed. -/
def IsTxt (l : List UInt8) (x : Int) (w : World) (e : Ending) (w' : World) : Prop := e = .returned (.tuple #[.string ⟨l.toArray⟩, .int .i64 x]) ∧ Below w.heap.size w w'

theorem ret_txt {a b : ByteArray} {x y : Int} (h : a = b) (g : x = y) : Ending.returned (.tuple #[.string a, .int .i64 x]) = .returned (.tuple #[.string b, .int .i64 y]) := by rw [h, g]

theorem rformat_bad (m : Int) (h : m < 0 ∨ 575999999 < m) (w : World) :
    Calls Tryz.prog 62 #[.int .i64 m] w (IsTxt [] 1 w) := by
  rcases (show m < 0 ∨ (0 ≤ m ∧ 575999999 < m) by omega) with h1 | ⟨h1, h2⟩
  all_goals
    clear h
    go_enter Tryz.func62, Tryz.ntmps62
    go_wp2_with fail
    go_ret2
    exact ⟨rfl, Below.refl _ _⟩

theorem rformat_any (y : Int) (k : Nat) (d : Int) (t : Nat) (hd : Dt y k d) (ht : t < 1440) (hn : dayZ y k d ≤ 399999) (w : World) :
    Calls Tryz.prog 62 #[.int .i64 (dayZ y k d * 1440 + t)] w (IsTxt (fmtL y k d t) 0 w) := by
  have n0 := hd.n0
  have y0 := hd.y0
  have y9 := hd.year
  have k1 := hd.k1
  have d0 := hd.d0
  have d9 : d ≤ 31 := by have := hd.d1; have := lenZ_bd y ((k : Int) + 1); omega
  have c0 := fun W => rdate_any y k d hd W
  obtain ⟨Y, rfl⟩ : ∃ Y : Nat, y = (Y : Int) := ⟨y.toNat, by omega⟩
  obtain ⟨D, rfl⟩ : ∃ D : Nat, d = (D : Int) := ⟨d.toNat, by omega⟩
  generalize dayZ (Y : Int) k D = n at *
  have c1 := fun W => padded_any Y 4 (by omega) (by omega) W
  have c2 := fun W => padded_any (k + 1) 2 (by omega) (by omega) W
  have c3 := fun W => padded_any D 2 (by omega) (by omega) W
  have c4 := fun W => padded_any (t / 60) 2 (by omega) (by omega) W
  have c5 := fun W => padded_any (t % 60) 2 (by omega) (by omega) W
  have hL : fmtL Y k D t = digs 4 Y ++ [45] ++ digs 2 (k + 1) ++ [45] ++ digs 2 D ++ [84] ++ digs 2 (t / 60) ++ [58] ++ digs 2 (t % 60) := rfl
  have l1 := digs_length 4 Y
  have l2 := digs_length 2 (k + 1)
  have l3 := digs_length 2 D
  have l4 := digs_length 2 (t / 60)
  have l5 := digs_length 2 (t % 60)
  generalize digs 4 Y = L1 at *
  generalize digs 2 (k + 1) = L2 at *
  generalize digs 2 D = L3 at *
  generalize digs 2 (t / 60) = L4 at *
  generalize digs 2 (t % 60) = L5 at *
  generalize fmtL Y k D t = L at *
  have e1 : (n * 1440 + (t : Int)) / 1440 = n := by omega
  have e2 : (n * 1440 + (t : Int)) % 1440 / 60 = ((t / 60 : Nat) : Int) := by omega
  have e3 : (n * 1440 + (t : Int)) % 60 = ((t % 60 : Nat) : Int) := by omega
  have m0 : 0 ≤ n * 1440 + (t : Int) := by omega
  have m9 : n * 1440 + (t : Int) ≤ 575999999 := by omega
  generalize n * 1440 + (t : Int) = m at *
  generalize t / 60 = H at *
  generalize t % 60 = M at *
  have C0 := Lib.hid c0
  have C1 := Lib.hid c1
  have C2 := Lib.hid c2
  have C3 := Lib.hid c3
  have C4 := Lib.hid c4
  have C5 := Lib.hid c5
  have HL := Lib.hid hL
  clear c0 c1 c2 c3 c4 c5 hL hd
  go_enter Tryz.func62, Tryz.ntmps62
  go_wp2_with fail
  refine (C0.out _).mono ?_
  rintro e w' ⟨rfl, rfl⟩
  go_wp2_with fail
  refine (C1.out _).mono ?_
  rintro e w1 ⟨rfl, hb1⟩
  go_wp2_with fail
  refine (C2.out _).mono ?_
  rintro e w2 ⟨rfl, hb2⟩
  go_wp2_with fail
  refine (C3.out _).mono ?_
  rintro e w3 ⟨rfl, hb3⟩
  go_wp2_with fail
  refine (C4.out _).mono ?_
  rintro e w4 ⟨rfl, hb4⟩
  go_wp2_with fail
  refine (C5.out _).mono ?_
  rintro e w5 ⟨rfl, hb5⟩
  go_wp2_with fail
  go_ret2
  have B2 := hb1.trans (hb2.mono hb1.size)
  have B3 := B2.trans (hb3.mono B2.size)
  have B4 := B3.trans (hb4.mono B3.size)
  have B5 := B4.trans (hb5.mono B4.size)
  refine ⟨ret_txt ?_ rfl, B5⟩
  rw [HL.out, show (⟨#[45]⟩ : ByteArray) = ⟨[45].toArray⟩ from rfl, show (⟨#[84]⟩ : ByteArray) = ⟨[84].toArray⟩ from rfl, show (⟨#[58]⟩ : ByteArray) = ⟨[58].toArray⟩ from rfl]
  simp only [ba_append]

end Go.Proofs.YtloccocengegnaaGreatDoor
