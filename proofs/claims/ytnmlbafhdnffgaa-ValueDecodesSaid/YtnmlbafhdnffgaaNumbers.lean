/-
  Reading the four bytes of a number: value.readNumber and the reference's number.
-/
import Derived.Test.YtnmlbafhdnffgaaOpen
import Derived.Test.YtnmlbafhdnffgaaDec
import Derived.WalkSmall
import Derived.Laws.BitsLemmas
set_option linter.unusedVariables false
namespace Go.Proofs.Ytnmlbafhdnffgaa
open Go.RowKit Wh

theorem or_nat (a b i : Nat) (h : b < 2 ^ i) : (a * 2 ^ i ||| b) = a * 2 ^ i + b := by
  rw [Nat.mul_comm a, ← Nat.two_pow_add_eq_or_of_lt h]

theorem or_u32 (a b : Nat) (ha : a < 4294967296) (hb : b < 4294967296) : bits .or .u32 (a : Int) (b : Int) = ((a ||| b : Nat) : Int) :=
  (bits_nat .u32 32 (by decide) (fun n h0 h1 => by rw [IntKind.wrap_u32]; omega) a b ha hb).2

theorem or_i64 (a b : Nat) (ha : a < 4294967296) (hb : b < 4294967296) : bits .or .i64 (a : Int) (b : Int) = ((a ||| b : Nat) : Int) :=
  (bits_nat .i64 32 (by decide) (fun n h0 h1 => by rw [IntKind.wrap_i64]; omega) a b ha hb).2

theorem or4_u32 (y0 y1 y2 y3 : Nat) (m0 : y0 < 2 ^ 8) (m1 : y1 < 2 ^ 8) (m2 : y2 < 2 ^ 8) (m3 : y3 < 2 ^ 8) :
    bits .or .u32 (bits .or .u32 (bits .or .u32 ((y0 : Int) * 16777216) ((y1 : Int) * 65536)) ((y2 : Int) * 256)) (y3 : Int) = ((y0 * 16777216 + y1 * 65536 + y2 * 256 + y3 : Nat) : Int) := by
  have e0 : (y0 : Int) * 16777216 = ((y0 * 16777216 : Nat) : Int) := by omega
  have e1 : (y1 : Int) * 65536 = ((y1 * 65536 : Nat) : Int) := by omega
  have e2 : (y2 : Int) * 256 = ((y2 * 256 : Nat) : Int) := by omega
  have n1 : (y0 * 16777216 ||| y1 * 65536) = (y0 * 256 + y1) * 65536 := by
    have h := or_nat y0 (y1 * 65536) 24 (by omega)
    rw [show (2 : Nat) ^ 24 = 16777216 from rfl] at h
    rw [h]
    omega
  have n2 : ((y0 * 256 + y1) * 65536 ||| y2 * 256) = (y0 * 65536 + y1 * 256 + y2) * 256 := by
    have h := or_nat (y0 * 256 + y1) (y2 * 256) 16 (by omega)
    rw [show (2 : Nat) ^ 16 = 65536 from rfl] at h
    rw [h]
    omega
  have n3 : ((y0 * 65536 + y1 * 256 + y2) * 256 ||| y3) = y0 * 16777216 + y1 * 65536 + y2 * 256 + y3 := by
    have h := or_nat (y0 * 65536 + y1 * 256 + y2) y3 8 (by omega)
    rw [show (2 : Nat) ^ 8 = 256 from rfl] at h
    rw [h]
    omega
  rw [e0, e1, e2, or_u32 _ _ (by omega) (by omega), n1, or_u32 _ _ (by omega) (by omega), n2, or_u32 _ _ (by omega) (by omega), n3]

theorem or4_i64 (y0 y1 y2 y3 : Nat) (m0 : y0 < 2 ^ 8) (m1 : y1 < 2 ^ 8) (m2 : y2 < 2 ^ 8) (m3 : y3 < 2 ^ 8) :
    bits .or .i64 (bits .or .i64 (bits .or .i64 ((y0 : Int) * 16777216) ((y1 : Int) * 65536)) ((y2 : Int) * 256)) (y3 : Int) = ((y0 * 16777216 + y1 * 65536 + y2 * 256 + y3 : Nat) : Int) := by
  have e0 : (y0 : Int) * 16777216 = ((y0 * 16777216 : Nat) : Int) := by omega
  have e1 : (y1 : Int) * 65536 = ((y1 * 65536 : Nat) : Int) := by omega
  have e2 : (y2 : Int) * 256 = ((y2 * 256 : Nat) : Int) := by omega
  have n1 : (y0 * 16777216 ||| y1 * 65536) = (y0 * 256 + y1) * 65536 := by
    have h := or_nat y0 (y1 * 65536) 24 (by omega)
    rw [show (2 : Nat) ^ 24 = 16777216 from rfl] at h
    rw [h]
    omega
  have n2 : ((y0 * 256 + y1) * 65536 ||| y2 * 256) = (y0 * 65536 + y1 * 256 + y2) * 256 := by
    have h := or_nat (y0 * 256 + y1) (y2 * 256) 16 (by omega)
    rw [show (2 : Nat) ^ 16 = 65536 from rfl] at h
    rw [h]
    omega
  have n3 : ((y0 * 65536 + y1 * 256 + y2) * 256 ||| y3) = y0 * 16777216 + y1 * 65536 + y2 * 256 + y3 := by
    have h := or_nat (y0 * 65536 + y1 * 256 + y2) y3 8 (by omega)
    rw [show (2 : Nat) ^ 8 = 256 from rfl] at h
    rw [h]
    omega
  rw [e0, e1, e2, or_i64 _ _ (by omega) (by omega), n1, or_i64 _ _ (by omega) (by omega), n2, or_i64 _ _ (by omega) (by omega), n3]

theorem readNumber_any (b off len cap : Nat) (x0 x1 x2 x3 : UInt8) (w : World) (hl : 4 ≤ len)
    (h0 : w.cell? ⟨b, off, none⟩ = some (B x0)) (h1 : w.cell? ⟨b, off + 1, none⟩ = some (B x1)) (h2 : w.cell? ⟨b, off + 2, none⟩ = some (B x2)) (h3 : w.cell? ⟨b, off + 3, none⟩ = some (B x3)) :
    Calls Try.prog 43 #[.slice (some ⟨b, off, none⟩) len cap] w fun e w' => e = .returned (.int .u32 (num4 x0 x1 x2 x3)) ∧ Below w.heap.size w w' := by
  unfold B at h0 h1 h2 h3
  unfold num4
  have l0 : (0 : Int) < len := by omega
  have l1 : (1 : Int) < len := by omega
  have l2 : (2 : Int) < len := by omega
  have l3 : (3 : Int) < len := by omega
  have m0 := x0.toNat_lt
  have m1 := x1.toNat_lt
  have m2 := x2.toNat_lt
  have m3 := x3.toNat_lt
  generalize x0.toNat = y0 at *
  generalize x1.toNat = y1 at *
  generalize x2.toNat = y2 at *
  generalize x3.toNat = y3 at *
  go_enter Try.func43, Try.ntmps43
  go_wp2_with fail
  go_quiet (fail)
  go_wp2_with fail
  go_ret
  exact ⟨ret_int (or4_u32 y0 y1 y2 y3 m0 m1 m2 m3), below_drewN (Below.refl _ _) _⟩

theorem number_any (b off len cap : Nat) (x0 x1 x2 x3 : UInt8) (w : World) (hl : 4 ≤ len)
    (h0 : w.cell? ⟨b, off, none⟩ = some (B x0)) (h1 : w.cell? ⟨b, off + 1, none⟩ = some (B x1)) (h2 : w.cell? ⟨b, off + 2, none⟩ = some (B x2)) (h3 : w.cell? ⟨b, off + 3, none⟩ = some (B x3)) :
    Calls Try.prog 41 #[.slice (some ⟨b, off, none⟩) len cap] w fun e w' => e = .returned (.int .i64 (num4 x0 x1 x2 x3)) ∧ Below w.heap.size w w' := by
  unfold B at h0 h1 h2 h3
  unfold num4
  have l0 : (0 : Int) < len := by omega
  have l1 : (1 : Int) < len := by omega
  have l2 : (2 : Int) < len := by omega
  have l3 : (3 : Int) < len := by omega
  have m0 := x0.toNat_lt
  have m1 := x1.toNat_lt
  have m2 := x2.toNat_lt
  have m3 := x3.toNat_lt
  generalize x0.toNat = y0 at *
  generalize x1.toNat = y1 at *
  generalize x2.toNat = y2 at *
  generalize x3.toNat = y3 at *
  go_enter Try.func41, Try.ntmps41
  go_wp2_with fail
  go_quiet (fail)
  go_wp2_with fail
  go_ret
  exact ⟨ret_int (or4_i64 y0 y1 y2 y3 m0 m1 m2 m3), below_drewN (Below.refl _ _) _⟩

end Go.Proofs.Ytnmlbafhdnffgaa
