/-
  Digits; what padded of the reference returns.
-/
import Derived.Test.YtloccocengegnaaGreatDoorCText
set_option linter.unusedVariables false
namespace Wh

/-- The last digit of a number, as a byte. -/
def dig (n : Nat) : UInt8 := UInt8.ofNat (48 + n % 10)
/-- The last k digits of a number. -/
def digs : Nat → Nat → List UInt8
  | 0, _ => []
  | k + 1, n => digs k (n / 10) ++ [dig n]

theorem dig_nat (n : Nat) : (dig n).toNat = 48 + n % 10 := by
  unfold dig
  rw [UInt8.toNat_ofNat']
  omega

theorem digs_length : ∀ k n, (digs k n).length = k
  | 0, _ => rfl
  | k + 1, n => by simp [digs, digs_length k]

end Wh
namespace Go.Proofs.YtloccocengegnaaGreatDoor
open Go.RowKit Wh

theorem padded_any (n k : Nat) (hk : k ≤ 4) (hn : n < 10 ^ k) (w : World) :
    Calls Tryz.prog 84 #[.int .i64 n, .int .i64 k] w fun e w' => e = .returned (.string ⟨(digs k n).toArray⟩) ∧ Below w.heap.size w w' := by
  have h9 : n ≤ 10000 := by
    have : 10 ^ k ≤ 10 ^ 4 := Nat.pow_le_pow_right (by omega) hk
    omega
  go_enter Tryz.func84, Tryz.ntmps84
  go_wp2_with fail
  go_loopw [0, 1, 5] (fun nv kv sv wr => ∃ (j x : Nat) (l : List UInt8), j ≤ k ∧ x < 10 ^ j ∧ x ≤ 10000 ∧ l.length ≤ 4 - j ∧ nv = .int .i64 x ∧ kv = .int .i64 j ∧ sv = .string ⟨l.toArray⟩ ∧ Hid (digs k n = digs j x ++ l) ∧ Below w.heap.size w wr) (fun _ kv _ _ => (intOf kv).toNat)
  case atStart => exact ⟨k, n, [], Nat.le_refl _, hn, h9, Nat.zero_le _, rfl, rfl, rfl, (List.append_nil _).symm, Below.refl _ _⟩
  case round =>
    obtain ⟨j, x, l, hj, hx, hx9, hl, rfl, rfl, rfl, HD, hbel⟩ := hrel
    have hs := hbel.size
    have HB := Lib.hid hbel
    clear hbel hn
    by_cases hlt : 0 < j
    · have hcv := conv_str (W := wr.alloc (.cells #[.int .u8 (48 + (x : Int) % 10)] 5)) (b := wr.heap.size) (off := 0) (c := 1) (y := 1) (l := [dig x]) rfl (fun j y hj => by
        cases j with
        | zero =>
          simp only [List.getElem?_cons_zero, Option.some.injEq] at hj
          subst hj
          rw [dig_nat]
          simp
        | succ j => simp at hj)
      obtain ⟨i, rfl⟩ : ∃ i, j = i + 1 := ⟨j - 1, by omega⟩
      have hx2 : x / 10 < 10 ^ i := by
        rw [Nat.div_lt_iff_lt_mul (by omega)]
        rw [Nat.pow_succ] at hx
        exact hx
      have HX := Lib.hid hx2
      have HD2 := Lib.hid (show digs k n = digs i (x / 10) ++ (dig x :: l) by rw [HD.out]; simp [digs])
      clear hx hx2 HD
      go_wp2_with fail
      go_roundw
      case rel => exact ⟨i, x / 10, dig x :: l, by omega, HX.out, by omega, by simp; omega, by go_num, by go_num, by rw [show (⟨#[dig x]⟩ : ByteArray) = ⟨[dig x].toArray⟩ from rfl, ba_append]; rfl, HD2, HB.out.alloc hs _⟩
      case measure => simp [intOf]
    · obtain rfl : j = 0 := by omega
      have hx0 : x = 0 := by simpa using hx
      subst hx0
      go_wp2_with fail
      go_ret
      rw [show digs k n = l from HD.out]
      exact ⟨rfl, HB.out⟩

end Go.Proofs.YtloccocengegnaaGreatDoor
