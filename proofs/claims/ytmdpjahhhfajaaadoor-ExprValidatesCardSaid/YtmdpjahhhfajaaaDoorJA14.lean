/-
  Plain arithmetic: 'x & m' of an int for a mask m = 2^k - 1. No program · For every layer: the instants that the laws draw (warehousebase.Moment · For every layer: the values that the laws draw (warehousebase.Value, A · For every layer: warehousebase.At, the natural number for a position i
-/
import Derived.Laws.Entries
import Derived.Laws.BitsLemmas
import Derived.Test.YtmdpjahhhfajaaaDoorRows
import Derived.WalkKit
import Derived.Below
import Derived.IntWalk
import Derived.Lib.Hide
import Derived.Test.YtmdpjahhhfajaaaDoorJA06
import Derived.Laws.ResultCell
import Derived.Test.YtmdpjahhhfajaaaDoorJA01
import Derived.Test.YtmdpjahhhfajaaaDoorJA02
import Derived.WalkSmall
import Derived.BigQuiet
import Derived.WalkLawsBesides
import Derived.WalkSpells
import Derived.LoopTactic
set_option linter.unusedVariables false
namespace Wh
open Go
theorem and_nat (x : Int) (m : Nat) (hm : m < 9223372036854775808) : bits .and .i64 x (m : Int) = (((x % 18446744073709551616).toNat &&& m : Nat) : Int) := by
  have h1 : (BitVec.ofInt 64 x).toNat = (x % 18446744073709551616).toNat := by
    rw [BitVec.toNat_ofInt]
    rfl
  have h2 : (BitVec.ofInt 64 (m : Int)).toNat = m := by
    rw [BitVec.ofInt_natCast, BitVec.toNat_ofNat]
    exact Nat.mod_eq_of_lt (by omega)
  have h3 : (x % 18446744073709551616).toNat &&& m ≤ m := Nat.and_le_right
  show IntKind.i64.wrap ((BitVec.ofInt 64 x &&& BitVec.ofInt 64 (m : Int)).toNat : Int) = _
  rw [BitVec.toNat_and, h1, h2, IntKind.wrap_i64]
  omega
theorem and_mask (x : Int) (k m : Nat) (hm : m = 2 ^ k - 1) (hk : k ≤ 32) : bits .and .i64 x (m : Int) = (x % 18446744073709551616) % ((2 ^ k : Nat) : Int) := by
  have hp : 2 ^ k ≤ 2 ^ 32 := Nat.pow_le_pow_right (by omega) hk
  have h := and_nat x m (by omega)
  rw [hm, Nat.and_two_pow_sub_one_eq_mod] at h
  rw [hm, h, Int.natCast_emod, Int.toNat_of_nonneg (by omega)]
theorem and_1 (x : Int) : bits .and .i64 x 1 = x % 2 := by
  have h := and_mask x 1 1 rfl (by omega)
  simp only [Nat.reducePow] at h
  rw [show ((1 : Nat) : Int) = 1 from rfl] at h
  omega
theorem and_3 (x : Int) : bits .and .i64 x 3 = x % 4 := by
  have h := and_mask x 2 3 rfl (by omega)
  rw [show ((3 : Nat) : Int) = 3 from rfl] at h
  omega
theorem and_7 (x : Int) : bits .and .i64 x 7 = x % 8 := by
  have h := and_mask x 3 7 rfl (by omega)
  rw [show ((7 : Nat) : Int) = 7 from rfl] at h
  omega
theorem and_15 (x : Int) : bits .and .i64 x 15 = x % 16 := by
  have h := and_mask x 4 15 rfl (by omega)
  rw [show ((15 : Nat) : Int) = 15 from rfl] at h
  omega
theorem and_31 (x : Int) : bits .and .i64 x 31 = x % 32 := by
  have h := and_mask x 5 31 rfl (by omega)
  rw [show ((31 : Nat) : Int) = 31 from rfl] at h
  omega
theorem and_65535 (x : Int) : bits .and .i64 x 65535 = x % 65536 := by
  have h := and_mask x 16 65535 rfl (by omega)
  rw [show ((65535 : Nat) : Int) = 65535 from rfl] at h
  omega
end Wh
namespace Wh
def momentZ (n : Int) : Int :=
  if n % 65536 / 256 % 16 = 0 then [0, 1, 575999999, 575999998, 1439, 1440].getD (n % 65536 % 6).toNat 0
  else 144000 + n % 65536 / 8 % 4 * 1440 + n % 65536 % 7 * 200 + n % 65536 / 32 % 2 * 1439 - 600
theorem momentZ_bounds (n : Int) : 0 ≤ momentZ n ∧ momentZ n ≤ 575999999 := by
  unfold momentZ
  split
  · generalize hj : (n % 65536 % 6).toNat = j
    have hj6 : j < 6 := by omega
    match j, hj6 with
    | 0, _ => decide
    | 1, _ => decide
    | 2, _ => decide
    | 3, _ => decide
    | 4, _ => decide
    | 5, _ => decide
  · omega
end Wh
namespace Go.Proofs.YtmdpjahhhfajaaaDoor
open Go.RowKit Wh
theorem pick6 (a b c d e f : Int) (j : Nat) (h : j < 6) :
    [Value.int .i64 a, Value.int .i64 b, Value.int .i64 c, Value.int .i64 d, Value.int .i64 e, Value.int .i64 f][j]? = some (.int .i64 ([a, b, c, d, e, f].getD j 0)) := by
  match j, h with
  | 0, _ => rfl
  | 1, _ => rfl
  | 2, _ => rfl
  | 3, _ => rfl
  | 4, _ => rfl
  | 5, _ => rfl
theorem moment_any (n : Int) (w : World) :
    Calls Tryd.prog 47 #[.int .i64 n] w fun e w' => e = .returned (.int .i64 (momentZ n)) ∧ Below w.heap.size w w' := by
  have b1 := and_65535
  have b2 := and_15
  have b3 := and_3
  have b4 := and_1
  have h0 : 0 ≤ n % 65536 := by omega
  have h1 : n % 65536 < 65536 := by omega
  by_cases hz : n % 65536 / 256 % 16 = 0
  · have hb : (n % 65536 / 256 % 16 == 0) = true := by rw [hz]; rfl
    have hm : momentZ n = [0, 1, 575999999, 575999998, 1439, 1440].getD (n % 65536 % 6).toNat 0 := by unfold momentZ; rw [if_pos hz]
    have hp := pick6 0 1 575999999 575999998 1439 1440 (n % 65536 % 6).toNat (by omega)
    rw [← hm] at hp
    clear hm hz
    go_enter Tryd.func47, Tryd.ntmps47
    go_wp2_with fail
    go_ret
    exact ⟨rfl, (Below.refl _ _).alloc (Nat.le_refl _) _⟩
  · have hb : (n % 65536 / 256 % 16 == 0) = false := by simpa using hz
    have hm : momentZ n = 144000 + n % 65536 / 8 % 4 * 1440 + n % 65536 % 7 * 200 + n % 65536 / 32 % 2 * 1439 - 600 := by unfold momentZ; rw [if_neg hz]
    have HM := Lib.hid hm
    clear hm hz
    go_enter Tryd.func47, Tryd.ntmps47
    go_wp2_with fail
    go_ret
    exact ⟨by rw [HM.out]; rfl, Below.refl _ _⟩
end Go.Proofs.YtmdpjahhhfajaaaDoor
namespace Wh
open Go
def intZ (n : Int) : Int :=
  if n % 65536 / 256 % 32 = 0 then 1073741824 - n % 65536 % 2 else if n % 65536 / 256 % 32 = 1 then n % 65536 % 4 - 1073741824 else n % 65536 % 7 - 2
def texts : List ByteArray := [⟨#[97]⟩, ⟨#[98]⟩, ⟨#[99]⟩, ⟨#[]⟩, ⟨#[105, 116, 39, 115]⟩, ⟨#[97, 32, 98]⟩]
def valueV (k n : Int) : V :=
  if k = 1 then ⟨1, n % 65536 % 2, ⟨#[]⟩⟩ else if k = 2 then ⟨2, intZ n, ⟨#[]⟩⟩ else if k = 3 then ⟨3, 0, texts.getD (n % 65536 % 6).toNat ⟨#[]⟩⟩ else if k = 4 then ⟨4, momentZ n, ⟨#[]⟩⟩ else ⟨0, 0, ⟨#[]⟩⟩
def anyV (n : Int) : V := valueV (n.tmod 5) (n.tdiv 5)
theorem valid_null : validB 0 0 ⟨#[]⟩ = true := by simp [validB, Lib.toList_data]
theorem valueV_valid (k n : Int) : validB (valueV k n).k (valueV k n).n (valueV k n).s = true := by
  unfold valueV
  split
  · have : n % 2 = 0 ∨ n % 2 = 1 := by omega
    simpa [validB, Lib.toList_data] using this
  · split
    · have : -1073741824 ≤ intZ n ∧ intZ n ≤ 1073741824 := by unfold intZ; split <;> (try split) <;> omega
      simp [validB, Lib.toList_data, this.1, this.2]
    · split
      · generalize hj : (n % 65536 % 6).toNat = j
        have hj6 : j < 6 := by omega
        match j, hj6 with
        | 0, _ => decide
        | 1, _ => decide
        | 2, _ => decide
        | 3, _ => decide
        | 4, _ => decide
        | 5, _ => decide
      · split
        · have := momentZ_bounds n
          simp [validB, Lib.toList_data, this.1, this.2]
        · exact valid_null
end Wh
namespace Go.Proofs.YtmdpjahhhfajaaaDoor
open Go.RowKit Wh
theorem pickText (j : Nat) (h : j < 6) :
    [Value.string ⟨#[97]⟩, Value.string ⟨#[98]⟩, Value.string ⟨#[99]⟩, Value.string ⟨#[]⟩, Value.string ⟨#[105, 116, 39, 115]⟩, Value.string ⟨#[97, 32, 98]⟩][j]? = some (.string (texts.getD j ⟨#[]⟩)) := by
  match j, h with
  | 0, _ => rfl
  | 1, _ => rfl
  | 2, _ => rfl
  | 3, _ => rfl
  | 4, _ => rfl
  | 5, _ => rfl
theorem value_any (k n : Int) (w : World) :
    Calls Tryd.prog 31 #[.int .i64 k, .int .i64 n] w fun e w' => e = .returned (agg (valueV k n).k (valueV k n).n (valueV k n).s) ∧ Below w.heap.size w w' := by
  have b1 := and_65535
  have b2 := and_31
  have b3 := and_3
  have b4 := and_1
  have m0 : 0 ≤ n % 65536 := by omega
  have m1 : n % 65536 < 65536 := by omega
  by_cases h1 : k = 1
  · subst h1
    have hv : valueV 1 n = ⟨1, n % 2, ⟨#[]⟩⟩ := by
      have e : n % 65536 % 2 = n % 2 := by omega
      simp [valueV, e]
    rw [hv]
    go_enter Tryd.func31, Tryd.ntmps31
    go_wp2_with fail
    exact bodyPost_ret (v := agg 1 (n % 2) ⟨#[]⟩) (by simp [results, Tryd.results31, go_sem]) rfl ⟨rfl, (Below.refl _ _).alloc (Nat.le_refl _) _⟩
  by_cases h2 : k = 2
  · subst h2
    by_cases hz : n % 65536 / 256 % 32 = 0
    · have hb : (n % 65536 / 256 % 32 == 0) = true := by rw [hz]; rfl
      have hv : valueV 2 n = ⟨2, 1073741824 - n % 2, ⟨#[]⟩⟩ := by
        have e : n % 65536 % 2 = n % 2 := by omega
        simp [valueV, intZ, hz, e]
      rw [hv]
      clear hz hv
      go_enter Tryd.func31, Tryd.ntmps31
      go_wp2_with fail
      exact bodyPost_ret (v := agg 2 (1073741824 - n % 2) ⟨#[]⟩) (by simp [results, Tryd.results31, go_sem]) rfl ⟨rfl, (Below.refl _ _).alloc (Nat.le_refl _) _⟩
    · have hb : (n % 65536 / 256 % 32 == 0) = false := by simpa using hz
      by_cases ho : n % 65536 / 256 % 32 = 1
      · have hb1 : (n % 65536 / 256 % 32 == 1) = true := by rw [ho]; rfl
        have hv : valueV 2 n = ⟨2, n % 4 - 1073741824, ⟨#[]⟩⟩ := by
          have e : n % 65536 % 4 = n % 4 := by omega
          simp [valueV, intZ, ho, e]
        rw [hv]
        clear hz ho hv
        go_enter Tryd.func31, Tryd.ntmps31
        go_wp2_with fail
        exact bodyPost_ret (v := agg 2 (n % 4 - 1073741824) ⟨#[]⟩) (by simp [results, Tryd.results31, go_sem]) rfl ⟨rfl, (Below.refl _ _).alloc (Nat.le_refl _) _⟩
      · have hb1 : (n % 65536 / 256 % 32 == 1) = false := by simpa using ho
        have hv : valueV 2 n = ⟨2, n % 65536 % 7 - 2, ⟨#[]⟩⟩ := by simp [valueV, intZ, hz, ho]
        rw [hv]
        clear hz ho hv
        go_enter Tryd.func31, Tryd.ntmps31
        go_wp2_with fail
        exact bodyPost_ret (v := agg 2 (n % 65536 % 7 - 2) ⟨#[]⟩) (by simp [results, Tryd.results31, go_sem]) rfl ⟨rfl, (Below.refl _ _).alloc (Nat.le_refl _) _⟩
  by_cases h3 : k = 3
  · subst h3
    have hp := pickText (n % 65536 % 6).toNat (by omega)
    have hv : valueV 3 n = ⟨3, 0, texts.getD (n % 65536 % 6).toNat ⟨#[]⟩⟩ := by simp [valueV]
    rw [hv]
    generalize texts.getD (n % 65536 % 6).toNat ⟨#[]⟩ = tx at hp ⊢
    clear hv
    go_enter Tryd.func31, Tryd.ntmps31
    go_wp2_with fail
    exact bodyPost_ret (v := agg 3 0 tx) (by simp [results, Tryd.results31, go_sem]) rfl ⟨rfl, ((Below.refl _ _).alloc (Nat.le_refl _) _).alloc (by simp) _⟩
  by_cases h4 : k = 4
  · subst h4
    have hv : valueV 4 n = ⟨4, momentZ n, ⟨#[]⟩⟩ := by simp [valueV]
    have hmm : momentZ (n % 65536) = momentZ n := by unfold momentZ; rw [show n % 65536 % 65536 = n % 65536 from by omega]
    rw [hv, ← hmm]
    clear hv hmm
    go_enter Tryd.func31, Tryd.ntmps31
    go_wp2_with fail
    refine (moment_any _ _).mono ?_
    rintro e w1 ⟨rfl, hb1⟩
    obtain ⟨hc, hf⟩ := bcell hb1
    have hs : w.heap.size < w1.heap.size := by have := hb1.size; simp at this; omega
    go_wp2_with fail
    have hB : Below w.heap.size w w1 := ((Below.refl _ _).alloc (Nat.le_refl _) _).trans (hb1.mono (by simp))
    exact bodyPost_ret (v := agg 4 (momentZ (n % 65536)) ⟨#[]⟩) (by simp [results, Tryd.results31, go_sem, hc]) rfl ⟨rfl, ((hB.setCell (Nat.le_refl _) _).setCell (Nat.le_refl _) _).setCell (Nat.le_refl _) _⟩
  · have hv : valueV k n = ⟨0, 0, ⟨#[]⟩⟩ := by simp [valueV, h1, h2, h3, h4]
    have c1 : (k == 1) = false := by simpa using h1
    have c2 : (k == 2) = false := by simpa using h2
    have c3 : (k == 3) = false := by simpa using h3
    have c4 : (k == 4) = false := by simpa using h4
    rw [hv]
    clear hv
    go_enter Tryd.func31, Tryd.ntmps31
    go_wp2_with fail
    exact bodyPost_ret (v := agg 0 0 ⟨#[]⟩) (by simp [results, Tryd.results31, go_sem]) rfl ⟨rfl, (Below.refl _ _).alloc (Nat.le_refl _) _⟩
theorem any_any (n : Int) (h0 : -9223372036854775808 ≤ n) (h1 : n ≤ 9223372036854775807) (w : World) :
    Calls Tryd.prog 20 #[.int .i64 n] w fun e w' => e = .returned (agg (anyV n).k (anyV n).n (anyV n).s) ∧ Below w.heap.size w w' := by
  have hq : wrap64 (n.tdiv 5) = n.tdiv 5 := IntWalk.wrap64_in _ (by
    have hs : Int.sign 5 = 1 := rfl
    rw [Int.tdiv_eq_ediv, hs]
    split <;> omega)
  go_enter Tryd.func20, Tryd.ntmps20
  go_wp2_with fail
  refine (value_any _ _ _).mono ?_
  rintro e w1 ⟨rfl, hb1⟩
  obtain ⟨hc, hf⟩ := bcell hb1
  have hs : w.heap.size < w1.heap.size := by have := hb1.size; simp at this; omega
  go_wp2_with fail
  have hB : Below w.heap.size w w1 := ((Below.refl _ _).alloc (Nat.le_refl _) _).trans (hb1.mono (by simp))
  exact bodyPost_ret (v := agg (anyV n).k (anyV n).n (anyV n).s) (by simp [results, Tryd.results20, go_sem, hc, anyV]) rfl ⟨rfl, ((hB.setCell (Nat.le_refl _) _).setCell (Nat.le_refl _) _).setCell (Nat.le_refl _) _⟩
end Go.Proofs.YtmdpjahhhfajaaaDoor
namespace Wh
open Go
def atZ (zs : List Int) (i : Int) : Int :=
  if zs.length = 0 then i % 65536 else zs.getD (i % 65536 % zs.length).toNat 0 % 65536 + i % 65536 / zs.length
theorem atZ_bounds (zs : List Int) (i : Int) : 0 ≤ atZ zs i ∧ atZ zs i ≤ 131070 := by
  unfold atZ
  split
  · omega
  · rename_i h
    have h1 : 0 ≤ i % 65536 / zs.length := Int.ediv_nonneg (by omega) (by omega)
    have h2 : i % 65536 / (zs.length : Int) ≤ i % 65536 := Int.ediv_le_self _ (by omega)
    omega
end Wh
namespace Go.Proofs.YtmdpjahhhfajaaaDoor
open Go.RowKit Wh
theorem at_any (a : Option Addr) (len cap : Nat) (zs : List Int) (n : Int) (w : World) (hz : IsInts w a len zs) (hl : len ≤ 9223372036854775807) :
    Calls Tryd.prog 19 #[.slice a len cap, .int .i64 n] w fun e w' => e = .returned (.int .i64 (atZ zs n)) ∧ Below w.heap.size w w' := by
  obtain ⟨hlen, hz⟩ := hz
  have b1 := and_65535
  have i0 : 0 ≤ n % 65536 := by omega
  have i1 : n % 65536 < 65536 := by omega
  by_cases h0 : len = 0
  · have hv : atZ zs n = n % 65536 := by unfold atZ; rw [if_pos (by omega)]
    rw [hv]
    subst h0
    clear hv hlen hz
    go_enter Tryd.func19, Tryd.ntmps19
    go_wp2_with fail
    go_ret
    exact ⟨rfl, Below.refl _ _⟩
  · rcases hz with rfl | ⟨b, off, rfl, hb, hat⟩
    · exact absurd hlen.symm (by simpa using h0)
    · have hd : ((len : Int) == 0) = false := by simpa using h0
      have l1 : (1 : Int) ≤ len := by omega
      have r0 : 0 ≤ n % 65536 % (len : Int) := Int.emod_nonneg _ (by omega)
      have r1 : n % 65536 % (len : Int) < len := Int.emod_lt_of_pos _ (by omega)
      have q0 : 0 ≤ n % 65536 / (len : Int) := Int.ediv_nonneg i0 (by omega)
      have q1 : n % 65536 / (len : Int) ≤ 65536 := by have : n % 65536 / (len : Int) ≤ n % 65536 := Int.ediv_le_self _ i0; omega
      obtain ⟨z, hzz⟩ : ∃ z, zs[(n % 65536 % (len : Int)).toNat]? = some z := ⟨_, List.getElem?_eq_getElem (by omega)⟩
      have hc := hat _ _ hzz
      have hv : atZ zs n = z % 65536 + n % 65536 / (len : Int) := by
        unfold atZ
        rw [if_neg (by omega), hlen]
        simp [List.getD, hzz]
      rw [hv]
      have z0 : 0 ≤ z % 65536 := by omega
      have z1 : z % 65536 < 65536 := by omega
      clear hv hat hzz hlen
      go_enter Tryd.func19, Tryd.ntmps19
      go_wp2_with fail
      go_quiet (fail)
      go_wp2_with fail
      go_ret
      exact ⟨rfl, below_drewN (Below.refl _ _) nq⟩
end Go.Proofs.YtmdpjahhhfajaaaDoor
