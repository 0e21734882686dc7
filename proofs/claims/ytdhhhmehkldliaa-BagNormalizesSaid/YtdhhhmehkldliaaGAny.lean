/-
  For every layer: the values that the laws draw (warehousebase.Value, Any).
-/
import Derived.Test.YtdhhhmehkldliaaGVal
import Derived.Test.YtdhhhmehkldliaaGMoment
import Derived.Laws.ResultCell
import Derived.IntWalk
set_option linter.unusedVariables false
namespace Wh
open Go

/-- An integer value. -/
def intZ (n : Int) : Int :=
  if n % 65536 / 256 % 32 = 0 then 1073741824 - n % 65536 % 2 else if n % 65536 / 256 % 32 = 1 then n % 65536 % 4 - 1073741824 else n % 65536 % 7 - 2

def texts : List ByteArray := [⟨#[97]⟩, ⟨#[98]⟩, ⟨#[99]⟩, ⟨#[]⟩, ⟨#[105, 116, 39, 115]⟩, ⟨#[97, 32, 98]⟩]

/-- The value of a kind that a number stands for. -/
def valueV (k n : Int) : V :=
  if k = 1 then ⟨1, n % 65536 % 2, ⟨#[]⟩⟩ else if k = 2 then ⟨2, intZ n, ⟨#[]⟩⟩ else if k = 3 then ⟨3, 0, texts.getD (n % 65536 % 6).toNat ⟨#[]⟩⟩ else if k = 4 then ⟨4, momentZ n, ⟨#[]⟩⟩ else ⟨0, 0, ⟨#[]⟩⟩

/-- The value that a number stands for. -/
def anyV (n : Int) : V := valueV (n.tmod 5) (n.tdiv 5)

theorem valid_null : validB 0 0 ⟨#[]⟩ = true := by simp [validB, Lib.toList_data]

theorem valueV_valid (k n : Int) : validB (valueV k n).k (valueV k n).n (valueV k n).s = true := by
  unfold valueV
  split
  · have : n % 2 = 0 ∨ n % 2 = 1 := by omega
    simpa [validB, Lib.toList_data] using this
  · split
    · have : -1073741824 ≤ intZ n ∧ intZ n ≤ 1073741824 := by unfold intZ; split <;> (try split) <;> omega
      simp [validB, Lib.toList_data, this.1, this.2]
    · split
      · generalize hj : (n % 65536 % 6).toNat = j
        have hj6 : j < 6 := by omega
        match j, hj6 with
        | 0, _ => decide
        | 1, _ => decide
        | 2, _ => decide
        | 3, _ => decide
        | 4, _ => decide
        | 5, _ => decide
      · split
        · have := momentZ_bounds n
          simp [validB, Lib.toList_data, this.1, this.2]
        · exact valid_null

theorem anyV_valid (n : Int) : validB (anyV n).k (anyV n).n (anyV n).s = true := valueV_valid _ _

end Wh
namespace Go.Proofs.Ytdhhhmehkldliaa
open Go.RowKit Wh

theorem pickText (j : Nat) (h : j < 6) :
    [Value.string ⟨#[97]⟩, Value.string ⟨#[98]⟩, Value.string ⟨#[99]⟩, Value.string ⟨#[]⟩, Value.string ⟨#[105, 116, 39, 115]⟩, Value.string ⟨#[97, 32, 98]⟩][j]? = some (.string (texts.getD j ⟨#[]⟩)) := by
  match j, h with
  | 0, _ => rfl
  | 1, _ => rfl
  | 2, _ => rfl
  | 3, _ => rfl
  | 4, _ => rfl
  | 5, _ => rfl

theorem ret_val {a b : Value} (h : a = b) : Ending.returned a = .returned b := by rw [h]

theorem value_any (k n : Int) (w : World) :
    Calls Try.prog 54 #[.int .i64 k, .int .i64 n] w fun e w' => e = .returned (agg (valueV k n).k (valueV k n).n (valueV k n).s) ∧ Below w.heap.size w w' := by
  have b1 := and_65535
  have b2 := and_31
  have b3 := and_3
  have b4 := and_1
  have m0 : 0 ≤ n % 65536 := by omega
  have m1 : n % 65536 < 65536 := by omega
  by_cases h1 : k = 1
  · subst h1
    have hv : valueV 1 n = ⟨1, n % 2, ⟨#[]⟩⟩ := by
      have e : n % 65536 % 2 = n % 2 := by omega
      simp [valueV, e]
    rw [hv]
    go_enter Try.func54, Try.ntmps54
    go_wp2_with fail
    exact bodyPost_ret (v := agg 1 (n % 2) ⟨#[]⟩) (by simp [results, Try.results54, go_sem]) rfl ⟨rfl, (Below.refl _ _).alloc (Nat.le_refl _) _⟩
  by_cases h2 : k = 2
  · subst h2
    by_cases hz : n % 65536 / 256 % 32 = 0
    · have hb : (n % 65536 / 256 % 32 == 0) = true := by rw [hz]; rfl
      have hv : valueV 2 n = ⟨2, 1073741824 - n % 2, ⟨#[]⟩⟩ := by
        have e : n % 65536 % 2 = n % 2 := by omega
        simp [valueV, intZ, hz, e]
      rw [hv]
      clear hz hv
      go_enter Try.func54, Try.ntmps54
      go_wp2_with fail
      exact bodyPost_ret (v := agg 2 (1073741824 - n % 2) ⟨#[]⟩) (by simp [results, Try.results54, go_sem]) rfl ⟨rfl, (Below.refl _ _).alloc (Nat.le_refl _) _⟩
    · have hb : (n % 65536 / 256 % 32 == 0) = false := by simpa using hz
      by_cases ho : n % 65536 / 256 % 32 = 1
      · have hb1 : (n % 65536 / 256 % 32 == 1) = true := by rw [ho]; rfl
        have hv : valueV 2 n = ⟨2, n % 4 - 1073741824, ⟨#[]⟩⟩ := by
          have e : n % 65536 % 4 = n % 4 := by omega
          simp [valueV, intZ, ho, e]
        rw [hv]
        clear hz ho hv
        go_enter Try.func54, Try.ntmps54
        go_wp2_with fail
        exact bodyPost_ret (v := agg 2 (n % 4 - 1073741824) ⟨#[]⟩) (by simp [results, Try.results54, go_sem]) rfl ⟨rfl, (Below.refl _ _).alloc (Nat.le_refl _) _⟩
      · have hb1 : (n % 65536 / 256 % 32 == 1) = false := by simpa using ho
        have hv : valueV 2 n = ⟨2, n % 65536 % 7 - 2, ⟨#[]⟩⟩ := by simp [valueV, intZ, hz, ho]
        rw [hv]
        clear hz ho hv
        go_enter Try.func54, Try.ntmps54
        go_wp2_with fail
        exact bodyPost_ret (v := agg 2 (n % 65536 % 7 - 2) ⟨#[]⟩) (by simp [results, Try.results54, go_sem]) rfl ⟨rfl, (Below.refl _ _).alloc (Nat.le_refl _) _⟩
  by_cases h3 : k = 3
  · subst h3
    have hp := pickText (n % 65536 % 6).toNat (by omega)
    have hv : valueV 3 n = ⟨3, 0, texts.getD (n % 65536 % 6).toNat ⟨#[]⟩⟩ := by simp [valueV]
    rw [hv]
    generalize texts.getD (n % 65536 % 6).toNat ⟨#[]⟩ = tx at hp ⊢
    clear hv
    go_enter Try.func54, Try.ntmps54
    go_wp2_with fail
    exact bodyPost_ret (v := agg 3 0 tx) (by simp [results, Try.results54, go_sem]) rfl ⟨rfl, ((Below.refl _ _).alloc (Nat.le_refl _) _).alloc (by simp) _⟩
  by_cases h4 : k = 4
  · subst h4
    have hv : valueV 4 n = ⟨4, momentZ n, ⟨#[]⟩⟩ := by simp [valueV]
    have hmm : momentZ (n % 65536) = momentZ n := by unfold momentZ; rw [show n % 65536 % 65536 = n % 65536 from by omega]
    rw [hv, ← hmm]
    clear hv hmm
    go_enter Try.func54, Try.ntmps54
    go_wp2_with fail
    refine (moment_any _ _).mono ?_
    rintro e w1 ⟨rfl, hb1⟩
    obtain ⟨hc, hf⟩ := bcell hb1
    have hs : w.heap.size < w1.heap.size := by have := hb1.size; simp at this; omega
    go_wp2_with fail
    have hB : Below w.heap.size w w1 := ((Below.refl _ _).alloc (Nat.le_refl _) _).trans (hb1.mono (by simp))
    exact bodyPost_ret (v := agg 4 (momentZ (n % 65536)) ⟨#[]⟩) (by simp [results, Try.results54, go_sem, hc]) rfl ⟨rfl, ((hB.setCell (Nat.le_refl _) _).setCell (Nat.le_refl _) _).setCell (Nat.le_refl _) _⟩
  · have hv : valueV k n = ⟨0, 0, ⟨#[]⟩⟩ := by simp [valueV, h1, h2, h3, h4]
    have c1 : (k == 1) = false := by simpa using h1
    have c2 : (k == 2) = false := by simpa using h2
    have c3 : (k == 3) = false := by simpa using h3
    have c4 : (k == 4) = false := by simpa using h4
    rw [hv]
    clear hv
    go_enter Try.func54, Try.ntmps54
    go_wp2_with fail
    exact bodyPost_ret (v := agg 0 0 ⟨#[]⟩) (by simp [results, Try.results54, go_sem]) rfl ⟨rfl, (Below.refl _ _).alloc (Nat.le_refl _) _⟩

theorem any_any (n : Int) (h0 : -9223372036854775808 ≤ n) (h1 : n ≤ 9223372036854775807) (w : World) :
    Calls Try.prog 22 #[.int .i64 n] w fun e w' => e = .returned (agg (anyV n).k (anyV n).n (anyV n).s) ∧ Below w.heap.size w w' := by
  have hq : wrap64 (n.tdiv 5) = n.tdiv 5 := IntWalk.wrap64_in _ (by
    have hs : Int.sign 5 = 1 := rfl
    rw [Int.tdiv_eq_ediv, hs]
    split <;> omega)
  go_enter Try.func22, Try.ntmps22
  go_wp2_with fail
  refine (value_any _ _ _).mono ?_
  rintro e w1 ⟨rfl, hb1⟩
  obtain ⟨hc, hf⟩ := bcell hb1
  have hs : w.heap.size < w1.heap.size := by have := hb1.size; simp at this; omega
  go_wp2_with fail
  have hB : Below w.heap.size w w1 := ((Below.refl _ _).alloc (Nat.le_refl _) _).trans (hb1.mono (by simp))
  exact bodyPost_ret (v := agg (anyV n).k (anyV n).n (anyV n).s) (by simp [results, Try.results22, go_sem, hc, anyV]) rfl ⟨rfl, ((hB.setCell (Nat.le_refl _) _).setCell (Nat.le_refl _) _).setCell (Nat.le_refl _) _⟩

end Go.Proofs.Ytdhhhmehkldliaa
