/-
  The inputs that the laws build from numbers: warehousebase.At, Moment, Value and Any.
-/
import Derived.Test.YtnmlbafhdnffgaaLeaf
import Derived.Test.YtnmlbafhdnffgaaBits
import Derived.Laws.ResultCell
import Derived.IntWalk
set_option linter.unusedVariables false
namespace Go.Proofs.Ytnmlbafhdnffgaa
open Go.RowKit Wh

theorem pick6 (a b c d e f : Int) (j : Nat) (h : j < 6) :
    [Value.int .i64 a, Value.int .i64 b, Value.int .i64 c, Value.int .i64 d, Value.int .i64 e, Value.int .i64 f][j]? = some (.int .i64 ([a, b, c, d, e, f].getD j 0)) := by
  match j, h with
  | 0, _ => rfl
  | 1, _ => rfl
  | 2, _ => rfl
  | 3, _ => rfl
  | 4, _ => rfl
  | 5, _ => rfl

theorem pickText (j : Nat) (h : j < 6) :
    [Value.string ⟨#[97]⟩, Value.string ⟨#[98]⟩, Value.string ⟨#[99]⟩, Value.string ⟨#[]⟩, Value.string ⟨#[105, 116, 39, 115]⟩, Value.string ⟨#[97, 32, 98]⟩][j]? = some (.string (texts.getD j ⟨#[]⟩)) := by
  match j, h with
  | 0, _ => rfl
  | 1, _ => rfl
  | 2, _ => rfl
  | 3, _ => rfl
  | 4, _ => rfl
  | 5, _ => rfl

theorem ret_val {a b : Value} (h : a = b) : Ending.returned a = .returned b := by rw [h]

theorem moment_any (n : Int) (w : World) :
    Calls Try.prog 36 #[.int .i64 n] w fun e w' => e = .returned (.int .i64 (momentZ n)) ∧ Below w.heap.size w w' := by
  have b1 := and_65535
  have b2 := and_15
  have b3 := and_3
  have b4 := and_1
  have h0 : 0 ≤ n % 65536 := by omega
  have h1 : n % 65536 < 65536 := by omega
  by_cases hz : n % 65536 / 256 % 16 = 0
  · have hb : (n % 65536 / 256 % 16 == 0) = true := by rw [hz]; rfl
    have hm : momentZ n = [0, 1, 575999999, 575999998, 1439, 1440].getD (n % 65536 % 6).toNat 0 := by unfold momentZ; rw [if_pos hz]
    have hp := pick6 0 1 575999999 575999998 1439 1440 (n % 65536 % 6).toNat (by omega)
    rw [← hm] at hp
    clear hm hz
    go_enter Try.func36, Try.ntmps36
    go_wp2_with fail
    go_ret
    exact ⟨rfl, (Below.refl _ _).alloc (Nat.le_refl _) _⟩
  · have hb : (n % 65536 / 256 % 16 == 0) = false := by simpa using hz
    have hm : momentZ n = 144000 + n % 65536 / 8 % 4 * 1440 + n % 65536 % 7 * 200 + n % 65536 / 32 % 2 * 1439 - 600 := by unfold momentZ; rw [if_neg hz]
    have HM := Lib.hid hm
    clear hm hz
    go_enter Try.func36, Try.ntmps36
    go_wp2_with fail
    go_ret
    refine ⟨?_, Below.refl _ _⟩
    rw [HM.out]
    exact ret_val rfl

theorem value_any (k n : Int) (w : World) :
    Calls Try.prog 27 #[.int .i64 k, .int .i64 n] w fun e w' => e = .returned (agg (valueV k n).k (valueV k n).n (valueV k n).s) ∧ Below w.heap.size w w' := by
  have b1 := and_65535
  have b2 := and_31
  have b3 := and_3
  have b4 := and_1
  have m0 : 0 ≤ n % 65536 := by omega
  have m1 : n % 65536 < 65536 := by omega
  by_cases h1 : k = 1
  · subst h1
    have hv : valueV 1 n = ⟨1, n % 2, ⟨#[]⟩⟩ := by
      have e : n % 65536 % 2 = n % 2 := by omega
      simp [valueV, e]
    rw [hv]
    go_enter Try.func27, Try.ntmps27
    go_wp2_with fail
    exact bodyPost_ret (v := agg 1 (n % 2) ⟨#[]⟩) (by simp [results, Try.results27, go_sem]) rfl ⟨rfl, (Below.refl _ _).alloc (Nat.le_refl _) _⟩
  by_cases h2 : k = 2
  · subst h2
    by_cases hz : n % 65536 / 256 % 32 = 0
    · have hb : (n % 65536 / 256 % 32 == 0) = true := by rw [hz]; rfl
      have hv : valueV 2 n = ⟨2, 1073741824 - n % 2, ⟨#[]⟩⟩ := by
        have e : n % 65536 % 2 = n % 2 := by omega
        simp [valueV, intZ, hz, e]
      rw [hv]
      clear hz hv
      go_enter Try.func27, Try.ntmps27
      go_wp2_with fail
      exact bodyPost_ret (v := agg 2 (1073741824 - n % 2) ⟨#[]⟩) (by simp [results, Try.results27, go_sem]) rfl ⟨rfl, (Below.refl _ _).alloc (Nat.le_refl _) _⟩
    · have hb : (n % 65536 / 256 % 32 == 0) = false := by simpa using hz
      by_cases ho : n % 65536 / 256 % 32 = 1
      · have hb1 : (n % 65536 / 256 % 32 == 1) = true := by rw [ho]; rfl
        have hv : valueV 2 n = ⟨2, n % 4 - 1073741824, ⟨#[]⟩⟩ := by
          have e : n % 65536 % 4 = n % 4 := by omega
          simp [valueV, intZ, ho, e]
        rw [hv]
        clear hz ho hv
        go_enter Try.func27, Try.ntmps27
        go_wp2_with fail
        exact bodyPost_ret (v := agg 2 (n % 4 - 1073741824) ⟨#[]⟩) (by simp [results, Try.results27, go_sem]) rfl ⟨rfl, (Below.refl _ _).alloc (Nat.le_refl _) _⟩
      · have hb1 : (n % 65536 / 256 % 32 == 1) = false := by simpa using ho
        have hv : valueV 2 n = ⟨2, n % 65536 % 7 - 2, ⟨#[]⟩⟩ := by simp [valueV, intZ, hz, ho]
        rw [hv]
        clear hz ho hv
        go_enter Try.func27, Try.ntmps27
        go_wp2_with fail
        exact bodyPost_ret (v := agg 2 (n % 65536 % 7 - 2) ⟨#[]⟩) (by simp [results, Try.results27, go_sem]) rfl ⟨rfl, (Below.refl _ _).alloc (Nat.le_refl _) _⟩
  by_cases h3 : k = 3
  · subst h3
    have hp := pickText (n % 65536 % 6).toNat (by omega)
    have hv : valueV 3 n = ⟨3, 0, texts.getD (n % 65536 % 6).toNat ⟨#[]⟩⟩ := by simp [valueV]
    rw [hv]
    generalize texts.getD (n % 65536 % 6).toNat ⟨#[]⟩ = tx at hp ⊢
    clear hv
    go_enter Try.func27, Try.ntmps27
    go_wp2_with fail
    exact bodyPost_ret (v := agg 3 0 tx) (by simp [results, Try.results27, go_sem]) rfl ⟨rfl, ((Below.refl _ _).alloc (Nat.le_refl _) _).alloc (by simp) _⟩
  by_cases h4 : k = 4
  · subst h4
    have hv : valueV 4 n = ⟨4, momentZ n, ⟨#[]⟩⟩ := by simp [valueV]
    have hmm : momentZ (n % 65536) = momentZ n := by unfold momentZ; rw [show n % 65536 % 65536 = n % 65536 from by omega]
    rw [hv, ← hmm]
    clear hv hmm
    go_enter Try.func27, Try.ntmps27
    go_wp2_with fail
    refine (moment_any _ _).mono ?_
    rintro e w1 ⟨rfl, hb1⟩
    obtain ⟨hc, hf⟩ := bcell hb1
    have hs : w.heap.size < w1.heap.size := by have := hb1.size; simp at this; omega
    go_wp2_with fail
    have hB : Below w.heap.size w w1 := ((Below.refl _ _).alloc (Nat.le_refl _) _).trans (hb1.mono (by simp))
    exact bodyPost_ret (v := agg 4 (momentZ (n % 65536)) ⟨#[]⟩) (by simp [results, Try.results27, go_sem, hc]) rfl ⟨rfl, ((hB.setCell (Nat.le_refl _) _).setCell (Nat.le_refl _) _).setCell (Nat.le_refl _) _⟩
  · have hv : valueV k n = ⟨0, 0, ⟨#[]⟩⟩ := by simp [valueV, h1, h2, h3, h4]
    have c1 : (k == 1) = false := by simpa using h1
    have c2 : (k == 2) = false := by simpa using h2
    have c3 : (k == 3) = false := by simpa using h3
    have c4 : (k == 4) = false := by simpa using h4
    rw [hv]
    clear hv
    go_enter Try.func27, Try.ntmps27
    go_wp2_with fail
    exact bodyPost_ret (v := agg 0 0 ⟨#[]⟩) (by simp [results, Try.results27, go_sem]) rfl ⟨rfl, (Below.refl _ _).alloc (Nat.le_refl _) _⟩

theorem any_any (n : Int) (h0 : -9223372036854775808 ≤ n) (h1 : n ≤ 9223372036854775807) (w : World) :
    Calls Try.prog 10 #[.int .i64 n] w fun e w' => e = .returned (agg (anyV n).k (anyV n).n (anyV n).s) ∧ Below w.heap.size w w' := by
  have hq : wrap64 (n.tdiv 5) = n.tdiv 5 := IntWalk.wrap64_in _ (by
    have hs : Int.sign 5 = 1 := rfl
    rw [Int.tdiv_eq_ediv, hs]
    split <;> omega)
  go_enter Try.func10, Try.ntmps10
  go_wp2_with fail
  refine (value_any _ _ _).mono ?_
  rintro e w1 ⟨rfl, hb1⟩
  obtain ⟨hc, hf⟩ := bcell hb1
  have hs : w.heap.size < w1.heap.size := by have := hb1.size; simp at this; omega
  go_wp2_with fail
  have hB : Below w.heap.size w w1 := ((Below.refl _ _).alloc (Nat.le_refl _) _).trans (hb1.mono (by simp))
  exact bodyPost_ret (v := agg (anyV n).k (anyV n).n (anyV n).s) (by simp [results, Try.results10, go_sem, hc, anyV]) rfl ⟨rfl, ((hB.setCell (Nat.le_refl _) _).setCell (Nat.le_refl _) _).setCell (Nat.le_refl _) _⟩

end Go.Proofs.Ytnmlbafhdnffgaa
