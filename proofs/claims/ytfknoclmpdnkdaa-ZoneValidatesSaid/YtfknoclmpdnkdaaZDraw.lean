/-
  The zones that the laws draw, plainly. No program.
-/
import Derived.Test.YtfknoclmpdnkdaaZDay
set_option linter.unusedVariables false
namespace Wh

def offs7 : List Int := [60, 0, 120, -300, 720, -720, 90]
def offs0 : List Int := [0, 60, -300, 840, -840, 120, 30]

/-- n >> (3 + i). -/
def shrZ (n : Int) : Nat → Int
  | 0 => n / 8
  | 1 => n / 16
  | _ => n / 32

def shiftZ (n : Int) (i : Nat) : Int × Int := (144000 + 1000 * (i : Int) + shrZ n i % 9 * 100, offs7.getD (shrZ n i % 7).toNat 0)
def drawL (n : Int) (k : Nat) : List (Int × Int) := (List.range k).map (shiftZ n)
/-- The shifts and the offset of the zone number n, for n from 0 to 65535. -/
def cntD (n : Int) : Nat := (n / 7 % 4).toNat
def drawO (n : Int) : Int := offs0.getD (n % 7).toNat 0

theorem drawL_next (n : Int) (k : Nat) : drawL n (k + 1) = drawL n k ++ [shiftZ n k] := by
  unfold drawL
  rw [List.range_succ, List.map_append]
  rfl

theorem drawL_length (n : Int) (k : Nat) : (drawL n k).length = k := by simp [drawL]

theorem offs7_bd (j : Nat) : -840 ≤ offs7.getD j 0 ∧ offs7.getD j 0 ≤ 840 := by
  match j with
  | 0 => decide
  | 1 => decide
  | 2 => decide
  | 3 => decide
  | 4 => decide
  | 5 => decide
  | 6 => decide
  | j + 7 => exact ⟨by simp [offs7], by simp [offs7]⟩

theorem offs0_bd (j : Nat) : -840 ≤ offs0.getD j 0 ∧ offs0.getD j 0 ≤ 840 := by
  match j with
  | 0 => decide
  | 1 => decide
  | 2 => decide
  | 3 => decide
  | 4 => decide
  | 5 => decide
  | 6 => decide
  | j + 7 => exact ⟨by simp [offs0], by simp [offs0]⟩

theorem shiftZ_bd (n : Int) (i : Nat) (h : i ≤ 3) : 144000 + 1000 * (i : Int) ≤ (shiftZ n i).1 ∧ (shiftZ n i).1 ≤ 144800 + 1000 * (i : Int) ∧ -840 ≤ (shiftZ n i).2 ∧ (shiftZ n i).2 ≤ 840 := by
  have := offs7_bd (shrZ n i % 7).toNat
  refine ⟨?_, ?_, this.1, this.2⟩ <;> (unfold shiftZ; simp only; omega)

theorem draw_ok (n : Int) : OkZ (drawO n) (drawL n (cntD n)) := by
  have hc : cntD n ≤ 3 := by unfold cntD; omega
  have ho := offs0_bd (n % 7).toNat
  refine ⟨by rw [drawL_length]; omega, ho.1, ho.2, fun s hs => ?_, ?_⟩
  · simp only [drawL, List.mem_map, List.mem_range] at hs
    obtain ⟨i, hi, rfl⟩ := hs
    have := shiftZ_bd n i (by omega)
    omega
  · unfold drawL
    rw [List.pairwise_map]
    refine List.Pairwise.imp_of_mem ?_ (List.pairwise_lt_range (n := cntD n))
    intro i j hi hj hij
    rw [List.mem_range] at hi hj
    have h1 := shiftZ_bd n i (by omega)
    have h2 := shiftZ_bd n j (by omega)
    omega

theorem goE_ok : ∀ (l : List (Int × Int)) (b : Int), (∀ s ∈ l, b < s.1 ∧ 1 ≤ s.1 ∧ s.1 ≤ 575999999 ∧ -840 ≤ s.2 ∧ s.2 ≤ 840) → (l.Pairwise fun s u => s.1 < u.1) → goE b l = 0
  | [], _, _, _ => rfl
  | s :: l, b, h, hp => by
    obtain ⟨hp1, hp2⟩ := List.pairwise_cons.1 hp
    have hs := h s List.mem_cons_self
    unfold goE
    rw [if_neg (by omega), if_neg (by omega)]
    exact goE_ok l s.1 (fun u hu => ⟨hp1 u hu, (h u (List.mem_cons_of_mem _ hu)).2⟩) hp2

theorem OkZ.zero {o : Int} {l : List (Int × Int)} (h : OkZ o l) : zoneE o l = 0 := by
  have h1 := h.len
  have h2 := h.o0
  have h3 := h.o1
  unfold zoneE
  rw [if_neg (by omega), if_neg (by omega)]
  exact goE_ok l 0 (fun s hs => by have := h.at_ s hs; omega) h.up

end Wh
