/-
  Zones in memory; the small functions: isOffset, within, localDay, Floor.
-/
import Derived.Test.YtfknoclmpdnkdaaRows
import Derived.Test.YtfknoclmpdnkdaaZMath
import Derived.Test.YtfknoclmpdnkdaaGRet
import Derived.WalkLawsBesides
import Derived.WalkSpells
import Derived.Outline
import Derived.BigQuiet
import Derived.Below
import Derived.IntWalk
import Derived.Lib.Hide
import Derived.LoopTactic
set_option linter.unusedVariables false
namespace Go.Proofs.Ytfknoclmpdnkdaa
open Go.RowKit Wh

/-- A zone. -/
abbrev zoneV (nm : ByteArray) (o : Int) (a : Option Addr) (len cap : Nat) : Value := .agg #[.string nm, .int .i64 o, .slice a len cap]

/-- The slice (a, len) has the shifts l. -/
def IsShifts (w : World) (a : Option Addr) (len : Nat) (l : List (Int × Int)) : Prop :=
  l.length = len ∧ (l = [] ∨ ∃ b off, a = some ⟨b, off, none⟩ ∧ b < w.heap.size ∧ ∀ i s, l[i]? = some s → w.cell? ⟨b, off + i * 2, none⟩ = some (.int .i64 s.1) ∧ w.cell? ⟨b, off + i * 2 + 1, none⟩ = some (.int .i64 s.2))

theorem IsShifts.below {w w' : World} {a : Option Addr} {len B : Nat} {l : List (Int × Int)} (h : IsShifts w a len l) (hb : Below B w w') (hB : w.heap.size ≤ B) : IsShifts w' a len l := by
  obtain ⟨h1, h2⟩ := h
  refine ⟨h1, ?_⟩
  rcases h2 with h2 | ⟨b, off, ha, hlt, hc⟩
  · exact .inl h2
  · have e : ∀ o, w'.cell? ⟨b, o, none⟩ = w.cell? ⟨b, o, none⟩ := fun o => hb.cell (p := ⟨b, o, none⟩) (by show b < B; omega)
    refine .inr ⟨b, off, ha, by have := hb.size; omega, fun i s hs => ?_⟩
    rw [e, e]
    exact hc i s hs

theorem IsShifts.at {w : World} {a : Option Addr} {len : Nat} {l : List (Int × Int)} (h : IsShifts w a len l) {k : Nat} (hk : k < len) :
    ∃ s b off, l[k]? = some s ∧ a = some ⟨b, off, none⟩ ∧ b < w.heap.size ∧ w.cell? ⟨b, off + k * 2, none⟩ = some (.int .i64 s.1) ∧ w.cell? ⟨b, off + k * 2 + 1, none⟩ = some (.int .i64 s.2) := by
  obtain ⟨h1, h2⟩ := h
  obtain ⟨s, hs⟩ : ∃ s, l[k]? = some s := ⟨_, List.getElem?_eq_getElem (by omega)⟩
  rcases h2 with rfl | ⟨b, off, ha, hlt, hc⟩
  · simp at hs
  · exact ⟨s, b, off, hs, ha, hlt, (hc k s hs).1, (hc k s hs).2⟩

theorem bcell {W w1 : World} (hb : Below W.heap.size W w1) : (∀ b o, b < W.heap.size → w1.cell? ⟨b, o, none⟩ = W.cell? ⟨b, o, none⟩) ∧ (∀ b o, b < W.heap.size → w1.frozen? ⟨b, o, none⟩ = W.frozen? ⟨b, o, none⟩) :=
  ⟨fun b o h => hb.cell (p := ⟨b, o, none⟩) h, fun b o h => hb.frozen (p := ⟨b, o, none⟩) h⟩

/-- Is it an offset? -/
def offB (o : Int) : Bool := decide (-840 ≤ o) && decide (o ≤ 840)

theorem isOffset_any (o : Int) (w : World) : Calls Try.prog 23 #[.int .i64 o] w fun e w' => e = .returned (.bool (offB o)) ∧ w = w' := by
  go_enter Try.func23, Try.ntmps23
  go_wp2
  all_goals
    go_ret
    refine ⟨ret_bool ?_, rfl⟩
    simp_all [offB]
    try omega

theorem within_any (o : Int) (w : World) : Calls Try.prog 24 #[.int .i64 o] w fun e w' => e = .returned (.bool (offB o)) ∧ w = w' := by
  go_enter Try.func24, Try.ntmps24
  go_wp2
  all_goals
    go_ret
    refine ⟨ret_bool ?_, rfl⟩
    simp_all [offB]
    try omega

theorem localDay_any (t o : Int) (h0 : -1000000000000 ≤ t) (h1 : t ≤ 1000000000000) (h2 : -840 ≤ o) (h3 : o ≤ 840) (w : World) :
    Calls Try.prog 35 #[.int .i64 t, .int .i64 o] w fun e w' => e = .returned (.int .i64 (max 0 (t + o) / 1440)) ∧ w = w' := by
  go_enter Try.func35, Try.ntmps35
  go_wp2
  all_goals
    go_ret
    refine ⟨ret_int ?_, rfl⟩
    omega

theorem floor_any (x : Int) (h0 : -1000000000000 ≤ x) (h1 : x ≤ 1000000000000) (w : World) :
    Calls Try.prog 38 #[.int .i64 x, .int .i64 1440] w fun e w' => e = .returned (.int .i64 (x / 1440)) ∧ w = w' := by
  have hq : x.tdiv 1440 = x / 1440 + if 0 ≤ x ∨ (1440 : Int) ∣ x then 0 else 1 := Int.tdiv_eq_ediv
  have hr : x.tmod 1440 = x % 1440 - if 0 ≤ x ∨ (1440 : Int) ∣ x then 0 else 1440 := by
    rw [Int.tmod_eq_emod]
    split <;> rfl
  have hb : -1000000000 ≤ x.tdiv 1440 ∧ x.tdiv 1440 ≤ 1000000000 := by rw [hq]; split <;> omega
  have hw : wrap64 (x.tdiv 1440) = x.tdiv 1440 := IntWalk.wrap64_in _ (by omega)
  have hw1 : wrap64 (x.tdiv 1440 - 1) = x.tdiv 1440 - 1 := IntWalk.wrap64_in _ (by omega)
  have HQ := Lib.hid hq
  have HR := Lib.hid hr
  clear hq hr
  go_enter Try.func38, Try.ntmps38
  go_wp2
  all_goals
    go_ret
    refine ⟨ret_int ?_, rfl⟩
    have hq := HQ.out
    have hr := HR.out
    by_cases hc : 0 ≤ x ∨ (1440 : Int) ∣ x
    · rw [if_pos hc] at hq hr
      omega
    · rw [if_neg hc] at hq hr
      omega

end Go.Proofs.Ytfknoclmpdnkdaa
