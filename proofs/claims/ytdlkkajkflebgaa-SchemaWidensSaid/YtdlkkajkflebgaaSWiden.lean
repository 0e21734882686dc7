/-
  Widen, of schema and of its reference.
-/
import Derived.Test.YtdlkkajkflebgaaGRow3
set_option linter.unusedVariables false
namespace Wh

/-- The columns of a, nullable also where b's are. -/
def widL : List C → List C → List C
  | [], _ => []
  | c :: a, [] => c :: widL a []
  | c :: a, d :: b => ⟨c.nm, c.k, c.nu || d.nu⟩ :: widL a b

theorem widL_length : ∀ a b : List C, (widL a b).length = a.length
  | [], _ => by simp [widL]
  | c :: a, [] => by simp [widL, widL_length a []]
  | c :: a, d :: b => by simp [widL, widL_length a b]
theorem widL_both : ∀ {a b : List C} {k : Nat} {c d : C}, a[k]? = some c → b[k]? = some d → (widL a b)[k]? = some ⟨c.nm, c.k, c.nu || d.nu⟩
  | [], _, k, c, d, h, _ => by simp at h
  | _ :: _, [], k, c, d, _, h => by simp at h
  | x :: a, y :: b, 0, c, d, h1, h2 => by simp at h1 h2; subst h1 h2; rfl
  | x :: a, y :: b, k + 1, c, d, h1, h2 => by
    simp only [List.getElem?_cons_succ] at h1 h2
    simp only [widL, List.getElem?_cons_succ]
    exact widL_both h1 h2
theorem widL_nil : ∀ a : List C, widL a [] = a
  | [] => rfl
  | c :: a => by simp [widL, widL_nil a]
theorem widL_one : ∀ {a b : List C} {k : Nat}, b.length ≤ k → (widL a b)[k]? = a[k]?
  | [], b, k, _ => by simp [widL]
  | c :: a, [], k, _ => by rw [widL_nil]
  | c :: a, d :: b, 0, h => by simp at h
  | c :: a, d :: b, k + 1, h => by
    simp only [widL, List.getElem?_cons_succ]
    exact widL_one (by simpa using h)

/-- The columns after k rounds. -/
def widK (a b : List C) (k : Nat) : List C := (widL a b).take k ++ a.drop k

theorem widK_zero (a b : List C) : widK a b 0 = a := by simp [widK]
theorem widK_length (a b : List C) (k : Nat) : (widK a b k).length = a.length := by
  unfold widK
  rw [List.length_append, List.length_take, List.length_drop, widL_length]
  omega
theorem widK_at {a b : List C} {k : Nat} {c : C} (h : a[k]? = some c) : (widK a b k)[k]? = some c := by
  have hk := (List.getElem?_eq_some_iff.1 h).1
  have hl : ((widL a b).take k).length = k := by rw [List.length_take, widL_length]; omega
  unfold widK
  rw [List.getElem?_append_right (by omega), hl, Nat.sub_self, List.getElem?_drop]
  simpa using h
theorem widK_set {a b : List C} {k : Nat} {c d : C} (h : a[k]? = some c) (h2 : b[k]? = some d) : (widK a b k).set k ⟨c.nm, c.k, c.nu || d.nu⟩ = widK a b (k + 1) := by
  have hk := List.getElem?_eq_some_iff.1 h
  have hk1 := hk.1
  have hl : ((widL a b).take k).length = k := by rw [List.length_take, widL_length]; omega
  unfold widK
  rw [List.take_add_one, widL_both h h2, List.set_append_right k _ (by omega), hl, Nat.sub_self, List.drop_eq_getElem_cons hk.1, List.set_cons_zero]
  simp
theorem widK_end {a b : List C} {k : Nat} (h : a.length ≤ k ∨ b.length ≤ k) : widK a b k = widL a b := by
  unfold widK
  apply List.ext_getElem?
  intro j
  by_cases hj : j < k
  · by_cases hja : j < a.length
    · rw [List.getElem?_append_left (by rw [List.length_take, widL_length]; omega), List.getElem?_take_of_lt hj]
    · rw [List.getElem?_eq_none (by rw [List.length_append, List.length_take, List.length_drop, widL_length]; omega), List.getElem?_eq_none (by rw [widL_length]; omega)]
  · rcases h with h | h
    · rw [List.getElem?_eq_none (by rw [List.length_append, List.length_take, List.length_drop, widL_length]; omega), List.getElem?_eq_none (by rw [widL_length]; omega)]
    · rw [widL_one (by omega)]
      by_cases hja : k ≤ a.length
      · have hl : ((widL a b).take k).length = k := by rw [List.length_take, widL_length]; omega
        rw [List.getElem?_append_right (by omega), hl, List.getElem?_drop]
        congr 1
        omega
      · rw [List.getElem?_eq_none (by rw [List.length_append, List.length_take, List.length_drop, widL_length]; omega), List.getElem?_eq_none (show a.length ≤ j by omega)]

end Wh
namespace Go.Proofs.Ytdlkkajkflebgaa
open Go.RowKit Wh

set_option maxHeartbeats 2000000 in
theorem widen_any (a1 : Option Addr) (len1 cap1 : Nat) (xs : List C) (a2 : Option Addr) (len2 cap2 : Nat) (ys : List C) (w : World) (h1 : IsCols w a1 len1 xs) (h2 : IsCols w a2 len2 ys)
    (q1 : len1 ≤ 1000000) (q2 : len2 ≤ 9223372036854775807) :
    Calls Try.prog 34 #[.slice a1 len1 cap1, .slice a2 len2 cap2] w (ColsPost w (widL xs ys)) := by
  have hl := widL_length xs ys
  have hl1 := h1.1
  have hlm : ((widL xs ys).map cC).length = len1 := by rw [List.length_map, hl, hl1]
  have hat : ∀ (k : Nat) (c d : C), xs[k]? = some c → ys[k]? = some d → ((widL xs ys).map cC)[k]? = some (cC ⟨c.nm, c.k, c.nu || d.nu⟩) := fun k c d hc hd => by rw [List.getElem?_map, widL_both hc hd]; rfl
  have hat1 : ∀ (k : Nat) (c : C), xs[k]? = some c → ys.length ≤ k → ((widL xs ys).map cC)[k]? = some (cC c) := fun k c hc hd => by rw [List.getElem?_map, widL_one hd, hc]; rfl
  unfold ColsPost
  rw [hl, hl1]
  generalize (widL xs ys).map cC = out at *
  have HAT := Lib.hid hat
  have HAT1 := Lib.hid hat1
  have HLM := Lib.hid hlm
  have H1 := Lib.hid h1
  have H2 := Lib.hid h2
  clear h1 h2 hat hat1 hlm hl hl1
  obtain ⟨i0, hi, hz0, hz1, hz2⟩ := info_parts info_col
  go_enter Try.func34, Try.ntmps34
  go_wp2_with (refine wpList_make_full _ rfl (.tmp 9) (.tmp 9) 28 rfl w.heap.size 55 i0 _ 3 Try.underlying28 hi hz0 hz1 .i64 .i64 _ _ len1 rfl rfl rfl rfl ?c1 ?c2 (Nat.le_refl _) ?_)
  case c1 => rw [hz2]; omega
  case c2 => simp [maxLen]; omega
  intro w0 own0 hg0
  have B0 : Below w.heap.size w w0 := (Below.refl _ _).grown hg0 (Nat.le_refl _) (fun j hj => by cases hj)
  have own1 : w0.ownsRow w.heap.size 55 3 (.slice (some ⟨w.heap.size, 0, none⟩) len1 len1) len1 (flat3 (half out (cC cNull) 0)) := by
    rw [half_zero, HLM.out, show cC cNull = (.string ⟨#[]⟩, .int .i64 0, .bool false) from rfl, ← flat3_made]
    exact own0
  have HO1 := Lib.hid own1
  clear own0 hg0 own1
  go_wp2_with fail
  go_loopw [13] (fun iv wr => ∃ k : Nat, k ≤ len1 ∧ iv = .int .i64 k ∧ wr.ownsRow w.heap.size 55 3 (.slice (some ⟨w.heap.size, 0, none⟩) len1 len1) len1 (flat3 (half out (cC cNull) k)) ∧ Below w.heap.size w wr)
    (fun i _ => len1 - (intOf i).toNat)
  case atStart => exact ⟨0, Nat.zero_le _, rfl, HO1.out, B0⟩
  case round =>
    obtain ⟨k, hk, rfl, hown, hbel⟩ := hrel
    have hsz := hbel.size
    have HO := Lib.hid hown
    clear hown HO1 B0
    by_cases hlt : k < len1
    · obtain ⟨nm, kd, nu, b1, off1, hx, rfl, hbl1, c0, c1, c2⟩ := (H1.out.below hbel (Nat.le_refl _)).at hlt
      -- the new element, the row with it and the world behind the stores
      have STEP : ∀ nu' : Bool, out[k]? = some (cC ⟨nm, kd, nu'⟩) → ∃ wo : World, wo = wr.alloc (.cells #[.string nm, .int .i64 kd, .bool nu'] 55) ∧
          (wo.cell? ⟨w.heap.size, k * 3, none⟩ = some (cC cNull).1 ∧ wo.cell? ⟨w.heap.size, k * 3 + 1, none⟩ = some (cC cNull).2.1 ∧ wo.cell? ⟨w.heap.size, k * 3 + 2, none⟩ = some (cC cNull).2.2 ∧
            wo.frozen? ⟨w.heap.size, k * 3, none⟩ = false ∧ wo.frozen? ⟨w.heap.size, k * 3 + 1, none⟩ = false ∧ wo.frozen? ⟨w.heap.size, k * 3 + 2, none⟩ = false) ∧
          Hid ((((wo.setCell ⟨w.heap.size, k * 3, none⟩ (.string nm)).setCell ⟨w.heap.size, k * 3 + 1, none⟩ (.int .i64 kd)).setCell ⟨w.heap.size, k * 3 + 2, none⟩ (.bool nu')).ownsRow w.heap.size 55 3 (.slice (some ⟨w.heap.size, 0, none⟩) len1 len1) len1 (flat3 (half out (cC cNull) (k + 1))) ∧
            Below w.heap.size w (((wo.setCell ⟨w.heap.size, k * 3, none⟩ (.string nm)).setCell ⟨w.heap.size, k * 3 + 1, none⟩ (.int .i64 kd)).setCell ⟨w.heap.size, k * 3 + 2, none⟩ (.bool nu'))) := fun nu' hA => by
        refine ⟨_, rfl, ?_, ?_⟩
        · exact own3_at (HO.out.alloc _) (half_at (z := cC cNull) (by rw [HLM.out]; exact hlt)) (by rw [half_length (by rw [HLM.out]; omega), HLM.out])
        · have hown2 := own3_set (HO.out.alloc (.cells #[.string nm, .int .i64 kd, .bool nu'] 55)) (k := k) (by rw [half_length (by rw [HLM.out]; omega), HLM.out]; exact hlt) (.string nm) (.int .i64 kd) (.bool nu')
          rw [show ((.string nm, .int .i64 kd, .bool nu') : T3) = cC ⟨nm, kd, nu'⟩ from rfl, half_set hA] at hown2
          exact ⟨hown2, ((((hbel.alloc hsz _).setCell (p := ⟨w.heap.size, k * 3, none⟩) (Nat.le_refl _) (.string nm)).setCell (p := ⟨w.heap.size, k * 3 + 1, none⟩) (Nat.le_refl _) (.int .i64 kd)).setCell (p := ⟨w.heap.size, k * 3 + 2, none⟩) (Nat.le_refl _) (.bool nu'))⟩
      have hl2 := H2.out.1
      by_cases hlt2 : k < len2
      · obtain ⟨nm2, kd2, nu2, b2, off2, hy, rfl, hbl2, d0, d1, d2⟩ := (H2.out.below hbel (Nat.le_refl _)).at hlt2
        obtain ⟨wo, hwo, ⟨x0, x1, x2, f0, f1, f2⟩, HF⟩ := STEP (nu || nu2) (HAT.out k _ _ hx hy)
        subst hwo
        clear STEP hx hy hl2 HO
        cases nu <;> cases nu2
        all_goals
          simp only [Bool.or_self, Bool.or_true, Bool.or_false] at x0 x1 x2 f0 f1 f2 HF
          go_wp2_with fail
          go_roundw
          case rel => exact ⟨k + 1, by omega, by go_num, HF.out.1, HF.out.2⟩
          case measure => simp [intOf]; omega
      · obtain ⟨wo, hwo, ⟨x0, x1, x2, f0, f1, f2⟩, HF⟩ := STEP nu (HAT1.out k _ hx (by omega))
        subst hwo
        clear STEP hx hl2 HO
        cases nu
        all_goals
          go_wp2_with fail
          go_roundw
          case rel => exact ⟨k + 1, by omega, by go_num, HF.out.1, HF.out.2⟩
          case measure => simp [intOf]; omega
    · obtain rfl : k = len1 := by omega
      have hown2 := HO.out
      have he := half_end out (cC cNull)
      rw [HLM.out] at he
      rw [he] at hown2
      have HO2 := Lib.hid hown2
      clear hown2 HO he
      go_wp2_with fail
      go_ret
      exact ⟨_, rfl, HO2.out, hbel⟩

end Go.Proofs.Ytdlkkajkflebgaa
