/-
  Sum, of exact and of its reference.
-/
import Derived.Test.YtknpjfmpflbcfaaXCalc
import Derived.Test.YtknpjfmpflbcfaaGInts
import Derived.LoopTactic
set_option linter.unusedVariables false
namespace Wh

/-- Is there a sum? -/
def sumB (zs : List Int) : Bool := zs.all smB && smB zs.sum
def sumZ (zs : List Int) : Int := if sumB zs = true then zs.sum else 0

theorem sum_bd : ∀ l : List Int, (∀ z ∈ l, smB z = true) → -(1073741824 * (l.length : Int)) ≤ l.sum ∧ l.sum ≤ 1073741824 * (l.length : Int)
  | [], _ => by simp
  | x :: l, h => by
    have ih := sum_bd l fun z hz => h z (List.mem_cons_of_mem _ hz)
    have hx := smB_bd (h x List.mem_cons_self)
    simp only [List.sum_cons, List.length_cons, Int.natCast_add]
    omega

theorem sum_next {l : List Int} {k : Nat} {x : Int} (h : l[k]? = some x) : (l.take (k + 1)).sum = (l.take k).sum + x := by
  have hk := (List.getElem?_eq_some_iff.1 h).1
  rw [List.take_add_one, h]
  simp

theorem take_next {α : Type} {l : List α} {k : Nat} {x : α} (h : l[k]? = some x) : l.take (k + 1) = l.take k ++ [x] := by
  rw [List.take_add_one, h]
  rfl

theorem sum_no {zs : List Int} {x : Int} (hx : x ∈ zs) (h : smB x = false) : sumB zs = false ∧ sumZ zs = 0 := by
  have e : sumB zs = false := by
    unfold sumB
    rw [Bool.and_eq_false_iff]
    left
    rw [List.all_eq_false]
    exact ⟨x, hx, by simp [h]⟩
  exact ⟨e, by unfold sumZ; rw [e]; rfl⟩

theorem sum_yes {zs : List Int} (h : ∀ z ∈ zs, smB z = true) : sumB zs = smB zs.sum ∧ sumZ zs = chkZ zs.sum := by
  have e : sumB zs = smB zs.sum := by
    unfold sumB
    rw [List.all_eq_true.2 h]
    rfl
  exact ⟨e, by unfold sumZ chkZ; rw [e]⟩

theorem sum_reverse (zs : List Int) : sumB zs.reverse = sumB zs ∧ sumZ zs.reverse = sumZ zs := by
  have e : sumB zs.reverse = sumB zs := by
    unfold sumB
    rw [List.all_reverse, List.sum_reverse]
  exact ⟨e, by unfold sumZ; rw [e, List.sum_reverse]⟩

end Wh
namespace Go.Proofs.Ytknpjfmpflbcfaa
open Go.RowKit Wh

theorem sum_any (a : Option Addr) (len cap : Nat) (zs : List Int) (w : World) (hz : IsInts w a len zs) (hl : len ≤ 1000) :
    Calls Try.prog 22 #[.slice a len cap] w (IsPair (sumZ zs) (sumB zs) w) := by
  have HZ := Lib.hid hz
  have hlen : zs.length = len := hz.1
  clear hz
  have HL := Lib.hid hlen
  clear hlen
  go_enter Try.func22, Try.ntmps22
  go_wp2_with fail
  go_loop [4, 9] (fun s i => ∃ k : Nat, k ≤ len ∧ i = .int .i64 k ∧ s = .int .i64 (zs.take k).sum ∧ ∀ z ∈ zs.take k, smB z = true) (fun _ i => len - (intOf i).toNat)
  case atStart => exact ⟨0, Nat.zero_le _, rfl, rfl, by simp⟩
  case round =>
    obtain ⟨k, hk, rfl, rfl, hsm⟩ := hrel
    have hb := sum_bd _ hsm
    have hlk : (zs.take k).length ≤ k := List.length_take_le _ _
    by_cases hlt : k < len
    · obtain ⟨x, hx⟩ : ∃ x, zs[k]? = some x := ⟨_, List.getElem?_eq_getElem (by have := HL.out; omega)⟩
      obtain ⟨b, off, rfl, hbl, hat⟩ : ∃ b off, a = some ⟨b, off, none⟩ ∧ b < w.heap.size ∧ ∀ i z, zs[i]? = some z → w.cell? ⟨b, off + i, none⟩ = some (.int .i64 z) := by
        rcases HZ.out.2 with h | h
        · rw [h] at hx; simp at hx
        · exact h
      have hc := hat k x hx
      have HX := Lib.hid hx
      have HN := Lib.hid (sum_next hx)
      have HT := Lib.hid (take_next hx)
      have HS := Lib.hid hsm
      clear hx hat HZ hsm
      generalize (zs.take k).sum = s at *
      cases hs : smB x
      · have HE := Lib.hid (sum_no (List.mem_of_getElem? HX.out) hs)
        go_wp2_with (go_at_call 31; refine (small_any _ _).mono ?_; rintro e w' ⟨rfl, rfl⟩)
        go_ret2
        exact ⟨ret_pair HE.out.2.symm HE.out.1.symm, rfl⟩
      · have hxb := smB_bd hs
        go_wp2_with (go_at_call 31; refine (small_any _ _).mono ?_; rintro e w' ⟨rfl, rfl⟩)
        go_round
        case rel =>
          refine ⟨k + 1, by omega, by go_num, by rw [HN.out], ?_⟩
          rw [HT.out]
          intro z hz
          rcases List.mem_append.1 hz with hz | hz
          · exact HS.out z hz
          · rw [List.mem_singleton.1 hz]; exact hs
        case measure => simp [intOf]; omega
    · obtain rfl : k = len := by omega
      have hall : zs.take k = zs := by rw [← HL.out, List.take_length]
      rw [hall] at hsm hb ⊢
      have HE := Lib.hid (sum_yes hsm)
      clear hsm hall HZ
      go_wp2_with (go_at_call 32; refine (checked_any _ _).mono ?_; rintro e w' ⟨rfl, rfl⟩)
      go_ret2
      exact ⟨ret_pair HE.out.2.symm HE.out.1.symm, rfl⟩

theorem rsum_any (a : Option Addr) (len cap : Nat) (zs : List Int) (w : World) (hz : IsInts w a len zs) (hl : len ≤ 1000) :
    Calls Try.prog 23 #[.slice a len cap] w (IsPair (sumZ zs) (sumB zs) w) := by
  have HZ := Lib.hid hz
  have hlen : zs.length = len := hz.1
  clear hz
  have HL := Lib.hid hlen
  clear hlen
  go_enter Try.func23, Try.ntmps23
  go_wp2_with fail
  go_loop [4, 5] (fun s i => ∃ k : Nat, k ≤ len ∧ i = .int .i64 k ∧ s = .int .i64 (zs.take k).sum ∧ ∀ z ∈ zs.take k, smB z = true) (fun _ i => len - (intOf i).toNat)
  case atStart => exact ⟨0, Nat.zero_le _, rfl, rfl, by simp⟩
  case round =>
    obtain ⟨k, hk, rfl, rfl, hsm⟩ := hrel
    have hb := sum_bd _ hsm
    have hlk : (zs.take k).length ≤ k := List.length_take_le _ _
    by_cases hlt : k < len
    · obtain ⟨x, hx⟩ : ∃ x, zs[k]? = some x := ⟨_, List.getElem?_eq_getElem (by have := HL.out; omega)⟩
      obtain ⟨b, off, rfl, hbl, hat⟩ : ∃ b off, a = some ⟨b, off, none⟩ ∧ b < w.heap.size ∧ ∀ i z, zs[i]? = some z → w.cell? ⟨b, off + i, none⟩ = some (.int .i64 z) := by
        rcases HZ.out.2 with h | h
        · rw [h] at hx; simp at hx
        · exact h
      have hc := hat k x hx
      have HX := Lib.hid hx
      have HN := Lib.hid (sum_next hx)
      have HT := Lib.hid (take_next hx)
      have HS := Lib.hid hsm
      clear hx hat HZ hsm
      generalize (zs.take k).sum = s at *
      cases hs : smB x
      · have HE := Lib.hid (sum_no (List.mem_of_getElem? HX.out) hs)
        go_wp2_with (go_at_call 34; refine (rsmall_any _ _).mono ?_; rintro e w' ⟨rfl, rfl⟩)
        go_ret2
        exact ⟨ret_pair HE.out.2.symm HE.out.1.symm, rfl⟩
      · have hxb := smB_bd hs
        go_wp2_with (go_at_call 34; refine (rsmall_any _ _).mono ?_; rintro e w' ⟨rfl, rfl⟩)
        go_round
        case rel =>
          refine ⟨k + 1, by omega, by go_num, by rw [HN.out], ?_⟩
          rw [HT.out]
          intro z hz
          rcases List.mem_append.1 hz with hz | hz
          · exact HS.out z hz
          · rw [List.mem_singleton.1 hz]; exact hs
        case measure => simp [intOf]; omega
    · obtain rfl : k = len := by omega
      have hall : zs.take k = zs := by rw [← HL.out, List.take_length]
      rw [hall] at hsm hb ⊢
      have HE := Lib.hid (sum_yes hsm)
      have HC := Lib.hid (show chkZ zs.sum = if smB zs.sum = true then zs.sum else 0 from rfl)
      clear hsm hall HZ
      cases hs : smB zs.sum
      all_goals
        go_wp2_with (go_at_call 34; refine (rsmall_any _ _).mono ?_; rintro e w' ⟨rfl, rfl⟩)
        go_ret2
        exact ⟨ret_pair (by rw [HE.out.2, HC.out, hs]; rfl) (by rw [HE.out.1, hs]), rfl⟩

end Go.Proofs.Ytknpjfmpflbcfaa
