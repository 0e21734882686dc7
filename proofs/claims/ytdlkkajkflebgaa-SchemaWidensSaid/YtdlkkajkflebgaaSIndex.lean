/-
  Index and Validate, of schema and of its reference.
-/
import Derived.Test.YtdlkkajkflebgaaSName2
set_option linter.unusedVariables false
namespace Wh
open Go

/-- The number of the first column with a name, counted from i on. -/
def idxF (nm : ByteArray) : List C → Nat → Int
  | [], _ => -1
  | c :: cs, i => if eqS c.nm nm = true then i else idxF nm cs (i + 1)
/-- The number of the first column with a name, or -1. -/
def idxC (cs : List C) (nm : ByteArray) : Int := idxF nm cs 0

theorem idxF_next {cs : List C} {k : Nat} {c : C} (h : cs[k]? = some c) (nm : ByteArray) : idxF nm (cs.drop k) k = if eqS c.nm nm = true then (k : Int) else idxF nm (cs.drop (k + 1)) (k + 1) := by
  have hk := (List.getElem?_eq_some_iff.1 h).1
  rw [List.drop_eq_getElem_cons hk]
  have e : cs[k] = c := by rw [List.getElem?_eq_getElem hk] at h; exact Option.some.inj h
  rw [e]
  rfl
theorem idxF_end {cs : List C} {k : Nat} (h : cs.length ≤ k) (nm : ByteArray) : idxF nm (cs.drop k) k = -1 := by
  rw [List.drop_of_length_le h]
  rfl
theorem idxF_bd (nm : ByteArray) : ∀ (cs : List C) (i : Nat), idxF nm cs i = -1 ∨ ((i : Int) ≤ idxF nm cs i ∧ idxF nm cs i < (i + cs.length : Nat))
  | [], _ => .inl rfl
  | c :: cs, i => by
    unfold idxF
    split
    · right; simp; omega
    · rcases idxF_bd nm cs (i + 1) with h | h
      · exact .inl h
      · right; simp at *; omega
theorem idxC_bd (cs : List C) (nm : ByteArray) : idxC cs nm = -1 ∨ (0 ≤ idxC cs nm ∧ idxC cs nm < (cs.length : Nat)) := by
  have := idxF_bd nm cs 0
  simpa [idxC] using this

theorem idxF_append (nm : ByteArray) (b : List C) : ∀ (a : List C) (i : Nat), idxF nm (a ++ b) i = if idxF nm a i < 0 then idxF nm b (i + a.length) else idxF nm a i
  | [], i => by simp [idxF]
  | c :: a, i => by
    simp only [List.cons_append, idxF]
    split
    · rw [if_neg (by omega)]
    · rw [idxF_append nm b a (i + 1)]
      simp only [List.length_cons]
      rw [show i + 1 + a.length = i + (a.length + 1) by omega]

/-- A column has the name of an earlier one, or its number is the first with its name. -/
theorem dup_iff {cs : List C} {k : Nat} {c : C} (h : cs[k]? = some c) : (idxC (cs.take k) c.nm < 0) ↔ idxC cs c.nm = k := by
  have hk := (List.getElem?_eq_some_iff.1 h).1
  have e := idxF_append c.nm (cs.drop k) (cs.take k) 0
  rw [List.take_append_drop] at e
  have hl : (cs.take k).length = k := by rw [List.length_take]; omega
  rw [hl, Nat.zero_add, idxF_next h, if_pos (eqS_refl _)] at e
  have hb := idxF_bd c.nm (cs.take k) 0
  rw [hl] at hb
  unfold idxC
  rw [e]
  constructor
  · intro h; rw [if_pos h]
  · intro h2
    by_cases h3 : idxF c.nm (cs.take k) 0 < 0
    · exact h3
    · rw [if_neg h3] at h2
      omega

end Wh
namespace Go.Proofs.Ytdlkkajkflebgaa
open Go.RowKit Wh

theorem index_any5 (a : Option Addr) (len cap : Nat) (cs : List C) (nm : ByteArray) (w : World) (hs : IsCols w a len cs) (hl : len ≤ 9223372036854775807) :
    Calls Try.prog 19 #[.slice a len cap, .string nm] w fun e w' => e = .returned (.int .i64 (idxC cs nm)) ∧ Below w.heap.size w w' := by
  generalize hE : idxC cs nm = E
  have HE := Lib.hid hE
  have HS := Lib.hid hs
  clear hs hE
  go_enter Try.func19, Try.ntmps19
  go_wp2_with fail
  go_loopw [9] (fun iv wr => ∃ k : Nat, k ≤ len ∧ iv = .int .i64 k ∧ Hid (idxF nm (cs.drop k) k = E) ∧ Below w.heap.size w wr) (fun i _ => len - (intOf i).toNat)
  case atStart => exact ⟨0, Nat.zero_le _, rfl, HE.out, Below.refl _ _⟩
  case round =>
    obtain ⟨k, hk, rfl, HG, hbel⟩ := hrel
    have hsz := hbel.size
    by_cases hlt : k < len
    · obtain ⟨nk, kd, nu, b, off, hx, rfl, hbl, hc0, hc1, hc2⟩ := (HS.out.below hbel (Nat.le_refl _)).at hlt
      have HN := Lib.hid (idxF_next hx nm)
      clear hx
      cases he : eqS nk nm with
      | true =>
        have HR : Hid (E = k) := by show _ = _; rw [← HG.out, HN.out, if_pos he]
        have he2 : (nk.toList == nm.toList) = true := he
        clear he HN HG
        go_wp2_with fail
        go_ret
        exact ⟨ret_int HR.out.symm, hbel.alloc hsz _⟩
      | false =>
        have HR : Hid (idxF nm (cs.drop (k + 1)) (k + 1) = E) := by
          show _ = _
          rw [← HG.out, HN.out, if_neg]
          show ¬ eqS nk nm = true
          rw [he]
          decide
        have he2 : (nk.toList == nm.toList) = false := he
        clear he HN HG
        go_wp2_with fail
        go_roundw
        case rel => exact ⟨k + 1, by omega, by go_num, HR, hbel.alloc hsz _⟩
        case measure => simp [intOf]; omega
    · have HR : Hid (E = -1) := by show _ = _; rw [← HG.out, idxF_end (by have := HS.out.1; omega)]
      clear HG
      go_wp2_with fail
      go_ret
      exact ⟨ret_int HR.out.symm, hbel⟩

theorem rindex_any5 (a : Option Addr) (len cap : Nat) (cs : List C) (nm : ByteArray) (w : World) (hs : IsCols w a len cs) (hl : len ≤ 9223372036854775807) :
    Calls Try.prog 20 #[.slice a len cap, .string nm] w fun e w' => e = .returned (.int .i64 (idxC cs nm)) ∧ w = w' := by
  generalize hE : idxC cs nm = E
  have HE := Lib.hid hE
  have HS := Lib.hid hs
  clear hs hE
  go_enter Try.func20, Try.ntmps20
  go_wp2_with fail
  go_loop [5] (fun iv => ∃ k : Nat, k ≤ len ∧ iv = .int .i64 k ∧ Hid (idxF nm (cs.drop k) k = E)) (fun i => len - (intOf i).toNat)
  case atStart => exact ⟨0, Nat.zero_le _, rfl, HE.out⟩
  case round =>
    obtain ⟨k, hk, rfl, HG⟩ := hrel
    by_cases hlt : k < len
    · obtain ⟨nk, kd, nu, b, off, hx, rfl, hbl, hc0, hc1, hc2⟩ := HS.out.at hlt
      have HN := Lib.hid (idxF_next hx nm)
      clear hx
      cases he : eqS nk nm with
      | true =>
        have HR : Hid (E = k) := by show _ = _; rw [← HG.out, HN.out, if_pos he]
        have he2 : (nk.toList == nm.toList) = true := he
        clear he HN HG
        go_wp2_with fail
        go_ret
        exact ⟨ret_int HR.out.symm, rfl⟩
      | false =>
        have HR : Hid (idxF nm (cs.drop (k + 1)) (k + 1) = E) := by
          show _ = _
          rw [← HG.out, HN.out, if_neg]
          show ¬ eqS nk nm = true
          rw [he]
          decide
        have he2 : (nk.toList == nm.toList) = false := he
        clear he HN HG
        go_wp2_with fail
        go_round
        case rel => exact ⟨k + 1, by omega, by go_num, HR⟩
        case measure => simp [intOf]; omega
    · have HR : Hid (E = -1) := by show _ = _; rw [← HG.out, idxF_end (by have := HS.out.1; omega)]
      clear HG
      go_wp2_with fail
      go_ret
      exact ⟨ret_int HR.out.symm, rfl⟩

end Go.Proofs.Ytdlkkajkflebgaa
