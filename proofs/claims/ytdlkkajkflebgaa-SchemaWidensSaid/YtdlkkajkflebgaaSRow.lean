/-
  CheckRow, of schema and of its reference.
-/
import Derived.Test.YtdlkkajkflebgaaSLeaf
import Derived.Test.YtdlkkajkflebgaaGVCmp
import Derived.Deep.RegionHeld3
set_option linter.unusedVariables false
namespace Wh
open Go

/-- Does a valid value belong in a column? -/
def admB (c : C) (v : V) : Bool := if v.k = 0 then c.nu else decide (v.k = c.k)
/-- What is wrong with the values of a row, each in its column. -/
def goRow : List C → List V → Int
  | c :: cs, v :: vs => if validB v.k v.n v.s = false then 8 else if admB c v = false then 7 else goRow cs vs
  | _, _ => 0
def rowE (cs : List C) (vs : List V) : Int := if cs.length = vs.length then goRow cs vs else 8

theorem goRow_next {cs : List C} {vs : List V} {k : Nat} {c : C} {v : V} (h1 : cs[k]? = some c) (h2 : vs[k]? = some v) :
    goRow (cs.drop k) (vs.drop k) = if validB v.k v.n v.s = false then 8 else if admB c v = false then 7 else goRow (cs.drop (k + 1)) (vs.drop (k + 1)) := by
  have e1 : cs.drop k = c :: cs.drop (k + 1) := by
    have hk := (List.getElem?_eq_some_iff.1 h1)
    rw [List.drop_eq_getElem_cons hk.1, hk.2]
  have e2 : vs.drop k = v :: vs.drop (k + 1) := by
    have hk := (List.getElem?_eq_some_iff.1 h2)
    rw [List.drop_eq_getElem_cons hk.1, hk.2]
  rw [e1, e2]
  rfl
theorem goRow_end {cs : List C} {vs : List V} {k : Nat} (h : vs.length ≤ k) : goRow (cs.drop k) (vs.drop k) = 0 := by
  rw [List.drop_of_length_le h]
  cases cs.drop k <;> rfl

end Wh
namespace Go.Proofs.Ytdlkkajkflebgaa
open Go.RowKit Wh

theorem admits_any (nm : ByteArray) (kd : Int) (nu : Bool) (k n : Int) (s : ByteArray) (w : World) :
    Calls Try.prog 45 #[colV nm kd nu, agg k n s] w fun e w' => e = .returned (.bool (admB ⟨nm, kd, nu⟩ ⟨k, n, s⟩)) ∧ Below w.heap.size w w' := by
  by_cases hk : k = 0
  · subst hk
    have e : admB ⟨nm, kd, nu⟩ ⟨0, n, s⟩ = nu := rfl
    rw [e]
    go_enter Try.func45, Try.ntmps45
    go_wp2_with fail
    go_ret
    exact ⟨rfl, ((Below.refl _ _).alloc (Nat.le_refl _) _).alloc (by simp) _⟩
  · have e : admB ⟨nm, kd, nu⟩ ⟨k, n, s⟩ = decide (k = kd) := by unfold admB; rw [if_neg hk]
    rw [e]
    have hk0 : (k == 0) = false := by simpa using hk
    clear e hk
    go_enter Try.func45, Try.ntmps45
    go_wp2_with fail
    go_ret
    refine ⟨ret_bool ?_, ((Below.refl _ _).alloc (Nat.le_refl _) _).alloc (by simp) _⟩
    by_cases h : k = kd
    · subst h; simp
    · rw [decide_eq_false h]; simpa using h

set_option maxHeartbeats 1000000 in
theorem checkRow_any (a1 : Option Addr) (len1 cap1 : Nat) (cs : List C) (a2 : Option Addr) (len2 cap2 : Nat) (vs : List V) (w : World) (h1 : IsCols w a1 len1 cs) (h2 : IsVals w a2 len2 vs)
    (q1 : len1 ≤ 9223372036854775807) (q2 : len2 ≤ 9223372036854775807) :
    Calls Try.prog 23 #[.slice a1 len1 cap1, .slice a2 len2 cap2] w fun e w' => e = .returned (.int .i64 (rowE cs vs)) ∧ Below w.heap.size w w' := by
  have hl1 := h1.1
  have hl2 := h2.1
  by_cases hne : len1 = len2
  · have he : rowE cs vs = goRow cs vs := by unfold rowE; rw [if_pos (by omega)]
    rw [he]
    generalize hE : goRow cs vs = E
    subst hne
    have HE := Lib.hid hE
    have H1 := Lib.hid h1
    have H2 := Lib.hid h2
    clear he hE hl1 hl2 h1 h2
    go_enter Try.func23, Try.ntmps23
    go_wp2_with fail
    go_loopw [14] (fun iv wr => ∃ k : Nat, k ≤ len1 ∧ iv = .int .i64 k ∧ Hid (goRow (cs.drop k) (vs.drop k) = E) ∧ Below w.heap.size w wr) (fun i _ => len1 - (intOf i).toNat)
    case atStart => exact ⟨0, Nat.zero_le _, rfl, HE.out, Below.refl _ _⟩
    case round =>
      obtain ⟨k, hk, rfl, HG, hbel⟩ := hrel
      have hsz := hbel.size
      by_cases hlt : k < len1
      · obtain ⟨nm, kd, nu, b1, off1, hx, rfl, hbl1, c0, c1, c2⟩ := (H1.out.below hbel (Nat.le_refl _)).at hlt
        obtain ⟨vk, vn, vt, b2, off2, hy, rfl, hbl2, d0, d1, d2⟩ := (H2.out.below hbel (Nat.le_refl _)).at hlt
        have HN := Lib.hid (goRow_next hx hy)
        simp only at HN
        clear hx hy
        have cv := fun W => valid_any vk vn vt W
        have ca := fun W => admits_any nm kd nu vk vn vt W
        have BX : ∀ w1, Below (wr.heap.size + 1) (wr.alloc (.cells #[.int .i64 vk, .int .i64 vn, .string vt] 40)) w1 → _ := fun w1 h => box_cells h
        have HBX := Lib.hid BX
        clear BX
        cases hv : validB vk vn vt with
        | false =>
          have HR : Hid (E = 8) := by show _ = _; rw [← HG.out, HN.out, if_pos hv]
          rw [hv] at cv
          clear HN HG hv ca
          go_wp2_with (go_at_call 44; refine (cv _).mono ?_; rintro e w1 ⟨rfl, hb⟩; rw [World.size_alloc] at hb; obtain ⟨x0, x1, x2, x3, x4⟩ := HBX.out _ hb)
          go_ret
          exact ⟨ret_int HR.out.symm, hbel.trans (x4.mono hsz)⟩
        | true =>
          have HN2 : Hid (E = if admB ⟨nm, kd, nu⟩ ⟨vk, vn, vt⟩ = false then 7 else goRow (cs.drop (k + 1)) (vs.drop (k + 1))) := by
            show _ = _; rw [← HG.out, HN.out, if_neg (by show ¬ validB vk vn vt = false; rw [hv]; decide)]
          rw [hv] at cv
          clear HN HG hv
          generalize admB ⟨nm, kd, nu⟩ ⟨vk, vn, vt⟩ = ad at *
          have CA := Lib.hid ca
          clear ca
          have HC1 : Hid (∀ w1, Below wr.heap.size wr w1 → w1.cell? ⟨b1, off1 + k * 3, none⟩ = some (.string nm) ∧ w1.cell? ⟨b1, off1 + k * 3 + 1, none⟩ = some (.int .i64 kd) ∧ w1.cell? ⟨b1, off1 + k * 3 + 2, none⟩ = some (.bool nu)) := fun w1 hb => by
            have e := (bcell hb).1
            refine ⟨?_, ?_, ?_⟩ <;> (rw [e _ _ hbl1]; assumption)
          go_wp2_with (go_at_call 44; refine (cv _).mono ?_; rintro e w1 ⟨rfl, hb⟩; rw [World.size_alloc] at hb; obtain ⟨x0, x1, x2, x3, x4⟩ := HBX.out _ hb)
          obtain ⟨y0, y1, y2⟩ := HC1.out _ x4
          have hb1 := hbel.trans (x4.mono hsz)
          have hS0 : w1.drew.cell? ⟨wr.heap.size, 0, none⟩ = some (.int .i64 vk) ∧ w1.drew.cell? ⟨wr.heap.size, 1, none⟩ = some (.int .i64 vn) ∧ w1.drew.cell? ⟨wr.heap.size, 2, none⟩ = some (.string vt) ∧
              w1.drew.cell? ⟨b1, off1 + k * 3, none⟩ = some (.string nm) ∧ w1.drew.cell? ⟨b1, off1 + k * 3 + 1, none⟩ = some (.int .i64 kd) ∧ w1.drew.cell? ⟨b1, off1 + k * 3 + 2, none⟩ = some (.bool nu) ∧ Below w.heap.size w w1.drew :=
            ⟨x0, x1, x2, y0, y1, y2, hb1.drew⟩
          clear x0 x1 x2 x4 y0 y1 y2 c0 c1 c2 d0 d1 d2 cv
          have hbl1' : b1 < w1.heap.size := by omega
          cases ad
          · have HR : Hid (E = 7) := by show _ = _; rw [HN2.out, if_pos rfl]
            clear HN2
            go_region_held3 (fun w' => w'.cell? ⟨wr.heap.size, 0, none⟩ = some (.int .i64 vk) ∧ w'.cell? ⟨wr.heap.size, 1, none⟩ = some (.int .i64 vn) ∧ w'.cell? ⟨wr.heap.size, 2, none⟩ = some (.string vt) ∧
                w'.cell? ⟨b1, off1 + k * 3, none⟩ = some (.string nm) ∧ w'.cell? ⟨b1, off1 + k * 3 + 1, none⟩ = some (.int .i64 kd) ∧ w'.cell? ⟨b1, off1 + k * 3 + 2, none⟩ = some (.bool nu) ∧ Below w.heap.size w w')
              (first | with_reducible exact hS0 | with_reducible exact keepCells hS0 hcall)
              (first | (go_at_call 45; refine (CA.out _).mono ?_; rintro e w' ⟨rfl, hcall⟩))
            all_goals
              have hF := (keepCells hS0 hcall).2.2.2.2.2.2
              go_wp2_with fail
              go_ret
              exact ⟨ret_int HR.out.symm, hF⟩
          · have HR : Hid (goRow (cs.drop (k + 1)) (vs.drop (k + 1)) = E) := by show _ = _; rw [HN2.out, if_neg (by decide)]
            clear HN2
            go_region_held3 (fun w' => w'.cell? ⟨wr.heap.size, 0, none⟩ = some (.int .i64 vk) ∧ w'.cell? ⟨wr.heap.size, 1, none⟩ = some (.int .i64 vn) ∧ w'.cell? ⟨wr.heap.size, 2, none⟩ = some (.string vt) ∧
                w'.cell? ⟨b1, off1 + k * 3, none⟩ = some (.string nm) ∧ w'.cell? ⟨b1, off1 + k * 3 + 1, none⟩ = some (.int .i64 kd) ∧ w'.cell? ⟨b1, off1 + k * 3 + 2, none⟩ = some (.bool nu) ∧ Below w.heap.size w w')
              (first | with_reducible exact hS0 | with_reducible exact keepCells hS0 hcall)
              (first | (go_at_call 45; refine (CA.out _).mono ?_; rintro e w' ⟨rfl, hcall⟩))
            all_goals
              have hF := (keepCells hS0 hcall).2.2.2.2.2.2
              go_wp2_with fail
              go_roundw
              case rel => exact ⟨k + 1, by omega, by go_num, HR, hF⟩
              case measure => simp [intOf]; omega
      · have HR : Hid (E = 0) := by show _ = _; rw [← HG.out, goRow_end (by have := H2.out.1; omega)]
        clear HG
        go_wp2_with fail
        go_ret
        exact ⟨ret_int HR.out.symm, hbel⟩
  · have he : rowE cs vs = 8 := by unfold rowE; rw [if_neg (by omega)]
    rw [he]
    have hn : ¬ (len1 : Int) = len2 := by omega
    clear he hl1 hl2 h1 h2 hne
    go_enter Try.func23, Try.ntmps23
    go_wp2_with fail
    go_ret
    exact ⟨rfl, Below.refl _ _⟩

set_option maxHeartbeats 2000000 in
theorem rcheckRow_any (a1 : Option Addr) (len1 cap1 : Nat) (cs : List C) (a2 : Option Addr) (len2 cap2 : Nat) (vs : List V) (w : World) (h1 : IsCols w a1 len1 cs) (h2 : IsVals w a2 len2 vs)
    (q1 : len1 ≤ 9223372036854775807) (q2 : len2 ≤ 9223372036854775807) :
    Calls Try.prog 24 #[.slice a1 len1 cap1, .slice a2 len2 cap2] w fun e w' => e = .returned (.int .i64 (rowE cs vs)) ∧ Below w.heap.size w w' := by
  have hl1 := h1.1
  have hl2 := h2.1
  by_cases hne : len1 = len2
  · have he : rowE cs vs = goRow cs vs := by unfold rowE; rw [if_pos (by omega)]
    rw [he]
    generalize hE : goRow cs vs = E
    subst hne
    have HE := Lib.hid hE
    have H1 := Lib.hid h1
    have H2 := Lib.hid h2
    clear he hE hl1 hl2 h1 h2
    go_enter Try.func24, Try.ntmps24
    go_wp2_with fail
    go_loopw [5] (fun iv wr => ∃ k : Nat, k ≤ len1 ∧ iv = .int .i64 k ∧ Hid (goRow (cs.drop k) (vs.drop k) = E) ∧ Below w.heap.size w wr) (fun i _ => len1 - (intOf i).toNat)
    case atStart => exact ⟨0, Nat.zero_le _, rfl, HE.out, Below.refl _ _⟩
    case round =>
      obtain ⟨k, hk, rfl, HG, hbel⟩ := hrel
      have hsz := hbel.size
      by_cases hlt : k < len1
      · obtain ⟨nm, kd, nu, b1, off1, hx, rfl, hbl1, c0, c1, c2⟩ := (H1.out.below hbel (Nat.le_refl _)).at hlt
        obtain ⟨vk, vn, vt, b2, off2, hy, rfl, hbl2, d0, d1, d2⟩ := (H2.out.below hbel (Nat.le_refl _)).at hlt
        have HN := Lib.hid (goRow_next hx hy)
        simp only at HN
        clear hx hy
        have cv := fun W => rvalid_any vk vn vt W
        cases hv : validB vk vn vt with
        | false =>
          have HR : Hid (E = 8) := by show _ = _; rw [← HG.out, HN.out, if_pos hv]
          rw [hv] at cv
          clear HN HG hv
          go_wp2_with (go_at_call 46; refine (cv _).mono ?_; rintro e w1 ⟨rfl, hb⟩)
          go_ret
          exact ⟨ret_int HR.out.symm, hbel.trans (hb.mono hsz)⟩
        | true =>
          have HN2 : Hid (E = if admB ⟨nm, kd, nu⟩ ⟨vk, vn, vt⟩ = false then 7 else goRow (cs.drop (k + 1)) (vs.drop (k + 1))) := by
            show _ = _; rw [← HG.out, HN.out, if_neg (by show ¬ validB vk vn vt = false; rw [hv]; decide)]
          rw [hv] at cv
          clear HN HG hv
          go_wp2_with (go_at_call 46; refine (cv _).mono ?_; rintro e w1 ⟨rfl, hb⟩; have e1 := (bcell hb).1; rw [← e1 _ _ hbl1] at c0 c1 c2; rw [← e1 _ _ hbl2] at d0 d1 d2)
          have hB := hbel.trans (hb.mono hsz)
          clear e1 hb cv
          by_cases hk0 : vk = 0
          · subst hk0
            cases nu
            · have HR : Hid (E = 7) := by show _ = _; rw [HN2.out]; rfl
              clear HN2
              go_quiet (fail)
              go_wp2_with fail
              go_ret
              exact ⟨ret_int HR.out.symm, below_drewN hB _⟩
            · have HR : Hid (goRow (cs.drop (k + 1)) (vs.drop (k + 1)) = E) := by show _ = _; rw [HN2.out]; rfl
              clear HN2
              go_quiet (fail)
              go_wp2_with fail
              go_roundw
              case rel => exact ⟨k + 1, by omega, by go_num, HR, below_drewN hB _⟩
              case measure => simp [intOf]; omega
          · have e : admB ⟨nm, kd, nu⟩ ⟨vk, vn, vt⟩ = decide (vk = kd) := by unfold admB; rw [if_neg hk0]
            rw [e] at HN2
            have hk1 : (vk == 0) = false := by simpa using hk0
            by_cases hkk : vk = kd
            · subst hkk
              have HR : Hid (goRow (cs.drop (k + 1)) (vs.drop (k + 1)) = E) := by show _ = _; rw [HN2.out, if_neg (by simp)]
              clear HN2 e
              go_quiet (fail)
              go_wp2_with fail
              go_roundw
              case rel => exact ⟨k + 1, by omega, by go_num, HR, below_drewN hB _⟩
              case measure => simp [intOf]; omega
            · have HR : Hid (E = 7) := by show _ = _; rw [HN2.out, if_pos (by simpa using hkk)]
              clear HN2 e
              go_quiet (fail)
              go_wp2_with fail
              all_goals first | (go_ret; exact ⟨ret_int HR.out.symm, below_drewN hB _⟩) | (exfalso; rename_i hh; rcases hh with hh | hh <;> simp_all)
      · have HR : Hid (E = 0) := by show _ = _; rw [← HG.out, goRow_end (by have := H2.out.1; omega)]
        clear HG
        go_wp2_with fail
        go_ret
        exact ⟨ret_int HR.out.symm, hbel⟩
  · have he : rowE cs vs = 8 := by unfold rowE; rw [if_neg (by omega)]
    rw [he]
    have hn : ¬ (len1 : Int) = len2 := by omega
    clear he hl1 hl2 h1 h2 hne
    go_enter Try.func24, Try.ntmps24
    go_wp2_with fail
    go_ret
    exact ⟨rfl, Below.refl _ _⟩

end Go.Proofs.Ytdlkkajkflebgaa
