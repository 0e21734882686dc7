/-
  Validate, of schema and of its reference.
-/
import Derived.Test.YtdlkkajkflebgaaSIndex
import Derived.Deep.RegionHeld3
set_option linter.unusedVariables false
namespace Go.Proofs.Ytdlkkajkflebgaa
open Go.RowKit Wh

/-- What Validate finds in the columns from number i on. -/
def goVal (all : List C) : List C → Nat → Int
  | [], _ => 0
  | c :: r, i => if nameB c.nm = false then 4 else if c.k < 1 ∨ 4 < c.k then 7 else if idxC (all.take i) c.nm < 0 then goVal all r (i + 1) else 6
/-- What Validate returns. -/
def valE (cs : List C) : Int := if cs.length = 0 ∨ 12 < cs.length then 2 else goVal cs cs 0

theorem goVal_next {all cs : List C} {k : Nat} {c : C} (h : cs[k]? = some c) :
    goVal all (cs.drop k) k = if nameB c.nm = false then 4 else if c.k < 1 ∨ 4 < c.k then 7 else if idxC (all.take k) c.nm < 0 then goVal all (cs.drop (k + 1)) (k + 1) else 6 := by
  have hk := (List.getElem?_eq_some_iff.1 h).1
  rw [List.drop_eq_getElem_cons hk]
  have e : cs[k] = c := by rw [List.getElem?_eq_getElem hk] at h; exact Option.some.inj h
  rw [e]
  rfl

/-- The box of a column, while callees make new memory. -/
theorem keepCol {W0 W w' : World} {B B0 : Nat} {v0 v1 v2 : Value}
    (h : W.cell? ⟨B, 0, none⟩ = some v0 ∧ W.cell? ⟨B, 1, none⟩ = some v1 ∧ W.cell? ⟨B, 2, none⟩ = some v2 ∧ B < W.heap.size ∧ B0 ≤ W.heap.size ∧ Below B0 W0 W) (hb : Below W.heap.size W w') :
    w'.cell? ⟨B, 0, none⟩ = some v0 ∧ w'.cell? ⟨B, 1, none⟩ = some v1 ∧ w'.cell? ⟨B, 2, none⟩ = some v2 ∧ B < w'.heap.size ∧ B0 ≤ w'.heap.size ∧ Below B0 W0 w' := by
  obtain ⟨h0, h1, h2, h3, h5, h4⟩ := h
  have hc := (bcell hb).1
  have hs := hb.size
  refine ⟨?_, ?_, ?_, by omega, by omega, h4.trans (hb.mono h5)⟩ <;> (rw [hc _ _ h3]; assumption)

set_option maxHeartbeats 1000000 in
theorem validate_any5 (a : Option Addr) (len cap : Nat) (cs : List C) (w : World) (hs : IsCols w a len cs) (hl : len ≤ cap) (hm : cap ≤ 9223372036854775807) :
    Calls Try.prog 17 #[.slice a len cap] w fun e w' => e = .returned (.int .i64 (valE cs)) ∧ Below w.heap.size w w' := by
  have hlen := hs.1
  by_cases h0 : len = 0
  · have he : valE cs = 2 := by unfold valE; rw [if_pos (by omega)]
    rw [he]
    subst h0
    clear he hlen hs
    go_enter Try.func17, Try.ntmps17
    go_wp2_with fail
    go_ret
    exact ⟨rfl, Below.refl _ _⟩
  have h0' : ((len : Int) == 0) = false := by simpa using h0
  by_cases h12 : 12 < len
  · have he : valE cs = 2 := by unfold valE; rw [if_pos (by omega)]
    rw [he]
    clear he hlen hs
    go_enter Try.func17, Try.ntmps17
    go_wp2_with fail
    go_ret
    exact ⟨rfl, Below.refl _ _⟩
  have he : valE cs = goVal cs cs 0 := by unfold valE; rw [if_neg (by omega)]
  rw [he]
  generalize hE : goVal cs cs 0 = E
  have HE := Lib.hid hE
  have HS := Lib.hid hs
  clear he hE hs hlen
  go_enter Try.func17, Try.ntmps17
  go_wp2_with fail
  clear h0'
  go_loopw [15] (fun iv wr => ∃ k : Nat, k ≤ len ∧ iv = .int .i64 k ∧ Hid (goVal cs (cs.drop k) k = E) ∧ Below w.heap.size w wr) (fun i _ => len - (intOf i).toNat)
  case atStart => exact ⟨0, Nat.zero_le _, rfl, HE.out, Below.refl _ _⟩
  case round =>
    obtain ⟨k, hk, rfl, HG, hbel⟩ := hrel
    have hsz := hbel.size
    by_cases hlt : k < len
    · obtain ⟨nm, kd, nu, b, off, hx, rfl, hbl, hc0, hc1, hc2⟩ := (HS.out.below hbel (Nat.le_refl _)).at hlt
      have HN := Lib.hid (goVal_next (all := cs) hx)
      have cn := fun W => isName_any nm W
      have ci := fun W hW => index_any5 (some ⟨b, off, none⟩) k cap (cs.take k) nm W ((HS.out.take hk).below hW (Nat.le_refl _)) (by omega)
      have sl : ∀ W, (Instr.slice 28 (.slice (some ⟨b, off, none⟩) len cap) none (some (.int .i64 k)) none).run Try.prog W = .ok (.slice (some ⟨b, off, none⟩) k cap) W := fun W => slice_to_cols b off len cap k (by omega) (by omega) W
      simp only at HN
      generalize idxC (cs.take k) nm = ix at *
      have CI := Lib.hid ci
      clear hx ci
      cases hn : nameB nm with
      | false =>
        have HR : Hid (E = 4) := by show _ = _; rw [← HG.out, HN.out, if_pos hn]
        rw [hn] at cn
        clear HN HG hn CI sl
        go_wp2_with (go_at_call 12; refine (cn _).mono ?_; rintro e w1 ⟨rfl, hb⟩)
        go_ret
        exact ⟨ret_int HR.out.symm, (hbel.alloc hsz _).trans (hb.mono (by simp; omega))⟩
      | true =>
        have HN2 : Hid (E = if kd < 1 ∨ 4 < kd then 7 else if ix < 0 then goVal cs (cs.drop (k + 1)) (k + 1) else 6) := by
          show _ = _; rw [← HG.out, HN.out, if_neg (by show ¬ nameB nm = false; rw [hn]; decide)]
        rw [hn] at cn
        clear HN HG hn
        have BX : ∀ w1, Below (wr.heap.size + 1) (wr.alloc (.cells #[.string nm, .int .i64 kd, .bool nu] 55)) w1 → _ := fun w1 h => box_cells h
        have HBX := Lib.hid BX
        clear BX
        by_cases hk1 : kd < 1
        · have HR : Hid (E = 7) := by show _ = _; rw [HN2.out, if_pos (.inl hk1)]
          clear HN2 CI sl
          go_wp2_with (go_at_call 12; refine (cn _).mono ?_; rintro e w1 ⟨rfl, hb⟩; rw [World.size_alloc] at hb; obtain ⟨x0, x1, x2, x3, x4⟩ := HBX.out _ hb)
          go_ret
          exact ⟨ret_int HR.out.symm, hbel.trans (x4.mono hsz)⟩
        by_cases hk2 : 4 < kd
        · have HR : Hid (E = 7) := by show _ = _; rw [HN2.out, if_pos (.inr hk2)]
          clear HN2 CI sl
          go_wp2_with (go_at_call 12; refine (cn _).mono ?_; rintro e w1 ⟨rfl, hb⟩; rw [World.size_alloc] at hb; obtain ⟨x0, x1, x2, x3, x4⟩ := HBX.out _ hb)
          go_ret
          exact ⟨ret_int HR.out.symm, hbel.trans (x4.mono hsz)⟩
        have HN3 : Hid (E = if ix < 0 then goVal cs (cs.drop (k + 1)) (k + 1) else 6) := by show _ = _; rw [HN2.out, if_neg (by omega)]
        clear HN2
        have hk3 : kd ≤ 4 := by omega
        by_cases hix : ix < 0
        · have HR : Hid (goVal cs (cs.drop (k + 1)) (k + 1) = E) := by show _ = _; rw [HN3.out, if_pos hix]
          clear HN3
          go_wp2_with (go_at_call 12; refine (cn _).mono ?_; rintro e w1 ⟨rfl, hb⟩; rw [World.size_alloc] at hb; obtain ⟨x0, x1, x2, x3, x4⟩ := HBX.out _ hb)
          have hb1 := hbel.trans (x4.mono hsz)
          have hS0 : w1.drew.cell? ⟨wr.heap.size, 0, none⟩ = some (.string nm) ∧ w1.drew.cell? ⟨wr.heap.size, 1, none⟩ = some (.int .i64 kd) ∧ w1.drew.cell? ⟨wr.heap.size, 2, none⟩ = some (.bool nu) ∧ wr.heap.size < w1.drew.heap.size ∧ w.heap.size ≤ w1.drew.heap.size ∧ Below w.heap.size w w1.drew :=
            ⟨x0, x1, x2, x3, hb1.drew.size, hb1.drew⟩
          clear x0 x1 x2 x4
          go_region_held3 (fun w' => w'.cell? ⟨wr.heap.size, 0, none⟩ = some (.string nm) ∧ w'.cell? ⟨wr.heap.size, 1, none⟩ = some (.int .i64 kd) ∧ w'.cell? ⟨wr.heap.size, 2, none⟩ = some (.bool nu) ∧ wr.heap.size < w'.heap.size ∧ w.heap.size ≤ w'.heap.size ∧ Below w.heap.size w w')
            (first | with_reducible exact hS0 | with_reducible exact keepCol hS0 hcall)
            (first | (go_at_call 19; refine (CI.out _ (by go_split_ands; assumption)).mono ?_; rintro e w' ⟨rfl, hcall⟩))
          all_goals
            have hF := (keepCol hS0 hcall).2.2.2.2.2
            go_wp2_with fail
            go_roundw
            case rel => exact ⟨k + 1, by omega, by go_num, HR, hF⟩
            case measure => simp [intOf]; omega
        · have HR : Hid (E = 6) := by show _ = _; rw [HN3.out, if_neg hix]
          clear HN3
          go_wp2_with (go_at_call 12; refine (cn _).mono ?_; rintro e w1 ⟨rfl, hb⟩; rw [World.size_alloc] at hb; obtain ⟨x0, x1, x2, x3, x4⟩ := HBX.out _ hb)
          have hb1 := hbel.trans (x4.mono hsz)
          have hS0 : w1.drew.cell? ⟨wr.heap.size, 0, none⟩ = some (.string nm) ∧ w1.drew.cell? ⟨wr.heap.size, 1, none⟩ = some (.int .i64 kd) ∧ w1.drew.cell? ⟨wr.heap.size, 2, none⟩ = some (.bool nu) ∧ wr.heap.size < w1.drew.heap.size ∧ w.heap.size ≤ w1.drew.heap.size ∧ Below w.heap.size w w1.drew :=
            ⟨x0, x1, x2, x3, hb1.drew.size, hb1.drew⟩
          clear x0 x1 x2 x4
          go_region_held3 (fun w' => w'.cell? ⟨wr.heap.size, 0, none⟩ = some (.string nm) ∧ w'.cell? ⟨wr.heap.size, 1, none⟩ = some (.int .i64 kd) ∧ w'.cell? ⟨wr.heap.size, 2, none⟩ = some (.bool nu) ∧ wr.heap.size < w'.heap.size ∧ w.heap.size ≤ w'.heap.size ∧ Below w.heap.size w w')
            (first | with_reducible exact hS0 | with_reducible exact keepCol hS0 hcall)
            (first | (go_at_call 19; refine (CI.out _ (by go_split_ands; assumption)).mono ?_; rintro e w' ⟨rfl, hcall⟩))
          all_goals
            have hF := (keepCol hS0 hcall).2.2.2.2.2
            go_wp2_with fail
            go_ret
            exact ⟨ret_int HR.out.symm, hF⟩
    · have HR : Hid (E = 0) := by show _ = _; rw [← HG.out, List.drop_of_length_le (by have := HS.out.1; omega)]; rfl
      clear HG
      go_wp2_with fail
      go_ret
      exact ⟨ret_int HR.out.symm, hbel⟩

theorem rvalidate_any5 (a : Option Addr) (len cap : Nat) (cs : List C) (w : World) (hs : IsCols w a len cs) (hl : len ≤ cap) (hm : cap ≤ 9223372036854775807) :
    Calls Try.prog 18 #[.slice a len cap] w fun e w' => e = .returned (.int .i64 (valE cs)) ∧ w = w' := by
  have hlen := hs.1
  by_cases h0 : len = 0
  · have he : valE cs = 2 := by unfold valE; rw [if_pos (by omega)]
    rw [he]
    subst h0
    clear he hlen hs
    go_enter Try.func18, Try.ntmps18
    go_wp2_with fail
    go_ret
    exact ⟨rfl, rfl⟩
  by_cases h12 : 12 < len
  · have he : valE cs = 2 := by unfold valE; rw [if_pos (by omega)]
    rw [he]
    clear he hlen hs
    go_enter Try.func18, Try.ntmps18
    go_wp2_with fail
    go_ret
    exact ⟨rfl, rfl⟩
  have he : valE cs = goVal cs cs 0 := by unfold valE; rw [if_neg (by omega)]
  rw [he]
  generalize hE : goVal cs cs 0 = E
  have HE := Lib.hid hE
  have HS := Lib.hid hs
  clear he hE hs hlen
  go_enter Try.func18, Try.ntmps18
  go_wp2_with fail
  go_loop [3] (fun iv => ∃ k : Nat, k ≤ len ∧ iv = .int .i64 k ∧ Hid (goVal cs (cs.drop k) k = E)) (fun i => len - (intOf i).toNat)
  case atStart => exact ⟨0, Nat.zero_le _, rfl, HE.out⟩
  case round =>
    obtain ⟨k, hk, rfl, HG⟩ := hrel
    by_cases hlt : k < len
    · obtain ⟨nm, kd, nu, b, off, hx, rfl, hbl, hc0, hc1, hc2⟩ := HS.out.at hlt
      have HN := Lib.hid (goVal_next (all := cs) hx)
      have HD := Lib.hid (dup_iff hx)
      have cn := fun W => rIsName_any nm W
      have ci := fun W hW => rindex_any5 (some ⟨b, off, none⟩) len cap cs nm W (HS.out.below hW (Nat.le_refl _)) (by omega)
      simp only at HN HD
      generalize idxC (cs.take k) nm = ix at *
      generalize idxC cs nm = iy at *
      have ci2 := ci w (Below.refl _ _)
      clear hx ci
      cases hn : nameB nm with
      | false =>
        have HR : Hid (E = 4) := by show _ = _; rw [← HG.out, HN.out, if_pos hn]
        rw [hn] at cn
        clear HN HG hn ci2
        go_wp2_with (go_at_call 13; refine (cn _).mono ?_; rintro e w1 ⟨rfl, rfl⟩)
        go_ret
        exact ⟨ret_int HR.out.symm, rfl⟩
      | true =>
        have HN2 : Hid (E = if kd < 1 ∨ 4 < kd then 7 else if ix < 0 then goVal cs (cs.drop (k + 1)) (k + 1) else 6) := by
          show _ = _; rw [← HG.out, HN.out, if_neg (by show ¬ nameB nm = false; rw [hn]; decide)]
        rw [hn] at cn
        clear HN HG hn
        by_cases hk1 : kd < 1
        · have HR : Hid (E = 7) := by show _ = _; rw [HN2.out, if_pos (.inl hk1)]
          clear HN2 ci2
          go_wp2_with (go_at_call 13; refine (cn _).mono ?_; rintro e w1 ⟨rfl, rfl⟩)
          go_ret
          exact ⟨ret_int HR.out.symm, rfl⟩
        by_cases hk2 : 4 < kd
        · have HR : Hid (E = 7) := by show _ = _; rw [HN2.out, if_pos (.inr hk2)]
          clear HN2 ci2
          go_wp2_with (go_at_call 13; refine (cn _).mono ?_; rintro e w1 ⟨rfl, rfl⟩)
          go_ret
          exact ⟨ret_int HR.out.symm, rfl⟩
        have HN3 : Hid (E = if ix < 0 then goVal cs (cs.drop (k + 1)) (k + 1) else 6) := by show _ = _; rw [HN2.out, if_neg (by omega)]
        clear HN2
        have hk3 : kd ≤ 4 := by omega
        by_cases hix : ix < 0
        · have HR : Hid (goVal cs (cs.drop (k + 1)) (k + 1) = E) := by show _ = _; rw [HN3.out, if_pos hix]
          obtain rfl := HD.out.1 hix
          clear HN3 HD
          go_wp2_with (first | (go_at_call 13; refine (cn _).mono ?_; rintro e w1 ⟨rfl, rfl⟩) | (go_at_call 20; refine ci2.mono ?_; rintro e w1 ⟨rfl, rfl⟩))
          go_round
          case rel => exact ⟨k + 1, by omega, by go_num, HR⟩
          case measure => simp [intOf]; omega
        · have HR : Hid (E = 6) := by show _ = _; rw [HN3.out, if_neg hix]
          have hne : ¬ iy = (k : Int) := fun h => hix (HD.out.2 h)
          clear HN3 HD
          go_wp2_with (first | (go_at_call 13; refine (cn _).mono ?_; rintro e w1 ⟨rfl, rfl⟩) | (go_at_call 20; refine ci2.mono ?_; rintro e w1 ⟨rfl, rfl⟩))
          go_ret
          exact ⟨ret_int HR.out.symm, rfl⟩
    · have HR : Hid (E = 0) := by show _ = _; rw [← HG.out, List.drop_of_length_le (by have := HS.out.1; omega)]; rfl
      clear HG
      go_wp2_with fail
      go_ret
      exact ⟨ret_int HR.out.symm, rfl⟩

end Go.Proofs.Ytdlkkajkflebgaa
