/-
  Validate, of schema and of its reference. · The laws' zones; the reference's Zone.
-/
import Derived.Test.YtmdpjahhhfajaaaDoorJA13
import Derived.Test.YtmdpjahhhfajaaaDoorJA19
import Derived.Deep.RegionHeld3
import Derived.Test.YtmdpjahhhfajaaaDoorJA18
set_option linter.unusedVariables false
set_option linter.unusedSimpArgs false
set_option maxRecDepth 100000
namespace Go.Proofs.YtmdpjahhhfajaaaDoor
open Go.RowKit Wh
def goVal (all : List C) : List C → Nat → Int
  | [], _ => 0
  | c :: r, i => if nameB c.nm = false then 4 else if c.k < 1 ∨ 4 < c.k then 7 else if idxC (all.take i) c.nm < 0 then goVal all r (i + 1) else 6
def valEC (cs : List C) : Int := if cs.length = 0 ∨ 12 < cs.length then 2 else goVal cs cs 0
theorem goVal_next {all cs : List C} {k : Nat} {c : C} (h : cs[k]? = some c) :
    goVal all (cs.drop k) k = if nameB c.nm = false then 4 else if c.k < 1 ∨ 4 < c.k then 7 else if idxC (all.take k) c.nm < 0 then goVal all (cs.drop (k + 1)) (k + 1) else 6 := by
  have hk := (List.getElem?_eq_some_iff.1 h).1
  rw [List.drop_eq_getElem_cons hk]
  have e : cs[k] = c := by rw [List.getElem?_eq_getElem hk] at h; exact Option.some.inj h
  rw [e]
  rfl
theorem rvalidate_any5 (a : Option Addr) (len cap : Nat) (cs : List C) (w : World) (hs : IsCols w a len cs) (hl : len ≤ cap) (hm : cap ≤ 9223372036854775807) :
    Calls Tryd.prog 70 #[.slice a len cap] w fun e w' => e = .returned (.int .i64 (valEC cs)) ∧ w = w' := by
  have hlen := hs.1
  by_cases h0 : len = 0
  · have he : valEC cs = 2 := by unfold valEC; rw [if_pos (by omega)]
    rw [he]
    subst h0
    clear he hlen hs
    go_enter Tryd.func70, Tryd.ntmps70
    go_wp2_with fail
    go_ret
    exact ⟨rfl, rfl⟩
  by_cases h12 : 12 < len
  · have he : valEC cs = 2 := by unfold valEC; rw [if_pos (by omega)]
    rw [he]
    clear he hlen hs
    go_enter Tryd.func70, Tryd.ntmps70
    go_wp2_with fail
    go_ret
    exact ⟨rfl, rfl⟩
  have he : valEC cs = goVal cs cs 0 := by unfold valEC; rw [if_neg (by omega)]
  rw [he]
  generalize hE : goVal cs cs 0 = E
  have HE := Lib.hid hE
  have HS := Lib.hid hs
  clear he hE hs hlen
  go_enter Tryd.func70, Tryd.ntmps70
  go_wp2_with fail
  go_loop [3] (fun iv => ∃ k : Nat, k ≤ len ∧ iv = .int .i64 k ∧ Hid (goVal cs (cs.drop k) k = E)) (fun i => len - (intOf i).toNat)
  case atStart => exact ⟨0, Nat.zero_le _, rfl, HE.out⟩
  case round =>
    obtain ⟨k, hk, rfl, HG⟩ := hrel
    by_cases hlt : k < len
    · obtain ⟨nm, kd, nu, b, off, hx, rfl, hbl, hc0, hc1, hc2⟩ := HS.out.at hlt
      have HN := Lib.hid (goVal_next (all := cs) hx)
      have HD := Lib.hid (dup_iff hx)
      have cn := fun W => rIsName_any nm W
      have ci := fun W hW => rindex_any5 (some ⟨b, off, none⟩) len cap cs nm W (HS.out.below hW (Nat.le_refl _)) (by omega)
      simp only at HN HD
      generalize idxC (cs.take k) nm = ix at *
      generalize idxC cs nm = iy at *
      have ci2 := ci w (Below.refl _ _)
      clear hx ci
      cases hn : nameB nm with
      | false =>
        have HR : Hid (E = 4) := by show _ = _; rw [← HG.out, HN.out, if_pos hn]
        rw [hn] at cn
        clear HN HG hn ci2
        go_wp2_with (go_at_call 55; refine (cn _).mono ?_; rintro e w1 ⟨rfl, rfl⟩)
        go_ret
        exact ⟨ret_int HR.out.symm, rfl⟩
      | true =>
        have HN2 : Hid (E = if kd < 1 ∨ 4 < kd then 7 else if ix < 0 then goVal cs (cs.drop (k + 1)) (k + 1) else 6) := by
          show _ = _; rw [← HG.out, HN.out, if_neg (by show ¬ nameB nm = false; rw [hn]; decide)]
        rw [hn] at cn
        clear HN HG hn
        by_cases hk1 : kd < 1
        · have HR : Hid (E = 7) := by show _ = _; rw [HN2.out, if_pos (.inl hk1)]
          clear HN2 ci2
          go_wp2_with (go_at_call 55; refine (cn _).mono ?_; rintro e w1 ⟨rfl, rfl⟩)
          go_ret
          exact ⟨ret_int HR.out.symm, rfl⟩
        by_cases hk2 : 4 < kd
        · have HR : Hid (E = 7) := by show _ = _; rw [HN2.out, if_pos (.inr hk2)]
          clear HN2 ci2
          go_wp2_with (go_at_call 55; refine (cn _).mono ?_; rintro e w1 ⟨rfl, rfl⟩)
          go_ret
          exact ⟨ret_int HR.out.symm, rfl⟩
        have HN3 : Hid (E = if ix < 0 then goVal cs (cs.drop (k + 1)) (k + 1) else 6) := by show _ = _; rw [HN2.out, if_neg (by omega)]
        clear HN2
        have hk3 : kd ≤ 4 := by omega
        by_cases hix : ix < 0
        · have HR : Hid (goVal cs (cs.drop (k + 1)) (k + 1) = E) := by show _ = _; rw [HN3.out, if_pos hix]
          obtain rfl := HD.out.1 hix
          clear HN3 HD
          go_wp2_with (first | (go_at_call 55; refine (cn _).mono ?_; rintro e w1 ⟨rfl, rfl⟩) | (go_at_call 83; refine ci2.mono ?_; rintro e w1 ⟨rfl, rfl⟩))
          go_round
          case rel => exact ⟨k + 1, by omega, by go_num, HR⟩
          case measure => simp [intOf]; omega
        · have HR : Hid (E = 6) := by show _ = _; rw [HN3.out, if_neg hix]
          have hne : ¬ iy = (k : Int) := fun h => hix (HD.out.2 h)
          clear HN3 HD
          go_wp2_with (first | (go_at_call 55; refine (cn _).mono ?_; rintro e w1 ⟨rfl, rfl⟩) | (go_at_call 83; refine ci2.mono ?_; rintro e w1 ⟨rfl, rfl⟩))
          go_ret
          exact ⟨ret_int HR.out.symm, rfl⟩
    · have HR : Hid (E = 0) := by show _ = _; rw [← HG.out, List.drop_of_length_le (by have := HS.out.1; omega)]; rfl
      clear HG
      go_wp2_with fail
      go_ret
      exact ⟨ret_int HR.out.symm, rfl⟩
end Go.Proofs.YtmdpjahhhfajaaaDoor
namespace Wh
open Go Go.Proofs.YtmdpjahhhfajaaaDoor
def zNm (i : Nat) : ByteArray := if i = 0 then ⟨#[122, 48]⟩ else if i = 1 then ⟨#[122, 49]⟩ else ⟨#[122, 50]⟩
def zOf (i : Nat) : Int := if i = 0 then 60 else if i = 1 then -300 else 120
def zSh (s1 s2 : Nat) (i : Nat) : Value := if i = 0 then .slice none 0 0 else if i = 1 then .slice (some ⟨s1, 0, none⟩) 2 2 else .slice (some ⟨s2, 0, none⟩) 1 1
def zoneC (s1 s2 : Nat) : List Value := [.string ⟨#[122, 48]⟩, .int .i64 60, .slice none 0 0, .string ⟨#[122, 49]⟩, .int .i64 (-300), .slice (some ⟨s1, 0, none⟩) 2 2, .string ⟨#[122, 50]⟩, .int .i64 120, .slice (some ⟨s2, 0, none⟩) 1 1]
theorem zoneC_at (s1 s2 : Nat) {i : Nat} (h : i < 3) : (zoneC s1 s2)[i * 3]? = some (.string (zNm i)) ∧ (zoneC s1 s2)[i * 3 + 1]? = some (.int .i64 (zOf i)) ∧ (zoneC s1 s2)[i * 3 + 2]? = some (zSh s1 s2 i) := by
  have : i = 0 ∨ i = 1 ∨ i = 2 := by omega
  rcases this with rfl | rfl | rfl <;> exact ⟨rfl, rfl, rfl⟩
theorem zNm_eq {i j : Nat} (hi : i < 3) (hj : j < 3) (h : i ≠ j) : ((zNm i).toList == (zNm j).toList) = false := by
  have h1 : i = 0 ∨ i = 1 ∨ i = 2 := by omega
  have h2 : j = 0 ∨ j = 1 ∨ j = 2 := by omega
  rcases h1 with rfl | rfl | rfl <;> rcases h2 with rfl | rfl | rfl <;> first | exact absurd rfl h | decide +kernel
end Wh
namespace Go.Proofs.YtmdpjahhhfajaaaDoor
open Go.RowKit Wh
structure ZonesX (w : World) (zb s1 s2 : Nat) : Prop where
  lz : zb < w.heap.size
  l1 : s1 < w.heap.size
  l2 : s2 < w.heap.size
  cz : w.rangeAt zb 0 (zoneC s1 s2)
  c1 : w.rangeAt s1 0 [.int .i64 145000, .int .i64 (-240), .int .i64 147000, .int .i64 (-300)]
  c2 : w.rangeAt s2 0 [.int .i64 145450, .int .i64 0]
theorem ZonesX.below {w w' : World} {zb s1 s2 B : Nat} (h : ZonesX w zb s1 s2) (hb : Below B w w') (hB : w.heap.size ≤ B) : ZonesX w' zb s1 s2 := by
  have hs := hb.size
  have h1 := h.lz
  have h2 := h.l1
  have h3 := h.l2
  by_cases hle : w.heap.size ≤ w'.heap.size
  · exact ⟨by omega, by omega, by omega, fun j v hv => by rw [hb.cell (p := ⟨zb, 0 + j, none⟩) (by show zb < B; omega)]; exact h.cz j v hv,
      fun j v hv => by rw [hb.cell (p := ⟨s1, 0 + j, none⟩) (by show s1 < B; omega)]; exact h.c1 j v hv,
      fun j v hv => by rw [hb.cell (p := ⟨s2, 0 + j, none⟩) (by show s2 < B; omega)]; exact h.c2 j v hv⟩
  · omega
theorem ZonesX.cells {w : World} {zb s1 s2 i : Nat} (h : ZonesX w zb s1 s2) (hi : i < 3) : w.cell? ⟨zb, i * 3, none⟩ = some (.string (zNm i)) ∧ w.cell? ⟨zb, i * 3 + 1, none⟩ = some (.int .i64 (zOf i)) ∧ w.cell? ⟨zb, i * 3 + 2, none⟩ = some (zSh s1 s2 i) := by
  obtain ⟨a, b, c⟩ := zoneC_at s1 s2 hi
  have e : ∀ j v, (zoneC s1 s2)[j]? = some v → w.cell? ⟨zb, j, none⟩ = some v := fun j v hv => by
    have := h.cz j v hv
    rwa [Nat.zero_add] at this
  exact ⟨e _ _ a, e _ _ b, e _ _ c⟩
theorem box_zn {w : World} {B : Nat} {x y z : Value} (h : w.heap[B]? = some (.cells #[x, y, z] 94 (0, 0))) : (loadVar 94 ⟨B, 0, none⟩).run Tryd.prog w = .ok (.agg #[x, y, z]) w := by
  refine run_loadVar_mid w B 0 _ [x, y, z] _ (fun j q hv => ?_) Tryd.underlying94 rfl (by kernel_rfl)
  rw [Nat.zero_add]
  exact (cell_of_row _ _ j _ _ _ h).trans (by rw [← Array.getElem?_toList]; exact hv)
set_option maxHeartbeats 4000000 in
theorem rzone_any (zb s1 s2 i : Nat) (hi : i < 3) (w : World) (hZ : ZonesX w zb s1 s2) :
    Calls Tryd.prog 87 #[.slice (some ⟨zb, 0, none⟩) 3 3, .string (zNm i)] w fun e w' => e = .returned (.tuple #[.agg #[.string (zNm i), .int .i64 (zOf i), zSh s1 s2 i], .bool true]) ∧ Below w.heap.size w w' := by
  obtain ⟨W0, hW0⟩ : ∃ W0, w.alloc (.cells #[.string ⟨#[]⟩, .int .i64 0, .slice none 0 0] 94) = W0 := ⟨_, rfl⟩
  have hb0 : Below w.heap.size w W0 := by rw [← hW0]; exact (Below.refl _ _).alloc (Nat.le_refl _) _
  have hx0 : W0.heap[w.heap.size]? = some (.cells #[.string ⟨#[]⟩, .int .i64 0, .slice none 0 0] 94 (0, 0)) := by rw [← hW0]; exact heap_alloc_new _ _
  have HZ := Lib.hid (hZ.below hb0 (Nat.le_refl _))
  have HX := Lib.hid hx0
  have HB := Lib.hid hb0
  clear hZ hb0 hx0
  have hne : Hid (∀ k, k < 3 → k ≠ i → ((zNm k).toList == (zNm i).toList) = false) := fun k hk h => zNm_eq hk hi h
  obtain ⟨NM, hNM⟩ : ∃ NM, zNm i = NM := ⟨_, rfl⟩
  rw [hNM] at hne ⊢
  obtain ⟨sa, sl, sc, hsh⟩ : ∃ sa sl sc, zSh s1 s2 i = .slice sa sl sc := by
    unfold zSh
    repeat' split
    all_goals exact ⟨_, _, _, rfl⟩
  obtain ⟨zo, hzo⟩ : ∃ zo, zOf i = zo := ⟨_, rfl⟩
  rw [hsh, hzo]
  have HD : Hid (W0.cell? ⟨zb, i * 3, none⟩ = some (.string NM) ∧ W0.cell? ⟨zb, i * 3 + 1, none⟩ = some (.int .i64 zo) ∧ W0.cell? ⟨zb, i * 3 + 2, none⟩ = some (.slice sa sl sc)) := by
    have h := HZ.out.cells hi
    rw [hNM, hzo, hsh] at h
    exact h
  clear hNM hzo hsh
  go_enter Tryd.func87, Tryd.ntmps87
  go_wp2_with fail
  go_loopw [6] (fun iv wr => ∃ k : Nat, k ≤ i ∧ iv = .int .i64 k ∧ wr = W0) (fun iv _ => 3 - (intOf iv).toNat)
  case atStart => exact ⟨0, Nat.zero_le _, rfl, rfl⟩
  case round =>
    obtain ⟨k, hk, rfl, rfl⟩ := hrel
    have hk3 : (k : Int) < 3 := by omega
    by_cases hki : k = i
    · subst hki
      obtain ⟨d0, d1, d2⟩ := HD.out
      clear hne hW0
      go_wp2_with (with_reducible refine wpList_store_row (o := Oper.mk none (Op.store 94 (.tmp 4) (.tmp 23)) _ _ _ none) rfl 94 (.tmp 4) (.tmp 23) rfl (w.heap.size) #[.string NM, .int .i64 zo, .slice sa sl sc] ?gx ?gy 94 _ HX.out ?gi ?go ?g1 ?gk)
      case gx => rfl
      case gy => rfl
      case gi => kernel_rfl
      case go => rfl
      case g1 => simp [Value.oneCell']
      go_wp2_with fail
      have hld := box_zn (setRow_heap _ _ _ #[.string NM, .int .i64 zo, .slice sa sl sc] _ _ HX.out)
      exact bodyPost_ret (v := .tuple #[.agg #[.string NM, .int .i64 zo, .slice sa sl sc], .bool true]) (by simp [results, Tryd.results87, Act.put, asAddr, hld]) rfl ⟨rfl, HB.out.grown (grown_rowT _ _ _) HB.out.size (fun z hz => by cases hz; omega)⟩
    · obtain ⟨d0, d1, d2⟩ := HZ.out.cells (i := k) (by omega)
      have hnb := hne.out k (by omega) hki
      generalize zNm k = nmk at *
      have hnb2 : (nmk.toList == NM.toList) = false := hnb
      clear hne hW0 HX HD
      go_wp2_with fail
      go_roundw
      case rel => exact ⟨k + 1, by omega, by go_num, trivial⟩
      case measure => simp [intOf]; omega
end Go.Proofs.YtmdpjahhhfajaaaDoor
