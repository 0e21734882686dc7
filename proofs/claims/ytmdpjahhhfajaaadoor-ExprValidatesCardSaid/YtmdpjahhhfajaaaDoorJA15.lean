/-
  The laws' expressions: constant, apply, leaf.
-/
import Derived.Test.YtmdpjahhhfajaaaDoorJA14
import Derived.Test.YtmdpjahhhfajaaaDoorJA06
import Derived.Test.YtmdpjahhhfajaaaDoorJA05
import Derived.LoopTactic
import Derived.Deep.MidRow
set_option linter.unusedVariables false
set_option linter.unusedSimpArgs false
set_option maxRecDepth 100000
namespace Wh
open Go Go.Proofs.YtmdpjahhhfajaaaDoor
def cNm (i : Nat) : ByteArray := if i = 0 then ⟨#[97]⟩ else if i = 1 then ⟨#[98]⟩ else if i = 2 then ⟨#[115]⟩ else ⟨#[116]⟩
def cKd (i : Nat) : Int := if i = 0 then 2 else if i = 1 then 1 else if i = 2 then 3 else 4
def cNl (i : Nat) : Bool := decide (i = 1)
def cIx (k : Int) : Nat := if k = 2 then 0 else if k = 1 then 1 else if k = 3 then 2 else 3
def colC : List Value := [.string ⟨#[97]⟩, .int .i64 2, .bool false, .string ⟨#[98]⟩, .int .i64 1, .bool true, .string ⟨#[115]⟩, .int .i64 3, .bool false, .string ⟨#[116]⟩, .int .i64 4, .bool false]
theorem colC_at {i : Nat} (h : i < 4) : colC[i * 3]? = some (.string (cNm i)) ∧ colC[i * 3 + 1]? = some (.int .i64 (cKd i)) ∧ colC[i * 3 + 2]? = some (.bool (cNl i)) := by
  have : i = 0 ∨ i = 1 ∨ i = 2 ∨ i = 3 := by omega
  rcases this with rfl | rfl | rfl | rfl <;> exact ⟨rfl, rfl, rfl⟩
theorem cKd_ix {k : Int} (h : 1 ≤ k ∧ k ≤ 4) {i : Nat} (hi : i < 4) : cKd i = k ↔ i = cIx k := by
  unfold cKd cIx
  repeat' split
  all_goals omega
theorem cIx_lt (k : Int) : cIx k < 4 := by
  unfold cIx
  repeat' split
  all_goals omega
def leafN (k : Int) (n : Nat) : List Nd := if n % 4 = 0 then (if n % 16 = 0 then [⟨0, ⟨0, 0, ⟨#[]⟩⟩, ⟨#[]⟩, 0⟩] else [⟨0, valueV k ((n / 16 : Nat) : Int), ⟨#[]⟩, 0⟩]) else [⟨1, ⟨0, 0, ⟨#[]⟩⟩, cNm (cIx k), 0⟩]
end Wh
namespace Go.Proofs.YtmdpjahhhfajaaaDoor
open Go.RowKit Wh
def MdP (w : World) (es : List Nd) (e : Ending) (w' : World) : Prop := ∃ v, e = .returned v ∧ w'.ownsRow w.heap.size 26 6 v es.length (nodesL es) ∧ Below w.heap.size w w'
def ColsX (w : World) (cb : Nat) : Prop := cb < w.heap.size ∧ w.rangeAt cb 0 colC
theorem ColsX.below {w w' : World} {cb B : Nat} (h : ColsX w cb) (hb : Below B w w') (hB : w.heap.size ≤ B) : ColsX w' cb :=
  ⟨Nat.lt_of_lt_of_le h.1 hb.size, fun j v hv => by rw [hb.cell (p := ⟨cb, 0 + j, none⟩) (Nat.lt_of_lt_of_le h.1 hB)]; exact h.2 j v hv⟩
theorem ColsX.cells {w : World} {cb i : Nat} (h : ColsX w cb) (hi : i < 4) : w.cell? ⟨cb, i * 3, none⟩ = some (.string (cNm i)) ∧ w.cell? ⟨cb, i * 3 + 1, none⟩ = some (.int .i64 (cKd i)) ∧ w.cell? ⟨cb, i * 3 + 2, none⟩ = some (.bool (cNl i)) := by
  obtain ⟨a, b, c⟩ := colC_at hi
  have e : ∀ j v, colC[j]? = some v → w.cell? ⟨cb, j, none⟩ = some v := fun j v hv => by
    have := h.2 j v hv
    rwa [Nat.zero_add] at this
  exact ⟨e _ _ a, e _ _ b, e _ _ c⟩
theorem mdp_one (W : World) (b : Nat) (hb : b ≤ W.heap.size) (t : Nd) : (W.alloc (.cells #[.int .i64 t.op, .int .i64 t.v.k, .int .i64 t.v.n, .string t.v.s, .string t.nm, .int .i64 t.ar] 26)).ownsRow b 26 6 (.slice (some ⟨W.heap.size, 0, none⟩) 1 1) 1 (nodesL [t]) := by
  have h := World.ownsRow_lit (base := b) (e := 26) (size := 6) W #[.int .i64 t.op, .int .i64 t.v.k, .int .i64 t.v.n, .string t.v.s, .string t.nm, .int .i64 t.ar] 1 hb (by unfold maxLen; omega) rfl
  simpa [nodesL, c6] using h
set_option maxHeartbeats 1000000 in
theorem mconst_any (v : V) (w : World) : Calls Tryd.prog 48 #[agg v.k v.n v.s] w (MdP w [⟨0, v, ⟨#[]⟩, 0⟩]) := by
  obtain ⟨k, n, s⟩ := v
  unfold agg
  simp only
  go_enter Tryd.func48, Tryd.ntmps48
  go_wp2_with fail
  go_ret
  have h := mdp_one (w.alloc (.cells #[.int .i64 k, .int .i64 n, .string s] 24)) w.heap.size (by simp) ⟨0, ⟨k, n, s⟩, ⟨#[]⟩, 0⟩
  simp only [World.size_alloc] at h
  exact ⟨_, rfl, h, ((Below.refl _ _).alloc (Nat.le_refl _) _).alloc (by simp) _⟩
set_option maxHeartbeats 4000000 in
theorem mapply_any (op : Int) (g m : Nat) (es : List (List Nd)) (vs : List Value) (w : World) (hm : es.length = m) (hm2 : vs.length = m) (hm8 : m ≤ 8) (hg : g < w.heap.size) (hc : ∀ (j : Nat) v, vs[j]? = some v → w.cell? ⟨g, j, none⟩ = some v)
    (hv : ∀ (j : Nat) e, es[j]? = some e → ∃ a c, vs[j]? = some (.slice a e.length c) ∧ IsNodes w a e.length e ∧ (a = none → c = 0)) (hle : es.flatten.length ≤ 100000) :
    Calls Tryd.prog 33 #[.int .i64 op, .slice (some ⟨g, 0, none⟩) m m] w (MdP w (es.flatten ++ [opNd op])) := by
  have HC := Lib.hid hc
  have HV := Lib.hid hv
  have hle1 : ∀ k, ((es.take k).flatten).length ≤ 100000 := fun k => by
    have : es.flatten = (es.take k).flatten ++ (es.drop k).flatten := by rw [← List.flatten_append, List.take_append_drop]
    rw [this, List.length_append] at hle
    omega
  have HLE := Lib.hid hle1
  have HRES : Hid (∀ R, es.flatten ++ [opNd op] = R → R.length = es.flatten.length + 1) := fun R h => by rw [← h]; simp
  obtain ⟨R, hR⟩ : ∃ R, es.flatten ++ [opNd op] = R := ⟨_, rfl⟩
  rw [hR]
  have HR := Lib.hid hR
  clear hc hv hle hle1 hR
  go_enter Tryd.func33, Tryd.ntmps33
  go_wp2_with fail
  go_loopw [5, 6] (fun ov iv wr => ∃ k : Nat, k ≤ m ∧ iv = .int .i64 k ∧ wr.ownsRow w.heap.size 26 6 ov (es.take k).flatten.length (nodesL (es.take k).flatten) ∧ Hid (Below w.heap.size w wr)) (fun _ iv _ => m - (intOf iv).toNat)
  case atStart => exact ⟨0, Nat.zero_le _, rfl, World.ownsRow_nil _ _ _ _, Below.refl _ _⟩
  case round =>
    obtain ⟨k, hk, rfl, hown, HB⟩ := hrel
    have hsz := HB.out.size
    by_cases hlt : k < m
    · obtain ⟨e, he⟩ : ∃ e, es[k]? = some e := ⟨_, List.getElem?_eq_getElem (by omega)⟩
      obtain ⟨a, c, hvk, hin, han⟩ := HV.out k e he
      have hcell := (HB.out.cell (p := ⟨g, k, none⟩) hg).trans (HC.out k _ hvk)
      have hin2 := hin.below HB.out (Nat.le_refl _)
      have hlk := HLE.out k
      have hlk1 := HLE.out (k + 1)
      have hfl : (es.take (k + 1)).flatten = (es.take k).flatten ++ e := by
        rw [List.take_add_one, he]
        simp
      rw [hfl, List.length_append] at hlk1
      have HFL := Lib.hid hfl
      have hki : (k : Int) < (m : Int) := by omega
      clear hin hvk he hfl
      generalize (es.take k).flatten = L at *
      go_wp2_with (at_builtin; refine wpList_app rfl (.tmp 13) (.tmp 17) rfl rfl rfl hown hsz hin2 han (by omega) (by omega) ?_)
      intro v7 w7 ho7 hg7
      have hB7 := HB.out.grown hg7 hsz (fun j hj => (hown.lt j hj).1)
      have HO7 : Hid (w7.ownsRow w.heap.size 26 6 v7 (es.take (k + 1)).flatten.length (nodesL (es.take (k + 1)).flatten)) := by
        rw [HFL.out, List.length_append]
        exact ho7
      have HB7 := Lib.hid hB7
      clear hg7 ho7 hB7 hown hin2 hcell
      go_wp2_with fail
      go_roundw
      case rel => exact ⟨k + 1, by omega, by go_num, HO7.out, HB7⟩
      case measure => simp [intOf]; omega
    · obtain rfl : k = m := by omega
      have hki : ¬ (k : Int) < (k : Int) := by omega
      rw [List.take_of_length_le (by omega)] at hown
      have hlk := HLE.out k
      rw [List.take_of_length_le (by omega)] at hlk
      have hRR := HR.out
      obtain ⟨L, hL⟩ : ∃ L, es.flatten = L := ⟨_, rfl⟩
      rw [hL] at hown hlk hRR
      have HRR := Lib.hid hRR
      clear hL hRR HR HRES
      have hnew : IsNodes (wr.alloc (.cells #[.int .i64 op, .int .i64 0, .int .i64 0, .string ⟨#[]⟩, .string ⟨#[]⟩, .int .i64 0] 26)) (some ⟨wr.heap.size, 0, none⟩) 1 [opNd op] := by
        obtain ⟨a', c', hv', hq, _, _, _, _⟩ := own_nodes (mdp_one wr wr.heap.size (Nat.le_refl _) (opNd op)) rfl
        cases hv'
        exact hq
      have HNEW := Lib.hid hnew
      clear hnew
      go_wp2_with (at_builtin; refine wpList_app rfl (.tmp 19) (.tmp 22) rfl rfl rfl (hown.alloc _) (by simp; omega) HNEW.out (fun h => by cases h) (by omega) (by omega) ?_)
      intro v7 w7 ho7 hg7
      have hB7 := (HB.out.alloc hsz _).grown hg7 (by simp; omega) (fun j hj => (hown.lt j hj).1)
      have HB7 := Lib.hid hB7
      have HO7 : Hid (w7.ownsRow w.heap.size 26 6 v7 R.length (nodesL R)) := by
        rw [← HRR.out, List.length_append]
        exact ho7
      clear hg7 ho7 hB7 hown HNEW
      go_wp2_with fail
      go_ret
      exact ⟨_, rfl, HO7.out, HB7.out⟩
set_option maxHeartbeats 4000000 in
theorem mleaf_any (k : Int) (hk : 1 ≤ k ∧ k ≤ 4) (cb : Nat) (n : Nat) (hn : n ≤ 1000000) (w : World) (hC : ColsX w cb) :
    Calls Tryd.prog 32 #[.int .i64 k, .slice (some ⟨cb, 0, none⟩) 4 4, .int .i64 n] w (MdP w (leafN k n)) := by
  obtain ⟨m16, hm16⟩ : ∃ m16, n / 16 = m16 := ⟨_, rfl⟩
  have CV := Lib.hid (fun W => value_any k (m16 : Int) W)
  have CC := Lib.hid (fun v W => mconst_any v W)
  unfold leafN
  rw [hm16]
  obtain ⟨r4, hr4⟩ : ∃ r4, n % 4 = r4 := ⟨_, rfl⟩
  have hm4 : (n : Int) % 4 = (r4 : Int) := by omega
  have ht4 : (n : Int).tmod 4 = (r4 : Int) := by rw [Int.tmod_eq_emod_of_nonneg (by omega)]; exact hm4
  rw [hr4]
  have HCC := Lib.hid hC
  by_cases h4 : r4 = 0
  · subst h4
    rw [if_pos rfl]
    obtain ⟨r16, hr16⟩ : ∃ r16, n % 16 = r16 := ⟨_, rfl⟩
    have ht16 : (n : Int).tmod 16 = (r16 : Int) := by rw [Int.tmod_eq_emod_of_nonneg (by omega)]; omega
    have hmm16 : (n : Int) % 16 = (r16 : Int) := by omega
    have hd16 : (n : Int).tdiv 16 = (m16 : Int) := by rw [Int.tdiv_eq_ediv_of_nonneg (by omega)]; omega
    have hd16' : (n : Int) / 16 = (m16 : Int) := by omega
    rw [hr16]
    by_cases h16 : r16 = 0
    · subst h16
      rw [if_pos rfl]
      have CC1 := Lib.hid (CC.out ⟨0, 0, ⟨#[]⟩⟩)
      unfold agg at CC1
      simp only at CC1
      clear hC CC CV
      go_enter Tryd.func32, Tryd.ntmps32
      go_wp2_with fail
      go_loopw [7] (fun iv wr => iv = .int .i64 0 ∧ wr = w) (fun _ _ => 0)
      case atStart => exact ⟨rfl, rfl⟩
      case round =>
        obtain ⟨rfl, rfl⟩ := hrel
        go_wp2_with fail
        refine (CC1.out _).mono ?_
        rintro e w1 ⟨v, rfl, hown, hb⟩
        have H := Lib.hid (And.intro hown hb)
        clear hown hb CC1
        go_wp2_with fail
        go_ret
        exact ⟨_, rfl, H.out.1, H.out.2⟩
    · rw [if_neg h16]
      have h16b : ((r16 : Int) == 0) = false := by simpa using h16
      have CC1 := Lib.hid (CC.out (valueV k (m16 : Int)))
      unfold agg at CC1 CV
      generalize valueV k (m16 : Int) = vv at *
      obtain ⟨vk, vn, vs⟩ := vv
      simp only at CC1 CV
      clear hC CC
      go_enter Tryd.func32, Tryd.ntmps32
      go_wp2_with fail
      go_loopw [7] (fun iv wr => iv = .int .i64 0 ∧ wr = w) (fun _ _ => 0)
      case atStart => exact ⟨rfl, rfl⟩
      case round =>
        obtain ⟨rfl, rfl⟩ := hrel
        go_wp2_with fail
        refine (CV.out _).mono ?_
        rintro e w1 ⟨rfl, hb1⟩
        have HB1 := Lib.hid hb1
        clear hb1 CV
        go_wp2_with fail
        refine (CC1.out _).mono ?_
        rintro e w2 ⟨v, rfl, hown, hb⟩
        have H := Lib.hid (And.intro (own_mono hown HB1.out.size) (HB1.out.trans (hb.mono HB1.out.size)))
        clear hown hb CC1 HB1
        go_wp2_with fail
        go_ret
        exact ⟨_, rfl, H.out.1, H.out.2⟩
  · rw [if_neg h4]
    obtain ⟨NM, hNM⟩ : ∃ NM, cNm (cIx k) = NM := ⟨_, rfl⟩
    rw [hNM]
    have h4i : (0 : Int) < (r4 : Int) := by omega
    obtain ⟨q, hq⟩ : ∃ q, n / 4 = q := ⟨_, rfl⟩
    have hd4 : (n : Int).tdiv 4 = (q : Int) := by rw [Int.tdiv_eq_ediv_of_nonneg (by omega)]; omega
    have hd4' : (n : Int) / 4 = (q : Int) := by omega
    obtain ⟨D, hD, hD4⟩ : ∃ D, (q + D) % 4 = cIx k ∧ D < 4 := ⟨(cIx k + 4 - q % 4) % 4, by have := cIx_lt k; omega, by omega⟩
    have HD := Lib.hid hD
    clear hC CV CC hD
    go_enter Tryd.func32, Tryd.ntmps32
    go_wp2_with fail
    go_loopw [7] (fun iv wr => ∃ i : Nat, i ≤ D ∧ iv = .int .i64 i ∧ Hid (Below w.heap.size w wr)) (fun iv _ => 4 - (intOf iv).toNat)
    case atStart => exact ⟨0, Nat.zero_le _, rfl, Below.refl _ _⟩
    case round =>
      obtain ⟨i, hi, rfl, HB⟩ := hrel
      have hi4 : (i : Int) < 4 := by omega
      obtain ⟨x, hx⟩ : ∃ x, (q + i) % 4 = x := ⟨_, rfl⟩
      have hx4 : x < 4 := by omega
      have hxi : ((q : Int) + (i : Int)).tmod 4 = (x : Int) := by rw [Int.tmod_eq_emod_of_nonneg (by omega)]; omega
      have hxm : ((q : Int) + (i : Int)) % 4 = (x : Int) := by omega
      have hxl : (x : Int) < 4 := by omega
      obtain ⟨d0, d1, d2⟩ := (HCC.out.below HB.out (Nat.le_refl _)).cells hx4
      have hkx := cKd_ix hk hx4
      have hsz := HB.out.size
      have HB1 := Lib.hid (HB.out.alloc hsz (.cells #[.string (cNm x), .int .i64 (cKd x), .bool (cNl x)] 63))
      by_cases hiD : i = D
      · have hxc : x = cIx k := by rw [← hx, hiD]; exact HD.out
        have hkd : cKd x = k := hkx.2 hxc
        rw [hkd] at d1 HB1
        have HEQ : Hid (cNm x = NM) := by show _ = _; rw [hxc]; exact hNM
        clear hkx HD hx hkd hxc hiD
        rw [HEQ.out] at d0 HB1
        generalize cNl x = nlx at *
        go_wp2_with fail
        go_ret
        have h := mdp_one (wr.alloc (.cells #[.string NM, .int .i64 k, .bool nlx] 63)) w.heap.size (by simp; omega) ⟨1, ⟨0, 0, ⟨#[]⟩⟩, NM, 0⟩
        simp only [World.size_alloc] at h
        exact ⟨_, rfl, h, HB1.out.alloc HB1.out.size _⟩
      · have hkd : ¬ cKd x = k := fun h => hiD (by have := hkx.1 h; have := HD.out; omega)
        have hkdb : (cKd x == k) = false := by simpa using hkd
        generalize cNm x = nmx at *
        generalize cNl x = nlx at *
        generalize cKd x = kdx at *
        clear hkx HD hx
        go_wp2_with fail
        go_roundw
        case rel => exact ⟨i + 1, by omega, by go_num, HB1⟩
        case measure => simp [intOf]; omega
end Go.Proofs.YtmdpjahhhfajaaaDoor
