/-
  For every layer: warehousebase.At, the natural number for a position i · The laws' expressions: constant, apply, leaf. · The reference's types: fits, common, unary, difference, binary.
-/
import Derived.Test.YtmdpjahhhfajaaaGreatDoorJC03
import Derived.Test.YtmdpjahhhfajaaaGreatDoorJC32
import Derived.WalkSmall
import Derived.BigQuiet
import Derived.WalkLawsBesides
import Derived.WalkSpells
import Derived.Lib.Hide
import Derived.LoopTactic
import Derived.Test.YtmdpjahhhfajaaaGreatDoorJC08
import Derived.Test.YtmdpjahhhfajaaaGreatDoorJC07
import Derived.Deep.MidRow
import Derived.Deep.RegionHeld3
import Derived.Deep.QuietTactic
set_option linter.unusedVariables false
set_option linter.unusedSimpArgs false
set_option maxRecDepth 100000
namespace Wh
open Go
def atZ (zs : List Int) (i : Int) : Int :=
 if zs.length = 0 then i % 65536 else zs.getD (i % 65536 % zs.length).toNat 0 % 65536 + i % 65536 / zs.length
theorem atZ_bounds (zs : List Int) (i : Int) : 0 ≤ atZ zs i ∧ atZ zs i ≤ 131070 := by
 unfold atZ
 split
 ·omega
 ·rename_i h
  have h1 : 0 ≤ i % 65536 / zs.length := Int.ediv_nonneg (by omega) (by omega)
  have h2 : i % 65536 / (zs.length : Int) ≤ i % 65536 := Int.ediv_le_self _ (by omega)
  omega
end Wh
namespace Go.Proofs.YtmdpjahhhfajaaaGreatDoor
open Go.RowKit Wh
theorem at_any (a : Option Addr) (len cap : Nat) (zs : List Int) (n : Int) (w : World) (hz : IsInts w a len zs) (hl : len ≤ 9223372036854775807) :
  Calls Tryz.prog 23 #[.slice a len cap, .int .i64 n] w fun e w' => e = .returned (.int .i64 (atZ zs n)) ∧ Below w.heap.size w w' := by
 obtain ⟨hlen, hz⟩ := hz
 have b1 := and_65535
 have i0 : 0 ≤ n % 65536 := by omega
 have i1 : n % 65536 < 65536 := by omega
 by_cases h0 : len = 0
 ·have hv : atZ zs n = n % 65536 := by unfold atZ; rw [if_pos (by omega)]
  rw [hv]
  subst h0
  clear hv hlen hz
  go_enter Tryz.func23, Tryz.ntmps23
  go_wp2_with fail
  go_ret
  exact ⟨rfl, Below.refl _ _⟩
 ·rcases hz with rfl | ⟨b, off, rfl, hb, hat⟩
  ·exact absurd hlen.symm (by simpa using h0)
  ·have hd : ((len : Int) == 0) = false := by simpa using h0
   have l1 : (1 : Int) ≤ len := by omega
   have r0 : 0 ≤ n % 65536 % (len : Int) := Int.emod_nonneg _ (by omega)
   have r1 : n % 65536 % (len : Int) < len := Int.emod_lt_of_pos _ (by omega)
   have q0 : 0 ≤ n % 65536 / (len : Int) := Int.ediv_nonneg i0 (by omega)
   have q1 : n % 65536 / (len : Int) ≤ 65536 := by have : n % 65536 / (len : Int) ≤ n % 65536 := Int.ediv_le_self _ i0; omega
   obtain ⟨z, hzz⟩ : ∃ z, zs[(n % 65536 % (len : Int)).toNat]? = some z := ⟨_, List.getElem?_eq_getElem (by omega)⟩
   have hc := hat _ _ hzz
   have hv : atZ zs n = z % 65536 + n % 65536 / (len : Int) := by
    unfold atZ
    rw [if_neg (by omega), hlen]
    simp [List.getD, hzz]
   rw [hv]
   have z0 : 0 ≤ z % 65536 := by omega
   have z1 : z % 65536 < 65536 := by omega
   clear hv hat hzz hlen
   go_enter Tryz.func23, Tryz.ntmps23
   go_wp2_with fail
   go_quiet (fail)
   go_wp2_with fail
   go_ret
   exact ⟨rfl, below_drewN (Below.refl _ _) nq⟩
end Go.Proofs.YtmdpjahhhfajaaaGreatDoor
namespace Wh
open Go Go.Proofs.YtmdpjahhhfajaaaGreatDoor
def cNm (i : Nat) : ByteArray := if i = 0 then ⟨#[97]⟩ else if i = 1 then ⟨#[98]⟩ else if i = 2 then ⟨#[115]⟩ else ⟨#[116]⟩
def cKd (i : Nat) : Int := if i = 0 then 2 else if i = 1 then 1 else if i = 2 then 3 else 4
def cNl (i : Nat) : Bool := decide (i = 1)
def cIx (k : Int) : Nat := if k = 2 then 0 else if k = 1 then 1 else if k = 3 then 2 else 3
def colC : List Value := [.string ⟨#[97]⟩, .int .i64 2, .bool false, .string ⟨#[98]⟩, .int .i64 1, .bool true, .string ⟨#[115]⟩, .int .i64 3, .bool false, .string ⟨#[116]⟩, .int .i64 4, .bool false]
theorem colC_at {i : Nat} (h : i < 4) : colC[i * 3]? = some (.string (cNm i)) ∧ colC[i * 3 + 1]? = some (.int .i64 (cKd i)) ∧ colC[i * 3 + 2]? = some (.bool (cNl i)) := by
 have : i = 0 ∨ i = 1 ∨ i = 2 ∨ i = 3 := by omega
 rcases this with rfl | rfl | rfl | rfl <;> exact ⟨rfl, rfl, rfl⟩
theorem cKd_ix {k : Int} (h : 1 ≤ k ∧ k ≤ 4) {i : Nat} (hi : i < 4) : cKd i = k ↔ i = cIx k := by
 unfold cKd cIx
 repeat' split
 all_goals omega
theorem cIx_lt (k : Int) : cIx k < 4 := by
 unfold cIx
 repeat' split
 all_goals omega
def leafN (k : Int) (n : Nat) : List Nd := if n % 4 = 0 then (if n % 16 = 0 then [⟨0, ⟨0, 0, ⟨#[]⟩⟩, ⟨#[]⟩, 0⟩] else [⟨0, valueV k ((n / 16 : Nat) : Int), ⟨#[]⟩, 0⟩]) else [⟨1, ⟨0, 0, ⟨#[]⟩⟩, cNm (cIx k), 0⟩]
end Wh
namespace Go.Proofs.YtmdpjahhhfajaaaGreatDoor
open Go.RowKit Wh
def MdP (w : World) (es : List Nd) (e : Ending) (w' : World) : Prop := ∃ v, e = .returned v ∧ w'.ownsRow w.heap.size 53 6 v es.length (nodesL es) ∧ Below w.heap.size w w'
def ColsX (w : World) (cb : Nat) : Prop := cb < w.heap.size ∧ w.rangeAt cb 0 colC
theorem ColsX.below {w w' : World} {cb B : Nat} (h : ColsX w cb) (hb : Below B w w') (hB : w.heap.size ≤ B) : ColsX w' cb :=
 ⟨Nat.lt_of_lt_of_le h.1 hb.size, fun j v hv => by rw [hb.cell (p := ⟨cb, 0 + j, none⟩) (Nat.lt_of_lt_of_le h.1 hB)]; exact h.2 j v hv⟩
theorem ColsX.cells {w : World} {cb i : Nat} (h : ColsX w cb) (hi : i < 4) : w.cell? ⟨cb, i * 3, none⟩ = some (.string (cNm i)) ∧ w.cell? ⟨cb, i * 3 + 1, none⟩ = some (.int .i64 (cKd i)) ∧ w.cell? ⟨cb, i * 3 + 2, none⟩ = some (.bool (cNl i)) := by
 obtain ⟨a, b, c⟩ := colC_at hi
 have e : ∀ j v, colC[j]? = some v → w.cell? ⟨cb, j, none⟩ = some v := fun j v hv => by
  have := h.2 j v hv
  rwa [Nat.zero_add] at this
 exact ⟨e _ _ a, e _ _ b, e _ _ c⟩
theorem mdp_one (W : World) (b : Nat) (hb : b ≤ W.heap.size) (t : Nd) : (W.alloc (.cells #[.int .i64 t.op, .int .i64 t.v.k, .int .i64 t.v.n, .string t.v.s, .string t.nm, .int .i64 t.ar] 53)).ownsRow b 53 6 (.slice (some ⟨W.heap.size, 0, none⟩) 1 1) 1 (nodesL [t]) := by
 have h := World.ownsRow_lit (base := b) (e := 53) (size := 6) W #[.int .i64 t.op, .int .i64 t.v.k, .int .i64 t.v.n, .string t.v.s, .string t.nm, .int .i64 t.ar] 1 hb (by unfold maxLen; omega) rfl
 simpa [nodesL, c6] using h
set_option maxHeartbeats 1000000 in
theorem mconst_any (v : V) (w : World) : Calls Tryz.prog 83 #[agg v.k v.n v.s] w (MdP w [⟨0, v, ⟨#[]⟩, 0⟩]) := by
 obtain ⟨k, n, s⟩ := v
 unfold agg
 simp only
 go_enter Tryz.func83, Tryz.ntmps83
 go_wp2_with fail
 go_ret
 have h := mdp_one (w.alloc (.cells #[.int .i64 k, .int .i64 n, .string s] 51)) w.heap.size (by simp) ⟨0, ⟨k, n, s⟩, ⟨#[]⟩, 0⟩
 simp only [World.size_alloc] at h
 exact ⟨_, rfl, h, ((Below.refl _ _).alloc (Nat.le_refl _) _).alloc (by simp) _⟩
set_option maxHeartbeats 4000000 in
theorem mapply_any (op : Int) (g m : Nat) (es : List (List Nd)) (vs : List Value) (w : World) (hm : es.length = m) (hm2 : vs.length = m) (hm8 : m ≤ 8) (hg : g < w.heap.size) (hc : ∀ (j : Nat) v, vs[j]? = some v → w.cell? ⟨g, j, none⟩ = some v)
  (hv : ∀ (j : Nat) e, es[j]? = some e → ∃ a c, vs[j]? = some (.slice a e.length c) ∧ IsNodes w a e.length e ∧ (a = none → c = 0)) (hle : es.flatten.length ≤ 100000) :
  Calls Tryz.prog 46 #[.int .i64 op, .slice (some ⟨g, 0, none⟩) m m] w (MdP w (es.flatten ++ [opNd op])) := by
 have HC := Lib.hid hc
 have HV := Lib.hid hv
 have hle1 : ∀ k, ((es.take k).flatten).length ≤ 100000 := fun k => by
  have : es.flatten = (es.take k).flatten ++ (es.drop k).flatten := by rw [← List.flatten_append, List.take_append_drop]
  rw [this, List.length_append] at hle
  omega
 have HLE := Lib.hid hle1
 have HRES : Hid (∀ R, es.flatten ++ [opNd op] = R → R.length = es.flatten.length + 1) := fun R h => by rw [← h]; simp
 obtain ⟨R, hR⟩ : ∃ R, es.flatten ++ [opNd op] = R := ⟨_, rfl⟩
 rw [hR]
 have HR := Lib.hid hR
 clear hc hv hle hle1 hR
 go_enter Tryz.func46, Tryz.ntmps46
 go_wp2_with fail
 go_loopw [5, 6] (fun ov iv wr => ∃ k : Nat, k ≤ m ∧ iv = .int .i64 k ∧ wr.ownsRow w.heap.size 53 6 ov (es.take k).flatten.length (nodesL (es.take k).flatten) ∧ Hid (Below w.heap.size w wr)) (fun _ iv _ => m - (intOf iv).toNat)
 case atStart => exact ⟨0, Nat.zero_le _, rfl, World.ownsRow_nil _ _ _ _, Below.refl _ _⟩
 case round =>
  obtain ⟨k, hk, rfl, hown, HB⟩ := hrel
  have hsz := HB.out.size
  by_cases hlt : k < m
  ·obtain ⟨e, he⟩ : ∃ e, es[k]? = some e := ⟨_, List.getElem?_eq_getElem (by omega)⟩
   obtain ⟨a, c, hvk, hin, han⟩ := HV.out k e he
   have hcell := (HB.out.cell (p := ⟨g, k, none⟩) hg).trans (HC.out k _ hvk)
   have hin2 := hin.below HB.out (Nat.le_refl _)
   have hlk := HLE.out k
   have hlk1 := HLE.out (k + 1)
   have hfl : (es.take (k + 1)).flatten = (es.take k).flatten ++ e := by
    rw [List.take_add_one, he]
    simp
   rw [hfl, List.length_append] at hlk1
   have HFL := Lib.hid hfl
   have hki : (k : Int) < (m : Int) := by omega
   clear hin hvk he hfl
   generalize (es.take k).flatten = L at *
   go_wp2_with (at_builtin; refine wpList_app rfl (.tmp 13) (.tmp 17) rfl rfl rfl hown hsz hin2 han (by omega) (by omega) ?_)
   intro v7 w7 ho7 hg7
   have hB7 := HB.out.grown hg7 hsz (fun j hj => (hown.lt j hj).1)
   have HO7 : Hid (w7.ownsRow w.heap.size 53 6 v7 (es.take (k + 1)).flatten.length (nodesL (es.take (k + 1)).flatten)) := by
    rw [HFL.out, List.length_append]
    exact ho7
   have HB7 := Lib.hid hB7
   clear hg7 ho7 hB7 hown hin2 hcell
   go_wp2_with fail
   go_roundw
   case rel => exact ⟨k + 1, by omega, by go_num, HO7.out, HB7⟩
   case measure => simp [intOf]; omega
  ·obtain rfl : k = m := by omega
   have hki : ¬ (k : Int) < (k : Int) := by omega
   rw [List.take_of_length_le (by omega)] at hown
   have hlk := HLE.out k
   rw [List.take_of_length_le (by omega)] at hlk
   have hRR := HR.out
   obtain ⟨L, hL⟩ : ∃ L, es.flatten = L := ⟨_, rfl⟩
   rw [hL] at hown hlk hRR
   have HRR := Lib.hid hRR
   clear hL hRR HR HRES
   have hnew : IsNodes (wr.alloc (.cells #[.int .i64 op, .int .i64 0, .int .i64 0, .string ⟨#[]⟩, .string ⟨#[]⟩, .int .i64 0] 53)) (some ⟨wr.heap.size, 0, none⟩) 1 [opNd op] := by
    obtain ⟨a', c', hv', hq, _, _, _, _⟩ := own_nodes (mdp_one wr wr.heap.size (Nat.le_refl _) (opNd op)) rfl
    cases hv'
    exact hq
   have HNEW := Lib.hid hnew
   clear hnew
   go_wp2_with (at_builtin; refine wpList_app rfl (.tmp 19) (.tmp 22) rfl rfl rfl (hown.alloc _) (by simp; omega) HNEW.out (fun h => by cases h) (by omega) (by omega) ?_)
   intro v7 w7 ho7 hg7
   have hB7 := (HB.out.alloc hsz _).grown hg7 (by simp; omega) (fun j hj => (hown.lt j hj).1)
   have HB7 := Lib.hid hB7
   have HO7 : Hid (w7.ownsRow w.heap.size 53 6 v7 R.length (nodesL R)) := by
    rw [← HRR.out, List.length_append]
    exact ho7
   clear hg7 ho7 hB7 hown HNEW
   go_wp2_with fail
   go_ret
   exact ⟨_, rfl, HO7.out, HB7.out⟩
set_option maxHeartbeats 4000000 in
theorem mleaf_any (k : Int) (hk : 1 ≤ k ∧ k ≤ 4) (cb : Nat) (n : Nat) (hn : n ≤ 1000000) (w : World) (hC : ColsX w cb) :
  Calls Tryz.prog 45 #[.int .i64 k, .slice (some ⟨cb, 0, none⟩) 4 4, .int .i64 n] w (MdP w (leafN k n)) := by
 obtain ⟨m16, hm16⟩ : ∃ m16, n / 16 = m16 := ⟨_, rfl⟩
 have CV := Lib.hid (fun W => value_any k (m16 : Int) W)
 have CC := Lib.hid (fun v W => mconst_any v W)
 unfold leafN
 rw [hm16]
 obtain ⟨r4, hr4⟩ : ∃ r4, n % 4 = r4 := ⟨_, rfl⟩
 have hm4 : (n : Int) % 4 = (r4 : Int) := by omega
 have ht4 : (n : Int).tmod 4 = (r4 : Int) := by rw [Int.tmod_eq_emod_of_nonneg (by omega)]; exact hm4
 rw [hr4]
 have HCC := Lib.hid hC
 by_cases h4 : r4 = 0
 ·subst h4
  rw [if_pos rfl]
  obtain ⟨r16, hr16⟩ : ∃ r16, n % 16 = r16 := ⟨_, rfl⟩
  have ht16 : (n : Int).tmod 16 = (r16 : Int) := by rw [Int.tmod_eq_emod_of_nonneg (by omega)]; omega
  have hmm16 : (n : Int) % 16 = (r16 : Int) := by omega
  have hd16 : (n : Int).tdiv 16 = (m16 : Int) := by rw [Int.tdiv_eq_ediv_of_nonneg (by omega)]; omega
  have hd16' : (n : Int) / 16 = (m16 : Int) := by omega
  rw [hr16]
  by_cases h16 : r16 = 0
  ·subst h16
   rw [if_pos rfl]
   have CC1 := Lib.hid (CC.out ⟨0, 0, ⟨#[]⟩⟩)
   unfold agg at CC1
   simp only at CC1
   clear hC CC CV
   go_enter Tryz.func45, Tryz.ntmps45
   go_wp2_with fail
   go_loopw [7] (fun iv wr => iv = .int .i64 0 ∧ wr = w) (fun _ _ => 0)
   case atStart => exact ⟨rfl, rfl⟩
   case round =>
    obtain ⟨rfl, rfl⟩ := hrel
    go_wp2_with fail
    refine (CC1.out _).mono ?_
    rintro e w1 ⟨v, rfl, hown, hb⟩
    have H := Lib.hid (And.intro hown hb)
    clear hown hb CC1
    go_wp2_with fail
    go_ret
    exact ⟨_, rfl, H.out.1, H.out.2⟩
  ·rw [if_neg h16]
   have h16b : ((r16 : Int) == 0) = false := by simpa using h16
   have CC1 := Lib.hid (CC.out (valueV k (m16 : Int)))
   unfold agg at CC1 CV
   generalize valueV k (m16 : Int) = vv at *
   obtain ⟨vk, vn, vs⟩ := vv
   simp only at CC1 CV
   clear hC CC
   go_enter Tryz.func45, Tryz.ntmps45
   go_wp2_with fail
   go_loopw [7] (fun iv wr => iv = .int .i64 0 ∧ wr = w) (fun _ _ => 0)
   case atStart => exact ⟨rfl, rfl⟩
   case round =>
    obtain ⟨rfl, rfl⟩ := hrel
    go_wp2_with fail
    refine (CV.out _).mono ?_
    rintro e w1 ⟨rfl, hb1⟩
    have HB1 := Lib.hid hb1
    clear hb1 CV
    go_wp2_with fail
    refine (CC1.out _).mono ?_
    rintro e w2 ⟨v, rfl, hown, hb⟩
    have H := Lib.hid (And.intro (own_mono hown HB1.out.size) (HB1.out.trans (hb.mono HB1.out.size)))
    clear hown hb CC1 HB1
    go_wp2_with fail
    go_ret
    exact ⟨_, rfl, H.out.1, H.out.2⟩
 ·rw [if_neg h4]
  obtain ⟨NM, hNM⟩ : ∃ NM, cNm (cIx k) = NM := ⟨_, rfl⟩
  rw [hNM]
  have h4i : (0 : Int) < (r4 : Int) := by omega
  obtain ⟨q, hq⟩ : ∃ q, n / 4 = q := ⟨_, rfl⟩
  have hd4 : (n : Int).tdiv 4 = (q : Int) := by rw [Int.tdiv_eq_ediv_of_nonneg (by omega)]; omega
  have hd4' : (n : Int) / 4 = (q : Int) := by omega
  obtain ⟨D, hD, hD4⟩ : ∃ D, (q + D) % 4 = cIx k ∧ D < 4 := ⟨(cIx k + 4 - q % 4) % 4, by have := cIx_lt k; omega, by omega⟩
  have HD := Lib.hid hD
  clear hC CV CC hD
  go_enter Tryz.func45, Tryz.ntmps45
  go_wp2_with fail
  go_loopw [7] (fun iv wr => ∃ i : Nat, i ≤ D ∧ iv = .int .i64 i ∧ Hid (Below w.heap.size w wr)) (fun iv _ => 4 - (intOf iv).toNat)
  case atStart => exact ⟨0, Nat.zero_le _, rfl, Below.refl _ _⟩
  case round =>
   obtain ⟨i, hi, rfl, HB⟩ := hrel
   have hi4 : (i : Int) < 4 := by omega
   obtain ⟨x, hx⟩ : ∃ x, (q + i) % 4 = x := ⟨_, rfl⟩
   have hx4 : x < 4 := by omega
   have hxi : ((q : Int) + (i : Int)).tmod 4 = (x : Int) := by rw [Int.tmod_eq_emod_of_nonneg (by omega)]; omega
   have hxm : ((q : Int) + (i : Int)) % 4 = (x : Int) := by omega
   have hxl : (x : Int) < 4 := by omega
   obtain ⟨d0, d1, d2⟩ := (HCC.out.below HB.out (Nat.le_refl _)).cells hx4
   have hkx := cKd_ix hk hx4
   have hsz := HB.out.size
   have HB1 := Lib.hid (HB.out.alloc hsz (.cells #[.string (cNm x), .int .i64 (cKd x), .bool (cNl x)] 91))
   by_cases hiD : i = D
   ·have hxc : x = cIx k := by rw [← hx, hiD]; exact HD.out
    have hkd : cKd x = k := hkx.2 hxc
    rw [hkd] at d1 HB1
    have HEQ : Hid (cNm x = NM) := by show _ = _; rw [hxc]; exact hNM
    clear hkx HD hx hkd hxc hiD
    rw [HEQ.out] at d0 HB1
    generalize cNl x = nlx at *
    go_wp2_with fail
    go_ret
    have h := mdp_one (wr.alloc (.cells #[.string NM, .int .i64 k, .bool nlx] 91)) w.heap.size (by simp; omega) ⟨1, ⟨0, 0, ⟨#[]⟩⟩, NM, 0⟩
    simp only [World.size_alloc] at h
    exact ⟨_, rfl, h, HB1.out.alloc HB1.out.size _⟩
   ·have hkd : ¬ cKd x = k := fun h => hiD (by have := hkx.1 h; have := HD.out; omega)
    have hkdb : (cKd x == k) = false := by simpa using hkd
    generalize cNm x = nmx at *
    generalize cNl x = nlx at *
    generalize cKd x = kdx at *
    clear hkx HD hx
    go_wp2_with fail
    go_roundw
    case rel => exact ⟨i + 1, by omega, by go_num, HB1⟩
    case measure => simp [intOf]; omega
end Go.Proofs.YtmdpjahhhfajaaaGreatDoor
namespace Wh
open Go Go.Proofs.YtmdpjahhhfajaaaGreatDoor
abbrev KT := Int × Bool
def fitB (x : KT) (k : Int) : Bool := decide (x.1 = k) || decide (x.1 = 0)
def comT (x y : KT) : Int × Bool := if x.1 = 0 then (y.1, true) else (x.1, fitB y x.1)
def unaT (op : Int) (x : KT) : KT × Bool :=
 if op = 2 then ((1, x.2), fitB x 1) else if op = 3 then ((2, x.2), fitB x 2) else if op = 16 then ((1, false), true) else if op = 19 then ((2, x.2), fitB x 3) else ((2, x.2), fitB x 4)
def difT (x y : KT) : KT × Bool :=
 if (x.1 = 4 ∧ y.1 = 4) ∨ (x.1 = 0 ∧ y.1 = 4) then ((2, x.2 || y.2), true) else if x.1 = 4 then ((4, true), fitB y 2) else ((2, true), fitB x 2 && fitB y 2)
def binT (op : Int) (x y : KT) : KT × Bool :=
 if op = 4 then (if x.1 = 4 then ((4, true), fitB y 2) else ((2, true), fitB x 2 && fitB y 2))
 else if op = 5 then difT x y
 else if op = 6 ∨ op = 7 ∨ op = 8 then ((2, true), fitB x 2 && fitB y 2)
 else if op = 9 then ((3, true), fitB x 3 && fitB y 3)
 else if op = 14 ∨ op = 15 then ((1, x.2 || y.2), fitB x 1 && fitB y 1)
 else if op = 18 then (((comT x y).1, x.2 && y.2), (comT x y).2)
 else ((1, x.2 || y.2), (comT x y).2)
end Wh
namespace Go.Proofs.YtmdpjahhhfajaaaGreatDoor
open Go.RowKit Wh
abbrev ktV (x : KT) : Value := .agg #[.int .i64 x.1, .bool x.2]
theorem fits_any (x : KT) (k : Int) (w : World) : Calls Tryz.prog 155 #[ktV x, .int .i64 k] w fun e w' => e = .returned (.bool (fitB x k)) ∧ Below w.heap.size w w' := by
 obtain ⟨a, b⟩ := x
 unfold fitB
 simp only
 by_cases h : a = k
 ·have hb : (a == k) = true := by simpa using h
  rw [decide_eq_true h]
  go_enter Tryz.func155, Tryz.ntmps155
  go_wp2_with fail
  go_ret
  exact ⟨rfl, (Below.refl _ _).alloc (Nat.le_refl _) _⟩
 ·have hb : (a == k) = false := by simpa using h
  rw [decide_eq_false h]
  by_cases h0 : a = 0
  ·have hb0 : (a == 0) = true := by simpa using h0
   rw [decide_eq_true h0]
   go_enter Tryz.func155, Tryz.ntmps155
   go_wp2_with fail
   go_ret
   exact ⟨rfl, (Below.refl _ _).alloc (Nat.le_refl _) _⟩
  ·have hb0 : (a == 0) = false := by simpa using h0
   rw [decide_eq_false h0]
   go_enter Tryz.func155, Tryz.ntmps155
   go_wp2_with fail
   go_ret
   exact ⟨rfl, (Below.refl _ _).alloc (Nat.le_refl _) _⟩
structure Box2 (w : World) (b : Nat) (x y : Value) (t : TypeId) : Prop where
 block : w.heap[b]? = some (.cells #[x, y] t (0, 0))
theorem Box2.c0 {w : World} {b : Nat} {x y : Value} {t : TypeId} (h : Box2 w b x y t) : w.cell? ⟨b, 0, none⟩ = some x := cell_of_row _ _ 0 _ _ _ h.block
theorem Box2.c1 {w : World} {b : Nat} {x y : Value} {t : TypeId} (h : Box2 w b x y t) : w.cell? ⟨b, 1, none⟩ = some y := cell_of_row _ _ 1 _ _ _ h.block
theorem Box2.free {w : World} {b : Nat} {x y : Value} {t : TypeId} (h : Box2 w b x y t) (j : Nat) : w.frozen? ⟨b, j, none⟩ = false := by simp [World.frozen?, h.block]
theorem Box2.lt {w : World} {b : Nat} {x y : Value} {t : TypeId} (h : Box2 w b x y t) : b < w.heap.size := (Array.getElem?_eq_some_iff.1 h.block).1
theorem Box2.keep {w w' : World} {b B : Nat} {x y : Value} {t : TypeId} (h : Box2 w b x y t) (hb : Below B w w') (hB : b < B) : Box2 w' b x y t := ⟨by rw [hb.block b hB]; exact h.block⟩
theorem Box2.store {w : World} {b : Nat} {x y x' y' : Value} {t : TypeId} (h : Box2 w b x y t) : Box2 ((w.setCell ⟨b, 0, none⟩ x').setCell ⟨b, 1, none⟩ y') b x' y' t := by
 refine ⟨?_⟩
 have hb := h.block
 simp only [World.setCell, Array.getElem?_modify, if_pos]
 rw [hb]
 rfl
theorem box_kt {w : World} {B : Nat} {x y : Value} (h : w.heap[B]? = some (.cells #[x, y] 146 (0, 0))) : (loadVar 146 ⟨B, 0, none⟩).run Tryz.prog w = .ok (.agg #[x, y]) w := by
 refine run_loadVar_mid w B 0 _ [x, y] _ (fun j q hv => ?_) Tryz.underlying146 rfl (by kernel_rfl)
 rw [Nat.zero_add]
 exact (cell_of_row _ _ j _ _ _ h).trans (by rw [← Array.getElem?_toList]; exact hv)
theorem keepCom {w W0 w1 w2 : World} {a c : Int} {d : Bool} (h0 : w.heap.size + 2 ≤ w1.heap.size) (h : w1.cell? ⟨w.heap.size, 0, none⟩ = some (.int .i64 a) ∧ w1.cell? ⟨w.heap.size + 1, 0, none⟩ = some (.int .i64 c) ∧ w1.cell? ⟨w.heap.size + 1, 1, none⟩ = some (.bool d) ∧ Below (w.heap.size + 2) W0 w1) (hb : Below w1.heap.size w1 w2) :
  w2.cell? ⟨w.heap.size, 0, none⟩ = some (.int .i64 a) ∧ w2.cell? ⟨w.heap.size + 1, 0, none⟩ = some (.int .i64 c) ∧ w2.cell? ⟨w.heap.size + 1, 1, none⟩ = some (.bool d) ∧ Below (w.heap.size + 2) W0 w2 := by
 obtain ⟨a0, a1, a2, hB⟩ := h
 have e : ∀ B o, B < w1.heap.size → w2.cell? ⟨B, o, none⟩ = w1.cell? ⟨B, o, none⟩ := fun B o h => hb.cell (p := ⟨B, o, none⟩) h
 exact ⟨(e _ _ (by omega)).trans a0, (e _ _ (by omega)).trans a1, (e _ _ (by omega)).trans a2, hB.trans (hb.mono h0)⟩
set_option maxHeartbeats 4000000 in
theorem common_any (x y : KT) (w : World) : Calls Tryz.prog 154 #[ktV x, ktV y] w fun e w' => e = .returned (.tuple #[.int .i64 (comT x y).1, .bool (comT x y).2]) ∧ Below w.heap.size w w' := by
 have CF := Lib.hid (fun k W => fits_any y k W)
 obtain ⟨a, b⟩ := x
 obtain ⟨c, d⟩ := y
 unfold comT
 simp only
 have k0 : ((w.alloc (.cells #[.int .i64 a, .bool b] 146)).alloc (.cells #[.int .i64 c, .bool d] 146)).heap[w.heap.size]? = some (.cells #[.int .i64 a, .bool b] 146 (0, 0)) := by
  rw [Below.heap_alloc _ _ _ (by simp)]
  exact heap_alloc_new w _
 have k1 := heap_alloc_new (w.alloc (.cells #[.int .i64 a, .bool b] 146)) (.cells #[.int .i64 c, .bool d] 146)
 simp only [World.size_alloc] at k1
 have hb0 : Below w.heap.size w ((w.alloc (.cells #[.int .i64 a, .bool b] 146)).alloc (.cells #[.int .i64 c, .bool d] 146)) := ((Below.refl _ _).alloc (Nat.le_refl _) _).alloc (by simp) _
 have hsz : ((w.alloc (.cells #[.int .i64 a, .bool b] 146)).alloc (.cells #[.int .i64 c, .bool d] 146)).heap.size = w.heap.size + 2 := by simp
 by_cases h : a = 0
 ·subst h
  rw [if_pos rfl]
  clear CF k0 k1
  go_enter Tryz.func154, Tryz.ntmps154
  go_wp2_with fail
  go_ret2
  exact ⟨rfl, hb0⟩
 ·rw [if_neg h]
  have hb : (a == 0) = false := by simpa using h
  have CF1 := Lib.hid (CF.out a)
  generalize fitB (c, d) a = q at *
  have HS := Lib.hid (show ((w.alloc (.cells #[.int .i64 a, .bool b] 146)).alloc (.cells #[.int .i64 c, .bool d] 146)).drew.cell? ⟨w.heap.size, 0, none⟩ = some (.int .i64 a) ∧ ((w.alloc (.cells #[.int .i64 a, .bool b] 146)).alloc (.cells #[.int .i64 c, .bool d] 146)).drew.cell? ⟨w.heap.size + 1, 0, none⟩ = some (.int .i64 c) ∧ ((w.alloc (.cells #[.int .i64 a, .bool b] 146)).alloc (.cells #[.int .i64 c, .bool d] 146)).drew.cell? ⟨w.heap.size + 1, 1, none⟩ = some (.bool d) ∧ Below (w.heap.size + 2) ((w.alloc (.cells #[.int .i64 a, .bool b] 146)).alloc (.cells #[.int .i64 c, .bool d] 146)) ((w.alloc (.cells #[.int .i64 a, .bool b] 146)).alloc (.cells #[.int .i64 c, .bool d] 146)).drew from ⟨(cell_of_row _ _ 0 _ _ _ k0).trans rfl, (cell_of_row _ _ 0 _ _ _ k1).trans rfl, (cell_of_row _ _ 1 _ _ _ k1).trans rfl, (Below.refl _ _).drew⟩)
  have HB0 := Lib.hid hb0
  have HSZ := Lib.hid hsz
  clear CF k0 k1 hb0 hsz h
  go_enter Tryz.func154, Tryz.ntmps154
  go_wp2_with fail
  generalize ((w.alloc (.cells #[.int .i64 a, .bool b] 146)).alloc (.cells #[.int .i64 c, .bool d] 146)) = W0 at *
  have hS0 := HS.out
  have hsz2 : w.heap.size + 2 ≤ W0.drew.heap.size := by show _ ≤ W0.heap.size; rw [HSZ.out]; exact Nat.le_refl _
  go_region_held3 (fun w' => w'.cell? ⟨w.heap.size, 0, none⟩ = some (.int .i64 a) ∧ w'.cell? ⟨w.heap.size + 1, 0, none⟩ = some (.int .i64 c) ∧ w'.cell? ⟨w.heap.size + 1, 1, none⟩ = some (.bool d) ∧ Below (w.heap.size + 2) W0 w')
   (first | with_reducible exact hS0 | exact keepCom (by assumption) (by assumption) hcall)
   (first | (go_at_call 155; refine (CF1.out _).mono ?_; rintro e w' ⟨rfl, hcall⟩))
  all_goals
   obtain ⟨_, _, _, hB⟩ := ‹_ ∧ _ ∧ _ ∧ Below _ _ _›
   have HF := Lib.hid (HB0.out.trans (hB.mono (by omega)))
   clear hB
   go_wp2_with fail
   go_ret2
   exact ⟨rfl, HF.out⟩
end Go.Proofs.YtmdpjahhhfajaaaGreatDoor
