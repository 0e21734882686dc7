/-
  The laws' Zones; Unknown. · The laws' expressions: apply over operands; what a call of Expr is ask · The laws' expressions: logical.
-/
import Derived.Test.YtmdpjahhhfajaaaGreatDoorJC41
set_option linter.unusedVariables false
set_option linter.unusedSimpArgs false
set_option maxRecDepth 100000
namespace Wh
open Go Go.Proofs.YtmdpjahhhfajaaaGreatDoor
def unkB (ts : List Nd) : Bool := decide ((typR (typS ts [])).2 = 0) && decide ((typR (typS ts [])).1.1 = 0)
end Wh
namespace Go.Proofs.YtmdpjahhhfajaaaGreatDoor
open Go.RowKit Wh
theorem heap3 (w : World) (a b c : Obj) : (((w.alloc a).alloc b).alloc c).heap[w.heap.size]? = some a ∧ (((w.alloc a).alloc b).alloc c).heap[w.heap.size + 1]? = some b ∧ (((w.alloc a).alloc b).alloc c).heap[w.heap.size + 1 + 1]? = some c := by
 refine ⟨?_, ?_, ?_⟩
 ·rw [Below.heap_alloc _ _ _ (by simp; omega), Below.heap_alloc _ _ _ (by simp)]
  exact heap_alloc_new _ _
 ·have h := heap_alloc_new (w.alloc a) b
  rw [World.size_alloc] at h
  rw [Below.heap_alloc _ _ _ (by simp)]
  exact h
 ·have h := heap_alloc_new ((w.alloc a).alloc b) c
  rw [World.size_alloc, World.size_alloc] at h
  exact h
theorem range_row {w : World} {B : Nat} {cs : List Value} {t : TypeId} {fr : Nat × Nat} (h : w.heap[B]? = some (.cells cs.toArray t fr)) : w.rangeAt B 0 cs := fun j v hv => by
 rw [Nat.zero_add]
 exact (cell_of_row _ _ j _ _ _ h).trans (by rw [← Array.getElem?_toList]; exact hv)
set_option maxHeartbeats 4000000 in
theorem mzones_any (w : World) : Calls Tryz.prog 85 #[] w fun e w' => ∃ zb s1 s2, e = .returned (.slice (some ⟨zb, 0, none⟩) 3 3) ∧ ZonesX w' zb s1 s2 ∧ Below w.heap.size w w' := by
 go_enter Tryz.func85, Tryz.ntmps85
 go_wp2_with fail
 go_ret
 obtain ⟨h1, h2, h3⟩ := heap3 w (.cells #[.int .i64 145000, .int .i64 (-240), .int .i64 147000, .int .i64 (-300)] 150) (.cells #[.int .i64 145450, .int .i64 0] 150) (.cells (zoneC w.heap.size (w.heap.size + 1)).toArray 143)
 refine ⟨w.heap.size + 1 + 1, w.heap.size, w.heap.size + 1, rfl, ⟨?_, ?_, ?_, ?_, ?_, ?_⟩, below_al3 w _ _ _⟩
 ·simp
 ·simp; omega
 ·simp
 ·exact range_row h3
 ·exact range_row h1
 ·exact range_row h2
set_option maxHeartbeats 4000000 in
theorem munk_any (a : Option Addr) (len cap cb : Nat) (ts : List Nd) (w : World) (hs : IsNodes w a len ts) (hl : len ≤ 9223372036854775807) (hz : ∀ t ∈ ts, t.nm.size ≤ 9223372036854775800) (hv : valN ts = 0) (hg : ∀ t ∈ ts, GdT t) (hC : ColsX w cb) :
  Calls Tryz.prog 49 #[.slice a len cap, .slice (some ⟨cb, 0, none⟩) 4 4] w fun e w' => e = .returned (.bool (unkB ts)) ∧ Below w.heap.size w w' := by
 have CZ := Lib.hid (mzones_any w)
 have CT := Lib.hid (fun zb s1 s2 W (hb : Below w.heap.size w W) hZ => rtype_any a len cap cb zb s1 s2 ts W (hs.below hb (Nat.le_refl _)) hl hz hv hg (hC.below hb (Nat.le_refl _)) hZ)
 unfold unkB
 generalize typR (typS ts []) = T at *
 obtain ⟨⟨tk, tn⟩, te⟩ := T
 simp only at CT ⊢
 clear hs hz hv hg hC
 go_enter Tryz.func49, Tryz.ntmps49
 go_wp2_with fail
 refine CZ.out.mono ?_
 rintro e w1 ⟨zb, s1, s2, rfl, hZ, hb1⟩
 have HZ := Lib.hid hZ
 have HB1 := Lib.hid hb1
 clear hZ hb1 CZ
 go_wp2_with fail
 refine (CT.out zb s1 s2 _ HB1.out HZ.out).mono ?_
 rintro e w2 ⟨rfl, hb2⟩
 have HB2 := Lib.hid (HB1.out.trans (hb2.mono HB1.out.size))
 clear hb2 CT HZ
 by_cases h0 : te = 0
 ·subst h0
  by_cases h1 : tk = 0
  ·subst h1
   go_wp2_with fail
   go_ret
   exact ⟨rfl, HB2.out⟩
  ·have h1b : (tk == 0) = false := by simpa using h1
   go_wp2_with fail
   go_ret
   refine ⟨?_, HB2.out⟩
   simp [h1]
 ·have h0b : (te == 0) = false := by simpa using h0
  go_wp2_with fail
  go_ret
  refine ⟨?_, HB2.out⟩
  simp [h0]
end Go.Proofs.YtmdpjahhhfajaaaGreatDoor
namespace Wh
def bnd : Nat → Int
 | 0 => 1000000000000
 | d + 1 => (bnd d - 5) / 6
theorem bnd_le (d : Nat) : -1 ≤ bnd d ∧ bnd d ≤ 1000000000000 := by
 induction d with
 | zero => unfold bnd; omega
 | succ d ih => unfold bnd; omega
theorem bnd_step {d : Nat} {p : Int} (h : p ≤ bnd (d + 1)) : 6 * p + 5 ≤ bnd d := by unfold bnd at h; omega
theorem GoodE.le {d : Nat} {es : List Nd} (h : GoodE d es) (hd : d ≤ 4) : es.length ≤ 121 := Nat.le_trans h.len (Nat.le_trans (capE_mono hd) (by decide))
end Wh
namespace Go.Proofs.YtmdpjahhhfajaaaGreatDoor
open Go.RowKit Wh
structure ExW (W : World) (la : Option Addr) (ll : Nat) (zs : List Int) (cb : Nat) : Prop where
 ints : IsInts W la ll zs
 cols : ColsX W cb
theorem ExW.below {w w' : World} {la : Option Addr} {ll cb B : Nat} {zs : List Int} (h : ExW w la ll zs cb) (hb : Below B w w') (hB : w.heap.size ≤ B) : ExW w' la ll zs cb := ⟨h.ints.below hb hB, h.cols.below hb hB⟩
def MEx (la : Option Addr) (ll lc : Nat) (zs : List Int) (d : Nat) (e : Int) : Prop :=
 ∀ (k p : Int), 1 ≤ k → k ≤ 4 → 0 ≤ p → p ≤ bnd d → ∃ es, GoodE d es ∧ ∀ cb W, ExW W la ll zs cb → Calls Tryz.prog 26 #[.int .i64 k, .slice (some ⟨cb, 0, none⟩) 4 4, .slice la ll lc, .int .i64 p, .int .i64 e] W (MdP W es)
theorem MdP.nodes {w w' : World} {es : List Nd} {e : Ending} (h : MdP w es e w') : ∃ a c, e = .returned (.slice a es.length c) ∧ IsNodes w' a es.length es ∧ (a = none → c = 0) ∧ Below w.heap.size w w' := by
 obtain ⟨v, rfl, hown, hb⟩ := h
 obtain ⟨a, c, rfl, hi, _, _, hn, _⟩ := own_nodes hown rfl
 exact ⟨a, c, rfl, hi, hn, hb⟩
theorem MdP.up {w w1 w2 : World} {es : List Nd} {e : Ending} (h : MdP w1 es e w2) (hb : Below w.heap.size w w1) : MdP w es e w2 := by
 obtain ⟨v, rfl, hown, hb2⟩ := h
 exact ⟨v, rfl, own_mono hown hb.size, hb.trans (hb2.mono hb.size)⟩
theorem new_cells {w : World} {cs : List Value} {t : TypeId} (j : Nat) (v : Value) (h : cs[j]? = some v) : (w.alloc (.cells cs.toArray t)).cell? ⟨w.heap.size, j, none⟩ = some v := by
 have := range_row (heap_alloc_new w (.cells cs.toArray t)) j v h
 rwa [Nat.zero_add] at this
theorem mapp1 (op : Int) {e1 : List Nd} {a1 : Option Addr} {c1 : Nat} {w w0 : World} (h1 : IsNodes w a1 e1.length e1) (n1 : a1 = none → c1 = 0) (l1 : e1.length ≤ 121) (hb : Below w0.heap.size w0 w) :
  Calls Tryz.prog 46 #[.int .i64 op, .slice (some ⟨w.heap.size, 0, none⟩) 1 1] (w.alloc (.cells #[.slice a1 e1.length c1] 30)) (MdP w0 (e1 ++ [opNd op])) := by
 have hB : Below w.heap.size w (w.alloc (.cells #[.slice a1 e1.length c1] 30)) := (Below.refl _ _).alloc (Nat.le_refl _) _
 have h := mapply_any op w.heap.size 1 [e1] [.slice a1 e1.length c1] (w.alloc (.cells #[.slice a1 e1.length c1] 30)) rfl rfl (by omega) (by simp) (fun j v hv => new_cells j v hv) (fun j e he => by
  have hj : j < 1 := (List.getElem?_eq_some_iff.1 he).1
  have : j = 0 := by omega
  subst this
  ·cases he
   exact ⟨a1, c1, rfl, h1.below hB (Nat.le_refl _), n1⟩) (by simp; omega)
 refine h.mono ?_
 intro e w' hm
 have := hm.up (hb.trans (hB.mono hb.size))
 simpa using this
theorem mapp2 (op : Int) {e1 : List Nd} {a1 : Option Addr} {c1 : Nat} {e2 : List Nd} {a2 : Option Addr} {c2 : Nat} {w w0 : World} (h1 : IsNodes w a1 e1.length e1) (n1 : a1 = none → c1 = 0) (l1 : e1.length ≤ 121) (h2 : IsNodes w a2 e2.length e2) (n2 : a2 = none → c2 = 0) (l2 : e2.length ≤ 121) (hb : Below w0.heap.size w0 w) :
  Calls Tryz.prog 46 #[.int .i64 op, .slice (some ⟨w.heap.size, 0, none⟩) 2 2] (w.alloc (.cells #[.slice a1 e1.length c1, .slice a2 e2.length c2] 30)) (MdP w0 (e1 ++ (e2 ++ [opNd op]))) := by
 have hB : Below w.heap.size w (w.alloc (.cells #[.slice a1 e1.length c1, .slice a2 e2.length c2] 30)) := (Below.refl _ _).alloc (Nat.le_refl _) _
 have h := mapply_any op w.heap.size 2 [e1, e2] [.slice a1 e1.length c1, .slice a2 e2.length c2] (w.alloc (.cells #[.slice a1 e1.length c1, .slice a2 e2.length c2] 30)) rfl rfl (by omega) (by simp) (fun j v hv => new_cells j v hv) (fun j e he => by
  have hj : j < 2 := (List.getElem?_eq_some_iff.1 he).1
  have : j = 0 ∨ j = 1 := by omega
  rcases this with rfl | rfl
  ·cases he
   exact ⟨a1, c1, rfl, h1.below hB (Nat.le_refl _), n1⟩
  ·cases he
   exact ⟨a2, c2, rfl, h2.below hB (Nat.le_refl _), n2⟩) (by simp; omega)
 refine h.mono ?_
 intro e w' hm
 have := hm.up (hb.trans (hB.mono hb.size))
 simpa using this
theorem mapp3 (op : Int) {e1 : List Nd} {a1 : Option Addr} {c1 : Nat} {e2 : List Nd} {a2 : Option Addr} {c2 : Nat} {e3 : List Nd} {a3 : Option Addr} {c3 : Nat} {w w0 : World} (h1 : IsNodes w a1 e1.length e1) (n1 : a1 = none → c1 = 0) (l1 : e1.length ≤ 121) (h2 : IsNodes w a2 e2.length e2) (n2 : a2 = none → c2 = 0) (l2 : e2.length ≤ 121) (h3 : IsNodes w a3 e3.length e3) (n3 : a3 = none → c3 = 0) (l3 : e3.length ≤ 121) (hb : Below w0.heap.size w0 w) :
  Calls Tryz.prog 46 #[.int .i64 op, .slice (some ⟨w.heap.size, 0, none⟩) 3 3] (w.alloc (.cells #[.slice a1 e1.length c1, .slice a2 e2.length c2, .slice a3 e3.length c3] 30)) (MdP w0 (e1 ++ (e2 ++ (e3 ++ [opNd op])))) := by
 have hB : Below w.heap.size w (w.alloc (.cells #[.slice a1 e1.length c1, .slice a2 e2.length c2, .slice a3 e3.length c3] 30)) := (Below.refl _ _).alloc (Nat.le_refl _) _
 have h := mapply_any op w.heap.size 3 [e1, e2, e3] [.slice a1 e1.length c1, .slice a2 e2.length c2, .slice a3 e3.length c3] (w.alloc (.cells #[.slice a1 e1.length c1, .slice a2 e2.length c2, .slice a3 e3.length c3] 30)) rfl rfl (by omega) (by simp) (fun j v hv => new_cells j v hv) (fun j e he => by
  have hj : j < 3 := (List.getElem?_eq_some_iff.1 he).1
  have : j = 0 ∨ j = 1 ∨ j = 2 := by omega
  rcases this with rfl | rfl | rfl
  ·cases he
   exact ⟨a1, c1, rfl, h1.below hB (Nat.le_refl _), n1⟩
  ·cases he
   exact ⟨a2, c2, rfl, h2.below hB (Nat.le_refl _), n2⟩
  ·cases he
   exact ⟨a3, c3, rfl, h3.below hB (Nat.le_refl _), n3⟩) (by simp; omega)
 refine h.mono ?_
 intro e w' hm
 have := hm.up (hb.trans (hB.mono hb.size))
 simpa using this
end Go.Proofs.YtmdpjahhhfajaaaGreatDoor
namespace Go.Proofs.YtmdpjahhhfajaaaGreatDoor
open Go.RowKit Wh
set_option maxHeartbeats 8000000 in
theorem mlogic_any (la : Option Addr) (ll lc : Nat) (zs : List Int) (d : Nat) (e : Int) (hl : ll ≤ 9223372036854775807) (hd : d ≤ 4) (he : 1 ≤ e ∧ e ≤ 1000) (IH : MEx la ll lc zs d (e - 1))  (p : Int) (hp0 : 0 ≤ p) (hp : 2 * p + 2 ≤ bnd d) : ∃ es, GoodE (d + 1) es ∧ ∀ cb W, ExW W la ll zs cb → Calls Tryz.prog 47 #[.slice (some ⟨cb, 0, none⟩) 4 4, .slice la ll lc, .int .i64 p, .int .i64 e] W (MdP W es) := by
 have hbd := bnd_le d
 have hpb : p ≤ 500000000000 := by omega
 obtain ⟨n, hn⟩ : ∃ n : Nat, atZ zs p = (n : Int) := ⟨(atZ zs p).toNat, by have := atZ_bounds zs p; omega⟩
 have hnb : n ≤ 131070 := by have := atZ_bounds zs p; omega
 have CA := Lib.hid (fun cb W (h : ExW W la ll zs cb) => at_any la ll lc zs p W h.ints hl)
 rw [hn] at CA
 clear hn
 obtain ⟨q16, hq16⟩ : ∃ q16, n / 16 = q16 := ⟨_, rfl⟩
 have tq16 : (n : Int).tdiv 16 = (q16 : Int) := by rw [Int.tdiv_eq_ediv_of_nonneg (by omega)]; omega
 have mq16 : (n : Int) / 16 = (q16 : Int) := by omega
 obtain ⟨r4, hr4⟩ : ∃ r4, q16 % 4 = r4 := ⟨_, rfl⟩
 have tr4 : (q16 : Int).tmod 4 = (r4 : Int) := by rw [Int.tmod_eq_emod_of_nonneg (by omega)]; omega
 have mr4 : (q16 : Int) % 4 = (r4 : Int) := by omega
 obtain ⟨r9, hr9⟩ : ∃ r9, n % 9 = r9 := ⟨_, rfl⟩
 have tr9 : (n : Int).tmod 9 = (r9 : Int) := by rw [Int.tmod_eq_emod_of_nonneg (by omega)]; omega
 have mr9 : (n : Int) % 9 = (r9 : Int) := by omega
 obtain ⟨s4, hs4⟩ : ∃ s4, n % 4 = s4 := ⟨_, rfl⟩
 have ts4 : (n : Int).tmod 4 = (s4 : Int) := by rw [Int.tmod_eq_emod_of_nonneg (by omega)]; omega
 have ms4 : (n : Int) % 4 = (s4 : Int) := by omega
 by_cases cr90 : r9 = 0
 ·subst cr90
  obtain ⟨e1, g1, C1⟩ := IH (1) (2 * p + 1) (by omega) (by omega) (by omega) (by omega)
  refine ⟨_, GoodE.app1 (op := 2) (by omega) g1 (by omega), fun cb W hE => ?_⟩
  have HE := Lib.hid hE
  have HC1 := Lib.hid C1
  have hl1 := g1.le hd
  clear hE IH hbd hp C1 g1
  go_enter Tryz.func47, Tryz.ntmps47
  go_wp2_with fail
  refine (CA.out _ _ HE.out).mono ?_
  rintro ev w1 ⟨rfl, hb1⟩
  have HE1 := Lib.hid (HE.out.below hb1 (Nat.le_refl _))
  have HB1 := Lib.hid hb1
  clear hb1 CA HE
  go_wp2_with fail
  refine (HC1.out _ _ HE1.out).mono ?_
  intro ev w2 hm
  obtain ⟨a1, k1, rfl, hi1, hn1, hb2⟩ := hm.nodes
  have HB2 := Lib.hid (HB1.out.trans (hb2.mono HB1.out.size))
  have HE2 := Lib.hid (HE1.out.below hb2 (Nat.le_refl _))
  have HI11 := Lib.hid hi1
  have HN1 := Lib.hid hn1
  clear hm hi1 hn1 hb2 HC1 HE1 HB1
  go_wp2_with fail
  refine (mapp1 (2) HI11.out HN1.out hl1 HB2.out).mono ?_
  rintro ev wf ⟨v, rfl, hown, hbf⟩
  have H := Lib.hid (And.intro hown hbf)
  clear hown hbf
  go_wp2_with fail
  go_ret
  exact ⟨_, rfl, H.out.1, H.out.2⟩
 by_cases cr91 : r9 = 1
 ·subst cr91
  obtain ⟨e1, g1, C1⟩ := IH (1) (2 * p + 1) (by omega) (by omega) (by omega) (by omega)
  obtain ⟨e2, g2, C2⟩ := IH (1) (2 * p + 2) (by omega) (by omega) (by omega) (by omega)
  refine ⟨_, GoodE.app2 (op := 14) (by omega) g1 g2 (by omega), fun cb W hE => ?_⟩
  have HE := Lib.hid hE
  have HC1 := Lib.hid C1
  have hl1 := g1.le hd
  have HC2 := Lib.hid C2
  have hl2 := g2.le hd
  clear hE IH hbd hp C1 g1 C2 g2
  go_enter Tryz.func47, Tryz.ntmps47
  go_wp2_with fail
  refine (CA.out _ _ HE.out).mono ?_
  rintro ev w1 ⟨rfl, hb1⟩
  have HE1 := Lib.hid (HE.out.below hb1 (Nat.le_refl _))
  have HB1 := Lib.hid hb1
  clear hb1 CA HE
  go_wp2_with fail
  refine (HC1.out _ _ HE1.out).mono ?_
  intro ev w2 hm
  obtain ⟨a1, k1, rfl, hi1, hn1, hb2⟩ := hm.nodes
  have HB2 := Lib.hid (HB1.out.trans (hb2.mono HB1.out.size))
  have HE2 := Lib.hid (HE1.out.below hb2 (Nat.le_refl _))
  have HI11 := Lib.hid hi1
  have HN1 := Lib.hid hn1
  clear hm hi1 hn1 hb2 HC1 HE1 HB1
  go_wp2_with fail
  refine (HC2.out _ _ HE2.out).mono ?_
  intro ev w3 hm
  obtain ⟨a2, k2, rfl, hi2, hn2, hb3⟩ := hm.nodes
  have HB3 := Lib.hid (HB2.out.trans (hb3.mono HB2.out.size))
  have HE3 := Lib.hid (HE2.out.below hb3 (Nat.le_refl _))
  have HI22 := Lib.hid hi2
  have HN2 := Lib.hid hn2
  have HI12 := Lib.hid (HI11.out.below hb3 (Nat.le_refl _))
  clear HI11
  clear hm hi2 hn2 hb3 HC2 HE2 HB2
  go_wp2_with fail
  refine (mapp2 (14) HI12.out HN1.out hl1 HI22.out HN2.out hl2 HB3.out).mono ?_
  rintro ev wf ⟨v, rfl, hown, hbf⟩
  have H := Lib.hid (And.intro hown hbf)
  clear hown hbf
  go_wp2_with fail
  go_ret
  exact ⟨_, rfl, H.out.1, H.out.2⟩
 by_cases cr92 : r9 = 2
 ·subst cr92
  obtain ⟨e1, g1, C1⟩ := IH (1) (2 * p + 1) (by omega) (by omega) (by omega) (by omega)
  obtain ⟨e2, g2, C2⟩ := IH (1) (2 * p + 2) (by omega) (by omega) (by omega) (by omega)
  refine ⟨_, GoodE.app2 (op := 15) (by omega) g1 g2 (by omega), fun cb W hE => ?_⟩
  have HE := Lib.hid hE
  have HC1 := Lib.hid C1
  have hl1 := g1.le hd
  have HC2 := Lib.hid C2
  have hl2 := g2.le hd
  clear hE IH hbd hp C1 g1 C2 g2
  go_enter Tryz.func47, Tryz.ntmps47
  go_wp2_with fail
  refine (CA.out _ _ HE.out).mono ?_
  rintro ev w1 ⟨rfl, hb1⟩
  have HE1 := Lib.hid (HE.out.below hb1 (Nat.le_refl _))
  have HB1 := Lib.hid hb1
  clear hb1 CA HE
  go_wp2_with fail
  refine (HC1.out _ _ HE1.out).mono ?_
  intro ev w2 hm
  obtain ⟨a1, k1, rfl, hi1, hn1, hb2⟩ := hm.nodes
  have HB2 := Lib.hid (HB1.out.trans (hb2.mono HB1.out.size))
  have HE2 := Lib.hid (HE1.out.below hb2 (Nat.le_refl _))
  have HI11 := Lib.hid hi1
  have HN1 := Lib.hid hn1
  clear hm hi1 hn1 hb2 HC1 HE1 HB1
  go_wp2_with fail
  refine (HC2.out _ _ HE2.out).mono ?_
  intro ev w3 hm
  obtain ⟨a2, k2, rfl, hi2, hn2, hb3⟩ := hm.nodes
  have HB3 := Lib.hid (HB2.out.trans (hb3.mono HB2.out.size))
  have HE3 := Lib.hid (HE2.out.below hb3 (Nat.le_refl _))
  have HI22 := Lib.hid hi2
  have HN2 := Lib.hid hn2
  have HI12 := Lib.hid (HI11.out.below hb3 (Nat.le_refl _))
  clear HI11
  clear hm hi2 hn2 hb3 HC2 HE2 HB2
  go_wp2_with fail
  refine (mapp2 (15) HI12.out HN1.out hl1 HI22.out HN2.out hl2 HB3.out).mono ?_
  rintro ev wf ⟨v, rfl, hown, hbf⟩
  have H := Lib.hid (And.intro hown hbf)
  clear hown hbf
  go_wp2_with fail
  go_ret
  exact ⟨_, rfl, H.out.1, H.out.2⟩
 by_cases cr93 : r9 = 3
 ·subst cr93
  obtain ⟨e1, g1, C1⟩ := IH (1 + (r4 : Int)) (2 * p + 1) (by omega) (by omega) (by omega) (by omega)
  refine ⟨_, GoodE.app1 (op := 16) (by omega) g1 (by omega), fun cb W hE => ?_⟩
  have HE := Lib.hid hE
  have HC1 := Lib.hid C1
  have hl1 := g1.le hd
  clear hE IH hbd hp C1 g1
  go_enter Tryz.func47, Tryz.ntmps47
  go_wp2_with fail
  refine (CA.out _ _ HE.out).mono ?_
  rintro ev w1 ⟨rfl, hb1⟩
  have HE1 := Lib.hid (HE.out.below hb1 (Nat.le_refl _))
  have HB1 := Lib.hid hb1
  clear hb1 CA HE
  go_wp2_with fail
  refine (HC1.out _ _ HE1.out).mono ?_
  intro ev w2 hm
  obtain ⟨a1, k1, rfl, hi1, hn1, hb2⟩ := hm.nodes
  have HB2 := Lib.hid (HB1.out.trans (hb2.mono HB1.out.size))
  have HE2 := Lib.hid (HE1.out.below hb2 (Nat.le_refl _))
  have HI11 := Lib.hid hi1
  have HN1 := Lib.hid hn1
  clear hm hi1 hn1 hb2 HC1 HE1 HB1
  go_wp2_with fail
  refine (mapp1 (16) HI11.out HN1.out hl1 HB2.out).mono ?_
  rintro ev wf ⟨v, rfl, hown, hbf⟩
  have H := Lib.hid (And.intro hown hbf)
  clear hown hbf
  go_wp2_with fail
  go_ret
  exact ⟨_, rfl, H.out.1, H.out.2⟩
 have br90 : ((r9 : Int) == 0) = false := by simp only [beq_eq_false_iff_ne]; omega
 have br91 : ((r9 : Int) == 1) = false := by simp only [beq_eq_false_iff_ne]; omega
 have br92 : ((r9 : Int) == 2) = false := by simp only [beq_eq_false_iff_ne]; omega
 have br93 : ((r9 : Int) == 3) = false := by simp only [beq_eq_false_iff_ne]; omega
 obtain ⟨e1, g1, C1⟩ := IH (1 + (r4 : Int)) (2 * p + 1) (by omega) (by omega) (by omega) (by omega)
 obtain ⟨e2, g2, C2⟩ := IH (1 + (r4 : Int)) (2 * p + 2) (by omega) (by omega) (by omega) (by omega)
 refine ⟨_, GoodE.app2 (op := 10 + (s4 : Int)) (by omega) g1 g2 (by omega), fun cb W hE => ?_⟩
 have HE := Lib.hid hE
 have HC1 := Lib.hid C1
 have hl1 := g1.le hd
 have HC2 := Lib.hid C2
 have hl2 := g2.le hd
 clear hE IH hbd hp C1 g1 C2 g2
 go_enter Tryz.func47, Tryz.ntmps47
 go_wp2_with fail
 refine (CA.out _ _ HE.out).mono ?_
 rintro ev w1 ⟨rfl, hb1⟩
 have HE1 := Lib.hid (HE.out.below hb1 (Nat.le_refl _))
 have HB1 := Lib.hid hb1
 clear hb1 CA HE
 go_wp2_with fail
 refine (HC1.out _ _ HE1.out).mono ?_
 intro ev w2 hm
 obtain ⟨a1, k1, rfl, hi1, hn1, hb2⟩ := hm.nodes
 have HB2 := Lib.hid (HB1.out.trans (hb2.mono HB1.out.size))
 have HE2 := Lib.hid (HE1.out.below hb2 (Nat.le_refl _))
 have HI11 := Lib.hid hi1
 have HN1 := Lib.hid hn1
 clear hm hi1 hn1 hb2 HC1 HE1 HB1
 go_wp2_with fail
 refine (HC2.out _ _ HE2.out).mono ?_
 intro ev w3 hm
 obtain ⟨a2, k2, rfl, hi2, hn2, hb3⟩ := hm.nodes
 have HB3 := Lib.hid (HB2.out.trans (hb3.mono HB2.out.size))
 have HE3 := Lib.hid (HE2.out.below hb3 (Nat.le_refl _))
 have HI22 := Lib.hid hi2
 have HN2 := Lib.hid hn2
 have HI12 := Lib.hid (HI11.out.below hb3 (Nat.le_refl _))
 clear HI11
 clear hm hi2 hn2 hb3 HC2 HE2 HB2
 go_wp2_with fail
 refine (mapp2 (10 + (s4 : Int)) HI12.out HN1.out hl1 HI22.out HN2.out hl2 HB3.out).mono ?_
 rintro ev wf ⟨v, rfl, hown, hbf⟩
 have H := Lib.hid (And.intro hown hbf)
 clear hown hbf
 go_wp2_with fail
 go_ret
 exact ⟨_, rfl, H.out.1, H.out.2⟩
end Go.Proofs.YtmdpjahhhfajaaaGreatDoor
