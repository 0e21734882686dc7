/-
  The reference's Type of an expression over the laws' columns and zones
-/
import Derived.Test.YtmdpjahhhfajaaaDoorJA22
import Derived.Test.YtmdpjahhhfajaaaDoorJA28
import Derived.Test.YtmdpjahhhfajaaaDoorJA10
import Derived.Test.YtmdpjahhhfajaaaDoorJA09
import Derived.Deep.RegionLawGrows
set_option linter.unusedVariables false
set_option linter.unusedSimpArgs false
set_option maxRecDepth 100000
namespace Wh
open Go Go.Proofs.YtmdpjahhhfajaaaDoor
def gk (x : List KT) (i : Nat) : KT := x.getD i (0, false)
def nodT (t : Nd) (x : List KT) : KT × Bool :=
  if t.op = 0 then ((t.v.k, decide (t.v.k = 0)), true)
  else if t.op = 1 then ((cKd (idxC colsX t.nm).toNat, cNl (idxC colsX t.nm).toNat), true)
  else if t.op = 17 then (((comT (gk x 1) (gk x 2)).1, (gk x 1).2 || (gk x 2).2), (comT (gk x 1) (gk x 2)).2 && fitB (gk x 0) 1)
  else if arN t = 1 then unaT t.op (gk x 0)
  else binT t.op (gk x 0) (gk x 1)
def GdT (t : Nd) : Prop := t.op = 0 ∨ (t.op = 1 ∧ ∃ i, i < 4 ∧ t.nm = cNm i) ∨ (t.op = 2 ∨ t.op = 3 ∨ t.op = 16 ∨ t.op = 19) ∨ ((4 ≤ t.op ∧ t.op ≤ 15) ∨ t.op = 18) ∨ t.op = 17 ∨ (t.op = 20 ∧ ∃ i, i < 3 ∧ t.nm = zNm i)
def typS : List Nd → List KT → Option KT
  | [], st => some (gk st 0)
  | t :: l, st => if (nodT t (st.drop (st.length - (arN t).toNat))).2 then typS l (st.take (st.length - (arN t).toNat) ++ [(nodT t (st.drop (st.length - (arN t).toNat))).1]) else none
def typR (o : Option KT) : KT × Int := match o with
  | some T => (T, 0)
  | none => ((0, false), 7)
def ktsL (l : List KT) : List Value := l.flatMap fun t => [.int .i64 t.1, .bool t.2]
theorem ktsL_length (l : List KT) : (ktsL l).length = l.length * 2 := by
  induction l with
  | nil => rfl
  | cons t l ih => unfold ktsL at *; rw [List.flatMap_cons, List.length_append, ih]; simp; omega
theorem ktsL_at : ∀ (l : List KT) (i : Nat) (t : KT), l[i]? = some t → (ktsL l)[i * 2]? = some (.int .i64 t.1) ∧ (ktsL l)[i * 2 + 1]? = some (.bool t.2)
  | [], i, t, h => by simp at h
  | s :: l, 0, t, h => by
    simp at h
    subst h
    exact ⟨rfl, rfl⟩
  | s :: l, i + 1, t, h => by
    have := ktsL_at l i t (by simpa using h)
    rw [show (i + 1) * 2 = i * 2 + 2 by omega]
    exact this
theorem ktsL_push (l : List KT) (t : KT) : ktsL l ++ [.int .i64 t.1, .bool t.2] = ktsL (l ++ [t]) := by unfold ktsL; simp
theorem ktsL_take (l : List KT) (k : Nat) : (ktsL l).take (k * 2) = ktsL (l.take k) := by
  induction l generalizing k with
  | nil => simp [ktsL]
  | cons t l ih =>
    cases k with
    | zero => simp [ktsL]
    | succ k =>
      rw [show (k + 1) * 2 = k * 2 + 2 by omega]
      have := ih k
      unfold ktsL at *
      simp [this]
def shL (i : Nat) : List (Int × Int) := if i = 0 then [] else if i = 1 then [(145000, -240), (147000, -300)] else [(145450, 0)]
end Wh
namespace Go.Proofs.YtmdpjahhhfajaaaDoor
open Go.RowKit Wh
theorem ZonesX.sh {w : World} {zb s1 s2 i : Nat} (h : ZonesX w zb s1 s2) (hi : i < 3) : ∃ a len cap, zSh s1 s2 i = .slice a len cap ∧ IsShifts w a len (shL i) ∧ len ≤ 2 ∧ zoneE (zOf i) (shL i) = 0 := by
  have : i = 0 ∨ i = 1 ∨ i = 2 := by omega
  rcases this with rfl | rfl | rfl
  · exact ⟨none, 0, 0, rfl, ⟨rfl, .inl rfl⟩, by omega, by decide +kernel⟩
  · refine ⟨_, 2, 2, rfl, ⟨rfl, .inr ⟨s1, 0, rfl, h.l1, fun i s hs => ?_⟩⟩, by omega, by decide +kernel⟩
    have hi2 : i < 2 := (List.getElem?_eq_some_iff.1 hs).1
    have : i = 0 ∨ i = 1 := by omega
    rcases this with rfl | rfl
    · cases hs; exact ⟨h.c1 0 _ rfl, h.c1 1 _ rfl⟩
    · cases hs; exact ⟨h.c1 2 _ rfl, h.c1 3 _ rfl⟩
  · refine ⟨_, 1, 1, rfl, ⟨rfl, .inr ⟨s2, 0, rfl, h.l2, fun i s hs => ?_⟩⟩, by omega, by decide +kernel⟩
    have hi2 : i < 1 := (List.getElem?_eq_some_iff.1 hs).1
    obtain rfl : i = 0 := by omega
    cases hs; exact ⟨h.c2 0 _ rfl, h.c2 1 _ rfl⟩
def IsKTs (w : World) (a : Option Addr) (len : Nat) (l : List KT) : Prop :=
  l.length = len ∧ (l = [] ∨ ∃ b off, a = some ⟨b, off, none⟩ ∧ b < w.heap.size ∧ ∀ i t, l[i]? = some t → w.cell? ⟨b, off + i * 2, none⟩ = some (.int .i64 t.1) ∧ w.cell? ⟨b, off + i * 2 + 1, none⟩ = some (.bool t.2))
theorem IsKTs.below {w w' : World} {a : Option Addr} {len B : Nat} {l : List KT} (h : IsKTs w a len l) (hb : Below B w w') (hB : w.heap.size ≤ B) : IsKTs w' a len l := by
  obtain ⟨h1, h2⟩ := h
  refine ⟨h1, ?_⟩
  rcases h2 with h2 | ⟨b, off, ha, hlt, hc⟩
  · exact .inl h2
  · have e : ∀ o, w'.cell? ⟨b, o, none⟩ = w.cell? ⟨b, o, none⟩ := fun o => hb.cell (p := ⟨b, o, none⟩) (by show b < B; omega)
    refine .inr ⟨b, off, ha, by have := hb.size; omega, fun i s hs => ?_⟩
    rw [e, e]
    exact hc i s hs
theorem IsKTs.at {w : World} {b off len : Nat} {l : List KT} (h : IsKTs w (some ⟨b, off, none⟩) len l) {i : Nat} (hi : i < len) : w.cell? ⟨b, off + i * 2, none⟩ = some (.int .i64 (gk l i).1) ∧ w.cell? ⟨b, off + i * 2 + 1, none⟩ = some (.bool (gk l i).2) := by
  obtain ⟨h1, h2⟩ := h
  obtain ⟨t, ht⟩ : ∃ t, l[i]? = some t := ⟨_, List.getElem?_eq_getElem (by omega)⟩
  have hg : gk l i = t := by unfold gk; rw [List.getD_eq_getElem?_getD, ht]; rfl
  rw [hg]
  rcases h2 with rfl | ⟨b', off', ha, hlt, hc⟩
  · simp at ht
  · cases ha
    exact hc i t ht
theorem rnode_any (t : Nd) (a : Option Addr) (p cap cb zb s1 s2 : Nat) (x : List KT) (w : World) (hg : GdT t) (hp : arN t = (p : Int)) (hx : IsKTs w a p x) (hC : ColsX w cb) (hZ : ZonesX w zb s1 s2) :
    Calls Tryd.prog 72 #[ndV t, .slice a p cap, .slice (some ⟨cb, 0, none⟩) 4 4, .slice (some ⟨zb, 0, none⟩) 3 3] w fun e w' => e = .returned (.tuple #[ktV (if (nodT t x).2 then (nodT t x).1 else (0, false)), .int .i64 (if (nodT t x).2 then 0 else 7)]) ∧ Below w.heap.size w w' := by
  have spl : ∀ {D : KT × Bool} {e : Ending}, e = .returned (if D.2 then .tuple #[ktV D.1, .int .i64 0] else .tuple #[ktV (0, false), .int .i64 7]) → e = .returned (.tuple #[ktV (if D.2 then D.1 else (0, false)), .int .i64 (if D.2 then 0 else 7)]) := fun {D e} h => by
    rw [h]
    cases D.2 <;> rfl
  have n0 : ∀ {q : Nat}, arN t = (q : Int) → 0 < q → ∃ b off, a = some ⟨b, off, none⟩ ∧ b < w.heap.size := fun {q} h h1 => by
    have hq : p = q := by omega
    rcases hx.2 with h0 | ⟨b, off, ha, hlt, _⟩
    · have := hx.1
      rw [h0] at this
      simp at this
      omega
    · exact ⟨b, off, ha, hlt⟩
  rcases hg with h | ⟨h, i, hi, hnm⟩ | h | h | h | ⟨h, i, hi, hnm⟩
  · refine (rnd0_any t _ _ _ w h).mono ?_
    rintro e w' ⟨rfl, hb⟩
    refine ⟨?_, hb⟩
    unfold nodT
    rw [if_pos h]
    rfl
  · refine (rnd1_any t cb i _ _ w h hi hnm hC).mono ?_
    rintro e w' ⟨rfl, hb⟩
    have hn : nodT t x = ((cKd i, cNl i), true) := by
      unfold nodT
      rw [if_neg (by omega), if_pos h, hnm, colsX_idx hi]
      rfl
    rw [hn]
    exact ⟨rfl, hb⟩
  · have ha1 : arN t = ((1 : Nat) : Int) := by unfold arN; rw [if_neg (by omega), if_neg (by omega), if_pos (by omega)]; rfl
    obtain rfl : p = 1 := by omega
    obtain ⟨b, off, rfl, hb⟩ := n0 ha1 (by omega)
    have h0 := hx.at (i := 0) (by omega)
    have hn : nodT t x = unaT t.op (gk x 0) := by unfold nodT; rw [if_neg (by omega), if_neg (by omega), if_neg (by omega), if_pos (by omega)]
    rw [hn]
    refine (rndU t b off cap (gk x 0) _ _ w h hb (by simpa using h0.1) (by simpa using h0.2)).mono ?_
    rintro e w' ⟨he, hb⟩
    exact ⟨spl he, hb⟩
  · have ha1 : arN t = ((2 : Nat) : Int) := by unfold arN; rw [if_neg (by omega), if_neg (by omega), if_neg (by omega), if_neg (by omega), if_pos (by omega)]; rfl
    obtain rfl : p = 2 := by omega
    obtain ⟨b, off, rfl, hb⟩ := n0 ha1 (by omega)
    have h0 := hx.at (i := 0) (by omega)
    have h1 := hx.at (i := 1) (by omega)
    have hn : nodT t x = binT t.op (gk x 0) (gk x 1) := by unfold nodT; rw [if_neg (by omega), if_neg (by omega), if_neg (by omega), if_neg (by omega)]
    rw [hn]
    refine (rndB t b off cap (gk x 0) (gk x 1) _ _ w h hb (by simpa using h0.1) (by simpa using h0.2) (by simpa using h1.1) (by simpa using h1.2)).mono ?_
    rintro e w' ⟨he, hb⟩
    exact ⟨spl he, hb⟩
  · have ha1 : arN t = ((3 : Nat) : Int) := by unfold arN; rw [if_neg (by omega), if_neg (by omega), if_neg (by omega), if_pos (by omega)]; rfl
    obtain rfl : p = 3 := by omega
    obtain ⟨b, off, rfl, hb⟩ := n0 ha1 (by omega)
    have h0 := hx.at (i := 0) (by omega)
    have h1 := hx.at (i := 1) (by omega)
    have h2 := hx.at (i := 2) (by omega)
    have hn : nodT t x = (((comT (gk x 1) (gk x 2)).1, (gk x 1).2 || (gk x 2).2), (comT (gk x 1) (gk x 2)).2 && fitB (gk x 0) 1) := by unfold nodT; rw [if_neg (by omega), if_neg (by omega), if_pos (by omega)]
    rw [hn]
    refine (rndI t b off cap (gk x 0) (gk x 1) (gk x 2) _ _ w h hb (by simpa using h0.1) (by simpa using h0.2) (by simpa using h1.1) (by simpa using h1.2) (by simpa using h2.1) (by simpa using h2.2)).mono ?_
    rintro e w' ⟨he, hb⟩
    exact ⟨spl (D := (((comT (gk x 1) (gk x 2)).1, (gk x 1).2 || (gk x 2).2), (comT (gk x 1) (gk x 2)).2 && fitB (gk x 0) 1)) he, hb⟩
  · have ha1 : arN t = ((1 : Nat) : Int) := by unfold arN; rw [if_neg (by omega), if_neg (by omega), if_pos (by omega)]; rfl
    obtain rfl : p = 1 := by omega
    obtain ⟨b, off, rfl, hb⟩ := n0 ha1 (by omega)
    have h0 := hx.at (i := 0) (by omega)
    have hn : nodT t x = unaT t.op (gk x 0) := by unfold nodT; rw [if_neg (by omega), if_neg (by omega), if_neg (by omega), if_pos (by omega)]
    rw [hn]
    refine (rndD t b off cap zb s1 s2 i (gk x 0) _ w h hi hnm hZ hb (by simpa using h0.1) (by simpa using h0.2)).mono ?_
    rintro e w' ⟨he, hb⟩
    exact ⟨spl he, hb⟩
end Go.Proofs.YtmdpjahhhfajaaaDoor
