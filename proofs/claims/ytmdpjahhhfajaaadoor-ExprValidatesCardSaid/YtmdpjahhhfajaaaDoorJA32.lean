/-
  The laws' expressions: apply over operands; what a call of Expr is ask · The laws' plain; the reference's Strings.
-/
import Derived.Test.YtmdpjahhhfajaaaDoorJA31
import Derived.Test.YtmdpjahhhfajaaaDoorJA13
import Derived.Test.YtmdpjahhhfajaaaDoorJA11
set_option linter.unusedVariables false
set_option linter.unusedSimpArgs false
set_option maxRecDepth 100000
namespace Wh
def bnd : Nat → Int
  | 0 => 1000000000000
  | d + 1 => (bnd d - 5) / 6
theorem bnd_le (d : Nat) : -1 ≤ bnd d ∧ bnd d ≤ 1000000000000 := by
  induction d with
  | zero => unfold bnd; omega
  | succ d ih => unfold bnd; omega
theorem bnd_step {d : Nat} {p : Int} (h : p ≤ bnd (d + 1)) : 6 * p + 5 ≤ bnd d := by unfold bnd at h; omega
theorem GoodE.le {d : Nat} {es : List Nd} (h : GoodE d es) (hd : d ≤ 4) : es.length ≤ 121 := Nat.le_trans h.len (Nat.le_trans (capE_mono hd) (by decide))
end Wh
namespace Go.Proofs.YtmdpjahhhfajaaaDoor
open Go.RowKit Wh
structure ExW (W : World) (la : Option Addr) (ll : Nat) (zs : List Int) (cb : Nat) : Prop where
  ints : IsInts W la ll zs
  cols : ColsX W cb
theorem ExW.below {w w' : World} {la : Option Addr} {ll cb B : Nat} {zs : List Int} (h : ExW w la ll zs cb) (hb : Below B w w') (hB : w.heap.size ≤ B) : ExW w' la ll zs cb := ⟨h.ints.below hb hB, h.cols.below hb hB⟩
def MEx (la : Option Addr) (ll lc : Nat) (zs : List Int) (d : Nat) (e : Int) : Prop :=
  ∀ (k p : Int), 1 ≤ k → k ≤ 4 → 0 ≤ p → p ≤ bnd d → ∃ es, GoodE d es ∧ ∀ cb W, ExW W la ll zs cb → Calls Tryd.prog 21 #[.int .i64 k, .slice (some ⟨cb, 0, none⟩) 4 4, .slice la ll lc, .int .i64 p, .int .i64 e] W (MdP W es)
theorem MdP.nodes {w w' : World} {es : List Nd} {e : Ending} (h : MdP w es e w') : ∃ a c, e = .returned (.slice a es.length c) ∧ IsNodes w' a es.length es ∧ (a = none → c = 0) ∧ Below w.heap.size w w' := by
  obtain ⟨v, rfl, hown, hb⟩ := h
  obtain ⟨a, c, rfl, hi, _, _, hn, _⟩ := own_nodes hown rfl
  exact ⟨a, c, rfl, hi, hn, hb⟩
theorem MdP.up {w w1 w2 : World} {es : List Nd} {e : Ending} (h : MdP w1 es e w2) (hb : Below w.heap.size w w1) : MdP w es e w2 := by
  obtain ⟨v, rfl, hown, hb2⟩ := h
  exact ⟨v, rfl, own_mono hown hb.size, hb.trans (hb2.mono hb.size)⟩
theorem new_cells {w : World} {cs : List Value} {t : TypeId} (j : Nat) (v : Value) (h : cs[j]? = some v) : (w.alloc (.cells cs.toArray t)).cell? ⟨w.heap.size, j, none⟩ = some v := by
  have := range_row (heap_alloc_new w (.cells cs.toArray t)) j v h
  rwa [Nat.zero_add] at this
theorem mapp1 (op : Int) {e1 : List Nd} {a1 : Option Addr} {c1 : Nat} {w w0 : World} (h1 : IsNodes w a1 e1.length e1) (n1 : a1 = none → c1 = 0) (l1 : e1.length ≤ 121) (hb : Below w0.heap.size w0 w) :
    Calls Tryd.prog 33 #[.int .i64 op, .slice (some ⟨w.heap.size, 0, none⟩) 1 1] (w.alloc (.cells #[.slice a1 e1.length c1] 22)) (MdP w0 (e1 ++ [opNd op])) := by
  have hB : Below w.heap.size w (w.alloc (.cells #[.slice a1 e1.length c1] 22)) := (Below.refl _ _).alloc (Nat.le_refl _) _
  have h := mapply_any op w.heap.size 1 [e1] [.slice a1 e1.length c1] (w.alloc (.cells #[.slice a1 e1.length c1] 22)) rfl rfl (by omega) (by simp) (fun j v hv => new_cells j v hv) (fun j e he => by
    have hj : j < 1 := (List.getElem?_eq_some_iff.1 he).1
    have : j = 0 := by omega
    subst this
    · cases he
      exact ⟨a1, c1, rfl, h1.below hB (Nat.le_refl _), n1⟩) (by simp; omega)
  refine h.mono ?_
  intro e w' hm
  have := hm.up (hb.trans (hB.mono hb.size))
  simpa using this
theorem mapp2 (op : Int) {e1 : List Nd} {a1 : Option Addr} {c1 : Nat} {e2 : List Nd} {a2 : Option Addr} {c2 : Nat} {w w0 : World} (h1 : IsNodes w a1 e1.length e1) (n1 : a1 = none → c1 = 0) (l1 : e1.length ≤ 121) (h2 : IsNodes w a2 e2.length e2) (n2 : a2 = none → c2 = 0) (l2 : e2.length ≤ 121) (hb : Below w0.heap.size w0 w) :
    Calls Tryd.prog 33 #[.int .i64 op, .slice (some ⟨w.heap.size, 0, none⟩) 2 2] (w.alloc (.cells #[.slice a1 e1.length c1, .slice a2 e2.length c2] 22)) (MdP w0 (e1 ++ (e2 ++ [opNd op]))) := by
  have hB : Below w.heap.size w (w.alloc (.cells #[.slice a1 e1.length c1, .slice a2 e2.length c2] 22)) := (Below.refl _ _).alloc (Nat.le_refl _) _
  have h := mapply_any op w.heap.size 2 [e1, e2] [.slice a1 e1.length c1, .slice a2 e2.length c2] (w.alloc (.cells #[.slice a1 e1.length c1, .slice a2 e2.length c2] 22)) rfl rfl (by omega) (by simp) (fun j v hv => new_cells j v hv) (fun j e he => by
    have hj : j < 2 := (List.getElem?_eq_some_iff.1 he).1
    have : j = 0 ∨ j = 1 := by omega
    rcases this with rfl | rfl
    · cases he
      exact ⟨a1, c1, rfl, h1.below hB (Nat.le_refl _), n1⟩
    · cases he
      exact ⟨a2, c2, rfl, h2.below hB (Nat.le_refl _), n2⟩) (by simp; omega)
  refine h.mono ?_
  intro e w' hm
  have := hm.up (hb.trans (hB.mono hb.size))
  simpa using this
theorem mapp3 (op : Int) {e1 : List Nd} {a1 : Option Addr} {c1 : Nat} {e2 : List Nd} {a2 : Option Addr} {c2 : Nat} {e3 : List Nd} {a3 : Option Addr} {c3 : Nat} {w w0 : World} (h1 : IsNodes w a1 e1.length e1) (n1 : a1 = none → c1 = 0) (l1 : e1.length ≤ 121) (h2 : IsNodes w a2 e2.length e2) (n2 : a2 = none → c2 = 0) (l2 : e2.length ≤ 121) (h3 : IsNodes w a3 e3.length e3) (n3 : a3 = none → c3 = 0) (l3 : e3.length ≤ 121) (hb : Below w0.heap.size w0 w) :
    Calls Tryd.prog 33 #[.int .i64 op, .slice (some ⟨w.heap.size, 0, none⟩) 3 3] (w.alloc (.cells #[.slice a1 e1.length c1, .slice a2 e2.length c2, .slice a3 e3.length c3] 22)) (MdP w0 (e1 ++ (e2 ++ (e3 ++ [opNd op])))) := by
  have hB : Below w.heap.size w (w.alloc (.cells #[.slice a1 e1.length c1, .slice a2 e2.length c2, .slice a3 e3.length c3] 22)) := (Below.refl _ _).alloc (Nat.le_refl _) _
  have h := mapply_any op w.heap.size 3 [e1, e2, e3] [.slice a1 e1.length c1, .slice a2 e2.length c2, .slice a3 e3.length c3] (w.alloc (.cells #[.slice a1 e1.length c1, .slice a2 e2.length c2, .slice a3 e3.length c3] 22)) rfl rfl (by omega) (by simp) (fun j v hv => new_cells j v hv) (fun j e he => by
    have hj : j < 3 := (List.getElem?_eq_some_iff.1 he).1
    have : j = 0 ∨ j = 1 ∨ j = 2 := by omega
    rcases this with rfl | rfl | rfl
    · cases he
      exact ⟨a1, c1, rfl, h1.below hB (Nat.le_refl _), n1⟩
    · cases he
      exact ⟨a2, c2, rfl, h2.below hB (Nat.le_refl _), n2⟩
    · cases he
      exact ⟨a3, c3, rfl, h3.below hB (Nat.le_refl _), n3⟩) (by simp; omega)
  refine h.mono ?_
  intro e w' hm
  have := hm.up (hb.trans (hB.mono hb.size))
  simpa using this
end Go.Proofs.YtmdpjahhhfajaaaDoor
namespace Wh
open Go Go.Proofs.YtmdpjahhhfajaaaDoor
def pln3 : List Nd := [⟨1, ⟨0, 0, ⟨#[]⟩⟩, ⟨#[98]⟩, 0⟩, ⟨1, ⟨0, 0, ⟨#[]⟩⟩, ⟨#[97]⟩, 0⟩, ⟨12, ⟨0, 0, ⟨#[]⟩⟩, ⟨#[]⟩, 0⟩]
theorem pln3_val : valN pln3 = 0 := by decide +kernel
theorem pln2_val : valN (pln3.take 2) = 8 := by decide +kernel
theorem pln3_cols : colsS pln3 = [[97], [98]] := by
  have h1 : colsN pln3 = [[98], [97]] := rfl
  have h2 : ([[98], [97]] : List (List UInt8)).mergeSort (fun x y => decide (x ≤ y)) = [[97], [98]] := by
    simp [List.mergeSort, List.MergeSort.Internal.splitInTwo, List.merge]
    decide
  unfold colsS
  rw [h1, h2]
  decide +kernel
end Wh
namespace Go.Proofs.YtmdpjahhhfajaaaDoor
open Go.RowKit Wh
set_option maxHeartbeats 2000000 in
theorem strings_yes (a b : Option Addr) (n c1 c2 : Nat) (ss : List ByteArray) (w : World) (h1 : IsStrs w a n ss) (h2 : IsStrs w b n ss) (hn : n ≤ 1000000) : Calls Tryd.prog 14 #[.slice a n c1, .slice b n c2] w fun e w' => e = .returned (.bool true) ∧ Below w.heap.size w w' := by
  have H1 := Lib.hid h1
  have H2 := Lib.hid h2
  clear h1 h2
  go_enter Tryd.func14, Tryd.ntmps14
  go_wp2_with fail
  go_loopw [5] (fun iv wr => ∃ k : Nat, k ≤ n ∧ iv = .int .i64 k ∧ Hid (Below w.heap.size w wr)) (fun iv _ => n - (intOf iv).toNat)
  case atStart => exact ⟨0, Nat.zero_le _, rfl, Below.refl _ _⟩
  case round =>
    obtain ⟨k, hk, rfl, HB⟩ := hrel
    by_cases hlt : k < n
    · have hki : (k : Int) < (n : Int) := by omega
      obtain ⟨s, b1, o1, hs1, rfl, hb1, hc1⟩ := (H1.out.below HB.out (Nat.le_refl _)).at hlt
      obtain ⟨s', b2, o2, hs2, rfl, hb2, hc2⟩ := (H2.out.below HB.out (Nat.le_refl _)).at hlt
      rw [hs1] at hs2
      cases hs2
      have hd1 : wr.drew.cell? ⟨b1, o1 + k, none⟩ = some (.string s) := hc1
      have hd2 : wr.drew.cell? ⟨b2, o2 + k, none⟩ = some (.string s) := hc2
      go_wp2_with fail
      go_quiet (fail)
      go_wp2_with fail
      go_roundw
      case rel => exact ⟨k + 1, by omega, by go_num, below_drewN HB.out _⟩
      case measure => simp [intOf]; omega
    · have hki : ¬ (k : Int) < (n : Int) := by omega
      go_wp2_with fail
      go_ret
      exact ⟨rfl, HB.out⟩
set_option maxHeartbeats 4000000 in
theorem plain_any (w : World) (hT : TabB w) : Calls Tryd.prog 6 #[] w fun e w' => e = .returned (.bool true) ∧ Below w.heap.size w w' := by
  have hB1 : Below w.heap.size w (w.alloc (.cells (nodesL pln3).toArray 26)) := (Below.refl _ _).alloc (Nat.le_refl _) _
  have hI : IsNodes (w.alloc (.cells (nodesL pln3).toArray 26)) (some ⟨w.heap.size, 0, none⟩) 3 pln3 := by
    refine ⟨rfl, .inr ⟨w.heap.size, 0, rfl, by simp, fun i t ht => ?_⟩⟩
    obtain ⟨f0, f1, f2, f3, f4, f5⟩ := nodesL_at pln3 i t ht
    unfold NodeAt
    rw [Nat.zero_add]
    exact ⟨new_cells _ _ f0, new_cells _ _ f1, new_cells _ _ f2, new_cells _ _ f3, new_cells _ _ f4, new_cells _ _ f5⟩
  have hz : ∀ t ∈ pln3, t.nm.size ≤ 9223372036854775800 := by
    intro t ht
    simp only [pln3, List.mem_cons, List.not_mem_nil, or_false] at ht
    rcases ht with rfl | rfl | rfl <;> (show _ ≤ _; decide)
  have C1 := Lib.hid (fun W (hb : Below w.heap.size w W) (hi : IsNodes W (some ⟨w.heap.size, 0, none⟩) 3 pln3) => pvalidN_any (some ⟨w.heap.size, 0, none⟩) 3 3 pln3 W (hT.below hb (Nat.le_refl _)) hi (by decide) hz)
  have C2 := Lib.hid (fun W (hb : Below w.heap.size w W) (hi : IsNodes W (some ⟨w.heap.size, 0, none⟩) 2 (pln3.take 2)) => pvalidN_any (some ⟨w.heap.size, 0, none⟩) 2 3 (pln3.take 2) W (hT.below hb (Nat.le_refl _)) hi (by decide) (fun t ht => hz t (List.mem_of_mem_take ht)))
  have C3 := Lib.hid (fun W (hi : IsNodes W (some ⟨w.heap.size, 0, none⟩) 3 pln3) => pcolumns_any (some ⟨w.heap.size, 0, none⟩) 3 3 pln3 W hi (by decide))
  rw [pln3_val] at C1
  rw [pln2_val] at C2
  rw [pln3_cols] at C3
  have HB1 := Lib.hid hB1
  have HI := Lib.hid hI
  clear hB1 hI hz hT
  go_enter Tryd.func6, Tryd.ntmps6
  go_wp2_with fail
  refine (C1.out _ HB1.out HI.out).mono ?_
  rintro e w1 ⟨rfl, hb1⟩
  have HB2 := Lib.hid (HB1.out.trans (hb1.mono HB1.out.size))
  have HI2 := Lib.hid (HI.out.below hb1 (Nat.le_refl _))
  clear hb1 C1
  go_wp2_with fail
  refine (C2.out _ HB2.out (HI2.out.take (k := 2) (by decide))).mono ?_
  rintro e w2 ⟨rfl, hb2⟩
  have HB3 := Lib.hid (HB2.out.trans (hb2.mono HB2.out.size))
  have HI3 := Lib.hid (HI2.out.below hb2 (Nat.le_refl _))
  clear hb2 C2
  go_wp2_with fail
  refine (C3.out _ HI3.out).mono ?_
  rintro e w3 ⟨A, C, rfl, hs, hb3⟩
  have hB4 := HB3.out.trans (hb3.mono HB3.out.size)
  have hB5 := hB4.alloc hB4.size (.cells #[.string ⟨#[97]⟩, .string ⟨#[98]⟩] 9)
  have CS := Lib.hid (strings_yes A (some ⟨w3.heap.size, 0, none⟩) 2 C 2 _ (w3.alloc (.cells #[.string ⟨#[97]⟩, .string ⟨#[98]⟩] 9)) (hs.below ((Below.refl _ _).alloc (Nat.le_refl _) _) (Nat.le_refl _)) ⟨rfl, .inr ⟨w3.heap.size, 0, rfl, by simp, fun i s h => by
    have hi2 : i = 0 ∨ i = 1 := by
      have := (List.getElem?_eq_some_iff.1 h).1
      simp at this
      omega
    rw [Nat.zero_add]
    rcases hi2 with rfl | rfl
    · cases h; exact new_cells (cs := [.string ⟨#[97]⟩, .string ⟨#[98]⟩]) 0 _ rfl
    · cases h; exact new_cells (cs := [.string ⟨#[97]⟩, .string ⟨#[98]⟩]) 1 _ rfl⟩⟩ (by decide))
  have HB5 := Lib.hid hB5
  clear hs hb3 hB4 hB5 C3
  go_wp2_with fail
  refine CS.out.mono ?_
  rintro e w4 ⟨rfl, hb4⟩
  have HB6 := Lib.hid (HB5.out.trans (hb4.mono HB5.out.size))
  clear hb4
  go_wp2_with fail
  go_ret
  exact ⟨rfl, HB6.out⟩
end Go.Proofs.YtmdpjahhhfajaaaDoor
