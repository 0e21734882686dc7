/-
  The laws' expressions: what makes them good. No program's functions. · The laws' Zones; Unknown.
-/
import Derived.Test.YtmdpjahhhfajaaaDoorJA29
import Derived.Test.YtmdpjahhhfajaaaDoorJA30
set_option linter.unusedVariables false
set_option linter.unusedSimpArgs false
set_option maxRecDepth 100000
namespace Wh
open Go Go.Proofs.YtmdpjahhhfajaaaDoor
def capE : Nat → Nat
  | 0 => 1
  | d + 1 => 3 * capE d + 1
structure GoodE (d : Nat) (es : List Nd) : Prop where
  len : es.length ≤ capE d
  val : ∃ h : Int, 0 ≤ h ∧ h ≤ d + 1 ∧ ∀ l st, valS (es ++ l) st = valS l (st ++ [h])
  nds : ∀ t ∈ es, GdT t
  nms : ∀ t ∈ es, t.nm.size ≤ 2
theorem maxL_le {B : Int} (hB : 0 ≤ B) (l : List Int) (h : ∀ z ∈ l, z ≤ B) : maxL l ≤ B := by
  unfold maxL
  have : ∀ (l : List Int) (a : Int), (∀ z ∈ l, z ≤ B) → a ≤ B → l.foldl max a ≤ B := by
    intro l
    induction l with
    | nil => intro a _ h; exact h
    | cons x l ih => intro a hx h; exact ih _ (fun z hz => hx z (List.mem_cons_of_mem _ hz)) (by have := hx x (by simp); omega)
  exact this l 0 h hB
theorem capE_mono {d d' : Nat} (h : d ≤ d') : capE d ≤ capE d' := by
  induction h with
  | refl => exact Nat.le_refl _
  | @step m _ ih => exact Nat.le_trans ih (show capE m ≤ 3 * capE m + 1 by omega)
theorem GoodE.mono {d d' : Nat} {es : List Nd} (h : GoodE d es) (hd : d ≤ d') : GoodE d' es := by
  obtain ⟨z, z0, z1, z2⟩ := h.val
  exact ⟨Nat.le_trans h.len (capE_mono hd), ⟨z, z0, by omega, z2⟩, h.nds, h.nms⟩
theorem vals_all {d : Nat} : ∀ (ess : List (List Nd)), (∀ e ∈ ess, GoodE d e) → ∃ hs : List Int, hs.length = ess.length ∧ (∀ z ∈ hs, 0 ≤ z ∧ z ≤ d + 1) ∧ ∀ l st, valS (ess.flatten ++ l) st = valS l (st ++ hs)
  | [], _ => ⟨[], rfl, by simp, fun l st => by simp⟩
  | e :: ess, h => by
    obtain ⟨hs, h1, h2, h3⟩ := vals_all ess (fun x hx => h x (List.mem_cons_of_mem _ hx))
    obtain ⟨z, z0, z1, z2⟩ := (h e (by simp)).val
    refine ⟨z :: hs, by simp [h1], ?_, fun l st => ?_⟩
    · intro y hy
      rcases List.mem_cons.1 hy with rfl | hy
      · exact ⟨z0, z1⟩
      · exact h2 y hy
    · rw [List.flatten_cons, List.append_assoc, z2, h3]
      simp
theorem valS_op {t : Nd} {l : List Nd} {st hs : List Int} (h : nodB t = true) (hp : arN t = (hs.length : Int)) (hd : ¬ 64 < maxL hs + 1) : valS (t :: l) (st ++ hs) = valS l (st ++ [maxL hs + 1]) := by
  rw [valS, hp, Int.toNat_natCast, if_neg (by rw [h]; simp; omega)]
  have e : (st ++ hs).length - hs.length = st.length := by simp
  rw [e, List.drop_left, List.take_left, if_neg hd]
theorem flat_cap {d : Nat} : ∀ (ess : List (List Nd)), (∀ e ∈ ess, GoodE d e) → ess.flatten.length ≤ ess.length * capE d
  | [], _ => by simp
  | e :: ess, h => by
    have h1 := flat_cap ess (fun x hx => h x (List.mem_cons_of_mem _ hx))
    have h2 := (h e (by simp)).len
    rw [List.flatten_cons, List.length_append, List.length_cons, Nat.succ_mul]
    omega
theorem GoodE.apply {d : Nat} (hd : d ≤ 60) (ess : List (List Nd)) (t : Nd) (hes : ∀ e ∈ ess, GoodE d e) (h3 : ess.length ≤ 3) (hf : nodB t = true) (ha : arN t = (ess.length : Int)) (hg : GdT t) (hn : t.nm.size ≤ 2) : GoodE (d + 1) (ess.flatten ++ [t]) := by
  obtain ⟨hs, q1, q2, q3⟩ := vals_all ess hes
  have hm : maxL hs ≤ (d : Int) + 1 := maxL_le (by omega) hs fun z hz => (q2 z hz).2
  have hm0 := maxL_nonneg hs
  refine ⟨?_, ⟨maxL hs + 1, by omega, by omega, fun l st => ?_⟩, ?_, ?_⟩
  · have h1 := flat_cap ess hes
    have h2 : ess.length * capE d ≤ 3 * capE d := Nat.mul_le_mul_right _ h3
    unfold capE
    rw [List.length_append, List.length_singleton]
    omega
  · rw [List.append_assoc, q3, List.singleton_append, valS_op hf (by rw [ha, q1]) (by omega)]
  · intro x hx
    rcases List.mem_append.1 hx with hx | hx
    · obtain ⟨e, he, hxe⟩ := List.mem_flatten.1 hx
      exact (hes e he).nds x hxe
    · rw [List.mem_singleton.1 hx]; exact hg
  · intro x hx
    rcases List.mem_append.1 hx with hx | hx
    · obtain ⟨e, he, hxe⟩ := List.mem_flatten.1 hx
      exact (hes e he).nms x hxe
    · rw [List.mem_singleton.1 hx]; exact hn
theorem GoodE.one {t : Nd} (hf : nodB t = true) (ha : arN t = 0) (hg : GdT t) (hn : t.nm.size ≤ 2) : GoodE 0 [t] := by
  refine ⟨Nat.le_refl _, ⟨1, by omega, by omega, fun l st => ?_⟩, ?_, ?_⟩
  · have h := valS_op (t := t) (l := l) (st := st) (hs := []) hf (by rw [ha]; rfl) (by decide)
    rw [List.append_nil] at h
    exact h
  · intro x hx; rw [List.mem_singleton.1 hx]; exact hg
  · intro x hx; rw [List.mem_singleton.1 hx]; exact hn
theorem GoodE.app1 {d : Nat} (hd : d ≤ 60) {op : Int} {e1 : List Nd} (h1 : GoodE d e1) (hop : op = 2 ∨ op = 3 ∨ op = 16 ∨ op = 19) : GoodE (d + 1) (e1 ++ [opNd op]) := by
  have := GoodE.apply hd [e1] (opNd op) (by simpa using h1) (by simp) (by rcases hop with rfl | rfl | rfl | rfl <;> decide +kernel) (by rcases hop with rfl | rfl | rfl | rfl <;> rfl) (.inr (.inr (.inl hop))) (show (0 : Nat) ≤ 2 by omega)
  simpa using this
theorem GoodE.day {d : Nat} (hd : d ≤ 60) {e1 : List Nd} (h1 : GoodE d e1) {i : Nat} (hi : i < 3) : GoodE (d + 1) (e1 ++ [⟨20, ⟨0, 0, ⟨#[]⟩⟩, zNm i, 0⟩]) := by
  have hi3 : i = 0 ∨ i = 1 ∨ i = 2 := by omega
  have := GoodE.apply hd [e1] (⟨20, ⟨0, 0, ⟨#[]⟩⟩, zNm i, 0⟩ : Nd) (by simpa using h1) (by simp) (by rcases hi3 with rfl | rfl | rfl <;> decide +kernel) rfl (.inr (.inr (.inr (.inr (.inr ⟨rfl, i, hi, rfl⟩))))) (by rcases hi3 with rfl | rfl | rfl <;> decide +kernel)
  simpa using this
theorem GoodE.app2 {d : Nat} (hd : d ≤ 60) {op : Int} {e1 e2 : List Nd} (h1 : GoodE d e1) (h2 : GoodE d e2) (hop : (4 ≤ op ∧ op ≤ 15) ∨ op = 18) : GoodE (d + 1) (e1 ++ (e2 ++ [opNd op])) := by
  have hc : op = 4 ∨ op = 5 ∨ op = 6 ∨ op = 7 ∨ op = 8 ∨ op = 9 ∨ op = 10 ∨ op = 11 ∨ op = 12 ∨ op = 13 ∨ op = 14 ∨ op = 15 ∨ op = 18 := by omega
  have := GoodE.apply hd [e1, e2] (opNd op) (by intro e he; simp at he; rcases he with rfl | rfl <;> assumption) (by simp) (by rcases hc with rfl | rfl | rfl | rfl | rfl | rfl | rfl | rfl | rfl | rfl | rfl | rfl | rfl <;> decide +kernel) (by rcases hc with rfl | rfl | rfl | rfl | rfl | rfl | rfl | rfl | rfl | rfl | rfl | rfl | rfl <;> rfl) (.inr (.inr (.inr (.inl hop)))) (show (0 : Nat) ≤ 2 by omega)
  simpa using this
theorem GoodE.app3 {d : Nat} (hd : d ≤ 60) {e1 e2 e3 : List Nd} (h1 : GoodE d e1) (h2 : GoodE d e2) (h3 : GoodE d e3) : GoodE (d + 1) (e1 ++ (e2 ++ (e3 ++ [opNd 17]))) := by
  have := GoodE.apply hd [e1, e2, e3] (opNd 17) (by intro e he; simp at he; rcases he with rfl | rfl | rfl <;> assumption) (by simp) (by decide +kernel) rfl (.inr (.inr (.inr (.inr (.inl rfl))))) (show (0 : Nat) ≤ 2 by omega)
  simpa using this
theorem GoodE.leaf {k : Int} (n : Nat) : GoodE 0 (leafN k n) := by
  unfold leafN
  split
  · split
    · exact GoodE.one (by decide +kernel) (by decide) (.inl rfl) (by decide)
    · refine GoodE.one ?_ rfl (.inl rfl) (show (0 : Nat) ≤ 2 by omega)
      have h := valueV_valid k ((n / 16 : Nat) : Int)
      unfold nodB
      rw [if_pos rfl]
      simp only [h, Bool.true_and]
      decide
  · have h4 := cIx_lt k
    generalize cIx k = i at *
    have hi : i = 0 ∨ i = 1 ∨ i = 2 ∨ i = 3 := by omega
    refine GoodE.one (by rcases hi with rfl | rfl | rfl | rfl <;> decide +kernel) rfl (.inr (.inl ⟨rfl, i, h4, rfl⟩)) (by rcases hi with rfl | rfl | rfl | rfl <;> decide +kernel)
theorem GoodE.valN {d : Nat} {es : List Nd} (h : GoodE d es) (hd : d ≤ 4) : valN es = 0 ∧ es.length ≤ 121 := by
  have hl : es.length ≤ 121 := Nat.le_trans h.len (Nat.le_trans (capE_mono hd) (by decide))
  obtain ⟨z, _, _, hz⟩ := h.val
  have := hz [] []
  rw [List.append_nil] at this
  refine ⟨?_, hl⟩
  unfold Wh.valN
  rw [if_neg (by omega), this]
  rfl
end Wh
namespace Wh
open Go Go.Proofs.YtmdpjahhhfajaaaDoor
def unkB (ts : List Nd) : Bool := decide ((typR (typS ts [])).2 = 0) && decide ((typR (typS ts [])).1.1 = 0)
end Wh
namespace Go.Proofs.YtmdpjahhhfajaaaDoor
open Go.RowKit Wh
theorem heap3 (w : World) (a b c : Obj) : (((w.alloc a).alloc b).alloc c).heap[w.heap.size]? = some a ∧ (((w.alloc a).alloc b).alloc c).heap[w.heap.size + 1]? = some b ∧ (((w.alloc a).alloc b).alloc c).heap[w.heap.size + 1 + 1]? = some c := by
  refine ⟨?_, ?_, ?_⟩
  · rw [Below.heap_alloc _ _ _ (by simp; omega), Below.heap_alloc _ _ _ (by simp)]
    exact heap_alloc_new _ _
  · have h := heap_alloc_new (w.alloc a) b
    rw [World.size_alloc] at h
    rw [Below.heap_alloc _ _ _ (by simp)]
    exact h
  · have h := heap_alloc_new ((w.alloc a).alloc b) c
    rw [World.size_alloc, World.size_alloc] at h
    exact h
theorem range_row {w : World} {B : Nat} {cs : List Value} {t : TypeId} {fr : Nat × Nat} (h : w.heap[B]? = some (.cells cs.toArray t fr)) : w.rangeAt B 0 cs := fun j v hv => by
  rw [Nat.zero_add]
  exact (cell_of_row _ _ j _ _ _ h).trans (by rw [← Array.getElem?_toList]; exact hv)
set_option maxHeartbeats 4000000 in
theorem mzones_any (w : World) : Calls Tryd.prog 50 #[] w fun e w' => ∃ zb s1 s2, e = .returned (.slice (some ⟨zb, 0, none⟩) 3 3) ∧ ZonesX w' zb s1 s2 ∧ Below w.heap.size w w' := by
  go_enter Tryd.func50, Tryd.ntmps50
  go_wp2_with fail
  go_ret
  obtain ⟨h1, h2, h3⟩ := heap3 w (.cells #[.int .i64 145000, .int .i64 (-240), .int .i64 147000, .int .i64 (-300)] 101) (.cells #[.int .i64 145450, .int .i64 0] 101) (.cells (zoneC w.heap.size (w.heap.size + 1)).toArray 94)
  refine ⟨w.heap.size + 1 + 1, w.heap.size, w.heap.size + 1, rfl, ⟨?_, ?_, ?_, ?_, ?_, ?_⟩, below_al3 w _ _ _⟩
  · simp
  · simp; omega
  · simp
  · exact range_row h3
  · exact range_row h1
  · exact range_row h2
set_option maxHeartbeats 4000000 in
theorem munk_any (a : Option Addr) (len cap cb : Nat) (ts : List Nd) (w : World) (hs : IsNodes w a len ts) (hl : len ≤ 9223372036854775807) (hz : ∀ t ∈ ts, t.nm.size ≤ 9223372036854775800) (hv : valN ts = 0) (hg : ∀ t ∈ ts, GdT t) (hC : ColsX w cb) :
    Calls Tryd.prog 36 #[.slice a len cap, .slice (some ⟨cb, 0, none⟩) 4 4] w fun e w' => e = .returned (.bool (unkB ts)) ∧ Below w.heap.size w w' := by
  have CZ := Lib.hid (mzones_any w)
  have CT := Lib.hid (fun zb s1 s2 W (hb : Below w.heap.size w W) hZ => rtype_any a len cap cb zb s1 s2 ts W (hs.below hb (Nat.le_refl _)) hl hz hv hg (hC.below hb (Nat.le_refl _)) hZ)
  unfold unkB
  generalize typR (typS ts []) = T at *
  obtain ⟨⟨tk, tn⟩, te⟩ := T
  simp only at CT ⊢
  clear hs hz hv hg hC
  go_enter Tryd.func36, Tryd.ntmps36
  go_wp2_with fail
  refine CZ.out.mono ?_
  rintro e w1 ⟨zb, s1, s2, rfl, hZ, hb1⟩
  have HZ := Lib.hid hZ
  have HB1 := Lib.hid hb1
  clear hZ hb1 CZ
  go_wp2_with fail
  refine (CT.out zb s1 s2 _ HB1.out HZ.out).mono ?_
  rintro e w2 ⟨rfl, hb2⟩
  have HB2 := Lib.hid (HB1.out.trans (hb2.mono HB1.out.size))
  clear hb2 CT HZ
  by_cases h0 : te = 0
  · subst h0
    by_cases h1 : tk = 0
    · subst h1
      go_wp2_with fail
      go_ret
      exact ⟨rfl, HB2.out⟩
    · have h1b : (tk == 0) = false := by simpa using h1
      go_wp2_with fail
      go_ret
      refine ⟨?_, HB2.out⟩
      simp [h1]
  · have h0b : (te == 0) = false := by simpa using h0
    go_wp2_with fail
    go_ret
    refine ⟨?_, HB2.out⟩
    simp [h0]
end Go.Proofs.YtmdpjahhhfajaaaDoor
