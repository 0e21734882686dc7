/-
  For every layer that holds bags: rows of entries that the call makes: stores of whole entries, shorter slices of them, make, slices.Clone (of entries and of values).
-/
import Derived.Test.YtdhhhmehkldliaaBExc
import Derived.Maps.AppendAt
import Derived.Lib.SliceRun
set_option linter.unusedVariables false
set_option maxRecDepth 100000
namespace Go.Proofs.Ytdhhhmehkldliaa
open Go.RowKit Wh

theorem flat2_set (l : List T2) (k : Nat) (hk : k < l.length) (x y : Value) : ((flat2 l).set (k * 2) x).set (k * 2 + 1) y = flat2 (l.set k (x, y)) := by
  unfold flat2
  induction l generalizing k with
  | nil => simp at hk
  | cons u l ih =>
    cases k with
    | zero => simp
    | succ k =>
      have := ih k (by simpa using hk)
      rw [show (k + 1) * 2 = k * 2 + 1 + 1 from by omega]
      simpa [List.flatMap_cons] using this
theorem flat2_take (l : List T2) (k : Nat) : (flat2 l).take (k * 2) = flat2 (l.take k) := by
  unfold flat2
  induction l generalizing k with
  | nil => simp
  | cons u l ih =>
    cases k with
    | zero => simp
    | succ k =>
      have := ih k
      rw [show (k + 1) * 2 = k * 2 + 1 + 1 from by omega]
      simpa [List.flatMap_cons] using this
theorem flat2_made (a b : Value) (n : Nat) : (madeCells #[a, b] (n * 2)).toList = flat2 (List.replicate n (a, b)) := by
  apply List.ext_getElem?
  intro j
  by_cases hj : j < n * 2
  · have hi : (List.replicate n ((a, b) : T2))[j / 2]? = some (a, b) := by rw [List.getElem?_replicate, if_pos (by omega)]
    obtain ⟨h0, h1⟩ := flat2_at _ _ _ hi
    have hl : (madeCells #[a, b] (n * 2)).toList[j]? = some (#[a, b][j % 2]!) := by
      simp [madeCells, hj]
    rw [hl]
    have h3 : j % 2 = 0 ∨ j % 2 = 1 := by omega
    rcases h3 with h3 | h3
    · rw [h3, show j = j / 2 * 2 from by omega, h0]
      rfl
    · rw [h3, show j = j / 2 * 2 + 1 from by omega, h1]
      rfl
  · rw [List.getElem?_eq_none (by simp [madeCells]; omega), List.getElem?_eq_none (by rw [flat2_length, List.length_replicate]; omega)]

theorem own_size {w : World} {base g n cap : Nat} {es : List En} (h : OwnEnts w base (.slice (some ⟨g, 0, none⟩) n cap) es) : n = es.length ∧ n ≤ cap ∧ cap ≤ maxLen ∧ base ≤ g ∧ g < w.heap.size := by
  obtain ⟨l, h1, h2, h3⟩ := h
  rcases h2.2 with ⟨h', _⟩ | ⟨g', cap', cur, h', hb, hh, q1, q2, _⟩
  · cases h'
  · cases h'
    exact ⟨rfl, q1, q2, hb, (Array.getElem?_eq_some_iff.1 hh).1⟩

/-- The cells of entry k, and that they may be written. -/
theorem own_entry {w : World} {base g n cap k : Nat} {es : List En} {e : En} (h : OwnEnts w base (.slice (some ⟨g, 0, none⟩) n cap) es) (he : es[k]? = some e) :
    ∃ ra rl rc, w.cell? ⟨g, k * 2, none⟩ = some (.slice ra rl rc) ∧ w.cell? ⟨g, k * 2 + 1, none⟩ = some (.int .i64 e.cnt) ∧ w.frozen? ⟨g, k * 2, none⟩ = false ∧ w.frozen? ⟨g, k * 2 + 1, none⟩ = false ∧ IsVals w ra rl e.row ∧ rl ≤ rc ∧ rc ≤ maxLen ∧ (ra = none → rc = 0) ∧ FarOf (some g) (.slice ra rl rc) e.row := by
  obtain ⟨rfl, _⟩ := own_size h
  obtain ⟨l, h1, h2, h3⟩ := h
  obtain ⟨rv, a1, ⟨ra, rl, rc, rfl, v1, v2, v3, v4⟩, a3⟩ := h3 k e he
  have hk := (List.getElem?_eq_some_iff.1 he).1
  obtain ⟨f0, f1⟩ := flat2_at l k _ a1
  exact ⟨ra, rl, rc, by rw [h2.cellAt (k * 2) (by omega)]; exact f0, by rw [h2.cellAt (k * 2 + 1) (by omega)]; exact f1, h2.frozenAt _, h2.frozenAt _, v1, v2, v3, v4, a3⟩

theorem OwnEnts.setEnt {w : World} {base g n cap k : Nat} {es : List En} (h : OwnEnts w base (.slice (some ⟨g, 0, none⟩) n cap) es) (hk : k < es.length) {rv : Value} {r : List V} (m : Int) (hr : IsRow w rv r) (hf : FarOf (some g) rv r) :
    OwnEnts ((w.setCell ⟨g, k * 2, none⟩ rv).setCell ⟨g, k * 2 + 1, none⟩ (.int .i64 m)) base (.slice (some ⟨g, 0, none⟩) n cap) (es.set k ⟨r, m⟩) := by
  obtain ⟨rfl, _⟩ := own_size h
  obtain ⟨l, h1, h2, h3⟩ := h
  obtain ⟨s1, s2⟩ := h2.stored (k * 2) rv
  obtain ⟨s3, s4⟩ := s1.stored (k * 2 + 1) (.int .i64 m)
  rw [flat2_set l k (by omega)] at s3
  have keep : ∀ u q, IsRow w u q → FarOf (some g) u q → IsRow ((w.setCell ⟨g, k * 2, none⟩ rv).setCell ⟨g, k * 2 + 1, none⟩ (.int .i64 m)) u q := fun u q hu hfu => (hu.grown s2 hfu).grown s4 hfu
  refine ⟨l.set k (rv, .int .i64 m), by simp [h1], by rw [List.length_set]; exact s3, fun i x hx => ?_⟩
  by_cases hik : i = k
  · subst hik
    rw [List.getElem?_set_self hk] at hx
    cases hx
    exact ⟨rv, List.getElem?_set_self (by omega), keep _ _ hr hf, hf⟩
  · rw [List.getElem?_set_ne (Ne.symm hik)] at hx
    obtain ⟨u, b1, b2, b3⟩ := h3 i x hx
    exact ⟨u, by rw [List.getElem?_set_ne (Ne.symm hik)]; exact b1, keep _ _ b2 b3, b3⟩

theorem OwnEnts.cut {w : World} {base g n cap : Nat} {es : List En} (h : OwnEnts w base (.slice (some ⟨g, 0, none⟩) n cap) es) {k : Nat} (hk : k ≤ n) :
    OwnEnts w base (.slice (some ⟨g, 0, none⟩) k cap) (es.take k) := by
  obtain ⟨rfl, _⟩ := own_size h
  obtain ⟨l, h1, h2, h3⟩ := h
  have hl : (es.take k).length = k := by rw [List.length_take]; omega
  refine ⟨l.take k, by rw [List.length_take, List.length_take, h1], ?_, fun i e he => ?_⟩
  · rw [hl]
    rcases h2.2 with ⟨h', _⟩ | ⟨g', cap', cur, h', hb, hh, q1, q2, q3, q4⟩
    · cases h'
    · cases h'
      refine ⟨by rw [flat2_length, List.length_take]; congr 1; omega, .inr ⟨g, cap, cur, rfl, hb, hh, by omega, q2, q3, ?_⟩⟩
      rw [← flat2_take, ← q4, List.take_take]
      congr 1
      omega
  · have hi := (List.getElem?_eq_some_iff.1 he).1
    rw [List.length_take] at hi
    rw [List.getElem?_take_of_lt (by omega)] at he
    obtain ⟨rv, a1, a2, a3⟩ := h3 i e he
    exact ⟨rv, by rw [List.getElem?_take_of_lt (by omega)]; exact a1, a2, a3⟩

/-- An entry that has not been laid. -/
def e0 : En := ⟨[], 0⟩
theorem OwnEnts.made {w : World} {base : Nat} {v : Value} {n : Nat} (h : w.ownsRow base 30 2 v n (madeCells #[.slice none 0 0, .int .i64 0] (n * 2)).toList) : OwnEnts w base v (List.replicate n e0) := by
  rw [flat2_made] at h
  refine ⟨List.replicate n (.slice none 0 0, .int .i64 0), by simp, by rw [List.length_replicate]; exact h, fun i e he => ?_⟩
  have hi := (List.getElem?_eq_some_iff.1 he).1
  rw [List.length_replicate] at hi
  rw [List.getElem?_replicate, if_pos hi] at he
  cases he
  exact ⟨.slice none 0 0, by rw [List.getElem?_replicate, if_pos hi]; rfl, ⟨none, 0, 0, rfl, ⟨rfl, .inl rfl⟩, Nat.le_refl _, Nat.zero_le _, fun _ => rfl⟩, fun hne => absurd rfl hne⟩

/-- A list of which the first k entries are laid. -/
def halfE (es : List En) (k : Nat) : List En := es.take k ++ List.replicate (es.length - k) e0
theorem halfE_zero (es : List En) : halfE es 0 = List.replicate es.length e0 := by simp [halfE]
theorem halfE_end (es : List En) : halfE es es.length = es := by simp [halfE]
theorem halfE_length {es : List En} {k : Nat} (h : k ≤ es.length) : (halfE es k).length = es.length := by
  unfold halfE
  rw [List.length_append, List.length_take, List.length_replicate]
  omega
theorem halfE_set {es : List En} {x : En} {k : Nat} (h : es[k]? = some x) : (halfE es k).set k x = halfE es (k + 1) := by
  have hk := (List.getElem?_eq_some_iff.1 h).1
  unfold halfE
  rw [List.take_add_one, h]
  have hl : (es.take k).length = k := by rw [List.length_take]; omega
  rw [List.set_append_right k x (by omega), hl, Nat.sub_self, show es.length - k = (es.length - (k + 1)) + 1 by omega, List.replicate_succ, List.set_cons_zero]
  simp
theorem halfE_at {es : List En} {k : Nat} (h : k < es.length) : (halfE es k)[k]? = some e0 := by
  unfold halfE
  have hl : (es.take k).length = k := by rw [List.length_take]; omega
  rw [List.getElem?_append_right (by omega), hl, Nat.sub_self, List.getElem?_replicate, if_pos (by omega)]

/-- The cells of entries that came in. -/
theorem ents_news {w : World} {b off len : Nat} {es : List En} (h : IsEnts w (some ⟨b, off, none⟩) len es) :
    ∃ l : List T2, l.length = len ∧ (∀ j u, (flat2 l)[j]? = some u → w.cell? ((⟨b, off, none⟩ : Addr).add j) = some u) ∧ (∀ u ∈ flat2 l, u.oneCell' = true) ∧ ∀ (i : Nat) (e : En), es[i]? = some e → ∃ rv : Value, l[i]? = some (rv, Value.int .i64 e.cnt) ∧ IsRow w rv e.row := by
  obtain ⟨hl, h2⟩ := h
  have hadd : ∀ j, (⟨b, off, none⟩ : Addr).add j = ⟨b, off + j, none⟩ := fun j => by unfold Addr.add; split <;> simp_all
  rcases h2 with rfl | ⟨b', off', ha, hlt, hat⟩
  · exact ⟨[], by simpa using hl, by simp [flat2], by simp [flat2], by simp⟩
  · cases ha
    have hall : ∀ i, i < len → ∃ t : T2, ∃ e : En, es[i]? = some e ∧ t.2 = .int .i64 e.cnt ∧ IsRow w t.1 e.row ∧ w.cell? ⟨b, off + i * 2, none⟩ = some t.1 ∧ w.cell? ⟨b, off + i * 2 + 1, none⟩ = some t.2 := fun i hi => by
      have he : es[i]? = some es[i] := List.getElem?_eq_getElem (by omega)
      obtain ⟨v, c0, c1, hr⟩ := hat i _ he
      exact ⟨(v, .int .i64 es[i].cnt), es[i], he, rfl, hr, c0, c1⟩
    obtain ⟨l, hll, hlat⟩ := choose_list _ len hall
    refine ⟨l, hll, fun j u hu => ?_, fun u hu => ?_, fun i e he => ?_⟩
    · have hj := (List.getElem?_eq_some_iff.1 hu).1
      rw [flat2_length] at hj
      obtain ⟨t, ht⟩ : ∃ t, l[j / 2]? = some t := ⟨_, List.getElem?_eq_getElem (by omega)⟩
      obtain ⟨e, _, _, _, c0, c1⟩ := hlat (j / 2) t ht
      obtain ⟨f0, f1⟩ := flat2_at l _ _ ht
      rw [hadd]
      have h3 : j % 2 = 0 ∨ j % 2 = 1 := by omega
      rcases h3 with h3 | h3
      · rw [show j = j / 2 * 2 by omega] at hu ⊢
        rw [f0] at hu
        cases hu
        exact c0
      · rw [show j = j / 2 * 2 + 1 by omega] at hu ⊢
        rw [f1] at hu
        cases hu
        exact c1
    · unfold flat2 at hu
      rw [List.mem_flatMap] at hu
      obtain ⟨t, ht, hu⟩ := hu
      obtain ⟨i, hi⟩ := List.mem_iff_getElem?.1 ht
      obtain ⟨e, _, q1, ⟨ra, rl, rc, q2, _⟩, _⟩ := hlat i t hi
      simp only [List.mem_cons, List.not_mem_nil, or_false] at hu
      rcases hu with rfl | rfl
      · rw [q2]; rfl
      · rw [q1]; rfl
    · have hi := (List.getElem?_eq_some_iff.1 he).1
      obtain ⟨t, ht⟩ : ∃ t, l[i]? = some t := ⟨_, List.getElem?_eq_getElem (by omega)⟩
      obtain ⟨e', he', q1, q2, _⟩ := hlat i t ht
      rw [he] at he'
      cases he'
      exact ⟨t.1, by rw [ht, ← q1], q2⟩

set_option maxHeartbeats 1000000 in
theorem clonev_any (ra : Option Addr) (rl rc : Nat) (r : List V) (w : World) (hv : IsVals w ra rl r) (hn : ra = none → rc = 0) (hle : rl ≤ rc) (hl : rl ≤ 1000000) :
    Calls Try.prog 70 #[.slice ra rl rc] w fun e w' => ∃ sv : Value, e = .returned sv ∧ w'.ownsRow w.heap.size 38 3 sv rl (flat3 (r.map cV)) ∧ Below w.heap.size w w' := by
  obtain ⟨i0, hi, hz0, hz1, hz2⟩ := info_parts info_val
  have hrl := hv.1
  have t28 := fun (W : World) (n c n' c' : Nat) (a : Option Addr) => Lib.run_eql_slice_nil (P := Try.prog) W 28 38 a n c n' c' Try.underlying28
  cases ra with
  | none =>
    obtain rfl := hn rfl
    obtain rfl : r = [] := by
      rcases hv.2 with h | ⟨b, off, h, _⟩
      · exact h
      · cases h
    obtain rfl : rl = 0 := by simpa using hrl.symm
    go_enter Try.func70, Try.ntmps70
    go_wp2_with fail
    go_ret
    exact ⟨_, rfl, World.ownsRow_nil _ _ _ _, Below.refl _ _⟩
  | some ad =>
    have hnews : ∀ W, Below w.heap.size w W → ∀ j u, (flat3 (r.map cV))[j]? = some u → W.cell? (ad.add j) = some u := fun W hW => by
      have hv' := hv.below hW (Nat.le_refl _)
      rcases hv'.2 with h0 | ⟨b, off, h0, _⟩
      · intro j u hu; rw [h0] at hu; simp [flat3] at hu
      · cases h0; exact vals_news hv'
    have HN := Lib.hid hnews
    clear hnews hv
    go_enter Try.func70, Try.ntmps70
    go_wp2_with (at_builtin; refine wpList_append_own_at _ rfl _ _ 28 rfl w.heap.size 38 i0 _ 3 32 Try.underlying28 hi hz0 hz1 hz2 rfl (by decide) _ 0 [] rfl (World.ownsRow_lit w #[] 0 (Nat.le_refl _) (Nat.zero_le _) rfl) ad rl rc (flat3 (r.map cV)) rfl (by rw [flat3_length, List.length_map, hrl]) (HN.out _ ((Below.refl _ _).alloc (Nat.le_refl _) _)) (flat3_oneV r) (by unfold maxLen; omega) (by omega) (by simp) ?_)
    intro v' w1 hown hgrow _ _
    have hB : Below w.heap.size w w1 := ((Below.refl _ _).alloc (Nat.le_refl _) _).grown hgrow (by simp) (fun j hj => by cases hj; exact Nat.le_refl _)
    have hown' : w1.ownsRow w.heap.size 38 3 v' rl (flat3 (r.map cV)) := by simpa using hown
    clear hown hgrow
    go_wp2_with fail
    go_ret
    exact ⟨_, rfl, hown', hB⟩

set_option maxHeartbeats 1000000 in
theorem clonee_any (a : Option Addr) (len cap : Nat) (es : List En) (w : World) (hs : IsEnts w a len es) (hn : a = none → cap = 0) (hle : len ≤ cap) (hl : len ≤ 1000000) :
    Calls Try.prog 57 #[.slice a len cap] w (EntsPost w es) := by
  obtain ⟨i0, hi, hz0, hz1, hz2⟩ := info_parts info_ent
  have hln := hs.1
  have t22 := fun (W : World) (n c n' c' : Nat) (a : Option Addr) => Lib.run_eql_slice_nil (P := Try.prog) W 22 30 a n c n' c' Try.underlying22
  cases a with
  | none =>
    obtain rfl := hn rfl
    obtain rfl : es = [] := by
      rcases hs.2 with h | ⟨b, off, h, _⟩
      · exact h
      · cases h
    obtain rfl : len = 0 := by simpa using hln.symm
    go_enter Try.func57, Try.ntmps57
    go_wp2_with fail
    go_ret
    exact ⟨_, rfl, OwnEnts.nil _ _, Below.refl _ _⟩
  | some ad =>
    obtain ⟨l, hll, hnews, hone, hat⟩ : ∃ l : List T2, l.length = len ∧ (∀ W, Below w.heap.size w W → ∀ j u, (flat2 l)[j]? = some u → W.cell? (ad.add j) = some u) ∧ (∀ u ∈ flat2 l, u.oneCell' = true) ∧ ∀ (i : Nat) (e : En), es[i]? = some e → ∃ rv : Value, l[i]? = some (rv, Value.int .i64 e.cnt) ∧ IsRow w rv e.row := by
      by_cases h0 : es = []
      · subst h0
        exact ⟨[], by simpa using hln, fun W _ j u hu => by simp [flat2] at hu, by simp [flat2], by simp⟩
      · obtain ⟨b, off, ha, hlt, _⟩ := hs.2.resolve_left h0
        cases ha
        obtain ⟨l, h1, h2, h3, h4⟩ := ents_news hs
        refine ⟨l, h1, fun W hW j u hu => ?_, h3, h4⟩
        have hadd : (⟨b, off, none⟩ : Addr).add j = ⟨b, off + j, none⟩ := by unfold Addr.add; split <;> simp_all
        have := h2 j u hu
        rw [hadd] at this ⊢
        rw [hW.cell (p := ⟨b, off + j, none⟩) hlt]
        exact this
    have HN := Lib.hid hnews
    have HAT := Lib.hid hat
    clear hnews hs hat
    go_enter Try.func57, Try.ntmps57
    go_wp2_with (at_builtin; refine wpList_append_own_at _ rfl _ _ 22 rfl w.heap.size 30 i0 _ 2 32 Try.underlying22 hi hz0 hz1 hz2 rfl (by decide) _ 0 [] rfl (World.ownsRow_lit w #[] 0 (Nat.le_refl _) (Nat.zero_le _) rfl) ad len cap (flat2 l) rfl (by rw [flat2_length, hll]) (HN.out _ ((Below.refl _ _).alloc (Nat.le_refl _) _)) hone (by unfold maxLen; omega) (by omega) (by simp) ?_)
    intro v' w1 hown hgrow _ _
    have hB : Below w.heap.size w w1 := ((Below.refl _ _).alloc (Nat.le_refl _) _).grown hgrow (by simp) (fun j hj => by cases hj; exact Nat.le_refl _)
    have hown' : OwnEnts w1 w.heap.size v' es := by
      have ho : w1.ownsRow w.heap.size 30 2 v' es.length (flat2 l) := by rw [hln]; simpa using hown
      refine ⟨l, by omega, ho, fun i e he => ?_⟩
      obtain ⟨rv, q1, q2⟩ := HAT.out i e he
      refine ⟨rv, q1, q2.below hB (Nat.le_refl _), fun hne x m c hx hc => ?_⟩
      obtain ⟨ra, rl, rc, hrv, hv, _⟩ := q2
      rw [hrv] at hx
      cases hx
      rcases hv.2 with h0 | ⟨b, off, hx, hlt, _⟩
      · exact hne h0
      · cases hx
        have := (ho.lt _ hc).1
        simp only at this
        omega
    clear hown hgrow
    go_wp2_with fail
    go_ret
    exact ⟨_, rfl, hown', hB⟩

end Go.Proofs.Ytdhhhmehkldliaa
