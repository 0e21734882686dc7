/-
  slices.SortFunc of entries with bag.compare, on a row of entries that the call made.
-/
import Derived.Test.YtdhhhmehkldliaaBLay
import Derived.Test.YtdhhhmehkldliaaBPOwn
import Derived.Test.YtdhhhmehkldliaaBPCmp
import Derived.Test.YtdhhhmehkldliaaBPlan
import Derived.Shelf.Abstract
set_option linter.unusedVariables false
set_option maxRecDepth 100000
namespace Go.Proofs.Ytdhhhmehkldliaa
open Go.RowKit Go.Shelf Go.Sort Wh

/-- Entries with the values of their rows, in a world, apart from a block. -/
def RowIn (w : World) (g : Nat) : Type := { x : Value × En // IsRow w x.1 x.2.row ∧ FarOf (some g) x.1 x.2.row }
instance (w : World) (g : Nat) : Inhabited (RowIn w g) := ⟨⟨(.slice none 0 0, ⟨[], 0⟩), ⟨none, 0, 0, rfl, ⟨rfl, .inl rfl⟩, Nat.le_refl _, Nat.zero_le _, fun _ => rfl⟩, fun h => absurd rfl h⟩⟩
def encE {w : World} {g : Nat} (x : RowIn w g) : List Value := [x.1.1, .int .i64 x.1.2.cnt]
def cfE {w : World} {g : Nat} (x y : RowIn w g) : Int := cmpR x.1.2.row y.1.2.row

theorem ltE {w : World} {g : Nat} (x y : RowIn w g) : ltOf cfE x y = decide (cmpR x.1.2.row y.1.2.row < 0) := rfl
theorem swoE (w : World) (g : Nat) : SWO (ltOf (cfE (w := w) (g := g))) where
  irrefl x := by rw [ltE, (cmpR_zero _ _).2 rfl]; rfl
  trans x y z h1 h2 := by
    rw [ltE] at *
    simp only [decide_eq_true_eq] at *
    exact cmpR_trans _ _ _ h1 h2
  ntrans x y z h1 h2 := by
    rw [ltE] at *
    simp only [decide_eq_false_iff_not] at *
    intro h3
    have n1 := cmpR_neg y.1.2.row z.1.2.row
    rcases cmpR_vals z.1.2.row y.1.2.row with hv | hv | hv
    · exact h1 (cmpR_trans _ _ _ h3 (by omega))
    · rw [(cmpR_zero _ _).1 hv] at h3
      exact h1 h3
    · omega

theorem sort_grown (w : World) (g m : Nat) (dk : Array (RowIn w g)) (os : Array Obj) : w.grownBy (sortWorldK encE 2 w g 0 m dk os) (some g) where
  os := rfl
  tape := rfl
  output := rfl
  size := by simp [sortWorldK, grow, putRowK, putRow, mapBlock]
  block := fun k hk hne => by
    have hkg : ¬ g = k := fun e => hne (by rw [e])
    show ((w.heap.modify g (onCells _)) ++ os)[k]? = _
    rw [Array.getElem?_append_left (by simpa using hk), Array.getElem?_modify, if_neg hkg]

theorem cmp_lays (w : World) (g size : Nat) : CmpLays Try.prog 49 #[] (encE (w := w) (g := g)) 2 cfE g 0 size w := by
  intro m os dk hdk x y
  obtain ⟨⟨rv, e⟩, ⟨ra, rl, rc, hx, v1, v2, v3, v4⟩, f1⟩ := x
  obtain ⟨⟨rv', e'⟩, ⟨ra', rl', rc', hy, v1', v2', v3', v4'⟩, f1'⟩ := y
  simp only at hx hy v1 v1' f1 f1'
  subst hx
  subst hy
  have hg := sort_grown w g m dk os
  have mm : maxLen = 9223372036854775807 := rfl
  exact (cmp_ents ra rl rc e.row e.cnt ra' rl' rc' e'.row e'.cnt _ (v1.grown hg fun hne x hx => f1 hne x rl rc (by rw [hx])) (v1'.grown hg fun hne x hx => f1' hne x rl' rc' (by rw [hx])) (by omega) (by omega)).mono
    fun e w' ⟨h1, h2⟩ => ⟨h1, h2.form⟩

theorem sort_own {w : World} {base : Nat} {v : Value} {es : List En} (h : OwnEnts w base v es) (hb : base ≤ w.heap.size) (hsz : es.length ≤ 1000000) :
    Calls Try.prog 79 #[v, .func (.func 49) #[] #[]] w fun e w' => e = .returned (.tuple #[]) ∧ ∃ es', es'.Perm es ∧ AscE es' ∧ OwnEnts w' base v es' ∧ Below base w w' := by
  by_cases h0 : es = []
  · subst h0
    obtain ⟨a, cap, rfl, _⟩ := own_ents h
    refine (AnyF.slices_SortFunc_none sortEnt a cap (.func (.func 49) #[] #[]) w).mono ?_
    rintro e w' ⟨rfl, rfl⟩
    exact ⟨rfl, [], List.Perm.refl _, List.Pairwise.nil, h, Below.refl _ _⟩
  · obtain ⟨g, cap, rfl⟩ : ∃ g cap, v = .slice (some ⟨g, 0, none⟩) es.length cap := by
      obtain ⟨a, cap, rfl, hi, _, _, _, h4⟩ := own_ents h
      rcases hi.2 with h1 | ⟨b, off, ha, _⟩
      · exact absurd h1 h0
      · obtain ⟨g, h5, _⟩ := h4 _ ha
        exact ⟨g, cap, by rw [ha, h5]⟩
    obtain ⟨_, hnc, hcm, hbg, hgl⟩ := own_size h
    obtain ⟨l, h1, h2, h3⟩ := h
    have hall : ∀ i, i < es.length → ∃ x : RowIn w g, l[i]? = some (x.1.1, .int .i64 x.1.2.cnt) ∧ es[i]? = some x.1.2 := fun i hi => by
      have he : es[i]? = some es[i] := List.getElem?_eq_getElem hi
      obtain ⟨rv, a1, a2, a3⟩ := h3 i _ he
      exact ⟨⟨(rv, es[i]), a2, a3⟩, a1, he⟩
    obtain ⟨xs, hxl, hx⟩ := choose_list _ es.length hall
    have hes : es = xs.map fun x => x.1.2 := by
      apply List.ext_getElem?
      intro i
      rw [List.getElem?_map]
      cases hxi : xs[i]? with
      | none => rw [List.getElem?_eq_none_iff] at hxi; rw [List.getElem?_eq_none (by omega)]; rfl
      | some x => rw [(hx i x hxi).2]; rfl
    have hds : xs.toArray.size = es.length := by simpa using hxl
    have hcell : ∀ j, j < es.length * 2 → w.cell? ⟨g, j, none⟩ = (flat2 l)[j]? := fun j hj => h2.cellAt j hj
    have hH : HoldsK encE 2 w g 0 xs.toArray := by
      intro j hj
      rw [size_flatK, hds] at hj
      refine ⟨?_, by rw [Nat.zero_add]; exact h2.frozenAt _⟩
      rw [Nat.zero_add, hcell j hj, get_flatK _ _ _ _ (by rw [hds]; exact hj)]
      obtain ⟨x, hxj⟩ : ∃ x, xs[j / 2]? = some x := ⟨_, List.getElem?_eq_getElem (by omega)⟩
      have hxb : xs.toArray[j / 2]! = x := by
        rw [getElem!_pos xs.toArray _ (by rw [hds]; omega)]
        have := (List.getElem?_eq_some_iff.1 hxj).2
        simpa using this
      rw [hxb]
      obtain ⟨f0, f1⟩ := flat2_at l _ _ (hx _ _ hxj).1
      have h3 : j % 2 = 0 ∨ j % 2 = 1 := by omega
      rcases h3 with h3 | h3
      · rw [h3, show j = j / 2 * 2 by omega, f0]; rfl
      · rw [h3, show j = j / 2 * 2 + 1 by omega, f1]; rfl
    have hcon := AnyQ.slices_SortFunc sortEnt 2 Try.isAgg30 Try.sizeOf30 encE (fun _ => rfl) (fun x v hv => by
      simp only [encE, List.mem_cons, List.not_mem_nil, or_false] at hv
      rcases hv with rfl | rfl
      · obtain ⟨⟨rv, e⟩, ⟨ra, rl, rc, hr, _⟩, _⟩ := x
        simp only at hr
        subst hr
        rfl
      · rfl) cfE (swoE w g) 49 #[] g 0 cap xs.toArray w (enters_of Try.func49 (by kernel_rfl) rfl) (cmp_lays w g _) hH hgl (by rw [hds]; omega)
    rw [hds] at hcon
    refine Calls.mono (show Calls Try.prog 79 _ _ _ from hcon) ?_
    rintro e w' ⟨rfl, d', m, os, ⟨p1, _, p3⟩, hso, rfl⟩
    have hgr := sort_grown w g m d' os
    have hd's : d'.size = es.length := by rw [p1, hds]
    have hperm : d'.toList.Perm xs := by
      have e1 : d'.extract 0 es.length = d' := by rw [← hd's]; exact Array.extract_size
      have e2 : xs.toArray.extract 0 es.length = xs.toArray := by rw [← hds]; exact Array.extract_size
      rw [e1, e2] at p3
      simpa using p3
    refine ⟨rfl, d'.toList.map fun x => x.1.2, by rw [hes]; exact hperm.map _, ?_, ?_, (Below.refl _ _).grown hgr hb fun k hk => by cases hk; exact hbg⟩
    · unfold AscE
      rw [List.pairwise_map, List.pairwise_iff_getElem]
      intro i j hi hj hij
      simp only [Array.length_toList] at hi hj
      have := hso i j (Nat.zero_le _) hij (by omega)
      rw [ltE, getElem!_pos d' i hi, getElem!_pos d' j hj, decide_eq_false_iff_not] at this
      have hn := cmpR_neg d'[i].1.2.row d'[j].1.2.row
      simp only [Array.getElem_toList]
      omega
    · have hHe : HoldsK encE 2 (sortWorldK encE 2 w g 0 m d' os) g 0 d' := by
        unfold sortWorldK
        exact holdsK_grow _ _ _ _ _ _ _ (by rw [size_putRowK]; exact hgl) (holdsK_putRowK _ _ _ _ _ xs.toArray _ (holdsK_ahead _ _ _ _ _ _ _ hH) p1)
      refine ⟨d'.toList.map fun x => (x.1.1, .int .i64 x.1.2.cnt), by simp, ?_, fun i e he => ?_⟩
      · rw [List.length_map, show d'.toList.length = es.length from hd's]
        rcases h2.2 with ⟨h', _⟩ | ⟨g', cap', cur, h', hb', hh, q1, q2, q3, q4⟩
        · cases h'
        · cases h'
          have hh' : (sortWorldK encE 2 w g 0 m d' os).heap[g]? = some (.cells (putCells id 0 (flatK encE 2 d') cur) 30 (0, 0)) := by
            show ((w.heap.modify g (onCells (putCells id 0 (flatK encE 2 d')))) ++ os)[g]? = _
            rw [Array.getElem?_append_left (by simpa using hgl), Array.getElem?_modify, if_pos rfl, hh]
            rfl
          refine ⟨by rw [flat2_length, List.length_map, show d'.toList.length = es.length from hd's], .inr ⟨g, cap, _, rfl, hb', hh', q1, q2, by simpa [putCells] using q3, ?_⟩⟩
          apply List.ext_getElem?
          intro j
          by_cases hj : j < es.length * 2
          · rw [List.getElem?_take_of_lt hj, Array.getElem?_toList, ← cell_of_row _ g j _ _ _ hh']
            obtain ⟨x, hxj⟩ : ∃ x, d'.toList[j / 2]? = some x := ⟨_, List.getElem?_eq_getElem (by rw [Array.length_toList]; omega)⟩
            have hxb : d'[j / 2]! = x := by
              rw [getElem!_pos d' _ (by omega)]
              have := (List.getElem?_eq_some_iff.1 hxj).2
              simpa using this
            obtain ⟨f0, f1⟩ := flat2_at (d'.toList.map fun x => ((x.1.1, .int .i64 x.1.2.cnt) : T2)) (j / 2) (x.1.1, .int .i64 x.1.2.cnt) (by rw [List.getElem?_map, hxj]; rfl)
            have hc := (hHe.cell (i := j / 2) (c := j % 2) (by omega) (by omega)).1
            rw [show 0 + j / 2 * 2 + j % 2 = j by omega, hxb] at hc
            rw [hc]
            have h3 : j % 2 = 0 ∨ j % 2 = 1 := by omega
            rcases h3 with h3 | h3
            · rw [h3, show j = j / 2 * 2 by omega, f0]; rfl
            · rw [h3, show j = j / 2 * 2 + 1 by omega, f1]; rfl
          · rw [List.getElem?_eq_none (by rw [List.length_take]; omega), List.getElem?_eq_none (by rw [flat2_length, List.length_map, show d'.toList.length = es.length from hd's]; omega)]
      · rw [List.getElem?_map] at he
        obtain ⟨x, hx1, hx2⟩ := Option.map_eq_some_iff.1 he
        subst hx2
        exact ⟨x.1.1, by rw [List.getElem?_map, hx1]; rfl, x.2.1.grown hgr x.2.2, x.2.2⟩

end Go.Proofs.Ytdhhhmehkldliaa
