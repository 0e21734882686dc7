/-
  What the functions on bags return, plainly. No program.
-/
import Derived.Test.YtdhhhmehkldliaaBMath
set_option linter.unusedVariables false
namespace Wh
open Go

/-- Are all values of a row valid? -/
def okRow (r : List V) : Bool := r.all fun v => validB v.k v.n v.s
def smallB (n : Int) : Bool := decide (-65536 ≤ n) && decide (n ≤ 65536)
/-- The error of an entry that does not concern its neighbours. -/
def fitE (e : En) : Int := if 12 < e.row.length ∨ smallB e.cnt = false then 2 else if okRow e.row = true then 0 else 8
/-- Is a row greater than the one before, if there is one? -/
def afterB (p : Option (List V)) (r : List V) : Bool := match p with
  | none => true
  | some q => decide (cmpR q r < 0)
/-- What Validate finds behind a row. -/
def goBag : Option (List V) → List En → Int
  | _, [] => 0
  | p, e :: es => if ¬ fitE e = 0 then fitE e else if e.cnt = 0 then 8 else if afterB p e.row = false then 14 else goBag (some e.row) es
def bagE (es : List En) : Int := if 4096 < es.length then 2 else goBag none es

theorem smallB_true {n : Int} : smallB n = true ↔ -65536 ≤ n ∧ n ≤ 65536 := by simp [smallB]
theorem okRow_no {r : List V} {i : Nat} {v : V} (h : r[i]? = some v) (hv : validB v.k v.n v.s = false) : okRow r = false := by
  unfold okRow
  rw [List.all_eq_false]
  exact ⟨v, List.mem_of_getElem? h, by simp [hv]⟩
theorem okRow_yes {r : List V} (h : ∀ (i : Nat) (v : V), r[i]? = some v → validB v.k v.n v.s = true) : okRow r = true := by
  unfold okRow
  rw [List.all_eq_true]
  intro v hv
  obtain ⟨i, hi⟩ := List.mem_iff_getElem?.1 hv
  exact h i v hi

theorem fitE_zero {e : En} (h : fitE e = 0) : e.row.length ≤ 12 ∧ -65536 ≤ e.cnt ∧ e.cnt ≤ 65536 ∧ okRow e.row = true := by
  unfold fitE at h
  by_cases h1 : 12 < e.row.length ∨ smallB e.cnt = false
  · rw [if_pos h1] at h; cases h
  · rw [if_neg h1] at h
    have h2 : smallB e.cnt = true := by
      cases hs : smallB e.cnt with
      | true => rfl
      | false => exact absurd (.inr hs) h1
    have h3 := smallB_true.1 h2
    by_cases h4 : okRow e.row = true
    · exact ⟨by omega, h3.1, h3.2, h4⟩
    · rw [if_neg h4] at h; cases h
theorem fitE_of {e : En} (h1 : e.row.length ≤ 12) (h2 : -65536 ≤ e.cnt) (h3 : e.cnt ≤ 65536) (h4 : okRow e.row = true) : fitE e = 0 := by
  unfold fitE
  rw [if_neg (by rw [smallB_true.2 ⟨h2, h3⟩]; simp; omega), if_pos h4]

/-- What a list without an error is. -/
theorem goBag_zero : ∀ {es : List En} {p : Option (List V)}, goBag p es = 0 → (∀ e ∈ es, fitE e = 0 ∧ ¬ e.cnt = 0) ∧ Asc es ∧ (∀ q, p = some q → ∀ e ∈ es, cmpR q e.row < 0)
  | [], _, _ => ⟨by simp, List.Pairwise.nil, by simp⟩
  | e :: es, p, h => by
    unfold goBag at h
    by_cases h1 : fitE e = 0
    · rw [if_neg (by simpa using h1)] at h
      by_cases h2 : e.cnt = 0
      · rw [if_pos h2] at h; cases h
      · rw [if_neg h2] at h
        cases h3 : afterB p e.row with
        | false => rw [if_pos h3] at h; cases h
        | true =>
          rw [if_neg (by rw [h3]; decide)] at h
          obtain ⟨g1, g2, g3⟩ := goBag_zero h
          have g3' := g3 e.row rfl
          refine ⟨fun x hx => ?_, List.pairwise_cons.2 ⟨g3', g2⟩, fun q hq x hx => ?_⟩
          · rcases List.mem_cons.1 hx with rfl | hx
            · exact ⟨h1, h2⟩
            · exact g1 x hx
          · subst hq
            have h4 : cmpR q e.row < 0 := by simpa [afterB] using h3
            rcases List.mem_cons.1 hx with rfl | hx
            · exact h4
            · exact cmpR_trans _ _ _ h4 (g3' x hx)
    · rw [if_pos h1] at h
      exact absurd h h1
theorem goBag_of : ∀ {es : List En} {p : Option (List V)}, (∀ e ∈ es, fitE e = 0 ∧ ¬ e.cnt = 0) → Asc es → (∀ q, p = some q → ∀ e ∈ es, cmpR q e.row < 0) → goBag p es = 0
  | [], _, _, _, _ => rfl
  | e :: es, p, h1, h2, h3 => by
    obtain ⟨a1, a2⟩ := List.pairwise_cons.1 h2
    obtain ⟨b1, b2⟩ := h1 e List.mem_cons_self
    unfold goBag
    have h4 : afterB p e.row = true := by
      cases p with
      | none => rfl
      | some q => simpa [afterB] using h3 q rfl e List.mem_cons_self
    rw [if_neg (by simpa using b1), if_neg b2, if_neg (by rw [h4]; decide)]
    exact goBag_of (fun x hx => h1 x (List.mem_cons_of_mem _ hx)) a2 fun q hq x hx => by cases hq; exact a1 x hx

/-- A list without an error of Validate. -/
structure OkBag (es : List En) : Prop where
  len : es.length ≤ 4096
  bag : BagP es
  fit : ∀ e ∈ es, fitE e = 0
theorem bagE_zero {es : List En} : bagE es = 0 ↔ OkBag es := by
  unfold bagE
  constructor
  · intro h
    by_cases h1 : 4096 < es.length
    · rw [if_pos h1] at h; cases h
    · rw [if_neg h1] at h
      obtain ⟨g1, g2, _⟩ := goBag_zero h
      exact ⟨by omega, ⟨g2, fun e he => (g1 e he).2⟩, fun e he => (g1 e he).1⟩
  · intro h
    rw [if_neg (by have := h.len; omega)]
    exact goBag_of (fun e he => ⟨h.fit e he, h.bag.nz e he⟩) h.bag.asc (by simp)

def posB (es : List En) : Bool := es.all fun e => decide (0 < e.cnt)
def tableB (es : List En) : Bool := decide (bagE es = 0) && posB es
/-- The sum of all counts. -/
def sumC : List En → Int
  | [] => 0
  | e :: es => e.cnt + sumC es
def sizeZ (es : List En) : Int := if bagE es = 0 then sumC es else 0
/-- The count of the first entry with a row. -/
def firstC : List En → List V → Int
  | [], _ => 0
  | e :: es, r => if cmpR e.row r = 0 then e.cnt else firstC es r
def negL (es : List En) : List En := es.map fun e => ⟨e.row, - e.cnt⟩
/-- A bag without the counts of 0, or ErrLimit. -/
def resOut (l : List En) : List En × Int := if (nzL l).length ≤ 4096 ∧ (∀ e ∈ nzL l, smallB e.cnt = true) then (nzL l, 0) else ([], 2)
def sumOut (l : List En) : List En × Int := resOut (sortL l)
/-- The first error of entries that do not fit. -/
def fitsE : List En → Int
  | [] => 0
  | e :: es => if fitE e = 0 then fitsE es else fitE e
def normOut (l : List En) : List En × Int := if fitsE l = 0 then sumOut l else ([], fitsE l)
def twoE (a b : List En) : Int := if bagE a = 0 then bagE b else bagE a
def negOut (b : List En) : List En × Int := if bagE b = 0 then resOut (negL b) else ([], bagE b)
def addOut (a b : List En) : List En × Int := if twoE a b = 0 then resOut (mergeL a b) else ([], twoE a b)
def subOut (a b : List En) : List En × Int := if twoE a b = 0 then resOut (mergeL a (negL b)) else ([], twoE a b)
def atLeast0 (l : List En) : List En := l.map fun e => ⟨e.row, max 0 e.cnt⟩
def excOut (a b : List En) : List En × Int := if ¬ twoE a b = 0 then ([], twoE a b) else if posB a = true ∧ posB b = true then resOut (atLeast0 (mergeL a (negL b))) else ([], 8)
def onceL (l : List En) : List En := (l.filter fun e => decide (0 < e.cnt)).map fun e => ⟨e.row, 1⟩
def disOut (b : List En) : List En × Int := if bagE b = 0 then resOut (onceL b) else ([], bagE b)

theorem negL_cnt (es : List En) (r : List V) : cntL (negL es) r = - cntL es r := by
  unfold negL
  induction es with
  | nil => rfl
  | cons e es ih =>
    simp only [List.map_cons, cntL, ih]
    split <;> omega
theorem negL_asc {es : List En} (h : Asc es) : Asc (negL es) := List.Pairwise.map _ (fun _ _ h => h) h
theorem negL_length (es : List En) : (negL es).length = es.length := List.length_map _

theorem sumC_append (a b : List En) : sumC (a ++ b) = sumC a + sumC b := by
  induction a with
  | nil => simp [sumC]
  | cons e a ih => simp only [List.cons_append, sumC, ih]; omega
theorem sumC_bd {es : List En} (h : ∀ e ∈ es, -65536 ≤ e.cnt ∧ e.cnt ≤ 65536) : -65536 * (es.length : Int) ≤ sumC es ∧ sumC es ≤ 65536 * (es.length : Int) := by
  induction es with
  | nil => simp [sumC]
  | cons e es ih =>
    have h1 := h e List.mem_cons_self
    have h2 := ih fun x hx => h x (List.mem_cons_of_mem _ hx)
    simp only [sumC, List.length_cons]
    omega

end Wh
