/-
  What is read, plainly: bounds of the places and of the nodes; too deep · The syntax, plainly: operands too deep; what a word's text tells. No p · The reference's parser: fail, peek, is, word, take, deep. Its state li · The reference's parser: take, deep. · Reserved, of the reference. · The reference's parser: begins. · For every layer that holds nodes: append of nodes that lie somewhere t · join and constant of the reference.
-/
import Derived.Test.YtmdpjahhhfajaaaGreatDoorJC07
import Derived.Test.YtmdpjahhhfajaaaGreatDoorJC06
import Derived.Test.YtmdpjahhhfajaaaGreatDoorJC03
import Derived.Maps.AppendAt
import Derived.Test.YtmdpjahhhfajaaaGreatDoorJC04
import Derived.Laws.OwnMore
set_option linter.unusedVariables false
set_option linter.unusedSimpArgs false
set_option maxRecDepth 100000
namespace Wh
open Go Go.Proofs.YtmdpjahhhfajaaaGreatDoor
def EndT (ts : List TA) : Prop := 1 ≤ ts.length ∧ ∀ i, i < ts.length → ((tkA ts i).1.k = 0 ↔ i + 1 = ts.length)
theorem tkA_get {ts : List TA} (h : 1 ≤ ts.length) (i : Nat) : ts[min i (ts.length - 1)]? = some (tkA ts i) := by
 unfold tkA
 rw [List.getD_eq_getElem?_getD, List.getElem?_eq_getElem (by omega)]
 rfl
theorem tkA_in {ts : List TA} {i : Nat} (h : i < ts.length) : ts[i]? = some (tkA ts i) := by
 have := tkA_get (ts := ts) (by omega) i
 rwa [Nat.min_eq_left (by omega)] at this
theorem valE_end {ts : List TA} (h : valE ts = 0) : EndT ts := by
 obtain ⟨h1, h2⟩ := valE_zero h
 refine ⟨h1, fun i hi => ?_⟩
 have := h2 i hi
 rw [okAt_some (tkA_in hi)] at this
 simp only [Bool.and_eq_true, beq_iff_eq, decide_eq_decide] at this
 exact this.1
def Gd (ts : List TA) (i : Nat) (b : Prop) : PO → Prop
 | .ok e j => i < j ∧ j < ts.length ∧ 1 ≤ e.length ∧ e.length ≤ j - i ∧ b
 | .bad c j => (c = 2 ∨ c = 3) ∧ i ≤ j ∧ j < ts.length
theorem Gd.mono {ts : List TA} {i i' : Nat} {b b' : Prop} {P : PO} (h : Gd ts i b P) (hi : i' ≤ i) (hb : b → b') : Gd ts i' b' P := by
 cases P with
 | ok e j => exact ⟨by have := h.1; omega, h.2.1, h.2.2.1, by have := h.2.2.2.1; have := h.1; omega, hb h.2.2.2.2⟩
 | bad c j => exact ⟨h.1, by have := h.2.1; omega, h.2.2⟩
theorem symT_k {t : TA} {s : ByteArray} (h : symT t s = true) : t.1.k = 5 ∧ t.1.tx = s := by
 unfold symT at h
 rw [Bool.and_eq_true, decide_eq_true_eq, eqS_iff] at h
 exact h
theorem wrdT_k {t : TA} {s : ByteArray} (h : wrdT t s = true) : t.1.k = 1 ∧ t.1.tx = s := by
 unfold wrdT at h
 rw [Bool.and_eq_true, decide_eq_true_eq, eqS_iff] at h
 exact h
theorem symT_not {t : TA} {s : ByteArray} (h : ¬ t.1.k = 5) : symT t s = false := by unfold symT; rw [decide_eq_false h]; rfl
theorem wrdT_not {t : TA} {s : ByteArray} (h : ¬ t.1.k = 1) : wrdT t s = false := by unfold wrdT; rw [decide_eq_false h]; rfl
theorem binO_k {lvl : Nat} {t : TA} {op : Int} (h : binO lvl t = some op) : ¬ t.1.k = 0 := by
 intro h0
 have h1 : ∀ s, symT t s = false := fun s => symT_not (by omega)
 have h2 : ∀ s, wrdT t s = false := fun s => wrdT_not (by omega)
 unfold binO at h
 simp [h1, h2] at h
theorem cmpO_k {t : TA} {x : Int × Bool} (h : cmpO t = some x) : ¬ t.1.k = 0 := by
 intro h0
 have h1 : ∀ s, symT t s = false := fun s => symT_not (by omega)
 unfold cmpO at h
 simp [h1] at h
theorem begT_k {t u : TA} (h : begT t u = true) : ¬ t.1.k = 0 := by
 intro h0
 have h1 : ∀ s, symT t s = false := fun s => symT_not (by omega)
 unfold begT at h
 simp [h1, h0] at h
theorem lpT_gd {ts : List TA} (hE : EndT ts) {rd : Nat → PO} {lvl i0 : Nat} {b : Prop} (hb : b) (hr : ∀ i, i0 < i → i < ts.length → Gd ts i True (rd i)) :
  ∀ (g : Nat) (e : List Nd) (i : Nat), i0 < i → i < ts.length → ts.length ≤ i + g → 1 ≤ e.length → e.length ≤ i - i0 → Gd ts i0 b (lpT ts rd lvl g e i) := by
 intro g
 induction g with
 | zero => intro e i h1 h2 h3; omega
 | succ g ih =>
  intro e i h1 h2 h3 h4 h5
  unfold lpT
  cases hO : binO lvl (tkA ts i) with
  | none => exact ⟨h1, h2, h4, h5, hb⟩
  | some op =>
   have hk := binO_k hO
   have hi : i + 1 < ts.length := by
    have := (hE.2 i h2).2
    by_cases h : i + 1 = ts.length
    ·exact absurd (this h) hk
    ·omega
   have hg := hr (i + 1) (by omega) hi
   simp only
   cases hR : rd (i + 1) with
   | bad c j =>
    rw [hR] at hg
    exact ⟨hg.1, by have := hg.2.1; omega, hg.2.2⟩
   | ok e2 j =>
    rw [hR] at hg
    obtain ⟨g1, g2, g3, g4, _⟩ := hg
    refine ih _ _ (by omega) g2 (by omega) ?_ ?_
    ·simp only [List.length_append, List.length_cons, List.length_nil]; omega
    ·simp only [List.length_append, List.length_cons, List.length_nil]; omega
theorem agT_gd {ts : List TA} (hE : EndT ts) {rd : Nat → PO} {s : ByteArray} {i0 : Nat} {b : Prop} (hb : b) (hr : ∀ i, i0 < i → i < ts.length → Gd ts i True (rd i)) :
  ∀ (g : Nat) (rs : List (List Nd)) (i : Nat), i0 < i → i < ts.length → ts.length ≤ i + g → rs.flatten.length ≤ i - i0 → Gd ts i0 b (agT ts rd s g rs i) := by
 have fin : ∀ (rs : List (List Nd)) (j : Nat), i0 < j → j < ts.length → ¬ (tkA ts j).1.k = 0 → rs.flatten.length ≤ j - i0 → Gd ts i0 b (finT s rs j) := by
  intro rs j h1 h2 h3 h4
  unfold finT
  split
  ·exact ⟨.inr rfl, by omega, h2⟩
  ·have hi : j + 1 < ts.length := by
    have := (hE.2 j h2).2
    by_cases h : j + 1 = ts.length
    ·exact absurd (this h) h3
    ·omega
   exact ⟨by omega, hi, by simp, by simp only [List.length_append, List.length_cons, List.length_nil]; omega, hb⟩
 intro g
 induction g with
 | zero => intro rs i h1 h2 h3; omega
 | succ g ih =>
  intro rs i h1 h2 h3 h4
  unfold agT
  have hg := hr i h1 h2
  cases hR : rd i with
  | bad c j =>
   rw [hR] at hg
   exact ⟨hg.1, by have := hg.2.1; omega, hg.2.2⟩
  | ok e j =>
   rw [hR] at hg
   obtain ⟨g1, g2, g3, g4, _⟩ := hg
   have hl : (rs ++ [e]).flatten.length ≤ j - i0 := by
    simp only [List.flatten_append, List.flatten_cons, List.flatten_nil, List.append_nil, List.length_append]
    omega
   simp only
   by_cases hc : symT (tkA ts j) clsS = true
   ·rw [if_pos hc]
    exact fin _ _ (by omega) g2 (by rw [(symT_k hc).1]; omega) hl
   ·rw [if_neg hc]
    by_cases hm : symT (tkA ts j) comS = true
    ·rw [if_pos hm]
     have hi : j + 1 < ts.length := by
      have := (hE.2 j g2).2
      by_cases h : j + 1 = ts.length
      ·have := this h; rw [(symT_k hm).1] at this; omega
      ·omega
     exact ih _ _ (by omega) hi (by omega) (by omega)
    ·rw [if_neg hm]
     exact ⟨.inr rfl, by omega, g2⟩
theorem finT_gd {ts : List TA} (hE : EndT ts) {s : ByteArray} {i0 : Nat} {b : Prop} (hb : b) (rs : List (List Nd)) (j : Nat) (h1 : i0 < j) (h2 : j < ts.length) (h3 : ¬ (tkA ts j).1.k = 0) (h4 : rs.flatten.length ≤ j - i0) : Gd ts i0 b (finT s rs j) := by
 unfold finT
 split
 ·exact ⟨.inr rfl, by omega, h2⟩
 ·have hi : j + 1 < ts.length := by
   have := (hE.2 j h2).2
   by_cases h : j + 1 = ts.length
   ·exact absurd (this h) h3
   ·omega
  exact ⟨by omega, hi, by simp, by simp only [List.length_append, List.length_cons, List.length_nil]; omega, hb⟩
theorem dayT_gd {ts : List TA} (hE : EndT ts) {i0 : Nat} {b : Prop} (hb : b) (e : List Nd) (j : Nat) (h1 : i0 < j) (h2 : j < ts.length) (h4 : e.length ≤ j - i0) : Gd ts i0 b (dayT ts e j) := by
 have nx : ∀ k, k < ts.length → ¬ (tkA ts k).1.k = 0 → k + 1 < ts.length := fun k hk h => by
  have := (hE.2 k hk).2
  by_cases h' : k + 1 = ts.length
  ·exact absurd (this h') h
  ·omega
 unfold dayT
 by_cases c1 : symT (tkA ts j) comS = false
 ·rw [if_pos c1]
  exact ⟨.inr rfl, by omega, h2⟩
 ·rw [if_neg c1]
  have n1 := nx j h2 (by rw [(symT_k (by simpa using c1)).1]; omega)
  by_cases c2 : ¬ (tkA ts (j + 1)).1.k = 1 ∨ resB (tkA ts (j + 1)).1.tx = true
  ·rw [if_pos c2]
   exact ⟨.inr rfl, by omega, n1⟩
  ·rw [if_neg c2]
   have hk : (tkA ts (j + 1)).1.k = 1 := by
    by_cases h : (tkA ts (j + 1)).1.k = 1
    ·exact h
    ·exact absurd (.inl h) c2
   have n2 := nx (j + 1) n1 (by omega)
   by_cases c3 : symT (tkA ts (j + 2)) clsS = false
   ·rw [if_pos c3]
    exact ⟨.inr rfl, by omega, n2⟩
   ·rw [if_neg c3]
    have n3 := nx (j + 2) n2 (by rw [(symT_k (by simpa using c3)).1]; omega)
    exact ⟨by omega, n3, by simp, by simp only [List.length_append, List.length_cons, List.length_nil]; omega, hb⟩
def At8 (ts : List TA) (lvl i : Nat) : Prop := lvl = 8 → begT (tkA ts i) (tkA ts (i + 1)) = true ∧ symT (tkA ts i) minS = false
theorem At8.no {ts : List TA} {lvl i : Nat} (h : lvl ≤ 7) : At8 ts lvl i := fun h' => by omega
set_option maxHeartbeats 1000000 in
theorem pr_gd {ts : List TA} (hE : EndT ts) : ∀ (f lvl i d : Nat), lvl ≤ 8 → i < ts.length → 9 * (ts.length - i) + (8 - lvl) < f → At8 ts lvl i → Gd ts i (lvl ≤ 7 → d ≤ 256) (prT ts f lvl i d) := by
 have nx : ∀ k, k < ts.length → ¬ (tkA ts k).1.k = 0 → k + 1 < ts.length := fun k hk h => by
  have := (hE.2 k hk).2
  by_cases h' : k + 1 = ts.length
  ·exact absurd (this h') h
  ·omega
 intro f
 induction f with
 | zero => intro lvl i d _ _ h; omega
 | succ f ih =>
  intro lvl i d hl hi hm h8
  unfold prT
  by_cases l2 : lvl = 2
  ·subst l2
   rw [if_pos rfl]
   by_cases c : wrdT (tkA ts i) notS = true
   ·rw [if_pos c]
    have n1 := nx i hi (by rw [(wrdT_k c).1]; omega)
    by_cases hd : 256 < d
    ·rw [if_pos hd]; exact ⟨.inl rfl, Nat.le_refl _, hi⟩
    ·rw [if_neg hd]
     have hg := ih 2 (i + 1) (d + 1) (by omega) n1 (by omega) (At8.no (by omega))
     cases hR : prT ts f 2 (i + 1) (d + 1) with
     | bad c j => rw [hR] at hg; exact ⟨hg.1, by have := hg.2.1; omega, hg.2.2⟩
     | ok e j =>
      rw [hR] at hg
      obtain ⟨g1, g2, g3, g4, _⟩ := hg
      exact ⟨by omega, g2, by simp, by simp only [List.length_append, List.length_cons, List.length_nil]; omega, fun _ => by omega⟩
   ·rw [if_neg c]
    exact (ih 3 i d (by omega) hi (by omega) (At8.no (by omega))).mono (Nat.le_refl _) (fun h _ => h (by omega))
  rw [if_neg l2]
  by_cases l3 : lvl = 3
  ·subst l3
   rw [if_pos rfl]
   have hg := ih 4 i d (by omega) hi (by omega) (At8.no (by omega))
   cases hR : prT ts f 4 i d with
   | bad c j => rw [hR] at hg; exact hg
   | ok e j =>
    rw [hR] at hg
    obtain ⟨g1, g2, g3, g4, g5⟩ := hg
    have g5' := g5 (by omega)
    simp only
    cases hC : cmpO (tkA ts j) with
    | none => exact ⟨g1, g2, g3, g4, fun _ => g5'⟩
    | some x =>
     obtain ⟨op, sw⟩ := x
     have n1 := nx j g2 (cmpO_k hC)
     have hg2 := ih 4 (j + 1) d (by omega) n1 (by omega) (At8.no (by omega))
     simp only
     cases hR2 : prT ts f 4 (j + 1) d with
     | bad c j2 => rw [hR2] at hg2; exact ⟨hg2.1, by have := hg2.2.1; omega, hg2.2.2⟩
     | ok e2 j2 =>
      rw [hR2] at hg2
      obtain ⟨q1, q2, q3, q4, q5⟩ := hg2
      refine ⟨by omega, q2, by simp, ?_, fun _ => g5'⟩
      cases sw <;> simp only [if_true, Bool.false_eq_true, if_false, List.length_append, List.length_cons, List.length_nil] <;> omega
  rw [if_neg l3]
  by_cases l7 : lvl = 7
  ·subst l7
   rw [if_pos rfl]
   by_cases c : begT (tkA ts i) (tkA ts (i + 1)) = false
   ·rw [if_pos c]; exact ⟨.inr rfl, Nat.le_refl _, hi⟩
   ·rw [if_neg c]
    have cb : begT (tkA ts i) (tkA ts (i + 1)) = true := by simpa using c
    by_cases hd : 256 < d
    ·rw [if_pos hd]; exact ⟨.inl rfl, Nat.le_refl _, hi⟩
    ·rw [if_neg hd]
     by_cases cm : symT (tkA ts i) minS = true
     ·rw [if_pos cm]
      have n1 := nx i hi (by rw [(symT_k cm).1]; omega)
      by_cases k2 : (tkA ts (i + 1)).1.k = 2
      ·rw [if_pos k2]
       have n2 := nx (i + 1) n1 (by omega)
       exact ⟨by omega, n2, by simp, by simp, fun _ => by omega⟩
      ·rw [if_neg k2]
       have hg := ih 7 (i + 1) (d + 1) (by omega) n1 (by omega) (At8.no (by omega))
       cases hR : prT ts f 7 (i + 1) (d + 1) with
       | bad c j => rw [hR] at hg; exact ⟨hg.1, by have := hg.2.1; omega, hg.2.2⟩
       | ok e j =>
        rw [hR] at hg
        obtain ⟨g1, g2, g3, g4, _⟩ := hg
        exact ⟨by omega, g2, by simp, by simp only [List.length_append, List.length_cons, List.length_nil]; omega, fun _ => by omega⟩
     ·rw [if_neg cm]
      have cm' : symT (tkA ts i) minS = false := by simpa using cm
      exact (ih 8 i d (by omega) hi (by omega) (fun _ => ⟨cb, cm'⟩)).mono (Nat.le_refl _) (fun h _ => by omega)
  rw [if_neg l7]
  by_cases l8 : lvl = 8
  ·subst l8
   rw [if_pos rfl]
   obtain ⟨cb, cm⟩ := h8 rfl
   have n1 := nx i hi (begT_k cb)
   have one : ∀ (t : Nd), Gd ts i (8 ≤ 7 → d ≤ 256) (.ok [t] (i + 1)) := fun t => ⟨by omega, n1, by simp, by simp, fun h => by omega⟩
   by_cases k2 : (tkA ts i).1.k = 2
   ·rw [if_pos k2]; exact one _
   rw [if_neg k2]
   by_cases k3 : (tkA ts i).1.k = 3
   ·rw [if_pos k3]; exact one _
   rw [if_neg k3]
   by_cases k4 : (tkA ts i).1.k = 4
   ·rw [if_pos k4]; exact one _
   rw [if_neg k4]
   by_cases k1 : (tkA ts i).1.k = 1
   ·rw [if_pos k1]
    by_cases e1 : eqS (tkA ts i).1.tx nulS = true
    ·rw [if_pos e1]; exact one _
    rw [if_neg e1]
    by_cases e2 : eqS (tkA ts i).1.tx truS = true
    ·rw [if_pos e2]; exact one _
    rw [if_neg e2]
    by_cases e3 : eqS (tkA ts i).1.tx falS = true
    ·rw [if_pos e3]; exact one _
    rw [if_neg e3]
    by_cases co : symT (tkA ts (i + 1)) opnS = true
    ·rw [if_pos co]
     have n2 := nx (i + 1) n1 (by rw [(symT_k co).1]; omega)
     by_cases cd : eqS (tkA ts i).1.tx dayS = true
     ·rw [if_pos cd]
      have hg := ih 0 (i + 2) (d + 1) (by omega) n2 (by omega) (At8.no (by omega))
      cases hR : prT ts f 0 (i + 2) (d + 1) with
      | bad c j => rw [hR] at hg; exact ⟨hg.1, by have := hg.2.1; omega, hg.2.2⟩
      | ok e j =>
       rw [hR] at hg
       obtain ⟨g1, g2, g3, g4, _⟩ := hg
       exact dayT_gd hE (fun h => by omega) e j (by omega) g2 (by omega)
     ·rw [if_neg cd]
      by_cases cc : symT (tkA ts (i + 2)) clsS = true
      ·rw [if_pos cc]
       exact finT_gd hE (fun h => by omega) _ _ (by omega) n2 (by rw [(symT_k cc).1]; omega) (by simp)
      ·rw [if_neg cc]
       exact agT_gd hE (fun h => by omega) (fun k hk1 hk2 => (ih 0 k (d + 1) (by omega) hk2 (by omega) (At8.no (by omega))).mono (Nat.le_refl _) (fun _ => trivial)) _ _ _ (by omega) n2 (by omega) (by simp)
    ·rw [if_neg co]; exact one _
   ·rw [if_neg k1]
    have hg := ih 0 (i + 1) (d + 1) (by omega) n1 (by omega) (At8.no (by omega))
    cases hR : prT ts f 0 (i + 1) (d + 1) with
    | bad c j => rw [hR] at hg; exact ⟨hg.1, by have := hg.2.1; omega, hg.2.2⟩
    | ok e j =>
     rw [hR] at hg
     obtain ⟨g1, g2, g3, g4, _⟩ := hg
     simp only
     by_cases cc : symT (tkA ts j) clsS = true
     ·rw [if_pos cc]
      have n2 := nx j g2 (by rw [(symT_k cc).1]; omega)
      exact ⟨by omega, n2, g3, by omega, fun h => by omega⟩
     ·rw [if_neg cc]
      exact ⟨.inr rfl, by omega, g2⟩
  ·rw [if_neg l8]
   have hg := ih (lvl + 1) i d (by omega) hi (by omega) (At8.no (by omega))
   cases hR : prT ts f (lvl + 1) i d with
   | bad c j => rw [hR] at hg; exact hg
   | ok e j =>
    rw [hR] at hg
    obtain ⟨g1, g2, g3, g4, g5⟩ := hg
    exact lpT_gd hE (fun _ => g5 (by omega)) (fun k hk1 hk2 => (ih (lvl + 1) k d (by omega) hk2 (by omega) (At8.no (by omega))).mono (Nat.le_refl _) (fun _ => trivial)) _ _ _ g1 g2 (by omega) g3 g4
end Wh
namespace Wh
open Go Go.Proofs.YtmdpjahhhfajaaaGreatDoor
def begL (lvl : Nat) (t u : TA) : Bool := (decide (lvl ≤ 2) && wrdT t notS) || (begT t u && (decide (lvl ≤ 7) || !symT t minS))
theorem pr_deep {ts : List TA} : ∀ (n lvl f i d : Nat), lvl + n = 7 → 8 - lvl < f → 256 < d → begL lvl (tkA ts i) (tkA ts (i + 1)) = true → prT ts f lvl i d = .bad 2 i := by
 intro n
 induction n with
 | zero =>
  intro lvl f i d hl hf hd hb
  obtain rfl : lvl = 7 := by omega
  obtain ⟨f, rfl⟩ : ∃ g, f = g + 1 := ⟨f - 1, by omega⟩
  have hb2 : begT (tkA ts i) (tkA ts (i + 1)) = true := by simpa [begL] using hb
  unfold prT
  rw [if_neg (by omega), if_neg (by omega), if_pos rfl, if_neg (by rw [hb2]; simp), if_pos hd]
 | succ n ih =>
  intro lvl f i d hl hf hd hb
  obtain ⟨f, rfl⟩ : ∃ g, f = g + 1 := ⟨f - 1, by omega⟩
  unfold prT
  by_cases l2 : lvl = 2
  ·subst l2
   rw [if_pos rfl]
   by_cases c : wrdT (tkA ts i) notS = true
   ·rw [if_pos c, if_pos hd]
   ·rw [if_neg c]
    refine ih 3 f i d (by omega) (by omega) hd ?_
    have c' : wrdT (tkA ts i) notS = false := by simpa using c
    simpa [begL, c'] using hb
  rw [if_neg l2]
  by_cases l3 : lvl = 3
  ·subst l3
   rw [if_pos rfl, ih 4 f i d (by omega) (by omega) hd (by simpa [begL] using hb)]
  rw [if_neg l3, if_neg (by omega), if_neg (by omega)]
  have hn : begL (lvl + 1) (tkA ts i) (tkA ts (i + 1)) = true := by
   unfold begL at hb ⊢
   have a7 : lvl ≤ 7 := by omega
   have b7 : lvl + 1 ≤ 7 := by omega
   by_cases a2 : lvl ≤ 1
   ·have a2' : lvl ≤ 2 := by omega
    have b2 : lvl + 1 ≤ 2 := by omega
    simpa [a2', b2, a7, b7] using hb
   ·have a2' : ¬ lvl ≤ 2 := by omega
    have b2 : ¬ lvl + 1 ≤ 2 := by omega
    simpa [a2', b2, a7, b7] using hb
  rw [ih (lvl + 1) f i d (by omega) (by omega) hd hn]
def OkTs (ts : List TA) : Prop := ∀ i, i < ts.length → ((tkA ts i).1.k = 1 → qualB (tkA ts i).1.tx = true) ∧ ((tkA ts i).1.k = 5 → symB (tkA ts i).1.tx = true)
theorem valE_toks {ts : List TA} (h : valE ts = 0) : OkTs ts := by
 obtain ⟨h1, h2⟩ := valE_zero h
 intro i hi
 have := h2 i hi
 rw [okAt_some (tkA_in hi), Bool.and_eq_true] at this
 have hT := this.2
 unfold isT okT at hT
 refine ⟨fun hk => ?_, fun hk => ?_⟩
 ·rw [if_neg (by omega), if_pos hk, Bool.and_eq_true] at hT
  exact hT.1
 ·rw [if_neg (by omega), if_neg (by omega), if_neg (by omega), if_neg (by omega), if_neg (by omega), if_pos hk, Bool.and_eq_true] at hT
  exact hT.1
def wT (t : TA) : ByteArray := if t.1.k = 1 ∨ t.1.k = 5 then t.1.tx else ⟨#[]⟩
def OkT1 (t : TA) : Prop := (t.1.k = 1 → qualB t.1.tx = true) ∧ (t.1.k = 5 → symB t.1.tx = true)
theorem wT_sym {t : TA} (h : OkT1 t) {s : ByteArray} (hq : qualB s = false) (hs : eqS ⟨#[]⟩ s = false) : eqS (wT t) s = symT t s := by
 unfold wT symT
 by_cases h1 : t.1.k = 1
 ·rw [if_pos (.inl h1), decide_eq_false (by omega)]
  cases he : eqS t.1.tx s with
  | false => rfl
  | true =>
   unfold OkT1 at h
   rw [eqS_iff.1 he] at h
   have := h.1 h1
   rw [hq] at this
   cases this
 ·by_cases h5 : t.1.k = 5
  ·rw [if_pos (.inr h5), decide_eq_true h5]; rfl
  ·rw [if_neg (by omega), decide_eq_false h5, hs]; rfl
theorem wT_wrd {t : TA} (h : OkT1 t) {s : ByteArray} (hq : symB s = false) (hs : eqS ⟨#[]⟩ s = false) : eqS (wT t) s = wrdT t s := by
 unfold wT wrdT
 by_cases h5 : t.1.k = 5
 ·rw [if_pos (.inr h5), decide_eq_false (by omega)]
  cases he : eqS t.1.tx s with
  | false => rfl
  | true =>
   unfold OkT1 at h
   rw [eqS_iff.1 he] at h
   have := h.2 h5
   rw [hq] at this
   cases this
 ·by_cases h1 : t.1.k = 1
  ·rw [if_pos (.inl h1), decide_eq_true h1]; rfl
  ·rw [if_neg (by omega), decide_eq_false h1, hs]; rfl
def infL : List (ByteArray × Int × Int × Bool) :=
 [(orS, 0, 15, false), (andS, 1, 14, false), (⟨#[61]⟩, 3, 10, false), (⟨#[33, 61]⟩, 3, 11, false), (⟨#[60]⟩, 3, 12, false), (⟨#[60, 61]⟩, 3, 13, false),
  (⟨#[62]⟩, 3, 12, true), (⟨#[62, 61]⟩, 3, 13, true), (⟨#[43, 43]⟩, 4, 9, false), (⟨#[43]⟩, 5, 4, false), (minS, 5, 5, false), (⟨#[42]⟩, 6, 6, false), (⟨#[47]⟩, 6, 7, false), (⟨#[37]⟩, 6, 8, false)]
def infW (s : ByteArray) (l : Int) : Option (ByteArray × Int × Int × Bool) := infL.find? fun o => eqS o.1 s && decide (o.2.1 = l)
theorem infW_bin {t : TA} (h : OkT1 t) {lvl : Nat} (hl : lvl = 0 ∨ lvl = 1 ∨ lvl = 4 ∨ lvl = 5 ∨ lvl = 6) : (infW (wT t) lvl).map (fun o => (o.2.2.1, o.2.2.2)) = (binO lvl t).map fun op => (op, false) := by
 have y : ∀ s, qualB s = false → eqS ⟨#[]⟩ s = false → eqS s (wT t) = symT t s := fun s a b => by rw [eqS_comm]; exact wT_sym h a b
 have z : ∀ s, symB s = false → eqS ⟨#[]⟩ s = false → eqS s (wT t) = wrdT t s := fun s a b => by rw [eqS_comm]; exact wT_wrd h a b
 have w0 := z orS (by decide +kernel) (by decide +kernel)
 have w1 := z andS (by decide +kernel) (by decide +kernel)
 have s1 := y ⟨#[43, 43]⟩ (by decide +kernel) (by decide +kernel)
 have s2 := y ⟨#[43]⟩ (by decide +kernel) (by decide +kernel)
 have s3 := y minS (by decide +kernel) (by decide +kernel)
 have s4 := y ⟨#[42]⟩ (by decide +kernel) (by decide +kernel)
 have s5 := y ⟨#[47]⟩ (by decide +kernel) (by decide +kernel)
 have s6 := y ⟨#[37]⟩ (by decide +kernel) (by decide +kernel)
 unfold infW infL binO
 rcases hl with rfl | rfl | rfl | rfl | rfl
 ·simp only [List.find?, w0]
  cases wrdT t orS <;> simp
 ·simp only [List.find?, w1]
  cases wrdT t andS <;> simp
 ·simp only [List.find?, s1]
  cases symT t ⟨#[43, 43]⟩ <;> simp
 ·simp only [List.find?, s2, s3]
  cases symT t ⟨#[43]⟩ <;> cases symT t minS <;> simp
 ·simp only [List.find?, s4, s5, s6]
  cases symT t ⟨#[42]⟩ <;> cases symT t ⟨#[47]⟩ <;> cases symT t ⟨#[37]⟩ <;> simp
theorem infW_cmp {t : TA} (h : OkT1 t) : (infW (wT t) 3).map (fun o => (o.2.2.1, o.2.2.2)) = cmpO t := by
 have y : ∀ s, qualB s = false → eqS ⟨#[]⟩ s = false → eqS s (wT t) = symT t s := fun s a b => by rw [eqS_comm]; exact wT_sym h a b
 have s1 := y ⟨#[61]⟩ (by decide +kernel) (by decide +kernel)
 have s2 := y ⟨#[33, 61]⟩ (by decide +kernel) (by decide +kernel)
 have s3 := y ⟨#[60]⟩ (by decide +kernel) (by decide +kernel)
 have s4 := y ⟨#[60, 61]⟩ (by decide +kernel) (by decide +kernel)
 have s5 := y ⟨#[62]⟩ (by decide +kernel) (by decide +kernel)
 have s6 := y ⟨#[62, 61]⟩ (by decide +kernel) (by decide +kernel)
 unfold infW infL cmpO
 simp only [List.find?, s1, s2, s3, s4, s5, s6]
 cases symT t ⟨#[61]⟩ <;> cases symT t ⟨#[33, 61]⟩ <;> cases symT t ⟨#[60]⟩ <;> cases symT t ⟨#[60, 61]⟩ <;> cases symT t ⟨#[62]⟩ <;> cases symT t ⟨#[62, 61]⟩ <;> simp
end Wh
namespace Go.Proofs.YtmdpjahhhfajaaaGreatDoor
open Go.RowKit Wh
abbrev Pr (w : World) (b : Nat) (sl : Value) (i d : Nat) (x : Int) : Prop := Box4 w b sl (.int .i64 i) (.int .i64 d) (.int .i64 x) 67
abbrev ptr (b : Nat) : Value := .pointer (some ⟨b, 0, none⟩)
theorem grown_set (w : World) (b j : Nat) (v : Value) : w.grownBy (w.setCell ⟨b, j, none⟩ v) (some b) := by
 refine ⟨rfl, rfl, rfl, by simp [World.setCell], fun k hk hne => ?_⟩
 exact Below.heap_setCell _ _ _ _ (by simpa using hne)
theorem grown_below {w w' : World} (h : Below w.heap.size w w') (row : Option Nat) : w.grownBy w' row := ⟨h.os, h.tape, h.output, h.size, fun k hk _ => h.block k hk⟩
theorem IsToks.grown {w w' : World} {a : Option Addr} {len b : Nat} {ts : List TA} (h : IsToks w a len ts) (hg : w.grownBy w' (some b)) (hf : ∀ x, a = some x → x.block ≠ b) : IsToks w' a len ts := by
 obtain ⟨h1, h2⟩ := h
 refine ⟨h1, ?_⟩
 rcases h2 with h2 | ⟨g, off, ha, hlt, hc⟩
 ·exact .inl h2
 ·have e : ∀ o, w'.cell? ⟨g, o, none⟩ = w.cell? ⟨g, o, none⟩ := fun o => hg.cell_far ⟨g, o, none⟩ hlt (by have := hf _ ha; simpa using this)
  refine .inr ⟨g, off, ha, Nat.lt_of_lt_of_le hlt hg.size, fun i s hs => ?_⟩
  rw [e, e, e, e]
  exact hc i s hs
end Go.Proofs.YtmdpjahhhfajaaaGreatDoor
namespace Go.Proofs.YtmdpjahhhfajaaaGreatDoor
open Go.RowKit Wh
theorem Pr.set1 {w : World} {b : Nat} {sl : Value} {i d : Nat} {x : Int} (h : Pr w b sl i d x) (j : Nat) : Pr (w.setCell ⟨b, 1, none⟩ (.int .i64 (j : Int))) b sl j d x := by
 refine ⟨?_⟩
 have hb := h.block
 simp only [World.setCell, Array.getElem?_modify, if_pos]
 rw [hb]
 rfl
theorem Pr.set2 {w : World} {b : Nat} {sl : Value} {i d : Nat} {x : Int} (h : Pr w b sl i d x) (j : Nat) : Pr (w.setCell ⟨b, 2, none⟩ (.int .i64 (j : Int))) b sl i j x := by
 refine ⟨?_⟩
 have hb := h.block
 simp only [World.setCell, Array.getElem?_modify, if_pos]
 rw [hb]
 rfl
end Go.Proofs.YtmdpjahhhfajaaaGreatDoor
namespace Go.Proofs.YtmdpjahhhfajaaaGreatDoor
open Go.RowKit Wh
theorem hasB_res (s : ByteArray) : hasB resL s = resB s := rfl
set_option maxHeartbeats 1000000 in
theorem rreserved_any (s : ByteArray) (w : World) : Calls Tryz.prog 111 #[.string s] w fun e w' => e = .returned (.bool (resB s)) ∧ Below w.heap.size w w' := by
 go_enter Tryz.func111, Tryz.ntmps111
 go_wp2_with fail
 have HS : IsStrs (w.alloc (.cells #[.string ⟨#[97, 110, 100]⟩, .string ⟨#[111, 114]⟩, .string ⟨#[110, 111, 116]⟩, .string ⟨#[110, 117, 108, 108]⟩, .string ⟨#[116, 114, 117, 101]⟩, .string ⟨#[102, 97, 108, 115, 101]⟩, .string ⟨#[98, 121]⟩, .string ⟨#[115, 101, 108, 102]⟩] 9)) (some ⟨w.heap.size, 0, none⟩) 8 resL := by
  refine ⟨rfl, .inr ⟨w.heap.size, 0, rfl, by simp, fun i x hx => ?_⟩⟩
  have h1 : (resL.map Value.string)[i]? = some (.string x) := by rw [List.getElem?_map, hx]; rfl
  rw [Nat.zero_add]
  exact (cell_of_row _ _ i _ _ _ (heap_alloc_new w _)).trans (by rw [← Array.getElem?_toList]; exact h1)
 refine (has_any _ 8 8 resL s _ HS (by decide)).mono ?_
 rintro e w1 ⟨rfl, rfl⟩
 go_wp2_with fail
 go_ret
 exact ⟨by rw [hasB_res]; rfl, (Below.refl _ _).alloc (Nat.le_refl _) _⟩
end Go.Proofs.YtmdpjahhhfajaaaGreatDoor
namespace Wh
open Go Go.Proofs.YtmdpjahhhfajaaaGreatDoor
end Wh
namespace Go.Proofs.YtmdpjahhhfajaaaGreatDoor
open Go.RowKit Wh
end Go.Proofs.YtmdpjahhhfajaaaGreatDoor
namespace Go.Proofs.YtmdpjahhhfajaaaGreatDoor
open Go.RowKit Wh
theorem nodes_news {w : World} {b off len : Nat} {ts : List Nd} (h : IsNodes w (some ⟨b, off, none⟩) len ts) : ∀ j u, (nodesL ts)[j]? = some u → w.cell? ((⟨b, off, none⟩ : Addr).add j) = some u := by
 intro j u hu
 have hadd : (⟨b, off, none⟩ : Addr).add j = ⟨b, off + j, none⟩ := by unfold Addr.add; split <;> simp_all
 rw [hadd]
 have hlt := (List.getElem?_eq_some_iff.1 hu).1
 rw [nodesL_length] at hlt
 obtain ⟨t, ht⟩ : ∃ t, ts[j / 6]? = some t := ⟨_, List.getElem?_eq_getElem (by omega)⟩
 obtain ⟨f0, f1, f2, f3, f4, f5⟩ := nodesL_at ts (j / 6) t ht
 rcases h.2 with h0 | ⟨b', off', ha, _, hat⟩
 ·rw [h0] at ht; simp at ht
 ·cases ha
  obtain ⟨e0, e1, e2, e3, e4, e5⟩ := hat _ _ ht
  have h6 : j % 6 = 0 ∨ j % 6 = 1 ∨ j % 6 = 2 ∨ j % 6 = 3 ∨ j % 6 = 4 ∨ j % 6 = 5 := by omega
  rcases h6 with h6 | h6 | h6 | h6 | h6 | h6
  ·rw [show j = j / 6 * 6 by omega] at hu ⊢
   rw [f0] at hu; cases hu; exact e0
  ·rw [show j = j / 6 * 6 + 1 by omega] at hu ⊢
   rw [f1] at hu; cases hu; exact e1
  ·rw [show j = j / 6 * 6 + 2 by omega] at hu ⊢
   rw [f2] at hu; cases hu; exact e2
  ·rw [show j = j / 6 * 6 + 3 by omega] at hu ⊢
   rw [f3] at hu; cases hu; exact e3
  ·rw [show j = j / 6 * 6 + 4 by omega] at hu ⊢
   rw [f4] at hu; cases hu; exact e4
  ·rw [show j = j / 6 * 6 + 5 by omega] at hu ⊢
   rw [f5] at hu; cases hu; exact e5
theorem nodes_one (ts : List Nd) : ∀ u ∈ nodesL ts, u.oneCell' = true := by
 intro u hu
 unfold nodesL at hu
 rw [List.mem_flatMap] at hu
 obtain ⟨t, ht, hu⟩ := hu
 simp only [c6, List.mem_cons, List.not_mem_nil, or_false] at hu
 rcases hu with rfl | rfl | rfl | rfl | rfl | rfl <;> rfl
theorem run_app_nodes {w : World} {base n : Nat} {v : Value} {l : List Nd} {ra : Option Addr} {rl rc : Nat} {r : List Nd} (ty : TypeId) (hown : w.ownsRow base 53 6 v n (nodesL l)) (hb : base ≤ w.heap.size) (h : IsNodes w ra rl r) (hn : ra = none → rc = 0) (hl : rl ≤ 1000000) (hnn : n ≤ 1000000) :
  ∃ v' w', (Builtin.append_ #[30, 30] ty #[v, .slice ra rl rc]).run Tryz.prog w = .ok v' w' ∧ w'.ownsRow base 53 6 v' (n + rl) (nodesL (l ++ r)) ∧ w.grownBy w' v.ownBlock := by
 obtain ⟨i0, hi, hz0, hz1, hz2⟩ := info_parts info_node
 have hrl := h.1
 cases ra with
 | none =>
  obtain rfl := hn rfl
  obtain rfl : r = [] := by
   rcases h.2 with h | ⟨b, off, h, _⟩
   ·exact h
   ·cases h
  obtain rfl : rl = 0 := by simpa using hrl.symm
  refine ⟨v, w, run_append_owned_none (P := Tryz.prog) w base 30 ty 53 i0 6 Tryz.underlying30 hi v n _ hown, ?_, ⟨rfl, rfl, rfl, Nat.le_refl _, fun _ _ _ => rfl⟩⟩
  simpa using hown
 | some ad =>
  have hnews : ∀ j u, (nodesL r)[j]? = some u → w.cell? (ad.add j) = some u := by
   rcases h.2 with h0 | ⟨b, off, h0, _⟩
   ·intro j u hu; rw [h0] at hu; simp [nodesL] at hu
   ·cases h0; exact nodes_news h
  obtain ⟨v', w', hr, h2, h3, _, _⟩ := run_append_own_at (P := Tryz.prog) w base 30 ty 53 i0 _ 6 64 Tryz.underlying30 hi hz0 hz1 hz2 rfl (by decide) v n (nodesL l) hown ad rl rc (nodesL r) (by rw [nodesL_length, hrl]) hnews (nodes_one r) (by unfold maxLen; omega) (by omega) hb
  refine ⟨v', w', hr, ?_, h3⟩
  rw [nodesL_app]
  exact h2
theorem wpList_app {w : World} {ops : Array Oper} {rest : List Oper} {o : Oper} {a : Act} {Q : Exit → Act → World → Prop} (hgd : o.guard = none) (s x : Operand)
  (ho : o.op = .call { callee := .builtin .append, args := #[s, x], argTypes := #[30, 30] }) {base n : Nat} {v : Value} {l : List Nd} (hs : a.eval s = v)
  {ra : Option Addr} {rl rc : Nat} {r : List Nd} (hx : a.eval x = .slice ra rl rc) (hown : w.ownsRow base 53 6 v n (nodesL l)) (hb : base ≤ w.heap.size) (hv : IsNodes w ra rl r) (hn : ra = none → rc = 0) (hl : rl ≤ 1000000) (hnn : n ≤ 1000000)
  (h : ∀ v' w', w'.ownsRow base 53 6 v' (n + rl) (nodesL (l ++ r)) → w.grownBy w' v.ownBlock → wpList Tryz.prog ops Q rest (a.put o.dst v') w') :
  wpList Tryz.prog ops Q (o :: rest) a w := by
 refine wpList_plain hgd fun K hK => ?_
 obtain ⟨v', w', hr, h2, h3⟩ := run_app_nodes o.type hown hb hv hn hl hnn
 unfold Oper.wp execOp
 simp only [ho, resolve, invoke, builtin, Sem.run_bind, Sem.run_pure, Result.andThen_ok, List.map_toArray, List.map_cons, List.map_nil, hs, hx, hr]
 exact hK _ _ (h v' w' h2 h3)
end Go.Proofs.YtmdpjahhhfajaaaGreatDoor
namespace Go.Proofs.YtmdpjahhhfajaaaGreatDoor
open Go.RowKit Wh
abbrev opN (op : Int) : Nd := ⟨op, ⟨0, 0, ⟨#[]⟩⟩, ⟨#[]⟩, 0⟩
theorem lit_node (w : World) (t : Nd) : IsNodes (w.alloc (.cells #[.int .i64 t.op, .int .i64 t.v.k, .int .i64 t.v.n, .string t.v.s, .string t.nm, .int .i64 t.ar] 53)) (some ⟨w.heap.size, 0, none⟩) 1 [t] := by
 have hh := heap_alloc_new w (.cells #[.int .i64 t.op, .int .i64 t.v.k, .int .i64 t.v.n, .string t.v.s, .string t.nm, .int .i64 t.ar] 53)
 refine ⟨rfl, .inr ⟨w.heap.size, 0, rfl, by simp, fun i u hu => ?_⟩⟩
 cases i with
 | zero =>
  simp only [List.getElem?_cons_zero, Option.some.injEq] at hu
  subst hu
  exact ⟨cell_of_row _ _ 0 _ _ _ hh, cell_of_row _ _ 1 _ _ _ hh, cell_of_row _ _ 2 _ _ _ hh, cell_of_row _ _ 3 _ _ _ hh, cell_of_row _ _ 4 _ _ _ hh, cell_of_row _ _ 5 _ _ _ hh⟩
 | succ i => simp at hu
end Go.Proofs.YtmdpjahhhfajaaaGreatDoor
