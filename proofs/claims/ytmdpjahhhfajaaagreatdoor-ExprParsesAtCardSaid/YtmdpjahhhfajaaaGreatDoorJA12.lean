/-
  The syntax of expressions, plainly: what a text's tokens are read as, with fuel; the first error and its token. No program's functions. · What is read, plainly: bounds of the places and of the nodes; too deep operands. No program's functions.
-/
import Derived.Test.YtmdpjahhhfajaaaGreatDoorJA11
import Derived.Test.YtmdpjahhhfajaaaGreatDoorJA06
set_option linter.unusedVariables false
set_option maxRecDepth 100000
namespace Wh
open Go Go.Proofs.YtmdpjahhhfajaaaGreatDoor

abbrev cstN (k n : Int) (s : ByteArray) : Nd := ⟨0, ⟨k, n, s⟩, ⟨#[]⟩, 0⟩
abbrev opNd (op : Int) : Nd := ⟨op, ⟨0, 0, ⟨#[]⟩⟩, ⟨#[]⟩, 0⟩

/-- What is read: nodes and the token behind them; or an error and its token. -/
inductive PO where
  | ok (e : List Nd) (i : Nat)
  | bad (c : Int) (i : Nat)

/-- What is read behind what has been read. -/
def seqP (P : PO) (k : List Nd → Nat → PO) : PO := match P with | .bad c j => .bad c j | .ok e j => k e j
theorem seqP_ok (e : List Nd) (j : Nat) (k : List Nd → Nat → PO) : seqP (.ok e j) k = k e j := rfl
theorem seqP_bad (c : Int) (j : Nat) (k : List Nd → Nat → PO) : seqP (.bad c j) k = .bad c j := rfl

/-- The token at place i; the last one counts for all behind it. -/
def tkA (ts : List TA) (i : Nat) : TA := ts.getD (min i (ts.length - 1)) (⟨0, ⟨#[]⟩, 0⟩, 0)
/-- Is the token this symbol, this word? -/
def symT (t : TA) (s : ByteArray) : Bool := decide (t.1.k = 5) && eqS t.1.tx s
def wrdT (t : TA) (s : ByteArray) : Bool := decide (t.1.k = 1) && eqS t.1.tx s

def nulS : ByteArray := ⟨#[110, 117, 108, 108]⟩
def truS : ByteArray := ⟨#[116, 114, 117, 101]⟩
def falS : ByteArray := ⟨#[102, 97, 108, 115, 101]⟩
def opnS : ByteArray := ⟨#[40]⟩
def clsS : ByteArray := ⟨#[41]⟩
def comS : ByteArray := ⟨#[44]⟩
def minS : ByteArray := ⟨#[45]⟩
def notS : ByteArray := ⟨#[110, 111, 116]⟩
def andS : ByteArray := ⟨#[97, 110, 100]⟩
def orS : ByteArray := ⟨#[111, 114]⟩
def dayS : ByteArray := ⟨#[100, 97, 121]⟩

/-- Can an operand without not begin with the token t, in front of u? -/
def begT (t u : TA) : Bool :=
  if t.1.k = 2 ∨ t.1.k = 3 ∨ t.1.k = 4 then true
  else if t.1.k = 1 then
    if eqS t.1.tx nulS = true ∨ eqS t.1.tx truS = true ∨ eqS t.1.tx falS = true then true
    else !resB t.1.tx && (symT u opnS || nameB t.1.tx)
  else symT t minS || symT t opnS

/-- The operators of a level that are grouped from the left. -/
def binO (lvl : Nat) (t : TA) : Option Int :=
  if lvl = 0 then (if wrdT t orS = true then some 15 else none)
  else if lvl = 1 then (if wrdT t andS = true then some 14 else none)
  else if lvl = 4 then (if symT t ⟨#[43, 43]⟩ = true then some 9 else none)
  else if lvl = 5 then (if symT t ⟨#[43]⟩ = true then some 4 else if symT t minS = true then some 5 else none)
  else (if symT t ⟨#[42]⟩ = true then some 6 else if symT t ⟨#[47]⟩ = true then some 7 else if symT t ⟨#[37]⟩ = true then some 8 else none)
/-- The comparisons: the operator, and whether its operands are swapped. -/
def cmpO (t : TA) : Option (Int × Bool) :=
  if symT t ⟨#[61]⟩ = true then some (10, false) else if symT t ⟨#[33, 61]⟩ = true then some (11, false)
  else if symT t ⟨#[60]⟩ = true then some (12, false) else if symT t ⟨#[60, 61]⟩ = true then some (13, false)
  else if symT t ⟨#[62]⟩ = true then some (12, true) else if symT t ⟨#[62, 61]⟩ = true then some (13, true) else none

/-- What a name that is no word of the language and is followed by '(' calls: the built-in function's operator and the number of its operands. -/
def callO (s : ByteArray) (n : Nat) : Nd × Int :=
  if eqS s ⟨#[105, 102]⟩ = true then (opNd 17, 3) else if eqS s ⟨#[99, 111, 97, 108, 101, 115, 99, 101]⟩ = true then (opNd 18, 2)
  else if eqS s ⟨#[105, 115, 110, 117, 108, 108]⟩ = true then (opNd 16, 1) else if eqS s ⟨#[108, 101, 110, 103, 116, 104]⟩ = true then (opNd 19, 1)
  else (⟨21, ⟨0, 0, ⟨#[]⟩⟩, s, n⟩, n)

/-- Operands with the operators of a level between them; rd reads an operand. -/
def lpT (ts : List TA) (rd : Nat → PO) (lvl : Nat) : Nat → List Nd → Nat → PO
  | 0, e, i => .bad 0 i
  | g + 1, e, i =>
    match binO lvl (tkA ts i) with
    | none => .ok e i
    | some op =>
      match rd (i + 1) with
      | .bad c j => .bad c j
      | .ok e2 j => lpT ts rd lvl g (e ++ e2 ++ [opNd op]) j

/-- What stands behind a call's operands. -/
def finT (s : ByteArray) (rs : List (List Nd)) (j : Nat) : PO :=
  if 8 < rs.length ∨ (callO s rs.length).2 ≠ rs.length then .bad 3 j else .ok (rs.flatten ++ [(callO s rs.length).1]) (j + 1)
/-- A call's operands; rd reads one. -/
def agT (ts : List TA) (rd : Nat → PO) (s : ByteArray) : Nat → List (List Nd) → Nat → PO
  | 0, rs, i => .bad 0 i
  | g + 1, rs, i =>
    match rd i with
    | .bad c j => .bad c j
    | .ok e j =>
      if symT (tkA ts j) clsS = true then finT s (rs ++ [e]) j
      else if symT (tkA ts j) comS = true then agT ts rd s g (rs ++ [e]) (j + 1)
      else .bad 3 j
/-- What stands behind the first operand of day. -/
def dayT (ts : List TA) (e : List Nd) (j : Nat) : PO :=
  if symT (tkA ts j) comS = false then .bad 3 j
  else if ¬ (tkA ts (j + 1)).1.k = 1 ∨ resB (tkA ts (j + 1)).1.tx = true then .bad 3 (j + 1)
  else if symT (tkA ts (j + 2)) clsS = false then .bad 3 (j + 2)
  else .ok (e ++ [⟨20, ⟨0, 0, ⟨#[]⟩⟩, (tkA ts (j + 1)).1.tx, 0⟩]) (j + 3)

/-- What begins at token i, at a level (0 or, 1 and, 2 not, 3 compare, 4 concat, 5 sum, 6 product, 7 unary, 8 primary), in d parentheses and prefix operators. -/
def prT (ts : List TA) : Nat → Nat → Nat → Nat → PO
  | 0, _, i, _ => .bad 0 i
  | f + 1, lvl, i, d =>
    if lvl = 2 then
      if wrdT (tkA ts i) notS = true then
        if 256 < d then .bad 2 i
        else match prT ts f 2 (i + 1) (d + 1) with
          | .bad c j => .bad c j
          | .ok e j => .ok (e ++ [opNd 2]) j
      else prT ts f 3 i d
    else if lvl = 3 then
      match prT ts f 4 i d with
      | .bad c j => .bad c j
      | .ok e j =>
        match cmpO (tkA ts j) with
        | none => .ok e j
        | some (op, sw) =>
          match prT ts f 4 (j + 1) d with
          | .bad c j2 => .bad c j2
          | .ok e2 j2 => .ok ((if sw = true then e2 ++ e else e ++ e2) ++ [opNd op]) j2
    else if lvl = 7 then
      if begT (tkA ts i) (tkA ts (i + 1)) = false then .bad 3 i
      else if 256 < d then .bad 2 i
      else if symT (tkA ts i) minS = true then
        if (tkA ts (i + 1)).1.k = 2 then .ok [cstN 2 (-(tkA ts (i + 1)).1.nm) ⟨#[]⟩] (i + 2)
        else match prT ts f 7 (i + 1) (d + 1) with
          | .bad c j => .bad c j
          | .ok e j => .ok (e ++ [opNd 3]) j
      else prT ts f 8 i d
    else if lvl = 8 then
      if (tkA ts i).1.k = 2 then .ok [cstN 2 (tkA ts i).1.nm ⟨#[]⟩] (i + 1)
      else if (tkA ts i).1.k = 3 then .ok [cstN 3 0 (tkA ts i).1.tx] (i + 1)
      else if (tkA ts i).1.k = 4 then .ok [cstN 4 (tkA ts i).1.nm ⟨#[]⟩] (i + 1)
      else if (tkA ts i).1.k = 1 then
        if eqS (tkA ts i).1.tx nulS = true then .ok [cstN 0 0 ⟨#[]⟩] (i + 1)
        else if eqS (tkA ts i).1.tx truS = true then .ok [cstN 1 1 ⟨#[]⟩] (i + 1)
        else if eqS (tkA ts i).1.tx falS = true then .ok [cstN 1 0 ⟨#[]⟩] (i + 1)
        else if symT (tkA ts (i + 1)) opnS = true then
          if eqS (tkA ts i).1.tx dayS = true then
            match prT ts f 0 (i + 2) (d + 1) with
            | .bad c j => .bad c j
            | .ok e j => dayT ts e j
          else if symT (tkA ts (i + 2)) clsS = true then finT (tkA ts i).1.tx [] (i + 2)
          else agT ts (fun i => prT ts f 0 i (d + 1)) (tkA ts i).1.tx ts.length [] (i + 2)
        else .ok [⟨1, ⟨0, 0, ⟨#[]⟩⟩, (tkA ts i).1.tx, 0⟩] (i + 1)
      else
        match prT ts f 0 (i + 1) (d + 1) with
        | .bad c j => .bad c j
        | .ok e j => if symT (tkA ts j) clsS = true then .ok e (j + 1) else .bad 3 j
    else
      match prT ts f (lvl + 1) i d with
      | .bad c j => .bad c j
      | .ok e j => lpT ts (fun i => prT ts f (lvl + 1) i d) lvl ts.length e j

end Wh
set_option linter.unusedVariables false
set_option linter.unusedSimpArgs false
set_option maxRecDepth 100000
namespace Wh
open Go Go.Proofs.YtmdpjahhhfajaaaGreatDoor

/-- There is a last token, the end, and it is the only end. -/
def EndT (ts : List TA) : Prop := 1 ≤ ts.length ∧ ∀ i, i < ts.length → ((tkA ts i).1.k = 0 ↔ i + 1 = ts.length)
theorem tkA_get {ts : List TA} (h : 1 ≤ ts.length) (i : Nat) : ts[min i (ts.length - 1)]? = some (tkA ts i) := by
  unfold tkA
  rw [List.getD_eq_getElem?_getD, List.getElem?_eq_getElem (by omega)]
  rfl
theorem tkA_in {ts : List TA} {i : Nat} (h : i < ts.length) : ts[i]? = some (tkA ts i) := by
  have := tkA_get (ts := ts) (by omega) i
  rwa [Nat.min_eq_left (by omega)] at this
theorem valE_end {ts : List TA} (h : valE ts = 0) : EndT ts := by
  obtain ⟨h1, h2⟩ := valE_zero h
  refine ⟨h1, fun i hi => ?_⟩
  have := h2 i hi
  rw [okAt_some (tkA_in hi)] at this
  simp only [Bool.and_eq_true, beq_iff_eq, decide_eq_decide] at this
  exact this.1
/-- What is read from a place on lies in its bounds. -/
def Gd (ts : List TA) (i : Nat) (b : Prop) : PO → Prop
  | .ok e j => i < j ∧ j < ts.length ∧ 1 ≤ e.length ∧ e.length ≤ j - i ∧ b
  | .bad c j => (c = 2 ∨ c = 3) ∧ i ≤ j ∧ j < ts.length
theorem Gd.mono {ts : List TA} {i i' : Nat} {b b' : Prop} {P : PO} (h : Gd ts i b P) (hi : i' ≤ i) (hb : b → b') : Gd ts i' b' P := by
  cases P with
  | ok e j => exact ⟨by have := h.1; omega, h.2.1, h.2.2.1, by have := h.2.2.2.1; have := h.1; omega, hb h.2.2.2.2⟩
  | bad c j => exact ⟨h.1, by have := h.2.1; omega, h.2.2⟩

theorem symT_k {t : TA} {s : ByteArray} (h : symT t s = true) : t.1.k = 5 ∧ t.1.tx = s := by
  unfold symT at h
  rw [Bool.and_eq_true, decide_eq_true_eq, eqS_iff] at h
  exact h
theorem wrdT_k {t : TA} {s : ByteArray} (h : wrdT t s = true) : t.1.k = 1 ∧ t.1.tx = s := by
  unfold wrdT at h
  rw [Bool.and_eq_true, decide_eq_true_eq, eqS_iff] at h
  exact h
theorem symT_not {t : TA} {s : ByteArray} (h : ¬ t.1.k = 5) : symT t s = false := by unfold symT; rw [decide_eq_false h]; rfl
theorem wrdT_not {t : TA} {s : ByteArray} (h : ¬ t.1.k = 1) : wrdT t s = false := by unfold wrdT; rw [decide_eq_false h]; rfl
theorem binO_k {lvl : Nat} {t : TA} {op : Int} (h : binO lvl t = some op) : ¬ t.1.k = 0 := by
  intro h0
  have h1 : ∀ s, symT t s = false := fun s => symT_not (by omega)
  have h2 : ∀ s, wrdT t s = false := fun s => wrdT_not (by omega)
  unfold binO at h
  simp [h1, h2] at h
theorem cmpO_k {t : TA} {x : Int × Bool} (h : cmpO t = some x) : ¬ t.1.k = 0 := by
  intro h0
  have h1 : ∀ s, symT t s = false := fun s => symT_not (by omega)
  unfold cmpO at h
  simp [h1] at h
theorem begT_k {t u : TA} (h : begT t u = true) : ¬ t.1.k = 0 := by
  intro h0
  have h1 : ∀ s, symT t s = false := fun s => symT_not (by omega)
  unfold begT at h
  simp [h1, h0] at h

theorem lpT_gd {ts : List TA} (hE : EndT ts) {rd : Nat → PO} {lvl i0 : Nat} {b : Prop} (hb : b) (hr : ∀ i, i0 < i → i < ts.length → Gd ts i True (rd i)) :
    ∀ (g : Nat) (e : List Nd) (i : Nat), i0 < i → i < ts.length → ts.length ≤ i + g → 1 ≤ e.length → e.length ≤ i - i0 → Gd ts i0 b (lpT ts rd lvl g e i) := by
  intro g
  induction g with
  | zero => intro e i h1 h2 h3; omega
  | succ g ih =>
    intro e i h1 h2 h3 h4 h5
    unfold lpT
    cases hO : binO lvl (tkA ts i) with
    | none => exact ⟨h1, h2, h4, h5, hb⟩
    | some op =>
      have hk := binO_k hO
      have hi : i + 1 < ts.length := by
        have := (hE.2 i h2).2
        by_cases h : i + 1 = ts.length
        · exact absurd (this h) hk
        · omega
      have hg := hr (i + 1) (by omega) hi
      simp only
      cases hR : rd (i + 1) with
      | bad c j =>
        rw [hR] at hg
        exact ⟨hg.1, by have := hg.2.1; omega, hg.2.2⟩
      | ok e2 j =>
        rw [hR] at hg
        obtain ⟨g1, g2, g3, g4, _⟩ := hg
        refine ih _ _ (by omega) g2 (by omega) ?_ ?_
        · simp only [List.length_append, List.length_cons, List.length_nil]; omega
        · simp only [List.length_append, List.length_cons, List.length_nil]; omega

theorem agT_gd {ts : List TA} (hE : EndT ts) {rd : Nat → PO} {s : ByteArray} {i0 : Nat} {b : Prop} (hb : b) (hr : ∀ i, i0 < i → i < ts.length → Gd ts i True (rd i)) :
    ∀ (g : Nat) (rs : List (List Nd)) (i : Nat), i0 < i → i < ts.length → ts.length ≤ i + g → rs.flatten.length ≤ i - i0 → Gd ts i0 b (agT ts rd s g rs i) := by
  have fin : ∀ (rs : List (List Nd)) (j : Nat), i0 < j → j < ts.length → ¬ (tkA ts j).1.k = 0 → rs.flatten.length ≤ j - i0 → Gd ts i0 b (finT s rs j) := by
    intro rs j h1 h2 h3 h4
    unfold finT
    split
    · exact ⟨.inr rfl, by omega, h2⟩
    · have hi : j + 1 < ts.length := by
        have := (hE.2 j h2).2
        by_cases h : j + 1 = ts.length
        · exact absurd (this h) h3
        · omega
      exact ⟨by omega, hi, by simp, by simp only [List.length_append, List.length_cons, List.length_nil]; omega, hb⟩
  intro g
  induction g with
  | zero => intro rs i h1 h2 h3; omega
  | succ g ih =>
    intro rs i h1 h2 h3 h4
    unfold agT
    have hg := hr i h1 h2
    cases hR : rd i with
    | bad c j =>
      rw [hR] at hg
      exact ⟨hg.1, by have := hg.2.1; omega, hg.2.2⟩
    | ok e j =>
      rw [hR] at hg
      obtain ⟨g1, g2, g3, g4, _⟩ := hg
      have hl : (rs ++ [e]).flatten.length ≤ j - i0 := by
        simp only [List.flatten_append, List.flatten_cons, List.flatten_nil, List.append_nil, List.length_append]
        omega
      simp only
      by_cases hc : symT (tkA ts j) clsS = true
      · rw [if_pos hc]
        exact fin _ _ (by omega) g2 (by rw [(symT_k hc).1]; omega) hl
      · rw [if_neg hc]
        by_cases hm : symT (tkA ts j) comS = true
        · rw [if_pos hm]
          have hi : j + 1 < ts.length := by
            have := (hE.2 j g2).2
            by_cases h : j + 1 = ts.length
            · have := this h; rw [(symT_k hm).1] at this; omega
            · omega
          exact ih _ _ (by omega) hi (by omega) (by omega)
        · rw [if_neg hm]
          exact ⟨.inr rfl, by omega, g2⟩

theorem finT_gd {ts : List TA} (hE : EndT ts) {s : ByteArray} {i0 : Nat} {b : Prop} (hb : b) (rs : List (List Nd)) (j : Nat) (h1 : i0 < j) (h2 : j < ts.length) (h3 : ¬ (tkA ts j).1.k = 0) (h4 : rs.flatten.length ≤ j - i0) : Gd ts i0 b (finT s rs j) := by
  unfold finT
  split
  · exact ⟨.inr rfl, by omega, h2⟩
  · have hi : j + 1 < ts.length := by
      have := (hE.2 j h2).2
      by_cases h : j + 1 = ts.length
      · exact absurd (this h) h3
      · omega
    exact ⟨by omega, hi, by simp, by simp only [List.length_append, List.length_cons, List.length_nil]; omega, hb⟩

theorem dayT_gd {ts : List TA} (hE : EndT ts) {i0 : Nat} {b : Prop} (hb : b) (e : List Nd) (j : Nat) (h1 : i0 < j) (h2 : j < ts.length) (h4 : e.length ≤ j - i0) : Gd ts i0 b (dayT ts e j) := by
  have nx : ∀ k, k < ts.length → ¬ (tkA ts k).1.k = 0 → k + 1 < ts.length := fun k hk h => by
    have := (hE.2 k hk).2
    by_cases h' : k + 1 = ts.length
    · exact absurd (this h') h
    · omega
  unfold dayT
  by_cases c1 : symT (tkA ts j) comS = false
  · rw [if_pos c1]
    exact ⟨.inr rfl, by omega, h2⟩
  · rw [if_neg c1]
    have n1 := nx j h2 (by rw [(symT_k (by simpa using c1)).1]; omega)
    by_cases c2 : ¬ (tkA ts (j + 1)).1.k = 1 ∨ resB (tkA ts (j + 1)).1.tx = true
    · rw [if_pos c2]
      exact ⟨.inr rfl, by omega, n1⟩
    · rw [if_neg c2]
      have hk : (tkA ts (j + 1)).1.k = 1 := by
        by_cases h : (tkA ts (j + 1)).1.k = 1
        · exact h
        · exact absurd (.inl h) c2
      have n2 := nx (j + 1) n1 (by omega)
      by_cases c3 : symT (tkA ts (j + 2)) clsS = false
      · rw [if_pos c3]
        exact ⟨.inr rfl, by omega, n2⟩
      · rw [if_neg c3]
        have n3 := nx (j + 2) n2 (by rw [(symT_k (by simpa using c3)).1]; omega)
        exact ⟨by omega, n3, by simp, by simp only [List.length_append, List.length_cons, List.length_nil]; omega, hb⟩

/-- What level 8 asks of its place. -/
def At8 (ts : List TA) (lvl i : Nat) : Prop := lvl = 8 → begT (tkA ts i) (tkA ts (i + 1)) = true ∧ symT (tkA ts i) minS = false
theorem At8.no {ts : List TA} {lvl i : Nat} (h : lvl ≤ 7) : At8 ts lvl i := fun h' => by omega

set_option maxHeartbeats 1000000 in
/-- What is read lies in its bounds. -/
theorem pr_gd {ts : List TA} (hE : EndT ts) : ∀ (f lvl i d : Nat), lvl ≤ 8 → i < ts.length → 9 * (ts.length - i) + (8 - lvl) < f → At8 ts lvl i → Gd ts i (lvl ≤ 7 → d ≤ 256) (prT ts f lvl i d) := by
  have nx : ∀ k, k < ts.length → ¬ (tkA ts k).1.k = 0 → k + 1 < ts.length := fun k hk h => by
    have := (hE.2 k hk).2
    by_cases h' : k + 1 = ts.length
    · exact absurd (this h') h
    · omega
  intro f
  induction f with
  | zero => intro lvl i d _ _ h; omega
  | succ f ih =>
    intro lvl i d hl hi hm h8
    unfold prT
    by_cases l2 : lvl = 2
    · subst l2
      rw [if_pos rfl]
      by_cases c : wrdT (tkA ts i) notS = true
      · rw [if_pos c]
        have n1 := nx i hi (by rw [(wrdT_k c).1]; omega)
        by_cases hd : 256 < d
        · rw [if_pos hd]; exact ⟨.inl rfl, Nat.le_refl _, hi⟩
        · rw [if_neg hd]
          have hg := ih 2 (i + 1) (d + 1) (by omega) n1 (by omega) (At8.no (by omega))
          cases hR : prT ts f 2 (i + 1) (d + 1) with
          | bad c j => rw [hR] at hg; exact ⟨hg.1, by have := hg.2.1; omega, hg.2.2⟩
          | ok e j =>
            rw [hR] at hg
            obtain ⟨g1, g2, g3, g4, _⟩ := hg
            exact ⟨by omega, g2, by simp, by simp only [List.length_append, List.length_cons, List.length_nil]; omega, fun _ => by omega⟩
      · rw [if_neg c]
        exact (ih 3 i d (by omega) hi (by omega) (At8.no (by omega))).mono (Nat.le_refl _) (fun h _ => h (by omega))
    rw [if_neg l2]
    by_cases l3 : lvl = 3
    · subst l3
      rw [if_pos rfl]
      have hg := ih 4 i d (by omega) hi (by omega) (At8.no (by omega))
      cases hR : prT ts f 4 i d with
      | bad c j => rw [hR] at hg; exact hg
      | ok e j =>
        rw [hR] at hg
        obtain ⟨g1, g2, g3, g4, g5⟩ := hg
        have g5' := g5 (by omega)
        simp only
        cases hC : cmpO (tkA ts j) with
        | none => exact ⟨g1, g2, g3, g4, fun _ => g5'⟩
        | some x =>
          obtain ⟨op, sw⟩ := x
          have n1 := nx j g2 (cmpO_k hC)
          have hg2 := ih 4 (j + 1) d (by omega) n1 (by omega) (At8.no (by omega))
          simp only
          cases hR2 : prT ts f 4 (j + 1) d with
          | bad c j2 => rw [hR2] at hg2; exact ⟨hg2.1, by have := hg2.2.1; omega, hg2.2.2⟩
          | ok e2 j2 =>
            rw [hR2] at hg2
            obtain ⟨q1, q2, q3, q4, q5⟩ := hg2
            refine ⟨by omega, q2, by simp, ?_, fun _ => g5'⟩
            cases sw <;> simp only [if_true, Bool.false_eq_true, if_false, List.length_append, List.length_cons, List.length_nil] <;> omega
    rw [if_neg l3]
    by_cases l7 : lvl = 7
    · subst l7
      rw [if_pos rfl]
      by_cases c : begT (tkA ts i) (tkA ts (i + 1)) = false
      · rw [if_pos c]; exact ⟨.inr rfl, Nat.le_refl _, hi⟩
      · rw [if_neg c]
        have cb : begT (tkA ts i) (tkA ts (i + 1)) = true := by simpa using c
        by_cases hd : 256 < d
        · rw [if_pos hd]; exact ⟨.inl rfl, Nat.le_refl _, hi⟩
        · rw [if_neg hd]
          by_cases cm : symT (tkA ts i) minS = true
          · rw [if_pos cm]
            have n1 := nx i hi (by rw [(symT_k cm).1]; omega)
            by_cases k2 : (tkA ts (i + 1)).1.k = 2
            · rw [if_pos k2]
              have n2 := nx (i + 1) n1 (by omega)
              exact ⟨by omega, n2, by simp, by simp, fun _ => by omega⟩
            · rw [if_neg k2]
              have hg := ih 7 (i + 1) (d + 1) (by omega) n1 (by omega) (At8.no (by omega))
              cases hR : prT ts f 7 (i + 1) (d + 1) with
              | bad c j => rw [hR] at hg; exact ⟨hg.1, by have := hg.2.1; omega, hg.2.2⟩
              | ok e j =>
                rw [hR] at hg
                obtain ⟨g1, g2, g3, g4, _⟩ := hg
                exact ⟨by omega, g2, by simp, by simp only [List.length_append, List.length_cons, List.length_nil]; omega, fun _ => by omega⟩
          · rw [if_neg cm]
            have cm' : symT (tkA ts i) minS = false := by simpa using cm
            exact (ih 8 i d (by omega) hi (by omega) (fun _ => ⟨cb, cm'⟩)).mono (Nat.le_refl _) (fun h _ => by omega)
    rw [if_neg l7]
    by_cases l8 : lvl = 8
    · subst l8
      rw [if_pos rfl]
      obtain ⟨cb, cm⟩ := h8 rfl
      have n1 := nx i hi (begT_k cb)
      have one : ∀ (t : Nd), Gd ts i (8 ≤ 7 → d ≤ 256) (.ok [t] (i + 1)) := fun t => ⟨by omega, n1, by simp, by simp, fun h => by omega⟩
      by_cases k2 : (tkA ts i).1.k = 2
      · rw [if_pos k2]; exact one _
      rw [if_neg k2]
      by_cases k3 : (tkA ts i).1.k = 3
      · rw [if_pos k3]; exact one _
      rw [if_neg k3]
      by_cases k4 : (tkA ts i).1.k = 4
      · rw [if_pos k4]; exact one _
      rw [if_neg k4]
      by_cases k1 : (tkA ts i).1.k = 1
      · rw [if_pos k1]
        by_cases e1 : eqS (tkA ts i).1.tx nulS = true
        · rw [if_pos e1]; exact one _
        rw [if_neg e1]
        by_cases e2 : eqS (tkA ts i).1.tx truS = true
        · rw [if_pos e2]; exact one _
        rw [if_neg e2]
        by_cases e3 : eqS (tkA ts i).1.tx falS = true
        · rw [if_pos e3]; exact one _
        rw [if_neg e3]
        by_cases co : symT (tkA ts (i + 1)) opnS = true
        · rw [if_pos co]
          have n2 := nx (i + 1) n1 (by rw [(symT_k co).1]; omega)
          by_cases cd : eqS (tkA ts i).1.tx dayS = true
          · rw [if_pos cd]
            have hg := ih 0 (i + 2) (d + 1) (by omega) n2 (by omega) (At8.no (by omega))
            cases hR : prT ts f 0 (i + 2) (d + 1) with
            | bad c j => rw [hR] at hg; exact ⟨hg.1, by have := hg.2.1; omega, hg.2.2⟩
            | ok e j =>
              rw [hR] at hg
              obtain ⟨g1, g2, g3, g4, _⟩ := hg
              exact dayT_gd hE (fun h => by omega) e j (by omega) g2 (by omega)
          · rw [if_neg cd]
            by_cases cc : symT (tkA ts (i + 2)) clsS = true
            · rw [if_pos cc]
              exact finT_gd hE (fun h => by omega) _ _ (by omega) n2 (by rw [(symT_k cc).1]; omega) (by simp)
            · rw [if_neg cc]
              exact agT_gd hE (fun h => by omega) (fun k hk1 hk2 => (ih 0 k (d + 1) (by omega) hk2 (by omega) (At8.no (by omega))).mono (Nat.le_refl _) (fun _ => trivial)) _ _ _ (by omega) n2 (by omega) (by simp)
        · rw [if_neg co]; exact one _
      · rw [if_neg k1]
        have hg := ih 0 (i + 1) (d + 1) (by omega) n1 (by omega) (At8.no (by omega))
        cases hR : prT ts f 0 (i + 1) (d + 1) with
        | bad c j => rw [hR] at hg; exact ⟨hg.1, by have := hg.2.1; omega, hg.2.2⟩
        | ok e j =>
          rw [hR] at hg
          obtain ⟨g1, g2, g3, g4, _⟩ := hg
          simp only
          by_cases cc : symT (tkA ts j) clsS = true
          · rw [if_pos cc]
            have n2 := nx j g2 (by rw [(symT_k cc).1]; omega)
            exact ⟨by omega, n2, g3, by omega, fun h => by omega⟩
          · rw [if_neg cc]
            exact ⟨.inr rfl, by omega, g2⟩
    · rw [if_neg l8]
      have hg := ih (lvl + 1) i d (by omega) hi (by omega) (At8.no (by omega))
      cases hR : prT ts f (lvl + 1) i d with
      | bad c j => rw [hR] at hg; exact hg
      | ok e j =>
        rw [hR] at hg
        obtain ⟨g1, g2, g3, g4, g5⟩ := hg
        exact lpT_gd hE (fun _ => g5 (by omega)) (fun k hk1 hk2 => (ih (lvl + 1) k d (by omega) hk2 (by omega) (At8.no (by omega))).mono (Nat.le_refl _) (fun _ => trivial)) _ _ _ g1 g2 (by omega) g3 g4

end Wh
