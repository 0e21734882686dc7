/-
  The program's tables: built-in functions, binary operators. builtinOp, functionName, infixOfWord, infixOfOp. · Reserved, isToken and Validate, of package token.
-/
import Derived.Test.YtmdpjahhhfajaaaGreatDoorJA13
import Derived.Test.YtmdpjahhhfajaaaGreatDoorJA14
import Derived.Deep.MidRow
import Derived.LoopTactic
import Derived.Test.YtmdpjahhhfajaaaGreatDoorJA11
set_option linter.unusedVariables false
set_option linter.unusedSimpArgs false
set_option maxRecDepth 100000
namespace Wh
open Go Go.Proofs.YtmdpjahhhfajaaaGreatDoor

/-- The built-in functions and their operators. -/
def bltP : List (ByteArray × Int) := [(⟨#[105, 102]⟩, 17), (⟨#[99, 111, 97, 108, 101, 115, 99, 101]⟩, 18), (⟨#[105, 115, 110, 117, 108, 108]⟩, 16), (⟨#[108, 101, 110, 103, 116, 104]⟩, 19), (⟨#[100, 97, 121]⟩, 20)]
def bltC : List Value := bltP.flatMap fun p => [.string p.1, .int .i64 p.2]
/-- The operator of a built-in function. -/
def bltO (s : ByteArray) : Option (ByteArray × Int) := bltP.find? fun p => eqS p.1 s
/-- The built-in function of an operator. -/
def bltN (op : Int) : Option (ByteArray × Int) := bltP.find? fun p => decide (p.2 = op)
def infC : List Value := infL.flatMap fun o => [.string o.1, .int .i64 o.2.1, .int .i64 o.2.2.1, .bool o.2.2.2]
/-- The binary operator that is written for an operator. -/
def infO (op : Int) : Option (ByteArray × Int × Int × Bool) := infL.find? fun o => decide (o.2.2.1 = op) && !o.2.2.2
theorem find_step {α : Type} (p : α → Bool) (l : List α) (k : Nat) (x : α) (h : l[k]? = some x) (hn : ∀ (m : Nat) (y : α), m < k → l[m]? = some y → p y = false) : (p x = true → l.find? p = some x) := by
  intro hp
  induction l generalizing k with
  | nil => simp at h
  | cons y l ih =>
    cases k with
    | zero => simp at h; subst h; rw [List.find?_cons_of_pos hp]
    | succ k =>
      rw [List.find?_cons_of_neg (by rw [hn 0 y (by omega) rfl]; simp)]
      exact ih k (by simpa using h) fun m z hm hz => hn (m + 1) z (by omega) (by simpa using hz)
theorem find_none {α : Type} (p : α → Bool) (l : List α) (hn : ∀ (m : Nat) (y : α), l[m]? = some y → p y = false) : l.find? p = none := by
  rw [List.find?_eq_none]
  intro x hx
  obtain ⟨m, hm⟩ := List.mem_iff_getElem?.1 hx
  rw [hn m x hm]
  simp

end Wh
namespace Go.Proofs.YtmdpjahhhfajaaaGreatDoor
open Go.RowKit Wh

/-- The table of built-in functions lies in the world. -/
def TabB (w : World) : Prop := 1 < w.heap.size ∧ w.rangeAt 1 0 bltC
theorem TabB.below {w w' : World} {B : Nat} (h : TabB w) (hb : Below B w w') (hB : w.heap.size ≤ B) : TabB w' :=
  ⟨Nat.lt_of_lt_of_le h.1 hb.size, fun j v hv => by rw [hb.cell (p := ⟨1, 0 + j, none⟩) (Nat.lt_of_lt_of_le h.1 hB)]; exact h.2 j v hv⟩
theorem blt_index (k : Nat) (p : ByteArray × Int) (h : bltP[k]? = some p) (W : World) : (Instr.index 160 (.agg bltC.toArray) (.int .i64 k)).run Tryz.prog W = .ok (.agg #[.string p.1, .int .i64 p.2]) W := by
  have hk : k < 5 := (List.getElem?_eq_some_iff.1 h).1
  have h5 : k = 0 ∨ k = 1 ∨ k = 2 ∨ k = 3 ∨ k = 4 := by omega
  rcases h5 with rfl | rfl | rfl | rfl | rfl <;> cases h
  · rfl
  · rfl
  · rfl
  · rfl
  · rfl

set_option maxHeartbeats 4000000 in
theorem builtinOp_any (s : ByteArray) (w : World) (hT : TabB w) : Calls Tryz.prog 133 #[.string s] w fun e w' => e = .returned (.tuple #[.int .i64 ((bltO s).map (·.2) |>.getD 0), .bool (bltO s).isSome]) ∧ Below w.heap.size w w' := by
  obtain ⟨O, hO⟩ : ∃ O, bltO s = O := ⟨_, rfl⟩
  rw [hO]
  have HO := Lib.hid hO
  clear hO
  have hr := hT.2
  obtain ⟨A, hA⟩ : ∃ A, bltC.toArray = A := ⟨_, rfl⟩
  have HI := Lib.hid (fun k p h W => blt_index k p h W)
  rw [hA] at HI
  go_enter Tryz.func133, Tryz.ntmps133
  go_wp2_with (with_reducible refine wpList_load_mid (op := Oper.mk (some 6) (Op.load 160 (.global 1)) _ _ _ none) rfl 160 (.global 1) rfl 1 0 ?hx bltC _ hr Tryz.underlying160 ?hd ?hi ?hk)
  case hx => rfl
  case hd => rfl
  case hi => kernel_rfl
  clear hA hr
  go_loopw [7] (fun iv wr => ∃ k : Nat, k ≤ 5 ∧ iv = .int .i64 k ∧ Hid (∀ (m : Nat) p, m < k → bltP[m]? = some p → eqS p.1 s = false) ∧ Below w.heap.size w wr) (fun iv _ => 5 - (intOf iv).toNat)
  case atStart => exact ⟨0, by omega, rfl, fun m p h => by omega, Below.refl _ _⟩
  case round =>
    obtain ⟨k, hk, rfl, HN, hbel⟩ := hrel
    have hsz := hbel.size
    by_cases hlt : k < 5
    · obtain ⟨p, hp⟩ : ∃ p, bltP[k]? = some p := ⟨_, List.getElem?_eq_getElem (by simpa [bltP] using hlt)⟩
      have hix := HI.out k p hp
      have FS := Lib.hid (find_step (fun p => eqS p.1 s) bltP k p hp (fun m y hm hy => HN.out m y hm hy))
      by_cases he : eqS p.1 s = true
      · obtain rfl : O = some p := by rw [← HO.out]; exact FS.out he
        have he2 : (p.1.toList == s.toList) = true := he
        obtain ⟨nm, op⟩ := p
        clear FS he hp HO
        have HB := Lib.hid hbel
        clear hbel
        go_wp2_with fail
        go_ret2
        exact ⟨rfl, HB.out.alloc hsz _⟩
      · have he1 : eqS p.1 s = false := by simpa using he
        have he2 : (p.1.toList == s.toList) = false := he1
        have HN2 : Hid (∀ (m : Nat) q, m < k + 1 → bltP[m]? = some q → eqS q.1 s = false) := by
          intro m q hm hq
          by_cases hmk : m = k
          · subst hmk
            rw [hp] at hq
            cases hq
            exact he1
          · exact HN.out m q (by omega) hq
        obtain ⟨nm, op⟩ := p
        have HB := Lib.hid hbel
        clear FS he he1 hp hbel
        go_wp2_with fail
        go_roundw
        case rel => exact ⟨k + 1, by omega, by go_num, HN2, HB.out.alloc hsz _⟩
        case measure => simp [intOf]; omega
    · obtain rfl : k = 5 := by omega
      obtain rfl : O = none := by rw [← HO.out]; exact find_none _ _ fun m y hy => HN.out m y (by have := (List.getElem?_eq_some_iff.1 hy).1; simpa [bltP] using this) hy
      have HB := Lib.hid hbel
      clear hbel
      go_wp2_with fail
      go_ret2
      exact ⟨rfl, HB.out⟩

set_option maxHeartbeats 4000000 in
theorem functionName_any (t : Nd) (w : World) (hT : TabB w) : Calls Tryz.prog 107 #[ndV t] w fun e w' => e = .returned (.string (((bltN t.op).map (·.1)).getD t.nm)) ∧ Below w.heap.size w w' := by
  obtain ⟨O, hO⟩ : ∃ O, bltN t.op = O := ⟨_, rfl⟩
  rw [hO]
  have HO := Lib.hid hO
  obtain ⟨op, ⟨vk, vn, vs⟩, nm, ar⟩ := t
  unfold ndV
  simp only at HO ⊢
  clear hO
  have hr := hT.2
  have hgl := hT.1
  obtain ⟨A, hA⟩ : ∃ A, bltC.toArray = A := ⟨_, rfl⟩
  have HI := Lib.hid (fun k p h W => blt_index k p h W)
  rw [hA] at HI
  have hb0 : Below w.heap.size w (w.alloc (.cells #[.int .i64 op, .int .i64 vk, .int .i64 vn, .string vs, .string nm, .int .i64 ar] 53)) := (Below.refl _ _).alloc (Nat.le_refl _) _
  have hr1 : (w.alloc (.cells #[.int .i64 op, .int .i64 vk, .int .i64 vn, .string vs, .string nm, .int .i64 ar] 53)).rangeAt 1 0 bltC := (hT.below hb0 (Nat.le_refl _)).2
  go_enter Tryz.func107, Tryz.ntmps107
  go_wp2_with (with_reducible refine wpList_load_mid (op := Oper.mk (some 5) (Op.load 160 (.global 1)) _ _ _ none) rfl 160 (.global 1) rfl 1 0 ?hx bltC _ hr1 Tryz.underlying160 ?hd ?hi ?hk)
  case hx => rfl
  case hd => rfl
  case hi => kernel_rfl
  obtain ⟨c0, c1, c2, c3, c4, c5⟩ := box6 (w := w) (w1 := w.alloc (.cells #[.int .i64 op, .int .i64 vk, .int .i64 vn, .string vs, .string nm, .int .i64 ar] 53)) (Below.refl _ _)
  have hs0 := hb0.size
  have hlt0 : w.heap.size < (w.alloc (.cells #[.int .i64 op, .int .i64 vk, .int .i64 vn, .string vs, .string nm, .int .i64 ar] 53)).heap.size := by simp
  have HB0 := Lib.hid hb0
  have HC := Lib.hid (And.intro c0 c4)
  generalize w.alloc (.cells #[.int .i64 op, .int .i64 vk, .int .i64 vn, .string vs, .string nm, .int .i64 ar] 53) = w1 at *
  clear hA hr hr1 hT hb0 c0 c1 c2 c3 c4 c5
  go_loopw [6] (fun iv wr => ∃ k : Nat, k ≤ 5 ∧ iv = .int .i64 k ∧ Hid (∀ (m : Nat) p, m < k → bltP[m]? = some p → decide (p.2 = op) = false) ∧ Below w1.heap.size w1 wr) (fun iv _ => 5 - (intOf iv).toNat)
  case atStart => exact ⟨0, by omega, rfl, fun m p h => by omega, Below.refl _ _⟩
  case round =>
    obtain ⟨k, hk, rfl, HN, hbel⟩ := hrel
    have hsz := hbel.size
    have d0 := hbel.cell (p := ⟨w.heap.size, 0, none⟩) hlt0
    have d4 := hbel.cell (p := ⟨w.heap.size, 4, none⟩) hlt0
    rw [HC.out.1] at d0
    rw [HC.out.2] at d4
    have hBF := HB0.out.trans (hbel.mono hs0)
    by_cases hlt : k < 5
    · obtain ⟨p, hp⟩ : ∃ p, bltP[k]? = some p := ⟨_, List.getElem?_eq_getElem (by simpa [bltP] using hlt)⟩
      have hix := HI.out k p hp
      have hd1 : (wr.alloc (.cells #[.string p.1, .int .i64 p.2] 159)).cell? ⟨w.heap.size, 0, none⟩ = some (.int .i64 op) := by rw [World.cell?_alloc_past _ _ _ (by omega)]; exact d0
      have FS := Lib.hid (find_step (fun p => decide (p.2 = op)) bltP k p hp (fun m y hm hy => HN.out m y hm hy))
      by_cases he : p.2 = op
      · obtain rfl : O = some p := by rw [← HO.out]; exact FS.out (by simpa using he)
        obtain ⟨pn, po⟩ := p
        simp only at he
        subst he
        clear FS hp HO
        have HB := Lib.hid hBF
        clear hbel hBF
        go_wp2_with fail
        go_ret
        exact ⟨rfl, HB.out.alloc (by omega) _⟩
      · have he2 : (p.2 == op) = false := by simpa using he
        have HN2 : Hid (∀ (m : Nat) q, m < k + 1 → bltP[m]? = some q → decide (q.2 = op) = false) := by
          intro m q hm hq
          by_cases hmk : m = k
          · subst hmk
            rw [hp] at hq
            cases hq
            simpa using he
          · exact HN.out m q (by omega) hq
        obtain ⟨pn, po⟩ := p
        have HB := Lib.hid hbel
        clear FS hp hbel
        go_wp2_with fail
        go_roundw
        case rel => exact ⟨k + 1, by omega, by go_num, HN2, HB.out.alloc hsz _⟩
        case measure => simp [intOf]; omega
    · obtain rfl : k = 5 := by omega
      obtain rfl : O = none := by rw [← HO.out]; exact find_none _ _ fun m y hy => HN.out m y (by have := (List.getElem?_eq_some_iff.1 hy).1; simpa [bltP] using this) hy
      have HB := Lib.hid hBF
      clear hbel hBF
      go_wp2_with fail
      go_ret
      exact ⟨rfl, HB.out⟩

end Go.Proofs.YtmdpjahhhfajaaaGreatDoor
set_option linter.unusedVariables false
set_option maxRecDepth 100000
namespace Go.Proofs.YtmdpjahhhfajaaaGreatDoor
open Go.RowKit Wh

set_option maxHeartbeats 4000000 in
theorem tReserved_any (s : ByteArray) (w : World) : Calls Tryz.prog 132 #[.string s] w fun e w' => e = .returned (.bool (resB s)) ∧ w = w' := by
  cases hb : resB s with
  | true =>
    have hm := resB_mem hb
    simp only [resL, List.mem_cons, List.not_mem_nil, or_false] at hm
    clear hb
    rcases hm with rfl | rfl | rfl | rfl | rfl | rfl | rfl | rfl
    all_goals
      go_enter Tryz.func132, Tryz.ntmps132
      go_wp2_with fail
      go_ret
      exact ⟨rfl, rfl⟩
  | false =>
    have q := fun t (ht : t ∈ resL) => ne_lit (p := resB) (resL_all t ht) hb
    have q0 := q ⟨#[97, 110, 100]⟩ (by simp [resL])
    rw [toList_bts (⟨#[97, 110, 100]⟩ : ByteArray)] at q0
    have q1 := q ⟨#[111, 114]⟩ (by simp [resL])
    rw [toList_bts (⟨#[111, 114]⟩ : ByteArray)] at q1
    have q2 := q ⟨#[110, 111, 116]⟩ (by simp [resL])
    rw [toList_bts (⟨#[110, 111, 116]⟩ : ByteArray)] at q2
    have q3 := q ⟨#[110, 117, 108, 108]⟩ (by simp [resL])
    rw [toList_bts (⟨#[110, 117, 108, 108]⟩ : ByteArray)] at q3
    have q4 := q ⟨#[116, 114, 117, 101]⟩ (by simp [resL])
    rw [toList_bts (⟨#[116, 114, 117, 101]⟩ : ByteArray)] at q4
    have q5 := q ⟨#[102, 97, 108, 115, 101]⟩ (by simp [resL])
    rw [toList_bts (⟨#[102, 97, 108, 115, 101]⟩ : ByteArray)] at q5
    have q6 := q ⟨#[98, 121]⟩ (by simp [resL])
    rw [toList_bts (⟨#[98, 121]⟩ : ByteArray)] at q6
    have q7 := q ⟨#[115, 101, 108, 102]⟩ (by simp [resL])
    rw [toList_bts (⟨#[115, 101, 108, 102]⟩ : ByteArray)] at q7
    simp only [bts] at q0 q1 q2 q3 q4 q5 q6 q7
    clear q hb
    go_enter Tryz.func132, Tryz.ntmps132
    go_wp2_with fail
    go_ret
    exact ⟨rfl, rfl⟩

theorem ne_empty {s : ByteArray} (h : ¬ s.size = 0) : (s.toList == ([] : List UInt8)) = false ∧ s.toList.isEmpty = false := by
  constructor
  · rw [toList_bts, beq_eq_false_iff_ne]
    intro h1
    exact h (by rw [← bts_length, h1]; rfl)
  · rw [toList_bts]
    cases h1 : bts s with
    | nil => exact absurd (by rw [← bts_length, h1]; rfl) h
    | cons => rfl

set_option maxHeartbeats 8000000 in
theorem isToken_any (t : Tk) (at_ : Int) (w : World) (hs : t.tx.size ≤ 9223372036854775800) : Calls Tryz.prog 50 #[tokV (t, at_)] w fun e w' => e = .returned (.bool (isT t)) ∧ Below w.heap.size w w' := by
  obtain ⟨k, s, n⟩ := t
  simp only at hs
  have Q := Lib.hid (fun W => isQualified_any s hs W)
  have S := Lib.hid (fun W => isSymbol_any s W)
  have hbel0 : Below w.heap.size w (w.alloc (.cells #[.int .i64 k, .string s, .int .i64 n, .int .i64 at_] 71)) := (Below.refl _ _).alloc (Nat.le_refl _) _
  unfold isT okT empB
  simp only [tokV]
  by_cases k0 : k = 0
  · subst k0
    rw [if_pos rfl]
    by_cases h1 : s.size = 0
    · obtain rfl := empty_of_size h1
      clear h1 hbel0 Q S hs
      by_cases h2 : n = 0
      · subst h2
        go_enter Tryz.func50, Tryz.ntmps50
        go_wp2_with fail
        go_ret
        exact ⟨rfl, (Below.refl _ _).alloc (Nat.le_refl _) _⟩
      · rw [decide_eq_false h2]
        have h3 : (n == 0) = false := by simpa using h2
        go_enter Tryz.func50, Tryz.ntmps50
        go_wp2_with fail
        go_ret
        exact ⟨rfl, (Below.refl _ _).alloc (Nat.le_refl _) _⟩
    · obtain ⟨e1, e2⟩ := ne_empty h1
      rw [decide_eq_false h1]
      clear h1 hbel0 Q S hs
      go_enter Tryz.func50, Tryz.ntmps50
      go_wp2_with fail
      go_ret
      exact ⟨rfl, (Below.refl _ _).alloc (Nat.le_refl _) _⟩
  rw [if_neg k0]
  by_cases k1 : k = 1
  · subst k1
    rw [if_pos rfl]
    clear k0
    cases hq : qualB s with
    | true =>
      rw [hq] at Q
      clear hq S
      by_cases h2 : n = 0
      · subst h2
        go_enter Tryz.func50, Tryz.ntmps50
        go_wp2_with (first | (go_at_call 86; refine (Q.out _).mono ?_; rintro e w1 ⟨rfl, hb⟩; obtain ⟨hc, hf⟩ := bcell hb; have hsz1 : w.heap.size < w1.heap.size := (by have := hb.size; simp at this; omega)))
        go_ret
        exact ⟨rfl, hbel0.trans (hb.mono (by simp))⟩
      · rw [decide_eq_false h2]
        have h3 : (n == 0) = false := by simpa using h2
        go_enter Tryz.func50, Tryz.ntmps50
        go_wp2_with (first | (go_at_call 86; refine (Q.out _).mono ?_; rintro e w1 ⟨rfl, hb⟩; obtain ⟨hc, hf⟩ := bcell hb; have hsz1 : w.heap.size < w1.heap.size := (by have := hb.size; simp at this; omega)))
        go_ret
        exact ⟨rfl, hbel0.trans (hb.mono (by simp))⟩
    | false =>
      rw [hq] at Q
      clear hq S
      go_enter Tryz.func50, Tryz.ntmps50
      go_wp2_with (first | (go_at_call 86; refine (Q.out _).mono ?_; rintro e w1 ⟨rfl, hb⟩; obtain ⟨hc, hf⟩ := bcell hb; have hsz1 : w.heap.size < w1.heap.size := (by have := hb.size; simp at this; omega)))
      go_ret
      exact ⟨rfl, hbel0.trans (hb.mono (by simp))⟩
  rw [if_neg k1]
  by_cases k2 : k = 2
  · subst k2
    rw [if_pos rfl]
    clear k0 k1
    by_cases h1 : s.size = 0
    · obtain rfl := empty_of_size h1
      clear h1 hbel0 Q S hs
      by_cases h2 : 0 ≤ n
      · by_cases h3 : n ≤ 1073741824
        · rw [decide_eq_true h2, decide_eq_true h3]
          go_enter Tryz.func50, Tryz.ntmps50
          go_wp2_with fail
          go_ret
          exact ⟨rfl, (Below.refl _ _).alloc (Nat.le_refl _) _⟩
        · rw [decide_eq_true h2, decide_eq_false h3]
          go_enter Tryz.func50, Tryz.ntmps50
          go_wp2_with fail
          go_ret
          exact ⟨rfl, (Below.refl _ _).alloc (Nat.le_refl _) _⟩
      · rw [decide_eq_false h2]
        go_enter Tryz.func50, Tryz.ntmps50
        go_wp2_with fail
        go_ret
        exact ⟨rfl, (Below.refl _ _).alloc (Nat.le_refl _) _⟩
    · obtain ⟨e1, e2⟩ := ne_empty h1
      rw [decide_eq_false h1]
      clear h1 hbel0 Q S hs
      go_enter Tryz.func50, Tryz.ntmps50
      go_wp2_with fail
      go_ret
      exact ⟨rfl, (Below.refl _ _).alloc (Nat.le_refl _) _⟩
  rw [if_neg k2]
  by_cases k3 : k = 3
  · subst k3
    rw [if_pos rfl]
    clear k0 k1 k2 Q S
    by_cases h1 : s.size ≤ 64
    · have h1i : (s.size : Int) ≤ 64 := by omega
      rw [decide_eq_true h1]
      clear hbel0
      by_cases h2 : n = 0
      · subst h2
        go_enter Tryz.func50, Tryz.ntmps50
        go_wp2_with fail
        go_ret
        exact ⟨rfl, (Below.refl _ _).alloc (Nat.le_refl _) _⟩
      · rw [decide_eq_false h2]
        have h3 : (n == 0) = false := by simpa using h2
        go_enter Tryz.func50, Tryz.ntmps50
        go_wp2_with fail
        go_ret
        exact ⟨rfl, (Below.refl _ _).alloc (Nat.le_refl _) _⟩
    · have h1i : ¬ (s.size : Int) ≤ 64 := by omega
      rw [decide_eq_false h1]
      clear hbel0
      go_enter Tryz.func50, Tryz.ntmps50
      go_wp2_with fail
      go_ret
      exact ⟨rfl, (Below.refl _ _).alloc (Nat.le_refl _) _⟩
  rw [if_neg k3]
  by_cases k4 : k = 4
  · subst k4
    rw [if_pos rfl]
    clear k0 k1 k2 k3
    by_cases h1 : s.size = 0
    · obtain rfl := empty_of_size h1
      clear h1 hbel0 Q S hs
      by_cases h2 : 0 ≤ n
      · by_cases h3 : n ≤ 575999999
        · rw [decide_eq_true h2, decide_eq_true h3]
          go_enter Tryz.func50, Tryz.ntmps50
          go_wp2_with fail
          go_ret
          exact ⟨rfl, (Below.refl _ _).alloc (Nat.le_refl _) _⟩
        · rw [decide_eq_true h2, decide_eq_false h3]
          go_enter Tryz.func50, Tryz.ntmps50
          go_wp2_with fail
          go_ret
          exact ⟨rfl, (Below.refl _ _).alloc (Nat.le_refl _) _⟩
      · rw [decide_eq_false h2]
        go_enter Tryz.func50, Tryz.ntmps50
        go_wp2_with fail
        go_ret
        exact ⟨rfl, (Below.refl _ _).alloc (Nat.le_refl _) _⟩
    · obtain ⟨e1, e2⟩ := ne_empty h1
      rw [decide_eq_false h1]
      clear h1 hbel0 Q S hs
      go_enter Tryz.func50, Tryz.ntmps50
      go_wp2_with fail
      go_ret
      exact ⟨rfl, (Below.refl _ _).alloc (Nat.le_refl _) _⟩
  rw [if_neg k4]
  by_cases k5 : k = 5
  · subst k5
    rw [if_pos rfl]
    clear k0 k1 k2 k3 k4
    cases hq : symB s with
    | true =>
      rw [hq] at S
      clear hq Q hbel0
      by_cases h2 : n = 0
      · subst h2
        go_enter Tryz.func50, Tryz.ntmps50
        go_wp2_with (first | (go_at_call 87; refine (S.out _).mono ?_; rintro e w1 ⟨rfl, rfl⟩))
        go_ret
        exact ⟨rfl, (Below.refl _ _).alloc (Nat.le_refl _) _⟩
      · rw [decide_eq_false h2]
        have h3 : (n == 0) = false := by simpa using h2
        go_enter Tryz.func50, Tryz.ntmps50
        go_wp2_with (first | (go_at_call 87; refine (S.out _).mono ?_; rintro e w1 ⟨rfl, rfl⟩))
        go_ret
        exact ⟨rfl, (Below.refl _ _).alloc (Nat.le_refl _) _⟩
    | false =>
      rw [hq] at S
      clear hq Q hbel0
      go_enter Tryz.func50, Tryz.ntmps50
      go_wp2_with (first | (go_at_call 87; refine (S.out _).mono ?_; rintro e w1 ⟨rfl, rfl⟩))
      go_ret
      exact ⟨rfl, (Below.refl _ _).alloc (Nat.le_refl _) _⟩
  rw [if_neg k5]
  have e0 : (k == 0) = false := by simpa using k0
  have e1 : (k == 1) = false := by simpa using k1
  have e2 : (k == 2) = false := by simpa using k2
  have e3 : (k == 3) = false := by simpa using k3
  have e4 : (k == 4) = false := by simpa using k4
  have e5 : (k == 5) = false := by simpa using k5
  clear k0 k1 k2 k3 k4 k5 Q S hbel0 hs
  go_enter Tryz.func50, Tryz.ntmps50
  go_wp2_with fail
  go_ret
  exact ⟨rfl, (Below.refl _ _).alloc (Nat.le_refl _) _⟩

set_option maxHeartbeats 4000000 in
theorem validate_any7 (a : Option Addr) (len cap : Nat) (ts : List TA) (w : World) (hs : IsToks w a len ts) (hl : len ≤ 1000000000000) (hz : ∀ t ∈ ts, t.1.tx.size ≤ 9223372036854775800) :
    Calls Tryz.prog 28 #[.slice a len cap] w fun e w' => e = .returned (.int .i64 (valE ts)) ∧ Below w.heap.size w w' := by
  have hln := hs.1
  have HS := Lib.hid hs
  have HZ := Lib.hid hz
  clear hs hz
  by_cases h0 : len = 0
  · subst h0
    obtain rfl := List.eq_nil_of_length_eq_zero hln
    rw [valE_nil]
    go_enter Tryz.func28, Tryz.ntmps28
    go_wp2_with fail
    go_ret
    exact ⟨rfl, Below.refl _ _⟩
  · have h0i : ((len : Int) == 0) = false := by simp; omega
    have NO := Lib.hid (fun i hi h => valE_no (ts := ts) (i := i) hi h)
    have YES := Lib.hid (fun h => valE_yes (ts := ts) (by omega) h)
    obtain ⟨E, hE⟩ : ∃ E, valE ts = E := ⟨_, rfl⟩
    rw [hE] at NO YES ⊢
    have HL := Lib.hid hln
    clear hE hln
    go_enter Tryz.func28, Tryz.ntmps28
    go_wp2_with fail
    go_loopw [14] (fun iv wr => ∃ k : Nat, k ≤ len ∧ iv = .int .i64 k ∧ Hid (∀ i, i < k → okAtT ts i = true) ∧ Below w.heap.size w wr) (fun iv _ => len - (intOf iv).toNat)
    case atStart => exact ⟨0, Nat.zero_le _, rfl, fun i hi => absurd hi (by omega), Below.refl _ _⟩
    case round =>
      obtain ⟨k, hk, rfl, HI, hbel⟩ := hrel
      have hsz := hbel.size
      by_cases hlt : k < len
      · obtain ⟨kd, tx, nm, p, b, off, hx, rfl, hblt, c0, c1, c2, c3⟩ := (HS.out.below hbel (Nat.le_refl _)).at hlt
        have hx9 := HZ.out _ (List.mem_of_getElem? hx)
        have IT := Lib.hid (fun W => isToken_any ⟨kd, tx, nm⟩ p W hx9)
        have HOK := Lib.hid (okAt_some hx)
        rw [HL.out] at HOK
        simp only [tokV] at IT
        simp only at HOK
        have NO2 := Lib.hid (NO.out k (by rw [HL.out]; exact hlt))
        have HI2 : Hid (okAtT ts k = true → ∀ i, i < k + 1 → okAtT ts i = true) := fun h i hi => by
          by_cases e : i = k
          · rw [e]; exact h
          · exact HI.out i (by omega)
        have ek : (kd == 0) = decide (kd = 0) := rfl
        have el : ((k : Int) == (len : Int) - 1) = decide (k + 1 = len) := by
          by_cases h : k + 1 = len
          · rw [decide_eq_true h]; simp; omega
          · rw [decide_eq_false h]; simp; omega
        generalize okAtT ts k = ok at *
        generalize isT ⟨kd, tx, nm⟩ = it at *
        generalize decide (kd = 0) = b1 at *
        generalize decide (k + 1 = len) = b2 at *
        clear NO HI hx hx9
        cases b1 <;> cases b2 <;> cases it
        case false.false.true =>
          obtain rfl : ok = true := HOK.out
          have HI3 := Lib.hid (HI2.out rfl)
          clear HI2 HOK NO2 YES
          go_wp2_with (go_at_call 50; refine (IT.out _).mono ?_; rintro e w1 ⟨rfl, hb⟩)
          go_roundw
          case rel => exact ⟨k + 1, by omega, by go_num, HI3, (hbel.alloc (by omega) _).trans (hb.mono (by simp; omega))⟩
          case measure => simp [intOf]; omega
        case true.true.true =>
          obtain rfl : ok = true := HOK.out
          have HI3 := Lib.hid (HI2.out rfl)
          clear HI2 HOK NO2 YES
          go_wp2_with (go_at_call 50; refine (IT.out _).mono ?_; rintro e w1 ⟨rfl, hb⟩)
          go_roundw
          case rel => exact ⟨k + 1, by omega, by go_num, HI3, (hbel.alloc (by omega) _).trans (hb.mono (by simp; omega))⟩
          case measure => simp [intOf]; omega
        all_goals
          obtain rfl : ok = false := HOK.out
          obtain rfl := NO2.out rfl
          clear HI2 HOK NO2 YES
          go_wp2_with (go_at_call 50; refine (IT.out _).mono ?_; rintro e w1 ⟨rfl, hb⟩)
          go_ret
          first | exact ⟨rfl, (hbel.alloc (by omega) _).trans (hb.mono (by simp; omega))⟩ | exact ⟨rfl, hbel.alloc (by omega) _⟩
      · obtain rfl := YES.out fun i hi => HI.out i (by have := HL.out; omega)
        clear NO YES HI
        go_wp2_with fail
        go_ret
        exact ⟨rfl, hbel⟩

end Go.Proofs.YtmdpjahhhfajaaaGreatDoor
