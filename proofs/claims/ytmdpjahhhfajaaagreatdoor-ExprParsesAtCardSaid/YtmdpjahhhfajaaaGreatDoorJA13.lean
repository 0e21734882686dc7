/-
  The syntax, plainly: operands too deep; what a word's text tells. No program's functions. · The reference's parser: fail, peek, is, word, take, deep. Its state lies in a block of four cells (Box4): the tokens, the place, the depth, the first error. · The reference's parser: take, deep. · Reserved, of the reference. · The reference's parser: begins.
-/
import Derived.Test.YtmdpjahhhfajaaaGreatDoorJA12
import Derived.Test.YtmdpjahhhfajaaaGreatDoorJA10
import Derived.Test.YtmdpjahhhfajaaaGreatDoorJA06
import Derived.Maps.AppendAt
import Derived.Test.YtmdpjahhhfajaaaGreatDoorJA11
import Derived.Test.YtmdpjahhhfajaaaGreatDoorJA07
set_option linter.unusedVariables false
set_option linter.unusedSimpArgs false
set_option maxRecDepth 100000
namespace Wh
open Go Go.Proofs.YtmdpjahhhfajaaaGreatDoor

/-- Can an expression of a level begin with the token t, in front of u? -/
def begL (lvl : Nat) (t u : TA) : Bool := (decide (lvl ≤ 2) && wrdT t notS) || (begT t u && (decide (lvl ≤ 7) || !symT t minS))

theorem begT_not {t u : TA} (h : wrdT t notS = true) : begT t u = false := by
  obtain ⟨hk, hs⟩ := wrdT_k h
  unfold begT
  rw [hs, if_neg (by omega), if_pos hk, if_neg (by decide +kernel)]
  have : resB notS = true := by decide +kernel
  rw [this]
  rfl

theorem pr_deep {ts : List TA} : ∀ (n lvl f i d : Nat), lvl + n = 7 → 8 - lvl < f → 256 < d → begL lvl (tkA ts i) (tkA ts (i + 1)) = true → prT ts f lvl i d = .bad 2 i := by
  intro n
  induction n with
  | zero =>
    intro lvl f i d hl hf hd hb
    obtain rfl : lvl = 7 := by omega
    obtain ⟨f, rfl⟩ : ∃ g, f = g + 1 := ⟨f - 1, by omega⟩
    have hb2 : begT (tkA ts i) (tkA ts (i + 1)) = true := by simpa [begL] using hb
    unfold prT
    rw [if_neg (by omega), if_neg (by omega), if_pos rfl, if_neg (by rw [hb2]; simp), if_pos hd]
  | succ n ih =>
    intro lvl f i d hl hf hd hb
    obtain ⟨f, rfl⟩ : ∃ g, f = g + 1 := ⟨f - 1, by omega⟩
    unfold prT
    by_cases l2 : lvl = 2
    · subst l2
      rw [if_pos rfl]
      by_cases c : wrdT (tkA ts i) notS = true
      · rw [if_pos c, if_pos hd]
      · rw [if_neg c]
        refine ih 3 f i d (by omega) (by omega) hd ?_
        have c' : wrdT (tkA ts i) notS = false := by simpa using c
        simpa [begL, c'] using hb
    rw [if_neg l2]
    by_cases l3 : lvl = 3
    · subst l3
      rw [if_pos rfl, ih 4 f i d (by omega) (by omega) hd (by simpa [begL] using hb)]
    rw [if_neg l3, if_neg (by omega), if_neg (by omega)]
    have hn : begL (lvl + 1) (tkA ts i) (tkA ts (i + 1)) = true := by
      unfold begL at hb ⊢
      have a7 : lvl ≤ 7 := by omega
      have b7 : lvl + 1 ≤ 7 := by omega
      by_cases a2 : lvl ≤ 1
      · have a2' : lvl ≤ 2 := by omega
        have b2 : lvl + 1 ≤ 2 := by omega
        simpa [a2', b2, a7, b7] using hb
      · have a2' : ¬ lvl ≤ 2 := by omega
        have b2 : ¬ lvl + 1 ≤ 2 := by omega
        simpa [a2', b2, a7, b7] using hb
    rw [ih (lvl + 1) f i d (by omega) (by omega) hd hn]

/-- Each token fits its kind. -/
def OkTs (ts : List TA) : Prop := ∀ i, i < ts.length → ((tkA ts i).1.k = 1 → qualB (tkA ts i).1.tx = true) ∧ ((tkA ts i).1.k = 5 → symB (tkA ts i).1.tx = true)
theorem valE_toks {ts : List TA} (h : valE ts = 0) : OkTs ts := by
  obtain ⟨h1, h2⟩ := valE_zero h
  intro i hi
  have := h2 i hi
  rw [okAt_some (tkA_in hi), Bool.and_eq_true] at this
  have hT := this.2
  unfold isT okT at hT
  refine ⟨fun hk => ?_, fun hk => ?_⟩
  · rw [if_neg (by omega), if_pos hk, Bool.and_eq_true] at hT
    exact hT.1
  · rw [if_neg (by omega), if_neg (by omega), if_neg (by omega), if_neg (by omega), if_neg (by omega), if_pos hk, Bool.and_eq_true] at hT
    exact hT.1
/-- A token's text if it is a name or a symbol. -/
def wT (t : TA) : ByteArray := if t.1.k = 1 ∨ t.1.k = 5 then t.1.tx else ⟨#[]⟩
def OkT1 (t : TA) : Prop := (t.1.k = 1 → qualB t.1.tx = true) ∧ (t.1.k = 5 → symB t.1.tx = true)
theorem wT_sym {t : TA} (h : OkT1 t) {s : ByteArray} (hq : qualB s = false) (hs : eqS ⟨#[]⟩ s = false) : eqS (wT t) s = symT t s := by
  unfold wT symT
  by_cases h1 : t.1.k = 1
  · rw [if_pos (.inl h1), decide_eq_false (by omega)]
    cases he : eqS t.1.tx s with
    | false => rfl
    | true =>
      unfold OkT1 at h
      rw [eqS_iff.1 he] at h
      have := h.1 h1
      rw [hq] at this
      cases this
  · by_cases h5 : t.1.k = 5
    · rw [if_pos (.inr h5), decide_eq_true h5]; rfl
    · rw [if_neg (by omega), decide_eq_false h5, hs]; rfl
theorem wT_wrd {t : TA} (h : OkT1 t) {s : ByteArray} (hq : symB s = false) (hs : eqS ⟨#[]⟩ s = false) : eqS (wT t) s = wrdT t s := by
  unfold wT wrdT
  by_cases h5 : t.1.k = 5
  · rw [if_pos (.inr h5), decide_eq_false (by omega)]
    cases he : eqS t.1.tx s with
    | false => rfl
    | true =>
      unfold OkT1 at h
      rw [eqS_iff.1 he] at h
      have := h.2 h5
      rw [hq] at this
      cases this
  · by_cases h1 : t.1.k = 1
    · rw [if_pos (.inl h1), decide_eq_true h1]; rfl
    · rw [if_neg (by omega), decide_eq_false h1, hs]; rfl

/-- The binary operators: word, level, operator, swapped. -/
def infL : List (ByteArray × Int × Int × Bool) :=
  [(orS, 0, 15, false), (andS, 1, 14, false), (⟨#[61]⟩, 3, 10, false), (⟨#[33, 61]⟩, 3, 11, false), (⟨#[60]⟩, 3, 12, false), (⟨#[60, 61]⟩, 3, 13, false),
   (⟨#[62]⟩, 3, 12, true), (⟨#[62, 61]⟩, 3, 13, true), (⟨#[43, 43]⟩, 4, 9, false), (⟨#[43]⟩, 5, 4, false), (minS, 5, 5, false), (⟨#[42]⟩, 6, 6, false), (⟨#[47]⟩, 6, 7, false), (⟨#[37]⟩, 6, 8, false)]
def infW (s : ByteArray) (l : Int) : Option (ByteArray × Int × Int × Bool) := infL.find? fun o => eqS o.1 s && decide (o.2.1 = l)

theorem infW_bin {t : TA} (h : OkT1 t) {lvl : Nat} (hl : lvl = 0 ∨ lvl = 1 ∨ lvl = 4 ∨ lvl = 5 ∨ lvl = 6) : (infW (wT t) lvl).map (fun o => (o.2.2.1, o.2.2.2)) = (binO lvl t).map fun op => (op, false) := by
  have y : ∀ s, qualB s = false → eqS ⟨#[]⟩ s = false → eqS s (wT t) = symT t s := fun s a b => by rw [eqS_comm]; exact wT_sym h a b
  have z : ∀ s, symB s = false → eqS ⟨#[]⟩ s = false → eqS s (wT t) = wrdT t s := fun s a b => by rw [eqS_comm]; exact wT_wrd h a b
  have w0 := z orS (by decide +kernel) (by decide +kernel)
  have w1 := z andS (by decide +kernel) (by decide +kernel)
  have s1 := y ⟨#[43, 43]⟩ (by decide +kernel) (by decide +kernel)
  have s2 := y ⟨#[43]⟩ (by decide +kernel) (by decide +kernel)
  have s3 := y minS (by decide +kernel) (by decide +kernel)
  have s4 := y ⟨#[42]⟩ (by decide +kernel) (by decide +kernel)
  have s5 := y ⟨#[47]⟩ (by decide +kernel) (by decide +kernel)
  have s6 := y ⟨#[37]⟩ (by decide +kernel) (by decide +kernel)
  unfold infW infL binO
  rcases hl with rfl | rfl | rfl | rfl | rfl
  · simp only [List.find?, w0]
    cases wrdT t orS <;> simp
  · simp only [List.find?, w1]
    cases wrdT t andS <;> simp
  · simp only [List.find?, s1]
    cases symT t ⟨#[43, 43]⟩ <;> simp
  · simp only [List.find?, s2, s3]
    cases symT t ⟨#[43]⟩ <;> cases symT t minS <;> simp
  · simp only [List.find?, s4, s5, s6]
    cases symT t ⟨#[42]⟩ <;> cases symT t ⟨#[47]⟩ <;> cases symT t ⟨#[37]⟩ <;> simp
theorem infW_cmp {t : TA} (h : OkT1 t) : (infW (wT t) 3).map (fun o => (o.2.2.1, o.2.2.2)) = cmpO t := by
  have y : ∀ s, qualB s = false → eqS ⟨#[]⟩ s = false → eqS s (wT t) = symT t s := fun s a b => by rw [eqS_comm]; exact wT_sym h a b
  have s1 := y ⟨#[61]⟩ (by decide +kernel) (by decide +kernel)
  have s2 := y ⟨#[33, 61]⟩ (by decide +kernel) (by decide +kernel)
  have s3 := y ⟨#[60]⟩ (by decide +kernel) (by decide +kernel)
  have s4 := y ⟨#[60, 61]⟩ (by decide +kernel) (by decide +kernel)
  have s5 := y ⟨#[62]⟩ (by decide +kernel) (by decide +kernel)
  have s6 := y ⟨#[62, 61]⟩ (by decide +kernel) (by decide +kernel)
  unfold infW infL cmpO
  simp only [List.find?, s1, s2, s3, s4, s5, s6]
  cases symT t ⟨#[61]⟩ <;> cases symT t ⟨#[33, 61]⟩ <;> cases symT t ⟨#[60]⟩ <;> cases symT t ⟨#[60, 61]⟩ <;> cases symT t ⟨#[62]⟩ <;> cases symT t ⟨#[62, 61]⟩ <;> simp

end Wh
set_option linter.unusedVariables false
set_option linter.unusedSimpArgs false
set_option maxRecDepth 100000
namespace Go.Proofs.YtmdpjahhhfajaaaGreatDoor
open Go.RowKit Wh

/-- The parser's state in block b. -/
abbrev Pr (w : World) (b : Nat) (sl : Value) (i d : Nat) (x : Int) : Prop := Box4 w b sl (.int .i64 i) (.int .i64 d) (.int .i64 x) 67
abbrev ptr (b : Nat) : Value := .pointer (some ⟨b, 0, none⟩)

theorem grown_refl (w : World) (row : Option Nat) : w.grownBy w row := ⟨rfl, rfl, rfl, Nat.le_refl _, fun _ _ _ => rfl⟩
theorem grown_set (w : World) (b j : Nat) (v : Value) : w.grownBy (w.setCell ⟨b, j, none⟩ v) (some b) := by
  refine ⟨rfl, rfl, rfl, by simp [World.setCell], fun k hk hne => ?_⟩
  exact Below.heap_setCell _ _ _ _ (by simpa using hne)
theorem grown_below {w w' : World} (h : Below w.heap.size w w') (row : Option Nat) : w.grownBy w' row := ⟨h.os, h.tape, h.output, h.size, fun k hk _ => h.block k hk⟩
theorem IsToks.grown {w w' : World} {a : Option Addr} {len b : Nat} {ts : List TA} (h : IsToks w a len ts) (hg : w.grownBy w' (some b)) (hf : ∀ x, a = some x → x.block ≠ b) : IsToks w' a len ts := by
  obtain ⟨h1, h2⟩ := h
  refine ⟨h1, ?_⟩
  rcases h2 with h2 | ⟨g, off, ha, hlt, hc⟩
  · exact .inl h2
  · have e : ∀ o, w'.cell? ⟨g, o, none⟩ = w.cell? ⟨g, o, none⟩ := fun o => hg.cell_far ⟨g, o, none⟩ hlt (by have := hf _ ha; simpa using this)
    refine .inr ⟨g, off, ha, Nat.lt_of_lt_of_le hlt hg.size, fun i s hs => ?_⟩
    rw [e, e, e, e]
    exact hc i s hs

set_option maxHeartbeats 1000000 in
theorem pfail_any (b : Nat) (sl : Value) (i d : Nat) (x y : Int) (w : World) (hP : Pr w b sl i d x) :
    Calls Tryz.prog 169 #[ptr b, .int .i64 y] w fun e w' => e = .returned (.slice none 0 0) ∧ Pr w' b sl i d (if x = 0 then y else x) ∧ w.grownBy w' (some b) := by
  have h0 := hP.c0
  have h1 := hP.c1
  have h2 := hP.c2
  have h3 := hP.c3
  have hf := hP.free
  have HP := Lib.hid hP
  clear hP
  by_cases hx : x = 0
  · subst hx
    rw [if_pos rfl]
    go_enter Tryz.func169, Tryz.ntmps169
    go_wp2_with fail
    go_ret
    exact ⟨rfl, HP.out.set3, grown_set _ _ _ _⟩
  · rw [if_neg hx]
    go_enter Tryz.func169, Tryz.ntmps169
    go_wp2_with fail
    go_ret
    exact ⟨rfl, HP.out, grown_refl _ _⟩

set_option maxHeartbeats 4000000 in
theorem ppeek_any (b : Nat) (a : Option Addr) (len cap : Nat) (ts : List TA) (i d k : Nat) (x : Int) (w : World) (hP : Pr w b (.slice a len cap) i d x) (hT : IsToks w a len ts) (hl : 1 ≤ len) (hlm : len ≤ 1000000000000) (hi : i ≤ 1000000000000) (hk : k ≤ 2)
    (t : TA) (ht : ts[min (i + k) (len - 1)]? = some t) :
    Calls Tryz.prog 100 #[ptr b, .int .i64 k] w fun e w' => e = .returned (tokV t) ∧ Below w.heap.size w w' := by
  obtain ⟨m, hm⟩ : ∃ m, min (i + k) (len - 1) = m := ⟨_, rfl⟩
  rw [hm] at ht
  have hml : m < len := by omega
  have HM := Lib.hid hm
  obtain ⟨kd, tx, nm, p, g, off, e1, rfl, lg, t0, t1, t2, t3⟩ := hT.at hml
  rw [ht] at e1
  cases e1
  clear ht hm
  have hB := hP.alloc (.cells #[.int .i64 0, .string ⟨#[]⟩, .int .i64 0, .int .i64 0] 71)
  have hBd := hB.drew
  have h0 := hBd.c0
  have h1 := hBd.c1
  have bel : Below w.heap.size w (w.alloc (.cells #[.int .i64 0, .string ⟨#[]⟩, .int .i64 0, .int .i64 0] 71)).drew := ((Below.refl _ _).alloc (Nat.le_refl _) _).drew
  have e : ∀ o, (w.alloc (.cells #[.int .i64 0, .string ⟨#[]⟩, .int .i64 0, .int .i64 0] 71)).drew.cell? ⟨g, o, none⟩ = w.cell? ⟨g, o, none⟩ := fun o => bel.cell (p := ⟨g, o, none⟩) lg
  rw [← e] at t0 t1 t2 t3
  have HB := Lib.hid bel
  clear hB hBd hP hT bel e
  go_enter Tryz.func100, Tryz.ntmps100
  obtain ⟨q, hq⟩ : ∃ q : Nat, i + k = q := ⟨_, rfl⟩
  obtain ⟨l1, hl1⟩ : ∃ l1 : Nat, len - 1 = l1 := ⟨_, rfl⟩
  have hqi : (i : Int) + (k : Int) = (q : Int) := by omega
  have hli : (len : Int) - 1 = (l1 : Int) := by omega
  rw [hq, hl1] at HM
  have hq2 : q ≤ 2000000000000 := by omega
  by_cases hc : l1 < q
  · obtain rfl : l1 = m := by have := HM.out; omega
    clear HM hq hl1
    have hci : (l1 : Int) < (q : Int) := by omega
    go_wp2_with fail
    go_region
    go_wp2_with fail
    exact bodyPost_ret (v := tokV (⟨kd, tx, nm⟩, p)) (by simp [results, Tryz.results100, go_sem, tokV]) rfl ⟨rfl, ((Below.refl _ _).alloc (Nat.le_refl _) _).drew⟩
  · obtain rfl : q = m := by have := HM.out; omega
    clear HM hq hl1
    have hci : ¬ (l1 : Int) < (q : Int) := by omega
    go_wp2_with fail
    go_region
    go_wp2_with fail
    exact bodyPost_ret (v := tokV (⟨kd, tx, nm⟩, p)) (by simp [results, Tryz.results100, go_sem, tokV]) rfl ⟨rfl, ((Below.refl _ _).alloc (Nat.le_refl _) _).drew⟩

/-- Is there no error, and the token of this kind, with this text? -/
def isS (x : Int) (t : TA) (kd : Int) (s : ByteArray) : Bool := decide (x = 0) && (decide (t.1.k = kd) && eqS t.1.tx s)
theorem beq0' (x y : Int) : (x == y) = decide (x = y) := by by_cases h : x = y <;> simp [h]

set_option maxHeartbeats 4000000 in
theorem pis_any (b : Nat) (a : Option Addr) (len cap : Nat) (ts : List TA) (i d : Nat) (x : Int) (s : ByteArray) (w : World) (hP : Pr w b (.slice a len cap) i d x) (hT : IsToks w a len ts) (hl : 1 ≤ len) (hlm : len ≤ 1000000000000) (hi : i ≤ 1000000000000)
    (t : TA) (ht : ts[min i (len - 1)]? = some t) :
    Calls Tryz.prog 168 #[ptr b, .string s] w fun e w' => e = .returned (.bool (isS x t 5 s)) ∧ Below w.heap.size w w' := by
  have C := Lib.hid (ppeek_any b a len cap ts i d 0 x w hP hT hl hlm hi (by omega) t (by rw [Nat.add_zero]; exact ht))
  obtain ⟨⟨k, tx, n⟩, p⟩ := t
  unfold tokV at C
  unfold isS
  simp only at C ⊢
  have HP := Lib.hid hP
  clear hP hT ht
  go_enter Tryz.func168, Tryz.ntmps168
  go_wp2_with fail
  refine C.out.mono ?_
  rintro e w1 ⟨rfl, hb1⟩
  have hP1 := HP.out.below hb1 HP.out.lt
  have hP2 := hP1.alloc (.cells #[.int .i64 k, .string tx, .int .i64 n, .int .i64 p] 71)
  have h3 := hP2.c3
  have HB1 := Lib.hid hb1
  have hs1 := hb1.size
  clear hP1 hP2 hb1 C HP
  go_wp2_with fail
  all_goals
    go_ret
    refine ⟨ret_bool ?_, HB1.out.alloc hs1 _⟩
    simp_all [eqS, beq0']

set_option maxHeartbeats 4000000 in
theorem pword_any (b : Nat) (a : Option Addr) (len cap : Nat) (ts : List TA) (i d : Nat) (x : Int) (s : ByteArray) (w : World) (hP : Pr w b (.slice a len cap) i d x) (hT : IsToks w a len ts) (hl : 1 ≤ len) (hlm : len ≤ 1000000000000) (hi : i ≤ 1000000000000)
    (t : TA) (ht : ts[min i (len - 1)]? = some t) :
    Calls Tryz.prog 58 #[ptr b, .string s] w fun e w' => e = .returned (.bool (isS x t 1 s)) ∧ Below w.heap.size w w' := by
  have C := Lib.hid (ppeek_any b a len cap ts i d 0 x w hP hT hl hlm hi (by omega) t (by rw [Nat.add_zero]; exact ht))
  obtain ⟨⟨k, tx, n⟩, p⟩ := t
  unfold tokV at C
  unfold isS
  simp only at C ⊢
  have HP := Lib.hid hP
  clear hP hT ht
  go_enter Tryz.func58, Tryz.ntmps58
  go_wp2_with fail
  refine C.out.mono ?_
  rintro e w1 ⟨rfl, hb1⟩
  have hP1 := HP.out.below hb1 HP.out.lt
  have hP2 := hP1.alloc (.cells #[.int .i64 k, .string tx, .int .i64 n, .int .i64 p] 71)
  have h3 := hP2.c3
  have HB1 := Lib.hid hb1
  have hs1 := hb1.size
  clear hP1 hP2 hb1 C HP
  go_wp2_with fail
  all_goals
    go_ret
    refine ⟨ret_bool ?_, HB1.out.alloc hs1 _⟩
    simp_all [eqS, beq0']

end Go.Proofs.YtmdpjahhhfajaaaGreatDoor
set_option linter.unusedVariables false
set_option linter.unusedSimpArgs false
set_option maxRecDepth 100000
namespace Go.Proofs.YtmdpjahhhfajaaaGreatDoor
open Go.RowKit Wh

theorem Pr.set1 {w : World} {b : Nat} {sl : Value} {i d : Nat} {x : Int} (h : Pr w b sl i d x) (j : Nat) : Pr (w.setCell ⟨b, 1, none⟩ (.int .i64 (j : Int))) b sl j d x := by
  refine ⟨?_⟩
  have hb := h.block
  simp only [World.setCell, Array.getElem?_modify, if_pos]
  rw [hb]
  rfl
theorem Pr.set2 {w : World} {b : Nat} {sl : Value} {i d : Nat} {x : Int} (h : Pr w b sl i d x) (j : Nat) : Pr (w.setCell ⟨b, 2, none⟩ (.int .i64 (j : Int))) b sl i j x := by
  refine ⟨?_⟩
  have hb := h.block
  simp only [World.setCell, Array.getElem?_modify, if_pos]
  rw [hb]
  rfl

/-- The error of a parser that is too deep. -/
def deepE (d : Nat) (x : Int) : Int := if x = 0 ∧ 256 < d then 2 else x

set_option maxHeartbeats 4000000 in
theorem pdeep_any (b : Nat) (sl : Value) (i d : Nat) (x : Int) (w : World) (hP : Pr w b sl i d x) :
    Calls Tryz.prog 135 #[ptr b] w fun e w' => e = .returned (.bool (decide (deepE d x ≠ 0))) ∧ Pr w' b sl i d (deepE d x) ∧ w.grownBy w' (some b) := by
  have h2 := hP.c2
  have h3 := hP.c3
  have HP := Lib.hid hP
  clear hP
  by_cases hx : x = 0 ∧ 256 < d
  · have hE : deepE d x = 2 := by unfold deepE; rw [if_pos hx]
    rw [hE]
    obtain ⟨rfl, hd⟩ := hx
    have hdi : (256 : Int) < (d : Int) := by omega
    have CF := Lib.hid (pfail_any b sl i d 0 2 w HP.out)
    rw [if_pos rfl] at CF
    clear hE
    go_enter Tryz.func135, Tryz.ntmps135
    go_wp2_with fail
    refine CF.out.mono ?_
    rintro e w1 ⟨rfl, hP1, hg⟩
    have g3 := hP1.c3
    clear CF h2 h3
    go_wp2_with fail
    go_ret
    exact ⟨rfl, hP1, hg⟩
  · have hE : deepE d x = x := by unfold deepE; rw [if_neg hx]
    rw [hE]
    by_cases hx0 : x = 0
    · subst hx0
      have hdi : ¬ (256 : Int) < (d : Int) := by omega
      clear hE
      go_enter Tryz.func135, Tryz.ntmps135
      go_wp2_with fail
      go_ret
      exact ⟨rfl, HP.out, grown_refl _ _⟩
    · have hbx : (x == 0) = false := by simpa using hx0
      clear hE
      go_enter Tryz.func135, Tryz.ntmps135
      go_wp2_with fail
      go_ret
      refine ⟨ret_bool ?_, HP.out, grown_refl _ _⟩
      simp [hx0]

set_option maxHeartbeats 4000000 in
theorem ptake_any (b : Nat) (a : Option Addr) (len cap : Nat) (ts : List TA) (i d : Nat) (x : Int) (s : ByteArray) (w : World) (hP : Pr w b (.slice a len cap) i d x) (hT : IsToks w a len ts) (hl : 1 ≤ len) (hlm : len ≤ 1000000000000) (hi : i < 1000000000000)
    (t : TA) (ht : ts[min i (len - 1)]? = some t) :
    Calls Tryz.prog 233 #[ptr b, .string s] w fun e w' => e = .returned (.tuple #[]) ∧ Pr w' b (.slice a len cap) (if isS x t 5 s = true then i + 1 else i) d (if isS x t 5 s = true then x else if x = 0 then 3 else x) ∧ w.grownBy w' (some b) := by
  have C := Lib.hid (pis_any b a len cap ts i d x s w hP hT hl hlm (by omega) t ht)
  have HP := Lib.hid hP
  clear hP hT
  cases hv : isS x t 5 s with
  | false =>
    rw [hv] at C
    rw [if_neg (by simp), if_neg (by simp)]
    clear hv
    go_enter Tryz.func233, Tryz.ntmps233
    go_wp2_with fail
    refine C.out.mono ?_
    rintro e w1 ⟨rfl, hb1⟩
    have CF := Lib.hid (pfail_any b (.slice a len cap) i d x 3 w1 (HP.out.below hb1 HP.out.lt))
    have HG := Lib.hid (grown_below hb1 (some b))
    clear hb1 C
    go_wp2_with fail
    refine CF.out.mono ?_
    rintro e w2 ⟨rfl, hP2, hg⟩
    have HP2 := Lib.hid (And.intro hP2 (HG.out.trans hg))
    clear hP2 hg
    go_wp2_with fail
    all_goals
      exact bodyPost_ret (v := .tuple #[]) (by simp [results, Tryz.results233, go_sem]) rfl ⟨rfl, by simpa [*] using HP2.out.1, HP2.out.2⟩
  | true =>
    rw [hv] at C
    rw [if_pos rfl, if_pos rfl]
    clear hv
    go_enter Tryz.func233, Tryz.ntmps233
    go_wp2_with fail
    refine C.out.mono ?_
    rintro e w1 ⟨rfl, hb1⟩
    have hP1 := HP.out.below hb1 HP.out.lt
    have g1 := hP1.c1
    have gf := hP1.free
    have HP1 := Lib.hid hP1
    have HG := Lib.hid (grown_below hb1 (some b))
    clear hb1 C hP1
    go_wp2_with fail
    exact bodyPost_end (v := .tuple #[]) (by simp [results, Tryz.results233, go_sem]) rfl ⟨rfl, Pr.set1 HP1.out (i + 1), HG.out.trans (grown_set _ _ _ _)⟩

end Go.Proofs.YtmdpjahhhfajaaaGreatDoor
set_option linter.unusedVariables false
set_option maxRecDepth 100000
namespace Go.Proofs.YtmdpjahhhfajaaaGreatDoor
open Go.RowKit Wh

theorem hasB_res (s : ByteArray) : hasB resL s = resB s := rfl

set_option maxHeartbeats 1000000 in
theorem rreserved_any (s : ByteArray) (w : World) : Calls Tryz.prog 111 #[.string s] w fun e w' => e = .returned (.bool (resB s)) ∧ Below w.heap.size w w' := by
  go_enter Tryz.func111, Tryz.ntmps111
  go_wp2_with fail
  have HS : IsStrs (w.alloc (.cells #[.string ⟨#[97, 110, 100]⟩, .string ⟨#[111, 114]⟩, .string ⟨#[110, 111, 116]⟩, .string ⟨#[110, 117, 108, 108]⟩, .string ⟨#[116, 114, 117, 101]⟩, .string ⟨#[102, 97, 108, 115, 101]⟩, .string ⟨#[98, 121]⟩, .string ⟨#[115, 101, 108, 102]⟩] 9)) (some ⟨w.heap.size, 0, none⟩) 8 resL := by
    refine ⟨rfl, .inr ⟨w.heap.size, 0, rfl, by simp, fun i x hx => ?_⟩⟩
    have h1 : (resL.map Value.string)[i]? = some (.string x) := by rw [List.getElem?_map, hx]; rfl
    rw [Nat.zero_add]
    exact (cell_of_row _ _ i _ _ _ (heap_alloc_new w _)).trans (by rw [← Array.getElem?_toList]; exact h1)
  refine (has_any _ 8 8 resL s _ HS (by decide)).mono ?_
  rintro e w1 ⟨rfl, rfl⟩
  go_wp2_with fail
  go_ret
  exact ⟨by rw [hasB_res]; rfl, (Below.refl _ _).alloc (Nat.le_refl _) _⟩

end Go.Proofs.YtmdpjahhhfajaaaGreatDoor
set_option linter.unusedVariables false
set_option linter.unusedSimpArgs false
set_option maxRecDepth 100000
namespace Wh
open Go Go.Proofs.YtmdpjahhhfajaaaGreatDoor

/-- Is the token an opening parenthesis? -/
def opnB (u : TA) : Bool := decide (u.1.k = 5) && eqS u.1.tx opnS
/-- Can an operand without not begin with the token t, in front of u? -/
def begB (x : Int) (t u : TA) : Bool :=
  if t.1.k = 2 ∨ t.1.k = 3 ∨ t.1.k = 4 then true
  else if t.1.k = 1 then
    if eqS t.1.tx nulS = true ∨ eqS t.1.tx truS = true ∨ eqS t.1.tx falS = true then true
    else !resB t.1.tx && (opnB u || nameB t.1.tx)
  else isS x t 5 minS || isS x t 5 opnS
theorem isS_sym (t : TA) (s : ByteArray) : isS 0 t 5 s = symT t s := rfl
theorem isS_wrd (t : TA) (s : ByteArray) : isS 0 t 1 s = wrdT t s := rfl
theorem isS_bad {x : Int} (h : x ≠ 0) (t : TA) (k : Int) (s : ByteArray) : isS x t k s = false := by unfold isS; rw [decide_eq_false h]; rfl
theorem begB0 (t u : TA) : begB 0 t u = begT t u := rfl

end Wh
namespace Go.Proofs.YtmdpjahhhfajaaaGreatDoor
open Go.RowKit Wh

set_option maxHeartbeats 4000000 in
theorem pbegins_any (b : Nat) (a : Option Addr) (len cap : Nat) (ts : List TA) (i d : Nat) (x : Int) (w : World) (hP : Pr w b (.slice a len cap) i d x) (hT : IsToks w a len ts) (hl : 1 ≤ len) (hlm : len ≤ 1000000000000) (hi : i ≤ 1000000000000)
    (t u : TA) (ht : ts[min i (len - 1)]? = some t) (hu : ts[min (i + 1) (len - 1)]? = some u) :
    Calls Tryz.prog 229 #[ptr b] w fun e w' => e = .returned (.bool (begB x t u)) ∧ Below w.heap.size w w' := by
  have C0 := Lib.hid (ppeek_any b a len cap ts i d 0 x w hP hT hl hlm hi (by omega) t (by rw [Nat.add_zero]; exact ht))
  have C1 := Lib.hid (fun W (h : Below w.heap.size w W) => ppeek_any b a len cap ts i d 1 x W (hP.below h hP.lt) (hT.below h (Nat.le_refl _)) hl hlm hi (by omega) u hu)
  have CI := Lib.hid (fun s W (h : Below w.heap.size w W) => pis_any b a len cap ts i d x s W (hP.below h hP.lt) (hT.below h (Nat.le_refl _)) hl hlm hi t ht)
  obtain ⟨⟨k, tx, n⟩, p⟩ := t
  unfold tokV at C0
  simp only at C0
  clear hP hT ht hu
  by_cases hk : k = 2 ∨ k = 3 ∨ k = 4
  · have hE : begB x (⟨k, tx, n⟩, p) u = true := by unfold begB; rw [if_pos hk]
    rw [hE]
    clear hE C1 CI
    rcases hk with rfl | rfl | rfl
    all_goals
      go_enter Tryz.func229, Tryz.ntmps229
      go_wp2_with fail
      refine C0.out.mono ?_
      rintro e w1 ⟨rfl, hb1⟩
      go_wp2_with fail
      go_ret
      exact ⟨rfl, hb1.alloc hb1.size _⟩
  · by_cases hk1 : k = 1
    · subst hk1
      by_cases he : eqS tx nulS = true ∨ eqS tx truS = true ∨ eqS tx falS = true
      · have hE : begB x (⟨1, tx, n⟩, p) u = true := by unfold begB; rw [if_neg hk, if_pos rfl, if_pos he]
        rw [hE]
        clear hE C1 CI hk
        rw [eqS_iff, eqS_iff, eqS_iff] at he
        rcases he with rfl | rfl | rfl
        all_goals
          try unfold nulS at C0
          try unfold truS at C0
          try unfold falS at C0
          go_enter Tryz.func229, Tryz.ntmps229
          go_wp2_with fail
          refine C0.out.mono ?_
          rintro e w1 ⟨rfl, hb1⟩
          go_wp2_with fail
          go_ret
          exact ⟨rfl, hb1.alloc hb1.size _⟩
      · have hE : begB x (⟨1, tx, n⟩, p) u = (!resB tx && (opnB u || nameB tx)) := by unfold begB; rw [if_neg hk, if_pos rfl, if_neg he]
        rw [hE]
        have h1 : ¬ tx.toList = [110, 117, 108, 108] := fun h => he (.inl (by unfold eqS nulS; rw [h]; decide +kernel))
        have h2 : ¬ tx.toList = [116, 114, 117, 101] := fun h => he (.inr (.inl (by unfold eqS truS; rw [h]; decide +kernel)))
        have h3 : ¬ tx.toList = [102, 97, 108, 115, 101] := fun h => he (.inr (.inr (by unfold eqS falS; rw [h]; decide +kernel)))
        have f1 : (tx.toList == [110, 117, 108, 108]) = false := by simpa using h1
        have f2 : (tx.toList == [116, 114, 117, 101]) = false := by simpa using h2
        have f3 : (tx.toList == [102, 97, 108, 115, 101]) = false := by simpa using h3
        clear h1 h2 h3
        have CR := Lib.hid (fun W => rreserved_any tx W)
        have CN := Lib.hid (fun W => rIsName_any tx W)
        generalize resB tx = rb at *
        generalize nameB tx = nb at *
        clear hE CI hk he
        obtain ⟨⟨uk, ux, un⟩, up⟩ := u
        unfold tokV at C1
        simp only at C1
        have hob : opnB (⟨uk, ux, un⟩, up) = (decide (uk = 5) && decide (ux.toList = [40])) := by
          have e : (⟨#[40]⟩ : ByteArray).toList = [40] := by decide +kernel
          unfold opnB eqS opnS
          simp only [e]
          by_cases h : ux.toList = [40] <;> simp [h]
        rw [hob]
        clear hob
        have hb6 : decide (ux.toList = [40]) = (ux.toList == [40]) := by by_cases h : ux.toList = [40] <;> simp [h]
        rw [hb6]
        clear hb6
        obtain ⟨pb, hpb⟩ : ∃ q, (ux.toList == [40]) = q := ⟨_, rfl⟩
        rw [hpb]
        have hop : (uk = 5 ∧ pb = true) ∨ ¬ uk = 5 ∨ (uk = 5 ∧ pb = false) := by
          by_cases h5 : uk = 5
          · cases pb
            · exact .inr (.inr ⟨h5, rfl⟩)
            · exact .inl ⟨h5, rfl⟩
          · exact .inr (.inl h5)
        cases rb <;> rcases hop with ⟨h5, h6⟩ | h5 | ⟨h5, h6⟩
        all_goals
          try subst h5
          try subst h6
          go_enter Tryz.func229, Tryz.ntmps229
          go_wp2_with fail
          refine C0.out.mono ?_
          rintro e w1 ⟨rfl, hb1⟩
          have hX1 := Box4.new w1 (.int .i64 1) (.string tx) (.int .i64 n) (.int .i64 p) 71
          have hB1 := hb1.alloc hb1.size (.cells #[.int .i64 1, .string tx, .int .i64 n, .int .i64 p] 71)
          have hs1 := hB1.size
          go_wp2_with fail
          refine (C1.out _ hB1).mono ?_
          rintro e w2 ⟨rfl, hb2⟩
          have hB2 := hB1.trans (hb2.mono hs1)
          have hs2 := hB2.size
          have hX2 := fun o => (hX1.below hb2 hX1.lt).alloc o
          have hB3 := fun o => hB2.alloc hs2 o
          have g1 := fun o => (hX2 o).c1
          clear hb1 hb2 hB1 hX1 C0 C1
          go_wp2_with fail
          refine (CR.out _).mono ?_
          rintro e w4 ⟨rfl, hb4⟩
          have hB4 := (hB3 _).trans (hb4.mono (hB3 _).size)
          have g2 := ((hX2 _).below hb4 (hX2 _).lt).c1
          clear hX2 hb4 hB3 CR g1
          first
            | (go_wp2_with fail; go_ret; refine ⟨ret_bool ?_, hB4⟩; first | rfl | (simp_all; done))
            | (go_wp2_with fail; refine (CN.out _).mono ?_; rintro e w5 ⟨rfl, rfl⟩; go_wp2_with fail; go_ret; refine ⟨ret_bool ?_, hB4⟩; first | rfl | (simp_all; done))
    · have hE : begB x (⟨k, tx, n⟩, p) u = (isS x (⟨k, tx, n⟩, p) 5 minS || isS x (⟨k, tx, n⟩, p) 5 opnS) := by unfold begB; rw [if_neg hk, if_neg hk1]
      rw [hE]
      have CM := Lib.hid (CI.out minS)
      have CO := Lib.hid (CI.out opnS)
      generalize isS x (⟨k, tx, n⟩, p) 5 minS = bm at *
      generalize isS x (⟨k, tx, n⟩, p) 5 opnS = bo at *
      obtain ⟨q2, q3, q4⟩ : ¬ k = 2 ∧ ¬ k = 3 ∧ ¬ k = 4 := by omega
      unfold minS at CM
      unfold opnS at CO
      clear hE CI C1 hk
      cases bm
      all_goals
        go_enter Tryz.func229, Tryz.ntmps229
        go_wp2_with fail
        refine C0.out.mono ?_
        rintro e w1 ⟨rfl, hb1⟩
        have hB1 := hb1.alloc hb1.size (.cells #[.int .i64 k, .string tx, .int .i64 n, .int .i64 p] 71)
        have hs1 := hB1.size
        go_wp2_with fail
        refine (CM.out _ hB1).mono ?_
        rintro e w2 ⟨rfl, hb2⟩
        have hB2 := hB1.trans (hb2.mono hs1)
        first
          | (go_wp2_with fail; go_ret; exact ⟨rfl, hB2⟩)
          | (go_wp2_with fail; refine (CO.out _ hB2).mono ?_; rintro e w3 ⟨rfl, hb3⟩; go_wp2_with fail; go_ret; exact ⟨rfl, hB2.trans (hb3.mono hB2.size)⟩)

end Go.Proofs.YtmdpjahhhfajaaaGreatDoor
