/-
  Names and qualified names at the beginning of a text, plainly. · The number that digits spell, plainly: as the reference reads it, and as strconv.Atoi does. No program's functions. · What package token asks of the world (four variables), and what the library's functions return to it. · What came in: tokens, bytes. The wrap that hands the walk the world's shape. What the package-level variables hold.
-/
import Derived.Test.YtmdpjahhhfajaaaGreatDoorJA06
import Derived.Test.YtmdpjahhhfajaaaGreatDoorJA07
import Derived.Lib.AtoiAll
import Derived.Test.YtmdpjahhhfajaaaGreatDoorJA08
import Derived.Lib.LaidTab
import Derived.Lib.SmallJoins
import Derived.Lib.AppendIntMem
import Derived.LaidMore
import Derived.Stop.LaidErr
import Derived.Shelf.Vars
import Derived.SizedLaws
import Derived.Deep.Slices
import Derived.Deep.Strs
import Derived.ChangeMaps5
set_option linter.unusedVariables false
set_option maxRecDepth 100000
namespace Wh
open Go Go.Proofs.YtmdpjahhhfajaaaGreatDoor

theorem takeWhile_all {α : Type} (q : α → Bool) : ∀ (l : List α) (n : Nat), n < (l.takeWhile q).length → ∃ x, l[n]? = some x ∧ q x = true
  | [], n, h => by simp at h
  | x :: l, n, h => by
    rw [List.takeWhile_cons] at h
    cases hq : q x with
    | false => rw [hq] at h; simp at h
    | true =>
      rw [hq] at h
      simp only [if_true, List.length_cons] at h
      cases n with
      | zero => exact ⟨x, rfl, hq⟩
      | succ n =>
        obtain ⟨y, hy, hb⟩ := takeWhile_all q l n (by omega)
        exact ⟨y, by simpa using hy, hb⟩
theorem takeWhile_end {α : Type} (q : α → Bool) : ∀ (l : List α), (l.takeWhile q).length < l.length → ∃ x, l[(l.takeWhile q).length]? = some x ∧ q x = false
  | [], h => by simp at h
  | x :: l, h => by
    rw [List.takeWhile_cons] at h ⊢
    cases hq : q x with
    | false => exact ⟨x, by simp, hq⟩
    | true =>
      rw [hq] at h
      simp only [if_true, List.length_cons] at h
      obtain ⟨y, hy, hb⟩ := takeWhile_end q l (by omega)
      exact ⟨y, by simpa using hy, hb⟩
theorem span_all {p : Nat → Bool} {s : ByteArray} {j : Nat} (h : j < spanN p s) : p (btN s j) = true := by
  obtain ⟨x, hx, hb⟩ := takeWhile_all _ _ _ h
  rw [btN_of hx]
  exact hb
theorem span_stop {p : Nat → Bool} {s : ByteArray} (h : spanN p s < s.size) : p (btN s (spanN p s)) = false := by
  obtain ⟨x, hx, hb⟩ := takeWhile_end (fun x : UInt8 => p x.toNat) (bts s) (by rw [bts_length]; exact h)
  show p (btN s ((bts s).takeWhile fun x => p x.toNat).length) = false
  rw [btN_of hx]
  exact hb
theorem extract_extract (s : ByteArray) (a b c d : Nat) (h : d ≤ b - a) : (s.extract a b).extract c d = s.extract (a + c) (a + d) := by
  apply ByteArray.ext
  apply Array.toList_inj.1
  show bts ((s.extract a b).extract c d) = bts (s.extract (a + c) (a + d))
  rw [bts_extract, bts_extract, bts_extract]
  rw [List.drop_take, List.take_take, List.drop_drop]
  congr 1
  omega

theorem letB_low (c : Nat) : letB (c : Int) = lowB c := by
  unfold letB lowB
  congr 1
  · exact decide_eq_decide.2 (by omega)
  · exact decide_eq_decide.2 (by omega)
theorem digB_num (c : Nat) : digB (c : Int) = numB c := by
  unfold digB numB
  congr 1
  · exact decide_eq_decide.2 (by omega)
  · exact decide_eq_decide.2 (by omega)
theorem okN_low (c : Nat) : okN 0 c = lowB c := by rw [okN_zero, letB_low]
theorem okN_word {i : Nat} (h : ¬ i = 0) (c : Nat) : okN i c = wordB c := by
  rw [okN_succ h]
  unfold chrB wordB
  rw [letB_low, digB_num, Bool.or_assoc]
theorem low_word {c : Nat} (h : lowB c = true) : wordB c = true := by unfold wordB; rw [h]; rfl
theorem word_dot {c : Nat} (h : wordB c = true) : ¬ c = 46 := by
  rintro rfl
  exact absurd h (by decide)
/-- A text of bytes of names, a letter ahead. -/
theorem nameB_word {s : ByteArray} (h1 : 1 ≤ s.size) (h0 : lowB (btN s 0) = true) (h : ∀ j, j < s.size → wordB (btN s j) = true) : nameB s = decide (s.size ≤ 24) := by
  by_cases h24 : s.size ≤ 24
  · rw [decide_eq_true h24]
    refine nameB_yes h1 h24 fun i hi => ?_
    by_cases e : i = 0
    · subst e; rw [okN_low]; exact h0
    · rw [okN_word e]; exact h i hi
  · rw [decide_eq_false h24]
    exact nameB_size (.inr (by omega))

theorem qual_one {s : ByteArray} {n : Nat} (hn : n ≤ s.size) (h1 : 1 ≤ n) (h0 : lowB (btN s 0) = true) (h : ∀ j, j < n → wordB (btN s j) = true) : qualB (s.extract 0 n) = decide (n ≤ 24) := by
  have hs : (s.extract 0 n).size = n := by rw [size_extract (by omega) hn]; omega
  have hb : ∀ j, j < n → btN (s.extract 0 n) j = btN s j := fun j hj => by rw [btN_extract s 0 n j (by omega), Nat.zero_add]
  rw [qualB_no (dot_none fun j hj => by rw [hs] at hj; rw [hb j hj]; exact word_dot (h j hj)), nameB_word (by omega) (by rw [hb 0 (by omega)]; exact h0) (fun j hj => by rw [hs] at hj; rw [hb j hj]; exact h j hj), hs]
theorem qual_two {s : ByteArray} {n k : Nat} (hm : n + 1 + k ≤ s.size) (h1 : 1 ≤ n) (h0 : lowB (btN s 0) = true) (h : ∀ j, j < n → wordB (btN s j) = true) (hd : btN s n = 46) (h2 : 1 ≤ k) (h3 : lowB (btN s (n + 1)) = true) (h4 : ∀ j, j < k → wordB (btN s (n + 1 + j)) = true) :
    qualB (s.extract 0 (n + 1 + k)) = (decide (n ≤ 24) && decide (k ≤ 24)) := by
  have hs : (s.extract 0 (n + 1 + k)).size = n + 1 + k := by rw [size_extract (by omega) hm]; omega
  have hb : ∀ j, j < n + 1 + k → btN (s.extract 0 (n + 1 + k)) j = btN s j := fun j hj => by rw [btN_extract s 0 (n + 1 + k) j (by omega), Nat.zero_add]
  have e := dot_first (s := s.extract 0 (n + 1 + k)) (k := n) (fun j hj => by rw [hb j (by omega)]; exact word_dot (h j hj)) (by omega) (by rw [hb n (by omega)]; exact hd)
  rw [qualB_at e, hs, extract_extract s 0 _ 0 n (by omega), extract_extract s 0 _ (n + 1) (n + 1 + k) (by omega)]
  simp only [Nat.zero_add]
  have hs1 : (s.extract 0 n).size = n := by rw [size_extract (by omega) (by omega)]; omega
  have hs2 : (s.extract (n + 1) (n + 1 + k)).size = k := by rw [size_extract (by omega) (by omega)]; omega
  have hb1 : ∀ j, j < n → btN (s.extract 0 n) j = btN s j := fun j hj => by rw [btN_extract s 0 n j (by omega), Nat.zero_add]
  have hb2 : ∀ j, j < k → btN (s.extract (n + 1) (n + 1 + k)) j = btN s (n + 1 + j) := fun j hj => btN_extract s (n + 1) (n + 1 + k) j (by omega)
  rw [nameB_word (by omega) (by rw [hb1 0 (by omega)]; exact h0) (fun j hj => by rw [hs1] at hj; rw [hb1 j hj]; exact h j hj), hs1,
    nameB_word (by omega) (by rw [hb2 0 (by omega)]; exact h3) (fun j hj => by rw [hs2] at hj; rw [hb2 j hj]; exact h4 j hj), hs2]

end Wh

set_option linter.unusedVariables false
set_option maxRecDepth 100000
namespace Wh
open Go Go.Proofs.YtmdpjahhhfajaaaGreatDoor

/-- What digits spell, behind what was read before. -/
def valF : Nat → List UInt8 → Nat
  | a, [] => a
  | a, x :: l => valF (a * 10 + (x.toNat - 48)) l
theorem valF_ge : ∀ (l : List UInt8) (a : Nat), a ≤ valF a l
  | [], a => Nat.le_refl _
  | x :: l, a => by
    have := valF_ge l (a * 10 + (x.toNat - 48))
    unfold valF
    omega
theorem valF_push : ∀ (l : List UInt8) (x : UInt8) (a : Nat), valF a (l ++ [x]) = valF a l * 10 + (x.toNat - 48)
  | [], x, a => rfl
  | y :: l, x, a => by
    rw [List.cons_append]
    unfold valF
    exact valF_push l x _
def digL (l : List UInt8) : Prop := ∀ x ∈ l, 48 ≤ x.toNat ∧ x.toNat ≤ 57

theorem parse_digits : ∀ (l : List UInt8) (a : Nat), digL l → a < 18446744073709551616 → (Lib.parseUint10 a l = .ok (valF a l) ∧ valF a l < 18446744073709551616) ∨ (Lib.parseUint10 a l = .range ∧ 18446744073709551616 ≤ valF a l)
  | [], a, _, ha => .inl ⟨rfl, ha⟩
  | x :: l, a, hd, ha => by
    have hx := hd x List.mem_cons_self
    have hl : digL l := fun y hy => hd y (List.mem_cons_of_mem _ hy)
    unfold valF Lib.parseUint10
    rw [if_pos hx]
    have hge := valF_ge l (a * 10 + (x.toNat - 48))
    by_cases h1 : 1844674407370955162 ≤ a
    · rw [if_pos h1]
      exact .inr ⟨rfl, by omega⟩
    · rw [if_neg h1]
      by_cases h2 : 18446744073709551616 ≤ a * 10 + (x.toNat - 48)
      · rw [if_pos h2]
        exact .inr ⟨rfl, by omega⟩
      · rw [if_neg h2]
        exact parse_digits l _ hl (by omega)
theorem atoi_digits {l : List UInt8} (hd : digL l) (hl : l ≠ []) : (Lib.atoiAll l = .ok (valF 0 l : Int) ∧ valF 0 l < 9223372036854775808) ∨ (Lib.atoiAll l = .range ∧ 9223372036854775808 ≤ valF 0 l) := by
  cases l with
  | nil => exact absurd rfl hl
  | cons x l =>
    have hx := hd x List.mem_cons_self
    have h1 : ¬ x.toNat = 43 := by omega
    have h2 : ¬ x.toNat = 45 := by omega
    have hp : Lib.parseMag (x :: l) = Lib.parseUint10 0 (x :: l) := by unfold Lib.parseMag; rw [if_neg (by simp)]
    unfold Lib.atoiAll
    simp only [h1, h2, or_self, if_false, hp, not_false_eq_true, true_and, false_and]
    rcases parse_digits (x :: l) 0 hd (by omega) with ⟨e, hb⟩ | ⟨e, hb⟩
    · rw [e]
      simp only
      by_cases h3 : 9223372036854775808 ≤ valF 0 (x :: l)
      · rw [if_pos h3]
        exact .inr ⟨rfl, h3⟩
      · rw [if_neg h3]
        exact .inl ⟨rfl, by omega⟩
    · rw [e]
      exact .inr ⟨rfl, by omega⟩

theorem decV_val {s : ByteArray} (k : Nat) : k ≤ s.size → (∀ j, j < k → numB (btN s j) = true) → decV s k = min (valF 0 ((bts s).take k) : Int) 1073741825 := by
  induction k with
  | zero =>
    intro _ _
    rw [List.take_zero]
    rfl
  | succ k ih0 =>
    intro hk h
    have ih := ih0 (by omega) fun j hj => h j (by omega)
    obtain ⟨x, hx⟩ := bts_at (s := s) (i := k) (by omega)
    have hd := numB_bd (h k (by omega))
    rw [btN_of hx] at hd
    have e : decV s (k + 1) = min (decV s k * 10 + ((btN s k : Int) - 48)) 1073741825 := rfl
    rw [e, ih, List.take_add_one, hx, btN_of hx]
    simp only [Option.toList]
    rw [valF_push]
    generalize valF 0 ((bts s).take k) = v
    omega
theorem digL_take {s : ByteArray} {k : Nat} (h : ∀ j, j < k → numB (btN s j) = true) : digL ((bts s).take k) := by
  intro x hx
  obtain ⟨i, hi⟩ := List.mem_iff_getElem?.1 hx
  have hlt := (List.getElem?_eq_some_iff.1 hi).1
  rw [List.length_take] at hlt
  rw [List.getElem?_take_of_lt (by omega)] at hi
  have := numB_bd (h i (by omega))
  rw [btN_of hi] at this
  exact this

end Wh

set_option linter.unusedVariables false
set_option maxRecDepth 100000
namespace Go.Proofs.YtmdpjahhhfajaaaGreatDoor
open Go.RowKit Wh

/-- A table by another name of the same variable. -/
theorem tab_same {P : Program} {w : World} {a b : String} {g : Nat} {k : IntKind} {zs : List Int} (h1 : P.globalNamed a = some g) (h2 : P.globalNamed b = some g) (h : Lib.TabIs P w a k zs) : Lib.TabIs P w b k zs := by
  unfold Lib.TabIs World.var? at *
  rw [h2]
  rw [h1] at h
  exact h

/-- What the variables hold. -/
structure Glo (w : World) : Prop where
  tab : Tab w
  pow : ∃ nm, Tryz.prog.globalNamed nm = some 3 ∧ Lib.TabIs Tryz.prog w nm .u64 Lib.pow10Tab
  err : ∃ te pe, w.cell? ⟨5, 0, none⟩ = some (.iface te pe)
  max : ∃ m, w.cell? ⟨2, 0, none⟩ = some (.int .i64 m)

theorem Glo.below {w w' : World} {B : Nat} (h : Glo w) (hb : Below B w w') (hB : w.heap.size ≤ B) : Glo w' := by
  refine ⟨h.tab.below hb hB, ?_, ?_, ?_⟩
  · obtain ⟨nm, hn, ht⟩ := h.pow
    exact ⟨nm, hn, Go.Joins.var_stays hn ht hb hB⟩
  · obtain ⟨te, pe, hc⟩ := h.err
    exact ⟨te, pe, by rw [hb.cell (p := ⟨5, 0, none⟩) (Nat.lt_of_lt_of_le (World.block_lt_of_cell? w _ hc) hB)]; exact hc⟩
  · obtain ⟨m, hc⟩ := h.max
    exact ⟨m, by rw [hb.cell (p := ⟨2, 0, none⟩) (Nat.lt_of_lt_of_le (World.block_lt_of_cell? w _ hc) hB)]; exact hc⟩
theorem Glo.next {w w' : World} (h : Glo w) (hb : Below w.heap.size w w') : Glo w' := h.below hb (Nat.le_refl _)

theorem below_bytes (w : World) (e : TypeId) (s : ByteArray) : Below w.heap.size w (Lib.bytesWorld w e s) := ⟨rfl, rfl, rfl, by rw [Lib.bytesWorld_size]; omega, fun k hk => Lib.bytesWorld_at_old w e s k hk⟩

/-- A text, in memory of its own. -/
def IsStr (l : List UInt8) (w : World) (e : Ending) (w' : World) : Prop := e = .returned (.string ⟨l.toArray⟩) ∧ Below w.heap.size w w'

theorem itoa_any (n : Int) (h0 : 0 ≤ n) (h1 : n ≤ 9223372036854775807) (w : World) (hg : Glo w) : Calls Tryz.prog 105 #[.int .i64 n] w (IsStr (Lib.decDigits n.toNat) w) := by
  obtain ⟨nm, hn, ht⟩ := hg.pow
  refine (Any.strconv_Itoa laysM171 n (by omega) h1 w (tab_same hn laysM171.m17 ht)).mono ?_
  rintro e w' ⟨rfl, k, os, rfl⟩
  refine ⟨?_, Lib.below_grow _ _ (Nat.le_refl _) _ _⟩
  unfold Lib.itoa
  rw [if_neg (by omega)]

theorem atoi_ok (s : ByteArray) (hs : s.size ≤ 281474976710656) (v : Int) (h : Lib.atoiAll (bts s) = .ok v) (w : World) : Calls Tryz.prog 146 #[.string s] w fun e w' => e = .returned (.tuple #[.int .i64 v, .nilIface]) ∧ Below w.heap.size w w' := by
  refine (Any.strconv_Atoi_ok laysC172 s (by omega) v h w).mono ?_
  rintro e w' ⟨rfl, rfl | ⟨t, rfl⟩⟩
  · exact ⟨rfl, Below.refl _ _⟩
  · exact ⟨rfl, below_bytes _ _ _⟩
/-- .. an error that is not nil. -/
def IsBad (w : World) (e : Ending) (w' : World) : Prop := ∃ z t p, e = .returned (.tuple #[.int .i64 z, .iface t p]) ∧ Below w.heap.size w w'
theorem atoi_bad (s : ByteArray) (hs : s.size ≤ 281474976710656) (h : Lib.atoiAll (bts s) = .range) (w : World) (hg : Glo w) : Calls Tryz.prog 146 #[.string s] w (IsBad w) := by
  obtain ⟨te, pe, hc⟩ := hg.err
  refine (Any.strconv_Atoi_range laysC172 s hs h _ w hc (.inr ⟨te, pe, rfl⟩)).mono ?_
  rintro e w' ⟨N, rfl, _, _, hb⟩
  exact ⟨_, _, _, rfl, hb⟩

theorem unp_any (s : ByteArray) (hs : s.size ≤ 1000000) (w : World) (hg : Glo w) : Calls Tryz.prog 148 #[.string s, .string ⟨#[39, 39]⟩, .string ⟨#[39]⟩] w (IsStr (unp (bts s)) w) := by
  obtain ⟨m, hm⟩ := hg.max
  have hc := Lib.countB_le ⟨#[39, 39]⟩ (by decide) s.size s (Nat.le_refl _)
  refine (Any.strings_ReplaceAll lays155 extra155 s ⟨#[39, 39]⟩ ⟨#[39]⟩ m w (by omega) hm (by decide) (by show s.size + _ * 1 ≤ _; omega)).mono ?_
  rintro e w' ⟨rfl, hb⟩
  refine ⟨?_, hb⟩
  rw [show (⟨#[39, 39]⟩ : ByteArray).data.toList = [39, 39] from rfl, show (⟨#[39]⟩ : ByteArray).data.toList = [39] from rfl, unp_replace]
  rfl
theorem dbl_any (s : ByteArray) (hs : s.size ≤ 1000000) (w : World) (hg : Glo w) : Calls Tryz.prog 148 #[.string s, .string ⟨#[39]⟩, .string ⟨#[39, 39]⟩] w (IsStr (dbl (bts s)) w) := by
  obtain ⟨m, hm⟩ := hg.max
  have hc := Lib.countB_le ⟨#[39]⟩ (by decide) s.size s (Nat.le_refl _)
  refine (Any.strings_ReplaceAll lays155 extra155 s ⟨#[39]⟩ ⟨#[39, 39]⟩ m w (by omega) hm (by decide) (by show s.size + _ * 2 ≤ _; omega)).mono ?_
  rintro e w' ⟨rfl, hb⟩
  refine ⟨?_, hb⟩
  rw [show (⟨#[39, 39]⟩ : ByteArray).data.toList = [39, 39] from rfl, show (⟨#[39]⟩ : ByteArray).data.toList = [39] from rfl, dbl_replace]
  rfl

theorem join_any (a : Option Addr) (len cap : Nat) (ss : List ByteArray) (w : World) (hs : IsStrs w a len ss) (hl : len ≤ 1000000) (hc : len ≤ cap) (hlen : (Lib.join (ss.map bts) [32]).length ≤ 140737488355328) :
    Calls Tryz.prog 108 #[.slice a len cap, .string ⟨#[32]⟩] w (IsStr (Lib.join (ss.map bts) [32]) w) := by
  obtain ⟨h1, h2⟩ := hs
  subst h1
  rcases h2 with rfl | ⟨b, off, rfl, hlt, hcs⟩
  · refine (Any.strings_Join_none lays156 extra156 a cap ⟨#[32]⟩ w).mono ?_
    rintro e w' ⟨rfl, rfl⟩
    exact ⟨rfl, Below.refl _ _⟩
  · refine (Any.strings_Join lays156 extra156 b off cap ss ⟨#[32]⟩ w hcs hlt (by omega) hc hlen).mono ?_
    rintro e w' ⟨rfl, hb⟩
    exact ⟨rfl, hb⟩

end Go.Proofs.YtmdpjahhhfajaaaGreatDoor
set_option linter.unusedVariables false
set_option maxRecDepth 100000
namespace Go.Proofs.YtmdpjahhhfajaaaGreatDoor
open Go.ChangeShapes Go.WideShapes Go.ChangeAt Go.RowKit Go.Deep Go.Joins Wh

/-- The wrap: the contract is handed the world's shape too. -/
theorem returns_laid {H : Type} {enc : TypeId × Value → H} {a : Assume} {C : Checked} {os : Os} {f : FuncId} {fn : Func} {s : ChangeSpec} {conds : List PathCond} {apart fresh handsOn again : Bool} {X : World → Array Value → Prop}
    (hX : ∀ (w w' : World) (args : Array Value), w.heap = w'.heap → X w args → X w' args)
    (own : ownKnob C.prog.godebug = none) (started : os.Started) (noInit : C.prog.inits.idxOf? f = none) (hfn : C.prog.funcs[f]? = some fn)
    (witness : ∃ (w : World) (tape : Tape) (i : Input), w.os = os ∧ (w.forCall tape i).Shaped C.prog ∧ i.vars = [] ∧ Input.okWide C.prog (w.forCall tape i) .any w.heap.size f i ∧
      ((s.pre enc C.prog fn conds apart (w.forCall tape i).memory i.args ∧ X (w.forCall tape i).memory i.args) ∧ sizedMet enc C.prog fn (OpenSpec.ofChange s) apart (w.forCall tape i).memory i.args) ∧ a.holds C.prog (lone (Frame.enter C.prog f i.args .normal) [] (w.forCall tape i)))
    (contract : ∀ (W : World) (base : Nat) (args : Array Value) (ds gs : List (DataW H)) (before : List MemPlace),
      (∀ (j : Nat) t v, fn.params[j]? = some t → args[j]? = some v → Value.okWide C.prog W .any base t v) →
      DataW.Whole enc C.prog fn.params.toList s.vars apart W args.toList ds gs before →
      conds.all (PathCond.test C.prog ⟨fn.params.toList, ds, s.plain.varTypes C.prog, gs⟩) = true →
      (DataW.weightsEach C.prog (fn.params.toList ++ s.plain.varTypes C.prog) (ds ++ gs)).all (· ≤ reachBytes) = true → X W args → W.ShapedOpen C.prog →
      a.holds C.prog (lone (Frame.enter C.prog f args .normal) [] W) →
      Calls C.prog f args W fun e W' => ∃ v, e = .returned v ∧ s.post enc C.prog fn apart fresh handsOn again W args v W') :
    ReturnsInHanded a C os f .any (fun w args => (s.pre enc C.prog fn conds apart w args ∧ X w args) ∧ sizedMet enc C.prog fn (OpenSpec.ofChange s) apart w args) (s.post enc C.prog fn apart fresh handsOn again) := by
  refine returnsInHanded_of_calls own started noInit witness ?_
  intro w tape i _ hsh _ hok hpre hholds
  obtain ⟨_, _, _, fn', hfn', _, _, _, _, hval⟩ := hok
  have e : fn' = fn := Option.some.inj (hfn'.symm.trans hfn)
  subst e
  obtain ⟨⟨⟨ds, gs, before, hw, hc⟩, hx⟩, hz⟩ := hpre
  have hw' := DataW.Whole.of_heap (w' := w.forCall tape i) (by rfl) hw
  refine (contract (w.forCall tape i) w.heap.size i.args ds gs before hval hw' hc (hz.weights hw) (hX _ _ _ (by rfl) hx) hsh hholds).mono fun e W' ⟨v, he, hp⟩ => ?_
  subst he
  exact ChangeSpec.post_blind hp

theorem iface_laid {n nm : String} {d : DataW Unit} {r : List (String × DataW Unit)} {W : World} {g : Nat} {ti : TypeId} {ms : Array (String × TypeId)}
    (h : laidMet Tryz.prog ((n, .iface nm d) :: r) W) (hg : Tryz.prog.globalNamed n = some g) (ht : (Tryz.prog.globals[g]?).map (·.type) = some ti) (hi : Tryz.prog.underlying ti = some (.interface ms)) :
    ∃ te pe, W.cell? ⟨g, 0, none⟩ = some (.iface te pe) := by
  obtain ⟨ps, ⟨g0, t0, cs0, f0, p0, q0, hg0, ht0, hv0, hd0, _, e0⟩, _, hrows⟩ := h
  obtain rfl := Option.some.inj (hg.symm.trans hg0)
  obtain rfl := Option.some.inj (ht.symm.trans ht0)
  obtain ⟨fuel', u, v, hcs, _, _⟩ := iface_of_trod hi hd0
  obtain ⟨l0⟩ := cs0
  simp only at hcs
  subst hcs
  exact ⟨u, v, by simpa using World.var?_cell hg0 hv0 0⟩

/-- The listed variables, in the rows' order, and the world's shape, give what the walks ask. -/
theorem glo_of {n1 n2 n3 n4 n5 n6 n7 n8 : String} {W : World}
    (h : laidMet Tryz.prog [(n1, Rows.laid_math_bits_deBruijn32tab), (n2, Rows.laid_math_bits_deBruijn64tab), (n3, Rows.laid_internal_strconv_uint64pow10), (n4, Rows.laid_unicode_utf8_acceptRanges), (n5, Rows.laid_warehouse_civil_monthLengths), (n6, Rows.laid_strconv_ErrRange), (n7, Rows.laid_strconv_ErrSyntax), (n8, Rows.laid_unicode_utf8_first)] W)
    (hsh : W.ShapedOpen Tryz.prog)
    (h3 : Tryz.prog.globalNamed n3 = some 3) (h5 : Tryz.prog.globalNamed n5 = some 6) (h6 : Tryz.prog.globalNamed n6 = some 5) : Glo W := by
  have t3 := h.tail.tail
  have t5 := h.tail.tail.tail.tail
  have t6 := h.tail.tail.tail.tail.tail
  refine ⟨?_, ⟨n3, h3, ?_⟩, ?_, ?_⟩
  · have hT := Lib.tabIs_of_head (k := .i64) (zs := tab) h5 (t := 220) (by kernel_rfl) Tryz.underlying220 Tryz.underlying3 (by kernel_rfl) (by kernel_rfl) t5
    have hc : ∀ i : Nat, i < 12 → W.cell? ⟨6, i, none⟩ = some (.int .i64 (tab.getD i 0)) := fun i hi => hT.cell h5 i hi
    exact ⟨World.block_lt_of_cell? W _ (hc 0 (by omega)), hc⟩
  · have e : (Rows.laid_internal_strconv_uint64pow10 : DataW Unit) = Lib.tabData .u64 Lib.pow10Tab := by kernel_rfl
    rw [e] at t3
    exact Lib.tabIs_of_head h3 (t := 210) (by kernel_rfl) Tryz.underlying210 Tryz.underlying193 (by kernel_rfl) (by kernel_rfl) t3
  · exact iface_laid t6 h6 (ti := 166) (by kernel_rfl) Tryz.underlying166
  · exact cell_of_shapedOpen_int (P := Tryz.prog) (t := 3) (zero := #[.int .i64 0]) hsh (of_decide_eq_true (by kernel_rfl)) (by kernel_rfl) rfl (by kernel_rfl) (by kernel_rfl) Tryz.underlying3

theorem cellsTok : Tryz.prog.cellsOf 71 = 4 := by kernel_rfl

/-- Tokens, with: a nil slice has no capacity; no text is beyond the machine's reach. -/
theorem open_toks {H : Type} {enc : TypeId × Value → H} {W : World} {base : Nat} {v : Value} {d : DataW H} {p : List MemPlace} (hv : Value.okWide Tryz.prog W .any base 34 v)
    (h : DataW.Trod enc Tryz.prog W 0 (fun _ => true) true 34 v d p) (hw : ∀ n ∈ d.weights Tryz.prog 34, n ≤ reachBytes) :
    ∃ (a : Option Addr) (len cap : Nat) (ts : List TA), v = .slice a len cap ∧ IsToks W a len ts ∧ len ≤ cap ∧ cap ≤ maxLen ∧ (a = none → cap = 0) ∧ ∀ t ∈ ts, t.1.tx.size ≤ 9223372036854775800 := by
  obtain ⟨a, len, cap, rfl⟩ := okWide_slice Tryz.underlying34 hv
  obtain ⟨fuel, hf⟩ := h
  rcases open_slice Tryz.underlying34 hf with ⟨hcs, _⟩ | ⟨x, l, c, m, n, D, Pl, hcs, _, hl, hm, hmm, hD, hi⟩
  · simp [Value.cells] at hcs
    obtain ⟨rfl, rfl, rfl⟩ := hcs
    exact ⟨none, 0, 0, [], rfl, ⟨rfl, .inl rfl⟩, Nat.le_refl _, Nat.zero_le _, fun _ => rfl, by simp⟩
  · simp [Value.cells] at hcs
    obtain ⟨rfl, rfl, rfl⟩ := hcs
    simp only [if_true] at hmm
    subst hmm
    rw [cellsTok] at hi
    have hwt : ∀ i, i < len → ∀ n ∈ (D i).weights Tryz.prog 71, n ≤ reachBytes := by
      intro i hil n hn
      have hd : d = _ := congrArg Prod.fst hD
      refine hw n ?_
      rw [hd]
      unfold DataW.weights
      rw [Tryz.underlying34]
      refine List.mem_cons_of_mem _ (List.mem_append_left _ ?_)
      have hall : ∀ (l : List (DataW H)), D i ∈ l → n ∈ DataW.weightsAll Tryz.prog 71 l := by
        intro l
        induction l with
        | nil => intro h; cases h
        | cons y l ih =>
          intro h
          unfold DataW.weightsAll
          rcases List.mem_cons.1 h with rfl | h
          · exact List.mem_append_left _ hn
          · exact List.mem_append_right _ (ih h)
      exact hall _ (List.mem_map.2 ⟨i, List.mem_range.2 hil, rfl⟩)
    suffices hs : ∃ ts, IsToks W (some x) len ts ∧ ∀ t ∈ ts, t.1.tx.size ≤ 9223372036854775800 by
      obtain ⟨vs, h, h'⟩ := hs
      exact ⟨_, _, _, vs, rfl, h, hl, hm, (fun h => by cases h), h'⟩
    by_cases h0 : len = 0
    · subst h0
      exact ⟨[], ⟨rfl, .inl rfl⟩, by simp⟩
    · have hone : ∀ i, i < len → ∃ v : TA, v.1.tx.size ≤ 9223372036854775800 ∧ W.cell? ((x.add (i * 4)).add 0) = some (.int .i64 v.1.k) ∧ W.cell? ((x.add (i * 4)).add 1) = some (.string v.1.tx) ∧ W.cell? ((x.add (i * 4)).add 2) = some (.int .i64 v.1.nm) ∧ W.cell? ((x.add (i * 4)).add 3) = some (.int .i64 v.2) := by
        intro i hil
        obtain ⟨cs', hc, ht⟩ := hi i (by omega)
        obtain ⟨_, hcl, hat⟩ := World.cells?_some hc
        obtain ⟨y0, y1, y2, y3, k, hDi, _, t0, t1, t2, t3⟩ := trod_struct4 Tryz.underlying71 ht
        match cs', hcl with
        | [c0, c1, c2, c3], _ =>
          obtain ⟨k, e0, _, _⟩ := DataW.trod_int Tryz.underlying3 t0
          obtain ⟨s, e1, hy1, hsz⟩ := DataW.trod_string Tryz.underlying9 t1
          obtain ⟨n, e2, _, _⟩ := DataW.trod_int Tryz.underlying3 t2
          obtain ⟨q, e3, _, _⟩ := DataW.trod_int Tryz.underlying3 t3
          have q0 : c0 = .int .i64 k := by simpa [show Tryz.prog.cellsOf 3 = 1 from by kernel_rfl] using e0
          have q1 : c1 = .string s := by simpa [show Tryz.prog.cellsOf 9 = 1 from by kernel_rfl] using e1
          have q2 : c2 = .int .i64 n := by simpa [show Tryz.prog.cellsOf 3 = 1 from by kernel_rfl] using e2
          have q3 : c3 = .int .i64 q := by simpa [show Tryz.prog.cellsOf 3 = 1 from by kernel_rfl] using e3
          have hz : s.size ≤ reachBytes := by
            refine hwt i hil s.size ?_
            have hd : D i = _ := congrArg Prod.fst hDi
            rw [hd, hy1]
            unfold DataW.weights
            rw [Tryz.underlying71]
            show s.size ∈ DataW.weightsEach Tryz.prog [_, _, _, _] [_, _, _, _]
            unfold DataW.weightsEach
            refine List.mem_append_right _ ?_
            unfold DataW.weightsEach
            refine List.mem_append_left _ ?_
            unfold DataW.weights
            exact List.mem_singleton.2 (by rw [Array.length_toList]; rfl)
          subst q0 q1 q2 q3
          have hr := reachBytes_lt
          exact ⟨⟨⟨k, s, n⟩, q⟩, by simp only; omega, hat 0 (by omega), hat 1 (by omega), hat 2 (by omega), hat 3 (by omega)⟩
      obtain ⟨b, off, spot⟩ := x
      obtain ⟨v0, _, hz, _⟩ := hone 0 (by omega)
      have hspot : spot = none := by simpa [Addr.add] using World.cell?_spot hz
      subst hspot
      have hadd : ∀ o j, (⟨b, o, none⟩ : Addr).add j = ⟨b, o + j, none⟩ := fun o j => by unfold Addr.add; split <;> simp_all
      obtain ⟨vs, hvl, hvs⟩ := choose_list _ len hone
      refine ⟨vs, ⟨hvl, .inr ⟨b, off, rfl, World.block_lt_of_cell? W _ hz, fun i v hv => ?_⟩⟩, fun t ht => ?_⟩
      · have := (hvs i v hv).2
        simpa only [hadd, Nat.add_zero] using this
      · obtain ⟨i, hi, rfl⟩ := List.getElem_of_mem ht
        exact (hvs i _ (List.getElem?_eq_getElem hi)).1

/-- The slice (a, len) has the bytes l. -/
def IsBytes (w : World) (a : Option Addr) (len : Nat) (l : List UInt8) : Prop :=
  l.length = len ∧ (l = [] ∨ ∃ b off, a = some ⟨b, off, none⟩ ∧ b < w.heap.size ∧ ∀ i x, l[i]? = some x → w.cell? ⟨b, off + i, none⟩ = some (.int .u8 x.toNat))

theorem open_bytelist {H : Type} {enc : TypeId × Value → H} {W : World} {base : Nat} {v : Value} {d : DataW H} {p : List MemPlace} (hv : Value.okWide Tryz.prog W .any base 127 v)
    (h : DataW.Trod enc Tryz.prog W 0 (fun _ => true) true 127 v d p) :
    ∃ (a : Option Addr) (len cap : Nat) (l : List UInt8), v = .slice a len cap ∧ IsBytes W a len l ∧ len ≤ cap ∧ cap ≤ maxLen := by
  obtain ⟨a, len, cap, rfl⟩ := okWide_slice Tryz.underlying127 hv
  obtain ⟨fuel, hf⟩ := h
  rcases open_ints Tryz.underlying127 Tryz.underlying5 (by kernel_rfl) hf with ⟨hcs, _⟩ | ⟨x, l, c, zs, hcs, _, hl, hm, hz, _, hcell, hwz⟩
  · simp [Value.cells] at hcs
    obtain ⟨rfl, rfl, rfl⟩ := hcs
    exact ⟨none, 0, 0, [], rfl, ⟨rfl, .inl rfl⟩, Nat.le_refl _, Nat.zero_le _⟩
  · simp [Value.cells] at hcs
    obtain ⟨rfl, rfl, rfl⟩ := hcs
    simp only [if_true] at hz
    refine ⟨_, _, _, (zs.take len).map fun z => UInt8.ofNat z.toNat, rfl, ⟨by rw [List.length_map, List.length_take]; omega, ?_⟩, hl, hm⟩
    by_cases h0 : len = 0
    · subst h0
      exact .inl rfl
    · obtain ⟨b, off, spot⟩ := x
      have hc0 := hcell 0 (by omega)
      have hspot : spot = none := by simpa [Addr.add] using World.cell?_spot hc0
      subst hspot
      have hadd : ∀ o j, (⟨b, o, none⟩ : Addr).add j = ⟨b, o + j, none⟩ := fun o j => by unfold Addr.add; split <;> simp_all
      refine .inr ⟨b, off, rfl, World.block_lt_of_cell? W _ hc0, fun i u hu => ?_⟩
      have hlt := (List.getElem?_eq_some_iff.1 hu).1
      rw [List.length_map, List.length_take] at hlt
      have hi := hcell i (by omega)
      rw [hadd] at hi
      rw [hi]
      rw [List.getElem?_map, List.getElem?_take_of_lt (by omega)] at hu
      have hz1 : zs[i]? = some (zs[i]'(by omega)) := List.getElem?_eq_getElem (by omega)
      rw [hz1] at hu
      simp only [Option.map_some, Option.some.injEq] at hu
      subst hu
      have hw := (hwz zs[i] (List.getElem_mem _))
      have hw1 := bounds_u8 hw
      simp only [List.getD, hz1, Option.getD_some]
      congr 2
      rw [UInt8.toNat_ofNat']
      omega

end Go.Proofs.YtmdpjahhhfajaaaGreatDoor
