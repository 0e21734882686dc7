/-
  Names and qualified names at the beginning of a text, plainly. · The n · What came in: tokens, bytes. The wrap that hands the walk the world's  · Plain functions on numbers and lists of bytes: what the value layer co · For every layer that holds nodes of expressions: nodes in memory, what · Which texts are symbols, plainly.
-/
import Derived.Test.YtmdpjahhhfajaaaGreatDoorJC04
import Derived.Test.YtmdpjahhhfajaaaGreatDoorJC05
import Derived.Lib.AtoiAll
import Derived.Lib.LaidTab
import Derived.Lib.SmallJoins
import Derived.Lib.AppendIntMem
import Derived.Test.YtmdpjahhhfajaaaGreatDoorJC03
import Derived.LaidMore
import Derived.Stop.LaidErr
import Derived.Shelf.Vars
import Derived.SizedLaws
import Derived.Deep.Slices
import Derived.Deep.Strs
import Derived.ChangeMaps5
import Derived.Lib.Bytealg
import Derived.Test.YtmdpjahhhfajaaaGreatDoorJC01
set_option linter.unusedVariables false
set_option maxRecDepth 100000
namespace Wh
open Go Go.Proofs.YtmdpjahhhfajaaaGreatDoor
theorem takeWhile_all {α : Type} (q : α → Bool) : ∀ (l : List α) (n : Nat), n < (l.takeWhile q).length → ∃ x, l[n]? = some x ∧ q x = true
 | [], n, h => by simp at h
 | x :: l, n, h => by
  rw [List.takeWhile_cons] at h
  cases hq : q x with
  | false => rw [hq] at h; simp at h
  | true =>
   rw [hq] at h
   simp only [if_true, List.length_cons] at h
   cases n with
   | zero => exact ⟨x, rfl, hq⟩
   | succ n =>
    obtain ⟨y, hy, hb⟩ := takeWhile_all q l n (by omega)
    exact ⟨y, by simpa using hy, hb⟩
theorem span_all {p : Nat → Bool} {s : ByteArray} {j : Nat} (h : j < spanN p s) : p (btN s j) = true := by
 obtain ⟨x, hx, hb⟩ := takeWhile_all _ _ _ h
 rw [btN_of hx]
 exact hb
theorem extract_extract (s : ByteArray) (a b c d : Nat) (h : d ≤ b - a) : (s.extract a b).extract c d = s.extract (a + c) (a + d) := by
 apply ByteArray.ext
 apply Array.toList_inj.1
 show bts ((s.extract a b).extract c d) = bts (s.extract (a + c) (a + d))
 rw [bts_extract, bts_extract, bts_extract]
 rw [List.drop_take, List.take_take, List.drop_drop]
 congr 1
 omega
theorem letB_low (c : Nat) : letB (c : Int) = lowB c := by
 unfold letB lowB
 congr 1
 ·exact decide_eq_decide.2 (by omega)
 ·exact decide_eq_decide.2 (by omega)
theorem digB_num (c : Nat) : digB (c : Int) = numB c := by
 unfold digB numB
 congr 1
 ·exact decide_eq_decide.2 (by omega)
 ·exact decide_eq_decide.2 (by omega)
theorem okN_low (c : Nat) : okN 0 c = lowB c := by rw [okN_zero, letB_low]
theorem okN_word {i : Nat} (h : ¬ i = 0) (c : Nat) : okN i c = wordB c := by
 rw [okN_succ h]
 unfold chrB wordB
 rw [letB_low, digB_num, Bool.or_assoc]
theorem low_word {c : Nat} (h : lowB c = true) : wordB c = true := by unfold wordB; rw [h]; rfl
theorem word_dot {c : Nat} (h : wordB c = true) : ¬ c = 46 := by
 rintro rfl
 exact absurd h (by decide)
theorem nameB_word {s : ByteArray} (h1 : 1 ≤ s.size) (h0 : lowB (btN s 0) = true) (h : ∀ j, j < s.size → wordB (btN s j) = true) : nameB s = decide (s.size ≤ 24) := by
 by_cases h24 : s.size ≤ 24
 ·rw [decide_eq_true h24]
  refine nameB_yes h1 h24 fun i hi => ?_
  by_cases e : i = 0
  ·subst e; rw [okN_low]; exact h0
  ·rw [okN_word e]; exact h i hi
 ·rw [decide_eq_false h24]
  exact nameB_size (.inr (by omega))
theorem qual_one {s : ByteArray} {n : Nat} (hn : n ≤ s.size) (h1 : 1 ≤ n) (h0 : lowB (btN s 0) = true) (h : ∀ j, j < n → wordB (btN s j) = true) : qualB (s.extract 0 n) = decide (n ≤ 24) := by
 have hs : (s.extract 0 n).size = n := by rw [size_extract (by omega) hn]; omega
 have hb : ∀ j, j < n → btN (s.extract 0 n) j = btN s j := fun j hj => by rw [btN_extract s 0 n j (by omega), Nat.zero_add]
 rw [qualB_no (dot_none fun j hj => by rw [hs] at hj; rw [hb j hj]; exact word_dot (h j hj)), nameB_word (by omega) (by rw [hb 0 (by omega)]; exact h0) (fun j hj => by rw [hs] at hj; rw [hb j hj]; exact h j hj), hs]
theorem qual_two {s : ByteArray} {n k : Nat} (hm : n + 1 + k ≤ s.size) (h1 : 1 ≤ n) (h0 : lowB (btN s 0) = true) (h : ∀ j, j < n → wordB (btN s j) = true) (hd : btN s n = 46) (h2 : 1 ≤ k) (h3 : lowB (btN s (n + 1)) = true) (h4 : ∀ j, j < k → wordB (btN s (n + 1 + j)) = true) :
  qualB (s.extract 0 (n + 1 + k)) = (decide (n ≤ 24) && decide (k ≤ 24)) := by
 have hs : (s.extract 0 (n + 1 + k)).size = n + 1 + k := by rw [size_extract (by omega) hm]; omega
 have hb : ∀ j, j < n + 1 + k → btN (s.extract 0 (n + 1 + k)) j = btN s j := fun j hj => by rw [btN_extract s 0 (n + 1 + k) j (by omega), Nat.zero_add]
 have e := dot_first (s := s.extract 0 (n + 1 + k)) (k := n) (fun j hj => by rw [hb j (by omega)]; exact word_dot (h j hj)) (by omega) (by rw [hb n (by omega)]; exact hd)
 rw [qualB_at e, hs, extract_extract s 0 _ 0 n (by omega), extract_extract s 0 _ (n + 1) (n + 1 + k) (by omega)]
 simp only [Nat.zero_add]
 have hs1 : (s.extract 0 n).size = n := by rw [size_extract (by omega) (by omega)]; omega
 have hs2 : (s.extract (n + 1) (n + 1 + k)).size = k := by rw [size_extract (by omega) (by omega)]; omega
 have hb1 : ∀ j, j < n → btN (s.extract 0 n) j = btN s j := fun j hj => by rw [btN_extract s 0 n j (by omega), Nat.zero_add]
 have hb2 : ∀ j, j < k → btN (s.extract (n + 1) (n + 1 + k)) j = btN s (n + 1 + j) := fun j hj => btN_extract s (n + 1) (n + 1 + k) j (by omega)
 rw [nameB_word (by omega) (by rw [hb1 0 (by omega)]; exact h0) (fun j hj => by rw [hs1] at hj; rw [hb1 j hj]; exact h j hj), hs1,
  nameB_word (by omega) (by rw [hb2 0 (by omega)]; exact h3) (fun j hj => by rw [hs2] at hj; rw [hb2 j hj]; exact h4 j hj), hs2]
end Wh
namespace Wh
open Go Go.Proofs.YtmdpjahhhfajaaaGreatDoor
def valF : Nat → List UInt8 → Nat
 | a, [] => a
 | a, x :: l => valF (a * 10 + (x.toNat - 48)) l
theorem valF_ge : ∀ (l : List UInt8) (a : Nat), a ≤ valF a l
 | [], a => Nat.le_refl _
 | x :: l, a => by
  have := valF_ge l (a * 10 + (x.toNat - 48))
  unfold valF
  omega
theorem valF_push : ∀ (l : List UInt8) (x : UInt8) (a : Nat), valF a (l ++ [x]) = valF a l * 10 + (x.toNat - 48)
 | [], x, a => rfl
 | y :: l, x, a => by
  rw [List.cons_append]
  unfold valF
  exact valF_push l x _
def digL (l : List UInt8) : Prop := ∀ x ∈ l, 48 ≤ x.toNat ∧ x.toNat ≤ 57
theorem parse_digits : ∀ (l : List UInt8) (a : Nat), digL l → a < 18446744073709551616 → (Lib.parseUint10 a l = .ok (valF a l) ∧ valF a l < 18446744073709551616) ∨ (Lib.parseUint10 a l = .range ∧ 18446744073709551616 ≤ valF a l)
 | [], a, _, ha => .inl ⟨rfl, ha⟩
 | x :: l, a, hd, ha => by
  have hx := hd x List.mem_cons_self
  have hl : digL l := fun y hy => hd y (List.mem_cons_of_mem _ hy)
  unfold valF Lib.parseUint10
  rw [if_pos hx]
  have hge := valF_ge l (a * 10 + (x.toNat - 48))
  by_cases h1 : 1844674407370955162 ≤ a
  ·rw [if_pos h1]
   exact .inr ⟨rfl, by omega⟩
  ·rw [if_neg h1]
   by_cases h2 : 18446744073709551616 ≤ a * 10 + (x.toNat - 48)
   ·rw [if_pos h2]
    exact .inr ⟨rfl, by omega⟩
   ·rw [if_neg h2]
    exact parse_digits l _ hl (by omega)
theorem atoi_digits {l : List UInt8} (hd : digL l) (hl : l ≠ []) : (Lib.atoiAll l = .ok (valF 0 l : Int) ∧ valF 0 l < 9223372036854775808) ∨ (Lib.atoiAll l = .range ∧ 9223372036854775808 ≤ valF 0 l) := by
 cases l with
 | nil => exact absurd rfl hl
 | cons x l =>
  have hx := hd x List.mem_cons_self
  have h1 : ¬ x.toNat = 43 := by omega
  have h2 : ¬ x.toNat = 45 := by omega
  have hp : Lib.parseMag (x :: l) = Lib.parseUint10 0 (x :: l) := by unfold Lib.parseMag; rw [if_neg (by simp)]
  unfold Lib.atoiAll
  simp only [h1, h2, or_self, if_false, hp, not_false_eq_true, true_and, false_and]
  rcases parse_digits (x :: l) 0 hd (by omega) with ⟨e, hb⟩ | ⟨e, hb⟩
  ·rw [e]
   simp only
   by_cases h3 : 9223372036854775808 ≤ valF 0 (x :: l)
   ·rw [if_pos h3]
    exact .inr ⟨rfl, h3⟩
   ·rw [if_neg h3]
    exact .inl ⟨rfl, by omega⟩
  ·rw [e]
   exact .inr ⟨rfl, by omega⟩
theorem decV_val {s : ByteArray} (k : Nat) : k ≤ s.size → (∀ j, j < k → numB (btN s j) = true) → decV s k = min (valF 0 ((bts s).take k) : Int) 1073741825 := by
 induction k with
 | zero =>
  intro _ _
  rw [List.take_zero]
  rfl
 | succ k ih0 =>
  intro hk h
  have ih := ih0 (by omega) fun j hj => h j (by omega)
  obtain ⟨x, hx⟩ := bts_at (s := s) (i := k) (by omega)
  have hd := numB_bd (h k (by omega))
  rw [btN_of hx] at hd
  have e : decV s (k + 1) = min (decV s k * 10 + ((btN s k : Int) - 48)) 1073741825 := rfl
  rw [e, ih, List.take_add_one, hx, btN_of hx]
  simp only [Option.toList]
  rw [valF_push]
  generalize valF 0 ((bts s).take k) = v
  omega
theorem digL_take {s : ByteArray} {k : Nat} (h : ∀ j, j < k → numB (btN s j) = true) : digL ((bts s).take k) := by
 intro x hx
 obtain ⟨i, hi⟩ := List.mem_iff_getElem?.1 hx
 have hlt := (List.getElem?_eq_some_iff.1 hi).1
 rw [List.length_take] at hlt
 rw [List.getElem?_take_of_lt (by omega)] at hi
 have := numB_bd (h i (by omega))
 rw [btN_of hi] at this
 exact this
end Wh
namespace Go.Proofs.YtmdpjahhhfajaaaGreatDoor
open Go.RowKit Wh
theorem tab_same {P : Program} {w : World} {a b : String} {g : Nat} {k : IntKind} {zs : List Int} (h1 : P.globalNamed a = some g) (h2 : P.globalNamed b = some g) (h : Lib.TabIs P w a k zs) : Lib.TabIs P w b k zs := by
 unfold Lib.TabIs World.var? at *
 rw [h2]
 rw [h1] at h
 exact h
structure Glo (w : World) : Prop where
 tab : Tab w
 pow : ∃ nm, Tryz.prog.globalNamed nm = some 3 ∧ Lib.TabIs Tryz.prog w nm .u64 Lib.pow10Tab
 err : ∃ te pe, w.cell? ⟨5, 0, none⟩ = some (.iface te pe)
 max : ∃ m, w.cell? ⟨2, 0, none⟩ = some (.int .i64 m)
theorem Glo.below {w w' : World} {B : Nat} (h : Glo w) (hb : Below B w w') (hB : w.heap.size ≤ B) : Glo w' := by
 refine ⟨h.tab.below hb hB, ?_, ?_, ?_⟩
 ·obtain ⟨nm, hn, ht⟩ := h.pow
  exact ⟨nm, hn, Go.Joins.var_stays hn ht hb hB⟩
 ·obtain ⟨te, pe, hc⟩ := h.err
  exact ⟨te, pe, by rw [hb.cell (p := ⟨5, 0, none⟩) (Nat.lt_of_lt_of_le (World.block_lt_of_cell? w _ hc) hB)]; exact hc⟩
 ·obtain ⟨m, hc⟩ := h.max
  exact ⟨m, by rw [hb.cell (p := ⟨2, 0, none⟩) (Nat.lt_of_lt_of_le (World.block_lt_of_cell? w _ hc) hB)]; exact hc⟩
theorem Glo.next {w w' : World} (h : Glo w) (hb : Below w.heap.size w w') : Glo w' := h.below hb (Nat.le_refl _)
theorem below_bytes (w : World) (e : TypeId) (s : ByteArray) : Below w.heap.size w (Lib.bytesWorld w e s) := ⟨rfl, rfl, rfl, by rw [Lib.bytesWorld_size]; omega, fun k hk => Lib.bytesWorld_at_old w e s k hk⟩
def IsStr (l : List UInt8) (w : World) (e : Ending) (w' : World) : Prop := e = .returned (.string ⟨l.toArray⟩) ∧ Below w.heap.size w w'
theorem atoi_ok (s : ByteArray) (hs : s.size ≤ 281474976710656) (v : Int) (h : Lib.atoiAll (bts s) = .ok v) (w : World) : Calls Tryz.prog 146 #[.string s] w fun e w' => e = .returned (.tuple #[.int .i64 v, .nilIface]) ∧ Below w.heap.size w w' := by
 refine (Any.strconv_Atoi_ok laysC172 s (by omega) v h w).mono ?_
 rintro e w' ⟨rfl, rfl | ⟨t, rfl⟩⟩
 ·exact ⟨rfl, Below.refl _ _⟩
 ·exact ⟨rfl, below_bytes _ _ _⟩
def IsBad (w : World) (e : Ending) (w' : World) : Prop := ∃ z t p, e = .returned (.tuple #[.int .i64 z, .iface t p]) ∧ Below w.heap.size w w'
theorem atoi_bad (s : ByteArray) (hs : s.size ≤ 281474976710656) (h : Lib.atoiAll (bts s) = .range) (w : World) (hg : Glo w) : Calls Tryz.prog 146 #[.string s] w (IsBad w) := by
 obtain ⟨te, pe, hc⟩ := hg.err
 refine (Any.strconv_Atoi_range laysC172 s hs h _ w hc (.inr ⟨te, pe, rfl⟩)).mono ?_
 rintro e w' ⟨N, rfl, _, _, hb⟩
 exact ⟨_, _, _, rfl, hb⟩
theorem unp_any (s : ByteArray) (hs : s.size ≤ 1000000) (w : World) (hg : Glo w) : Calls Tryz.prog 148 #[.string s, .string ⟨#[39, 39]⟩, .string ⟨#[39]⟩] w (IsStr (unp (bts s)) w) := by
 obtain ⟨m, hm⟩ := hg.max
 have hc := Lib.countB_le ⟨#[39, 39]⟩ (by decide) s.size s (Nat.le_refl _)
 refine (Any.strings_ReplaceAll lays155 extra155 s ⟨#[39, 39]⟩ ⟨#[39]⟩ m w (by omega) hm (by decide) (by show s.size + _ * 1 ≤ _; omega)).mono ?_
 rintro e w' ⟨rfl, hb⟩
 refine ⟨?_, hb⟩
 rw [show (⟨#[39, 39]⟩ : ByteArray).data.toList = [39, 39] from rfl, show (⟨#[39]⟩ : ByteArray).data.toList = [39] from rfl, unp_replace]
 rfl
theorem dbl_any (s : ByteArray) (hs : s.size ≤ 1000000) (w : World) (hg : Glo w) : Calls Tryz.prog 148 #[.string s, .string ⟨#[39]⟩, .string ⟨#[39, 39]⟩] w (IsStr (dbl (bts s)) w) := by
 obtain ⟨m, hm⟩ := hg.max
 have hc := Lib.countB_le ⟨#[39]⟩ (by decide) s.size s (Nat.le_refl _)
 refine (Any.strings_ReplaceAll lays155 extra155 s ⟨#[39]⟩ ⟨#[39, 39]⟩ m w (by omega) hm (by decide) (by show s.size + _ * 2 ≤ _; omega)).mono ?_
 rintro e w' ⟨rfl, hb⟩
 refine ⟨?_, hb⟩
 rw [show (⟨#[39, 39]⟩ : ByteArray).data.toList = [39, 39] from rfl, show (⟨#[39]⟩ : ByteArray).data.toList = [39] from rfl, dbl_replace]
 rfl
theorem join_any (a : Option Addr) (len cap : Nat) (ss : List ByteArray) (w : World) (hs : IsStrs w a len ss) (hl : len ≤ 1000000) (hc : len ≤ cap) (hlen : (Lib.join (ss.map bts) [32]).length ≤ 140737488355328) :
  Calls Tryz.prog 108 #[.slice a len cap, .string ⟨#[32]⟩] w (IsStr (Lib.join (ss.map bts) [32]) w) := by
 obtain ⟨h1, h2⟩ := hs
 subst h1
 rcases h2 with rfl | ⟨b, off, rfl, hlt, hcs⟩
 ·refine (Any.strings_Join_none lays156 extra156 a cap ⟨#[32]⟩ w).mono ?_
  rintro e w' ⟨rfl, rfl⟩
  exact ⟨rfl, Below.refl _ _⟩
 ·refine (Any.strings_Join lays156 extra156 b off cap ss ⟨#[32]⟩ w hcs hlt (by omega) hc hlen).mono ?_
  rintro e w' ⟨rfl, hb⟩
  exact ⟨rfl, hb⟩
end Go.Proofs.YtmdpjahhhfajaaaGreatDoor
namespace Go.Proofs.YtmdpjahhhfajaaaGreatDoor
open Go.ChangeShapes Go.WideShapes Go.ChangeAt Go.RowKit Go.Deep Go.Joins Wh
theorem returns_laid {H : Type} {enc : TypeId × Value → H} {a : Assume} {C : Checked} {os : Os} {f : FuncId} {fn : Func} {s : ChangeSpec} {conds : List PathCond} {apart fresh handsOn again : Bool} {X : World → Array Value → Prop}
  (hX : ∀ (w w' : World) (args : Array Value), w.heap = w'.heap → X w args → X w' args)
  (own : ownKnob C.prog.godebug = none) (started : os.Started) (noInit : C.prog.inits.idxOf? f = none) (hfn : C.prog.funcs[f]? = some fn)
  (witness : ∃ (w : World) (tape : Tape) (i : Input), w.os = os ∧ (w.forCall tape i).Shaped C.prog ∧ i.vars = [] ∧ Input.okWide C.prog (w.forCall tape i) .any w.heap.size f i ∧
   ((s.pre enc C.prog fn conds apart (w.forCall tape i).memory i.args ∧ X (w.forCall tape i).memory i.args) ∧ sizedMet enc C.prog fn (OpenSpec.ofChange s) apart (w.forCall tape i).memory i.args) ∧ a.holds C.prog (lone (Frame.enter C.prog f i.args .normal) [] (w.forCall tape i)))
  (contract : ∀ (W : World) (base : Nat) (args : Array Value) (ds gs : List (DataW H)) (before : List MemPlace),
   (∀ (j : Nat) t v, fn.params[j]? = some t → args[j]? = some v → Value.okWide C.prog W .any base t v) →
   DataW.Whole enc C.prog fn.params.toList s.vars apart W args.toList ds gs before →
   conds.all (PathCond.test C.prog ⟨fn.params.toList, ds, s.plain.varTypes C.prog, gs⟩) = true →
   (DataW.weightsEach C.prog (fn.params.toList ++ s.plain.varTypes C.prog) (ds ++ gs)).all (· ≤ reachBytes) = true → X W args → W.ShapedOpen C.prog →
   a.holds C.prog (lone (Frame.enter C.prog f args .normal) [] W) →
   Calls C.prog f args W fun e W' => ∃ v, e = .returned v ∧ s.post enc C.prog fn apart fresh handsOn again W args v W') :
  ReturnsInHanded a C os f .any (fun w args => (s.pre enc C.prog fn conds apart w args ∧ X w args) ∧ sizedMet enc C.prog fn (OpenSpec.ofChange s) apart w args) (s.post enc C.prog fn apart fresh handsOn again) := by
 refine returnsInHanded_of_calls own started noInit witness ?_
 intro w tape i _ hsh _ hok hpre hholds
 obtain ⟨_, _, _, fn', hfn', _, _, _, _, hval⟩ := hok
 have e : fn' = fn := Option.some.inj (hfn'.symm.trans hfn)
 subst e
 obtain ⟨⟨⟨ds, gs, before, hw, hc⟩, hx⟩, hz⟩ := hpre
 have hw' := DataW.Whole.of_heap (w' := w.forCall tape i) (by rfl) hw
 refine (contract (w.forCall tape i) w.heap.size i.args ds gs before hval hw' hc (hz.weights hw) (hX _ _ _ (by rfl) hx) hsh hholds).mono fun e W' ⟨v, he, hp⟩ => ?_
 subst he
 exact ChangeSpec.post_blind hp
theorem iface_laid {n nm : String} {d : DataW Unit} {r : List (String × DataW Unit)} {W : World} {g : Nat} {ti : TypeId} {ms : Array (String × TypeId)}
  (h : laidMet Tryz.prog ((n, .iface nm d) :: r) W) (hg : Tryz.prog.globalNamed n = some g) (ht : (Tryz.prog.globals[g]?).map (·.type) = some ti) (hi : Tryz.prog.underlying ti = some (.interface ms)) :
  ∃ te pe, W.cell? ⟨g, 0, none⟩ = some (.iface te pe) := by
 obtain ⟨ps, ⟨g0, t0, cs0, f0, p0, q0, hg0, ht0, hv0, hd0, _, e0⟩, _, hrows⟩ := h
 obtain rfl := Option.some.inj (hg.symm.trans hg0)
 obtain rfl := Option.some.inj (ht.symm.trans ht0)
 obtain ⟨fuel', u, v, hcs, _, _⟩ := iface_of_trod hi hd0
 obtain ⟨l0⟩ := cs0
 simp only at hcs
 subst hcs
 exact ⟨u, v, by simpa using World.var?_cell hg0 hv0 0⟩
end Go.Proofs.YtmdpjahhhfajaaaGreatDoor
namespace Wh
open Go
structure V where
 k : Int
 n : Int
 s : ByteArray
def bytes (v : V) : List UInt8 := v.s.data.toList
def validB (k n : Int) (s : ByteArray) : Bool :=
 (decide (k = 0) && decide (n = 0) && s.toList.isEmpty) || (decide (k = 1) && (decide (n = 0) || decide (n = 1)) && s.toList.isEmpty) ||
 (decide (k = 2) && decide (-1073741824 ≤ n) && decide (n ≤ 1073741824) && s.toList.isEmpty) || (decide (k = 3) && decide (n = 0) && decide (s.size ≤ 64)) ||
 (decide (k = 4) && decide (0 ≤ n) && decide (n ≤ 575999999) && s.toList.isEmpty)
def B (b : UInt8) : Value := .int .u8 b.toNat
end Wh
namespace Wh
open Go
structure Nd where
 op : Int
 v : V
 nm : ByteArray
 ar : Int
end Wh
namespace Go.Proofs.YtmdpjahhhfajaaaGreatDoor
open Go.ChangeShapes Go.WideShapes Go.ChangeAt Go.RowKit Go.Deep Go.Joins Wh
def c6 (t : Nd) : List Value := [.int .i64 t.op, .int .i64 t.v.k, .int .i64 t.v.n, .string t.v.s, .string t.nm, .int .i64 t.ar]
def nodesL (l : List Nd) : List Value := l.flatMap c6
def ndV (t : Nd) : Value := .agg #[.int .i64 t.op, .int .i64 t.v.k, .int .i64 t.v.n, .string t.v.s, .string t.nm, .int .i64 t.ar]
theorem info_node : (Tryz.prog.info? 53).map (fun i => (i.zero, i.size, i.bytes)) = some (some (.agg #[.int .i64 0, .int .i64 0, .int .i64 0, .string ⟨#[]⟩, .string ⟨#[]⟩, .int .i64 0]), 6, 64) := by kernel_rfl
theorem size_node (W : World) : (sizeOf 53).run Tryz.prog W = .ok 6 W := by
 obtain ⟨i0, hi, _, h1, _⟩ := info_parts info_node
 simp [sizeOf, typeInfo, hi, h1]
theorem nodesL_length (l : List Nd) : (nodesL l).length = l.length * 6 := by
 unfold nodesL
 induction l with
 | nil => rfl
 | cons v vs ih => simp only [List.flatMap_cons, List.length_append, ih, List.length_cons, c6, List.length_nil]; omega
theorem nodesL_at (l : List Nd) (i : Nat) (t : Nd) (h : l[i]? = some t) : (nodesL l)[i * 6]? = some (.int .i64 t.op) ∧ (nodesL l)[i * 6 + 1]? = some (.int .i64 t.v.k) ∧ (nodesL l)[i * 6 + 2]? = some (.int .i64 t.v.n) ∧ (nodesL l)[i * 6 + 3]? = some (.string t.v.s) ∧ (nodesL l)[i * 6 + 4]? = some (.string t.nm) ∧ (nodesL l)[i * 6 + 5]? = some (.int .i64 t.ar) := by
 unfold nodesL
 induction l generalizing i with
 | nil => simp at h
 | cons u l ih =>
  cases i with
  | zero => simp at h; subst h; simp [c6]
  | succ i =>
   simp only [List.getElem?_cons_succ] at h
   have := ih i h
   rw [show (i + 1) * 6 = i * 6 + 1 + 1 + 1 + 1 + 1 + 1 from by omega]
   simpa [List.flatMap_cons, c6] using this
theorem nodesL_app (l m : List Nd) : nodesL (l ++ m) = nodesL l ++ nodesL m := by unfold nodesL; simp
theorem nodesL_push (l : List Nd) (t : Nd) : nodesL l ++ [.int .i64 t.op, .int .i64 t.v.k, .int .i64 t.v.n, .string t.v.s, .string t.nm, .int .i64 t.ar] = nodesL (l ++ [t]) := by
 rw [nodesL_app]
 simp [nodesL, c6]
def NodeAt (w : World) (b off : Nat) (t : Nd) : Prop :=
 w.cell? ⟨b, off, none⟩ = some (.int .i64 t.op) ∧ w.cell? ⟨b, off + 1, none⟩ = some (.int .i64 t.v.k) ∧ w.cell? ⟨b, off + 2, none⟩ = some (.int .i64 t.v.n) ∧ w.cell? ⟨b, off + 3, none⟩ = some (.string t.v.s) ∧ w.cell? ⟨b, off + 4, none⟩ = some (.string t.nm) ∧ w.cell? ⟨b, off + 5, none⟩ = some (.int .i64 t.ar)
theorem NodeAt.below {w w' : World} {b off B : Nat} {t : Nd} (h : NodeAt w b off t) (hb : Below B w w') (hB : b < B) : NodeAt w' b off t := by
 have e : ∀ o, w'.cell? ⟨b, o, none⟩ = w.cell? ⟨b, o, none⟩ := fun o => hb.cell (p := ⟨b, o, none⟩) hB
 unfold NodeAt
 rw [e, e, e, e, e, e]
 exact h
def IsNodes (w : World) (a : Option Addr) (len : Nat) (ts : List Nd) : Prop :=
 ts.length = len ∧ (ts = [] ∨ ∃ b off, a = some ⟨b, off, none⟩ ∧ b < w.heap.size ∧ ∀ i t, ts[i]? = some t → NodeAt w b (off + i * 6) t)
theorem IsNodes.below {w w' : World} {a : Option Addr} {len B : Nat} {ts : List Nd} (h : IsNodes w a len ts) (hb : Below B w w') (hB : w.heap.size ≤ B) : IsNodes w' a len ts := by
 obtain ⟨h1, h2⟩ := h
 refine ⟨h1, ?_⟩
 rcases h2 with h2 | ⟨b, off, ha, hlt, hc⟩
 ·exact .inl h2
 ·exact .inr ⟨b, off, ha, by have := hb.size; omega, fun i s hs => (hc i s hs).below hb (by omega)⟩
theorem IsNodes.at {w : World} {a : Option Addr} {len : Nat} {ts : List Nd} (h : IsNodes w a len ts) {k : Nat} (hk : k < len) :
  ∃ t b off, ts[k]? = some t ∧ a = some ⟨b, off, none⟩ ∧ b < w.heap.size ∧ NodeAt w b (off + k * 6) t := by
 obtain ⟨h1, h2⟩ := h
 obtain ⟨t, hs⟩ : ∃ s, ts[k]? = some s := ⟨_, List.getElem?_eq_getElem (by omega)⟩
 rcases h2 with rfl | ⟨b, off, ha, hlt, hc⟩
 ·simp at hs
 ·exact ⟨t, b, off, hs, ha, hlt, hc k _ hs⟩
theorem IsNodes.take {w : World} {a : Option Addr} {len : Nat} {ts : List Nd} (h : IsNodes w a len ts) {k : Nat} (hk : k ≤ len) : IsNodes w a k (ts.take k) := by
 obtain ⟨h1, h2⟩ := h
 refine ⟨by rw [List.length_take]; omega, ?_⟩
 rcases h2 with rfl | ⟨b, off, ha, hlt, hc⟩
 ·exact .inl (by simp)
 ·refine .inr ⟨b, off, ha, hlt, fun i c hi => hc i c ?_⟩
  have hlt := (List.getElem?_eq_some_iff.1 hi).1
  rw [List.length_take] at hlt
  rw [List.getElem?_take_of_lt (by omega)] at hi
  exact hi
theorem own_nodes {w : World} {base n : Nat} {v : Value} {ts : List Nd} (h : w.ownsRow base 53 6 v n (nodesL ts)) (hn : ts.length = n) :
  ∃ (a : Option Addr) (cap : Nat), v = .slice a n cap ∧ IsNodes w a n ts ∧ n ≤ cap ∧ cap ≤ maxLen ∧ (a = none → cap = 0) ∧ (∀ x, a = some x → ∃ g, x = ⟨g, 0, none⟩ ∧ base ≤ g ∧ g < w.heap.size) := by
 rcases h.2 with ⟨rfl, rfl⟩ | ⟨g, cap, cur, rfl, hg, hh, hnc, hmc, _, ht⟩
 ·exact ⟨none, 0, rfl, ⟨hn, .inl (List.eq_nil_of_length_eq_zero hn)⟩, Nat.le_refl _, Nat.zero_le _, fun _ => rfl, fun x hx => by cases hx⟩
 ·have hlt : g < w.heap.size := (Array.getElem?_eq_some_iff.1 hh).1
  refine ⟨_, cap, rfl, ⟨hn, .inr ⟨g, 0, rfl, hlt, fun i t hi => ?_⟩⟩, hnc, hmc, fun hx => (by cases hx), by rintro x ⟨⟩; exact ⟨g, rfl, hg, hlt⟩⟩
  obtain ⟨f0, f1, f2, f3, f4, f5⟩ := nodesL_at ts i t hi
  have hk := (List.getElem?_eq_some_iff.1 hi).1
  unfold NodeAt
  simp only [Nat.zero_add]
  exact ⟨(h.cellAt (i * 6) (by omega)).trans f0, (h.cellAt (i * 6 + 1) (by omega)).trans f1, (h.cellAt (i * 6 + 2) (by omega)).trans f2, (h.cellAt (i * 6 + 3) (by omega)).trans f3, (h.cellAt (i * 6 + 4) (by omega)).trans f4, (h.cellAt (i * 6 + 5) (by omega)).trans f5⟩
theorem own_take {w : World} {base e size n cap : Nat} {a : Option Addr} {xs : List Value} (h : w.ownsRow base e size (.slice a n cap) n xs) {k : Nat} (hk : k ≤ n) : w.ownsRow base e size (.slice a k cap) k (xs.take (k * size)) := by
 have hl := h.1
 have hle : k * size ≤ n * size := Nat.mul_le_mul_right _ hk
 refine ⟨by rw [List.length_take]; omega, ?_⟩
 rcases h.2 with ⟨hv, rfl⟩ | ⟨g, c, cur, hv, hg, hh, hnc, hmc, hsz, ht⟩
 ·cases hv
  obtain rfl : k = 0 := by omega
  exact .inl ⟨rfl, rfl⟩
 ·cases hv
  refine .inr ⟨g, _, cur, rfl, hg, hh, by omega, hmc, hsz, ?_⟩
  rw [← ht, List.take_take, Nat.min_eq_left hle]
theorem cellsNode : Tryz.prog.cellsOf 53 = 6 := by kernel_rfl
end Go.Proofs.YtmdpjahhhfajaaaGreatDoor
namespace Wh
open Go.Proofs.YtmdpjahhhfajaaaGreatDoor
def symB (s : ByteArray) : Bool :=
 (decide (s.size = 2) && (List.range 4).any fun i => s.toList == (twoL i).toList) || (decide (s.size = 1) && (List.range 14).any (isOne s))
theorem isOne_extract (s : ByteArray) (h : 1 ≤ s.size) (i : Nat) : isOne (s.extract 0 1) i = isOne s i := by
 unfold isOne
 rw [size_extract (by omega) h, btN_extract s 0 1 0 (by omega), decide_eq_true (by omega : 1 ≤ 1 - 0), decide_eq_true h]
theorem symB_two {s : ByteArray} (h : 2 ≤ s.size) : symB (s.extract 0 2) = (List.range 4).any (isTwo s) := by
 unfold symB
 rw [size_extract (by omega) h]
 have e : (fun i => (s.extract 0 2).toList == (twoL i).toList) = isTwo s := by
  funext i
  unfold isTwo
  rw [decide_eq_true h]
  rfl
 rw [e]
 simp
theorem symB_one {s : ByteArray} (h : 1 ≤ s.size) : symB (s.extract 0 1) = (List.range 14).any (isOne s) := by
 unfold symB
 rw [size_extract (by omega) h]
 have e : isOne (s.extract 0 1) = isOne s := by
  funext i
  exact isOne_extract s h i
 rw [e]
 simp
theorem symS_at2 {s : ByteArray} (h : 2 ≤ s.size) (hb : symB (s.extract 0 2) = true) : symS s = s.extract 0 2 := by
 rw [symB_two h, List.any_eq_true] at hb
 unfold symS
 cases hf : (List.range 4).find? (isTwo s) with
 | some i =>
  have h1 := List.find?_some hf
  unfold isTwo at h1
  rw [Bool.and_eq_true] at h1
  exact (eqS_iff.1 h1.2).symm
 | none =>
  obtain ⟨i, hi, ht⟩ := hb
  have := List.find?_eq_none.1 hf i hi
  exact absurd ht this
theorem no_two {s : ByteArray} (h : s.size < 2 ∨ symB (s.extract 0 2) = false) : ∀ j, j < 4 → isTwo s j = false := by
 intro j hj
 by_cases h2 : 2 ≤ s.size
 ·rcases h with h | h
  ·omega
  ·rw [symB_two h2, List.any_eq_false] at h
   have := h j (List.mem_range.2 hj)
   simpa using this
 ·unfold isTwo
  rw [decide_eq_false h2]
  rfl
theorem symS_at1 {s : ByteArray} (h2 : s.size < 2 ∨ symB (s.extract 0 2) = false) (h : 1 ≤ s.size) (hb : symB (s.extract 0 1) = true) : symS s = s.extract 0 1 := by
 rw [symS_one (no_two h2), ← symB_one h, if_pos hb]
theorem symS_at0 {s : ByteArray} (h2 : s.size < 2 ∨ symB (s.extract 0 2) = false) (h1 : s.size < 1 ∨ symB (s.extract 0 1) = false) : symS s = ⟨#[]⟩ := by
 rw [symS_one (no_two h2)]
 by_cases h : 1 ≤ s.size
 ·rcases h1 with h1 | h1
  ·omega
  ·rw [← symB_one h, h1, if_neg (by simp)]
 ·rw [if_neg]
  intro ha
  rw [List.any_eq_true] at ha
  obtain ⟨i, _, hi⟩ := ha
  unfold isOne at hi
  rw [decide_eq_false h] at hi
  cases hi
def symL : List ByteArray := [⟨#[40]⟩, ⟨#[41]⟩, ⟨#[44]⟩, ⟨#[59]⟩, ⟨#[58]⟩, ⟨#[124]⟩, ⟨#[61]⟩, ⟨#[43]⟩, ⟨#[43, 43]⟩, ⟨#[45]⟩, ⟨#[42]⟩, ⟨#[47]⟩, ⟨#[37]⟩, ⟨#[60]⟩, ⟨#[60, 61]⟩, ⟨#[62]⟩, ⟨#[62, 61]⟩, ⟨#[33, 61]⟩]
theorem symL_all : ∀ s ∈ symL, symB s = true := by decide +kernel
theorem one_byte_of {s : ByteArray} {x : UInt8} (h1 : s.size = 1) (h : btN s 0 = x.toNat) : s = ⟨#[x]⟩ := by
 obtain ⟨y, hy⟩ := bts_at (s := s) (i := 0) (by omega)
 rw [btN_of hy] at h
 obtain rfl := UInt8.toNat_inj.1 h
 apply ByteArray.ext
 apply Array.toList_inj.1
 show bts s = [y]
 have hl := bts_length s
 cases hb : bts s with
 | nil => rw [hb] at hy; cases hy
 | cons a l =>
  rw [hb] at hy hl
  cases hy
  cases l with
  | nil => rfl
  | cons b l => simp at hl; omega
theorem symB_mem {s : ByteArray} (h : symB s = true) : s ∈ symL := by
 unfold symB at h
 rcases Bool.or_eq_true_iff.1 h with h | h
 ·rw [Bool.and_eq_true, List.any_eq_true] at h
  obtain ⟨_, i, hi, he⟩ := h
  have hi := List.mem_range.1 hi
  have := eqS_iff.1 he
  subst this
  rcases (show i = 0 ∨ i = 1 ∨ i = 2 ∨ i = 3 by omega) with rfl | rfl | rfl | rfl
  ·simp [symL, twoL]
  ·simp [symL, twoL]
  ·simp [symL, twoL]
  ·simp [symL, twoL]
 ·rw [Bool.and_eq_true, decide_eq_true_eq, List.any_eq_true] at h
  obtain ⟨h1, i, hi, he⟩ := h
  have hi := List.mem_range.1 hi
  unfold isOne at he
  rw [Bool.and_eq_true, decide_eq_true_eq, decide_eq_true_eq] at he
  have hall : ∀ i, i < 14 → ∃ x : UInt8, btN oneL i = x.toNat ∧ (⟨#[x]⟩ : ByteArray) ∈ symL := by
   intro i hi
   have hx : ∃ x, (bts oneL)[i]? = some x := bts_at (s := oneL) (by show i < 14; exact hi)
   rcases (show i = 0 ∨ i = 1 ∨ i = 2 ∨ i = 3 ∨ i = 4 ∨ i = 5 ∨ i = 6 ∨ i = 7 ∨ i = 8 ∨ i = 9 ∨ i = 10 ∨ i = 11 ∨ i = 12 ∨ i = 13 by omega) with rfl | rfl | rfl | rfl | rfl | rfl | rfl | rfl | rfl | rfl | rfl | rfl | rfl | rfl
   ·exact ⟨40, by decide, by simp [symL]⟩
   ·exact ⟨41, by decide, by simp [symL]⟩
   ·exact ⟨44, by decide, by simp [symL]⟩
   ·exact ⟨59, by decide, by simp [symL]⟩
   ·exact ⟨58, by decide, by simp [symL]⟩
   ·exact ⟨124, by decide, by simp [symL]⟩
   ·exact ⟨61, by decide, by simp [symL]⟩
   ·exact ⟨43, by decide, by simp [symL]⟩
   ·exact ⟨45, by decide, by simp [symL]⟩
   ·exact ⟨42, by decide, by simp [symL]⟩
   ·exact ⟨47, by decide, by simp [symL]⟩
   ·exact ⟨37, by decide, by simp [symL]⟩
   ·exact ⟨60, by decide, by simp [symL]⟩
   ·exact ⟨62, by decide, by simp [symL]⟩
  obtain ⟨x, hx, hm⟩ := hall i hi
  rw [one_byte_of h1 (by rw [he.2, hx])]
  exact hm
end Wh
