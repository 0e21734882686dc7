/-
  IsQualified, of schema and of its reference; strings.Cut at the separa · What the program holds of the library's strings.ReplaceAll, strings.Jo · Names and qualified names at the beginning of a text, plainly. · The n · What came in: tokens, bytes. The wrap that hands the walk the world's  · Plain functions on numbers and lists of bytes: what the value layer co
-/
import Derived.Test.YtmdpjahhhfajaaaDoorJA03
import Derived.Lib.IndexLaws
import Derived.Test.YtmdpjahhhfajaaaDoorRows
import Derived.Shelf.Strings.OnBuilder
import Derived.Shelf.Strings.Replace
import Derived.Shelf.Strconv.Itoa3
import Derived.Shelf.Strconv.AtoiAll
import Derived.Test.YtmdpjahhhfajaaaDoorJA02
import Derived.Lib.AtoiAll
import Derived.Lib.LaidTab
import Derived.Lib.SmallJoins
import Derived.Lib.AppendIntMem
import Derived.Test.YtmdpjahhhfajaaaDoorJA01
import Derived.LaidMore
import Derived.Stop.LaidErr
import Derived.Shelf.Vars
import Derived.SizedLaws
import Derived.Deep.Slices
import Derived.Deep.Strs
import Derived.ChangeMaps5
import Derived.Lib.Bytealg
set_option linter.unusedVariables false
set_option maxRecDepth 100000
namespace Go.Proofs.YtmdpjahhhfajaaaDoor
open Go.RowKit Wh
def dotI (s : ByteArray) : Int := Lib.indexByte s.data.toList 46
def qualB (s : ByteArray) : Bool := if dotI s < 0 then nameB s else nameB (s.extract 0 (dotI s).toNat) && nameB (s.extract ((dotI s).toNat + 1) s.size)
theorem qualB_no {s : ByteArray} (h : dotI s = -1) : qualB s = nameB s := by unfold qualB; rw [if_pos (by omega)]
theorem qualB_at {s : ByteArray} {i : Nat} (h : dotI s = i) : qualB s = (nameB (s.extract 0 i) && nameB (s.extract (i + 1) s.size)) := by
  unfold qualB
  rw [if_neg (by omega), h]
  rfl
theorem dot_cases (s : ByteArray) : dotI s = -1 ∨ ∃ i : Nat, dotI s = i ∧ i < s.size := by
  have h := Lib.indexByte_ge s.data.toList 46
  by_cases h1 : dotI s = -1
  · exact .inl h1
  · obtain ⟨i, hi⟩ : ∃ i : Nat, dotI s = i := ⟨(dotI s).toNat, by unfold dotI at *; omega⟩
    refine .inr ⟨i, hi, ?_⟩
    have := (Lib.indexByte_some hi).1
    have := (List.getElem?_eq_some_iff.1 this).1
    rwa [show s.data.toList.length = s.size from Array.length_toList] at this
theorem dot_first {s : ByteArray} {k : Nat} (h : ∀ j, j < k → ¬ btN s j = 46) (hk : k < s.size) (hd : btN s k = 46) : dotI s = k := by
  have e : (bts s)[k]? = some 46 := by
    obtain ⟨x, hx⟩ := bts_at hk
    rw [hx]
    rw [btN_of hx] at hd
    congr 1
    exact UInt8.toNat_inj.1 hd
  rcases dot_cases s with h1 | ⟨i, hi, hs⟩
  · exact absurd e (Lib.indexByte_none h1 k)
  · obtain ⟨p1, p2⟩ := Lib.indexByte_some hi
    by_cases hik : i < k
    · exact absurd (by rw [btN_of (x := 46) p1]; rfl) (h i hik)
    · by_cases hki : k < i
      · exact absurd e (p2 k hki)
      · rw [hi]; omega
theorem dot_none {s : ByteArray} (h : ∀ j, j < s.size → ¬ btN s j = 46) : dotI s = -1 := by
  rcases dot_cases s with h1 | ⟨i, hi, hs⟩
  · exact h1
  · exact absurd (by rw [btN_of (x := 46) (Lib.indexByte_some hi).1]; rfl) (h i hs)
theorem indexByteString_any (s : ByteArray) (w : World) :
    Calls Tryd.prog 94 #[.string s, .int .u8 46] w fun e w' => e = .returned (.int .i64 (dotI s)) ∧ w = w' := by
  go_enter Tryd.func94, Tryd.ntmps94
  go_wp2
  rw [run_callFunc_extern Tryd.func98 (by kernel_rfl) (by kernel_rfl) (by kernel_rfl) (e := Extern.BytealgIndexByte.indexByte) (by kernel_rfl), Lib.run_indexByteString]
  simp only [Result.andThen]
  rw [Oper.upon_value]
  go_wp2
  go_ret
  exact ⟨rfl, rfl⟩
set_option maxRecDepth 100000 in
theorem index_any (s : ByteArray) (w : World) :
    Calls Tryd.prog 93 #[.string s, .string ⟨#[46]⟩] w fun e w' => e = .returned (.int .i64 (dotI s)) ∧ w = w' := by
  cases he : eqS ⟨#[46]⟩ s with
  | true =>
    obtain rfl := eqS_iff.1 he
    rw [show dotI ⟨#[46]⟩ = 0 by decide +kernel]
    clear he
    go_enter Tryd.func93, Tryd.ntmps93
    go_wp2_with (go_at_call 94; refine (indexByteString_any _ _).mono ?_; rintro e w' ⟨rfl, rfl⟩)
    go_ret
    exact ⟨rfl, rfl⟩
  | false =>
    have he2 : ([46] == s.toList) = false := by
      unfold eqS at he
      rw [toList_bts (⟨#[46]⟩ : ByteArray)] at he
      exact he
    clear he
    go_enter Tryd.func93, Tryd.ntmps93
    go_wp2_with (go_at_call 94; refine (indexByteString_any _ _).mono ?_; rintro e w' ⟨rfl, rfl⟩)
    go_ret
    exact ⟨rfl, rfl⟩
def IsCut (a b : ByteArray) (f : Bool) (w : World) (e : Ending) (w' : World) : Prop := e = .returned (.tuple #[.string a, .string b, .bool f]) ∧ Below w.heap.size w w'
theorem litecut_no (s : ByteArray) (h : dotI s = -1) (w : World) : Calls Tryd.prog 90 #[.string s, .string ⟨#[46]⟩] w (IsCut s ⟨#[]⟩ false w) := by
  have c := fun W => index_any s W
  rw [h] at c
  clear h
  go_enter Tryd.func90, Tryd.ntmps90
  go_wp2_with (go_at_call 93; refine (c _).mono ?_; rintro e w' ⟨rfl, rfl⟩)
  go_ret3
  exact ⟨rfl, Below.refl _ _⟩
theorem litecut_at (s : ByteArray) (i : Nat) (h : dotI s = i) (hi : i < s.size) (hs : s.size ≤ 9223372036854775800) (w : World) :
    Calls Tryd.prog 90 #[.string s, .string ⟨#[46]⟩] w (IsCut (s.extract 0 i) (s.extract (i + 1) s.size) true w) := by
  have c := fun W => index_any s W
  rw [h] at c
  have s1 := fun W => slice_str_to s i (by omega) W
  have s2 := fun W => slice_str_from s (i + 1) (by omega) W
  rw [show ((i + 1 : Nat) : Int) = (i : Int) + 1 by omega] at s2
  generalize s.extract 0 i = t1 at *
  generalize s.extract (i + 1) s.size = t2 at *
  clear h
  go_enter Tryd.func90, Tryd.ntmps90
  go_wp2_with (go_at_call 93; refine (c _).mono ?_; rintro e w' ⟨rfl, rfl⟩)
  go_quiet (fail)
  go_wp2_with fail
  go_ret3
  exact ⟨rfl, below_drewN (Below.refl _ _) _⟩
theorem cut_no (s : ByteArray) (h : dotI s = -1) (w : World) : Calls Tryd.prog 75 #[.string s, .string ⟨#[46]⟩] w (IsCut s ⟨#[]⟩ false w) := by
  go_enter Tryd.func75, Tryd.ntmps75
  go_wp2_with (go_at_call 90; refine (litecut_no s h _).mono ?_; rintro e w' ⟨rfl, hb⟩)
  go_ret3
  exact ⟨rfl, hb⟩
theorem cut_at (s : ByteArray) (i : Nat) (h : dotI s = i) (hi : i < s.size) (hs : s.size ≤ 9223372036854775800) (w : World) :
    Calls Tryd.prog 75 #[.string s, .string ⟨#[46]⟩] w (IsCut (s.extract 0 i) (s.extract (i + 1) s.size) true w) := by
  have c := fun W => litecut_at s i h hi hs W
  generalize s.extract 0 i = t1 at *
  generalize s.extract (i + 1) s.size = t2 at *
  go_enter Tryd.func75, Tryd.ntmps75
  go_wp2_with (go_at_call 90; refine (c _).mono ?_; rintro e w' ⟨rfl, hb⟩)
  go_ret3
  exact ⟨rfl, hb⟩
theorem areNames_any (a : Option Addr) (len cap : Nat) (ss : List ByteArray) (w : World) (hs : IsStrs w a len ss) (hl : len ≤ 9223372036854775807) :
    Calls Tryd.prog 76 #[.slice a len cap] w fun e w' => e = .returned (.bool (ss.all nameB)) ∧ Below w.heap.size w w' := by
  have NO := Lib.hid (fun i s (h : ss[i]? = some s) (hn : nameB s = false) => show ss.all nameB = false by
    rw [List.all_eq_false]
    exact ⟨s, List.mem_of_getElem? h, by simp [hn]⟩)
  have YE := Lib.hid (fun (h : ∀ i s, ss[i]? = some s → nameB s = true) => show ss.all nameB = true by
    rw [List.all_eq_true]
    intro s hs
    obtain ⟨i, hi⟩ := List.mem_iff_getElem?.1 hs
    exact h i s hi)
  have HS := Lib.hid hs
  generalize ss.all nameB = E at *
  clear hs
  go_enter Tryd.func76, Tryd.ntmps76
  go_wp2_with fail
  go_loopw [7] (fun iv wr => ∃ k : Nat, k ≤ len ∧ iv = .int .i64 k ∧ Hid (∀ i s, i < k → ss[i]? = some s → nameB s = true) ∧ Below w.heap.size w wr) (fun i _ => len - (intOf i).toNat)
  case atStart => exact ⟨0, Nat.zero_le _, rfl, fun i s hi => absurd hi (by omega), Below.refl _ _⟩
  case round =>
    obtain ⟨k, hk, rfl, HI, hbel⟩ := hrel
    have hsz := hbel.size
    by_cases hlt : k < len
    · obtain ⟨s, b, off, hx, rfl, hbl, hc0⟩ := (HS.out.below hbel (Nat.le_refl _)).at hlt
      have HX := Lib.hid hx
      clear hx
      have c := fun W => isName_any s W
      cases hn : nameB s with
      | true =>
        have HI2 : Hid (∀ i s, i < k + 1 → ss[i]? = some s → nameB s = true) := fun i t hi ht => by
          by_cases e : i = k
          · subst e
            have := HX.out
            rw [ht] at this
            cases this
            exact hn
          · exact HI.out i t (by omega) ht
        rw [hn] at c
        clear hn HI NO YE
        go_wp2_with (go_at_call 51; refine (c _).mono ?_; rintro e w1 ⟨rfl, hb⟩)
        go_roundw
        case rel => exact ⟨k + 1, by omega, by go_num, HI2, hbel.trans (hb.mono hsz)⟩
        case measure => simp [intOf]; omega
      | false =>
        obtain rfl := NO.out k s HX.out hn
        rw [hn] at c
        clear hn HI NO YE
        go_wp2_with (go_at_call 51; refine (c _).mono ?_; rintro e w1 ⟨rfl, hb⟩)
        go_ret
        exact ⟨rfl, hbel.trans (hb.mono hsz)⟩
    · obtain rfl := YE.out fun i s hi => HI.out i s (by have := (List.getElem?_eq_some_iff.1 hi).1; have := HS.out.1; omega) hi
      clear NO YE HI
      go_wp2_with fail
      go_ret
      exact ⟨rfl, hbel⟩
theorem new_strs1 (w : World) (s : ByteArray) : IsStrs (w.alloc (.cells #[.string s] 9)) (some ⟨w.heap.size, 0, none⟩) 1 [s] := by
  refine ⟨rfl, .inr ⟨w.heap.size, 0, rfl, by simp, fun i t ht => ?_⟩⟩
  cases i with
  | zero => simp at ht; subst ht; exact cell_of_row _ _ 0 _ _ _ (heap_alloc_new w _)
  | succ i => simp at ht
theorem new_strs2 (w : World) (s u : ByteArray) : IsStrs (w.alloc (.cells #[.string s, .string u] 9)) (some ⟨w.heap.size, 0, none⟩) 2 [s, u] := by
  refine ⟨rfl, .inr ⟨w.heap.size, 0, rfl, by simp, fun i t ht => ?_⟩⟩
  match i, ht with
  | 0, ht => simp at ht; subst ht; exact cell_of_row _ _ 0 _ _ _ (heap_alloc_new w _)
  | 1, ht => simp at ht; subst ht; exact cell_of_row _ _ 1 _ _ _ (heap_alloc_new w _)
  | i + 2, ht => simp at ht
theorem isQualified_any (s : ByteArray) (hs : s.size ≤ 9223372036854775800) (w : World) : Calls Tryd.prog 53 #[.string s] w fun e w' => e = .returned (.bool (qualB s)) ∧ Below w.heap.size w w' := by
  rcases dot_cases s with h | ⟨i, h, hi⟩
  · rw [qualB_no h]
    have c := fun W => cut_no s h W
    clear h
    go_enter Tryd.func53, Tryd.ntmps53
    go_wp2_with (go_at_call 75; refine (c _).mono ?_; rintro e w1 ⟨rfl, hb⟩)
    refine (areNames_any _ 1 1 [s] _ (new_strs1 _ s) (by omega)).mono ?_
    rintro e w2 ⟨rfl, hb2⟩
    go_wp2_with fail
    go_ret
    refine ⟨ret_bool (by simp), (hb.alloc hb.size _).trans (hb2.mono (by have := hb.size; simp; omega))⟩
  · rw [qualB_at h]
    have c := fun W => cut_at s i h hi hs W
    generalize s.extract 0 i = t1 at *
    generalize s.extract (i + 1) s.size = t2 at *
    clear h hi
    go_enter Tryd.func53, Tryd.ntmps53
    go_wp2_with (go_at_call 75; refine (c _).mono ?_; rintro e w1 ⟨rfl, hb⟩)
    refine (areNames_any _ 2 2 [t1, t2] _ (new_strs2 _ t1 t2) (by omega)).mono ?_
    rintro e w2 ⟨rfl, hb2⟩
    go_wp2_with fail
    go_ret
    refine ⟨ret_bool (by simp), (hb.alloc hb.size _).trans (hb2.mono (by have := hb.size; simp; omega))⟩
theorem rIsQualified_any (s : ByteArray) (hs : s.size ≤ 9223372036854775800) (w : World) : Calls Tryd.prog 57 #[.string s] w fun e w' => e = .returned (.bool (qualB s)) ∧ w = w' := by
  have IX := Lib.hid (fun i (hi : i < s.size) W => index_str s i hi W)
  have QA := Lib.hid (fun (i : Nat) (h : dotI s = i) => qualB_at h)
  have QN := Lib.hid (fun (h : dotI s = -1) => qualB_no h)
  generalize qualB s = E at *
  go_enter Tryd.func57, Tryd.ntmps57
  go_wp2_with fail
  go_loop [3] (fun i => ∃ k : Nat, k ≤ s.size ∧ i = .int .i64 k ∧ Hid (∀ j, j < k → ¬ btN s j = 46)) (fun i => s.size - (intOf i).toNat)
  case atStart => exact ⟨0, by omega, rfl, fun j hj => absurd hj (by omega)⟩
  case round =>
    obtain ⟨k, hk, rfl, HI⟩ := hrel
    by_cases hlt : k < s.size
    · have hi := IX.out k hlt
      by_cases hd : btN s k = 46
      · rw [hd] at hi
        have h := dot_first HI.out hlt hd
        have hE := QA.out k h
        clear QA QN
        have s1 := fun W => slice_str_to s k (by omega) W
        have s2 := fun W => slice_str_from s (k + 1) (by omega) W
        rw [show ((k + 1 : Nat) : Int) = (k : Int) + 1 by omega] at s2
        generalize s.extract 0 k = t1 at *
        generalize s.extract (k + 1) s.size = t2 at *
        have c1 := fun W => rIsName_any t1 W
        have c2 := fun W => rIsName_any t2 W
        generalize nameB t1 = b1 at *
        generalize nameB t2 = b2 at *
        clear hd h HI IX
        subst hE
        cases b1 <;> cases b2
        all_goals
          go_wp2_with (first | (go_at_call_of 55 (Value.string t1); refine (c1 _).mono ?_; rintro e w' ⟨rfl, rfl⟩) | (go_at_call_of 55 (Value.string t2); refine (c2 _).mono ?_; rintro e w' ⟨rfl, rfl⟩))
          go_ret
          exact ⟨rfl, rfl⟩
      · have HI2 : Hid (∀ j, j < k + 1 → ¬ btN s j = 46) := fun j hj => by
          by_cases e : j = k
          · subst e; exact hd
          · exact HI.out j (by omega)
        have hd2 : ¬ (btN s k : Int) = 46 := by omega
        generalize btN s k = x at hi hd2
        clear hd HI IX
        go_wp2_with fail
        go_round
        case rel => exact ⟨k + 1, by omega, by go_num, HI2⟩
        case measure => simp [intOf]; omega
    · obtain rfl := QN.out (dot_none fun j hj => HI.out j (by omega))
      have c1 := fun W => rIsName_any s W
      clear HI IX
      go_wp2_with (go_at_call 55; refine (c1 _).mono ?_; rintro e w' ⟨rfl, rfl⟩)
      go_ret
      exact ⟨rfl, rfl⟩
end Go.Proofs.YtmdpjahhhfajaaaDoor
namespace Go.Proofs.YtmdpjahhhfajaaaDoor
open Go.Shelf
end Go.Proofs.YtmdpjahhhfajaaaDoor
namespace Wh
open Go Go.Proofs.YtmdpjahhhfajaaaDoor
end Wh
namespace Wh
open Go Go.Proofs.YtmdpjahhhfajaaaDoor
end Wh
namespace Go.Proofs.YtmdpjahhhfajaaaDoor
open Go.RowKit Wh
end Go.Proofs.YtmdpjahhhfajaaaDoor
namespace Go.Proofs.YtmdpjahhhfajaaaDoor
open Go.ChangeShapes Go.WideShapes Go.ChangeAt Go.RowKit Go.Deep Go.Joins Wh
theorem returns_laid {H : Type} {enc : TypeId × Value → H} {a : Assume} {C : Checked} {os : Os} {f : FuncId} {fn : Func} {s : ChangeSpec} {conds : List PathCond} {apart fresh handsOn again : Bool} {X : World → Array Value → Prop}
    (hX : ∀ (w w' : World) (args : Array Value), w.heap = w'.heap → X w args → X w' args)
    (own : ownKnob C.prog.godebug = none) (started : os.Started) (noInit : C.prog.inits.idxOf? f = none) (hfn : C.prog.funcs[f]? = some fn)
    (witness : ∃ (w : World) (tape : Tape) (i : Input), w.os = os ∧ (w.forCall tape i).Shaped C.prog ∧ i.vars = [] ∧ Input.okWide C.prog (w.forCall tape i) .any w.heap.size f i ∧
      ((s.pre enc C.prog fn conds apart (w.forCall tape i).memory i.args ∧ X (w.forCall tape i).memory i.args) ∧ sizedMet enc C.prog fn (OpenSpec.ofChange s) apart (w.forCall tape i).memory i.args) ∧ a.holds C.prog (lone (Frame.enter C.prog f i.args .normal) [] (w.forCall tape i)))
    (contract : ∀ (W : World) (base : Nat) (args : Array Value) (ds gs : List (DataW H)) (before : List MemPlace),
      (∀ (j : Nat) t v, fn.params[j]? = some t → args[j]? = some v → Value.okWide C.prog W .any base t v) →
      DataW.Whole enc C.prog fn.params.toList s.vars apart W args.toList ds gs before →
      conds.all (PathCond.test C.prog ⟨fn.params.toList, ds, s.plain.varTypes C.prog, gs⟩) = true →
      (DataW.weightsEach C.prog (fn.params.toList ++ s.plain.varTypes C.prog) (ds ++ gs)).all (· ≤ reachBytes) = true → X W args → W.ShapedOpen C.prog →
      a.holds C.prog (lone (Frame.enter C.prog f args .normal) [] W) →
      Calls C.prog f args W fun e W' => ∃ v, e = .returned v ∧ s.post enc C.prog fn apart fresh handsOn again W args v W') :
    ReturnsInHanded a C os f .any (fun w args => (s.pre enc C.prog fn conds apart w args ∧ X w args) ∧ sizedMet enc C.prog fn (OpenSpec.ofChange s) apart w args) (s.post enc C.prog fn apart fresh handsOn again) := by
  refine returnsInHanded_of_calls own started noInit witness ?_
  intro w tape i _ hsh _ hok hpre hholds
  obtain ⟨_, _, _, fn', hfn', _, _, _, _, hval⟩ := hok
  have e : fn' = fn := Option.some.inj (hfn'.symm.trans hfn)
  subst e
  obtain ⟨⟨⟨ds, gs, before, hw, hc⟩, hx⟩, hz⟩ := hpre
  have hw' := DataW.Whole.of_heap (w' := w.forCall tape i) (by rfl) hw
  refine (contract (w.forCall tape i) w.heap.size i.args ds gs before hval hw' hc (hz.weights hw) (hX _ _ _ (by rfl) hx) hsh hholds).mono fun e W' ⟨v, he, hp⟩ => ?_
  subst he
  exact ChangeSpec.post_blind hp
end Go.Proofs.YtmdpjahhhfajaaaDoor
namespace Wh
open Go
structure V where
  k : Int
  n : Int
  s : ByteArray
def bytes (v : V) : List UInt8 := v.s.data.toList
def validB (k n : Int) (s : ByteArray) : Bool :=
  (decide (k = 0) && decide (n = 0) && s.toList.isEmpty) || (decide (k = 1) && (decide (n = 0) || decide (n = 1)) && s.toList.isEmpty) ||
  (decide (k = 2) && decide (-1073741824 ≤ n) && decide (n ≤ 1073741824) && s.toList.isEmpty) || (decide (k = 3) && decide (n = 0) && decide (s.size ≤ 64)) ||
  (decide (k = 4) && decide (0 ≤ n) && decide (n ≤ 575999999) && s.toList.isEmpty)
def B (b : UInt8) : Value := .int .u8 b.toNat
end Wh
