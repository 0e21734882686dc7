/-
  Rows of integers that the call itself makes: what an owned row reads a · For every layer that holds tokens: tokens in memory, what came in and  · The tokens of a text, plainly: the token with which a text begins; all · IsName, of schema and of its reference.
-/
import Derived.Test.YtmdpjahhhfajaaaDoorJA01
import Derived.Laws.AppendOwn
import Derived.Laws.AppendOwnNone
import Derived.Deep.AppendLies
import Derived.Lib.AppendStr
import Derived.Below
import Derived.Laws.RangeAny
set_option linter.unusedVariables false
set_option maxRecDepth 100000
namespace Go.Proofs.YtmdpjahhhfajaaaDoor
open Go.RowKit
theorem info_int : (Tryd.prog.info? 3).map (fun i => (i.zero, i.size, i.bytes)) = some (some (.int .i64 0), 1, 8) := by kernel_rfl
theorem own_below {W w1 : World} {base E sz n : Nat} {v : Value} {xs : List Value} (h : W.ownsRow base E sz v n xs) (hb : Below W.heap.size W w1) : w1.ownsRow base E sz v n xs := by
  refine h.kept (row := none) ⟨hb.os, hb.tape, hb.output, hb.size, fun k hk _ => hb.block k hk⟩ ?_
  cases e : v.ownBlock with
  | none => exact .inl rfl
  | some g => exact .inr (by simp)
def Apart (v u : Value) : Prop := ∀ g, v.ownBlock = some g → u.ownBlock = some g → False
theorem Apart.kept {v u : Value} (h : Apart v u) : u.ownBlock = none ∨ u.ownBlock ≠ v.ownBlock := by
  cases e : u.ownBlock with
  | none => exact .inl rfl
  | some g =>
    right
    intro e2
    exact h g e2.symm e
theorem own_ints {w : World} {base n : Nat} {v : Value} {zs : List Int} (h : w.ownsRow base 3 1 v n (zs.map (Value.int .i64))) :
    ∃ a cap, v = .slice a n cap ∧ IsInts w a n zs ∧ n ≤ cap ∧ cap ≤ maxLen ∧ (a = none → n = 0 ∧ cap = 0) ∧ (∀ x, a = some x → ∃ g, x = ⟨g, 0, none⟩ ∧ base ≤ g ∧ g < w.heap.size) := by
  have hl : zs.length = n := by have := h.1; simpa using this
  rcases h.2 with ⟨rfl, rfl⟩ | ⟨g, cap, cur, rfl, hb, hg, hn, hm, hs, ht⟩
  · exact ⟨none, 0, rfl, ⟨hl, .inl (List.eq_nil_of_length_eq_zero hl)⟩, Nat.le_refl _, Nat.zero_le _, fun _ => ⟨rfl, rfl⟩, fun x hx => by cases hx⟩
  · have hlt : g < w.heap.size := (h.lt g rfl).2
    refine ⟨some ⟨g, 0, none⟩, cap, rfl, ⟨hl, .inr ⟨g, 0, rfl, hlt, fun i z hz => ?_⟩⟩, hn, hm, fun hx => (by cases hx), fun x hx => ⟨g, by cases hx; rfl, hb, hlt⟩⟩
    have h1 := h.cells (g := g) rfl i (.int .i64 z) (by simp [hz])
    have hadd : (⟨g, 0, none⟩ : Addr).add i = ⟨g, 0 + i, none⟩ := by unfold Addr.add; split <;> simp_all
    rw [hadd] at h1
    exact h1
theorem IsInts.below {w w' : World} {a : Option Addr} {len : Nat} {zs : List Int} {B : Nat} (h : IsInts w a len zs) (hb : Below B w w') (hB : w.heap.size ≤ B) : IsInts w' a len zs := by
  refine ⟨h.1, ?_⟩
  rcases h.2 with h0 | ⟨b, off, ha, hlt, hat⟩
  · exact .inl h0
  · exact .inr ⟨b, off, ha, Nat.lt_of_lt_of_le hlt hb.size, fun i z hz => by rw [hb.cell (p := ⟨b, off + i, none⟩) (Nat.lt_of_lt_of_le hlt hB)]; exact hat i z hz⟩
end Go.Proofs.YtmdpjahhhfajaaaDoor
namespace Wh
open Go
structure Tk where
  k : Int
  tx : ByteArray
  nm : Int
end Wh
namespace Go.Proofs.YtmdpjahhhfajaaaDoor
open Go.RowKit Wh
abbrev TA := Tk × Int
def tokV (t : TA) : Value := .agg #[.int .i64 t.1.k, .string t.1.tx, .int .i64 t.1.nm, .int .i64 t.2]
def IsToks (w : World) (a : Option Addr) (len : Nat) (ts : List TA) : Prop :=
  ts.length = len ∧ (ts = [] ∨ ∃ b off, a = some ⟨b, off, none⟩ ∧ b < w.heap.size ∧ ∀ i t, ts[i]? = some t →
    w.cell? ⟨b, off + i * 4, none⟩ = some (.int .i64 t.1.k) ∧ w.cell? ⟨b, off + i * 4 + 1, none⟩ = some (.string t.1.tx) ∧ w.cell? ⟨b, off + i * 4 + 2, none⟩ = some (.int .i64 t.1.nm) ∧ w.cell? ⟨b, off + i * 4 + 3, none⟩ = some (.int .i64 t.2))
theorem IsToks.below {w w' : World} {a : Option Addr} {len B : Nat} {ts : List TA} (h : IsToks w a len ts) (hb : Below B w w') (hB : w.heap.size ≤ B) : IsToks w' a len ts := by
  obtain ⟨h1, h2⟩ := h
  refine ⟨h1, ?_⟩
  rcases h2 with h2 | ⟨b, off, ha, hlt, hc⟩
  · exact .inl h2
  · have e : ∀ o, w'.cell? ⟨b, o, none⟩ = w.cell? ⟨b, o, none⟩ := fun o => hb.cell (p := ⟨b, o, none⟩) (by show b < B; omega)
    refine .inr ⟨b, off, ha, by have := hb.size; omega, fun i s hs => ?_⟩
    rw [e, e, e, e]
    exact hc i s hs
theorem IsToks.at {w : World} {a : Option Addr} {len : Nat} {ts : List TA} (h : IsToks w a len ts) {k : Nat} (hk : k < len) :
    ∃ kd tx nm p b off, ts[k]? = some (⟨kd, tx, nm⟩, p) ∧ a = some ⟨b, off, none⟩ ∧ b < w.heap.size ∧ w.cell? ⟨b, off + k * 4, none⟩ = some (.int .i64 kd) ∧ w.cell? ⟨b, off + k * 4 + 1, none⟩ = some (.string tx) ∧ w.cell? ⟨b, off + k * 4 + 2, none⟩ = some (.int .i64 nm) ∧ w.cell? ⟨b, off + k * 4 + 3, none⟩ = some (.int .i64 p) := by
  obtain ⟨h1, h2⟩ := h
  obtain ⟨⟨⟨kd, tx, nm⟩, p⟩, hs⟩ : ∃ s, ts[k]? = some s := ⟨_, List.getElem?_eq_getElem (by omega)⟩
  rcases h2 with rfl | ⟨b, off, ha, hlt, hc⟩
  · simp at hs
  · exact ⟨kd, tx, nm, p, b, off, hs, ha, hlt, (hc k _ hs).1, (hc k _ hs).2.1, (hc k _ hs).2.2.1, (hc k _ hs).2.2.2⟩
theorem IsToks.take {w : World} {a : Option Addr} {len : Nat} {ts : List TA} (h : IsToks w a len ts) {k : Nat} (hk : k ≤ len) : IsToks w a k (ts.take k) := by
  obtain ⟨h1, h2⟩ := h
  refine ⟨by rw [List.length_take]; omega, ?_⟩
  rcases h2 with rfl | ⟨b, off, ha, hlt, hc⟩
  · exact .inl (by simp)
  · refine .inr ⟨b, off, ha, hlt, fun i c hi => hc i c ?_⟩
    have hlt := (List.getElem?_eq_some_iff.1 hi).1
    rw [List.length_take] at hlt
    rw [List.getElem?_take_of_lt (by omega)] at hi
    exact hi
structure Box4 (w : World) (b : Nat) (x y z u : Value) (t : TypeId) : Prop where
  block : w.heap[b]? = some (.cells #[x, y, z, u] t (0, 0))
theorem Box4.c0 {w : World} {b : Nat} {x y z u : Value} {t : TypeId} (h : Box4 w b x y z u t) : w.cell? ⟨b, 0, none⟩ = some x := cell_of_row _ _ 0 _ _ _ h.block
theorem Box4.c1 {w : World} {b : Nat} {x y z u : Value} {t : TypeId} (h : Box4 w b x y z u t) : w.cell? ⟨b, 1, none⟩ = some y := cell_of_row _ _ 1 _ _ _ h.block
theorem Box4.c2 {w : World} {b : Nat} {x y z u : Value} {t : TypeId} (h : Box4 w b x y z u t) : w.cell? ⟨b, 2, none⟩ = some z := cell_of_row _ _ 2 _ _ _ h.block
theorem Box4.c3 {w : World} {b : Nat} {x y z u : Value} {t : TypeId} (h : Box4 w b x y z u t) : w.cell? ⟨b, 3, none⟩ = some u := cell_of_row _ _ 3 _ _ _ h.block
theorem Box4.free {w : World} {b : Nat} {x y z u : Value} {t : TypeId} (h : Box4 w b x y z u t) (j : Nat) : w.frozen? ⟨b, j, none⟩ = false := by simp [World.frozen?, h.block]
theorem Box4.lt {w : World} {b : Nat} {x y z u : Value} {t : TypeId} (h : Box4 w b x y z u t) : b < w.heap.size := (Array.getElem?_eq_some_iff.1 h.block).1
theorem Box4.below {w w' : World} {b B : Nat} {x y z u : Value} {t : TypeId} (h : Box4 w b x y z u t) (hb : Below B w w') (hB : b < B) : Box4 w' b x y z u t := ⟨by rw [hb.block b hB]; exact h.block⟩
theorem Box4.far {w : World} {b : Nat} {x y z u v : Value} {t : TypeId} (h : Box4 w b x y z u t) {a : Addr} (ha : b ≠ a.block) : Box4 (w.setCell a v) b x y z u t := ⟨by rw [Below.heap_setCell _ _ _ _ ha]; exact h.block⟩
theorem Box4.alloc {w : World} {b : Nat} {x y z u : Value} {t : TypeId} (h : Box4 w b x y z u t) (o : Obj) : Box4 (w.alloc o) b x y z u t := ⟨by rw [Below.heap_alloc _ _ _ h.lt]; exact h.block⟩
theorem Box4.drew {w : World} {b : Nat} {x y z u : Value} {t : TypeId} (h : Box4 w b x y z u t) : Box4 w.drew b x y z u t := ⟨h.block⟩
theorem Box4.grown {w w' : World} {b : Nat} {x y z u : Value} {t : TypeId} {row : Option Nat} (h : Box4 w b x y z u t) (hg : w.grownBy w' row) (hne : some b ≠ row) : Box4 w' b x y z u t := ⟨by rw [hg.block b h.lt hne]; exact h.block⟩
theorem Box4.store {w : World} {b : Nat} {x y z u x' y' z' u' : Value} {t : TypeId} (h : Box4 w b x y z u t) :
    Box4 ((((w.setCell ⟨b, 0, none⟩ x').setCell ⟨b, 1, none⟩ y').setCell ⟨b, 2, none⟩ z').setCell ⟨b, 3, none⟩ u') b x' y' z' u' t := by
  refine ⟨?_⟩
  have hb := h.block
  simp only [World.setCell, Array.getElem?_modify, if_pos]
  rw [hb]
  rfl
theorem Box4.set3 {w : World} {b : Nat} {x y z u v : Value} {t : TypeId} (h : Box4 w b x y z u t) : Box4 (w.setCell ⟨b, 3, none⟩ v) b x y z v t := by
  refine ⟨?_⟩
  have hb := h.block
  simp only [World.setCell, Array.getElem?_modify, if_pos]
  rw [hb]
  rfl
end Go.Proofs.YtmdpjahhhfajaaaDoor
namespace Wh
open Go.Proofs.YtmdpjahhhfajaaaDoor
structure Out where
  l : List (Tk × Int)
  i : Nat
  e : Int
end Wh
namespace Go.Proofs.YtmdpjahhhfajaaaDoor
open Go.RowKit Wh
def okN (i x : Nat) : Bool := letB x || (!decide (i = 0) && (digB x || decide (x = 95)))
def nameB (s : ByteArray) : Bool := decide (1 ≤ s.size) && decide (s.size ≤ 24) && (List.range s.size).all fun i => okN i (btN s i)
theorem nameB_size {s : ByteArray} (h : s.size = 0 ∨ 24 < s.size) : nameB s = false := by
  unfold nameB
  rcases h with h | h
  · rw [decide_eq_false (by omega : ¬ 1 ≤ s.size)]; rfl
  · rw [decide_eq_false (by omega : ¬ s.size ≤ 24), Bool.and_false]; rfl
theorem nameB_no {s : ByteArray} {i : Nat} (hi : i < s.size) (h : okN i (btN s i) = false) : nameB s = false := by
  unfold nameB
  rw [Bool.and_eq_false_iff]
  right
  rw [List.all_eq_false]
  exact ⟨i, List.mem_range.2 hi, by simp [h]⟩
theorem nameB_yes {s : ByteArray} (h1 : 1 ≤ s.size) (h2 : s.size ≤ 24) (h : ∀ i, i < s.size → okN i (btN s i) = true) : nameB s = true := by
  unfold nameB
  rw [decide_eq_true h1, decide_eq_true h2, List.all_eq_true.2 fun i hi => h i (List.mem_range.1 hi)]
  rfl
theorem btN_get {s : ByteArray} {pos : Nat} (h : pos < s.size) : (s[pos]'h).toNat = btN s pos := by
  rw [btN_of (x := s[pos]'h)]
  show s.data.toList[pos]? = _
  rw [Array.getElem?_toList]
  exact Array.getElem?_eq_getElem (show pos < s.data.size from h)
theorem empty_of_size {s : ByteArray} (h : s.size = 0) : s = ⟨#[]⟩ := by
  apply ByteArray.ext
  exact Array.eq_empty_of_size_eq_zero h
theorem isName_any (s : ByteArray) (w : World) : Calls Tryd.prog 51 #[.string s] w fun e w' => e = .returned (.bool (nameB s)) ∧ Below w.heap.size w w' := by
  by_cases h0 : s.size = 0
  · obtain rfl := empty_of_size h0
    rw [nameB_size (.inl h0)]
    clear h0
    go_enter Tryd.func51, Tryd.ntmps51
    go_wp2_with fail
    go_ret
    exact ⟨rfl, Below.refl _ _⟩
  have he : (s.toList == ([] : List UInt8)) = false := by
    rw [toList_bts, beq_eq_false_iff_ne]
    intro h
    exact h0 (by rw [← bts_length, h]; rfl)
  have he2 : s.toList.isEmpty = false := by
    rw [toList_bts]
    cases h : bts s with
    | nil => exact absurd (by rw [← bts_length, h]; rfl) h0
    | cons => rfl
  by_cases h24 : 24 < s.size
  · rw [nameB_size (.inr h24)]
    go_enter Tryd.func51, Tryd.ntmps51
    go_wp2_with fail
    go_ret
    exact ⟨rfl, Below.refl _ _⟩
  · have NO := Lib.hid (fun i hi h => nameB_no (s := s) (i := i) hi h)
    have YE := Lib.hid (fun h => nameB_yes (s := s) (by omega) (by omega) h)
    generalize nameB s = E at *
    go_enter Tryd.func51, Tryd.ntmps51
    go_wp2_with fail
    clear he he2
    go_loopw [3, 4] (fun _ _ w' => ∃ pos : Nat, w' = w.iter s pos ∧ pos ≤ s.size ∧ Hid (∀ i, i < pos → okN i (btN s i) = true)) (fun _ _ w' => s.size - w'.iterPos w.heap.size)
    case atStart => exact ⟨0, rfl, Nat.zero_le _, fun i hi => absurd hi (by omega)⟩
    case round =>
      obtain ⟨pos, rfl, hps, HI⟩ := hrel
      have hB : Below w.heap.size w (w.iter s pos) := (Below.refl _ _).alloc (Nat.le_refl _) _
      by_cases hp : pos < s.size
      · have hnx : ∀ ty, (Instr.next (.pointer (some ⟨w.heap.size, 0, none⟩)) true ty).run Tryd.prog (w.iter s pos) = _ := fun ty => run_next_any w s pos ty hp
        have hB2 : ∀ p, Below w.heap.size w (w.iter s p) := fun p => (Below.refl _ _).alloc (Nat.le_refl _) _
        by_cases hx : btN s pos < 128
        · have hd := decode_ascii s pos hp (by rw [btN_get hp]; exact hx)
          rw [btN_get hp] at hd
          rw [hd] at hnx
          simp only at hnx
          by_cases hk : okN pos (btN s pos) = true
          · have HI2 : Hid (∀ i, i < pos + 1 → okN i (btN s i) = true) := fun i hi => by
              by_cases e : i = pos
              · subst e; exact hk
              · exact HI.out i (by omega)
            clear HI hd NO YE
            generalize btN s pos = x at *
            cases hl : letB x with
            | true =>
              clear hk
              go_wp2_with (first | (go_at_call 73; refine (isLetter_any x _).mono ?_; rintro e w' ⟨rfl, rfl⟩; rw [hl]))
              go_roundw
              case rel => exact ⟨pos + 1, rfl, by omega, HI2⟩
              case measure => simp; omega
            | false =>
              have hp0 : ¬ pos = 0 := by rintro rfl; simp [okN, hl] at hk
              have hp1 : ((pos : Int) == 0) = false := by simpa using hp0
              cases hg : digB x with
              | true =>
                clear hk
                go_wp2_with (first | (go_at_call 73; refine (isLetter_any x _).mono ?_; rintro e w' ⟨rfl, rfl⟩; rw [hl]) | (go_at_call 74; refine (isDigit_any x _).mono ?_; rintro e w' ⟨rfl, rfl⟩; rw [hg]))
                go_roundw
                case rel => exact ⟨pos + 1, rfl, by omega, HI2⟩
                case measure => simp; omega
              | false =>
                have h95 : x = 95 := by
                  have := hk
                  simp only [okN, hl, hg, Bool.false_or, Bool.and_eq_true, decide_eq_true_eq] at this
                  exact this.2
                clear hk
                subst h95
                have hl : letB 95 = false := by decide
                have hg : digB 95 = false := by decide
                go_wp2_with (first | (go_at_call 73; refine (isLetter_any 95 _).mono ?_; rintro e w' ⟨rfl, rfl⟩; rw [hl]) | (go_at_call 74; refine (isDigit_any 95 _).mono ?_; rintro e w' ⟨rfl, rfl⟩; rw [hg]))
                go_roundw
                case rel => exact ⟨pos + 1, rfl, by omega, HI2⟩
                case measure => simp; omega
          · have hk : okN pos (btN s pos) = false := by simpa using hk
            obtain rfl := NO.out pos hp hk
            clear NO YE HI hd
            generalize btN s pos = x at *
            have hl : letB x = false := by
              cases hl : letB x with
              | false => rfl
              | true => simp [okN, hl] at hk
            by_cases hp0 : pos = 0
            · subst hp0
              clear hk
              go_wp2_with (first | (go_at_call 73; refine (isLetter_any x _).mono ?_; rintro e w' ⟨rfl, rfl⟩; rw [hl]))
              go_ret
              exact ⟨rfl, hB2 _⟩
            · have hp1 : ((pos : Int) == 0) = false := by simpa using hp0
              have hg : digB x = false ∧ ¬ x = 95 := by
                simp only [okN, hl, decide_eq_false hp0, Bool.false_or, Bool.not_false, Bool.true_and, Bool.or_eq_false_iff, decide_eq_false_iff_not] at hk
                exact hk
              obtain ⟨hg, h95⟩ := hg
              have h95 : ¬ (x : Int) = 95 := by omega
              clear hk
              go_wp2_with (first | (go_at_call 73; refine (isLetter_any x _).mono ?_; rintro e w' ⟨rfl, rfl⟩; rw [hl]) | (go_at_call 74; refine (isDigit_any x _).mono ?_; rintro e w' ⟨rfl, rfl⟩; rw [hg]))
              go_ret
              exact ⟨rfl, hB2 _⟩
        · have hd := decode_high s pos hp (by rw [btN_get hp]; omega)
          have hk : okN pos (btN s pos) = false := by
            simp only [okN, letB, digB, decide_eq_false (show ¬ (btN s pos : Int) ≤ 122 by omega), decide_eq_false (show ¬ (btN s pos : Int) ≤ 57 by omega), decide_eq_false (show ¬ btN s pos = 95 by omega), Bool.and_false, Bool.or_false]
          obtain rfl := NO.out pos hp hk
          generalize (Utf8.decode s pos).2 = y at *
          generalize (Utf8.decode s pos).1 = x at *
          have hx1 := hd.1
          have hl : letB x = false := by unfold letB; rw [decide_eq_false (show ¬ (x : Int) ≤ 122 by omega), Bool.and_false]
          have hg : digB x = false := by unfold digB; rw [decide_eq_false (show ¬ (x : Int) ≤ 57 by omega), Bool.and_false]
          have h95 : ¬ (x : Int) = 95 := by omega
          clear NO YE HI hd hk hx
          by_cases hp0 : pos = 0
          · subst hp0
            go_wp2_with (first | (go_at_call 73; refine (isLetter_any x _).mono ?_; rintro e w' ⟨rfl, rfl⟩; rw [hl]))
            go_ret
            exact ⟨rfl, hB2 _⟩
          · have hp1 : ((pos : Int) == 0) = false := by simpa using hp0
            go_wp2_with (first | (go_at_call 73; refine (isLetter_any x _).mono ?_; rintro e w' ⟨rfl, rfl⟩; rw [hl]) | (go_at_call 74; refine (isDigit_any x _).mono ?_; rintro e w' ⟨rfl, rfl⟩; rw [hg]))
            go_ret
            exact ⟨rfl, hB2 _⟩
      · have hnx : ∀ ty, (Instr.next (.pointer (some ⟨w.heap.size, 0, none⟩)) true ty).run Tryd.prog (w.iter s pos) = _ := fun ty => run_next_end w s pos ty hp
        obtain rfl := YE.out fun i hi => HI.out i (by omega)
        clear NO YE HI
        go_wp2_with fail
        go_ret
        exact ⟨rfl, hB⟩
end Go.Proofs.YtmdpjahhhfajaaaDoor
