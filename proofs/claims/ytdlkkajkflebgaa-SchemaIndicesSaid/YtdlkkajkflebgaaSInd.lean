/-
  Indices, of schema and of its reference; Contains and Has.
-/
import Derived.Test.YtdlkkajkflebgaaSIndex
import Derived.Test.YtdlkkajkflebgaaGOwn
import Derived.BigQuiet
set_option linter.unusedVariables false
namespace Wh
open Go

/-- Is a text in a list? -/
def hasB (ss : List ByteArray) (s : ByteArray) : Bool := ss.any fun t => eqS t s

theorem hasB_no {ss : List ByteArray} {s : ByteArray} (h : ∀ (i : Nat) (t : ByteArray), ss[i]? = some t → eqS t s = false) : hasB ss s = false := by
  unfold hasB
  rw [List.any_eq_false]
  intro t ht
  obtain ⟨i, hi⟩ := List.mem_iff_getElem?.1 ht
  simp [h i t hi]
theorem hasB_yes {ss : List ByteArray} {s t : ByteArray} {i : Nat} (h : ss[i]? = some t) (he : eqS t s = true) : hasB ss s = true := by
  unfold hasB
  rw [List.any_eq_true]
  exact ⟨t, List.mem_of_getElem? h, he⟩

/-- What Indices returns. -/
def goInd (cs : List C) (all : List ByteArray) : List ByteArray → Nat → List Int → List Int × Int
  | [], _, acc => (acc, 0)
  | s :: r, i, acc => if idxC cs s < 0 then ([], 5) else if hasB (all.take i) s = true then ([], 6) else goInd cs all r (i + 1) (acc ++ [idxC cs s])
def indOut (cs : List C) (ss : List ByteArray) : List Int × Int := goInd cs ss ss 0 []

theorem goInd_next {cs : List C} {ss : List ByteArray} {k : Nat} {s : ByteArray} (h : ss[k]? = some s) (acc : List Int) :
    goInd cs ss (ss.drop k) k acc = if idxC cs s < 0 then ([], 5) else if hasB (ss.take k) s = true then ([], 6) else goInd cs ss (ss.drop (k + 1)) (k + 1) (acc ++ [idxC cs s]) := by
  have hk := List.getElem?_eq_some_iff.1 h
  rw [List.drop_eq_getElem_cons hk.1, hk.2]
  rfl

end Wh
namespace Go.Proofs.Ytdlkkajkflebgaa
open Go.RowKit Wh

theorem has_any (a : Option Addr) (len cap : Nat) (ss : List ByteArray) (s : ByteArray) (w : World) (hs : IsStrs w a len ss) (hl : len ≤ 9223372036854775807) :
    Calls Try.prog 48 #[.slice a len cap, .string s] w fun e w' => e = .returned (.bool (hasB ss s)) ∧ w = w' := by
  have NO := Lib.hid (fun h => hasB_no (ss := ss) (s := s) h)
  have YE := Lib.hid (fun (i : Nat) (t : ByteArray) h he => hasB_yes (ss := ss) (s := s) (t := t) (i := i) h he)
  have HS := Lib.hid hs
  generalize hasB ss s = E at *
  clear hs
  go_enter Try.func48, Try.ntmps48
  go_wp2_with fail
  go_loop [5] (fun iv => ∃ k : Nat, k ≤ len ∧ iv = .int .i64 k ∧ Hid (∀ (i : Nat) (t : ByteArray), i < k → ss[i]? = some t → eqS t s = false)) (fun i => len - (intOf i).toNat)
  case atStart => exact ⟨0, Nat.zero_le _, rfl, fun i s hi => absurd hi (by omega)⟩
  case round =>
    obtain ⟨k, hk, rfl, HI⟩ := hrel
    by_cases hlt : k < len
    · obtain ⟨t, b, off, hx, rfl, hbl, hc0⟩ := HS.out.at hlt
      have HX := Lib.hid hx
      clear hx
      cases he : eqS t s with
      | true =>
        obtain rfl := YE.out k t HX.out he
        have he2 : (t.toList == s.toList) = true := he
        clear he HI NO YE
        go_wp2_with fail
        go_ret
        exact ⟨rfl, rfl⟩
      | false =>
        have HI2 : Hid (∀ (i : Nat) (u : ByteArray), i < k + 1 → ss[i]? = some u → eqS u s = false) := fun i u hi hu => by
          by_cases e : i = k
          · subst e
            have := HX.out
            rw [hu] at this
            cases this
            exact he
          · exact HI.out i u (by omega) hu
        have he2 : (t.toList == s.toList) = false := he
        clear he HI NO YE
        go_wp2_with fail
        go_round
        case rel => exact ⟨k + 1, by omega, by go_num, HI2⟩
        case measure => simp [intOf]; omega
    · obtain rfl := NO.out fun i s hi => HI.out i s (by have := (List.getElem?_eq_some_iff.1 hi).1; have := HS.out.1; omega) hi
      clear NO YE HI
      go_wp2_with fail
      go_ret
      exact ⟨rfl, rfl⟩

theorem sliceIndex_any (a : Option Addr) (len cap : Nat) (ss : List ByteArray) (s : ByteArray) (w : World) (hs : IsStrs w a len ss) (hl : len ≤ 9223372036854775807) :
    Calls Try.prog 54 #[.slice a len cap, .string s] w fun e w' => (∃ z : Int, e = .returned (.int .i64 z) ∧ decide (0 ≤ z) = hasB ss s) ∧ w = w' := by
  have NO := Lib.hid (fun h => hasB_no (ss := ss) (s := s) h)
  have YE := Lib.hid (fun (i : Nat) (t : ByteArray) h he => hasB_yes (ss := ss) (s := s) (t := t) (i := i) h he)
  have HS := Lib.hid hs
  generalize hasB ss s = E at *
  clear hs
  go_enter Try.func54, Try.ntmps54
  go_wp2_with fail
  go_loop [8] (fun iv => ∃ k : Nat, k ≤ len ∧ iv = .int .i64 k ∧ Hid (∀ (i : Nat) (t : ByteArray), i < k → ss[i]? = some t → eqS t s = false)) (fun i => len - (intOf i).toNat)
  case atStart => exact ⟨0, Nat.zero_le _, rfl, fun i s hi => absurd hi (by omega)⟩
  case round =>
    obtain ⟨k, hk, rfl, HI⟩ := hrel
    by_cases hlt : k < len
    · obtain ⟨t, b, off, hx, rfl, hbl, hc0⟩ := HS.out.at hlt
      have HX := Lib.hid hx
      clear hx
      cases he : eqS t s with
      | true =>
        obtain rfl := YE.out k t HX.out he
        have he2 : (s.toList == t.toList) = true := by rw [eqS_comm] at he; exact he
        clear he HI NO YE
        go_wp2_with fail
        go_ret
        exact ⟨⟨_, rfl, (by omega)⟩, rfl⟩
      | false =>
        have HI2 : Hid (∀ (i : Nat) (u : ByteArray), i < k + 1 → ss[i]? = some u → eqS u s = false) := fun i u hi hu => by
          by_cases e : i = k
          · subst e
            have := HX.out
            rw [hu] at this
            cases this
            exact he
          · exact HI.out i u (by omega) hu
        have he2 : (s.toList == t.toList) = false := by rw [eqS_comm] at he; exact he
        clear he HI NO YE
        go_wp2_with fail
        go_round
        case rel => exact ⟨k + 1, by omega, by go_num, HI2⟩
        case measure => simp [intOf]; omega
    · obtain rfl := NO.out fun i s hi => HI.out i s (by have := (List.getElem?_eq_some_iff.1 hi).1; have := HS.out.1; omega) hi
      clear NO YE HI
      go_wp2_with fail
      go_ret
      exact ⟨⟨_, rfl, (by omega)⟩, rfl⟩

theorem contains_any (a : Option Addr) (len cap : Nat) (ss : List ByteArray) (s : ByteArray) (w : World) (hs : IsStrs w a len ss) (hl : len ≤ 9223372036854775807) :
    Calls Try.prog 47 #[.slice a len cap, .string s] w fun e w' => e = .returned (.bool (hasB ss s)) ∧ w = w' := by
  have c := sliceIndex_any a len cap ss s w hs hl
  generalize hasB ss s = E at *
  clear hs
  go_enter Try.func47, Try.ntmps47
  go_wp2_with (go_at_call 54; refine c.mono ?_; rintro e w' ⟨⟨z, rfl, hz⟩, rfl⟩)
  go_ret
  first | exact ⟨ret_bool hz, rfl⟩ | exact ⟨rfl, rfl⟩

/-- The call returns a new row of numbers and an error. -/
def IndPost (w : World) (out : List Int × Int) (e : Ending) (w' : World) : Prop :=
  ∃ bv : Value, e = .returned (.tuple #[bv, .int .i64 out.2]) ∧ w'.ownsRow w.heap.size 3 1 bv out.1.length (out.1.map (Value.int .i64)) ∧ Below w.heap.size w w'

theorem indPost_err {w w' : World} {x : Int} {out : List Int × Int} (h : out = ([], x)) (hb : Below w.heap.size w w') : IndPost w out (.returned (.tuple #[.slice none 0 0, .int .i64 x])) w' :=
  ⟨.slice none 0 0, by rw [h], by rw [h]; exact World.ownsRow_nil _ _ _ _, hb⟩

set_option maxHeartbeats 1000000 in
theorem indices_any (a1 : Option Addr) (len1 cap1 : Nat) (cs : List C) (a2 : Option Addr) (len2 cap2 : Nat) (ss : List ByteArray) (w : World) (h1 : IsCols w a1 len1 cs) (h2 : IsStrs w a2 len2 ss)
    (q1 : len1 ≤ 9223372036854775807) (q2 : len2 ≤ 1000) (q3 : len2 ≤ cap2) (q4 : cap2 ≤ 9223372036854775807) :
    Calls Try.prog 25 #[.slice a1 len1 cap1, .slice a2 len2 cap2] w (IndPost w (indOut cs ss)) := by
  generalize hE : indOut cs ss = E
  have HE := Lib.hid hE
  have H1 := Lib.hid h1
  have H2 := Lib.hid h2
  clear hE h1 h2
  obtain ⟨i0, hi, hz0, hz1, hz2⟩ := info_parts info_int
  go_enter Try.func25, Try.ntmps25
  go_wp2_with fail
  go_loopw [6, 12] (fun ov iv wr => ∃ (k : Nat) (acc : List Int), k ≤ len2 ∧ iv = .int .i64 k ∧ acc.length = k ∧ Hid (goInd cs ss (ss.drop k) k acc = E) ∧
      wr.ownsRow w.heap.size 3 1 ov k (acc.map (Value.int .i64)) ∧ Below w.heap.size w wr) (fun _ i _ => len2 - (intOf i).toNat)
  case atStart => exact ⟨0, [], Nat.zero_le _, rfl, rfl, HE.out, World.ownsRow_nil _ _ _ _, Below.refl _ _⟩
  case round =>
    obtain ⟨k, acc, hk, rfl, hacc, HG, hown, hbel⟩ := hrel
    have hs := hbel.size
    have HA := Lib.hid hacc
    by_cases hlt : k < len2
    · obtain ⟨s, b2, off2, hx, rfl, hbl, hc0⟩ := (H2.out.below hbel (Nat.le_refl _)).at hlt
      have HN := Lib.hid (goInd_next (cs := cs) hx acc)
      clear hx hacc
      have ci := fun W hW => index_any5 a1 len1 cap1 cs s W (H1.out.below hW (Nat.le_refl _)) q1
      have cc := fun W hW => contains_any (some ⟨b2, off2, none⟩) k cap2 (ss.take k) s W ((H2.out.take hk).below hW (Nat.le_refl _)) (by omega)
      have sl : ∀ W, (Instr.slice 24 (.slice (some ⟨b2, off2, none⟩) len2 cap2) none (some (.int .i64 k)) none).run Try.prog W = .ok (.slice (some ⟨b2, off2, none⟩) k cap2) W := fun W => slice_to_strs b2 off2 len2 cap2 k (by omega) (by omega) W
      generalize idxC cs s = ix at *
      generalize hasB (ss.take k) s = hb at *
      have CI := Lib.hid ci
      have CC := Lib.hid cc
      clear ci cc
      by_cases hix : ix < 0
      · have HR : Hid (E = ([], 5)) := by show _ = _; rw [← HG.out, HN.out, if_pos hix]
        clear HN HG CC sl hown
        go_wp2_with (go_at_call 19; refine (CI.out _ hbel).mono ?_; rintro e w1 ⟨rfl, hb1⟩)
        go_ret2
        exact indPost_err HR.out (hbel.trans (hb1.mono hs))
      · have HN2 : Hid (E = if hb = true then ([], 6) else goInd cs ss (ss.drop (k + 1)) (k + 1) (acc ++ [ix])) := by show _ = _; rw [← HG.out, HN.out, if_neg hix]
        clear HN HG
        have hix0 : 0 ≤ ix := by omega
        cases hb with
        | true =>
          have HR : Hid (E = ([], 6)) := by show _ = _; rw [HN2.out, if_pos rfl]
          clear HN2 hown
          go_wp2_with (first | (go_at_call 19; refine (CI.out _ hbel).mono ?_; rintro e w1 ⟨rfl, hb1⟩) | (go_at_call 47; refine (CC.out _ (hbel.trans (hb1.mono hs))).mono ?_; rintro e w2 ⟨rfl, rfl⟩))
          go_ret2
          exact indPost_err HR.out (hbel.trans (hb1.mono hs))
        | false =>
          have HR : Hid (goInd cs ss (ss.drop (k + 1)) (k + 1) (acc ++ [ix]) = E) := by show _ = _; rw [HN2.out, if_neg (by decide)]
          clear HN2
          go_wp2_with (first | (go_at_call 19; refine (CI.out _ hbel).mono ?_; rintro e w1 ⟨rfl, hb1⟩; have hown1 := own_below hown hb1; have hs1 := hb1.size) | (go_at_call 47; refine (CC.out _ (hbel.trans (hb1.mono hs))).mono ?_; rintro e w2 ⟨rfl, rfl⟩) |
            (at_builtin; refine wpList_append_own _ rfl _ _ 22 rfl w.heap.size 3 i0 _ 1 8 Try.underlying22 hi hz0 hz1 hz2 rfl (by decide) _ _ _ rfl (hown1.alloc _) ⟨w1.heap.size, 0, none⟩ 1 1 [.int .i64 ix] rfl rfl ?c1 ?c2 ?c3 ?c4 ?c5 ?_))
          case c1 => exact World.news_of_block (cs := #[.int .i64 ix]) (t := 3) (fr := (0, 0)) (heap_alloc_new w1 _)
          case c2 => simp [Value.oneCell']
          case c3 => simp [maxLen]; omega
          case c4 => omega
          case c5 => simp; omega
          intro v3 w3 hown3 hgrow _
          have hB : Below w.heap.size w w3 := ((hbel.trans (hb1.mono hs)).alloc (by omega) _).grown hgrow (by simp; omega) (fun j hj => (hown1.lt j hj).1)
          have hown4 : w3.ownsRow w.heap.size 3 1 v3 (k + 1) ((acc ++ [ix]).map (Value.int .i64)) := by
            rw [List.map_append]
            exact hown3
          clear hown hown1 hown3 hb1 hgrow hbel sl
          go_wp2_with fail
          go_roundw
          case rel => exact ⟨k + 1, acc ++ [ix], by omega, by go_num, by rw [List.length_append, HA.out]; rfl, HR, hown4, hB⟩
          case measure => simp [intOf]; omega
    · obtain rfl : k = len2 := by omega
      have HR : Hid (E = (acc, 0)) := by show _ = _; rw [← HG.out, List.drop_of_length_le (by have := H2.out.1; omega)]; rfl
      have HO := Lib.hid hown
      clear HG hown
      go_wp2_with fail
      go_ret2
      exact ⟨u6, by rw [HR.out]; rfl, by rw [HR.out]; show World.ownsRow _ _ _ _ _ acc.length _; rw [hacc]; exact HO.out, hbel⟩

set_option maxHeartbeats 1000000 in
theorem rindices_any (a1 : Option Addr) (len1 cap1 : Nat) (cs : List C) (a2 : Option Addr) (len2 cap2 : Nat) (ss : List ByteArray) (w : World) (h1 : IsCols w a1 len1 cs) (h2 : IsStrs w a2 len2 ss)
    (q1 : len1 ≤ 9223372036854775807) (q2 : len2 ≤ 1000) (q3 : len2 ≤ cap2) (q4 : cap2 ≤ 9223372036854775807) :
    Calls Try.prog 26 #[.slice a1 len1 cap1, .slice a2 len2 cap2] w (IndPost w (indOut cs ss)) := by
  generalize hE : indOut cs ss = E
  have HE := Lib.hid hE
  have H1 := Lib.hid h1
  have H2 := Lib.hid h2
  clear hE h1 h2
  obtain ⟨i0, hi, hz0, hz1, hz2⟩ := info_parts info_int
  go_enter Try.func26, Try.ntmps26
  go_wp2_with fail
  go_loopw [6, 7] (fun ov iv wr => ∃ (k : Nat) (acc : List Int), k ≤ len2 ∧ iv = .int .i64 k ∧ acc.length = k ∧ Hid (goInd cs ss (ss.drop k) k acc = E) ∧
      wr.ownsRow w.heap.size 3 1 ov k (acc.map (Value.int .i64)) ∧ Below w.heap.size w wr) (fun _ i _ => len2 - (intOf i).toNat)
  case atStart => exact ⟨0, [], Nat.zero_le _, rfl, rfl, HE.out, World.ownsRow_nil _ _ _ _, Below.refl _ _⟩
  case round =>
    obtain ⟨k, acc, hk, rfl, hacc, HG, hown, hbel⟩ := hrel
    have hs := hbel.size
    have HA := Lib.hid hacc
    by_cases hlt : k < len2
    · obtain ⟨s, b2, off2, hx, rfl, hbl, hc0⟩ := (H2.out.below hbel (Nat.le_refl _)).at hlt
      have HN := Lib.hid (goInd_next (cs := cs) hx acc)
      clear hx hacc
      have ci := rindex_any5 a1 len1 cap1 cs s wr (H1.out.below hbel (Nat.le_refl _)) q1
      have cc := fun n => has_any (some ⟨b2, off2, none⟩) k cap2 (ss.take k) s (wr.drewN n) ((H2.out.take hk).below (below_drewN hbel n) (Nat.le_refl _)) (by omega)
      have sl : ∀ W, (Instr.slice 24 (.slice (some ⟨b2, off2, none⟩) len2 cap2) none (some (.int .i64 k)) none).run Try.prog W = .ok (.slice (some ⟨b2, off2, none⟩) k cap2) W := fun W => slice_to_strs b2 off2 len2 cap2 k (by omega) (by omega) W
      generalize idxC cs s = ix at *
      generalize hasB (ss.take k) s = hb at *
      have CI := Lib.hid ci
      have CC := Lib.hid cc
      clear ci cc
      by_cases hix : ix < 0
      · have HR : Hid (E = ([], 5)) := by show _ = _; rw [← HG.out, HN.out, if_pos hix]
        clear HN HG CC sl hown
        go_wp2_with (go_at_call 20; refine CI.out.mono ?_; rintro e w1 ⟨rfl, rfl⟩)
        go_ret2
        exact indPost_err HR.out hbel
      · have HN2 : Hid (E = if hb = true then ([], 6) else goInd cs ss (ss.drop (k + 1)) (k + 1) (acc ++ [ix])) := by show _ = _; rw [← HG.out, HN.out, if_neg hix]
        clear HN HG
        have hix0 : 0 ≤ ix := by omega
        cases hb with
        | true =>
          have HR : Hid (E = ([], 6)) := by show _ = _; rw [HN2.out, if_pos rfl]
          clear HN2 hown
          go_wp2_with (go_at_call 20; refine CI.out.mono ?_; rintro e w1 ⟨rfl, rfl⟩)
          go_quiet (first | (go_at_call 48; exact quiet_eq (CC.out _)))
          go_wp2_with fail
          go_ret2
          exact indPost_err HR.out (below_drewN hbel _)
        | false =>
          have HR : Hid (goInd cs ss (ss.drop (k + 1)) (k + 1) (acc ++ [ix]) = E) := by show _ = _; rw [HN2.out, if_neg (by decide)]
          clear HN2
          go_wp2_with (go_at_call 20; refine CI.out.mono ?_; rintro e w1 ⟨rfl, rfl⟩)
          go_quiet (first | (go_at_call 48; exact quiet_eq (CC.out _)))
          have hbq := below_drewN hbel nq
          have hownq := own_below hown (below_drewN (Below.refl _ _) nq)
          go_wp2_with (at_builtin; refine wpList_append_own _ rfl _ _ 22 rfl w.heap.size 3 i0 _ 1 8 Try.underlying22 hi hz0 hz1 hz2 rfl (by decide) _ _ _ rfl (hownq.alloc _) ⟨wr.heap.size, 0, none⟩ 1 1 [.int .i64 ix] rfl rfl ?c1 ?c2 ?c3 ?c4 ?c5 ?_)
          case c1 => exact World.news_of_block (cs := #[.int .i64 ix]) (t := 3) (fr := (0, 0)) (heap_alloc_new (wr.drewN nq) _)
          case c2 => simp [Value.oneCell']
          case c3 => simp [maxLen]; omega
          case c4 => omega
          case c5 => simp; omega
          intro v3 w3 hown3 hgrow _
          have hB : Below w.heap.size w w3 := (hbq.alloc (show w.heap.size ≤ wr.heap.size from hs) _).grown hgrow (by simp; omega) (fun j hj => (hownq.lt j hj).1)
          have hown4 : w3.ownsRow w.heap.size 3 1 v3 (k + 1) ((acc ++ [ix]).map (Value.int .i64)) := by
            rw [List.map_append]
            exact hown3
          clear hown hownq hown3 hgrow hbel hbq sl
          go_wp2_with fail
          go_roundw
          case rel => exact ⟨k + 1, acc ++ [ix], by omega, by go_num, by rw [List.length_append, HA.out]; rfl, HR, hown4, hB⟩
          case measure => simp [intOf]; omega
    · obtain rfl : k = len2 := by omega
      have HR : Hid (E = (acc, 0)) := by show _ = _; rw [← HG.out, List.drop_of_length_le (by have := H2.out.1; omega)]; rfl
      have HO := Lib.hid hown
      clear HG hown
      go_wp2_with fail
      go_ret2
      exact ⟨u6, by rw [HR.out]; rfl, by rw [HR.out]; show World.ownsRow _ _ _ _ _ acc.length _; rw [hacc]; exact HO.out, hbel⟩

end Go.Proofs.Ytdlkkajkflebgaa
