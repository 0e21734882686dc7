/-
  The order of rows in the program: value.Compare, slices.CompareFunc, value.CompareRows, bag.compare, and what they leave of memory.
-/
import Derived.Test.YtdhhhmehkldliaaGVCmp
import Derived.Test.YtdhhhmehkldliaaGEnts
import Derived.Sort.Grow
set_option linter.unusedVariables false
set_option maxRecDepth 100000
namespace Go.Proofs.Ytdhhhmehkldliaa
open Go.RowKit Wh

/-- The world is as it was, but for draws and for new blocks. -/
def Grew (w w' : World) : Prop := Below w.heap.size w w' ∧ w.drawn ≤ w'.drawn
theorem Grew.refl (w : World) : Grew w w := ⟨Below.refl _ _, Nat.le_refl _⟩
theorem Grew.trans {a b c : World} (h : Grew a b) (k : Grew b c) : Grew a c := ⟨h.1.trans (k.1.mono h.1.size), Nat.le_trans h.2 k.2⟩
theorem Grew.alloc {a w : World} (h : Grew a w) (o : Obj) : Grew a (w.alloc o) := ⟨h.1.alloc h.1.size o, h.2⟩
theorem Grew.drew {a w : World} (h : Grew a w) : Grew a w.drew := ⟨h.1.drew, Nat.le_succ_of_le h.2⟩
theorem Grew.drewN {a w : World} (h : Grew a w) (n : Nat) : Grew a (w.drewN n) := ⟨⟨h.1.os, h.1.tape, h.1.output, h.1.size, h.1.block⟩, Nat.le_trans h.2 (Nat.le_add_right _ _)⟩
theorem Grew.form {w w' : World} (h : Grew w w') : ∃ q os, w' = Sort.grow (w.drewN q) os := by
  obtain ⟨hb, hd⟩ := h
  have hh : w'.heap = w.heap ++ w'.heap.extract w.heap.size w'.heap.size := by
    apply Array.ext_getElem?
    intro i
    by_cases hi : i < w.heap.size
    · rw [Array.getElem?_append_left hi, hb.block i hi]
    · rw [Array.getElem?_append_right (by omega), Array.getElem?_extract]
      split
      · congr 1
        omega
      · rw [Array.getElem?_eq_none (by omega)]
  refine ⟨w'.drawn - w.drawn, w'.heap.extract w.heap.size w'.heap.size, ?_⟩
  have h1 := hb.os
  have h2 := hb.tape
  have h3 := hb.output
  obtain ⟨p1, t1, d1, s1, o1⟩ := w
  obtain ⟨p2, t2, d2, s2, o2⟩ := w'
  simp only at h1 h2 h3 hd hh
  subst h1 h2 h3
  unfold Sort.grow World.drewN
  simp only [World.mk.injEq, true_and, and_true]
  exact ⟨hh, by omega⟩

theorem cmpint_any (a b : Int) (w : World) :
    Calls Try.prog 88 #[.int .i64 a, .int .i64 b] w fun e w' => e = .returned (.int .i64 (cmpI a b)) ∧ w = w' := by
  go_enter Try.func88, Try.ntmps88
  go_wp2
  all_goals
    go_ret
    refine ⟨ret_int ?_, rfl⟩
    unfold cmpI
    (repeat' split) <;> omega

theorem cmpstring_any (a b : ByteArray) (w : World) :
    Calls Try.prog 101 #[.string a, .string b] w fun e w' => e = .returned (.int .i64 (cmpS a b)) ∧ w = w' := by
  go_enter Try.func101, Try.ntmps101
  go_wp2
  rw [run_callFunc_extern Try.func107 (by kernel_rfl) (by kernel_rfl) (by kernel_rfl) (e := Extern.BytealgCompare.compare) (by kernel_rfl), Lib.run_compareString]
  simp only [Result.andThen]
  rw [Oper.upon_value]
  go_wp2
  go_ret
  exact ⟨rfl, rfl⟩

theorem cmpstr_any (a b : ByteArray) (w : World) :
    Calls Try.prog 89 #[.string a, .string b] w fun e w' => e = .returned (.int .i64 (cmpS a b)) ∧ w = w' := by
  go_enter Try.func89, Try.ntmps89
  go_wp2_with (go_at_call 101; refine (cmpstring_any _ _ _).mono ?_; rintro e w' ⟨rfl, rfl⟩)
  go_ret
  exact ⟨rfl, rfl⟩

theorem compare_grew (a b : V) (w : World) :
    Calls Try.prog 83 #[agg a.k a.n a.s, agg b.k b.n b.s] w fun e w' => e = .returned (.int .i64 (cmpV a b)) ∧ Grew w w' := by
  obtain ⟨k, n, s⟩ := a
  obtain ⟨k', n', s'⟩ := b
  go_enter Try.func83, Try.ntmps83
  go_wp2_with (first | (go_at_call 88; refine (cmpint_any _ _ _).mono ?_; rintro e w' ⟨rfl, rfl⟩) | (go_at_call 89; refine (cmpstr_any _ _ _).mono ?_; rintro e w' ⟨rfl, rfl⟩))
  all_goals
    go_ret
    refine ⟨ret_int ?_, ((Grew.refl _).alloc _).alloc _⟩
    simp_all [cmpV]

theorem compare6 (k n : Int) (s : ByteArray) (k' n' : Int) (s' : ByteArray) (w : World) :
    Calls Try.prog 83 #[agg k n s, agg k' n' s'] w fun e w' => e = .returned (.int .i64 (cmpV ⟨k, n, s⟩ ⟨k', n', s'⟩)) ∧ Grew w w' := compare_grew ⟨k, n, s⟩ ⟨k', n', s'⟩ w

set_option maxHeartbeats 1000000 in
theorem func_grew (a1 : Option Addr) (len1 cap1 : Nat) (as1 : List V) (a2 : Option Addr) (len2 cap2 : Nat) (as2 : List V) (w : World) (h1 : IsVals w a1 len1 as1) (h2 : IsVals w a2 len2 as2)
    (q1 : len1 ≤ 9223372036854775807) (q2 : len2 ≤ 9223372036854775807) :
    Calls Try.prog 82 #[.slice a1 len1 cap1, .slice a2 len2 cap2, .func (.func 83) #[] #[]] w
      fun e w' => e = .returned (.int .i64 (cmpR as1 as2)) ∧ Grew w w' := by
  obtain ⟨hl1, h1⟩ := h1
  obtain ⟨hl2, h2⟩ := h2
  have L1 := Lib.hid hl1
  have L2 := Lib.hid hl2
  clear hl1 hl2
  go_enter Try.func82, Try.ntmps82
  go_wp2_with fail
  go_loopw [13] (fun iv wr => ∃ k : Nat, k ≤ len1 ∧ k ≤ len2 ∧ iv = .int .i64 k ∧ Hid (cmpR as1 as2 = cmpR (as1.drop k) (as2.drop k)) ∧ Grew w wr)
    (fun i _ => len1 - (intOf i).toNat)
  case atStart => exact ⟨0, Nat.zero_le _, Nat.zero_le _, rfl, rfl, Grew.refl _⟩
  case round =>
    obtain ⟨k, hk1, hk2, rfl, HC, hbel⟩ := hrel
    have hs := hbel.1.size
    by_cases hlt : k < len1
    · rcases h1 with rfl | ⟨b1, off1, rfl, hb1, hat1⟩
      · exact absurd L1.out (by simp; omega)
      by_cases hge : k < len2
      · rcases h2 with rfl | ⟨b2, off2, rfl, hb2, hat2⟩
        · exact absurd L2.out (by simp; omega)
        obtain ⟨x, hx⟩ : ∃ v, as1[k]? = some v := ⟨_, List.getElem?_eq_getElem (by have := L1.out; omega)⟩
        obtain ⟨y, hy⟩ : ∃ v, as2[k]? = some v := ⟨_, List.getElem?_eq_getElem (by have := L2.out; omega)⟩
        obtain ⟨c0, c1, c2⟩ := (hat1.below hbel.1 hb1) k x hx
        obtain ⟨d0, d1, d2⟩ := (hat2.below hbel.1 hb2) k y hy
        have HS := Lib.hid (cmpR_step hx hy)
        have HA1 := Lib.hid hat1
        have HA2 := Lib.hid hat2
        clear hx hy hat1 hat2
        have ht1 : b1 < wr.heap.size := by omega
        have ht2 : b2 < wr.heap.size := by omega
        have ht3 : ¬ b2 = wr.heap.size := by omega
        go_wp2_with fail
        refine (compare6 _ _ _ _ _ _ _).mono ?_
        rintro e w1 ⟨rfl, hb⟩
        have hB : Grew w w1 := ((hbel.alloc _).alloc _).trans hb
        have HS' : Hid (cmpR (List.drop k as1) (List.drop k as2) = if (cmpV ⟨x.k, x.n, x.s⟩ ⟨y.k, y.n, y.s⟩ == 0) = false then cmpV ⟨x.k, x.n, x.s⟩ ⟨y.k, y.n, y.s⟩ else cmpR (List.drop (k + 1) as1) (List.drop (k + 1) as2)) := HS.out
        clear HS
        generalize cmpV ⟨x.k, x.n, x.s⟩ ⟨y.k, y.n, y.s⟩ = c at HS' ⊢
        clear hb hbel c0 c1 c2 d0 d1 d2
        by_cases hc : c = 0
        · subst hc
          have HN : Hid (cmpR as1 as2 = cmpR (as1.drop (k + 1)) (as2.drop (k + 1))) := by
            show _ = _
            rw [HC.out, HS'.out]
            rfl
          go_wp2_with fail
          go_roundw
          case rel => exact ⟨k + 1, by omega, by omega, by go_num, HN, hB⟩
          case measure => simp [intOf]; omega
        · have hc1 : (c == 0) = false := by simpa using hc
          have hc2 : (c != 0) = true := by simpa using hc
          have HN : Hid (cmpR as1 as2 = c) := by
            show _ = _
            rw [HC.out, HS'.out, if_pos hc1]
          go_wp2_with fail
          go_ret
          exact ⟨ret_int HN.out.symm, hB⟩
      · have HN : Hid (cmpR as1 as2 = 1) := by
          show _ = _
          rw [HC.out]
          exact cmpR_over (by have := L1.out; omega) (by have := L2.out; omega)
        obtain ⟨x, hx⟩ : ∃ v, as1[k]? = some v := ⟨_, List.getElem?_eq_getElem (by have := L1.out; omega)⟩
        obtain ⟨c0, c1, c2⟩ := (hat1.below hbel.1 hb1) k x hx
        have HA1 := Lib.hid hat1
        clear hx hat1
        have ht1 : b1 < wr.heap.size := by omega
        go_wp2_with fail
        go_ret
        exact ⟨ret_int HN.out.symm, hbel.alloc _⟩
    · obtain rfl : k = len1 := by omega
      have HE := Lib.hid (cmpR_ends (as2 := as2) L1.out)
      by_cases hl : k < len2
      · have HN : Hid (cmpR as1 as2 = -1) := by
          show _ = _
          rw [HC.out, HE.out, if_pos (by have := L2.out; omega)]
        go_wp2_with fail
        go_ret
        exact ⟨ret_int HN.out.symm, hbel⟩
      · have HN : Hid (cmpR as1 as2 = 0) := by
          show _ = _
          rw [HC.out, HE.out, if_neg (by have := L2.out; omega)]
        go_wp2_with fail
        go_ret
        exact ⟨ret_int HN.out.symm, hbel⟩

theorem rows_grew (a1 : Option Addr) (len1 cap1 : Nat) (as1 : List V) (a2 : Option Addr) (len2 cap2 : Nat) (as2 : List V) (w : World) (h1 : IsVals w a1 len1 as1) (h2 : IsVals w a2 len2 as2)
    (q1 : len1 ≤ 9223372036854775807) (q2 : len2 ≤ 9223372036854775807) :
    Calls Try.prog 60 #[.slice a1 len1 cap1, .slice a2 len2 cap2] w fun e w' => e = .returned (.int .i64 (cmpR as1 as2)) ∧ Grew w w' := by
  go_enter Try.func60, Try.ntmps60
  go_wp2_with fail
  refine (func_grew _ _ _ as1 _ _ _ as2 _ h1 h2 q1 q2).mono ?_
  rintro e w1 ⟨rfl, hb⟩
  go_wp2_with fail
  go_ret
  exact ⟨rfl, hb⟩


set_option maxHeartbeats 1000000 in
theorem cmp_ents (ra : Option Addr) (rl rc : Nat) (r : List V) (n : Int) (rb : Option Addr) (rl2 rc2 : Nat) (r2 : List V) (n2 : Int) (w : World) (h1 : IsVals w ra rl r) (h2 : IsVals w rb rl2 r2)
    (q1 : rl ≤ 9223372036854775807) (q2 : rl2 ≤ 9223372036854775807) :
    Calls Try.prog 49 #[.agg #[.slice ra rl rc, .int .i64 n], .agg #[.slice rb rl2 rc2, .int .i64 n2]] w fun e w' => e = .returned (.int .i64 (cmpR r r2)) ∧ Grew w w' := by
  have C := Lib.hid (fun W (h : Below w.heap.size w W) => rows_grew ra rl rc r rb rl2 rc2 r2 W (h1.below h (Nat.le_refl _)) (h2.below h (Nat.le_refl _)) q1 q2)
  clear h1 h2
  go_enter Try.func49, Try.ntmps49
  go_wp2_with fail
  refine (C.out _ (((Below.refl _ _).alloc (Nat.le_refl _) _).alloc (by simp) _)).mono ?_
  rintro e w1 ⟨rfl, hb⟩
  go_wp2_with fail
  go_ret
  exact ⟨rfl, (((Grew.refl _).alloc _).alloc _).trans hb⟩

end Go.Proofs.Ytdhhhmehkldliaa
