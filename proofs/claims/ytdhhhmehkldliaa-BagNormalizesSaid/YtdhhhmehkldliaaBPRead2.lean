/-
  More of the program's functions that only read bags: Size, Count, validateBoth, IndexFunc, ContainsFunc, IsTable.
-/
import Derived.Test.YtdhhhmehkldliaaBPRead
import Derived.Shelf.Abstract
set_option linter.unusedVariables false
set_option maxRecDepth 100000
namespace Wh

/-- The first place at which p holds of the count, or -1. -/
def FirstP (p : Int → Bool) (es : List En) (z : Int) : Prop := (z = -1 ∧ ∀ e ∈ es, p e.cnt = false) ∨ ∃ (i : Nat) (e : En), z = i ∧ es[i]? = some e ∧ p e.cnt = true ∧ ∀ x ∈ es.take i, p x.cnt = false
def anyP (p : Int → Bool) (es : List En) : Bool := es.any fun e => p e.cnt
theorem firstP_any {p : Int → Bool} {es : List En} {z : Int} (h : FirstP p es z) : decide (0 ≤ z) = anyP p es := by
  unfold anyP
  rcases h with ⟨rfl, h⟩ | ⟨i, e, rfl, h1, h2, _⟩
  · rw [List.any_eq_false.2 (by simpa using h)]; decide
  · rw [List.any_eq_true.2 ⟨e, List.mem_of_getElem? h1, h2⟩]; simp
theorem firstP_lo {p : Int → Bool} {es : List En} {z : Int} (h : FirstP p es z) : -1 ≤ z := by
  rcases h with ⟨rfl, _⟩ | ⟨i, e, rfl, _⟩ <;> omega
theorem posB_any {es : List En} (h : ∀ e ∈ es, ¬ e.cnt = 0) : posB es = !anyP (fun n => decide (n < 0)) es := by
  unfold posB anyP
  induction es with
  | nil => rfl
  | cons e es ih =>
    have h0 := h e List.mem_cons_self
    rw [List.all_cons, List.any_cons, ih fun x hx => h x (List.mem_cons_of_mem _ hx), Bool.not_or]
    congr 1
    show decide (0 < e.cnt) = !decide (e.cnt < 0)
    by_cases h1 : e.cnt < 0
    · rw [decide_eq_true h1, decide_eq_false (by omega)]; rfl
    · rw [decide_eq_false h1, decide_eq_true (by omega)]; rfl

end Wh
namespace Go.Proofs.Ytdhhhmehkldliaa
open Go.RowKit Wh

set_option maxHeartbeats 2000000

theorem both_any (a : Option Addr) (len cap : Nat) (es : List En) (a2 : Option Addr) (len2 cap2 : Nat) (fs : List En) (w : World) (hs : IsEnts w a len es) (hl : len ≤ 9223372036854775807) (hs2 : IsEnts w a2 len2 fs) (hl2 : len2 ≤ 9223372036854775807) :
    Calls Try.prog 61 #[.slice a len cap, .slice a2 len2 cap2] w fun e w' => e = .returned (.int .i64 (twoE es fs)) ∧ Below w.heap.size w w' := by
  have c1 := validate_any6 a len cap es w hs hl
  have c2 := fun W (h : Below w.heap.size w W) => validate_any6 a2 len2 cap2 fs W (hs2.below h (Nat.le_refl _)) hl2
  unfold twoE
  generalize bagE es = z at *
  generalize bagE fs = y at *
  have C1 := Lib.hid c1
  have C2 := Lib.hid c2
  clear c1 c2 hs hs2
  by_cases hz : z = 0
  · rw [if_pos hz]
    subst hz
    go_enter Try.func61, Try.ntmps61
    go_wp2_with fail
    refine C1.out.mono ?_
    rintro e w1 ⟨rfl, hb⟩
    go_wp2_with fail
    refine (C2.out _ hb).mono ?_
    rintro e w2 ⟨rfl, hb2⟩
    go_wp2_with fail
    go_ret
    exact ⟨rfl, hb.trans (hb2.mono hb.size)⟩
  · rw [if_neg hz]
    have hz0 : (z == 0) = false := by simpa using hz
    clear hz
    go_enter Try.func61, Try.ntmps61
    go_wp2_with fail
    refine C1.out.mono ?_
    rintro e w1 ⟨rfl, hb⟩
    go_wp2_with fail
    go_ret
    exact ⟨rfl, hb⟩

theorem size_any6 (a : Option Addr) (len cap : Nat) (es : List En) (w : World) (hs : IsEnts w a len es) (hl : len ≤ 9223372036854775807) :
    Calls Try.prog 15 #[.slice a len cap] w fun e w' => e = .returned (.tuple #[.int .i64 (sizeZ es), .int .i64 (bagE es)]) ∧ Below w.heap.size w w' := by
  have c1 := validate_any6 a len cap es w hs hl
  by_cases hz : bagE es = 0
  · have ok := bagE_zero.1 hz
    rw [show sizeZ es = sumC es by unfold sizeZ; rw [if_pos hz]]
    rw [hz] at c1 ⊢
    have hln := hs.1
    have hbd : ∀ k, -268435456 ≤ sumC (es.take k) ∧ sumC (es.take k) ≤ 268435456 := fun k => by
      have h1 := sumC_bd (es := es.take k) fun e he => by
        have := fitE_zero (ok.fit e (List.mem_of_mem_take he))
        exact ⟨this.2.1, this.2.2.1⟩
      have h2 := ok.len
      have h3 : (es.take k).length ≤ es.length := by rw [List.length_take]; omega
      omega
    have hend : es.take len = es := List.take_of_length_le (by omega)
    have HBD := Lib.hid hbd
    have HEND := Lib.hid hend
    have HS := Lib.hid hs
    have C1 := Lib.hid c1
    clear c1 hz ok hs hln hbd hend
    go_enter Try.func15, Try.ntmps15
    go_wp2_with (first | (go_at_call 17; refine C1.out.mono ?_; rintro e w1 ⟨rfl, hb⟩))
    go_loopw [5, 15] (fun nv iv wr => ∃ k : Nat, k ≤ len ∧ iv = .int .i64 k ∧ nv = .int .i64 (sumC (es.take k)) ∧ Below w.heap.size w wr) (fun _ i _ => len - (intOf i).toNat)
    case atStart => exact ⟨0, Nat.zero_le _, rfl, by simp [sumC], hb⟩
    case round =>
      obtain ⟨k, hk, rfl, rfl, hbel⟩ := hrel
      have hsz := hbel.size
      by_cases hlt : k < len
      · obtain ⟨r, n, ra, rl, rc, b, off, hx, rfl, hbl, c0, c1, hv, g1, g2, g3⟩ := (HS.out.below hbel (Nat.le_refl _)).at hlt
        have hN := sumC_next hx
        have h1 := HBD.out (k + 1)
        rw [hN] at h1
        have HN := Lib.hid hN
        simp only at h1
        obtain ⟨h1a, h1b⟩ := h1
        generalize sumC (es.take k) = s at *
        clear hx hN hv
        go_wp2_with fail
        go_roundw
        case rel => exact ⟨k + 1, by omega, by go_num, by rw [HN.out], hbel.alloc hsz _⟩
        case measure => simp [intOf]; omega
      · obtain rfl : k = len := by omega
        have hS : Hid (sumC es = sumC (es.take k)) := by show _ = _; rw [HEND.out]
        go_wp2_with fail
        go_ret2
        exact ⟨by rw [hS.out]; rfl, hbel⟩
  · rw [show sizeZ es = 0 by unfold sizeZ; rw [if_neg hz]]
    generalize bagE es = z at *
    have hz0 : (z == 0) = false := by simpa using hz
    have C1 := Lib.hid c1
    clear c1 hs hz
    go_enter Try.func15, Try.ntmps15
    go_wp2_with (first | (go_at_call 17; refine C1.out.mono ?_; rintro e w1 ⟨rfl, hb⟩))
    go_ret2
    exact ⟨rfl, hb⟩

theorem count_any (a : Option Addr) (len cap : Nat) (es : List En) (ra : Option Addr) (rl rc : Nat) (r : List V) (w : World) (hs : IsEnts w a len es) (hl : len ≤ 9223372036854775807) (hr : IsVals w ra rl r) (hrl : rl ≤ 9223372036854775807) :
    Calls Try.prog 26 #[.slice a len cap, .slice ra rl rc] w fun e w' => e = .returned (.int .i64 (firstC es r)) ∧ Below w.heap.size w w' := by
  generalize hE : firstC es r = E
  have HE := Lib.hid hE
  have HS := Lib.hid hs
  have HR := Lib.hid hr
  clear hE hs hr
  go_enter Try.func26, Try.ntmps26
  go_wp2_with fail
  go_loopw [9] (fun iv wr => ∃ k : Nat, k ≤ len ∧ iv = .int .i64 k ∧ Hid (firstC (es.drop k) r = E) ∧ Below w.heap.size w wr) (fun i _ => len - (intOf i).toNat)
  case atStart => exact ⟨0, Nat.zero_le _, rfl, HE.out, Below.refl _ _⟩
  case round =>
    obtain ⟨k, hk, rfl, HG, hbel⟩ := hrel
    have hsz := hbel.size
    by_cases hlt : k < len
    · obtain ⟨r1, n, ra1, rl1, rc1, b, off, hx, rfl, hbl, c0, c1, hv, g1, g2, g3⟩ := (HS.out.below hbel (Nat.le_refl _)).at hlt
      have HN := Lib.hid (firstC_next hx r)
      simp only at HN
      have bx := ebox wr (.slice ra1 rl1 rc1) n 30
      have hW1 : Below wr.heap.size wr (wr.alloc (.cells #[.slice ra1 rl1 rc1, .int .i64 n] 30)) := (Below.refl _ _).alloc (Nat.le_refl _) _
      have hW1s : (wr.alloc (.cells #[.slice ra1 rl1 rc1, .int .i64 n] 30)).heap.size = wr.heap.size + 1 := by simp
      have CS := Lib.hid (rows_grew ra1 rl1 rc1 r1 ra rl rc r _ (hv.below hW1 (Nat.le_refl _)) (HR.out.below (hbel.trans (hW1.mono hsz)) (Nat.le_refl _)) (by have : maxLen = 9223372036854775807 := rfl; omega) hrl)
      generalize hcc : cmpR r1 r = c at *
      by_cases hc : c = 0
      · have HR2 : Hid (E = n) := by show _ = _; rw [← HG.out, HN.out, if_pos hc]
        subst hc
        clear HN HG hx hv hcc
        go_wp2_with (first | (go_at_call 60; refine CS.out.mono ?_; rintro e w1 ⟨rfl, hb⟩; have hb := hb.1; have e1 := (bcell hb).1; have x0 := (e1 wr.heap.size 0 (by omega)).trans bx.1; have x1 := (e1 wr.heap.size 1 (by omega)).trans bx.2))
        go_ret
        exact ⟨ret_int HR2.out.symm, hbel.trans ((hW1.trans (hb.mono (by omega))).mono hsz)⟩
      · have HR2 : Hid (firstC (es.drop (k + 1)) r = E) := by show _ = _; rw [← HG.out, HN.out, if_neg hc]
        have hc0 : (c == 0) = false := by simpa using hc
        clear HN HG hx hv hc hcc
        go_wp2_with (first | (go_at_call 60; refine CS.out.mono ?_; rintro e w1 ⟨rfl, hb⟩; have hb := hb.1))
        go_roundw
        case rel => exact ⟨k + 1, by omega, by go_num, HR2, hbel.trans ((hW1.trans (hb.mono (by omega))).mono hsz)⟩
        case measure => simp [intOf]; omega
    · have HR2 : Hid (E = 0) := by show _ = _; rw [← HG.out, List.drop_of_length_le (by have := HS.out.1; omega)]; rfl
      clear HG
      go_wp2_with fail
      go_ret
      exact ⟨ret_int HR2.out.symm, hbel⟩

/-- A function value that says something of an entry's count. -/
structure PredE (g : Nat) (cb : Array Value) (p : Int → Bool) : Prop where
  eg : ∀ args W, (callFunc g args).run Try.prog W = .ok (.enter g args) W
  says : ∀ (a : Option Addr) (m c : Nat) (n : Int) (W : World), Calls Try.prog g (#[.agg #[.slice a m c, .int .i64 n]] ++ cb) W fun e w' => e = .returned (.bool (p n)) ∧ Below W.heap.size W w'

theorem pred_neg : PredE 52 #[] (fun n => decide (n < 0)) := ⟨enters_of Try.func52 (by kernel_rfl) rfl, fun a m c n W => isneg_any _ n W ⟨a, m, c, rfl⟩⟩
theorem pred_zero : PredE 80 #[] (fun n => decide (n = 0)) := ⟨enters_of Try.func80 (by kernel_rfl) rfl, fun a m c n W => iszero_any _ n W ⟨a, m, c, rfl⟩⟩

theorem index_any6 (g : Nat) (cb : Array Value) (p : Int → Bool) (hp : PredE g cb p) (a : Option Addr) (len cap : Nat) (es : List En) (w : World) (hs : IsEnts w a len es) (hl : len ≤ 9223372036854775807) :
    Calls Try.prog 77 #[.slice a len cap, .func (.func g) #[] cb] w fun e w' => ∃ z, e = .returned (.int .i64 z) ∧ FirstP p es z ∧ Below w.heap.size w w' := by
  obtain ⟨eg, hp⟩ := hp
  have HP := Lib.hid hp
  have HS := Lib.hid hs
  clear hp hs
  go_enter Try.func77, Try.ntmps77
  go_wp2_with fail
  go_loopw [8] (fun iv wr => ∃ k : Nat, k ≤ len ∧ iv = .int .i64 k ∧ Hid (∀ x ∈ es.take k, p x.cnt = false) ∧ Below w.heap.size w wr) (fun i _ => len - (intOf i).toNat)
  case atStart => exact ⟨0, Nat.zero_le _, rfl, fun x hx => (by simp at hx), Below.refl _ _⟩
  case round =>
    obtain ⟨k, hk, rfl, HI, hbel⟩ := hrel
    have hsz := hbel.size
    by_cases hlt : k < len
    · obtain ⟨r, n, ra, rl, rc, b, off, hx, rfl, hbl, c0, c1, hv, g1, g2, g3⟩ := (HS.out.below hbel (Nat.le_refl _)).at hlt
      have hc := HP.out ra rl rc n wr
      have HX := Lib.hid hx
      clear hx hv
      cases hpn : p n with
      | true =>
        have HE : Hid (FirstP p es k) := .inr ⟨k, _, rfl, HX.out, hpn, HI.out⟩
        rw [hpn] at hc
        clear hpn
        go_wp2_with (refine hc.mono ?_; rintro e w' ⟨rfl, hb⟩)
        go_ret
        exact ⟨_, rfl, HE.out, hbel.trans (hb.mono hsz)⟩
      | false =>
        have HI2 : Hid (∀ x ∈ es.take (k + 1), p x.cnt = false) := fun x hxm => by
          rw [List.take_add_one, HX.out] at hxm
          rcases List.mem_append.1 hxm with hxm | hxm
          · exact HI.out x hxm
          · simp at hxm
            rw [hxm]
            exact hpn
        rw [hpn] at hc
        clear hpn HI
        go_wp2_with (refine hc.mono ?_; rintro e w' ⟨rfl, hb⟩)
        go_roundw
        case rel => exact ⟨k + 1, by omega, by go_num, HI2, hbel.trans (hb.mono hsz)⟩
        case measure => simp [intOf]; omega
    · have HE : Hid (FirstP p es (-1)) := .inl ⟨rfl, fun e he => HI.out e (by rw [List.take_of_length_le (by have := HS.out.1; omega)]; exact he)⟩
      go_wp2_with fail
      go_ret
      exact ⟨_, rfl, HE.out, hbel⟩

theorem contains_any6 (g : Nat) (cb : Array Value) (p : Int → Bool) (hp : PredE g cb p) (a : Option Addr) (len cap : Nat) (es : List En) (w : World) (hs : IsEnts w a len es) (hl : len ≤ 9223372036854775807) :
    Calls Try.prog 51 #[.slice a len cap, .func (.func g) #[] cb] w fun e w' => e = .returned (.bool (anyP p es)) ∧ Below w.heap.size w w' := by
  have C := Lib.hid (index_any6 g cb p hp a len cap es w hs hl)
  clear hp hs
  go_enter Try.func51, Try.ntmps51
  go_wp2_with fail
  refine C.out.mono ?_
  rintro e w1 ⟨z, rfl, hz, hb⟩
  have hd := firstP_any hz
  have HD := Lib.hid hd
  clear hz hd
  go_wp2_with fail
  go_ret
  exact ⟨ret_bool HD.out, hb⟩

theorem istable_any (a : Option Addr) (len cap : Nat) (es : List En) (w : World) (hs : IsEnts w a len es) (hl : len ≤ 9223372036854775807) :
    Calls Try.prog 19 #[.slice a len cap] w fun e w' => e = .returned (.bool (tableB es)) ∧ Below w.heap.size w w' := by
  have c1 := validate_any6 a len cap es w hs hl
  have C2 := Lib.hid (fun W (h : Below w.heap.size w W) => contains_any6 _ _ _ pred_neg a len cap es W (hs.below h (Nat.le_refl _)) hl)
  by_cases hz : bagE es = 0
  · have ok := bagE_zero.1 hz
    have ht : tableB es = !anyP (fun n => decide (n < 0)) es := by unfold tableB; rw [decide_eq_true hz, Bool.true_and, posB_any ok.bag.nz]
    rw [ht]
    rw [hz] at c1
    generalize anyP (fun n => decide (n < 0)) es = b at *
    have C1 := Lib.hid c1
    clear c1 hs hz ok ht
    go_enter Try.func19, Try.ntmps19
    go_wp2_with fail
    refine C1.out.mono ?_
    rintro e w1 ⟨rfl, hb⟩
    go_wp2_with fail
    refine (C2.out _ hb).mono ?_
    rintro e w2 ⟨rfl, hb2⟩
    go_wp2_with fail
    go_ret
    exact ⟨rfl, hb.trans (hb2.mono hb.size)⟩
  · have ht : tableB es = false := by unfold tableB; rw [decide_eq_false hz, Bool.false_and]
    rw [ht]
    generalize bagE es = z at *
    have hz0 : (z == 0) = false := by simpa using hz
    have C1 := Lib.hid c1
    clear c1 hs hz ht C2
    go_enter Try.func19, Try.ntmps19
    go_wp2_with fail
    refine C1.out.mono ?_
    rintro e w1 ⟨rfl, hb⟩
    go_wp2_with fail
    go_ret
    exact ⟨rfl, hb⟩

end Go.Proofs.Ytdhhhmehkldliaa
