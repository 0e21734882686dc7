/-
  The offset at an instant, of zone and of its reference.
-/
import Derived.Test.YtfknoclmpdnkdaaZRVal
import Derived.Test.YtfknoclmpdnkdaaZSearch
set_option linter.unusedVariables false
namespace Wh

/-- How many shifts there are up to the instant t. -/
def cntZ (l : List (Int × Int)) (t : Int) : Nat := l.countP fun s => decide (s.1 ≤ t)

theorem cntZ_le (l : List (Int × Int)) (t : Int) : cntZ l t ≤ l.length := List.countP_le_length

theorem cntZ_iff : ∀ {l : List (Int × Int)} (_ : l.Pairwise fun s u => s.1 < u.1) (t : Int) (k : Nat) (s : Int × Int), l[k]? = some s → (t < s.1 ↔ cntZ l t ≤ k)
  | [], _, t, k, s, h => by simp at h
  | x :: l, hp, t, k, s, h => by
    obtain ⟨hp1, hp2⟩ := List.pairwise_cons.1 hp
    unfold cntZ
    rw [List.countP_cons]
    by_cases hx : x.1 ≤ t
    · rw [if_pos (by simpa using hx)]
      cases k with
      | zero => simp at h; subst h; omega
      | succ k =>
        have := cntZ_iff hp2 t k s (by simpa using h)
        unfold cntZ at this
        omega
    · rw [if_neg (by simpa using hx)]
      have h0 : l.countP (fun s => decide (s.1 ≤ t)) = 0 := by
        rw [List.countP_eq_zero]
        intro u hu
        have := hp1 u hu
        simp
        omega
      rw [h0]
      cases k with
      | zero => simp at h; subst h; omega
      | succ k =>
        have := hp1 s (List.mem_of_getElem? (by simpa using h))
        omega

theorem offZ_cnt : ∀ {l : List (Int × Int)} (_ : l.Pairwise fun s u => s.1 < u.1) (o t : Int), offZ o l t = match cntZ l t with | 0 => o | k + 1 => ((l[k]?).map (·.2)).getD 0
  | [], _, o, t => rfl
  | x :: l, hp, o, t => by
    obtain ⟨hp1, hp2⟩ := List.pairwise_cons.1 hp
    show offZ (if x.1 ≤ t then x.2 else o) l t = _
    rw [offZ_cnt hp2]
    unfold cntZ
    rw [List.countP_cons]
    by_cases hx : x.1 ≤ t
    · rw [if_pos hx, if_pos (by simpa using hx)]
      cases hc : l.countP (fun s => decide (s.1 ≤ t)) with
      | zero => simp
      | succ k => simp
    · rw [if_neg hx, if_neg (by simpa using hx)]
      have h0 : l.countP (fun s => decide (s.1 ≤ t)) = 0 := by
        rw [List.countP_eq_zero]
        intro u hu
        have := hp1 u hu
        simp
        omega
      rw [h0]

end Wh
namespace Go.Proofs.Ytfknoclmpdnkdaa
open Go.RowKit Wh

theorem roffset_any (nm : ByteArray) (o : Int) (a : Option Addr) (len cap : Nat) (l : List (Int × Int)) (t : Int) (w : World) (hs : IsShifts w a len l) (hl : len ≤ 9223372036854775807) :
    Calls Try.prog 28 #[zoneV nm o a len cap, .int .i64 t] w fun e w' => e = .returned (.int .i64 (offZ o l t)) ∧ Below w.heap.size w w' := by
  have HS := Lib.hid hs
  have HL := Lib.hid hs.1
  clear hs
  go_enter Try.func28, Try.ntmps28
  go_wp2_with fail
  go_loopw [5, 6] (fun ov iv wr => ∃ k : Nat, k ≤ len ∧ iv = .int .i64 k ∧ ov = .int .i64 (offZ o (l.take k) t) ∧
      Below (w.heap.size + 1) (w.alloc (.cells #[.string nm, .int .i64 o, .slice a len cap] 24)) wr) (fun _ i _ => len - (intOf i).toNat)
  case atStart => exact ⟨0, Nat.zero_le _, rfl, rfl, Below.refl _ _⟩
  case round =>
    obtain ⟨k, hk, rfl, rfl, hbel⟩ := hrel
    obtain ⟨z0, z1, z2, hsz, hbw⟩ := box_cells hbel
    have HB := Lib.hid hbel
    clear hbel
    by_cases hlt : k < len
    · obtain ⟨s, b, off, hx, rfl, hbl, hc0, hc1⟩ := (HS.out.below hbw (Nat.le_refl _)).at hlt
      have HN := Lib.hid (offZ_next hx o t)
      obtain ⟨s1, s2⟩ := s
      simp only at hc0 hc1
      clear hx
      generalize offZ o (l.take k) t = q at *
      by_cases hst : s1 ≤ t
      · have HR : Hid (offZ o (l.take (k + 1)) t = s2) := by show _ = _; rw [HN.out, if_pos hst]
        go_wp2_with fail
        go_roundw
        case rel => exact ⟨k + 1, by omega, by go_num, by rw [HR.out], HB.out⟩
        case measure => simp [intOf]; omega
      · have HR : Hid (offZ o (l.take (k + 1)) t = q) := by show _ = _; rw [HN.out, if_neg hst]
        go_wp2_with fail
        go_roundw
        case rel => exact ⟨k + 1, by omega, by go_num, by rw [HR.out], HB.out⟩
        case measure => simp [intOf]; omega
    · obtain rfl : k = len := by omega
      have e : offZ o (l.take k) t = offZ o l t := by rw [← HL.out, List.take_length]
      generalize offZ o (l.take k) t = q at *
      have HE := Lib.hid e
      clear e
      go_wp2_with fail
      go_ret
      exact ⟨ret_int HE.out, hbw⟩

/-- The function that the search is given: is the shift i later than t? -/
theorem later_any (bz bt : Nat) (a : Option Addr) (len cap : Nat) (l : List (Int × Int)) (t : Int) (i : Nat) (s : Int × Int) (W : World) (hx : l[i]? = some s) (hl : len ≤ 9223372036854775807)
    (hz : W.cell? ⟨bz, 2, none⟩ = some (.slice a len cap)) (ht : W.cell? ⟨bt, 0, none⟩ = some (.int .i64 t)) (hs : IsShifts W a len l) :
    Calls Try.prog 34 (#[.int .i64 i] ++ #[.pointer (some ⟨bz, 0, none⟩), .pointer (some ⟨bt, 0, none⟩)]) W fun e w' => e = .returned (.bool (decide (t < s.1))) ∧ Below W.heap.size W w' := by
  have hi : i < len := by have := hs.1; have := (List.getElem?_eq_some_iff.1 hx).1; omega
  obtain ⟨s', b, off, hx', rfl, hbl, hc0, hc1⟩ := hs.at hi
  obtain rfl : s' = s := by rw [hx] at hx'; exact (Option.some.inj hx').symm
  obtain ⟨s1, s2⟩ := s'
  simp only at hc0
  have hiz : (i : Int) < (len : Int) := by omega
  clear hx hx' hs hc1
  go_enter Try.func34, Try.ntmps34
  go_wp2_with fail
  go_quiet (fail)
  go_wp2_with fail
  go_ret
  exact ⟨rfl, Below.drewN' (Below.refl _ _) _⟩

theorem offsetAt_any (nm : ByteArray) (o : Int) (a : Option Addr) (len cap : Nat) (l : List (Int × Int)) (t : Int) (w : World) (hs : IsShifts w a len l) (hl : len ≤ 4611686018427387903)
    (hp : l.Pairwise fun s u => s.1 < u.1) :
    Calls Try.prog 26 #[zoneV nm o a len cap, .int .i64 t] w fun e w' => e = .returned (.int .i64 (offZ o l t)) ∧ Below w.heap.size w w' := by
  obtain ⟨W0, hW0⟩ : ∃ W0, W0 = (w.alloc (.cells #[.string nm, .int .i64 o, .slice a len cap] 24)).alloc (.cells #[.int .i64 t] 3) := ⟨_, rfl⟩
  have hsz : W0.heap.size = w.heap.size + 1 + 1 := by rw [hW0]; simp
  have e0 : W0.heap[w.heap.size]? = some (.cells #[.string nm, .int .i64 o, .slice a len cap] 24) := by
    rw [hW0, Below.heap_alloc _ _ _ (by simp)]
    exact heap_alloc_new w _
  have e1 : W0.heap[w.heap.size + 1]? = some (.cells #[.int .i64 t] 3) := by
    have := heap_alloc_new (w.alloc (.cells #[.string nm, .int .i64 o, .slice a len cap] 24)) (.cells #[.int .i64 t] 3)
    rw [World.size_alloc] at this
    rw [hW0]
    exact this
  have hB0 : Below w.heap.size w W0 := by rw [hW0]; exact ((Below.refl _ w).alloc (Nat.le_refl _) _).alloc (by simp) _
  have c1 : W0.cell? ⟨w.heap.size, 1, none⟩ = some (.int .i64 o) := cell_of_row _ _ 1 _ _ _ e0
  have c2 : W0.cell? ⟨w.heap.size, 2, none⟩ = some (.slice a len cap) := cell_of_row _ _ 2 _ _ _ e0
  have c3 : W0.cell? ⟨w.heap.size + 1, 0, none⟩ = some (.int .i64 t) := cell_of_row _ _ 0 _ _ _ e1
  have eg : ∀ args W, (callFunc 34 args).run Try.prog W = .ok (.enter 34 args) W := Go.Proofs.enters_of Try.func34 (by kernel_rfl) rfl
  have hS := search_any 34 #[.pointer (some ⟨w.heap.size, 0, none⟩), .pointer (some ⟨w.heap.size + 1, 0, none⟩)] len (cntZ l t) (fun i => decide (cntZ l t ≤ i)) W0 eg (by omega)
    (fun W i hb hi => by
      obtain ⟨s, hx⟩ : ∃ s, l[i]? = some s := ⟨_, List.getElem?_eq_getElem (by have := hs.1; omega)⟩
      have := later_any w.heap.size (w.heap.size + 1) a len cap l t i s W hx (by omega) (by rw [(bcell hb).1 _ _ (by omega)]; exact c2) (by rw [(bcell hb).1 _ _ (by omega)]; exact c3)
        ((hs.below hB0 (Nat.le_refl _)).below hb (Nat.le_refl _))
      rw [decide_eq_decide.2 (cntZ_iff hp t i s hx)] at this
      exact this)
    (by have := cntZ_le l t; have := hs.1; omega) (fun i _ => by simp)
  have ho := offZ_cnt hp o t
  have hcl := cntZ_le l t
  have hlen := hs.1
  have HS := Lib.hid hs
  generalize cntZ l t = c at *
  generalize hq : offZ o l t = q at *
  clear hs hq hp
  have HO := Lib.hid ho
  have HC1 := Lib.hid c1
  have HC2 := Lib.hid c2
  have H := Lib.hid hS
  clear ho c1 c2 c3 e0 e1 eg hS
  cases c with
  | zero =>
    go_enter Try.func26, Try.ntmps26
    go_wp2_with (go_at_call 33; rw [← hW0]; refine H.out.mono ?_; rintro e w' ⟨rfl, hb⟩; have d1 := (bcell hb).1 w.heap.size 1 (by omega); rw [HC1.out] at d1)
    go_ret
    exact ⟨ret_int HO.out.symm, hB0.trans (hb.mono (by omega))⟩
  | succ k =>
    go_enter Try.func26, Try.ntmps26
    go_wp2_with (go_at_call 33; rw [← hW0]; refine H.out.mono ?_; rintro e w' ⟨rfl, hb⟩; have d1 := (bcell hb).1 w.heap.size 2 (by omega); rw [HC2.out] at d1; obtain ⟨s, b, off, hx, rfl, hbl, hc0, hc1⟩ := ((HS.out.below hB0 (Nat.le_refl _)).below hb (Nat.le_refl _)).at (show k < len by omega))
    go_ret
    have := HO.out
    rw [hx] at this
    exact ⟨ret_int this.symm, hB0.trans (hb.mono (by omega))⟩

end Go.Proofs.Ytfknoclmpdnkdaa
