/-
  Same of schema and of its reference, Equal of the reference, ints of the laws.
-/
import Derived.Test.YtdlkkajkflebgaaSInts
import Derived.Test.YtdlkkajkflebgaaSLeaf
import Derived.Laws.StructEq
import Derived.BigQuiet
set_option linter.unusedVariables false
namespace Wh
open Go

/-- Have two columns the same name and kind? Are they the same? -/
def samC (c d : C) : Bool := eqS c.nm d.nm && decide (c.k = d.k)
def eqC (c d : C) : Bool := eqS c.nm d.nm && decide (c.k = d.k) && (c.nu == d.nu)

/-- Do two lists have the same length, and does p hold in each place? -/
def allL {α : Type} (p : α → α → Bool) : List α → List α → Bool
  | [], [] => true
  | c :: cs, d :: ds => p c d && allL p cs ds
  | _, _ => false

theorem allL_no {α : Type} {p : α → α → Bool} : ∀ {cs ds : List α} {k : Nat} {c d : α}, cs[k]? = some c → ds[k]? = some d → p c d = false → allL p cs ds = false
  | [], _, k, c, d, h1, _, _ => by simp at h1
  | _ :: _, [], k, c, d, _, h2, _ => by simp at h2
  | x :: cs, y :: ds, 0, c, d, h1, h2, hp => by
    simp at h1 h2
    subst h1 h2
    simp [allL, hp]
  | x :: cs, y :: ds, k + 1, c, d, h1, h2, hp => by
    simp only [List.getElem?_cons_succ] at h1 h2
    simp [allL, allL_no h1 h2 hp]
theorem allL_yes {α : Type} {p : α → α → Bool} : ∀ {cs ds : List α}, cs.length = ds.length → (∀ (k : Nat) c d, cs[k]? = some c → ds[k]? = some d → p c d = true) → allL p cs ds = true
  | [], [], _, _ => rfl
  | [], _ :: _, hl, _ => by simp at hl
  | _ :: _, [], hl, _ => by simp at hl
  | x :: cs, y :: ds, hl, h => by
    have h0 := h 0 x y rfl rfl
    have hr := allL_yes (cs := cs) (ds := ds) (p := p) (by simpa using hl) fun k c d h1 h2 => h (k + 1) c d (by simpa using h1) (by simpa using h2)
    simp [allL, h0, hr]
theorem allL_len {α : Type} {p : α → α → Bool} : ∀ {cs ds : List α}, ¬ cs.length = ds.length → allL p cs ds = false
  | [], [], h => by simp at h
  | [], _ :: _, _ => rfl
  | _ :: _, [], _ => rfl
  | x :: cs, y :: ds, h => by
    have := allL_len (p := p) (cs := cs) (ds := ds) (by simpa using h)
    simp [allL, this]
theorem allL_refl {α : Type} {p : α → α → Bool} (cs : List α) (hp : ∀ c, p c c = true) : allL p cs cs = true :=
  allL_yes rfl fun k c d h1 h2 => by rw [h1] at h2; cases h2; exact hp c
theorem eqC_refl (c : C) : eqC c c = true := by simp [eqC, eqS_refl]
theorem samC_refl (c : C) : samC c c = true := by simp [samC, eqS_refl]

theorem eqC_cases {c d : C} (h : eqC c d = false) : eqS c.nm d.nm = false ∨ (eqS c.nm d.nm = true ∧ ¬ c.k = d.k) ∨ (eqS c.nm d.nm = true ∧ c.k = d.k ∧ c.nu = !d.nu) := by
  unfold eqC at h
  cases h1 : eqS c.nm d.nm with
  | false => exact .inl rfl
  | true =>
    by_cases h2 : c.k = d.k
    · refine .inr (.inr ⟨rfl, h2, ?_⟩)
      rw [h1, decide_eq_true h2] at h
      cases hc : c.nu <;> cases hd : d.nu <;> simp_all
    · exact .inr (.inl ⟨rfl, h2⟩)
theorem samC_cases {c d : C} (h : samC c d = false) : eqS c.nm d.nm = false ∨ (eqS c.nm d.nm = true ∧ ¬ c.k = d.k) := by
  unfold samC at h
  cases h1 : eqS c.nm d.nm with
  | false => exact .inl rfl
  | true =>
    refine .inr ⟨rfl, fun h2 => ?_⟩
    rw [h1, decide_eq_true h2] at h
    cases h

end Wh
namespace Go.Proofs.Ytdlkkajkflebgaa
open Go.RowKit Wh

theorem ints_any (a1 : Option Addr) (len1 cap1 : Nat) (xs : List Int) (a2 : Option Addr) (len2 cap2 : Nat) (ys : List Int) (w : World) (h1 : IsInts w a1 len1 xs) (h2 : IsInts w a2 len2 ys)
    (q1 : len1 ≤ 9223372036854775807) (q2 : len2 ≤ 9223372036854775807) :
    Calls Try.prog 27 #[.slice a1 len1 cap1, .slice a2 len2 cap2] w fun e w' => e = .returned (.bool (allL (fun x y => decide (x = y)) xs ys)) ∧ Below w.heap.size w w' := by
  have NO := Lib.hid (fun (k : Nat) (x y : Int) hx hy (hn : ¬ x = y) => allL_no (p := fun x y : Int => decide (x = y)) (cs := xs) (ds := ys) (k := k) (c := x) (d := y) hx hy (decide_eq_false hn))
  have YE := Lib.hid (fun hl (h : ∀ (k : Nat) (x y : Int), xs[k]? = some x → ys[k]? = some y → x = y) => allL_yes (p := fun x y : Int => decide (x = y)) (cs := xs) (ds := ys) hl fun k x y hx hy => decide_eq_true (h k x y hx hy))
  have NL := Lib.hid (fun hl => allL_len (p := fun x y : Int => decide (x = y)) (cs := xs) (ds := ys) hl)
  generalize allL (fun x y => decide (x = y)) xs ys = E at *
  have H1 := Lib.hid h1
  have H2 := Lib.hid h2
  have hl1 := h1.1
  have hl2 := h2.1
  clear h1 h2
  by_cases hl : len1 = len2
  · subst hl
    clear hl1 hl2
    go_enter Try.func27, Try.ntmps27
    go_wp2_with fail
    go_loopw [5] (fun iv wr => ∃ k : Nat, k ≤ len1 ∧ iv = .int .i64 k ∧ Hid (∀ (i : Nat) (x y : Int), i < k → xs[i]? = some x → ys[i]? = some y → x = y) ∧ Below w.heap.size w wr) (fun i _ => len1 - (intOf i).toNat)
    case atStart => exact ⟨0, Nat.zero_le _, rfl, fun i x y hi => absurd hi (by omega), Below.refl _ _⟩
    case round =>
      obtain ⟨k, hk, rfl, HI, hbel⟩ := hrel
      by_cases hlt : k < len1
      · obtain ⟨x, b1, off1, hx, rfl, hbl1, c0⟩ := (H1.out.below hbel (Nat.le_refl _)).at hlt
        obtain ⟨y, b2, off2, hy, rfl, hbl2, d0⟩ := (H2.out.below hbel (Nat.le_refl _)).at hlt
        have HX := Lib.hid hx
        have HY := Lib.hid hy
        clear hx hy
        by_cases he : x = y
        · subst he
          have HI2 : Hid (∀ (i : Nat) (x y : Int), i < k + 1 → xs[i]? = some x → ys[i]? = some y → x = y) := fun i u v hi hu hv => by
            by_cases e : i = k
            · subst e
              have e1 := HX.out
              have e2 := HY.out
              rw [hu] at e1
              rw [hv] at e2
              cases e1
              cases e2
              rfl
            · exact HI.out i u v (by omega) hu hv
          clear HI NO YE NL
          go_wp2_with fail
          go_quiet (fail)
          go_wp2_with fail
          go_roundw
          case rel => exact ⟨k + 1, by omega, by go_num, HI2, below_drewN hbel _⟩
          case measure => simp [intOf]; omega
        · obtain rfl := NO.out k x y HX.out HY.out he
          clear HI NO YE NL
          go_wp2_with fail
          go_quiet (fail)
          go_wp2_with fail
          go_ret
          exact ⟨rfl, below_drewN hbel _⟩
      · obtain rfl := YE.out (by have := H1.out.1; have := H2.out.1; omega) fun i x y hx hy => HI.out i x y (by have := (List.getElem?_eq_some_iff.1 hx).1; have := H1.out.1; omega) hx hy
        clear NO YE HI NL
        go_wp2_with fail
        go_ret
        exact ⟨rfl, hbel⟩
  · obtain rfl := NL.out (by omega)
    have hn : ¬ (len1 : Int) = len2 := by omega
    clear NO YE NL hl1 hl2 H1 H2 hl
    go_enter Try.func27, Try.ntmps27
    go_wp2_with fail
    go_ret
    exact ⟨rfl, Below.refl _ _⟩


set_option maxHeartbeats 1000000 in
theorem equal_any (a1 : Option Addr) (len1 cap1 : Nat) (xs : List C) (a2 : Option Addr) (len2 cap2 : Nat) (ys : List C) (w : World) (h1 : IsCols w a1 len1 xs) (h2 : IsCols w a2 len2 ys)
    (q1 : len1 ≤ 9223372036854775807) (q2 : len2 ≤ 9223372036854775807) :
    Calls Try.prog 31 #[.slice a1 len1 cap1, .slice a2 len2 cap2] w fun e w' => e = .returned (.bool (allL eqC xs ys)) ∧ Below w.heap.size w w' := by
  have NO := Lib.hid (fun (k : Nat) (x y : C) hx hy hn => allL_no (p := eqC) (cs := xs) (ds := ys) (k := k) (c := x) (d := y) hx hy hn)
  have YE := Lib.hid (fun hl (h : ∀ (k : Nat) (x y : C), xs[k]? = some x → ys[k]? = some y → eqC x y = true) => allL_yes (p := eqC) (cs := xs) (ds := ys) hl h)
  have NL := Lib.hid (fun hl => allL_len (p := eqC) (cs := xs) (ds := ys) hl)
  generalize allL eqC xs ys = E at *
  have H1 := Lib.hid h1
  have H2 := Lib.hid h2
  have hl1 := h1.1
  have hl2 := h2.1
  clear h1 h2
  by_cases hl : len1 = len2
  · subst hl
    clear hl1 hl2
    go_enter Try.func31, Try.ntmps31
    go_wp2_with fail
    go_loopw [5] (fun iv wr => ∃ k : Nat, k ≤ len1 ∧ iv = .int .i64 k ∧ Hid (∀ (i : Nat) (x y : C), i < k → xs[i]? = some x → ys[i]? = some y → eqC x y = true) ∧ Below w.heap.size w wr) (fun i _ => len1 - (intOf i).toNat)
    case atStart => exact ⟨0, Nat.zero_le _, rfl, fun i x y hi => absurd hi (by omega), Below.refl _ _⟩
    case round =>
      obtain ⟨k, hk, rfl, HI, hbel⟩ := hrel
      have hsz := hbel.size
      by_cases hlt : k < len1
      · obtain ⟨nm1, kd1, nu1, b1, off1, hx, rfl, hbl1, c0, c1, c2⟩ := (H1.out.below hbel (Nat.le_refl _)).at hlt
        obtain ⟨nm2, kd2, nu2, b2, off2, hy, rfl, hbl2, d0, d1, d2⟩ := (H2.out.below hbel (Nat.le_refl _)).at hlt
        have HX := Lib.hid hx
        have HY := Lib.hid hy
        clear hx hy
        cases hp : eqC ⟨nm1, kd1, nu1⟩ ⟨nm2, kd2, nu2⟩ with
        | true =>
          have HI2 : Hid (∀ (i : Nat) (x y : C), i < k + 1 → xs[i]? = some x → ys[i]? = some y → eqC x y = true) := fun i u v hi hu hv => by
            by_cases e : i = k
            · subst e
              have e1 := HX.out
              have e2 := HY.out
              rw [hu] at e1
              rw [hv] at e2
              cases e1
              cases e2
              exact hp
            · exact HI.out i u v (by omega) hu hv
          simp only [eqC, Bool.and_eq_true, decide_eq_true_eq, beq_iff_eq] at hp
          obtain ⟨⟨he, rfl⟩, rfl⟩ := hp
          have hp : (nm1.toList == nm2.toList) = true := he
          have he2 := Lib.hid hp
          obtain rfl := eqS_iff.1 he
          clear HI NO YE NL hp HX HY
          go_wp2_with fail
          go_quiet (fail)
          go_wp2_with fail
          go_roundw
          case rel => exact ⟨k + 1, by omega, by go_num, HI2, below_drewN hbel _⟩
          case measure => simp [intOf]; omega
        | false =>
          obtain rfl := NO.out k _ _ HX.out HY.out hp
          clear HI NO YE NL HX HY
          rcases eqC_cases hp with he | ⟨he, hk2⟩ | ⟨he, hk2, hnu⟩
          · have he2 : (nm1.toList == nm2.toList) = false := he
            clear hp
            go_wp2_with fail
            go_quiet (fail)
            go_wp2_with fail
            go_ret
            exact ⟨rfl, below_drewN hbel _⟩
          · obtain rfl := eqS_iff.1 he
            simp only at hk2
            clear hp
            go_wp2_with fail
            go_quiet (fail)
            go_wp2_with fail
            go_ret
            exact ⟨rfl, below_drewN hbel _⟩
          · obtain rfl := eqS_iff.1 he
            simp only at hk2 hnu
            subst hk2 hnu
            cases nu2
            all_goals
              clear hp
              go_wp2_with fail
              go_quiet (fail)
              go_wp2_with fail
              go_ret
              exact ⟨rfl, below_drewN hbel _⟩

      · obtain rfl := YE.out (by have := H1.out.1; have := H2.out.1; omega) fun i x y hx hy => HI.out i x y (by have := (List.getElem?_eq_some_iff.1 hx).1; have := H1.out.1; omega) hx hy
        clear NO YE HI NL
        go_wp2_with fail
        go_ret
        exact ⟨rfl, hbel⟩
  · obtain rfl := NL.out (by omega)
    have hn : ¬ (len1 : Int) = len2 := by omega
    clear NO YE NL hl1 hl2 H1 H2 hl
    go_enter Try.func31, Try.ntmps31
    go_wp2_with fail
    go_ret
    exact ⟨rfl, Below.refl _ _⟩

set_option maxHeartbeats 1000000 in
theorem same_any5 (a1 : Option Addr) (len1 cap1 : Nat) (xs : List C) (a2 : Option Addr) (len2 cap2 : Nat) (ys : List C) (w : World) (h1 : IsCols w a1 len1 xs) (h2 : IsCols w a2 len2 ys)
    (q1 : len1 ≤ 9223372036854775807) (q2 : len2 ≤ 9223372036854775807) :
    Calls Try.prog 35 #[.slice a1 len1 cap1, .slice a2 len2 cap2] w fun e w' => e = .returned (.bool (allL samC xs ys)) ∧ Below w.heap.size w w' := by
  have NO := Lib.hid (fun (k : Nat) (x y : C) hx hy hn => allL_no (p := samC) (cs := xs) (ds := ys) (k := k) (c := x) (d := y) hx hy hn)
  have YE := Lib.hid (fun hl (h : ∀ (k : Nat) (x y : C), xs[k]? = some x → ys[k]? = some y → samC x y = true) => allL_yes (p := samC) (cs := xs) (ds := ys) hl h)
  have NL := Lib.hid (fun hl => allL_len (p := samC) (cs := xs) (ds := ys) hl)
  generalize allL samC xs ys = E at *
  have H1 := Lib.hid h1
  have H2 := Lib.hid h2
  have hl1 := h1.1
  have hl2 := h2.1
  clear h1 h2
  by_cases hl : len1 = len2
  · subst hl
    clear hl1 hl2
    go_enter Try.func35, Try.ntmps35
    go_wp2_with fail
    go_loopw [14] (fun iv wr => ∃ k : Nat, k ≤ len1 ∧ iv = .int .i64 k ∧ Hid (∀ (i : Nat) (x y : C), i < k → xs[i]? = some x → ys[i]? = some y → samC x y = true) ∧ Below w.heap.size w wr) (fun i _ => len1 - (intOf i).toNat)
    case atStart => exact ⟨0, Nat.zero_le _, rfl, fun i x y hi => absurd hi (by omega), Below.refl _ _⟩
    case round =>
      obtain ⟨k, hk, rfl, HI, hbel⟩ := hrel
      have hsz := hbel.size
      by_cases hlt : k < len1
      · obtain ⟨nm1, kd1, nu1, b1, off1, hx, rfl, hbl1, c0, c1, c2⟩ := (H1.out.below hbel (Nat.le_refl _)).at hlt
        obtain ⟨nm2, kd2, nu2, b2, off2, hy, rfl, hbl2, d0, d1, d2⟩ := (H2.out.below hbel (Nat.le_refl _)).at hlt
        have HX := Lib.hid hx
        have HY := Lib.hid hy
        clear hx hy
        cases hp : samC ⟨nm1, kd1, nu1⟩ ⟨nm2, kd2, nu2⟩ with
        | true =>
          have HI2 : Hid (∀ (i : Nat) (x y : C), i < k + 1 → xs[i]? = some x → ys[i]? = some y → samC x y = true) := fun i u v hi hu hv => by
            by_cases e : i = k
            · subst e
              have e1 := HX.out
              have e2 := HY.out
              rw [hu] at e1
              rw [hv] at e2
              cases e1
              cases e2
              exact hp
            · exact HI.out i u v (by omega) hu hv
          simp only [samC, Bool.and_eq_true, decide_eq_true_eq] at hp
          obtain ⟨he, rfl⟩ := hp
          have hp := he
          obtain rfl := eqS_iff.1 he
          clear HI NO YE NL hp HX HY
          go_wp2_with fail
          go_quiet (fail)
          go_wp2_with fail
          go_roundw
          case rel => exact ⟨k + 1, by omega, by go_num, HI2, below_drewN (hbel.alloc hsz _) _⟩
          case measure => simp [intOf]; omega
        | false =>
          obtain rfl := NO.out k _ _ HX.out HY.out hp
          clear HI NO YE NL HX HY
          rcases samC_cases hp with he | ⟨he, hk2⟩
          · have he2 : (nm1.toList == nm2.toList) = false := he
            clear hp
            go_wp2_with fail
            go_quiet (fail)
            go_wp2_with fail
            go_ret
            exact ⟨rfl, below_drewN (hbel.alloc hsz _) _⟩
          · obtain rfl := eqS_iff.1 he
            simp only at hk2
            clear hp
            go_wp2_with fail
            go_quiet (fail)
            go_wp2_with fail
            go_ret
            exact ⟨rfl, below_drewN (hbel.alloc hsz _) _⟩

      · obtain rfl := YE.out (by have := H1.out.1; have := H2.out.1; omega) fun i x y hx hy => HI.out i x y (by have := (List.getElem?_eq_some_iff.1 hx).1; have := H1.out.1; omega) hx hy
        clear NO YE HI NL
        go_wp2_with fail
        go_ret
        exact ⟨rfl, hbel⟩
  · obtain rfl := NL.out (by omega)
    have hn : ¬ (len1 : Int) = len2 := by omega
    clear NO YE NL hl1 hl2 H1 H2 hl
    go_enter Try.func35, Try.ntmps35
    go_wp2_with fail
    go_ret
    exact ⟨rfl, Below.refl _ _⟩

set_option maxHeartbeats 1000000 in
theorem rsame_any5 (a1 : Option Addr) (len1 cap1 : Nat) (xs : List C) (a2 : Option Addr) (len2 cap2 : Nat) (ys : List C) (w : World) (h1 : IsCols w a1 len1 xs) (h2 : IsCols w a2 len2 ys)
    (q1 : len1 ≤ 9223372036854775807) (q2 : len2 ≤ 9223372036854775807) :
    Calls Try.prog 36 #[.slice a1 len1 cap1, .slice a2 len2 cap2] w fun e w' => e = .returned (.bool (allL samC xs ys)) ∧ Below w.heap.size w w' := by
  have NO := Lib.hid (fun (k : Nat) (x y : C) hx hy hn => allL_no (p := samC) (cs := xs) (ds := ys) (k := k) (c := x) (d := y) hx hy hn)
  have YE := Lib.hid (fun hl (h : ∀ (k : Nat) (x y : C), xs[k]? = some x → ys[k]? = some y → samC x y = true) => allL_yes (p := samC) (cs := xs) (ds := ys) hl h)
  have NL := Lib.hid (fun hl => allL_len (p := samC) (cs := xs) (ds := ys) hl)
  generalize allL samC xs ys = E at *
  have H1 := Lib.hid h1
  have H2 := Lib.hid h2
  have hl1 := h1.1
  have hl2 := h2.1
  clear h1 h2
  by_cases hl : len1 = len2
  · subst hl
    clear hl1 hl2
    go_enter Try.func36, Try.ntmps36
    go_wp2_with fail
    go_loopw [5] (fun iv wr => ∃ k : Nat, k ≤ len1 ∧ iv = .int .i64 k ∧ Hid (∀ (i : Nat) (x y : C), i < k → xs[i]? = some x → ys[i]? = some y → samC x y = true) ∧ Below w.heap.size w wr) (fun i _ => len1 - (intOf i).toNat)
    case atStart => exact ⟨0, Nat.zero_le _, rfl, fun i x y hi => absurd hi (by omega), Below.refl _ _⟩
    case round =>
      obtain ⟨k, hk, rfl, HI, hbel⟩ := hrel
      have hsz := hbel.size
      by_cases hlt : k < len1
      · obtain ⟨nm1, kd1, nu1, b1, off1, hx, rfl, hbl1, c0, c1, c2⟩ := (H1.out.below hbel (Nat.le_refl _)).at hlt
        obtain ⟨nm2, kd2, nu2, b2, off2, hy, rfl, hbl2, d0, d1, d2⟩ := (H2.out.below hbel (Nat.le_refl _)).at hlt
        have HX := Lib.hid hx
        have HY := Lib.hid hy
        clear hx hy
        cases hp : samC ⟨nm1, kd1, nu1⟩ ⟨nm2, kd2, nu2⟩ with
        | true =>
          have HI2 : Hid (∀ (i : Nat) (x y : C), i < k + 1 → xs[i]? = some x → ys[i]? = some y → samC x y = true) := fun i u v hi hu hv => by
            by_cases e : i = k
            · subst e
              have e1 := HX.out
              have e2 := HY.out
              rw [hu] at e1
              rw [hv] at e2
              cases e1
              cases e2
              exact hp
            · exact HI.out i u v (by omega) hu hv
          simp only [samC, Bool.and_eq_true, decide_eq_true_eq] at hp
          obtain ⟨he, rfl⟩ := hp
          have hp := he
          obtain rfl := eqS_iff.1 he
          clear HI NO YE NL hp HX HY
          go_wp2_with fail
          go_quiet (fail)
          go_wp2_with fail
          go_roundw
          case rel => exact ⟨k + 1, by omega, by go_num, HI2, below_drewN hbel _⟩
          case measure => simp [intOf]; omega
        | false =>
          obtain rfl := NO.out k _ _ HX.out HY.out hp
          clear HI NO YE NL HX HY
          rcases samC_cases hp with he | ⟨he, hk2⟩
          · have he2 : (nm1.toList == nm2.toList) = false := he
            clear hp
            go_wp2_with fail
            go_quiet (fail)
            go_wp2_with fail
            go_ret
            exact ⟨rfl, below_drewN hbel _⟩
          · obtain rfl := eqS_iff.1 he
            simp only at hk2
            clear hp
            go_wp2_with fail
            go_quiet (fail)
            go_wp2_with fail
            go_ret
            exact ⟨rfl, below_drewN hbel _⟩

      · obtain rfl := YE.out (by have := H1.out.1; have := H2.out.1; omega) fun i x y hx hy => HI.out i x y (by have := (List.getElem?_eq_some_iff.1 hx).1; have := H1.out.1; omega) hx hy
        clear NO YE HI NL
        go_wp2_with fail
        go_ret
        exact ⟨rfl, hbel⟩
  · obtain rfl := NL.out (by omega)
    have hn : ¬ (len1 : Int) = len2 := by omega
    clear NO YE NL hl1 hl2 H1 H2 hl
    go_enter Try.func36, Try.ntmps36
    go_wp2_with fail
    go_ret
    exact ⟨rfl, Below.refl _ _⟩

end Go.Proofs.Ytdlkkajkflebgaa
