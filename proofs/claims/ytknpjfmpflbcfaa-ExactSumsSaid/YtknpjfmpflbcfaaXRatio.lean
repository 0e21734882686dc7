/-
  Ratios: what is well-formed, the greatest common divisor, Reduce, CompareRatios, of exact and of its reference.
-/
import Derived.Test.YtknpjfmpflbcfaaXCalc
import Derived.LoopTactic
import Derived.Laws.ResultCell
import Derived.WalkSmall
import Derived.RegionTactic
namespace Go.Proofs.Ytknpjfmpflbcfaa
open Go.RowKit Wh

abbrev rat (n d : Int) : Value := .agg #[.int .i64 n, .int .i64 d]

/-- Is it well-formed? -/
def wfB (n d : Int) : Bool := smB n && decide (1 ≤ d) && decide (d ≤ 1073741824)

theorem wfB_bd {n d : Int} (h : wfB n d = true) : smB n = true ∧ 1 ≤ d ∧ d ≤ 1073741824 := by
  unfold wfB at h
  simp only [Bool.and_eq_true, decide_eq_true_eq] at h
  exact ⟨h.1.1, h.1.2, h.2⟩

theorem bcell {W w1 : World} (hb : Below W.heap.size W w1) : (∀ b o, b < W.heap.size → w1.cell? ⟨b, o, none⟩ = W.cell? ⟨b, o, none⟩) ∧ (∀ b o, b < W.heap.size → w1.frozen? ⟨b, o, none⟩ = W.frozen? ⟨b, o, none⟩) :=
  ⟨fun b o h => hb.cell (p := ⟨b, o, none⟩) h, fun b o h => hb.frozen (p := ⟨b, o, none⟩) h⟩

theorem wf_any (n d : Int) (w : World) :
    Calls Try.prog 36 #[rat n d] w fun e w' => e = .returned (.bool (wfB n d)) ∧ Below w.heap.size w w' := by
  cases h : smB n
  all_goals
    have HW := Lib.hid (show wfB n d = (smB n && decide (1 ≤ d) && decide (d ≤ 1073741824)) from rfl)
    go_enter Try.func36, Try.ntmps36
    go_wp2_with (go_at_call 31; refine (small_any _ _).mono ?_; rintro e w' ⟨rfl, rfl⟩)
    all_goals
      go_ret
      refine ⟨ret_bool ?_, (Below.refl _ _).alloc (Nat.le_refl _) _⟩
      rw [HW.out, h]
      clear HW
      simp_all
      try omega

theorem rwf_any (n d : Int) (w : World) :
    Calls Try.prog 38 #[rat n d] w fun e w' => e = .returned (.bool (wfB n d)) ∧ Below w.heap.size w w' := by
  cases h : smB n
  all_goals
    have HW := Lib.hid (show wfB n d = (smB n && decide (1 ≤ d) && decide (d ≤ 1073741824)) from rfl)
    go_enter Try.func38, Try.ntmps38
    go_wp2_with (go_at_call 34; refine (rsmall_any _ _).mono ?_; rintro e w' ⟨rfl, rfl⟩)
    all_goals
      go_ret
      refine ⟨ret_bool ?_, (Below.refl _ _).alloc (Nat.le_refl _) _⟩
      rw [HW.out, h]
      clear HW
      simp_all
      try omega

theorem gcd_any (m n : Nat) (hm : m ≤ 1073741824) (hn : n ≤ 1073741824) (w : World) :
    Calls Try.prog 37 #[.int .i64 m, .int .i64 n] w fun e w' => e = .returned (.int .i64 (Nat.gcd m n)) ∧ w = w' := by
  go_enter Try.func37, Try.ntmps37
  go_wp2_with fail
  go_loop [0, 1] (fun a b => ∃ x y : Nat, x ≤ 1073741824 ∧ y ≤ 1073741824 ∧ a = .int .i64 x ∧ b = .int .i64 y ∧ Nat.gcd x y = Nat.gcd m n) (fun a _ => (intOf a).toNat)
  case atStart => exact ⟨m, n, hm, hn, rfl, rfl, rfl⟩
  case round =>
    obtain ⟨x, y, hx, hy, rfl, rfl, hg⟩ := hrel
    have HG := Lib.hid hg
    clear hg
    by_cases h0 : 0 < x
    · have hlt : y % x < x := Nat.mod_lt _ h0
      go_wp2_with fail
      go_round
      case rel => exact ⟨y % x, x, by omega, by omega, by go_num, rfl, by rw [← HG.out]; exact (Nat.gcd_rec x y).symm⟩
      case measure => simp [intOf]; omega
    · obtain rfl : x = 0 := by omega
      go_wp2_with fail
      go_ret
      exact ⟨ret_int (by rw [← HG.out, Nat.gcd_zero_left]), rfl⟩

theorem reduce_no (n d : Int) (h : wfB n d = false) (w : World) :
    Calls Try.prog 24 #[rat n d] w fun e w' => e = .returned (.tuple #[rat 0 0, .bool false]) ∧ Below w.heap.size w w' := by
  go_enter Try.func24, Try.ntmps24
  go_wp2_with (go_at_call 36; refine (wf_any _ _ _).mono ?_; rintro e w1 ⟨rfl, hb⟩; obtain ⟨hc, hf⟩ := bcell hb; have hs : w.heap.size + 1 < w1.heap.size := by have := hb.size; simp at this; omega)
  refine bodyPost_ret (v := .tuple #[rat 0 0, .bool false]) (by simp [results, Try.results24, go_sem, hc]) rfl ⟨rfl, ?_⟩
  exact ((((Below.refl _ _).alloc (Nat.le_refl _) _).alloc (by simp) _).trans (hb.mono (by simp; omega)) |>.setCell (by simp) _).setCell (by simp) _

theorem reduce_yes (n d : Int) (h : wfB n d = true) (w : World) :
    Calls Try.prog 24 #[rat n d] w fun e w' => e = .returned (.tuple #[rat (n.tdiv (Int.gcd n d)) (d / (Int.gcd n d)), .bool true]) ∧ Below w.heap.size w w' := by
  obtain ⟨h1, h2, h3⟩ := wfB_bd h
  have b1 := smB_bd h1
  clear h1
  obtain ⟨m, hm⟩ : ∃ m : Nat, n = m ∨ (n = -m ∧ 1 ≤ m) := ⟨n.natAbs, by omega⟩
  obtain ⟨k, rfl⟩ : ∃ k : Nat, d = k := ⟨d.toNat, by omega⟩
  have hg : Int.gcd n k = Nat.gcd m k := by rcases hm with rfl | ⟨rfl, _⟩ <;> simp [Int.gcd]
  have hg1 : 1 ≤ Nat.gcd m k := Nat.gcd_pos_of_pos_right _ (by omega)
  have hG := fun W => gcd_any m k (by omega) (by omega) W
  rw [hg]
  generalize Nat.gcd m k = g at *
  clear hg
  have HG := Lib.hid hG
  clear hG
  have hq := tdiv_small n g b1.1 b1.2
  have hgz : ((g : Int) == 0) = false := by simpa using (show ¬ (g = 0) by omega)
  have hkq : 0 ≤ (k : Int) / g := Int.ediv_nonneg (by omega) (by omega)
  have hkr : (k : Int) / g ≤ k := Int.ediv_le_self _ (by omega)
  have hmq : 0 ≤ (m : Int) / g := Int.ediv_nonneg (by omega) (by omega)
  have hmr : (m : Int) / g ≤ m := Int.ediv_le_self _ (by omega)
  have hw1 : IntKind.i64.wrap (n.tdiv g) = n.tdiv g := IntWalk.i64_in _ (by omega)
  have hw2 : IntKind.i64.wrap ((k : Int).tdiv g) = (k : Int) / g := by rw [Int.tdiv_eq_ediv_of_nonneg (by omega)]; exact IntWalk.i64_in _ (by omega)
  rcases hm with rfl | ⟨rfl, hm1⟩
  all_goals
    go_enter Try.func24, Try.ntmps24
    go_wp2_with (first | (go_at_call 36; refine (wf_any _ _ _).mono ?_; rintro e w1 ⟨rfl, hb⟩; obtain ⟨hc, hf⟩ := bcell hb; have hs : w.heap.size + 1 < w1.heap.size := by have := hb.size; simp at this; omega) | (go_at_call 37; refine (HG.out _).mono ?_; rintro e w' ⟨rfl, rfl⟩))
    go_region
    go_wp2_with fail
    refine bodyPost_ret (v := .tuple #[rat _ _, .bool true]) (by simp [results, Try.results24, go_sem, hc]) rfl ⟨rfl, ?_⟩
    exact (((((Below.refl _ _).alloc (Nat.le_refl _) _).alloc (by simp) _).trans (hb.mono (by simp; omega)) |>.setCell (by simp) _).setCell (by simp) _).drew

theorem rreduce_no (n d : Int) (h : wfB n d = false) (w : World) :
    Calls Try.prog 25 #[rat n d] w fun e w' => e = .returned (.tuple #[rat 0 0, .bool false]) ∧ Below w.heap.size w w' := by
  go_enter Try.func25, Try.ntmps25
  go_wp2_with (go_at_call 38; refine (rwf_any _ _ _).mono ?_; rintro e w1 ⟨rfl, hb⟩; obtain ⟨hc, hf⟩ := bcell hb; have hs : w.heap.size + 1 < w1.heap.size := by have := hb.size; simp at this; omega)
  refine bodyPost_ret (v := .tuple #[rat 0 0, .bool false]) (by simp [results, Try.results25, go_sem, hc]) rfl ⟨rfl, ?_⟩
  exact ((((Below.refl _ _).alloc (Nat.le_refl _) _).alloc (by simp) _).trans (hb.mono (by simp; omega)) |>.setCell (by simp) _).setCell (by simp) _

theorem rreduce_yes (n d : Int) (h : wfB n d = true) (w : World) :
    Calls Try.prog 25 #[rat n d] w fun e w' => e = .returned (.tuple #[rat (n.tdiv (Int.gcd n d)) (d / (Int.gcd n d)), .bool true]) ∧ Below w.heap.size w w' := by
  obtain ⟨h1, h2, h3⟩ := wfB_bd h
  have b1 := smB_bd h1
  clear h1
  obtain ⟨m, hm⟩ : ∃ m : Nat, n = m ∨ (n = -m ∧ 1 ≤ m) := ⟨n.natAbs, by omega⟩
  obtain ⟨k, rfl⟩ : ∃ k : Nat, d = k := ⟨d.toNat, by omega⟩
  have hg : Int.gcd n k = Nat.gcd m k := by rcases hm with rfl | ⟨rfl, _⟩ <;> simp [Int.gcd]
  have hg1 : 1 ≤ Nat.gcd m k := Nat.gcd_pos_of_pos_right _ (by omega)
  rw [hg]
  have hq := tdiv_small n (Nat.gcd m k : Nat) b1.1 b1.2
  have hkq : 0 ≤ (k : Int) / (Nat.gcd m k : Nat) := Int.ediv_nonneg (by omega) (by omega)
  have hkr : (k : Int) / (Nat.gcd m k : Nat) ≤ k := Int.ediv_le_self _ (by omega)
  have hmq : 0 ≤ (m : Int) / (Nat.gcd m k : Nat) := Int.ediv_nonneg (by omega) (by omega)
  have hmr : (m : Int) / (Nat.gcd m k : Nat) ≤ m := Int.ediv_le_self _ (by omega)
  generalize hG : Nat.gcd m k = g at *
  have HG := Lib.hid hG
  clear hG hg
  have hgz : ((g : Int) == 0) = false := by simpa using (show ¬ (g = 0) by omega)
  have hw1 : IntKind.i64.wrap (n.tdiv g) = n.tdiv g := IntWalk.i64_in _ (by omega)
  have hw2 : IntKind.i64.wrap ((k : Int).tdiv g) = (k : Int) / g := by rw [Int.tdiv_eq_ediv_of_nonneg (by omega)]; exact IntWalk.i64_in _ (by omega)
  rcases hm with rfl | ⟨rfl, hm1⟩
  all_goals
    go_enter Try.func25, Try.ntmps25
    go_wp2_with (first | (go_at_call 38; refine (rwf_any _ _ _).mono ?_; rintro e w1 ⟨rfl, hb⟩; obtain ⟨hc, hf⟩ := bcell hb; have hs : w.heap.size + 1 < w1.heap.size := by have := hb.size; simp at this; omega))
    go_quiet (fail)
    go_wp2_with fail
    go_loop [4, 5] (fun a b => ∃ x y : Nat, x ≤ 1073741824 ∧ y ≤ 1073741824 ∧ a = .int .i64 x ∧ b = .int .i64 y ∧ Nat.gcd x y = g) (fun a _ => (intOf a).toNat)
    case atStart => exact ⟨m, k, by omega, by omega, rfl, rfl, HG.out⟩
    case round =>
      obtain ⟨x, y, hx, hy, rfl, rfl, hg⟩ := hrel
      have HX := Lib.hid hg
      clear hg
      by_cases h0 : 0 < x
      · have hlt : y % x < x := Nat.mod_lt _ h0
        have hxz : ((x : Int) == 0) = false := by simpa using (show ¬ (x = 0) by omega)
        go_wp2_with fail
        go_round
        case rel => exact ⟨y % x, x, by omega, by omega, by go_num, rfl, by rw [← HX.out]; exact (Nat.gcd_rec x y).symm⟩
        case measure => simp [intOf]; omega
      · obtain rfl : x = 0 := by omega
        obtain rfl : y = g := by rw [← HX.out, Nat.gcd_zero_left]
        go_wp2_with fail
        go_region
        go_wp2_with fail
        refine bodyPost_ret (v := .tuple #[rat _ _, .bool true]) (by simp [results, Try.results25, go_sem, hc]) rfl ⟨rfl, ?_⟩
        exact (((below_drewN ((((Below.refl _ _).alloc (Nat.le_refl _) _).alloc (by simp) _).trans (hb.mono (by simp; omega))) _).setCell (by simp) _).setCell (by simp) _)

end Go.Proofs.Ytknpjfmpflbcfaa
