/-
  Date and Weekday, of civil and of its reference.
-/
import Derived.Test.YtloccocengegnaaDoorCDays
import Derived.WalkMore
set_option linter.unusedVariables false
namespace Go.Proofs.YtloccocengegnaaDoor
open Go.RowKit Wh

/-- The call returns a date, and the world is as it was. -/
def IsDate (y m d : Int) (x : Bool) (w : World) (e : Ending) (w' : World) : Prop := e = .returned (.tuple #[.int .i64 y, .int .i64 m, .int .i64 d, .bool x]) ∧ w = w'

theorem ret_date {y m d y' m' d' : Int} {x : Bool} (h : y = y' ∧ m = m' ∧ d = d') : Ending.returned (.tuple #[.int .i64 y, .int .i64 m, .int .i64 d, .bool x]) = .returned (.tuple #[.int .i64 y', .int .i64 m', .int .i64 d', .bool x]) := by
  obtain ⟨rfl, rfl, rfl⟩ := h
  rfl

theorem date_bad (n : Int) (h : n < 0 ∨ 400000 < n) (w : World) :
    Calls Tryd.prog 46 #[.int .i64 n] w (IsDate 0 0 0 false w) := by
  have c := fun W => isDay_any n W
  rw [show (decide (0 ≤ n) && decide (n ≤ 400000)) = false by rcases h with h | h <;> simp <;> omega] at c
  have C := Lib.hid c
  clear c
  go_enter Tryd.func46, Tryd.ntmps46
  go_wp2_with fail
  go_step3
  go_wp2_with (go_at_call 61; refine (C.out _).mono ?_; rintro e w' ⟨rfl, rfl⟩)
  rw [Exit.noGoto_ret]
  refine bodyPost_ret (results_tmp4 rfl _ _ _) rfl ?_
  exact ⟨rfl, rfl⟩

theorem date_found {y : Int} {k : Nat} {d : Int} (h : Dt y k d) {x : Int} {j : Nat} {r : Int} (hj : j < 12) (hr : r = dayZ y k d - yzZ x - msZ x j) (h0 : 0 ≤ r) (h1 : r < lenZ x ((j : Int) + 1)) : x = y ∧ j = k ∧ r + 1 = d := by
  have e : dayZ x j (r + 1) = dayZ y k d := by unfold dayZ at hr ⊢; omega
  exact date_one hj h.k1 (by omega) (by omega) h.d0 h.d1 e

theorem date_any (y : Int) (k : Nat) (d : Int) (h : Dt y k d) (w : World) (ht : Tab w) :
    Calls Tryd.prog 46 #[.int .i64 (dayZ y k d)] w (IsDate y ((k : Int) + 1) d true w) := by
  have n0 := h.n0
  have n1 := h.n1
  have hy0 := h.y0
  have hy1 := h.year
  have F := Lib.hid (fun (x : Int) (j : Nat) (r : Int) => date_found h (x := x) (j := j) (r := r))
  have L := Lib.hid (fun (x : Int) => year_le (x := x) h.k1 h.d0 h.d1)
  clear h
  generalize dayZ y k d = n at *
  have c := fun W => isDay_any n W
  rw [decide_eq_true n0, decide_eq_true n1] at c
  have C := Lib.hid c
  have HT := Lib.hid ht
  clear c ht
  have c2 := fun W => daysBefore_any (1970 + n / 366) (by omega) (by omega) W
  have ys := yzZ_high (show 1970 ≤ 1970 + n / 366 by omega)
  have yl := L.out (1970 + n / 366) (by omega)
  have hs0 : yzZ (1970 + n / 366) ≤ n := by omega
  have yb := yzZ_low (show 1970 ≤ 1970 + n / 366 by omega)
  generalize hs : yzZ (1970 + n / 366) = s at *
  have C2 := Lib.hid c2
  have HS := Lib.hid hs
  clear c2 ys hs
  go_enter Tryd.func46, Tryd.ntmps46
  go_wp2_with fail
  go_step3
  go_wp2_with (first | (go_at_call 61; refine (C.out _).mono ?_; rintro e w' ⟨rfl, rfl⟩) | (go_at_call 62; refine (C2.out _).mono ?_; rintro e w' ⟨rfl, rfl⟩))
  go_step3
  go_wp2_with fail
  go_loop [2, 6] (fun yv rv => ∃ x : Int, 1970 ≤ x ∧ x ≤ y ∧ yzZ x ≤ n ∧ yv = .int .i64 x ∧ rv = .int .i64 (n - yzZ x)) (fun yv _ => (y - intOf yv).toNat)
  case atStart => exact ⟨1970 + n / 366, by omega, yl, by rw [HS.out]; exact hs0, rfl, by rw [HS.out]⟩
  case round =>
    obtain ⟨x, hx0, hx1, hxn, rfl, rfl⟩ := hrel
    clear C C2 HS hs0 yb yl
    have xl := yzZ_low hx0
    have XS := Lib.hid (yzZ_step x)
    generalize hsx : yzZ x = s at *
    have HX := Lib.hid hsx
    clear hsx
    go_wp2_with fail
    go_loop [3, 6] (fun mv rv => ∃ j : Nat, j ≤ 12 ∧ 0 ≤ n - s - msZ x j ∧ mv = .int .i64 ((j : Int) + 1) ∧ rv = .int .i64 (n - s - msZ x j)) (fun mv _ => 13 - (intOf mv).toNat)
    case atStart => exact ⟨0, by omega, by simp [msZ]; omega, rfl, by simp [msZ]⟩
    case round =>
      obtain ⟨j, hj, hr0, rfl, rfl⟩ := hrel
      have b0 := msZ_low x j
      have b1 := msZ_high x j
      by_cases hlt : j < 12
      · have hm : msZ x (j + 1) = msZ x j + lenZ x ((j : Int) + 1) := rfl
        have c3 := fun W hW => monthLength_any x j (by omega) (by omega) (by omega) W hW
        have hl2 := lenZ_bd x ((j : Int) + 1)
        have F2 := Lib.hid (F.out x j (n - s - msZ x j) hlt)
        generalize lenZ x ((j : Int) + 1) = l at *
        generalize msZ x j = q at *
        have C3 := Lib.hid c3
        have HM := Lib.hid hm
        clear c3 hm F
        by_cases hb : n - s - q < l
        · have E := Lib.hid (F2.out (by rw [HX.out]) hr0 hb)
          clear F2 L
          go_wp2_with (go_at_call 63; refine (C3.out _ HT.out).mono ?_; rintro e w' ⟨rfl, rfl⟩)
          rw [Exit.noGoto_ret]
          refine bodyPost_ret (results_tmp4 rfl _ _ _) rfl ?_
          refine ⟨ret_date ?_, rfl⟩
          obtain ⟨e1, e2, e3⟩ := E.out
          exact ⟨e1, by rw [e2], e3⟩
        · clear F2
          go_wp2_with (go_at_call 63; refine (C3.out _ HT.out).mono ?_; rintro e w' ⟨rfl, rfl⟩)
          go_round
          case rel => exact ⟨j + 1, by omega, by rw [HM.out]; omega, by go_num, by rw [HM.out]; go_num⟩
          case measure => simp [intOf]; omega
      · obtain rfl : j = 12 := by omega
        have h12 := msZ_year x
        have hs := XS.out
        generalize msZ x 12 = q at *
        have hn2 : yzZ (x + 1) ≤ n := by omega
        have hx2 := L.out (x + 1) hn2
        have HS2 := Lib.hid (show yzZ (x + 1) = s + q by omega)
        clear h12 hs XS F
        go_wp2_with fail
        go_round
        case rel => exact ⟨x + 1, by omega, hx2, hn2, rfl, by rw [HS2.out]; go_num⟩
        case measure => simp [intOf]; omega

end Go.Proofs.YtloccocengegnaaDoor

