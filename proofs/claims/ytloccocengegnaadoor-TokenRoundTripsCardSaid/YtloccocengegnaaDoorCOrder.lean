/-
  The texts of times: Parse reads them again; they are ordered as the times are.
-/
import Derived.Test.YtloccocengegnaaDoorCRFormat
import Derived.Test.YtloccocengegnaaDoorCParse
set_option linter.unusedVariables false
namespace Wh
open Go

/-! The order of bytes. -/

theorem less_irrefl : ∀ a : List UInt8, Op.bytesLess a a = false
  | [] => rfl
  | x :: a => by
    unfold Op.bytesLess
    rw [less_irrefl a]
    simp [UInt8.lt_irrefl]

theorem less_asymm : ∀ a b : List UInt8, Op.bytesLess a b = true → Op.bytesLess b a = false
  | [], [], h => by cases h
  | _ :: _, [], h => by cases h
  | [], _ :: _, _ => rfl
  | x :: a, y :: b, h => by
    unfold Op.bytesLess at h ⊢
    simp only [Bool.or_eq_true, decide_eq_true_eq, Bool.and_eq_true, beq_iff_eq] at h
    rcases h with h | ⟨rfl, h⟩
    · have h2 : ¬ y < x := UInt8.lt_asymm h
      have h3 : (y == x) = false := beq_eq_false_iff_ne.2 (fun e => by subst e; exact UInt8.lt_irrefl _ h)
      rw [decide_eq_false h2, h3]
      rfl
    · rw [less_asymm a b h]
      simp [UInt8.lt_irrefl]

theorem less_same (p a b : List UInt8) : Op.bytesLess (p ++ a) (p ++ b) = Op.bytesLess a b := by
  induction p with
  | nil => rfl
  | cons x p ih =>
    show (decide (x < x) || (x == x && Op.bytesLess (p ++ a) (p ++ b))) = _
    rw [ih]
    simp [UInt8.lt_irrefl]

theorem less_front : ∀ (a b r s : List UInt8), a.length = b.length → Op.bytesLess a b = true → Op.bytesLess (a ++ r) (b ++ s) = true
  | [], [], _, _, _, h => by cases h
  | [], _ :: _, _, _, h, _ => by simp at h
  | _ :: _, [], _, _, h, _ => by simp at h
  | x :: a, y :: b, r, s, hl, h => by
    unfold Op.bytesLess at h
    show (decide (x < y) || (x == y && Op.bytesLess (a ++ r) (b ++ s))) = true
    simp only [Bool.or_eq_true, decide_eq_true_eq, Bool.and_eq_true] at h ⊢
    rcases h with h | ⟨h1, h2⟩
    · exact .inl h
    · exact .inr ⟨h1, less_front a b r s (by simpa using hl) h2⟩

theorem digs_less : ∀ (k m n : Nat), m < n → n < 10 ^ k → Op.bytesLess (digs k m) (digs k n) = true
  | 0, m, n, h, h2 => by simp at h2; omega
  | k + 1, m, n, h, h2 => by
    have h3 : n / 10 < 10 ^ k := by
      rw [Nat.div_lt_iff_lt_mul (by omega)]
      rw [Nat.pow_succ] at h2
      exact h2
    simp only [digs]
    by_cases e : m / 10 < n / 10
    · exact less_front _ _ _ _ (by rw [digs_length, digs_length]) (digs_less k _ _ e h3)
    · rw [show m / 10 = n / 10 by omega, less_same]
      have : dig m < dig n := by
        rw [UInt8.lt_iff_toNat_lt, dig_nat, dig_nat]
        omega
      show (decide (dig m < dig n) || _) = true
      rw [decide_eq_true this]
      rfl

/-! The order of dates. -/

theorem dayZ_lt_year {y z : Int} {k l : Nat} {d e : Int} (hk : k < 12) (hl : l < 12) (hd : 1 ≤ d) (hd1 : d ≤ lenZ y ((k : Int) + 1)) (he : 1 ≤ e) (he1 : e ≤ lenZ z ((l : Int) + 1)) (h : y < z) : dayZ y k d < dayZ z l e := by
  have a := day_in_year hk hd hd1
  have b := day_in_year hl he he1
  have c := yzZ_mono h
  unfold dayZ
  omega

theorem dayZ_lt_month {y : Int} {k l : Nat} {d e : Int} (hd1 : d ≤ lenZ y ((k : Int) + 1)) (he : 1 ≤ e) (h : k < l) : dayZ y k d < dayZ y l e := by
  have c := msZ_mono y (show k + 1 ≤ l by omega)
  simp only [msZ] at c
  unfold dayZ
  omega

theorem fmt_less {y z : Int} {k l : Nat} {d e : Int} {t u : Nat} (h1 : Dt y k d) (h2 : Dt z l e) (ht : t < 1440) (hu : u < 1440) (h : dayZ y k d * 1440 + (t : Int) < dayZ z l e * 1440 + (u : Int)) :
    Op.bytesLess (fmtL y k d t) (fmtL z l e u) = true := by
  have y0 := h1.y0
  have y9 := h1.year
  have z0 := h2.y0
  have z9 := h2.year
  have k1 := h1.k1
  have l1 := h2.k1
  have d0 := h1.d0
  have e0 := h2.d0
  have d9 : d ≤ 31 := by have := h1.d1; have := lenZ_bd y ((k : Int) + 1); omega
  have e9 : e ≤ 31 := by have := h2.d1; have := lenZ_bd z ((l : Int) + 1); omega
  have hyz : y ≤ z := by
    by_cases c : z < y
    · have := dayZ_lt_year h2.k1 h1.k1 h2.d0 h2.d1 h1.d0 h1.d1 c
      omega
    · omega
  unfold fmtL
  simp only [List.append_assoc]
  by_cases c1 : y < z
  · exact less_front _ _ _ _ (by rw [digs_length, digs_length]) (digs_less 4 _ _ (by omega) (by omega))
  obtain rfl : y = z := by omega
  rw [less_same, less_same]
  have hkl : k ≤ l := by
    by_cases c : l < k
    · have := dayZ_lt_month (y := y) h2.d1 h1.d0 c
      omega
    · omega
  by_cases c2 : k < l
  · exact less_front _ _ _ _ (by rw [digs_length, digs_length]) (digs_less 2 _ _ (by omega) (by omega))
  obtain rfl : k = l := by omega
  rw [less_same, less_same]
  have hde : d ≤ e := by
    unfold dayZ at h
    omega
  by_cases c3 : d < e
  · exact less_front _ _ _ _ (by rw [digs_length, digs_length]) (digs_less 2 _ _ (by omega) (by omega))
  obtain rfl : d = e := by omega
  rw [less_same, less_same]
  have htu : t < u := by omega
  by_cases c4 : t / 60 < u / 60
  · exact less_front _ _ _ _ (by rw [digs_length, digs_length]) (digs_less 2 _ _ (by omega) (by omega))
  rw [show t / 60 = u / 60 by omega, less_same, less_same]
  exact digs_less 2 _ _ (by omega) (by omega)

theorem fmt_order {y z : Int} {k l : Nat} {d e : Int} {t u : Nat} (h1 : Dt y k d) (h2 : Dt z l e) (ht : t < 1440) (hu : u < 1440) :
    Op.bytesLess (fmtL y k d t) (fmtL z l e u) = decide (dayZ y k d * 1440 + (t : Int) < dayZ z l e * 1440 + (u : Int)) := by
  rcases (show dayZ y k d * 1440 + (t : Int) < dayZ z l e * 1440 + (u : Int) ∨ dayZ y k d * 1440 + (t : Int) = dayZ z l e * 1440 + (u : Int) ∨ dayZ z l e * 1440 + (u : Int) < dayZ y k d * 1440 + (t : Int) by omega) with h | h | h
  · rw [fmt_less h1 h2 ht hu h, decide_eq_true h]
  · have he : dayZ y k d = dayZ z l e := by omega
    obtain ⟨rfl, rfl, rfl⟩ := date_one h1.k1 h2.k1 h1.d0 h1.d1 h2.d0 h2.d1 he
    obtain rfl : t = u := by omega
    rw [less_irrefl, decide_eq_false (by omega)]
  · rw [less_asymm _ _ (fmt_less h2 h1 hu ht h), decide_eq_false (by omega)]

/-! Parse reads the text again. -/

theorem fmtL_eq (y : Int) (k : Nat) (d : Int) (t : Nat) : fmtL y k d t =
    [dig (y.toNat / 10 / 10 / 10), dig (y.toNat / 10 / 10), dig (y.toNat / 10), dig y.toNat, 45, dig ((k + 1) / 10), dig (k + 1), 45, dig (d.toNat / 10), dig d.toNat, 84, dig (t / 60 / 10), dig (t / 60), 58, dig (t % 60 / 10), dig (t % 60)] := rfl

theorem parse_fmt {y : Int} {k : Nat} {d : Int} {t : Nat} (h : Dt y k d) (ht : t < 1440) (hn : dayZ y k d ≤ 399999) :
    parseZ ⟨(fmtL y k d t).toArray⟩ = dayZ y k d * 1440 + t ∧ parseE ⟨(fmtL y k d t).toArray⟩ = 0 := by
  have y0 := h.y0
  have y9 := h.year
  have k1 := h.k1
  have d0 := h.d0
  have d9 : d ≤ 31 := by have := h.d1; have := lenZ_bd y ((k : Int) + 1); omega
  have hs : (⟨(fmtL y k d t).toArray⟩ : ByteArray).size = 16 := by rw [← bts_length, bts_mk, fmtL_length]
  have a : ∀ (i : Nat) (x : UInt8), (fmtL y k d t)[i]? = some x → btN ⟨(fmtL y k d t).toArray⟩ i = x.toNat := fun i x hx => btN_of hx
  rw [fmtL_eq] at a hs ⊢
  have b0 := a 0 _ rfl
  have b1 := a 1 _ rfl
  have b2 := a 2 _ rfl
  have b3 := a 3 _ rfl
  have b4 := a 4 _ rfl
  have b5 := a 5 _ rfl
  have b6 := a 6 _ rfl
  have b7 := a 7 _ rfl
  have b8 := a 8 _ rfl
  have b9 := a 9 _ rfl
  have b10 := a 10 _ rfl
  have b11 := a 11 _ rfl
  have b12 := a 12 _ rfl
  have b13 := a 13 _ rfl
  have b14 := a 14 _ rfl
  have b15 := a 15 _ rfl
  clear a
  rw [dig_nat] at b0 b1 b2 b3 b5 b6 b8 b9 b11 b12 b14 b15
  rw [show (45 : UInt8).toNat = 45 from rfl] at b4 b7
  rw [show (84 : UInt8).toNat = 84 from rfl] at b10
  rw [show (58 : UInt8).toNat = 58 from rfl] at b13
  generalize (⟨[dig (y.toNat / 10 / 10 / 10), dig (y.toNat / 10 / 10), dig (y.toNat / 10), dig y.toNat, 45, dig ((k + 1) / 10), dig (k + 1), 45, dig (d.toNat / 10), dig d.toNat, 84, dig (t / 60 / 10), dig (t / 60), 58, dig (t % 60 / 10), dig (t % 60)].toArray⟩ : ByteArray) = s at *
  have hf : formB s = true := by
    refine formB_yes hs fun i hi => ?_
    unfold okAt
    rcases (show i = 0 ∨ i = 1 ∨ i = 2 ∨ i = 3 ∨ i = 4 ∨ i = 5 ∨ i = 6 ∨ i = 7 ∨ i = 8 ∨ i = 9 ∨ i = 10 ∨ i = 11 ∨ i = 12 ∨ i = 13 ∨ i = 14 ∨ i = 15 by omega) with e | e | e | e | e | e | e | e | e | e | e | e | e | e | e | e
    all_goals
      subst e
      simp
      omega
  have n1 : numAt s 0 4 = y := by simp only [numAt, Nat.zero_add, b0, b1, b2, b3]; omega
  have n2 : numAt s 5 2 = (k : Int) + 1 := by simp only [numAt, Nat.reduceAdd, Nat.add_zero, b5, b6]; omega
  have n3 : numAt s 8 2 = d := by simp only [numAt, Nat.reduceAdd, Nat.add_zero, b8, b9]; omega
  have n4 : numAt s 11 2 = ((t / 60 : Nat) : Int) := by simp only [numAt, Nat.reduceAdd, Nat.add_zero, b11, b12]; omega
  have n5 : numAt s 14 2 = ((t % 60 : Nat) : Int) := by simp only [numAt, Nat.reduceAdd, Nat.add_zero, b14, b15]; omega
  obtain ⟨f1, f2⟩ := daysB_of h
  have hm : minZ y ((k : Int) + 1) d ((t / 60 : Nat) : Int) ((t % 60 : Nat) : Int) = dayZ y k d * 1440 + t := by unfold minZ; rw [f2]; omega
  obtain ⟨g1, g2⟩ := part_good (y := y) (mo := (k : Int) + 1) (d := d) (h := ((t / 60 : Nat) : Int)) (mi := ((t % 60 : Nat) : Int)) (by omega) (by omega) f1 (by rw [hm]; omega)
  unfold parseZ parseE
  rw [if_pos hf, if_pos hf, n1, n2, n3, n4, n5]
  exact ⟨g2.trans hm, g1⟩

end Wh

