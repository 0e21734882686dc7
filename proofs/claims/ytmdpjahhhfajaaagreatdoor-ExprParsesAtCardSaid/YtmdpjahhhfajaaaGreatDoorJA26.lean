/-
  What was written is read: the token with which a text begins whose beginning is a token's text. Plainly. · The texts of expressions, plainly: how long they are; what a valid expression's nodes find on the stack. No program's functions.
-/
import Derived.Test.YtmdpjahhhfajaaaGreatDoorJA09
import Derived.Test.YtmdpjahhhfajaaaGreatDoorJA11
import Derived.Test.YtmdpjahhhfajaaaGreatDoorJA25
set_option linter.unusedVariables false
set_option maxRecDepth 100000
namespace Wh
open Go Go.Proofs.YtmdpjahhhfajaaaGreatDoor

/-- Nothing follows, or a blank. -/
def EndR (r : List UInt8) : Prop := r = [] ∨ ∃ q, r = 32 :: q
/-- A text that begins with the bytes l and goes on so. -/
def txt (l r : List UInt8) : ByteArray := ⟨(l ++ r).toArray⟩
theorem bts_txt (l r : List UInt8) : bts (txt l r) = l ++ r := rfl
theorem size_txt (l r : List UInt8) : (txt l r).size = l.length + r.length := by
  rw [← bts_length, bts_txt, List.length_append]
theorem btN_l {l r : List UInt8} {i : Nat} {x : UInt8} (h : l[i]? = some x) : btN (txt l r) i = x.toNat := by
  refine btN_of ?_
  rw [bts_txt, List.getElem?_append_left (List.getElem?_eq_some_iff.1 h).1]
  exact h
theorem btN_r {l r : List UInt8} (h : EndR r) : l.length = (txt l r).size ∨ btN (txt l r) l.length = 32 := by
  rcases h with rfl | ⟨q, rfl⟩
  · left; rw [size_txt]; simp
  · right
    refine (btN_of (x := 32) ?_).trans rfl
    rw [bts_txt, List.getElem?_append_right (Nat.le_refl _), Nat.sub_self]
    rfl
theorem ext_bts {a b : ByteArray} (h : bts a = bts b) : a = b := by
  apply ByteArray.ext
  exact Array.toList_inj.1 h
theorem extract_txt (l r : List UInt8) : (txt l r).extract 0 l.length = ⟨l.toArray⟩ := by
  apply ext_bts
  rw [bts_extract, bts_txt, List.drop_zero, Nat.sub_zero, List.take_left']
  · rfl
  · rfl

/-- Read: the text l, and an end behind it, give the token. -/
structure Rd (t : Tk) (l : List UInt8) : Prop where
  one : ∃ x q, l = x :: q ∧ ¬ x.toNat = 32 ∧ ¬ x.toNat = 9 ∧ ¬ x.toNat = 10 ∧ ¬ x.toNat = 35
  nx : ∀ r, EndR r → nx (txt l r) = (0, t, l.length)

/-! ### Names -/
theorem nameB_all {s : ByteArray} (h : nameB s = true) : 1 ≤ s.size ∧ s.size ≤ 24 ∧ lowB (btN s 0) = true ∧ ∀ j, j < s.size → wordB (btN s j) = true := by
  unfold nameB at h
  rw [Bool.and_eq_true, Bool.and_eq_true, decide_eq_true_eq, decide_eq_true_eq, List.all_eq_true] at h
  obtain ⟨⟨h1, h2⟩, h3⟩ := h
  have h0 := h3 0 (List.mem_range.2 (by omega))
  rw [okN_low] at h0
  refine ⟨h1, h2, h0, fun j hj => ?_⟩
  by_cases e : j = 0
  · subst e; exact low_word h0
  · have := h3 j (List.mem_range.2 hj)
    rw [okN_word e] at this
    exact this
theorem low_bytes {c : Nat} (h : lowB c = true) : 97 ≤ c ∧ c ≤ 122 := by
  unfold lowB at h
  rw [Bool.and_eq_true, decide_eq_true_eq, decide_eq_true_eq] at h
  exact h
theorem one_of {s : ByteArray} (h : 0 < s.size) : ∃ x q, bts s = x :: q ∧ btN s 0 = x.toNat := by
  obtain ⟨x, hx⟩ := bts_at h
  cases hb : bts s with
  | nil => rw [hb] at hx; cases hx
  | cons y q =>
    have hx' : (bts s)[0]? = some y := by rw [hb]; rfl
    exact ⟨y, q, rfl, btN_of hx'⟩
theorem mk_eq {s : ByteArray} : (⟨(bts s).toArray⟩ : ByteArray) = s := mk_bts s
theorem btN_txt {s : ByteArray} {r : List UInt8} {j : Nat} (hj : j < s.size) : btN (txt (bts s) r) j = btN s j := by
  obtain ⟨x, hx⟩ := bts_at hj
  rw [btN_l hx, btN_of hx]

theorem rd_name {tx : ByteArray} (h : qualB tx = true) : Rd ⟨1, tx, 0⟩ (bts tx) := by
  have hl : (bts tx).length = tx.size := bts_length tx
  rcases dot_cases tx with hd | ⟨i, hd, hi⟩
  · rw [qualB_no hd] at h
    obtain ⟨h1, h2, h3, h4⟩ := nameB_all h
    refine ⟨?_, fun r hr => ?_⟩
    · obtain ⟨x, q, hx, hb⟩ := one_of (s := tx) (by omega)
      have := low_bytes h3
      exact ⟨x, q, hx, by omega, by omega, by omega, by omega⟩
    · have hsz := size_txt (bts tx) r
      have e0 : lowB (btN (txt (bts tx) r) 0) = true := by rw [btN_txt (by omega)]; exact h3
      have hend := btN_r (l := bts tx) hr
      rw [hl] at hend hsz
      have hsp : spanN wordB (txt (bts tx) r) = tx.size := by
        refine spanN_eq (fun j hj => by rw [btN_txt hj]; exact h4 j hj) (by omega) ?_
        rcases hend with hend | hend
        · exact .inl hend
        · exact .inr (by rw [hend]; decide)
      have hT : nameT (txt (bts tx) r) = ((tx.size : Int), 0) := by
        unfold nameT
        rw [hsp, if_neg (by omega), if_neg]
        rintro ⟨a, b, _⟩
        rcases hend with hend | hend
        · omega
        · rw [hend] at b; cases b
      rw [nx_name e0, hT, hl]
      show (0, (⟨1, (txt (bts tx) r).extract 0 tx.size, 0⟩ : Tk), tx.size) = _
      rw [← hl, extract_txt, mk_eq]
  · rw [qualB_at hd, Bool.and_eq_true] at h
    obtain ⟨ha, hb⟩ := h
    have s1 : (tx.extract 0 i).size = i := by rw [size_extract (by omega) (by omega)]; omega
    have s2 : (tx.extract (i + 1) tx.size).size = tx.size - (i + 1) := size_extract (by omega) (Nat.le_refl _)
    obtain ⟨a1, a2, a3, a4⟩ := nameB_all ha
    obtain ⟨b1, b2, b3, b4⟩ := nameB_all hb
    rw [s1] at a1 a2 a4
    rw [s2] at b1 b2 b4
    have c1 : ∀ j, j < i → btN (tx.extract 0 i) j = btN tx j := fun j hj => by rw [btN_extract tx 0 i j (by omega), Nat.zero_add]
    have c2 : ∀ j, j < tx.size - (i + 1) → btN (tx.extract (i + 1) tx.size) j = btN tx (i + 1 + j) := fun j hj => btN_extract tx (i + 1) tx.size j hj
    have hdot : btN tx i = 46 := by
      have := (Lib.indexByte_some hd).1
      exact (btN_of (x := 46) this).trans rfl
    rw [c1 0 (by omega)] at a3
    rw [c2 0 (by omega), Nat.add_zero] at b3
    refine ⟨?_, fun r hr => ?_⟩
    · obtain ⟨x, q, hx, hbx⟩ := one_of (s := tx) (by omega)
      have := low_bytes a3
      exact ⟨x, q, hx, by omega, by omega, by omega, by omega⟩
    · have hsz := size_txt (bts tx) r
      have e0 : lowB (btN (txt (bts tx) r) 0) = true := by rw [btN_txt (by omega)]; exact a3
      have hend := btN_r (l := bts tx) hr
      rw [hl] at hend hsz
      have hsp : spanN wordB (txt (bts tx) r) = i := by
        refine spanN_eq (fun j hj => by rw [btN_txt (by omega), ← c1 j hj]; exact a4 j hj) (by omega) (.inr ?_)
        rw [btN_txt hi, hdot]
        decide
      have s3 : ((txt (bts tx) r).extract (i + 1) (txt (bts tx) r).size).size = (txt (bts tx) r).size - (i + 1) := size_extract (by omega) (Nat.le_refl _)
      have c3 : ∀ j, j < (txt (bts tx) r).size - (i + 1) → btN ((txt (bts tx) r).extract (i + 1) (txt (bts tx) r).size) j = btN (txt (bts tx) r) (i + 1 + j) := fun j hj => btN_extract _ _ _ j hj
      have hsp2 : spanN wordB ((txt (bts tx) r).extract (i + 1) (txt (bts tx) r).size) = tx.size - (i + 1) := by
        refine spanN_eq (fun j hj => ?_) (by omega) ?_
        · rw [c3 j (by omega), btN_txt (by omega), ← c2 j hj]
          exact b4 j hj
        · by_cases he : tx.size = (txt (bts tx) r).size
          · left; omega
          · right
            rw [c3 _ (by omega), show i + 1 + (tx.size - (i + 1)) = tx.size by omega]
            rcases hend with hend | hend
            · exact absurd hend he
            · rw [hend]; decide
      have hT : nameT (txt (bts tx) r) = ((tx.size : Int), 0) := by
        unfold nameT
        rw [hsp, if_neg (by omega), if_pos ⟨by omega, by rw [btN_txt hi]; exact hdot, by rw [btN_txt (by omega)]; exact b3⟩, hsp2, if_neg (by omega)]
        congr 1
        omega
      rw [nx_name e0, hT, hl]
      show (0, (⟨1, (txt (bts tx) r).extract 0 tx.size, 0⟩ : Tk), tx.size) = _
      rw [← hl, extract_txt, mk_eq]

/-! ### Integers -/
theorem dec_digits (n : Nat) : digL (Lib.decDigits n) := by
  induction n using Nat.strongRecOn with
  | _ n ih =>
    rw [decDigits_step n]
    have hd : 48 ≤ (dig n).toNat ∧ (dig n).toNat ≤ 57 := by rw [dig_nat]; omega
    split
    · intro x hx
      rcases List.mem_singleton.1 hx with rfl
      exact hd
    · rename_i h
      intro x hx
      rcases List.mem_append.1 hx with hx | hx
      · exact ih (n / 10) (by omega) x hx
      · rcases List.mem_singleton.1 hx with rfl
        exact hd
theorem val_dec (n : Nat) : valF 0 (Lib.decDigits n) = n := by
  induction n using Nat.strongRecOn with
  | _ n ih =>
    rw [decDigits_step n]
    split
    · show 0 * 10 + ((dig n).toNat - 48) = n
      rw [dig_nat]
      omega
    · rename_i h
      rw [valF_push, ih (n / 10) (by omega), dig_nat]
      omega
theorem dec_head {n : Nat} : 1 ≤ n → ∃ x q, Lib.decDigits n = x :: q ∧ ¬ x.toNat = 48 := by
  induction n using Nat.strongRecOn with
  | _ n ih =>
    intro h1
    rw [decDigits_step n]
    split
    · rename_i h
      exact ⟨dig n, [], rfl, by rw [dig_nat]; omega⟩
    · rename_i h
      obtain ⟨x, q, hx, hne⟩ := ih (n / 10) (by omega) (by omega)
      exact ⟨x, q ++ [dig n], by rw [hx]; rfl, hne⟩
theorem dec_len (n : Nat) : 1 ≤ (Lib.decDigits n).length := by rw [Lib.decDigits_length]; exact Lib.nDigits_pos n
theorem nDigits_le : ∀ (k u : Nat), u < 10 ^ (k + 1) → Lib.nDigits u ≤ k + 1
  | 0, u, h => by rw [Lib.nDigits_small (by simpa using h)]; omega
  | k + 1, u, h => by
    by_cases h1 : u < 10
    · rw [Lib.nDigits_small h1]; omega
    · rw [Lib.nDigits_big h1]
      have := nDigits_le k (u / 10) (by rw [Nat.pow_succ] at h; omega)
      omega

theorem rd_int {n : Nat} (hn : n ≤ 1073741824) : Rd ⟨2, ⟨#[]⟩, (n : Int)⟩ (Lib.decDigits n) := by
  have hd := dec_digits n
  have hl := dec_len n
  have hv := val_dec n
  have hh : n = 0 ∨ ∃ x q, Lib.decDigits n = x :: q ∧ ¬ x.toNat = 48 := by
    by_cases h : n = 0
    · exact .inl h
    · exact .inr (dec_head (by omega))
  have h00 : n = 0 → Lib.decDigits n = [48] := by rintro rfl; rw [decDigits_step]; rfl
  generalize Lib.decDigits n = l at *
  obtain ⟨x, q, rfl⟩ : ∃ x q, l = x :: q := by
    cases l with
    | nil => simp at hl
    | cons x q => exact ⟨x, q, rfl⟩
  have hx := hd x List.mem_cons_self
  refine ⟨⟨x, q, rfl, by omega, by omega, by omega, by omega⟩, fun r hr => ?_⟩
  have hsz := size_txt (x :: q) r
  have hend := btN_r (l := x :: q) hr
  have hb0 : btN (txt (x :: q) r) 0 = x.toNat := btN_l rfl
  have e0 : lowB (btN (txt (x :: q) r) 0) = false := by rw [hb0]; unfold lowB; rw [decide_eq_false (by omega)]; rfl
  have e1 : numB (btN (txt (x :: q) r) 0) = true := by rw [hb0]; unfold numB; rw [decide_eq_true hx.1, decide_eq_true hx.2]; rfl
  have hall : ∀ j, j < (x :: q).length → numB (btN (txt (x :: q) r) j) = true := fun j hj => by
    obtain ⟨y, hy⟩ : ∃ y, (x :: q)[j]? = some y := ⟨_, List.getElem?_eq_getElem hj⟩
    have := hd y (List.mem_of_getElem? hy)
    rw [btN_l hy]
    unfold numB
    rw [decide_eq_true this.1, decide_eq_true this.2]
    rfl
  have hsp : spanN numB (txt (x :: q) r) = (x :: q).length := by
    refine spanN_eq hall (by omega) ?_
    rcases hend with hend | hend
    · exact .inl hend
    · exact .inr (by rw [hend]; decide)
  have htk : (bts (txt (x :: q) r)).take (x :: q).length = x :: q := by rw [bts_txt, List.take_left']; rfl
  have hbad : badI (txt (x :: q) r) = false := by
    unfold badI
    rw [hsp, hb0]
    have p1 : (decide (1 < (x :: q).length) && decide (x.toNat = 48)) = false := by
      rcases hh with h | ⟨x', q', he, hne⟩
      · have := h00 h
        injection this with h1 h2
        rw [h2]
        rfl
      · injection he with h1 h2
        rw [h1, decide_eq_false hne, Bool.and_false]
    rw [p1, Bool.false_or]
    rcases hend with hend | hend
    · rw [decide_eq_false (by omega)]; rfl
    · rw [hend]; simp [lowB]
  have hT : intT (txt (x :: q) r) = ((n : Int), ((x :: q).length : Int), 0) := by
    unfold intT
    rw [hbad, if_neg (by simp), hsp, decV_val _ (by omega) hall, htk, hv, if_neg (by omega)]
    congr 1
    omega
  rw [nx_int e0 e1, hT]
  rfl

/-! ### Texts, times, symbols -/
theorem rd_text {tx : ByteArray} (h : tx.size ≤ 64) : Rd ⟨3, tx, 0⟩ (39 :: (dbl (bts tx) ++ [39])) := by
  refine ⟨⟨39, _, rfl, by decide, by decide, by decide, by decide⟩, fun r hr => ?_⟩
  have hb0 : btN (txt (39 :: (dbl (bts tx) ++ [39])) r) 0 = 39 := btN_l (x := 39) rfl
  have hdr : (bts (txt (39 :: (dbl (bts tx) ++ [39])) r)).drop 1 = dbl (bts tx) ++ 39 :: r := by rw [bts_txt]; simp
  have hL : litL (dbl (bts tx) ++ 39 :: r) = some (bts tx, (dbl (bts tx)).length + 1) := litL_dbl (bts tx) r (by
    rcases hr with rfl | ⟨q, rfl⟩
    · intro y hy; cases hy
    · intro y hy; cases hy; decide)
  have hO : litO (txt (39 :: (dbl (bts tx) ++ [39])) r) = (0, bts tx, (dbl (bts tx)).length + 1 + 1) := by
    unfold litO
    rw [hdr, hL]
    show (if 64 < (bts tx).length then _ else _) = _
    rw [if_neg (by rw [bts_length]; omega)]
  rw [nx_lit hb0, hO]
  show (0, (⟨3, ⟨(bts tx).toArray⟩, 0⟩ : Tk), (dbl (bts tx)).length + 1 + 1) = _
  rw [mk_eq]
  simp
theorem rd_time {y : Int} {k : Nat} {d : Int} {t : Nat} (h : Dt y k d) (ht : t < 1440) (hn : dayZ y k d ≤ 399999) : Rd ⟨4, ⟨#[]⟩, dayZ y k d * 1440 + (t : Int)⟩ (64 :: fmtL y k d t) := by
  refine ⟨⟨64, _, rfl, by decide, by decide, by decide, by decide⟩, fun r hr => ?_⟩
  have hb0 : btN (txt (64 :: fmtL y k d t) r) 0 = 64 := btN_l (x := 64) rfl
  have hl := fmtL_length y k d t
  have hsz := size_txt (64 :: fmtL y k d t) r
  rw [List.length_cons, hl] at hsz
  have hx : (txt (64 :: fmtL y k d t) r).extract 1 17 = ⟨(fmtL y k d t).toArray⟩ := by
    apply ext_bts
    rw [bts_extract, bts_txt]
    show ((fmtL y k d t) ++ r).take 16 = fmtL y k d t
    rw [List.take_left' hl]
  obtain ⟨p1, p2⟩ := parse_fmt h ht hn
  rw [nx_time hb0, if_neg (by omega), hx, p1, p2, List.length_cons, hl]
theorem rd_sym {tx : ByteArray} (h : symB tx = true) : Rd ⟨5, tx, 0⟩ (bts tx) := by
  have hm := symB_mem h
  have key : ∀ (x : UInt8) (q : List UInt8), bts tx = x :: q → (lowB x.toNat = false ∧ numB x.toNat = false ∧ ¬ x.toNat = 39 ∧ ¬ x.toNat = 64 ∧ ¬ x.toNat = 32 ∧ ¬ x.toNat = 9 ∧ ¬ x.toNat = 10 ∧ ¬ x.toNat = 35) →
      (tx.size = 2 ∨ (tx.size = 1 ∧ symB ⟨#[x, 32]⟩ = false)) → Rd ⟨5, tx, 0⟩ (bts tx) := by
    intro x q hb ⟨n1, n2, n3, n4, n5, n6, n7, n8⟩ hs
    refine ⟨⟨x, q, hb, n5, n6, n7, n8⟩, fun r hr => ?_⟩
    have hl := bts_length tx
    have hsz := size_txt (bts tx) r
    have hb0 : btN (txt (bts tx) r) 0 = x.toNat := btN_l (by rw [hb]; rfl)
    have hex := extract_txt (bts tx) r
    rw [mk_eq, hl] at hex
    rw [hl] at hsz
    have hS : symS (txt (bts tx) r) = tx := by
      rcases hs with hs | ⟨hs, hq⟩
      · rw [symS_at2 (by omega) (by rw [← hs, hex]; exact h), ← hs, hex]
      · rw [symS_at1 ?_ (by omega) (by rw [← hs, hex]; exact h), ← hs, hex]
        rcases hr with rfl | ⟨q2, rfl⟩
        · left; rw [hsz, hs]; simp
        · right
          have hq0 : q = [] := by
            have := hl
            rw [hb, hs] at this
            cases q with
            | nil => rfl
            | cons a b => simp at this
          have e : (txt (bts tx) (32 :: q2)).extract 0 2 = ⟨#[x, 32]⟩ := by
            apply ext_bts
            rw [bts_extract, bts_txt, hb, hq0]
            rfl
          rw [e]
          exact hq
    rw [nx_sym (by rw [hb0]; exact n1) (by rw [hb0]; exact n2) (by rw [hb0]; exact n3) (by rw [hb0]; exact n4), hS, if_neg (by omega), hl]
  simp only [symL, List.mem_cons, List.not_mem_nil, or_false] at hm
  rcases hm with rfl | rfl | rfl | rfl | rfl | rfl | rfl | rfl | rfl | rfl | rfl | rfl | rfl | rfl | rfl | rfl | rfl | rfl
  · exact key 40 [] rfl (by decide) (.inr ⟨rfl, by decide +kernel⟩)
  · exact key 41 [] rfl (by decide) (.inr ⟨rfl, by decide +kernel⟩)
  · exact key 44 [] rfl (by decide) (.inr ⟨rfl, by decide +kernel⟩)
  · exact key 59 [] rfl (by decide) (.inr ⟨rfl, by decide +kernel⟩)
  · exact key 58 [] rfl (by decide) (.inr ⟨rfl, by decide +kernel⟩)
  · exact key 124 [] rfl (by decide) (.inr ⟨rfl, by decide +kernel⟩)
  · exact key 61 [] rfl (by decide) (.inr ⟨rfl, by decide +kernel⟩)
  · exact key 43 [] rfl (by decide) (.inr ⟨rfl, by decide +kernel⟩)
  · exact key 43 [43] rfl (by decide) (.inl rfl)
  · exact key 45 [] rfl (by decide) (.inr ⟨rfl, by decide +kernel⟩)
  · exact key 42 [] rfl (by decide) (.inr ⟨rfl, by decide +kernel⟩)
  · exact key 47 [] rfl (by decide) (.inr ⟨rfl, by decide +kernel⟩)
  · exact key 37 [] rfl (by decide) (.inr ⟨rfl, by decide +kernel⟩)
  · exact key 60 [] rfl (by decide) (.inr ⟨rfl, by decide +kernel⟩)
  · exact key 60 [61] rfl (by decide) (.inl rfl)
  · exact key 62 [] rfl (by decide) (.inr ⟨rfl, by decide +kernel⟩)
  · exact key 62 [61] rfl (by decide) (.inl rfl)
  · exact key 33 [61] rfl (by decide) (.inl rfl)

end Wh
set_option linter.unusedVariables false
set_option linter.unusedSimpArgs false
set_option maxRecDepth 100000
namespace Wh
open Go Go.Proofs.YtmdpjahhhfajaaaGreatDoor

theorem qual_sz {s : ByteArray} (hq : qualB s = true) : s.size ≤ 49 := by
  rcases dot_cases s with hd | ⟨i, hd, hi⟩
  · rw [qualB_no hd] at hq
    have := nameB_all hq
    omega
  · rw [qualB_at hd, Bool.and_eq_true] at hq
    have ha := nameB_all hq.1
    have hb := nameB_all hq.2
    have s1 : (s.extract 0 i).size = i := by rw [size_extract (by omega) (by omega)]; omega
    have s2 : (s.extract (i + 1) s.size).size = s.size - (i + 1) := size_extract (by omega) (Nat.le_refl _)
    omega

/-- What a valid expression's next node finds. -/
theorem valS_step {t : Nd} {l : List Nd} {hs : List Int} (h : valS (t :: l) hs = 0) :
    nodB t = true ∧ ∃ p : Nat, arN t = (p : Int) ∧ p ≤ hs.length ∧ p ≤ 8 ∧ ¬ 64 < maxL (hs.drop (hs.length - p)) + 1 ∧ valS l (hs.take (hs.length - p) ++ [maxL (hs.drop (hs.length - p)) + 1]) = 0 := by
  unfold valS at h
  by_cases c1 : nodB t = false ∨ (hs.length : Int) < arN t
  · rw [if_pos c1] at h; cases h
  · rw [if_neg c1] at h
    have hf : nodB t = true := by
      cases hb : nodB t with
      | true => rfl
      | false => exact absurd (.inl hb) c1
    obtain ⟨q0, q8⟩ := nodB_ar hf
    have hp : arN t = ((arN t).toNat : Int) := by omega
    by_cases c2 : 64 < maxL (hs.drop (hs.length - (arN t).toNat)) + 1
    · rw [if_pos c2] at h; cases h
    · rw [if_neg c2] at h
      refine ⟨hf, (arN t).toNat, hp, ?_, by omega, c2, h⟩
      have : ¬ (hs.length : Int) < arN t := fun hh => c1 (.inr hh)
      omega
theorem valS_end {hs : List Int} (h : valS [] hs = 0) : hs.length = 1 := by
  unfold valS at h
  by_cases c : hs.length = 1
  · exact c
  · rw [if_neg c] at h; cases h
theorem valN_zero {l : List Nd} (h : valN l = 0) : l.length ≤ 256 ∧ valS l [] = 0 := by
  unfold valN at h
  by_cases c : 256 < l.length
  · rw [if_pos c] at h; cases h
  · rw [if_neg c] at h; exact ⟨by omega, h⟩
theorem valN_cut (l : List Nd) : valN (l.take 257) = valN l := by
  unfold valN
  by_cases c : 256 < l.length
  · rw [if_pos c, if_pos (by rw [List.length_take]; omega)]
  · rw [List.take_of_length_le (by omega)]

theorem dec_le11 (n : Nat) (h : n ≤ 1073741824) : (Lib.decDigits n).length ≤ 10 := by
  rw [Lib.decDigits_length]
  exact nDigits_le 9 n (by have : (10 : Nat) ^ (9 + 1) = 10000000000 := rfl; omega)
theorem valid_cases8 {v : V} (h : validB v.k v.n v.s = true) :
    (v.k = 0 ∧ v.n = 0 ∧ v.s = ⟨#[]⟩) ∨ (v.k = 1 ∧ (v.n = 0 ∨ v.n = 1) ∧ v.s = ⟨#[]⟩) ∨ (v.k = 2 ∧ -1073741824 ≤ v.n ∧ v.n ≤ 1073741824 ∧ v.s = ⟨#[]⟩) ∨ (v.k = 3 ∧ v.n = 0 ∧ v.s.size ≤ 64) ∨ (v.k = 4 ∧ 0 ≤ v.n ∧ v.n ≤ 575999999 ∧ v.s = ⟨#[]⟩) := by
  have he : v.s.toList.isEmpty = true → v.s = ⟨#[]⟩ := fun h => by
    have h1 : v.s.toList = [] := by simpa using h
    rw [toList_bts] at h1
    exact ext_bts h1
  unfold validB at h
  simp only [Bool.or_eq_true, Bool.and_eq_true, decide_eq_true_eq] at h
  rcases h with (((⟨⟨a, b⟩, c⟩ | ⟨⟨a, b⟩, c⟩) | ⟨⟨⟨a, b⟩, b2⟩, c⟩) | ⟨⟨a, b⟩, c⟩) | ⟨⟨⟨a, b⟩, b2⟩, c⟩
  · exact .inl ⟨a, b, he c⟩
  · exact .inr (.inl ⟨a, b, he c⟩)
  · exact .inr (.inr (.inl ⟨a, b, b2, he c⟩))
  · exact .inr (.inr (.inr (.inl ⟨a, b, c⟩)))
  · exact .inr (.inr (.inr (.inr ⟨a, b, b2, he c⟩)))
theorem cstP_len {v : V} (h : validB v.k v.n v.s = true) : (cstP v).tx.length ≤ 200 := by
  unfold cstP
  rcases valid_cases8 h with ⟨a, _⟩ | ⟨a, _⟩ | ⟨a, b, c, _⟩ | ⟨a, _, c⟩ | ⟨a, _⟩
  · rw [a, if_neg (by decide), if_neg (by decide), if_neg (by decide), if_neg (by decide)]; decide
  · rw [a, if_pos rfl]
    by_cases h1 : v.n = 1
    · rw [if_pos h1]; decide
    · rw [if_neg h1]; decide
  · rw [a, if_neg (by decide), if_pos rfl]
    by_cases h1 : v.n < 0
    · rw [if_pos h1]
      have := dec_le11 (-v.n).toNat (by omega)
      simp only [List.length_cons]
      omega
    · rw [if_neg h1]
      have := dec_le11 v.n.toNat (by omega)
      simp only
      omega
  · rw [a, if_neg (by decide), if_neg (by decide), if_pos rfl]
    have := dbl_length_le (bts v.s)
    rw [bts_length] at this
    simp only [List.length_cons, List.length_append, List.length_nil]
    omega
  · rw [a, if_neg (by decide), if_neg (by decide), if_neg (by decide), if_pos rfl]
    have := timL_len v.n
    simp only [List.length_cons]
    omega
theorem binP_word (op : Int) : (bts (binP op).1).length ≤ 3 := by
  unfold binP
  repeat' split
  all_goals decide
theorem nodP_len {t : Nd} (h : nodB t = true) {xs : List Pc} (hx : (xs.length : Int) = arN t) : (nodP t xs).tx.length ≤ totP xs + 200 := by
  have hnm : qualB t.nm = true → (bts t.nm).length ≤ 49 := fun h => by rw [bts_length]; exact qual_sz h
  unfold nodB at h
  unfold nodP
  by_cases h0 : t.op = 0
  · rw [if_pos h0] at h ⊢
    rw [Bool.and_eq_true] at h
    have := cstP_len h.1
    omega
  rw [if_neg h0] at h ⊢
  by_cases h1 : t.op = 1
  · rw [if_pos h1] at h ⊢
    simp only [Bool.and_eq_true, colB] at h
    have := (nameB_all h.2.2.1).2.1
    simp only [bts_length]
    omega
  rw [if_neg h1] at h ⊢
  by_cases h2 : t.op = 2
  · rw [if_pos h2]
    have a1 := encL_len (xs.getD 0 noPc) 2
    have a2 := totP_getD xs 0
    have a3 : (bts notS).length = 3 := by decide
    simp only [List.length_append, List.length_cons]
    omega
  rw [if_neg h2]
  by_cases h3 : t.op = 3
  · rw [if_pos h3]
    have a1 := encL_len (xs.getD 0 noPc) 7
    have a2 := totP_getD xs 0
    by_cases hi : (xs.getD 0 noPc).ig = true
    · rw [if_pos hi]
      simp only [List.length_append, List.length_cons, List.length_nil]
      omega
    · rw [if_neg hi]
      simp only [List.length_cons]
      omega
  rw [if_neg h3]
  by_cases hb : 4 ≤ t.op ∧ t.op ≤ 15
  · rw [if_pos hb]
    have ha : arN t = 2 := by
      unfold arN
      rw [if_neg (by omega), if_neg (by omega), if_neg (by omega), if_neg (by omega), if_pos (by omega)]
    have a0 := binP_word t.op
    have a1 := encL_len (xs.getD 0 noPc) (binP t.op).2.2.1
    have a2 := encL_len (xs.getD 1 noPc) (binP t.op).2.2.2
    have a3 := tot2 xs (by omega)
    simp only [List.length_append, List.length_cons]
    omega
  rw [if_neg hb]
  have hfn : (bts (fnS t)).length ≤ 49 ∧ (t.op = 20 → (bts t.nm).length ≤ 49) := by
    by_cases h20 : t.op = 20
    · rw [if_pos h20] at h
      simp only [Bool.and_eq_true, refB] at h
      refine ⟨?_, fun _ => hnm h.2.2.1⟩
      unfold fnS
      rw [if_neg (by omega), if_neg (by omega), if_neg (by omega), if_neg (by omega), if_pos h20]
      decide
    · refine ⟨?_, fun h => absurd h h20⟩
      rw [if_neg h20] at h
      unfold fnS
      by_cases c1 : t.op = 17
      · rw [if_pos c1]; decide
      rw [if_neg c1]
      by_cases c2 : t.op = 18
      · rw [if_pos c2]; decide
      rw [if_neg c2]
      by_cases c3 : t.op = 16
      · rw [if_pos c3]; decide
      rw [if_neg c3]
      by_cases c4 : t.op = 19
      · rw [if_pos c4]; decide
      rw [if_neg c4, if_neg h20]
      by_cases h21 : t.op = 21
      · rw [if_pos h21] at h
        simp only [Bool.and_eq_true, refB] at h
        exact hnm h.2.2.2.1.1
      · rw [if_neg h21] at h
        simp only [Bool.and_eq_true, decide_eq_true_eq] at h
        have h4 := h.1
        unfold arN at h4
        rw [if_neg h21, if_neg (by omega), if_neg (by omega), if_neg (by omega), if_neg (by omega)] at h4
        omega
  have hal : xs.length ≤ 8 := by
    have h' : nodB t = true := by
      unfold nodB
      rw [if_neg h0, if_neg h1]
      exact h
    have := nodB_ar h'
    omega
  have hc := comL_len (xs.map (·.tx) ++ if t.op = 20 then [bts t.nm] else [])
  have hm : ((xs.map (·.tx)).map List.length).sum = totP xs := by unfold totP; rw [List.map_map]; rfl
  by_cases h20 : t.op = 20
  · rw [if_pos h20] at hc ⊢
    have := hfn.2 h20
    simp only [List.map_append, List.sum_append, hm, List.length_append, List.length_map, List.map_cons, List.map_nil, List.sum_cons, List.sum_nil, List.length_cons, List.length_nil] at hc ⊢
    omega
  · rw [if_neg h20] at hc ⊢
    simp only [List.append_nil, hm, List.length_append, List.length_map, List.length_cons, List.length_nil] at hc ⊢
    omega

/-- cuts -/
theorem take_take_app {α : Type} (k : Nat) (a b : List α) : (a.take k ++ b).take k = (a ++ b).take k := by
  rw [List.take_append, List.take_append, List.take_take, Nat.min_self, List.length_take]
  by_cases h : a.length ≤ k
  · rw [Nat.min_eq_right h]
  · rw [Nat.min_eq_left (by omega), Nat.sub_self, show k - a.length = 0 by omega]
theorem take_app_take {α : Type} (k : Nat) (a b : List α) : (a ++ b.take k).take k = (a ++ b).take k := by
  rw [List.take_append, List.take_append, List.take_take]
  congr 2
  omega
theorem cut_flat {α : Type} (k : Nat) (ls : List (List α)) (t : List α) : ((ls.map (·.take k)).flatten ++ t).take k = (ls.flatten ++ t).take k := by
  induction ls with
  | nil => rfl
  | cons x ls ih =>
    rw [List.map_cons, List.flatten_cons, List.flatten_cons, List.append_assoc, List.append_assoc, take_take_app, ← take_app_take, ih, take_app_take]

end Wh
