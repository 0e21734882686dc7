/-
  Every well-formed token has a text that package token writes and that is read; token.Join for any list. (For a seat without the reference's Join; made out of XTBun by program.)
-/
import Derived.Test.YtloccocengegnaaDoorTRound
import Derived.Test.YtloccocengegnaaDoorTPJoin
import Derived.Test.YtloccocengegnaaDoorTWr
import Derived.Test.YtloccocengegnaaDoorGBox
set_option linter.unusedVariables false
set_option maxRecDepth 100000
namespace Go.Proofs.YtloccocengegnaaDoor
open Go.RowKit Wh

/-- How the token is written; that it is read again; how long its text is. -/
structure WrP (t : Tk) (l : List UInt8) : Prop where
  p : PWr t l
  rd : Rd t l
  sz : l.length ≤ szT t

theorem empty_tx {s : ByteArray} (h : empB s = true) : s = ⟨#[]⟩ := empty_of_size (by unfold empB at h; exact of_decide_eq_true h)
theorem wr_ex {t : Tk} (h : okT t = true) : ∃ l, WrP t l := by
  obtain ⟨k, tx, nm⟩ := t
  have hok := h
  unfold okT at h
  simp only at h
  by_cases k1 : k = 1
  · subst k1
    rw [if_pos rfl, Bool.and_eq_true, decide_eq_true_eq] at h
    obtain ⟨hq, rfl⟩ := h
    exact ⟨bts tx, pwrite_else 1 tx 0 (by decide) (by decide) (by decide), rd_name hq, by rw [bts_length]; exact Nat.le_refl _⟩
  · rw [if_neg k1] at h
    by_cases k2 : k = 2
    · subst k2
      rw [if_pos rfl, Bool.and_eq_true, Bool.and_eq_true, decide_eq_true_eq, decide_eq_true_eq] at h
      obtain ⟨he, h0, h1⟩ := h
      obtain rfl := empty_tx he
      obtain ⟨n, rfl⟩ : ∃ n : Nat, nm = (n : Int) := ⟨nm.toNat, by omega⟩
      refine ⟨Lib.decDigits n, pwrite_int n (by omega) _, rd_int (by omega), ?_⟩
      rw [Lib.decDigits_length]
      exact nDigits_le 9 n (by have : (10 : Nat) ^ (9 + 1) = 10000000000 := rfl; omega)
    · rw [if_neg k2] at h
      by_cases k3 : k = 3
      · subst k3
        rw [if_pos rfl, Bool.and_eq_true, decide_eq_true_eq, decide_eq_true_eq] at h
        obtain ⟨hs, rfl⟩ := h
        exact ⟨39 :: (dbl (bts tx) ++ [39]), pwrite_text tx 0 hs, rd_text hs, by show _ ≤ (dbl (bts tx)).length + 2; simp⟩
      · rw [if_neg k3] at h
        by_cases k4 : k = 4
        · subst k4
          rw [if_pos rfl, Bool.and_eq_true, Bool.and_eq_true, decide_eq_true_eq, decide_eq_true_eq] at h
          obtain ⟨he, h0, h1⟩ := h
          obtain rfl := empty_tx he
          obtain ⟨y, k, d, t, hd, ht, hn, rfl⟩ := time_of h0 h1
          exact ⟨64 :: fmtL y k d t, pwrite_time y k d t hd ht hn _, rd_time hd ht hn, by show (fmtL y k d t).length + 1 ≤ 17; rw [fmtL_length]; omega⟩
        · rw [if_neg k4] at h
          by_cases k5 : k = 5
          · subst k5
            rw [if_pos rfl, Bool.and_eq_true, decide_eq_true_eq] at h
            obtain ⟨hq, rfl⟩ := h
            exact ⟨bts tx, pwrite_else 5 tx 0 (by decide) (by decide) (by decide), rd_sym hq, by rw [bts_length]; exact Nat.le_refl _⟩
          · rw [if_neg k5] at h; cases h

/-- The texts of a well-formed list. -/
theorem texts_ex {ts : List TA} (h : valE ts = 0) : ∃ ls : List (List UInt8), ls.length + 1 = ts.length ∧ (∀ (i : Nat) (t : TA) (l : List UInt8), ts[i]? = some t → ls[i]? = some l → WrP t.1 l ∧ okT t.1 = true) ∧ (∀ t, ts[ls.length]? = some t → t.1 = noT) := by
  obtain ⟨h1, h2⟩ := valE_zero h
  obtain ⟨ls, hl, hv⟩ := choose_list (fun i l => ∀ t, ts[i]? = some t → WrP t.1 l ∧ okT t.1 = true) (ts.length - 1) fun i hi => by
    obtain ⟨t, ht⟩ : ∃ t, ts[i]? = some t := ⟨_, List.getElem?_eq_getElem (by omega)⟩
    have hok := h2 i (by omega)
    rw [okAt_mid ht (by omega)] at hok
    obtain ⟨l, hw⟩ := wr_ex hok
    exact ⟨l, fun t' ht' => by rw [ht] at ht'; cases ht'; exact ⟨hw, hok⟩⟩
  refine ⟨ls, by omega, fun i t l ht hi => hv i l hi t ht, fun t ht => ?_⟩
  have hok := h2 ls.length (by omega)
  rw [okAt_last ht (by omega), Bool.and_eq_true, Bool.and_eq_true, decide_eq_true_eq, decide_eq_true_eq] at hok
  obtain ⟨⟨k, tx, nm⟩, p⟩ := t
  simp only at hok
  obtain ⟨rfl, he, rfl⟩ := hok
  obtain rfl := empty_tx he
  rfl
theorem jn_szL : ∀ (ls : List (List UInt8)) (ms : List TA), ls.length = ms.length → (∀ (i : Nat) (t : TA) (l : List UInt8), ms[i]? = some t → ls[i]? = some l → l.length ≤ szT t.1) → (jn ls).length ≤ szL ms
  | [], ms, _, _ => Nat.zero_le _
  | [l], ms, hl, h => by
    cases ms with
    | nil => simp at hl
    | cons t ms =>
      have := h 0 t l rfl rfl
      rw [jn_one]
      unfold szL
      omega
  | l :: l2 :: ls, ms, hl, h => by
    cases ms with
    | nil => simp at hl
    | cons t ms =>
      have h1 := h 0 t l rfl rfl
      have h2 := jn_szL (l2 :: ls) ms (by simpa using hl) fun i t' l' ht hl' => h (i + 1) t' l' (by simpa using ht) (by simpa using hl')
      rw [jn_cons, List.length_append, List.length_cons]
      unfold szL
      omega
theorem szL_take_le : ∀ (ms : List TA) (k : Nat), szL (ms.take k) ≤ szL ms
  | [], k => by simp
  | t :: ms, 0 => Nat.zero_le _
  | t :: ms, k + 1 => by
    rw [List.take_succ_cons]
    have := szL_take_le ms k
    unfold szL
    omega

/-- token.Join: its result. -/
theorem pjoin_ex (ts : List TA) (hlen : ts.length ≤ 1000000) (hz : ∀ t ∈ ts, t.1.tx.size ≤ 9223372036854775800) :
    ∃ (l : List UInt8) (x : Int),
      (∀ a cap W, IsToks W a ts.length ts → ts.length ≤ cap → cap ≤ maxLen → (a = none → cap = 0) → Glo W → Calls Tryd.prog 12 #[.slice a ts.length cap] W (IsTxt l x W)) ∧
      (valE ts = 8 → x = 8) ∧ (x = 0 → valE ts = 0 ∧ ∃ o, splitP ⟨l.toArray⟩ = ⟨o, 0, 0⟩ ∧ o.map (·.1) = ts.map (·.1)) ∧ (valE ts = 0 → szL ts ≤ 65536 → x = 0) := by
  rcases valE_cases ts with hE | hE
  · obtain ⟨ls, hll, hw, hlast⟩ := texts_ex hE
    have hl2 : ∀ l ∈ ls, l.length ≤ 1000000 := fun l hl => by
      obtain ⟨i, hi⟩ := List.mem_iff_getElem?.1 hl
      have hlt := (List.getElem?_eq_some_iff.1 hi).1
      obtain ⟨t, ht⟩ : ∃ t, ts[i]? = some t := ⟨_, List.getElem?_eq_getElem (by omega)⟩
      obtain ⟨h1, h2⟩ := hw i t l ht hi
      have := h1.sz
      have := okT_sz h2
      omega
    refine ⟨(jnO ls).1, (jnO ls).2, fun a cap W hs hc hm hn hg => ?_, fun h => ?_, fun h => ?_, fun _ h => ?_⟩
    · exact pjoin_ok a ts.length cap ts ls W hs hlen hc hm hn hz hE hll (fun i t l ht hl => (hw i t l ht hl).1.p) hl2 hg
    · rw [hE] at h; cases h
    · refine ⟨hE, ?_⟩
      unfold jnO at h ⊢
      by_cases hg : 65536 < (jn ls).length
      · rw [if_pos hg] at h; cases h
      · rw [if_neg hg]
        exact split_join (S := ⟨(jn ls).toArray⟩) rfl (by omega) hll (fun i t l ht hl => (hw i t l ht hl).1.rd) hlast
    · have hj := jn_szL ls (ts.take ls.length) (by rw [List.length_take]; omega) fun i t l ht hl => by
        have hlt := (List.getElem?_eq_some_iff.1 hl).1
        rw [List.getElem?_take_of_lt hlt] at ht
        exact (hw i t l ht hl).1.sz
      have := szL_take_le ts ls.length
      unfold jnO
      rw [if_neg (by omega)]
  · refine ⟨[], 8, fun a cap W hs hc hm hn hg => ?_, fun _ => rfl, (fun h => by cases h), (fun h => by rw [hE] at h; cases h)⟩
    · exact pjoin_bad a ts.length cap ts W hs (by omega) hz hE

end Go.Proofs.YtloccocengegnaaDoor

