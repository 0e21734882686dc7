/-
  Joined texts are split again; the tokens of a text are well-formed. Plainly.
-/
import Derived.Test.YtloccocengegnaaDoorTRead
import Derived.Test.YtloccocengegnaaDoorTJn
import Derived.Test.YtloccocengegnaaDoorTPMore
set_option linter.unusedVariables false
set_option maxRecDepth 100000
namespace Wh
open Go Go.Proofs.YtloccocengegnaaDoor

theorem bts_inj {s : ByteArray} {l : List UInt8} (h : bts s = l) : s = ⟨l.toArray⟩ := ext_bts h
/-- The tokens of a joined text. -/
theorem split_jn (S : ByteArray) : ∀ (ps : List (Tk × List UInt8)) (pre : List UInt8) (sp : Bool), (∀ p ∈ ps, Rd p.1 p.2) →
    bts S = pre ++ (if ps = [] then [] else (if sp = true then 32 :: jn (ps.map (·.2)) else jn (ps.map (·.2)))) →
    ∃ o, splitA S pre.length = ⟨o, 0, 0⟩ ∧ o.map (·.1) = ps.map (·.1) ++ [noT]
  | [], pre, sp, _, hS => by
    rw [if_pos rfl, List.append_nil] at hS
    have hsz : S.size = pre.length := by rw [← bts_length, hS]
    refine ⟨[(noT, (S.size : Int))], ?_, rfl⟩
    exact splitA_end (by rw [skip_end _ (by omega)]; omega)
  | (t, l) :: ps, pre, sp, hR, hS => by
    have hr := hR (t, l) List.mem_cons_self
    obtain ⟨x, q, hl, n1, n2, n3, n4⟩ := hr.one
    simp only at hl
    rw [if_neg (by simp)] at hS
    -- what follows the token
    obtain ⟨r, hre, hjn, hrest⟩ : ∃ r, EndR r ∧ jn (((t, l) :: ps).map (·.2)) = l ++ r ∧ r = (if ps = [] then [] else 32 :: jn (ps.map (·.2))) := by
      cases ps with
      | nil => exact ⟨[], .inl rfl, by simp [jn_one], rfl⟩
      | cons p ps =>
        refine ⟨32 :: jn ((p :: ps).map (·.2)), .inr ⟨_, rfl⟩, ?_, by rw [if_neg (by simp)]⟩
        simp only [List.map_cons]
        exact jn_cons _ _ _
    rw [hjn] at hS
    -- the place of the token
    obtain ⟨pre2, hS2, hsk⟩ : ∃ pre2, bts S = pre2 ++ (l ++ r) ∧ skipN S false pre.length = pre2.length := by
      cases sp with
      | false =>
        refine ⟨pre, hS, ?_⟩
        have hat : (bts S)[pre.length]? = some x := by rw [hS, List.getElem?_append_right (Nat.le_refl _), Nat.sub_self, hl]; rfl
        have hlt := (List.getElem?_eq_some_iff.1 hat).1
        rw [bts_length] at hlt
        have hb := btN_of hat
        exact skip_stop hlt (by rw [hb]; exact n1) (by rw [hb]; exact n2) (by rw [hb]; exact n3) (by rw [hb]; exact n4)
      | true =>
        rw [if_pos rfl] at hS
        refine ⟨pre ++ [32], by rw [hS]; simp, ?_⟩
        have hat : (bts S)[pre.length]? = some 32 := by rw [hS, List.getElem?_append_right (Nat.le_refl _), Nat.sub_self]; rfl
        have hat2 : (bts S)[pre.length + 1]? = some x := by rw [hS, List.getElem?_append_right (by omega), show pre.length + 1 - pre.length = 1 by omega, hl]; rfl
        have hlt := (List.getElem?_eq_some_iff.1 hat).1
        have hlt2 := (List.getElem?_eq_some_iff.1 hat2).1
        rw [bts_length] at hlt hlt2
        have hb := btN_of hat
        have hb2 := btN_of hat2
        rw [skip_blank hlt (.inl (by rw [hb]; rfl)), skip_stop hlt2 (by rw [hb2]; exact n1) (by rw [hb2]; exact n2) (by rw [hb2]; exact n3) (by rw [hb2]; exact n4)]
        simp
    have hsz : S.size = pre2.length + (l.length + r.length) := by rw [← bts_length, hS2]; simp
    have hl1 : 1 ≤ l.length := by rw [hl]; simp
    have hex : S.extract pre2.length S.size = txt l r := by
      apply ext_bts
      rw [bts_extract, hS2, bts_txt, List.drop_left' rfl, List.take_of_length_le (by simp; omega)]
    have hnx := hr.nx r hre
    have hok := splitA_ok (s := S) (i := pre.length) hsk (by omega) (by rw [hex, hnx])
    rw [hex, hnx] at hok
    simp only at hok
    obtain ⟨o, ho, hm⟩ := split_jn S ps (pre2 ++ l) true (fun p hp => hR p (List.mem_cons_of_mem _ hp)) (by rw [hS2, hrest]; simp)
    rw [List.length_append] at ho
    rw [ho, accO_good] at hok
    exact ⟨_, hok, by simp [hm]⟩

/-- The tokens of a joined text, from its beginning. -/
theorem split_join {ts : List TA} {ls : List (List UInt8)} {S : ByteArray} (hS : bts S = jn ls) (hz : (jn ls).length ≤ 65536) (hll : ls.length + 1 = ts.length) (hR : ∀ (i : Nat) (t : TA) (l : List UInt8), ts[i]? = some t → ls[i]? = some l → Rd t.1 l) (hlast : ∀ t, ts[ls.length]? = some t → t.1 = noT) :
    ∃ o, splitP S = ⟨o, 0, 0⟩ ∧ o.map (·.1) = ts.map (·.1) := by
  have hsz : S.size = (jn ls).length := by rw [← bts_length, hS]
  obtain ⟨ms, last, rfl⟩ : ∃ ms last, ts = ms ++ [last] := by
    rcases List.eq_nil_or_concat ts with h | ⟨ms, last, h⟩
    · rw [h] at hll; simp at hll
    · exact ⟨ms, last, by rw [h, List.concat_eq_append]⟩
  have hml : ms.length = ls.length := by rw [List.length_append] at hll; simp at hll; omega
  have hla : last.1 = noT := hlast last (by rw [← hml, List.getElem?_append_right (Nat.le_refl _), Nat.sub_self]; rfl)
  have hmap2 : ((ms.map (·.1)).zip ls).map (·.2) = ls := List.map_snd_zip (by rw [List.length_map]; omega)
  have hmap1 : ((ms.map (·.1)).zip ls).map (·.1) = ms.map (·.1) := List.map_fst_zip (by rw [List.length_map]; omega)
  obtain ⟨o, ho, hm⟩ := split_jn S ((ms.map (·.1)).zip ls) [] false (fun p hp => by
    obtain ⟨i, hi⟩ := List.mem_iff_getElem?.1 hp
    rw [List.getElem?_zip_eq_some] at hi
    obtain ⟨h1, h2⟩ := hi
    rw [List.getElem?_map] at h1
    cases hmi : ms[i]? with
    | none => rw [hmi] at h1; cases h1
    | some t =>
      rw [hmi] at h1
      have h1' : t.1 = p.1 := Option.some.inj h1
      have := hR i t p.2 (by rw [List.getElem?_append_left (List.getElem?_eq_some_iff.1 hmi).1]; exact hmi) h2
      rw [h1'] at this
      exact this) (by
    rw [hmap2, hS]
    cases ls with
    | nil => rw [if_pos (by simp)]; rfl
    | cons l ls => rw [if_neg (by cases ms with | nil => simp at hml | cons m ms => simp)]; rfl)
  refine ⟨o, ?_, ?_⟩
  · unfold splitP
    rw [if_neg (by omega)]
    exact ho
  · rw [hm, hmap1, List.map_append]
    simp [hla]

/-! ### The tokens of a text -/
/-- How many bytes a token is written with, at most. -/
def szT (t : Tk) : Nat := if t.k = 2 then 10 else if t.k = 3 then (dbl (bts t.tx)).length + 2 else if t.k = 4 then 17 else t.tx.size
theorem okT_sz {t : Tk} (h : okT t = true) : szT t ≤ 200 := by
  unfold okT at h
  unfold szT
  by_cases h2 : t.k = 2
  · rw [if_pos h2]; omega
  · rw [if_neg h2]
    by_cases h3 : t.k = 3
    · rw [if_pos h3]
      rw [if_neg (by omega), if_neg h2, if_pos h3, Bool.and_eq_true, decide_eq_true_eq] at h
      have := dbl_length_le (bts t.tx)
      rw [bts_length] at this
      omega
    · rw [if_neg h3]
      by_cases h4 : t.k = 4
      · rw [if_pos h4]; omega
      · rw [if_neg h4]
        by_cases h1 : t.k = 1
        · rw [if_pos h1, Bool.and_eq_true] at h
          have hq := h.1
          rcases dot_cases t.tx with hd | ⟨i, hd, hi⟩
          · rw [qualB_no hd] at hq
            have := nameB_all hq
            omega
          · rw [qualB_at hd, Bool.and_eq_true] at hq
            have ha := nameB_all hq.1
            have hb := nameB_all hq.2
            have s1 : (t.tx.extract 0 i).size = i := by rw [size_extract (by omega) (by omega)]; omega
            have s2 : (t.tx.extract (i + 1) t.tx.size).size = t.tx.size - (i + 1) := size_extract (by omega) (Nat.le_refl _)
            omega
        · rw [if_neg h1, if_neg h2, if_neg h3, if_neg h4] at h
          by_cases h5 : t.k = 5
          · rw [if_pos h5, Bool.and_eq_true] at h
            have hs := h.1
            unfold symB at hs
            rw [Bool.or_eq_true, Bool.and_eq_true, Bool.and_eq_true, decide_eq_true_eq, decide_eq_true_eq] at hs
            omega
          · rw [if_neg h5] at h; cases h

theorem parse_bd {s : ByteArray} (h : parseE s = 0) : 0 ≤ parseZ s ∧ parseZ s ≤ 575999999 := by
  unfold parseE at h
  unfold parseZ
  by_cases hf : formB s = true
  · rw [if_pos hf] at h ⊢
    obtain ⟨d1, d2, d3, d4, d5⟩ := form_digits hf
    have b4 := (numAt_bd (k := 2) (by omega) d4).1
    have b5 := (numAt_bd (k := 2) (by omega) d5).1
    have bd := daysZ_bd (numAt s 0 4) (numAt s 5 2) (numAt s 8 2)
    generalize numAt s 0 4 = y at *
    generalize numAt s 5 2 = mo at *
    generalize numAt s 8 2 = d at *
    generalize numAt s 11 2 = hh at *
    generalize numAt s 14 2 = mi at *
    unfold partZ
    rw [h, if_pos rfl]
    unfold partE at h
    split at h
    · cases h
    · rename_i hn
      unfold minZ at *
      omega
  · rw [if_neg hf] at h; cases h

theorem nx_ok {s : ByteArray} (hp : 0 < s.size) (he : (nx s).1 = 0) : okT (nx s).2.1 = true ∧ szT (nx s).2.1 ≤ 10 * (nx s).2.2 := by
  have hpos := nx_pos hp he
  cases h0 : lowB (btN s 0) with
  | true =>
    rw [nx_name h0] at he hpos ⊢
    simp only at he hpos ⊢
    have hn := spanN_le wordB s
    have hn1 := spanN_pos (p := wordB) hp (low_word h0)
    have hT : ∃ m : Nat, (nameT s).1 = (m : Int) ∧ m ≤ s.size ∧ qualB (s.extract 0 m) = true := by
      unfold nameT at he ⊢
      by_cases h24 : 24 < spanN wordB s
      · rw [if_pos h24] at he; cases he
      · rw [if_neg h24] at he ⊢
        by_cases hc : spanN wordB s + 1 < s.size ∧ btN s (spanN wordB s) = 46 ∧ lowB (btN s (spanN wordB s + 1)) = true
        · rw [if_pos hc] at he ⊢
          by_cases hk : 24 < spanN wordB (s.extract (spanN wordB s + 1) s.size)
          · rw [if_pos hk] at he; cases he
          · rw [if_neg hk]
            obtain ⟨q1, q2, q3⟩ := qual_names (s := s) rfl hn1 h0 hc.1 hc.2.1 hc.2.2 rfl
            refine ⟨_, ?_, q3, by rw [q1, decide_eq_true (by omega), decide_eq_true (by omega)]; rfl⟩
            simp only
            omega
        · rw [if_neg hc]
          exact ⟨spanN wordB s, rfl, hn, by rw [qual_name rfl hn1 h0, decide_eq_true (by omega)]⟩
    obtain ⟨m, hm, hms, hq⟩ := hT
    rw [hm] at hpos ⊢
    have hx : (m : Int).toNat = m := rfl
    rw [hx] at hpos ⊢
    constructor
    · unfold okT
      rw [if_pos rfl]
      simp only
      rw [hq]
      rfl
    · show (s.extract 0 m).size ≤ 10 * m
      rw [size_extract (by omega) hms]
      omega
  | false =>
    cases h1 : numB (btN s 0) with
    | true =>
      rw [nx_int h0 h1] at he hpos ⊢
      simp only at he hpos ⊢
      have hb : 0 ≤ (intT s).1 ∧ (intT s).1 ≤ 1073741824 := by
        unfold intT at he ⊢
        by_cases hbad : badI s = true
        · rw [if_pos hbad] at he; cases he
        · rw [if_neg hbad] at he ⊢
          by_cases hv : 1073741824 < decV s (spanN numB s)
          · rw [if_pos hv] at he; cases he
          · rw [if_neg hv]
            have := decV_bd (s := s) (spanN numB s) fun j hj => span_all hj
            exact ⟨this.1, by show decV s (spanN numB s) ≤ 1073741824; omega⟩
      constructor
      · unfold okT empB
        rw [if_neg (by simp), if_pos rfl]
        simp only
        rw [decide_eq_true hb.1, decide_eq_true hb.2]
        rfl
      · show 10 ≤ 10 * _
        omega
    | false =>
      by_cases h2 : btN s 0 = 39
      · rw [nx_lit h2] at he hpos ⊢
        simp only at he hpos ⊢
        unfold litO at he hpos ⊢
        cases hl : litL ((bts s).drop 1) with
        | none => rw [hl] at he; cases he
        | some p =>
          rw [hl] at he hpos
          simp only at he hpos ⊢
          by_cases h64 : 64 < p.1.length
          · rw [if_pos h64] at he; cases he
          · rw [if_neg h64] at hpos ⊢
            obtain ⟨a, b, c, d⟩ := litL_facts _ _ (Nat.le_refl _) p.1 p.2 hl
            have hsz : (⟨p.1.toArray⟩ : ByteArray).size = p.1.length := by show p.1.toArray.size = _; simp
            constructor
            · unfold okT
              rw [if_neg (by simp), if_neg (by simp), if_pos rfl]
              simp only
              rw [hsz, decide_eq_true (by omega)]
              rfl
            · show (dbl p.1).length + 2 ≤ 10 * (p.2 + 1)
              omega
      · by_cases h3 : btN s 0 = 64
        · rw [nx_time h3] at he hpos ⊢
          by_cases h17 : s.size < 17
          · rw [if_pos h17] at he; cases he
          · rw [if_neg h17] at he hpos ⊢
            simp only at he hpos ⊢
            have hb := parse_bd he
            constructor
            · unfold okT empB
              rw [if_neg (by simp), if_neg (by simp), if_neg (by simp), if_pos rfl]
              simp only
              rw [decide_eq_true hb.1, decide_eq_true hb.2]
              rfl
            · show 17 ≤ 10 * 17
              omega
        · rw [nx_sym h0 h1 h2 h3] at he hpos ⊢
          by_cases hz : (symS s).size = 0
          · rw [if_pos hz] at he; cases he
          · rw [if_neg hz] at hpos ⊢
            simp only at hpos ⊢
            have hs : symB (symS s) = true := by
              by_cases hs2 : 2 ≤ s.size ∧ symB (s.extract 0 2) = true
              · rw [symS_at2 hs2.1 hs2.2]; exact hs2.2
              · have hno : s.size < 2 ∨ symB (s.extract 0 2) = false := by
                  by_cases h : 2 ≤ s.size
                  · right
                    cases hx : symB (s.extract 0 2) with
                    | false => rfl
                    | true => exact absurd ⟨h, hx⟩ hs2
                  · left; omega
                cases hs1 : symB (s.extract 0 1) with
                | true => rw [symS_at1 hno (by omega) hs1]; exact hs1
                | false =>
                  rw [symS_at0 hno (.inr hs1)] at hz
                  exact absurd rfl hz
            constructor
            · unfold okT
              rw [if_neg (by simp), if_neg (by simp), if_neg (by simp), if_neg (by simp), if_pos rfl]
              simp only
              rw [hs]
              rfl
            · show (symS s).size ≤ 10 * (symS s).size
              omega

/-- How many bytes tokens are written with, a space behind each, at most. -/
def szL : List TA → Nat
  | [] => 0
  | t :: l => szT t.1 + 1 + szL l
theorem splitF_ok (s : ByteArray) : ∀ (n i : Nat) (l : List TA) (j : Nat), i ≤ s.size → splitF s n i = ⟨l, j, 0⟩ → ∃ ms p, l = ms ++ [(noT, p)] ∧ (∀ m ∈ ms, okT m.1 = true) ∧ szL ms ≤ 11 * (s.size - i) ∧ ms.length ≤ s.size - i
  | 0, i, l, j, _, h => by
    unfold splitF at h
    injection h with _ _ h
    cases h
  | n + 1, i, l, j, hi, h => by
    have hge := skip_ge s false i
    unfold splitF at h
    by_cases h1 : s.size ≤ skipN s false i
    · rw [if_pos h1] at h
      injection h with h2 h3
      exact ⟨[], _, by rw [← h2]; rfl, (fun m hm => by cases hm), Nat.zero_le _, Nat.zero_le _⟩
    · rw [if_neg h1] at h
      have hs : (s.extract (skipN s false i) s.size).size = s.size - skipN s false i := size_extract (by omega) (Nat.le_refl _)
      by_cases h2 : (nx (s.extract (skipN s false i) s.size)).1 = 0
      · rw [if_pos h2] at h
        have hp := nx_pos (s := s.extract (skipN s false i) s.size) (by omega) h2
        obtain ⟨k1, k2⟩ := nx_ok (s := s.extract (skipN s false i) s.size) (by omega) h2
        generalize nx (s.extract (skipN s false i) s.size) = o at *
        generalize skipN s false i = q at *
        cases hr : splitF s n (q + o.2.2) with
        | mk rl rj re =>
          rw [hr] at h
          unfold accO at h
          by_cases h3 : re = 0
          · subst h3
            simp only [if_true] at h
            injection h with h4 h5
            obtain ⟨ms, p, e1, e2, e3, e4⟩ := splitF_ok s n (q + o.2.2) rl rj (by omega) hr
            refine ⟨(o.2.1, (q : Int)) :: ms, p, by rw [← h4, e1]; rfl, fun m hm => ?_, ?_, ?_⟩
            · rcases List.mem_cons.1 hm with rfl | hm
              · exact k1
              · exact e2 m hm
            · show szT o.2.1 + 1 + szL ms ≤ _
              omega
            · simp only [List.length_cons]; omega
          · simp only at h
            rw [if_neg h3] at h
            injection h with _ _ h5
            exact absurd h5 h3
      · rw [if_neg h2] at h
        injection h with _ _ h5
        exact absurd h5 h2
theorem split_ok {s : ByteArray} {l : List TA} {j : Nat} (hs : s.size ≤ 65536) (h : splitP s = ⟨l, j, 0⟩) : ∃ ms p, l = ms ++ [(noT, p)] ∧ (∀ m ∈ ms, okT m.1 = true) ∧ szL ms ≤ 11 * s.size ∧ ms.length ≤ s.size := by
  unfold splitP at h
  rw [if_neg (by omega)] at h
  unfold splitA at h
  exact splitF_ok s _ 0 l j (Nat.zero_le _) h
/-- Such a list is well-formed. -/
theorem valE_of {ms : List TA} {p : Int} (h : ∀ m ∈ ms, okT m.1 = true) : valE (ms ++ [(noT, p)]) = 0 := by
  refine valE_yes (by simp) fun i hi => ?_
  rw [List.length_append] at hi
  simp only [List.length_cons, List.length_nil] at hi
  by_cases hlt : i < ms.length
  · obtain ⟨t, ht⟩ : ∃ t, ms[i]? = some t := ⟨_, List.getElem?_eq_getElem hlt⟩
    rw [okAt_mid (t := t) (by rw [List.getElem?_append_left hlt]; exact ht) (by simp; omega)]
    exact h t (List.mem_of_getElem? ht)
  · obtain rfl : i = ms.length := by omega
    rw [okAt_last (t := (noT, p)) (by rw [List.getElem?_append_right (Nat.le_refl _), Nat.sub_self]; rfl) (by simp)]
    rfl

end Wh

