/-
  Joined texts are split again; the tokens of a text are well-formed. Pl · The reference: ParseAt, Parse. · The program: ParseAt, Parse.
-/
import Derived.Test.YtmdpjahhhfajaaaGreatDoorJC14
import Derived.Test.YtmdpjahhhfajaaaGreatDoorJC25
import Derived.Test.YtmdpjahhhfajaaaGreatDoorJC11
import Derived.Test.YtmdpjahhhfajaaaGreatDoorJC22
import Derived.Test.YtmdpjahhhfajaaaGreatDoorJC16
import Derived.Test.YtmdpjahhhfajaaaGreatDoorJC24
import Derived.Deep.QuietTactic
import Derived.BigQuiet
import Derived.Test.YtmdpjahhhfajaaaGreatDoorJC21
set_option linter.unusedVariables false
set_option maxRecDepth 100000
set_option linter.unusedSimpArgs false
namespace Wh
open Go Go.Proofs.YtmdpjahhhfajaaaGreatDoor
def szT (t : Tk) : Nat := if t.k = 2 then 10 else if t.k = 3 then (dbl (bts t.tx)).length + 2 else if t.k = 4 then 17 else t.tx.size
theorem okT_sz {t : Tk} (h : okT t = true) : szT t ≤ 200 := by
 unfold okT at h
 unfold szT
 by_cases h2 : t.k = 2
 ·rw [if_pos h2]; omega
 ·rw [if_neg h2]
  by_cases h3 : t.k = 3
  ·rw [if_pos h3]
   rw [if_neg (by omega), if_neg h2, if_pos h3, Bool.and_eq_true, decide_eq_true_eq] at h
   have := dbl_length_le (bts t.tx)
   rw [bts_length] at this
   omega
  ·rw [if_neg h3]
   by_cases h4 : t.k = 4
   ·rw [if_pos h4]; omega
   ·rw [if_neg h4]
    by_cases h1 : t.k = 1
    ·rw [if_pos h1, Bool.and_eq_true] at h
     have hq := h.1
     rcases dot_cases t.tx with hd | ⟨i, hd, hi⟩
     ·rw [qualB_no hd] at hq
      have := nameB_all hq
      omega
     ·rw [qualB_at hd, Bool.and_eq_true] at hq
      have ha := nameB_all hq.1
      have hb := nameB_all hq.2
      have s1 : (t.tx.extract 0 i).size = i := by rw [size_extract (by omega) (by omega)]; omega
      have s2 : (t.tx.extract (i + 1) t.tx.size).size = t.tx.size - (i + 1) := size_extract (by omega) (Nat.le_refl _)
      omega
    ·rw [if_neg h1, if_neg h2, if_neg h3, if_neg h4] at h
     by_cases h5 : t.k = 5
     ·rw [if_pos h5, Bool.and_eq_true] at h
      have hs := h.1
      unfold symB at hs
      rw [Bool.or_eq_true, Bool.and_eq_true, Bool.and_eq_true, decide_eq_true_eq, decide_eq_true_eq] at hs
      omega
     ·rw [if_neg h5] at h; cases h
theorem parse_bd {s : ByteArray} (h : parseE s = 0) : 0 ≤ parseZ s ∧ parseZ s ≤ 575999999 := by
 unfold parseE at h
 unfold parseZ
 by_cases hf : formB s = true
 ·rw [if_pos hf] at h ⊢
  obtain ⟨d1, d2, d3, d4, d5⟩ := form_digits hf
  have b4 := (numAt_bd (k := 2) (by omega) d4).1
  have b5 := (numAt_bd (k := 2) (by omega) d5).1
  have bd := daysZ_bd (numAt s 0 4) (numAt s 5 2) (numAt s 8 2)
  generalize numAt s 0 4 = y at *
  generalize numAt s 5 2 = mo at *
  generalize numAt s 8 2 = d at *
  generalize numAt s 11 2 = hh at *
  generalize numAt s 14 2 = mi at *
  unfold partZ
  rw [h, if_pos rfl]
  unfold partE at h
  split at h
  ·cases h
  ·rename_i hn
   unfold minZ at *
   omega
 ·rw [if_neg hf] at h; cases h
theorem nx_ok {s : ByteArray} (hp : 0 < s.size) (he : (nx s).1 = 0) : okT (nx s).2.1 = true ∧ szT (nx s).2.1 ≤ 10 * (nx s).2.2 := by
 have hpos := nx_pos hp he
 cases h0 : lowB (btN s 0) with
 | true =>
  rw [nx_name h0] at he hpos ⊢
  simp only at he hpos ⊢
  have hn := spanN_le wordB s
  have hn1 := spanN_pos (p := wordB) hp (low_word h0)
  have hT : ∃ m : Nat, (nameT s).1 = (m : Int) ∧ m ≤ s.size ∧ qualB (s.extract 0 m) = true := by
   unfold nameT at he ⊢
   by_cases h24 : 24 < spanN wordB s
   ·rw [if_pos h24] at he; cases he
   ·rw [if_neg h24] at he ⊢
    by_cases hc : spanN wordB s + 1 < s.size ∧ btN s (spanN wordB s) = 46 ∧ lowB (btN s (spanN wordB s + 1)) = true
    ·rw [if_pos hc] at he ⊢
     by_cases hk : 24 < spanN wordB (s.extract (spanN wordB s + 1) s.size)
     ·rw [if_pos hk] at he; cases he
     ·rw [if_neg hk]
      obtain ⟨q1, q2, q3⟩ := qual_names (s := s) rfl hn1 h0 hc.1 hc.2.1 hc.2.2 rfl
      refine ⟨_, ?_, q3, by rw [q1, decide_eq_true (by omega), decide_eq_true (by omega)]; rfl⟩
      simp only
      omega
    ·rw [if_neg hc]
     exact ⟨spanN wordB s, rfl, hn, by rw [qual_name rfl hn1 h0, decide_eq_true (by omega)]⟩
  obtain ⟨m, hm, hms, hq⟩ := hT
  rw [hm] at hpos ⊢
  have hx : (m : Int).toNat = m := rfl
  rw [hx] at hpos ⊢
  constructor
  ·unfold okT
   rw [if_pos rfl]
   simp only
   rw [hq]
   rfl
  ·show (s.extract 0 m).size ≤ 10 * m
   rw [size_extract (by omega) hms]
   omega
 | false =>
  cases h1 : numB (btN s 0) with
  | true =>
   rw [nx_int h0 h1] at he hpos ⊢
   simp only at he hpos ⊢
   have hb : 0 ≤ (intT s).1 ∧ (intT s).1 ≤ 1073741824 := by
    unfold intT at he ⊢
    by_cases hbad : badI s = true
    ·rw [if_pos hbad] at he; cases he
    ·rw [if_neg hbad] at he ⊢
     by_cases hv : 1073741824 < decV s (spanN numB s)
     ·rw [if_pos hv] at he; cases he
     ·rw [if_neg hv]
      have := decV_bd (s := s) (spanN numB s) fun j hj => span_all hj
      exact ⟨this.1, by show decV s (spanN numB s) ≤ 1073741824; omega⟩
   constructor
   ·unfold okT empB
    rw [if_neg (by simp), if_pos rfl]
    simp only
    rw [decide_eq_true hb.1, decide_eq_true hb.2]
    rfl
   ·show 10 ≤ 10 * _
    omega
  | false =>
   by_cases h2 : btN s 0 = 39
   ·rw [nx_lit h2] at he hpos ⊢
    simp only at he hpos ⊢
    unfold litO at he hpos ⊢
    cases hl : litL ((bts s).drop 1) with
    | none => rw [hl] at he; cases he
    | some p =>
     rw [hl] at he hpos
     simp only at he hpos ⊢
     by_cases h64 : 64 < p.1.length
     ·rw [if_pos h64] at he; cases he
     ·rw [if_neg h64] at hpos ⊢
      obtain ⟨a, b, c, d⟩ := litL_facts _ _ (Nat.le_refl _) p.1 p.2 hl
      have hsz : (⟨p.1.toArray⟩ : ByteArray).size = p.1.length := by show p.1.toArray.size = _; simp
      constructor
      ·unfold okT
       rw [if_neg (by simp), if_neg (by simp), if_pos rfl]
       simp only
       rw [hsz, decide_eq_true (by omega)]
       rfl
      ·show (dbl p.1).length + 2 ≤ 10 * (p.2 + 1)
       omega
   ·by_cases h3 : btN s 0 = 64
    ·rw [nx_time h3] at he hpos ⊢
     by_cases h17 : s.size < 17
     ·rw [if_pos h17] at he; cases he
     ·rw [if_neg h17] at he hpos ⊢
      simp only at he hpos ⊢
      have hb := parse_bd he
      constructor
      ·unfold okT empB
       rw [if_neg (by simp), if_neg (by simp), if_neg (by simp), if_pos rfl]
       simp only
       rw [decide_eq_true hb.1, decide_eq_true hb.2]
       rfl
      ·show 17 ≤ 10 * 17
       omega
    ·rw [nx_sym h0 h1 h2 h3] at he hpos ⊢
     by_cases hz : (symS s).size = 0
     ·rw [if_pos hz] at he; cases he
     ·rw [if_neg hz] at hpos ⊢
      simp only at hpos ⊢
      have hs : symB (symS s) = true := by
       by_cases hs2 : 2 ≤ s.size ∧ symB (s.extract 0 2) = true
       ·rw [symS_at2 hs2.1 hs2.2]; exact hs2.2
       ·have hno : s.size < 2 ∨ symB (s.extract 0 2) = false := by
         by_cases h : 2 ≤ s.size
         ·right
          cases hx : symB (s.extract 0 2) with
          | false => rfl
          | true => exact absurd ⟨h, hx⟩ hs2
         ·left; omega
        cases hs1 : symB (s.extract 0 1) with
        | true => rw [symS_at1 hno (by omega) hs1]; exact hs1
        | false =>
         rw [symS_at0 hno (.inr hs1)] at hz
         exact absurd rfl hz
      constructor
      ·unfold okT
       rw [if_neg (by simp), if_neg (by simp), if_neg (by simp), if_neg (by simp), if_pos rfl]
       simp only
       rw [hs]
       rfl
      ·show (symS s).size ≤ 10 * (symS s).size
       omega
def szL : List TA → Nat
 | [] => 0
 | t :: l => szT t.1 + 1 + szL l
theorem splitF_ok (s : ByteArray) : ∀ (n i : Nat) (l : List TA) (j : Nat), i ≤ s.size → splitF s n i = ⟨l, j, 0⟩ → ∃ ms p, l = ms ++ [(noT, p)] ∧ (∀ m ∈ ms, okT m.1 = true) ∧ szL ms ≤ 11 * (s.size - i) ∧ ms.length ≤ s.size - i
 | 0, i, l, j, _, h => by
  unfold splitF at h
  injection h with _ _ h
  cases h
 | n + 1, i, l, j, hi, h => by
  have hge := skip_ge s false i
  unfold splitF at h
  by_cases h1 : s.size ≤ skipN s false i
  ·rw [if_pos h1] at h
   injection h with h2 h3
   exact ⟨[], _, by rw [← h2]; rfl, (fun m hm => by cases hm), Nat.zero_le _, Nat.zero_le _⟩
  ·rw [if_neg h1] at h
   have hs : (s.extract (skipN s false i) s.size).size = s.size - skipN s false i := size_extract (by omega) (Nat.le_refl _)
   by_cases h2 : (nx (s.extract (skipN s false i) s.size)).1 = 0
   ·rw [if_pos h2] at h
    have hp := nx_pos (s := s.extract (skipN s false i) s.size) (by omega) h2
    obtain ⟨k1, k2⟩ := nx_ok (s := s.extract (skipN s false i) s.size) (by omega) h2
    generalize nx (s.extract (skipN s false i) s.size) = o at *
    generalize skipN s false i = q at *
    cases hr : splitF s n (q + o.2.2) with
    | mk rl rj re =>
     rw [hr] at h
     unfold accO at h
     by_cases h3 : re = 0
     ·subst h3
      simp only [if_true] at h
      injection h with h4 h5
      obtain ⟨ms, p, e1, e2, e3, e4⟩ := splitF_ok s n (q + o.2.2) rl rj (by omega) hr
      refine ⟨(o.2.1, (q : Int)) :: ms, p, by rw [← h4, e1]; rfl, fun m hm => ?_, ?_, ?_⟩
      ·rcases List.mem_cons.1 hm with rfl | hm
       ·exact k1
       ·exact e2 m hm
      ·show szT o.2.1 + 1 + szL ms ≤ _
       omega
      ·simp only [List.length_cons]; omega
     ·simp only at h
      rw [if_neg h3] at h
      injection h with _ _ h5
      exact absurd h5 h3
   ·rw [if_neg h2] at h
    injection h with _ _ h5
    exact absurd h5 h2
theorem split_ok {s : ByteArray} {l : List TA} {j : Nat} (hs : s.size ≤ 65536) (h : splitP s = ⟨l, j, 0⟩) : ∃ ms p, l = ms ++ [(noT, p)] ∧ (∀ m ∈ ms, okT m.1 = true) ∧ szL ms ≤ 11 * s.size ∧ ms.length ≤ s.size := by
 unfold splitP at h
 rw [if_neg (by omega)] at h
 unfold splitA at h
 exact splitF_ok s _ 0 l j (Nat.zero_le _) h
theorem okT_tx {t : Tk} (h : okT t = true) : t.tx.size ≤ 200 := by
 have hz := okT_sz h
 unfold szT at hz
 unfold okT at h
 by_cases h2 : t.k = 2
 ·rw [if_neg (by omega), if_pos h2, Bool.and_eq_true, Bool.and_eq_true] at h
  have h0 := h.1
  unfold empB at h0
  have := of_decide_eq_true h0
  omega
 ·rw [if_neg h2] at hz
  by_cases h3 : t.k = 3
  ·rw [if_neg (by omega), if_neg h2, if_pos h3, Bool.and_eq_true, decide_eq_true_eq] at h
   omega
  ·rw [if_neg h3] at hz
   by_cases h4 : t.k = 4
   ·rw [if_neg (by omega), if_neg h2, if_neg h3, if_pos h4, Bool.and_eq_true, Bool.and_eq_true] at h
    have h0 := h.1
    unfold empB at h0
    have := of_decide_eq_true h0
    omega
   ·rw [if_neg h4] at hz
    exact hz
theorem valE_of {ms : List TA} {p : Int} (h : ∀ m ∈ ms, okT m.1 = true) : valE (ms ++ [(noT, p)]) = 0 := by
 refine valE_yes (by simp) fun i hi => ?_
 rw [List.length_append] at hi
 simp only [List.length_cons, List.length_nil] at hi
 by_cases hlt : i < ms.length
 ·obtain ⟨t, ht⟩ : ∃ t, ms[i]? = some t := ⟨_, List.getElem?_eq_getElem hlt⟩
  rw [okAt_mid (t := t) (by rw [List.getElem?_append_left hlt]; exact ht) (by simp; omega)]
  exact h t (List.mem_of_getElem? ht)
 ·obtain rfl : i = ms.length := by omega
  rw [okAt_last (t := (noT, p)) (by rw [List.getElem?_append_right (Nat.le_refl _), Nat.sub_self]; rfl) (by simp)]
  rfl
end Wh
namespace Go.Proofs.YtmdpjahhhfajaaaGreatDoor
open Go.RowKit Wh
def PatP (w : World) (out : List Nd × Int × Int) (e : Ending) (w' : World) : Prop :=
 ∃ v, e = .returned (.tuple #[v, .int .i64 out.2.1, .int .i64 out.2.2]) ∧ w'.ownsRow w.heap.size 53 6 v out.1.length (nodesL out.1) ∧ Below w.heap.size w w'
theorem valE_small {ts : List TA} (h : valE ts = 0) : ∀ i, i < ts.length → (tkA ts i).1.k = 2 → 0 ≤ (tkA ts i).1.nm ∧ (tkA ts i).1.nm ≤ 1073741824 := fun i hi hk => by
 have := (valE_zero h).2 i hi
 rw [okAt_some (tkA_in hi), Bool.and_eq_true] at this
 have hT := this.2
 unfold isT okT at hT
 rw [if_neg (by omega), if_neg (by omega), if_pos hk, Bool.and_eq_true, Bool.and_eq_true, decide_eq_true_eq, decide_eq_true_eq] at hT
 exact hT.2
theorem nm_big {l : List Nd} (h : NmL l) : ∀ t ∈ l, t.nm.size ≤ 9223372036854775800 := fun t ht => by have := h t ht; omega
theorem split_toks {s : ByteArray} (he : (splitP s).e = 0) : valE (splitP s).l = 0 ∧ (splitP s).l.length ≤ 65537 ∧ 1 ≤ (splitP s).l.length ∧ (∀ t ∈ (splitP s).l, t.1.tx.size ≤ 9223372036854775800) := by
 have hs : s.size ≤ 65536 := by
  unfold splitP at he
  by_cases h : 65536 < s.size
  ·rw [if_pos h] at he; cases he
  ·omega
 rcases hO : splitP s with ⟨l, j, e⟩
 rw [hO] at he
 simp only at he
 subst he
 obtain ⟨ms, p, rfl, h1, h2, h3⟩ := split_ok hs hO
 refine ⟨valE_of h1, by simp; omega, by simp, fun t ht => ?_⟩
 rcases List.mem_append.1 ht with ht | ht
 ·have := okT_tx (h1 t ht)
  omega
 ·rw [List.mem_singleton] at ht
  subst ht
  show (0 : Nat) ≤ _
  omega
theorem at_toks {w : World} {a : Option Addr} {len : Nat} {ts : List TA} (h : IsToks w a len ts) {k : Nat} (hk : k < len) :
  ∃ (t : TA) (b off : Nat), ts[k]? = some t ∧ a = some ⟨b, off, none⟩ ∧ b < w.heap.size ∧ w.cell? ⟨b, off + k * 4, none⟩ = some (.int .i64 t.1.k) ∧ w.cell? ⟨b, off + k * 4 + 1, none⟩ = some (.string t.1.tx) ∧ w.cell? ⟨b, off + k * 4 + 2, none⟩ = some (.int .i64 t.1.nm) ∧ w.cell? ⟨b, off + k * 4 + 3, none⟩ = some (.int .i64 t.2) := by
 obtain ⟨kd, tx, nm, p, b, off, h1, h2, h3, h4, h5, h6, h7⟩ := h.at hk
 exact ⟨(⟨kd, tx, nm⟩, p), b, off, h1, h2, h3, h4, h5, h6, h7⟩
theorem patO_bd (ts : List TA) (h1 : 1 ≤ ts.length) : 0 ≤ (patO ts 0).2.1 ∧ (patO ts 0).2.1 < ts.length := by
 unfold patO
 by_cases hE : valE ts = 0
 ·rw [if_neg (by simpa using hE), if_neg (by omega)]
  have hG := pr_gd (valE_end hE) (9 * ts.length + 9) 0 0 0 (by omega) (by omega) (by omega) (At8.no (by omega))
  rw [show (0 : Int).toNat = 0 from rfl]
  cases hR : prT ts (9 * ts.length + 9) 0 0 0 with
  | bad c j =>
   rw [hR] at hG
   have := hG.2.2
   simp only
   omega
  | ok e j =>
   rw [hR] at hG
   have := hG.2.1
   simp only
   split <;> (simp only; omega)
 ·rw [if_pos hE]
  simp only
  omega
end Go.Proofs.YtmdpjahhhfajaaaGreatDoor
namespace Go.Proofs.YtmdpjahhhfajaaaGreatDoor
open Go.RowKit Wh
structure Glx (w : World) : Prop where
 glo : Glo w
 tb : TabB w
 ti : TabI w
theorem Glx.below {w w' : World} {B : Nat} (h : Glx w) (hb : Below B w w') (hB : w.heap.size ≤ B) : Glx w' := ⟨h.glo.below hb hB, h.tb.below hb hB, h.ti.below hb hB⟩
set_option maxHeartbeats 8000000 in
theorem pparseAt_any (a : Option Addr) (len cap : Nat) (ts : List TA) (at_ : Int) (w : World) (hK : IsToks w a len ts) (hl : len ≤ 100000) (hat : -9223372036854775808 ≤ at_ ∧ at_ ≤ 9223372036854775807) (hz : ∀ t ∈ ts, t.1.tx.size ≤ 9223372036854775800) (hbk : ∀ x, a = some x → x.block < w.heap.size) (hg : Glx w) :
  Calls Tryz.prog 13 #[.slice a len cap, .int .i64 at_] w (PatP w (patO ts at_)) := by
 have hln := hK.1
 have CV := Lib.hid (validate_any7 a len cap ts w hK (by omega) hz)
 obtain ⟨out, hout⟩ : ∃ out, patO ts at_ = out := ⟨_, rfl⟩
 rw [hout]
 unfold patO at hout
 by_cases hE : valE ts = 0
 rotate_left
 ·rw [if_pos hE] at hout
  subst hout
  have hEb : (valE ts == 0) = false := by simpa using hE
  have HN := Lib.hid hE
  generalize valE ts = E at *
  clear hE hK hg
  go_enter Tryz.func13, Tryz.ntmps13
  go_wp2_with fail
  refine CV.out.mono ?_
  rintro e w1 ⟨rfl, hb1⟩
  have HB1 := Lib.hid hb1
  clear hb1 CV
  go_wp2_with fail
  go_ret3
  exact ⟨_, rfl, World.ownsRow_nil _ _ _ _, HB1.out⟩
 rw [if_neg (by simpa using hE)] at hout
 rw [hE] at CV
 by_cases hr : at_ < 0 ∨ (ts.length : Int) ≤ at_
 ·rw [if_pos hr] at hout
  subst hout
  rw [hln] at hr
  clear hE hK hg
  rcases hr with hr | hr
  ·go_enter Tryz.func13, Tryz.ntmps13
   go_wp2_with fail
   refine CV.out.mono ?_
   rintro e w1 ⟨rfl, hb1⟩
   have HB1 := Lib.hid hb1
   clear hb1 CV
   go_wp2_with fail
   go_ret3
   exact ⟨_, rfl, World.ownsRow_nil _ _ _ _, HB1.out⟩
  ·have hr2 : ¬ at_ < 0 := by omega
   go_enter Tryz.func13, Tryz.ntmps13
   go_wp2_with fail
   refine CV.out.mono ?_
   rintro e w1 ⟨rfl, hb1⟩
   have HB1 := Lib.hid hb1
   clear hb1 CV
   go_wp2_with fail
   go_ret3
   exact ⟨_, rfl, World.ownsRow_nil _ _ _ _, HB1.out⟩
 rw [if_neg hr] at hout
 obtain ⟨i, rfl⟩ : ∃ i : Nat, at_ = (i : Int) := ⟨at_.toNat, by omega⟩
 have hil : i < len := by omega
 have hr1 : ¬ (i : Int) < 0 := by omega
 have hr2 : ¬ (len : Int) ≤ (i : Int) := by omega
 rw [Int.toNat_natCast] at hout
 have hT : TkH ts a len := ⟨valE_end hE, hln, hl, fun i hi => valE_small hE i (by omega)⟩
 have HS := Lib.hid (pr_nm (valE_short hE) (9 * ts.length + 9) 0 i 0)
 have R8 := Lib.hid (fun W b (hP : Pq W b (.slice a len cap) i 0 (.slice none 0 0)) (h : Below w.heap.size w W) (hwb : w.heap.size ≤ b) => (readsQ_all (ts := ts) (a := a) (len := len) (cap := cap) (9 * ts.length + 9)).1 0 i 0 b _ [] [] W (by omega) hP (Sk.nil W b) ⟨hK.below h (Nat.le_refl _), fun x hx => by have := hbk x hx; omega, hT, valE_short hE, valE_toks hE, hg.tb.below h (Nat.le_refl _), hg.ti.below h (Nat.le_refl _), Nat.lt_of_lt_of_le hg.tb.1 hwb, Nat.lt_of_lt_of_le hg.ti.1 hwb⟩ hil (Nat.zero_le _) (by omega) (by omega) (fun h => by omega))
 have HTB := Lib.hid hg.tb
 have HOUT := Lib.hid hout
 clear hr hE hK hz hbk hT hout hg
 go_enter Tryz.func13, Tryz.ntmps13
 go_wp2_with fail
 refine CV.out.mono ?_
 rintro e w1 ⟨rfl, hb1⟩
 have hs1 := hb1.size
 have hX := Box4.new w1 (.slice a len cap) (.int .i64 (i : Int)) (.int .i64 0) (.slice none 0 0) 63
 have hB := hb1.alloc hs1 (.cells #[.slice a len cap, .int .i64 (i : Int), .int .i64 0, .slice none 0 0] 63)
 have C := Lib.hid (R8.out _ w1.heap.size hX hB hs1)
 have HB := Lib.hid hB
 clear hX hB hb1 CV R8
 go_wp2_with fail
 refine C.out.mono ?_
 rintro e w2 ⟨j, dd, x, sv2, vs2, rfl, ⟨hj, _⟩, hP2, hF2, hc⟩
 have HB2 := Lib.hid (HB.out.trans (hF2.bel.mono hs1))
 have p1 := hP2.c1
 have pf := hP2.free
 have hjb : j < 100000 := by omega
 rcases hc with ⟨rfl, _, l, hc1, hS2⟩ | ⟨hx, _, hc1⟩
 ·rw [List.nil_append] at hS2
  obtain ⟨sa, sc, rfl, _, _, _, hcell⟩ := hS2.form
  obtain ⟨g, c, r, hv0, hr0, hown, hl1, hl257, _, hbg, hgl⟩ := hS2.get (k := 0) (by simp)
  simp only [List.getElem?_cons_zero, Option.some.injEq] at hr0
  subst hr0
  obtain ⟨gs, rfl⟩ : ∃ gs, sa = some ⟨gs, 0, none⟩ := by
   cases sa with
   | none =>
    rcases hS2.own.2 with ⟨_, h0⟩ | ⟨g', cap', cur', h, _⟩
    ·rw [List.eq_nil_of_length_eq_zero h0] at hv0
     cases hv0
    ·cases h
   | some z =>
    obtain ⟨gs, hz, _⟩ := hcell z rfl
    exact ⟨gs, by rw [hz]⟩
  obtain ⟨_, hz, hgs1, hgs2, hcl⟩ := hcell _ rfl
  cases hz
  have hc0 := hcl 0 _ hv0
  have p3 := hP2.c3
  simp only [List.length_cons, List.length_nil] at p3
  have hNm := HS.out
  have hO := HOUT.out
  rw [hc1] at hNm hO
  have hown2 := hown
  obtain ⟨a2, c2, he2, q, qc, qm, qn, qx⟩ := own_nodes hown2 rfl
  cases he2
  have CN := Lib.hid (pvalidN_any _ _ c (l.take 257) w2 (HTB.out.below HB2.out (Nat.le_refl _)) q (by omega) (nm_big (fun t ht => hNm t (List.mem_of_mem_take ht))))
  rw [valN_cut] at CN
  have HO := Lib.hid hO
  have HOW := Lib.hid (own_mono hown hs1)
  have HP2 := Lib.hid hP2
  clear hNm hO q qx hc1 HOUT HS hP2 hS2 hF2 hcell hcl hown hown2 C HTB
  obtain ⟨n, hn⟩ : ∃ n, (l.take 257).length = n := ⟨_, rfl⟩
  rw [hn] at CN hc0 HOW hl1
  go_wp2_with fail
  refine CN.out.mono ?_
  rintro e w3 ⟨rfl, hb3⟩
  have hP3 := HP2.out.below hb3 HP2.out.lt
  have r1 := hP3.c1
  have rf := hP3.free
  have HB3 := Lib.hid (HB2.out.trans (hb3.mono HB2.out.size))
  have HO3 := Lib.hid (own_below HOW.out hb3)
  obtain ⟨N, hN⟩ : ∃ N, valN l = N := ⟨_, rfl⟩
  rw [hN]
  have HL : Hid (N = 0 → l.take 257 = l) := fun h => List.take_of_length_le (by have := (valN_zero (hN.trans h)).1; omega)
  have HO5 := HO.out
  simp only [hN] at HO5
  have HO6 := Lib.hid HO5
  clear hN hb3 hP3 CN HO HO5 HOW HP2 HB2 p1 p3 pf hc0
  by_cases hN0 : N = 0
  ·subst hN0
   rw [if_pos rfl] at HO6
   go_wp2_with fail
   go_quiet (fail)
   go_wp2_with fail
   go_ret3
   rw [← HO6.out]
   have hlt := HL.out (by simp)
   have ho := own_below HO3.out (Below.drewN' (Below.refl w3.heap.size w3) (nq + 1))
   rw [hlt] at ho hn
   refine ⟨_, rfl, ?_, Below.drewN' HB3.out _⟩
   rw [hn]
   exact ho
  ·have hNb := bne0 hN0
   rw [if_neg hN0] at HO6
   go_wp2_with fail
   go_quiet (fail)
   go_wp2_with fail
   go_ret3
   rw [← HO6.out]
   exact ⟨_, rfl, World.ownsRow_nil _ _ _ _, Below.drewN' HB3.out _⟩
 ·have hO := HOUT.out
  rw [hc1] at hO
  have HO := Lib.hid hO
  have hxb := bne0 hx
  clear hO hc1 HOUT HS hP2 hF2 C HTB
  go_wp2_with fail
  go_quiet (fail)
  go_wp2_with fail
  go_ret3
  rw [← HO.out]
  exact ⟨_, rfl, World.ownsRow_nil _ _ _ _, Below.drewN' HB2.out _⟩
set_option maxHeartbeats 8000000 in
theorem pparse8_any (s : ByteArray) (w : World) (hs : s.size ≤ 9223372036854775807) (hg : Glx w) :
  Calls Tryz.prog 21 #[.string s] w (PatP w (parO s)) := by
 have C := Lib.hid (split_any s w hs hg.glo)
 obtain ⟨out, hout⟩ : ∃ out, parO s = out := ⟨_, rfl⟩
 rw [hout]
 unfold parO at hout
 by_cases hE : (splitP s).e = 0
 rotate_left
 ·rw [if_pos hE] at hout
  subst hout
  have hEb := bne0 hE
  unfold IsOut at C
  generalize splitP s = O at *
  obtain ⟨ol, oi, oe⟩ := O
  simp only at hE hEb C
  go_enter Tryz.func21, Tryz.ntmps21
  go_wp2_with fail
  refine C.out.mono ?_
  rintro e w1 ⟨a, cap, rfl, hT, hc, hm, hn, hx, hb⟩
  have HB := Lib.hid hb
  clear hT hx hb C
  go_wp2_with fail
  go_ret3
  exact ⟨_, rfl, World.ownsRow_nil _ _ _ _, HB.out⟩
 rw [if_neg (by simpa using hE)] at hout
 obtain ⟨hv, hl, hl1, hz⟩ := split_toks hE
 obtain ⟨hb0, hb1⟩ := patO_bd _ hl1
 unfold IsOut at C
 have HP := Lib.hid (fun a cap W (hK : IsToks W a (splitP s).l.length (splitP s).l) (h : ∀ x, a = some x → x.block < W.heap.size) (hbw : Below w.heap.size w W) => pparseAt_any a (splitP s).l.length cap (splitP s).l 0 W hK (by omega) (by omega) hz h (hg.below hbw (Nat.le_refl _)))
 obtain ⟨ts, hts⟩ : ∃ ts, (splitP s).l = ts := ⟨_, rfl⟩
 rw [hts] at HP C hb0 hb1 hout hl1 hl
 rw [hE] at C
 obtain ⟨i0, hi0⟩ : ∃ i0, (splitP s).i = i0 := ⟨_, rfl⟩
 rw [hi0] at C
 obtain ⟨nx, hnx⟩ : ∃ nx : Nat, (patO ts 0).2.1 = (nx : Int) := ⟨(patO ts 0).2.1.toNat, by omega⟩
 unfold PatP at HP
 rw [hnx] at HP hb1 hout
 rw [Int.toNat_natCast] at hout
 have hnl : nx < ts.length := by omega
 obtain ⟨er, her⟩ : ∃ er, (patO ts 0).2.2 = er := ⟨_, rfl⟩
 rw [her] at HP hout
 obtain ⟨el, hel⟩ : ∃ el, (patO ts 0).1 = el := ⟨_, rfl⟩
 rw [hel] at HP hout
 obtain ⟨t, ht⟩ : ∃ t, tkA ts nx = t := ⟨_, rfl⟩
 have htn : ts[nx]? = some t := by rw [tkA_in hnl, ht]
 rw [ht] at hout
 have HTN := Lib.hid htn
 clear hE hv hz hb0 hb1 hts hi0 hnx her hel ht htn
 go_enter Tryz.func21, Tryz.ntmps21
 go_wp2_with fail
 refine C.out.mono ?_
 rintro e w1 ⟨a, cap, rfl, hT, hc, hm, hn, hx, hb⟩
 have CP := Lib.hid (HP.out a cap w1 hT (fun x hx2 => by obtain ⟨g, rfl, _, h⟩ := hx x hx2; exact h) hb)
 have HT := Lib.hid hT
 have HB := Lib.hid hb
 clear hT hx hb C HP
 go_wp2_with fail
 refine CP.out.mono ?_
 rintro e w2 ⟨v, rfl, hown, hb2⟩
 obtain ⟨⟨⟨kk, tx, nm⟩, pp⟩, g, off, e1, rfl, lg, t0, t1, t2, t3⟩ := at_toks (HT.out.below hb2 (Nat.le_refl _)) hnl
 have e2 := HTN.out
 rw [e1] at e2
 cases e2
 have HB2 := Lib.hid (HB.out.trans (hb2.mono HB.out.size))
 have HOW := Lib.hid (own_mono hown HB.out.size)
 have HO := Lib.hid hout
 have hnb : nx < 100000 := by omega
 clear hown hb2 CP hout e1 HTN
 by_cases hr : er = 0
 ·subst hr
  by_cases hk : kk = 0
  ·subst hk
   have hO := HO.out
   rw [if_neg (by simp), if_neg (by simp)] at hO
   have HO2 := Lib.hid hO
   clear HO hO
   go_wp2_with fail
   go_ret3
   rw [← HO2.out]
   exact ⟨_, rfl, HOW.out, HB2.out⟩
  ·have hkb := bne0 hk
   have hO := HO.out
   rw [if_neg (by simp), if_pos hk] at hO
   have HO2 := Lib.hid hO
   clear HO hO
   go_wp2_with fail
   go_quiet (fail)
   go_wp2_with fail
   go_ret3
   rw [← HO2.out]
   exact ⟨_, rfl, World.ownsRow_nil _ _ _ _, Below.drewN' HB2.out _⟩
 ·have hrb := bne0 hr
  have hO := HO.out
  rw [if_pos hr] at hO
  have HO2 := Lib.hid hO
  clear HO hO
  go_wp2_with fail
  go_quiet (fail)
  go_wp2_with fail
  go_ret3
  rw [← HO2.out]
  exact ⟨_, rfl, World.ownsRow_nil _ _ _ _, Below.drewN' HB2.out _⟩
end Go.Proofs.YtmdpjahhhfajaaaGreatDoor
