/-
  TokenRoundTrips: its walk.
-/
import Derived.Test.YtloccocengegnaaDoorTKit
import Derived.Test.YtloccocengegnaaDoorTBunD
import Derived.Test.YtloccocengegnaaDoorTDraw
import Derived.Test.YtloccocengegnaaDoorTSame
import Derived.Test.YtloccocengegnaaDoorMask
set_option linter.unusedVariables false
set_option maxRecDepth 100000
namespace Go.Proofs.YtloccocengegnaaDoor
open Go.RowKit Wh

theorem szT_small {t : Tk} (h : t.tx.size ≤ 4) : szT t ≤ 17 := by
  unfold szT
  by_cases h2 : t.k = 2
  · rw [if_pos h2]; omega
  · rw [if_neg h2]
    by_cases h3 : t.k = 3
    · rw [if_pos h3]
      have := dbl_length_le (bts t.tx)
      rw [bts_length] at this
      omega
    · rw [if_neg h3]
      split <;> omega
theorem szL_small : ∀ (l : List TA), (∀ t ∈ l, t.1.tx.size ≤ 4) → szL l ≤ 18 * l.length
  | [], _ => Nat.le_refl _
  | t :: l, h => by
    have h1 := szT_small (h t (by simp))
    have h2 := szL_small l fun t ht => h t (by simp [ht])
    unfold szL
    rw [List.length_cons]
    omega
theorem szL_app : ∀ (l m : List TA), szL (l ++ m) = szL l + szL m
  | [], m => by simp [szL]
  | t :: l, m => by
    show szT t.1 + 1 + szL (l ++ m) = szT t.1 + 1 + szL l + szL m
    rw [szL_app l m]
    omega
/-- A text that splits is no longer than a text may be. -/
theorem split_sz {s : ByteArray} {o : List TA} {i : Nat} (h : splitP s = ⟨o, i, 0⟩) : s.size ≤ 65536 := by
  unfold splitP at h
  by_cases hs : 65536 < s.size
  · rw [if_pos hs] at h; cases h
  · omega

theorem splitF_bad (s : ByteArray) : ∀ n i, (splitF s n i).e = 0 ∨ (splitF s n i).l = [] := by
  intro n
  induction n with
  | zero => intro i; exact .inr rfl
  | succ n ih =>
    intro i
    unfold splitF
    split
    · exact .inl rfl
    · split
      · unfold accO
        split
        · exact .inl rfl
        · rename_i hq
          exact (ih _).elim (fun h => absurd h hq) .inr
      · exact .inr rfl
theorem split_bad {s : ByteArray} {l : List TA} {i : Nat} {x : Int} (h : splitP s = ⟨l, i, x⟩) (hx : x ≠ 0) : l = [] := by
  unfold splitP at h
  by_cases hs : 65536 < s.size
  · rw [if_pos hs] at h
    cases h
    rfl
  · rw [if_neg hs] at h
    unfold splitA at h
    rcases splitF_bad s (s.size - 0 + 1) 0 with h6 | h6
    · rw [h] at h6; exact absurd h6 hx
    · rw [h] at h6; exact h6
theorem okT_tx {t : Tk} (h : okT t = true) : t.tx.size ≤ 200 := by
  have hz := okT_sz h
  unfold szT at hz
  unfold okT at h
  by_cases h2 : t.k = 2
  · rw [if_neg (by omega), if_pos h2, Bool.and_eq_true, Bool.and_eq_true] at h
    rw [empty_tx h.1]
    decide
  · rw [if_neg h2] at hz
    by_cases h3 : t.k = 3
    · rw [if_neg (by omega), if_neg h2, if_pos h3, Bool.and_eq_true, decide_eq_true_eq] at h
      omega
    · rw [if_neg h3] at hz
      by_cases h4 : t.k = 4
      · rw [if_neg (by omega), if_neg h2, if_neg h3, if_pos h4, Bool.and_eq_true, Bool.and_eq_true] at h
        rw [empty_tx h.1]
        decide
      · rw [if_neg h4] at hz
        exact hz

set_option maxHeartbeats 8000000 in
theorem ttrips_walk (w : World) (a : Option Addr) (len cap : Nat) (zs : List Int) (hz : IsInts w a len zs) (hc : len ≤ cap) (hm : cap ≤ maxLen) (s : ByteArray) (hs : s.size ≤ 9223372036854775807) (n : Int) (hn2 : -9223372036854775808 ≤ n) (hn3 : n ≤ 9223372036854775807) (hg : Glo w) :
    Calls Tryd.prog 5 #[.slice a len cap, .string s, .int .i64 n] w fun e w' => e = .returned (.bool true) ∧ Below w.heap.size w w' := by
  have mm : maxLen = 9223372036854775807 := rfl
  by_cases hl : 500 < s.size
  · have CK := Lib.hid (known_any7 w hg)
    clear hz hg
    go_enter Tryd.func5, Tryd.ntmps5
    go_wp2_with fail
    refine CK.out.mono ?_
    rintro e w1 ⟨rfl, hb1⟩
    go_wp2_with fail
    go_ret
    exact ⟨rfl, hb1⟩
  obtain ⟨N, hN, hN7⟩ : ∃ N : Nat, n % 16 = (N : Int) ∧ N ≤ 15 := ⟨(n % 16).toNat, by omega, by omega⟩
  have hlx := tokL_length zs N
  have hsm := tokL_small zs N
  have C3 := Lib.hid (tokens_any a len cap zs N w hz (by omega) hN7)
  have HG := Lib.hid hg
  have hb15 := and_15 n
  rw [hN] at hb15
  obtain ⟨ts, HTS⟩ : ∃ ts, Hid (tokL zs N = ts) := ⟨_, rfl⟩
  rw [HTS.out] at C3 hlx hsm
  clear HTS hz hg hN
  obtain ⟨l1, x1, P1, h81, h01, hz1⟩ := pjoin_ex ts (by omega) (fun t ht => Nat.le_trans (hsm t ht) (by decide))
  rw [hlx] at P1
  have hv1 : valE ts = 0 → x1 = 0 := fun h => hz1 h (by have := szL_small ts hsm; omega)
  have hv1' : x1 = 0 → valE ts = 0 := fun h => (h01 h).1
  have hx1 : valE ts ≠ 0 → x1 ≠ 0 := fun h h' => h (hv1' h')
  have SE := Lib.hid (fun (h : x1 = 0) => (h01 h).2)
  clear h81 h01 hz1
  -- the second half: the text that came in
  have SB := Lib.hid (fun W (h : Glo W) => split_any s W hs h)
  obtain ⟨o, ho⟩ : ∃ o, splitP s = o := ⟨_, rfl⟩
  rw [ho] at SB
  obtain ⟨l, i, x⟩ := o
  have second : x = 0 → valE l = 0 ∧ (∀ t ∈ l, t.1.tx.size ≤ 9223372036854775800) ∧ ∃ (l2 : List UInt8), (∀ a cap W, IsToks W a l.length l → l.length ≤ cap → cap ≤ maxLen → (a = none → cap = 0) → Glo W → Calls Tryd.prog 12 #[.slice a l.length cap] W (IsTxt l2 0 W)) ∧
      ∃ o2, splitP ⟨l2.toArray⟩ = ⟨o2, 0, 0⟩ ∧ o2.map (·.1) = l.map (·.1) := by
    intro hx
    subst hx
    obtain ⟨ms, p, rfl, hok, hsz, hlen⟩ := split_ok (by omega) ho
    have hv := valE_of (p := p) hok
    have hzz : ∀ t ∈ ms ++ [(noT, p)], t.1.tx.size ≤ 9223372036854775800 := fun t ht => by
      rcases List.mem_append.1 ht with h | h
      · have h1 := okT_tx (hok t h)
        omega
      · rw [List.mem_singleton] at h
        subst h
        show noT.tx.size ≤ _
        decide
    obtain ⟨l2, x2, P2, _, h02, hz2⟩ := pjoin_ex (ms ++ [(noT, p)]) (by simp; omega) hzz
    have e2 := hz2 hv (by rw [szL_app]; have : szL [((noT, p) : TA)] = 1 := rfl; omega)
    subst e2
    exact ⟨hv, hzz, l2, P2, (h02 rfl).2⟩
  have hlen : l.length ≤ 65538 := by
    by_cases hx : x = 0
    · subst hx
      obtain ⟨ms, p, rfl, _, _, h4⟩ := split_ok (by omega) ho
      simp
      omega
    · rw [split_bad ho hx]
      exact Nat.zero_le _
  clear ho
  have SEC := Lib.hid second
  clear second
  go_enter Tryd.func5, Tryd.ntmps5
  go_wp2_with fail
  refine C3.out.mono ?_
  rintro e w3 ⟨v3, rfl, ho3, hB3⟩
  have hs3 := hB3.size
  obtain ⟨a3, cap3, rfl, t3, c3, m3, n3, g3⟩ := own_toks ho3 hlx
  clear ho3 C3 g3
  have T3 := Lib.hid t3
  have CJ := Lib.hid (P1 a3 cap3 w3 t3 c3 m3 n3 (HG.out.next hB3))
  have CV := Lib.hid (fun W (h : Below w3.heap.size w3 W) => validate_any7 a3 (N + 1) cap3 ts W (T3.out.below h (Nat.le_refl _)) (by omega) (fun t ht => Nat.le_trans (hsm t ht) (by decide)))
  clear t3 P1
  go_wp2_with fail
  refine CJ.out.mono ?_
  rintro e w4 ⟨rfl, hb4⟩
  have hB4 := hB3.trans (hb4.mono hs3)
  go_wp2_with fail
  refine (CV.out _ hb4).mono ?_
  rintro e w5 ⟨rfl, hb5⟩
  have hb35 := hb4.trans (hb5.mono hb4.size)
  have hB5 := hB3.trans (hb35.mono hs3)
  by_cases hv : valE ts = 0
  · have hx := hv1 hv
    obtain ⟨o2, hsp, hmap⟩ := SE.out hx
    have hsz := split_sz hsp
    have hol : o2.length = N + 1 := by have := congrArg List.length hmap; simpa [hlx] using this
    subst hx
    have CB := Lib.hid (fun W (h : Glo W) => split_any ⟨l1.toArray⟩ W (by omega) h)
    rw [hsp] at CB
    have HM := Lib.hid hmap
    clear SE hv1 hv1' hx1 hsp hmap
    rw [hv]
    clear hv
    go_wp2_with fail
    refine (CB.out _ (HG.out.next hB5)).mono ?_
    rintro e w6 ⟨a6, cap6, rfl, ht6, hc6, hm6, hn6, hx6, hb6⟩
    simp only at ht6 hc6
    rw [hol] at ht6 hc6
    have hb36 := hb35.trans (hb6.mono hb35.size)
    have hB6 := hB3.trans (hb36.mono hs3)
    have CS := Lib.hid (same_yes a6 (N + 1) cap6 o2 a3 cap3 ts w6 ht6 (T3.out.below hb36 (Nat.le_refl _)) HM.out (by omega))
    clear ht6 hc6 hm6 hn6 hx6 CB
    simp only [hol]
    go_wp2_with fail
    refine CS.out.mono ?_
    rintro e w7 ⟨rfl, hb7⟩
    have hB7 := hB6.trans (hb7.mono hB6.size)
    clear CS T3 CV CJ
    go_wp2_with fail
    refine (SB.out _ (HG.out.next hB7)).mono ?_
    rintro e wb ⟨ab, capb, rfl, htb, hcb, hmb, hnb, hxb, hbb⟩
    simp only at htb hcb
    have hBb := hB7.trans (hbb.mono hB7.size)
    clear hxb hbb
    by_cases hxx : x = 0
    · subst hxx
      obtain ⟨hv2, hz2, l2, P2, o3, hsp2, hmap2⟩ := SEC.out rfl
      have TB := Lib.hid htb
      have CJ2 := Lib.hid (P2 ab capb wb htb hcb hmb hnb (HG.out.next hBb))
      have hsz2 := split_sz hsp2
      have hol2 : o3.length = l.length := by have := congrArg List.length hmap2; simpa using this
      have CB2 := Lib.hid (fun W (h : Glo W) => split_any ⟨l2.toArray⟩ W (by omega) h)
      rw [hsp2] at CB2
      have CV2 := Lib.hid (fun W (h : Below wb.heap.size wb W) => validate_any7 ab l.length capb l W (TB.out.below h (Nat.le_refl _)) (by omega) hz2)
      rw [hv2] at CV2
      have HM2 := Lib.hid hmap2
      clear SEC SB htb hcb hmb hnb hv2 hz2 P2 hsp2 hmap2
      go_wp2_with fail
      refine CJ2.out.mono ?_
      rintro e wc ⟨rfl, hbc⟩
      have hBc := hBb.trans (hbc.mono hBb.size)
      go_wp2_with fail
      refine (CB2.out _ (HG.out.next hBc)).mono ?_
      rintro e wd ⟨ad, capd, rfl, htd, hcd, hmd, hnd, hxd, hbd⟩
      simp only at htd
      rw [hol2] at htd
      have hbbd := hbc.trans (hbd.mono hbc.size)
      have hBd := hBb.trans (hbbd.mono hBb.size)
      have TD := Lib.hid htd
      clear htd hcd hmd hnd hxd CB2 CJ2
      simp only [hol2]
      go_wp2_with fail
      refine (CV2.out _ hbbd).mono ?_
      rintro e we ⟨rfl, hbe⟩
      have hbbe := hbbd.trans (hbe.mono hbbd.size)
      have hBe := hBb.trans (hbbe.mono hBb.size)
      have CS2 := Lib.hid (same_yes ab l.length capb l ad capd o3 we (TB.out.below hbbe (Nat.le_refl _)) (TD.out.below hbe (Nat.le_refl _)) HM2.out.symm (by omega))
      clear CV2
      go_wp2_with fail
      refine CS2.out.mono ?_
      rintro e wf ⟨rfl, hbf⟩
      have hBf := hBe.trans (hbf.mono hBe.size)
      go_wp2_with fail
      refine (known_any7 _ (HG.out.next hBf)).mono ?_
      rintro e wg ⟨rfl, hbg⟩
      go_wp2_with fail
      go_ret
      exact ⟨rfl, hBf.trans (hbg.mono hBf.size)⟩
    · clear SEC SB htb hcb hmb hnb
      go_wp2_with fail
      refine (known_any7 _ (HG.out.next hBb)).mono ?_
      rintro e wc ⟨rfl, hbc⟩
      go_wp2_with fail
      go_ret
      exact ⟨rfl, hBb.trans (hbc.mono hBb.size)⟩
  · have hx := hx1 hv
    have hbx : (x1 == 0) = false := by simpa using hx
    have hbv : (valE ts == 0) = false := by simpa using hv
    generalize valE ts = v1 at *
    clear SE hv1 hv1' hx1 T3 CV CJ
    go_wp2_with fail
    refine (SB.out _ (HG.out.next hB5)).mono ?_
    rintro e wb ⟨ab, capb, rfl, htb, hcb, hmb, hnb, hxb, hbb⟩
    simp only at htb hcb
    have hBb := hB5.trans (hbb.mono hB5.size)
    clear hxb hbb
    by_cases hxx : x = 0
    · subst hxx
      obtain ⟨hv2, hz2, l2, P2, o3, hsp2, hmap2⟩ := SEC.out rfl
      have TB := Lib.hid htb
      have CJ2 := Lib.hid (P2 ab capb wb htb hcb hmb hnb (HG.out.next hBb))
      have hsz2 := split_sz hsp2
      have hol2 : o3.length = l.length := by have := congrArg List.length hmap2; simpa using this
      have CB2 := Lib.hid (fun W (h : Glo W) => split_any ⟨l2.toArray⟩ W (by omega) h)
      rw [hsp2] at CB2
      have CV2 := Lib.hid (fun W (h : Below wb.heap.size wb W) => validate_any7 ab l.length capb l W (TB.out.below h (Nat.le_refl _)) (by omega) hz2)
      rw [hv2] at CV2
      have HM2 := Lib.hid hmap2
      clear SEC SB htb hcb hmb hnb hv2 hz2 P2 hsp2 hmap2
      go_wp2_with fail
      refine CJ2.out.mono ?_
      rintro e wc ⟨rfl, hbc⟩
      have hBc := hBb.trans (hbc.mono hBb.size)
      go_wp2_with fail
      refine (CB2.out _ (HG.out.next hBc)).mono ?_
      rintro e wd ⟨ad, capd, rfl, htd, hcd, hmd, hnd, hxd, hbd⟩
      simp only at htd
      rw [hol2] at htd
      have hbbd := hbc.trans (hbd.mono hbc.size)
      have hBd := hBb.trans (hbbd.mono hBb.size)
      have TD := Lib.hid htd
      clear htd hcd hmd hnd hxd CB2 CJ2
      simp only [hol2]
      go_wp2_with fail
      refine (CV2.out _ hbbd).mono ?_
      rintro e we ⟨rfl, hbe⟩
      have hbbe := hbbd.trans (hbe.mono hbbd.size)
      have hBe := hBb.trans (hbbe.mono hBb.size)
      have CS2 := Lib.hid (same_yes ab l.length capb l ad capd o3 we (TB.out.below hbbe (Nat.le_refl _)) (TD.out.below hbe (Nat.le_refl _)) HM2.out.symm (by omega))
      clear CV2
      go_wp2_with fail
      refine CS2.out.mono ?_
      rintro e wf ⟨rfl, hbf⟩
      have hBf := hBe.trans (hbf.mono hBe.size)
      go_wp2_with fail
      refine (known_any7 _ (HG.out.next hBf)).mono ?_
      rintro e wg ⟨rfl, hbg⟩
      go_wp2_with fail
      go_ret
      exact ⟨rfl, hBf.trans (hbg.mono hBf.size)⟩
    · clear SEC SB htb hcb hmb hnb
      go_wp2_with fail
      refine (known_any7 _ (HG.out.next hBb)).mono ?_
      rintro e wc ⟨rfl, hbc⟩
      go_wp2_with fail
      go_ret
      exact ⟨rfl, hBb.trans (hbc.mono hBb.size)⟩

end Go.Proofs.YtloccocengegnaaDoor

