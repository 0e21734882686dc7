/-
  ExprParsesAt: its walk.
-/
import Derived.Test.YtmdpjahhhfajaaaGreatDoorJA46
set_option linter.unusedVariables false
set_option linter.unusedSimpArgs false
set_option maxRecDepth 100000
namespace Go.Proofs.YtmdpjahhhfajaaaGreatDoor
open Go.RowKit Wh

theorem toks_bk {w : World} {a : Option Addr} {len : Nat} {ts : List TA} (h : IsToks w a len ts) (hne : ts ≠ []) : ∀ x, a = some x → x.block < w.heap.size := fun x hx => by
  rcases h.2 with h2 | ⟨b, off, ha, hlt, _⟩
  · exact absurd h2 hne
  · rw [ha] at hx; cases hx; exact hlt
theorem pparseAt0_any (a : Option Addr) (len cap : Nat) (at_ : Int) (w : World) (hK : IsToks w a len []) :
    Calls Tryz.prog 13 #[.slice a len cap, .int .i64 at_] w (PatP w ([], 0, 8)) := by
  have hl := hK.1
  rw [List.length_nil] at hl
  have CV := Lib.hid (validate_any7 a len cap [] w hK (by omega) (by simp))
  rw [valE_nil] at CV
  clear hK
  go_enter Tryz.func13, Tryz.ntmps13
  go_wp2_with fail
  refine CV.out.mono ?_
  rintro e w1 ⟨rfl, hb1⟩
  have HB1 := Lib.hid hb1
  clear hb1 CV
  go_wp2_with fail
  go_ret3
  exact ⟨_, rfl, World.ownsRow_nil _ _ _ _, HB1.out⟩
theorem rparseAt0_any (a : Option Addr) (len cap : Nat) (at_ : Int) (w : World) (hK : IsToks w a len []) :
    Calls Tryz.prog 14 #[.slice a len cap, .int .i64 at_] w (PatP w ([], 0, 8)) := by
  have hl := hK.1
  rw [List.length_nil] at hl
  have CV := Lib.hid (rvalidate_any7 a len cap [] w hK (by omega) (by simp))
  rw [valE_nil] at CV
  clear hK
  go_enter Tryz.func14, Tryz.ntmps14
  go_wp2_with fail
  refine CV.out.mono ?_
  rintro e w1 ⟨rfl, hb1⟩
  have HB1 := Lib.hid hb1
  clear hb1 CV
  go_wp2_with fail
  go_ret3
  exact ⟨_, rfl, World.ownsRow_nil _ _ _ _, HB1.out⟩
theorem patO_nil (z : Int) : patO [] z = ([], 0, 8) := by
  unfold patO
  rw [valE_nil, if_pos (by decide)]
theorem pparseAtx_any (a : Option Addr) (len cap : Nat) (ts : List TA) (at_ : Int) (w : World) (hK : IsToks w a len ts) (hl : len ≤ 100000) (hat : -9223372036854775808 ≤ at_ ∧ at_ ≤ 9223372036854775807) (hz : ∀ t ∈ ts, t.1.tx.size ≤ 9223372036854775800) (hg : Glx w) :
    Calls Tryz.prog 13 #[.slice a len cap, .int .i64 at_] w (PatP w (patO ts at_)) := by
  by_cases hne : ts = []
  · subst hne
    rw [patO_nil]
    exact pparseAt0_any a len cap at_ w hK
  · exact pparseAt_any a len cap ts at_ w hK hl hat hz (toks_bk hK hne) hg
theorem rparseAtx_any (a : Option Addr) (len cap : Nat) (ts : List TA) (at_ : Int) (w : World) (hK : IsToks w a len ts) (hl : len ≤ 100000) (hat : -9223372036854775808 ≤ at_ ∧ at_ ≤ 9223372036854775807) (hz : ∀ t ∈ ts, t.1.tx.size ≤ 9223372036854775800) :
    Calls Tryz.prog 14 #[.slice a len cap, .int .i64 at_] w (PatP w (patO ts at_)) := by
  by_cases hne : ts = []
  · subst hne
    rw [patO_nil]
    exact rparseAt0_any a len cap at_ w hK
  · exact rparseAt_any a len cap ts at_ w hK hl hat hz (toks_bk hK hne)

/-- Both sides of ParseAt and their comparison, out of the walk: what the program's call leaves and the reference's are one. -/
theorem pat_same (ts : List TA) (z : Int) : (patO ts z).1.length ≤ 1000000000000 := by have := patO_len ts z; omega

set_option maxHeartbeats 8000000 in
theorem eparsesat_walk (w : World) (a : Option Addr) (len cap : Nat) (ts : List TA) (hK : IsToks w a len ts) (hc0 : len ≤ cap) (hm0 : cap ≤ maxLen) (hn0 : a = none → cap = 0) (hz : ∀ t ∈ ts, t.1.tx.size ≤ 9223372036854775800) (at_ : Int) (ha1 : -9223372036854775808 ≤ at_) (ha2 : at_ ≤ 9223372036854775807) (a2 : Option Addr) (len2 cap2 : Nat) (zs : List Int) (hzs : IsInts w a2 len2 zs) (hc : len2 ≤ cap2) (hm : cap2 ≤ maxLen) (n : Int) (hn1 : -9223372036854775808 ≤ n) (hn2 : n ≤ 9223372036854775807) (hg : Glx w) :
    Calls Tryz.prog 5 #[.slice a len cap, .int .i64 at_, .slice a2 len2 cap2, .int .i64 n] w fun e w' => e = .returned (.bool true) ∧ Below w.heap.size w w' := by
  have mm : maxLen = 9223372036854775807 := rfl
  by_cases hl : 200 < len
  · have CK := Lib.hid (known8_any w hg)
    have hli : (200 : Int) < (len : Int) := by omega
    clear hK hz hzs hg
    go_enter Tryz.func5, Tryz.ntmps5
    go_wp2_with fail
    refine CK.out.mono ?_
    rintro e w1 ⟨rfl, hb1⟩
    go_wp2_with fail
    go_ret
    exact ⟨rfl, hb1⟩
  have hli : ¬ (200 : Int) < (len : Int) := by omega
  obtain ⟨N, hN, hN7⟩ : ∃ N : Nat, n % 32 = (N : Int) ∧ N ≤ 31 := ⟨(n % 32).toNat, by omega, by omega⟩
  have C1 := Lib.hid (pparseAtx_any a len cap ts at_ w hK (by omega) ⟨ha1, ha2⟩ hz hg)
  have C2 := Lib.hid (fun W (h : Below w.heap.size w W) => rparseAtx_any a len cap ts at_ W (hK.below h (Nat.le_refl _)) (by omega) ⟨ha1, ha2⟩ hz)
  have C3 := Lib.hid (fun W (h : Below w.heap.size w W) => text_any7 a2 len2 cap2 zs N W (hzs.below h (Nat.le_refl _)) (by omega) hN7)
  have CS := Lib.hid (fun s W h => rsplit_any s W h)
  have CP := Lib.hid (fun a len cap ts z W (h : IsToks W a len ts) h1 h2 h3 (hb : Below w.heap.size w W) => pparseAtx_any a len cap ts z W h h1 h2 h3 (hg.below hb (Nat.le_refl _)))
  have CK := Lib.hid (fun W (h : Below w.heap.size w W) => known8_any W (hg.below h (Nat.le_refl _)))
  have hb31 := and_31 n
  rw [hN] at hb31
  have PL := Lib.hid (patO_len ts at_)
  obtain ⟨⟨l, p, x⟩, hO⟩ : ∃ O, patO ts at_ = O := ⟨_, rfl⟩
  rw [hO] at C1 C2 PL
  unfold PatP at C1 C2 CP
  unfold IsOut at CS
  simp only at C1 C2 PL
  have hpl := PL.out
  clear hK hz hzs hg hN hO PL
  go_enter Tryz.func5, Tryz.ntmps5
  go_wp2_with fail
  refine C1.out.mono ?_
  rintro e w1 ⟨v1, rfl, hown1, hb1⟩
  obtain ⟨b1, c1, rfl, q1, _, _, _, _⟩ := own_nodes hown1 rfl
  have C21 := Lib.hid (C2.out w1 hb1)
  have HQ1 := Lib.hid q1
  have HB1 := Lib.hid hb1
  clear hown1 hb1 C1 C2 q1
  go_wp2_with fail
  refine C21.out.mono ?_
  rintro e w2 ⟨v2, rfl, hown2, hb2⟩
  obtain ⟨b2, c2, rfl, q2, _, _, _, _⟩ := own_nodes hown2 rfl
  have CE := Lib.hid (rsame8_yes b1 l.length c1 l b2 c2 w2 (HQ1.out.below hb2 (Nat.le_refl _)) q2 (by omega))
  have HB2 := Lib.hid (HB1.out.trans (hb2.mono HB1.out.size))
  clear hown2 hb2 C21 q2 HQ1 HB1
  go_wp2_with fail
  refine CE.out.mono ?_
  rintro e w3 ⟨rfl, hb3⟩
  have hB3 := HB2.out.trans (hb3.mono HB2.out.size)
  have C33 := Lib.hid (C3.out w3 hB3)
  have HB3 := Lib.hid hB3
  clear hb3 CE HB2 C3 hB3
  go_wp2_with fail
  refine C33.out.mono ?_
  rintro e w4 ⟨t, rfl, ht, hb4⟩
  have hB4 := HB3.out.trans (hb4.mono HB3.out.size)
  have CS4 := Lib.hid (CS.out t w4 (by omega))
  have HB4 := Lib.hid hB4
  have HSP := Lib.hid (fun (h : (splitP t).e = 0) => split_toks h)
  obtain ⟨⟨tl, ti, te⟩, hO⟩ : ∃ O, splitP t = O := ⟨_, rfl⟩
  rw [hO] at CS4 HSP
  simp only at CS4 HSP
  clear hb4 C33 HB3 CS hB4 hO
  go_wp2_with fail
  refine CS4.out.mono ?_
  rintro e w5 ⟨a5, k5, rfl, hT5, hc5, hm5, hn5, hx5, hb5⟩
  have HT5 := Lib.hid hT5
  have HB5 := Lib.hid (HB4.out.trans (hb5.mono HB4.out.size))
  clear hT5 hx5 hb5 CS4 HB4
  by_cases hte : te = 0
  rotate_left
  · have hteb := bne0 hte
    have CK5 := Lib.hid (CK.out w5 HB5.out)
    clear CK CP HSP HT5
    go_wp2_with fail
    refine CK5.out.mono ?_
    rintro e w6 ⟨rfl, hb6⟩
    have HB6 := Lib.hid (HB5.out.trans (hb6.mono HB5.out.size))
    clear hb6 CK5
    go_wp2_with fail
    go_ret
    exact ⟨rfl, HB6.out⟩
  subst hte
  obtain ⟨hv5, hl5, hl51, hz5⟩ := HSP.out rfl
  have HZ5 := Lib.hid hz5
  have hlpos : (0 : Int) < (tl.length : Int) := by omega
  obtain ⟨I, hI, hIl⟩ : ∃ I : Nat, (bits BinOp.and IntKind.i64 (n / 32) 255).tmod (tl.length : Int) = (I : Int) ∧ I < tl.length := by
    rw [and_255]
    have h0 : 0 ≤ n / 32 % 256 := Int.emod_nonneg _ (by omega)
    rw [Int.tmod_eq_emod_of_nonneg h0]
    have h1 := Int.emod_nonneg (n / 32 % 256) (by omega : (tl.length : Int) ≠ 0)
    have h2 := Int.emod_lt_of_pos (n / 32 % 256) hlpos
    exact ⟨(n / 32 % 256 % (tl.length : Int)).toNat, by omega, by omega⟩
  have CP5 := Lib.hid (CP.out a5 tl.length k5 tl (I : Int) w5 HT5.out (by omega) ⟨by omega, by omega⟩ HZ5.out HB5.out)
  have CR5 := Lib.hid (fun W (hb : Below w5.heap.size w5 W) => rparseAtx_any a5 tl.length k5 tl (I : Int) W (HT5.out.below hb (Nat.le_refl _)) (by omega) ⟨by omega, by omega⟩ HZ5.out)
  have PL5 := patO_len tl (I : Int)
  obtain ⟨⟨m, q, y⟩, hO⟩ : ∃ O, patO tl (I : Int) = O := ⟨_, rfl⟩
  unfold PatP at CR5
  rw [hO] at CP5 CR5 PL5
  simp only at CP5 CR5 PL5
  clear HSP hz5 hv5 hO CP HZ5
  go_wp2_with fail
  refine CP5.out.mono ?_
  rintro e w6 ⟨v6, rfl, hown6, hb6⟩
  obtain ⟨b6, c6', rfl, q6, _, _, _, _⟩ := own_nodes hown6 rfl
  have CR6 := Lib.hid (CR5.out w6 hb6)
  have HQ6 := Lib.hid q6
  have HB6 := Lib.hid (HB5.out.trans (hb6.mono HB5.out.size))
  clear hown6 hb6 CP5 CR5 q6
  go_wp2_with fail
  refine CR6.out.mono ?_
  rintro e w7 ⟨v7, rfl, hown7, hb7⟩
  obtain ⟨b7, c7, rfl, q7, _, _, _, _⟩ := own_nodes hown7 rfl
  have CE7 := Lib.hid (rsame8_yes b6 m.length c6' m b7 c7 w7 (HQ6.out.below hb7 (Nat.le_refl _)) q7 (by omega))
  have HB7 := Lib.hid (HB6.out.trans (hb7.mono HB6.out.size))
  clear hown7 hb7 CR6 q7 HQ6 HB6
  go_wp2_with fail
  refine CE7.out.mono ?_
  rintro e w8 ⟨rfl, hb8⟩
  have hB8 := HB7.out.trans (hb8.mono HB7.out.size)
  have CK8 := Lib.hid (CK.out w8 hB8)
  have HB8 := Lib.hid hB8
  clear hb8 hB8 CE7 CK HB7
  go_wp2_with fail
  refine CK8.out.mono ?_
  rintro e w9 ⟨rfl, hb9⟩
  have HB9 := Lib.hid (HB8.out.trans (hb9.mono HB8.out.size))
  clear hb9 CK8
  go_wp2_with fail
  go_ret
  exact ⟨rfl, HB9.out⟩

end Go.Proofs.YtmdpjahhhfajaaaGreatDoor
