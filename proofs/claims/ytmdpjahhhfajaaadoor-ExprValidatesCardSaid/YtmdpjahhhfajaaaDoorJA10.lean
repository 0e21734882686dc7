/-
  Raise, Validate of the reference. · Validate of the reference.
-/
import Derived.Test.YtmdpjahhhfajaaaDoorJA07
import Derived.Test.YtmdpjahhhfajaaaDoorJA09
set_option linter.unusedVariables false
set_option linter.unusedSimpArgs false
set_option maxRecDepth 100000
namespace Go.Proofs.YtmdpjahhhfajaaaDoor
open Go.RowKit Wh
theorem slice_to_ints (a : Option Addr) (len cap k : Nat) (hk : k ≤ cap) (hm : cap ≤ maxLen) (hn : a = none → cap = 0) (hs : ∀ x, a = some x → x.spot = none) (W : World) :
    (Instr.slice 27 (.slice a len cap) none (some (.int .i64 k)) none).run Tryd.prog W = .ok (.slice a k cap) W := by
  have ht : Tryd.prog.underlying 27 = some (.slice (Tryd.prog.elem 27)) := by simp [Program.elem, Tryd.underlying27]
  have he : Tryd.prog.elem 27 = 3 := by simp [Program.elem, Tryd.underlying27]
  have hsz : (sizeOf 3).run Tryd.prog W = .ok 1 W := by
    obtain ⟨i0, hi, _, h1, _⟩ := info_parts info_int
    simp [sizeOf, typeInfo, hi, h1]
  rw [run_slice_h W _ _ _ _ ht .i64 _ (by omega) (by omega), he, hsz]
  by_cases hc : cap = 0
  · simp [Result.andThen, sliced, hc]
  · cases a with
    | none => exact absurd (hn rfl) hc
    | some x =>
      obtain ⟨b, off, spot⟩ := x
      have := hs _ rfl
      simp only at this
      subst this
      have hadd : (⟨b, off, none⟩ : Addr).add 0 = ⟨b, off, none⟩ := by unfold Addr.add; split <;> simp_all
      simp [Result.andThen, sliced, hc, hadd]
theorem maxL_bound (l : List Int) (h : ∀ z ∈ l, 0 ≤ z ∧ z ≤ 1000) : 0 ≤ maxL l ∧ maxL l ≤ 1000 := by
  unfold maxL
  have : ∀ (l : List Int) (a : Int), (∀ z ∈ l, 0 ≤ z ∧ z ≤ 1000) → 0 ≤ a → a ≤ 1000 → 0 ≤ l.foldl max a ∧ l.foldl max a ≤ 1000 := by
    intro l
    induction l with
    | nil => intro a _ h1 h2; exact ⟨h1, h2⟩
    | cons x l ih =>
      intro a hx h1 h2
      have := hx x (by simp)
      exact ih _ (fun z hz => hx z (by simp [hz])) (by omega) (by omega)
  exact this l 0 h (by omega) (by omega)
set_option maxHeartbeats 4000000 in
theorem rraise_any (a : Option Addr) (len cap n : Nat) (zs : List Int) (w : World) (hz : IsInts w a len zs) (hn : n ≤ len) (hc : len ≤ cap) (hm : cap ≤ maxLen) (hnil : a = none → cap = 0) (hs : ∀ x, a = some x → x.spot = none) (hb : ∀ z ∈ zs, 0 ≤ z ∧ z ≤ 1000) :
    Calls Tryd.prog 26 #[.slice a len cap, .int .i64 n] w fun e w' => e = .returned (.tuple #[.int .i64 (maxL (zs.drop (len - n)) + 1), .slice a (len - n) cap]) ∧ Below w.heap.size w w' := by
  have mm : maxLen = 9223372036854775807 := rfl
  obtain ⟨r, hr⟩ : ∃ r : Nat, len = r + n := ⟨len - n, by omega⟩
  subst hr
  rw [show r + n - n = r by omega]
  have HS := Lib.hid (fun W => slice_to_ints a (r + n) cap r (by omega) hm hnil hs W)
  have HZ := Lib.hid hz
  have HB := Lib.hid hb
  have hzl := hz.1
  clear hz hb hs hnil
  go_enter Tryd.func26, Tryd.ntmps26
  go_wp2_with fail
  go_loopw [6, 8] (fun hv iv wr => ∃ j : Nat, j ≤ n ∧ iv = .int .i64 ((r + j : Nat) : Int) ∧ hv = .int .i64 (maxL ((zs.drop r).take j)) ∧ Below w.heap.size w wr) (fun _ iv _ => (r + n) - (intOf iv).toNat)
  case atStart => exact ⟨0, Nat.zero_le _, by go_num, by simp [maxL], Below.refl _ _⟩
  case round =>
    obtain ⟨j, hj, rfl, rfl, hbel⟩ := hrel
    by_cases hlt : j < n
    · obtain ⟨z, b, off, hz, rfl, hbl, hcell⟩ := (HZ.out.below hbel (Nat.le_refl _)).at (k := r + j) (by omega)
      have hz2 : (zs.drop r)[j]? = some z := by rw [List.getElem?_drop]; exact hz
      have HMX := Lib.hid (maxL_take (zs.drop r) j z hz2)
      generalize maxL ((zs.drop r).take j) = M at *
      clear hz hz2
      go_wp2_with fail
      go_roundw
      case rel => exact ⟨j + 1, by omega, by go_num, by first | (rw [HMX.out]; congr 1; all_goals (split <;> omega)) | rw [HMX.out], hbel⟩
      case measure => simp [intOf]; omega
    · obtain rfl : j = n := by omega
      have HM : Hid (maxL ((zs.drop r).take j) = maxL (zs.drop r)) := by
        show _ = _
        rw [List.take_of_length_le (by rw [List.length_drop]; omega)]
      rw [HM.out]
      have HB2 : 0 ≤ maxL (zs.drop r) ∧ maxL (zs.drop r) ≤ 1000 := maxL_bound _ fun z hz => HB.out z (List.mem_of_mem_drop hz)
      obtain ⟨M, hM⟩ : ∃ M, maxL (zs.drop r) = M := ⟨_, rfl⟩
      rw [hM] at HB2 ⊢
      have HMM := Lib.hid hM
      clear hM HM
      have hsl := HS.out
      go_wp2_with fail
      go_quiet (fail)
      go_wp2_with fail
      go_ret2
      exact ⟨by rw [HMM.out]; rfl, Below.drewN' hbel _⟩
end Go.Proofs.YtmdpjahhhfajaaaDoor
namespace Go.Proofs.YtmdpjahhhfajaaaDoor
open Go.RowKit Wh
theorem NodeAt.mk6 {w : World} {b off : Nat} {op k n : Int} {s nm : ByteArray} {ar : Int} (h : NodeAt w b off ⟨op, ⟨k, n, s⟩, nm, ar⟩) :
    w.cell? ⟨b, off, none⟩ = some (.int .i64 op) ∧ w.cell? ⟨b, off + 1, none⟩ = some (.int .i64 k) ∧ w.cell? ⟨b, off + 2, none⟩ = some (.int .i64 n) ∧ w.cell? ⟨b, off + 3, none⟩ = some (.string s) ∧ w.cell? ⟨b, off + 4, none⟩ = some (.string nm) ∧ w.cell? ⟨b, off + 5, none⟩ = some (.int .i64 ar) := h
theorem valS_bad {t : Nd} {l : List Nd} {st : List Int} (h : nodB t = false) : valS (t :: l) st = 8 := by unfold valS; rw [if_pos (.inl h)]
theorem valS_few {t : Nd} {l : List Nd} {st : List Int} (h : (st.length : Int) < arN t) : valS (t :: l) st = 8 := by unfold valS; rw [if_pos (.inr h)]
theorem valS_deep {t : Nd} {l : List Nd} {st : List Int} {p : Nat} (h : nodB t = true) (hp : arN t = (p : Int)) (hl : p ≤ st.length) (hd : 64 < maxL (st.drop (st.length - p)) + 1) : valS (t :: l) st = 2 := by
  unfold valS
  rw [hp, Int.toNat_natCast, if_neg (by rw [h]; simp; omega), if_pos hd]
theorem valS_go {t : Nd} {l : List Nd} {st : List Int} {p : Nat} (h : nodB t = true) (hp : arN t = (p : Int)) (hl : p ≤ st.length) (hd : ¬ 64 < maxL (st.drop (st.length - p)) + 1) : valS (t :: l) st = valS l (st.take (st.length - p) ++ [maxL (st.drop (st.length - p)) + 1]) := by
  rw [valS, hp, Int.toNat_natCast, if_neg (by rw [h]; simp; omega), if_neg hd]
set_option maxHeartbeats 8000000 in
theorem rvalidN_any (a : Option Addr) (len cap : Nat) (ts : List Nd) (w : World) (hs : IsNodes w a len ts) (hl : len ≤ 9223372036854775807) (hz : ∀ t ∈ ts, t.nm.size ≤ 9223372036854775800) :
    Calls Tryd.prog 10 #[.slice a len cap] w fun e w' => e = .returned (.int .i64 (valN ts)) ∧ Below w.heap.size w w' := by
  have mm : maxLen = 9223372036854775807 := rfl
  have hln := hs.1
  by_cases hbig : 256 < len
  · have hE : valN ts = 2 := by unfold valN; rw [if_pos (by omega)]
    rw [hE]
    clear hE hs
    go_enter Tryd.func10, Tryd.ntmps10
    go_wp2
    go_ret
    exact ⟨rfl, Below.refl _ _⟩
  have hE : valN ts = valS ts [] := by unfold valN; rw [if_neg (by omega)]
  rw [hE]
  obtain ⟨E, hEE⟩ : ∃ E, valS ts [] = E := ⟨_, rfl⟩
  rw [hEE]
  obtain ⟨i0, hi, hz0, hz1, hz2⟩ := info_parts info_int
  have HS := Lib.hid hs
  have HZ := Lib.hid hz
  have HE := Lib.hid hEE
  clear hs hz hE hEE
  go_enter Tryd.func10, Tryd.ntmps10
  go_wp2_with fail
  go_loopw [3, 4] (fun sv iv wr => ∃ (k : Nat) (st : List Int), k ≤ len ∧ iv = .int .i64 k ∧ wr.ownsRow w.heap.size 3 1 sv st.length (st.map (Value.int .i64)) ∧ Hid (st.length ≤ k ∧ ∀ z ∈ st, 0 ≤ z ∧ z ≤ 64) ∧ Hid (valS (ts.drop k) st = E) ∧ Below w.heap.size w wr) (fun _ iv _ => len - (intOf iv).toNat)
  case atStart => exact ⟨0, [], Nat.zero_le _, rfl, World.ownsRow_nil _ _ _ _, ⟨Nat.zero_le _, by simp⟩, HE, Below.refl _ _⟩
  case round =>
    obtain ⟨k, st, hk, rfl, hown, HST, HV, hbel⟩ := hrel
    have hsz := hbel.size
    have hsl := HST.out.1
    by_cases hlt : k < len
    · obtain ⟨t, b, off, ht, rfl, hbl, hat⟩ := (HS.out.below hbel (Nat.le_refl _)).at hlt
      have hdr : ts.drop k = t :: ts.drop (k + 1) := by
        obtain ⟨hk2, rfl⟩ := List.getElem?_eq_some_iff.1 ht
        exact List.drop_eq_getElem_cons hk2
      have hV := HV.out
      rw [hdr] at hV
      have hnm := HZ.out t (List.mem_of_getElem? ht)
      have CF := Lib.hid (fun W => rformed_any t W hnm)
      have CA := Lib.hid (fun W => rarity_any t W)
      obtain ⟨sa, sc, rfl, hsi, hscl, hscm, hsn, hsx⟩ := own_ints hown
      clear HV hdr ht hnm
      by_cases hf : nodB t = false
      · rw [valS_bad hf] at hV
        subst hV
        rw [hf] at CF
        obtain ⟨op, ⟨vk, vn, vs⟩, nm, ar⟩ := t
        unfold ndV at CF
        simp only at CF
        obtain ⟨c0, c1, c2, c3, c4, c5⟩ := hat.mk6
        clear hat hsi hsx CA hf
        have HBEL := Lib.hid hbel
        clear hown hbel
        go_wp2_with fail
        refine (CF.out _).mono ?_
        rintro e w1 ⟨rfl, hb1⟩
        have HB1 := Lib.hid (HBEL.out.trans (hb1.mono hsz))
        go_wp2_with fail
        go_ret
        exact ⟨rfl, HB1.out⟩
      · have hf1 : nodB t = true := by simpa using hf
        obtain ⟨q0, q8⟩ := nodB_ar hf1
        obtain ⟨p, hp⟩ : ∃ p : Nat, arN t = (p : Int) := ⟨(arN t).toNat, by omega⟩
        rw [hp] at CA q0 q8
        rw [hf1] at CF
        have few := Lib.hid (fun (h : st.length < p) => valS_few (t := t) (l := ts.drop (k + 1)) (st := st) (by omega))
        have deep := Lib.hid (fun (h : p ≤ st.length) hd => valS_deep (l := ts.drop (k + 1)) (st := st) hf1 hp h hd)
        have go := Lib.hid (fun (h : p ≤ st.length) hd => valS_go (l := ts.drop (k + 1)) (st := st) hf1 hp h hd)
        have HVV := Lib.hid hV
        clear hf hf1 hp hV
        obtain ⟨op, ⟨vk, vn, vs⟩, nm, ar⟩ := t
        unfold ndV at CF CA
        simp only at CF CA
        have HAT := Lib.hid hat
        obtain ⟨c0, c1, c2, c3, c4, c5⟩ := hat.mk6
        have HBEL := Lib.hid hbel
        have HO := Lib.hid hown
        have HSI := Lib.hid hsi
        clear hat hown hbel hsi
        go_wp2_with fail
        refine (CF.out _).mono ?_
        rintro e w1 ⟨rfl, hb1⟩
        have hs1 := hb1.size
        obtain ⟨d0, d1, d2, d3, d4, d5⟩ := (HAT.out.below hb1 hbl).mk6
        have HB1 := Lib.hid hb1
        clear hb1 CF
        go_wp2_with fail
        refine (CA.out _).mono ?_
        rintro e w2 ⟨rfl, hb2⟩
        have hB2 := HB1.out.trans (hb2.mono hs1)
        have hs2 := hB2.size
        clear c0 c1 c2 c3 c4 c5 d0 d1 d2 d3 d4 d5 hb2
        have HB2 := Lib.hid hB2
        clear hB2
        by_cases hpl : st.length < p
        · have hE := few.out hpl
          rw [HVV.out] at hE
          subst hE
          clear few deep go HVV
          go_wp2_with fail
          go_ret
          exact ⟨rfl, HBEL.out.trans (HB2.out.mono hsz)⟩
        · have hpl2 : p ≤ st.length := by omega
          obtain ⟨c0, c1, c2, c3, c4, c5⟩ := (HAT.out.below HB2.out hbl).mk6
          go_wp2_with fail
          refine (CA.out _).mono ?_
          rintro e w3 ⟨rfl, hb3⟩
          have hB3 := HB2.out.trans (hb3.mono hs2)
          have hs3 := hB3.size
          have HB3 := Lib.hid hB3
          clear c0 c1 c2 c3 c4 c5 hb3 hB3 CA
          have CR := Lib.hid (rraise_any sa st.length sc p st w3 (HSI.out.below HB3.out (Nat.le_refl _)) hpl2 hscl hscm (fun h => (hsn h).2) (fun x hx => by obtain ⟨g, rfl, _⟩ := hsx x hx; rfl) (fun z hz => by have := HST.out.2 z hz; omega))
          go_wp2_with fail
          refine CR.out.mono ?_
          rintro e w4 ⟨rfl, hb4⟩
          have hB4 := HB3.out.trans (hb4.mono hs3)
          have HB4 := Lib.hid hB4
          have hs4 := hB4.size
          have MB := Lib.hid (maxL_bound (st.drop (st.length - p)) (fun z hz => by have := HST.out.2 z (List.mem_of_mem_drop hz); omega))
          by_cases hd : 64 < maxL (st.drop (st.length - p)) + 1
          · have hE := deep.out hpl2 hd
            rw [HVV.out] at hE
            subst hE
            clear few deep go HVV hb4 hB4 CR
            generalize maxL (st.drop (st.length - p)) = M at *
            go_wp2_with fail
            go_ret
            exact ⟨rfl, HBEL.out.trans (HB4.out.mono hsz)⟩
          · have hE := go.out hpl2 (by omega)
            rw [HVV.out] at hE
            have HO4 := Lib.hid (own_take (own_below HO.out HB4.out) (k := st.length - p) (by omega))
            have HMB := Lib.hid (And.intro MB.out hd)
            obtain ⟨r, hr⟩ : ∃ r, st.length - p = r := ⟨_, rfl⟩
            rw [hr] at hE HO4 HMB ⊢
            have hrl : r ≤ st.length := by omega
            obtain ⟨M, hM⟩ : ∃ M, maxL (st.drop r) = M := ⟨_, rfl⟩
            rw [hM] at hE HMB ⊢
            have HEE := Lib.hid hE.symm
            obtain ⟨⟨hM0, hM1⟩, hM2⟩ := HMB.out
            clear few deep go HVV hb4 hB4 CR MB hM hr hE hd HMB
            go_wp2_with (at_builtin; refine wpList_append_own _ rfl _ _ 27 rfl w.heap.size 3 i0 _ 1 8 Tryd.underlying27 hi hz0 hz1 hz2 rfl (by decide) _ _ _ rfl (HO4.out.alloc _) ⟨w4.heap.size, 0, none⟩ 1 1 [.int .i64 (M + 1)] rfl rfl ?c1 ?c2 ?c3 ?c4 ?c5 ?_)
            case c1 => exact World.news_of_block (cs := #[.int .i64 (M + 1)]) (t := 3) (fr := (0, 0)) (heap_alloc_new w4 _)
            case c2 => simp [Value.oneCell']
            case c3 => simp [maxLen]; omega
            case c4 => omega
            case c5 => simp; omega
            intro v5 w5 hown5 hgrow _
            have hB5 : Below w.heap.size w w5 := ((HBEL.out.trans (HB4.out.mono hsz)).alloc (by omega) _).grown hgrow (by simp; omega) (fun j hj => (HO4.out.lt j hj).1)
            have hown6 : w5.ownsRow w.heap.size 3 1 v5 (st.take r ++ [M + 1]).length ((st.take r ++ [M + 1]).map (Value.int .i64)) := by
              rw [List.map_append, List.length_append, List.length_take, Nat.min_eq_left hrl, List.map_take]
              exact hown5
            have HST2 : Hid ((st.take r ++ [M + 1]).length ≤ k + 1 ∧ ∀ z ∈ st.take r ++ [M + 1], 0 ≤ z ∧ z ≤ 64) := by
              refine ⟨by rw [List.length_append, List.length_take, Nat.min_eq_left hrl]; simp; omega, fun z hz => ?_⟩
              rcases List.mem_append.1 hz with h | h
              · exact HST.out.2 z (List.mem_of_mem_take h)
              · rw [List.mem_singleton] at h
                omega
            generalize st.take r ++ [M + 1] = st2 at *
            clear hown5 hgrow HO4 HO HSI HB4 HB3 HB2 HB1 HST
            go_wp2_with fail
            go_roundw
            case rel => exact ⟨k + 1, st2, by omega, by go_num, hown6, HST2, HEE, hB5⟩
            case measure => simp [intOf]; omega
    · obtain rfl : k = len := by omega
      have hV := HV.out
      rw [List.drop_of_length_le (by omega)] at hV
      obtain ⟨sa, sc, rfl, hsi, hscl, hscm, hsn, hsx⟩ := own_ints hown
      by_cases h1 : st.length = 1
      · have : E = 0 := by rw [← hV]; unfold valS; rw [if_pos h1]
        subst this
        clear hV hown hsi HV
        rw [h1] at *
        go_wp2_with fail
        go_ret
        exact ⟨rfl, hbel⟩
      · have : E = 8 := by rw [← hV]; unfold valS; rw [if_neg h1]
        subst this
        clear hV hown hsi HV
        have h1i : ¬ (st.length : Int) = 1 := by omega
        go_wp2_with fail
        go_ret
        exact ⟨rfl, hbel⟩
end Go.Proofs.YtmdpjahhhfajaaaDoor
