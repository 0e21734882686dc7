/-
  The reference's Type of an expression over the laws' columns and zones
-/
import Derived.Test.YtmdpjahhhfajaaaDoorJA29
import Derived.Deep.RegionLawGrows
import Derived.Deep.RegionLaw
set_option linter.unusedVariables false
set_option linter.unusedSimpArgs false
set_option maxRecDepth 100000
namespace Go.Proofs.YtmdpjahhhfajaaaDoor
open Go.RowKit Go.Joins Wh
theorem info_kt : (Tryd.prog.info? 97).map (fun i => (i.zero, i.size, i.bytes)) = some (some (.agg #[.int .i64 0, .bool false]), 2, 16) := by kernel_rfl
theorem under_kts : Tryd.prog.underlying 95 = some (.slice (Tryd.prog.elem 95)) := by simp [Program.elem, Tryd.underlying95]
theorem elem_kts : Tryd.prog.elem 95 = 97 := by simp [Program.elem, Tryd.underlying95]
theorem size_kt (W : World) : (sizeOf 97).run Tryd.prog W = .ok 2 W := by
  obtain ⟨i0, hi, _, h1, _⟩ := info_parts info_kt
  simp [sizeOf, typeInfo, hi, h1]
theorem slice_from_kts {w : World} {a : Option Addr} {len cap : Nat} {es : List KT} (k : Nat) (ki : Int) (hki : ki = (k : Int)) (h : IsKTs w a len es) (hk : k ≤ len) (hc : len ≤ cap) (hm : cap ≤ maxLen) (hn : a = none → cap = 0) (hs : ∀ x, a = some x → x.spot = none) :
    ∃ (a2 : Option Addr) (c2 : Nat), (∀ W, (Instr.slice 95 (.slice a len cap) (some (.int .i64 ki)) none none).run Tryd.prog W = .ok (.slice a2 (len - k) c2) W) ∧ IsKTs w a2 (len - k) (es.drop k) := by
  subst hki
  have hr : ∀ W, (Instr.slice 95 (.slice a len cap) (some (.int .i64 (k : Int))) none none).run Tryd.prog W = .ok (sliced a k len cap 2) W := by
    intro W
    rw [run_slice_l W _ _ _ _ under_kts .i64 _ (by omega) (by omega), elem_kts, size_kt]
    simp [Result.andThen]
  by_cases hcap : cap = k
  · refine ⟨a, cap - k, ?_, ?_⟩
    · intro W
      rw [hr]
      simp [sliced, hcap]
    · exact ⟨by rw [List.length_drop, h.1], .inl (by apply List.drop_of_length_le; have := h.1; omega)⟩
  · cases a with
    | none => exact absurd (hn rfl) (by omega)
    | some x =>
      obtain ⟨b, off, spot⟩ := x
      have hsp := hs _ rfl
      simp only at hsp
      subst hsp
      have hadd : (⟨b, off, none⟩ : Addr).add (k * 2) = ⟨b, off + k * 2, none⟩ := by unfold Addr.add; split <;> simp_all
      refine ⟨some ⟨b, off + k * 2, none⟩, cap - k, ?_, ⟨by rw [List.length_drop, h.1], ?_⟩⟩
      · intro W
        rw [hr]
        simp [sliced, hcap] at hadd ⊢
        exact hadd
      · rcases h.2 with h2 | ⟨b2, off2, hx, hlt, hcell⟩
        · exact .inl (by rw [h2]; simp)
        · cases hx
          refine .inr ⟨b, off + k * 2, rfl, hlt, fun i z hz => ?_⟩
          rw [List.getElem?_drop] at hz
          have := hcell (k + i) z hz
          rw [show off + k * 2 + i * 2 = off + (k + i) * 2 by omega]
          exact this
theorem slice_cut_kts (a : Option Addr) (len cap k : Nat) (hk : k ≤ cap) (hm : cap ≤ maxLen) (hs : ∀ x, a = some x → x.spot = none) (W : World) :
    (Instr.slice 95 (.slice a len cap) none (some (.int .i64 (k : Int))) (some (.int .i64 (k : Int)))).run Tryd.prog W = .ok (.slice a k k) W := by
  rw [run_slice_any W _ _ _ _ under_kts, elem_kts]
  have hb : (Instr.sliceBounds true len cap none (some (.int .i64 (k : Int))) (some (.int .i64 (k : Int)))).run Tryd.prog W = .ok (0, k, k) W := by
    simp [Instr.sliceBounds, run_sliceBound, hk]
  rw [hb]
  simp only [Result.andThen, size_kt]
  unfold sliced
  cases a with
  | none => simp
  | some x =>
    obtain ⟨b, off, spot⟩ := x
    have := hs _ rfl
    simp only at this
    subst this
    have hadd : (⟨b, off, none⟩ : Addr).add 0 = ⟨b, off, none⟩ := by unfold Addr.add; split <;> simp_all
    simp [hadd]
theorem own_kts {w : World} {base n : Nat} {v : Value} {xs : List KT} (h : w.ownsRow base 97 2 v n (ktsL xs)) (hn : xs.length = n) :
    ∃ (a : Option Addr) (cap : Nat), v = .slice a n cap ∧ IsKTs w a n xs ∧ n ≤ cap ∧ cap ≤ maxLen ∧ (a = none → cap = 0) ∧ (∀ x, a = some x → ∃ g, x = ⟨g, 0, none⟩ ∧ base ≤ g ∧ g < w.heap.size) := by
  rcases h.2 with ⟨rfl, rfl⟩ | ⟨g, cap, cur, rfl, hg, hh, hnc, hmc, _, ht⟩
  · exact ⟨none, 0, rfl, ⟨hn, .inl (List.eq_nil_of_length_eq_zero hn)⟩, Nat.le_refl _, Nat.zero_le _, fun _ => rfl, fun x hx => by cases hx⟩
  · have hlt : g < w.heap.size := (Array.getElem?_eq_some_iff.1 hh).1
    refine ⟨_, cap, rfl, ⟨hn, .inr ⟨g, 0, rfl, hlt, fun i t hi => ?_⟩⟩, hnc, hmc, fun hx => (by cases hx), by rintro x ⟨⟩; exact ⟨g, rfl, hg, hlt⟩⟩
    obtain ⟨f0, f1⟩ := ktsL_at xs i t hi
    have hk := (List.getElem?_eq_some_iff.1 hi).1
    simp only [Nat.zero_add]
    exact ⟨(h.cellAt (i * 2) (by omega)).trans f0, (h.cellAt (i * 2 + 1) (by omega)).trans f1⟩
theorem keepTy {wr w1 w2 : World} {tb of B : Nat} {op vk vn ar : Int} {vs nm : ByteArray} (h0 : tb < B ∧ wr.heap.size ≤ B) (h : w1.cell? ⟨tb, of, none⟩ = some (.int .i64 op) ∧ w1.cell? ⟨tb, of + 1, none⟩ = some (.int .i64 vk) ∧ w1.cell? ⟨tb, of + 2, none⟩ = some (.int .i64 vn) ∧ w1.cell? ⟨tb, of + 3, none⟩ = some (.string vs) ∧ w1.cell? ⟨tb, of + 4, none⟩ = some (.string nm) ∧ w1.cell? ⟨tb, of + 5, none⟩ = some (.int .i64 ar) ∧ Below wr.heap.size wr w1) (hb : Below B w1 w2) : w2.cell? ⟨tb, of, none⟩ = some (.int .i64 op) ∧ w2.cell? ⟨tb, of + 1, none⟩ = some (.int .i64 vk) ∧ w2.cell? ⟨tb, of + 2, none⟩ = some (.int .i64 vn) ∧ w2.cell? ⟨tb, of + 3, none⟩ = some (.string vs) ∧ w2.cell? ⟨tb, of + 4, none⟩ = some (.string nm) ∧ w2.cell? ⟨tb, of + 5, none⟩ = some (.int .i64 ar) ∧ Below wr.heap.size wr w2 := by
  obtain ⟨a0, a1, a2, a3, a4, a5, hB⟩ := h
  have e : ∀ o, w2.cell? ⟨tb, o, none⟩ = w1.cell? ⟨tb, o, none⟩ := fun o => hb.cell (p := ⟨tb, o, none⟩) h0.1
  exact ⟨(e _).trans a0, (e _).trans a1, (e _).trans a2, (e _).trans a3, (e _).trans a4, (e _).trans a5, hB.trans (hb.mono h0.2)⟩
set_option maxHeartbeats 16000000 in
theorem rtype_any (a : Option Addr) (len cap cb zb s1 s2 : Nat) (ts : List Nd) (w : World) (hs : IsNodes w a len ts) (hl : len ≤ 9223372036854775807) (hz : ∀ t ∈ ts, t.nm.size ≤ 9223372036854775800) (hv : valN ts = 0) (hg : ∀ t ∈ ts, GdT t) (hC : ColsX w cb) (hZ : ZonesX w zb s1 s2) :
    Calls Tryd.prog 49 #[.slice a len cap, .slice (some ⟨cb, 0, none⟩) 4 4, .slice (some ⟨zb, 0, none⟩) 3 3] w fun e w' => e = .returned (.tuple #[.int .i64 (typR (typS ts [])).1.1, .bool (typR (typS ts [])).1.2, .int .i64 (typR (typS ts [])).2]) ∧ Below w.heap.size w w' := by
  have hln := hs.1
  have CV := Lib.hid (rvalidN_any a len cap ts w hs hl hz)
  rw [hv] at CV
  obtain ⟨hl256, hv0⟩ := valN_zero hv
  obtain ⟨E, hEE⟩ : ∃ E, typS ts [] = E := ⟨_, rfl⟩
  rw [hEE]
  have HE := Lib.hid hEE
  have HS := Lib.hid hs
  have HC := Lib.hid hC
  have HZ := Lib.hid hZ
  have HG := Lib.hid hg
  have CC := Lib.hid (fun W (h : ColsX W cb) => rvalidate_any5 (some ⟨cb, 0, none⟩) 4 4 colsX W h.cols (Nat.le_refl _) (by decide))
  rw [colsX_val] at CC
  have HV0 : Hid (([] : List KT).length ≤ 0 ∧ ([] : List Int).length = ([] : List KT).length ∧ valS (ts.drop 0) [] = 0) := ⟨Nat.le_refl _, rfl, hv0⟩
  have CA := Lib.hid (fun t W => rarity_any t W)
  have CN := Lib.hid (fun t a p c x W hg hp hx hC hZ => rnode_any t a p c cb zb s1 s2 x W hg hp hx hC hZ)
  unfold ndV at CA CN
  obtain ⟨i0, hi, hz0, hz1, hz2⟩ := info_parts info_kt
  clear hs hz hv hg hC hZ hEE hv0
  go_enter Tryd.func49, Tryd.ntmps49
  go_wp2_with fail
  refine CV.out.mono ?_
  rintro e w1 ⟨rfl, hb1⟩
  have HC1 := Lib.hid (HC.out.below hb1 (Nat.le_refl _))
  have HB1 := Lib.hid hb1
  clear hb1 CV
  go_wp2_with fail
  refine (CC.out _ HC1.out).mono ?_
  rintro e w2 ⟨rfl, rfl⟩
  clear CC
  go_wp2_with fail
  go_loopw [11] (fun iv wr => ∃ k : Nat, k ≤ 3 ∧ iv = .int .i64 k ∧ Hid (Below w.heap.size w wr)) (fun iv _ => 3 - (intOf iv).toNat)
  case atStart => exact ⟨0, by omega, rfl, HB1⟩
  case round =>
    obtain ⟨k, hk, rfl, HBEL⟩ := hrel
    by_cases hlt : k < 3
    · have hzw := HZ.out.below HBEL.out (Nat.le_refl _)
      obtain ⟨sa, sl, sc, hsh, hish, hsl, hzE⟩ := hzw.sh hlt
      obtain ⟨d0, d1, d2⟩ := hzw.cells hlt
      rw [hsh] at d2
      have CZ := Lib.hid (rvalidate_any (zNm k) (zOf k) sa sl sc (shL k) wr hish (by omega))
      rw [hzE] at CZ
      unfold zoneV at CZ
      have hki : (k : Int) < 3 := by omega
      clear hsh hish hzE hzw
      generalize zNm k = nm at *
      generalize zOf k = zo at *
      go_wp2_with fail
      refine CZ.out.mono ?_
      rintro e w3 ⟨rfl, hb3⟩
      have HB3 := Lib.hid (HBEL.out.trans (hb3.mono HBEL.out.size))
      clear hb3 CZ
      go_wp2_with fail
      go_roundw
      case rel => exact ⟨k + 1, by omega, by go_num, HB3⟩
      case measure => simp [intOf]; omega
    · have hzi : ¬ (k : Int) < 3 := by omega
      go_wp2_with fail
      go_loopw [13, 14] (fun sv iv wr => ∃ (k : Nat) (st : List KT) (hst : List Int), k ≤ len ∧ iv = .int .i64 k ∧ wr.ownsRow w.heap.size 97 2 sv st.length (ktsL st) ∧ Hid (st.length ≤ k ∧ hst.length = st.length ∧ valS (ts.drop k) hst = 0) ∧ Hid (typS (ts.drop k) st = E) ∧ Hid (Below w.heap.size w wr)) (fun _ iv _ => len - (intOf iv).toNat)
      case atStart => exact ⟨0, [], [], Nat.zero_le _, rfl, World.ownsRow_nil _ _ _ _, HV0, HE, HBEL⟩
      case round =>
        obtain ⟨k, st, hst, hk, rfl, hown, HV, HT, HBEL⟩ := hrel
        have hszr := HBEL.out.size
        by_cases hlt : k < len
        · obtain ⟨t, tb, toff, ht, rfl, htl, hat⟩ := (HS.out.below HBEL.out (Nat.le_refl _)).at hlt
          have hdr : ts.drop k = t :: ts.drop (k + 1) := by
            obtain ⟨hk2, rfl⟩ := List.getElem?_eq_some_iff.1 ht
            exact List.drop_eq_getElem_cons hk2
          have hV := HV.out.2.2
          rw [hdr] at hV
          obtain ⟨hnod, p, hp, hpl, hp8, _, hnx⟩ := valS_step hV
          have hst2 := HV.out.2.1
          have hstk := HV.out.1
          obtain ⟨n, hn⟩ : ∃ n, st.length = n + p := ⟨st.length - p, by omega⟩
          have hT := HT.out
          rw [hdr] at hT
          unfold typS at hT
          rw [hp, Int.toNat_natCast, hn, Nat.add_sub_cancel] at hT
          rw [hst2, hn, Nat.add_sub_cancel] at hnx
          obtain ⟨sa, sc, rfl, hpi, hscl, hscm, hsn, hsx⟩ := own_kts hown rfl
          have hsp : ∀ x, sa = some x → x.spot = none := fun x hx => by obtain ⟨g, rfl, _⟩ := hsx x hx; rfl
          have CA1 := Lib.hid (CA.out t)
          rw [hp] at CA1
          rw [hn] at hpi hscl hown
          have hni : ((n + p : Nat) : Int) - (p : Int) = (n : Int) := by omega
          obtain ⟨a2, c2, hsl2, hp2⟩ := slice_from_kts n (n : Int) rfl hpi (by omega) hscl hscm hsn hsp
          rw [show n + p - n = p by omega] at hsl2 hp2
          have hslt := slice_cut_kts sa (n + p) sc n (by omega) hscm hsp
          have CN1 := Lib.hid (fun W (hb : Below wr.heap.size wr W) => CN.out t a2 p c2 (st.drop n) W (HG.out t (List.mem_of_getElem? ht)) hp (hp2.below hb (Nat.le_refl _)) (HC.out.below (HBEL.out.trans (hb.mono hszr)) (Nat.le_refl _)) (HZ.out.below (HBEL.out.trans (hb.mono hszr)) (Nat.le_refl _)))
          have HNX := Lib.hid hnx
          have HOLD : Hid (∀ W, Below wr.heap.size wr W → ∀ b, sa = some b → ∀ j u, ((ktsL st).take (n * 2))[j]? = some u → W.cell? (b.add j) = some u) := fun W hb b hsa j u hu => by
            obtain ⟨g, rfl, _, hg⟩ := hsx b hsa
            subst hsa
            have hjl := (List.getElem?_eq_some_iff.1 hu).1
            rw [List.length_take] at hjl
            rw [List.getElem?_take_of_lt (by omega)] at hu
            have hadd : (⟨g, 0, none⟩ : Addr).add j = ⟨g, j, none⟩ := by unfold Addr.add; split <;> simp_all
            rw [hadd, hb.cell (p := ⟨g, j, none⟩) hg, hown.cellAt j (by omega)]
            exact hu
          have HNO : Hid (sa = none → n = 0 ∧ n = 0) := fun h => by
            have := hsn h
            omega
          have HLO : Hid (((ktsL st).take (n * 2)).length = n * 2) := by
            show _ = _
            rw [List.length_take, ktsL_length]
            omega
          obtain ⟨c0, c1, c2', c3, c4, c5⟩ := hat
          obtain ⟨op, ⟨vk, vn, vs⟩, nm, ar⟩ := t
          simp only at CA1 CN1 c0 c1 c2' c3 c4 c5
          have hki : (k : Int) < (len : Int) := by omega
          generalize nodT ⟨op, ⟨vk, vn, vs⟩, nm, ar⟩ (st.drop n) = N at *
          obtain ⟨⟨nk, nn⟩, q⟩ := N
          unfold ktV at CN1
          simp only at CN1 hT
          clear hpi hown hp2 hnod hp hnx hsn hsp ht CA CN hsx hdr hV HV HT
          rw [hn]
          go_wp2_with fail
          refine (CA1.out _).mono ?_
          rintro e w2 ⟨rfl, hb2⟩
          have hs2 := hb2.size
          have HB2 := Lib.hid hb2
          have e : ∀ o, w2.cell? ⟨tb, o, none⟩ = wr.cell? ⟨tb, o, none⟩ := fun o => hb2.cell (p := ⟨tb, o, none⟩) htl
          obtain ⟨of, hof⟩ : ∃ of, toff + k * 6 = of := ⟨_, rfl⟩
          rw [hof] at c0 c1 c2' c3 c4 c5
          have hS : Hid (w2.drew.cell? ⟨tb, of, none⟩ = some (.int .i64 op) ∧ w2.drew.cell? ⟨tb, of + 1, none⟩ = some (.int .i64 vk) ∧ w2.drew.cell? ⟨tb, of + 2, none⟩ = some (.int .i64 vn) ∧ w2.drew.cell? ⟨tb, of + 3, none⟩ = some (.string vs) ∧ w2.drew.cell? ⟨tb, of + 4, none⟩ = some (.string nm) ∧ w2.drew.cell? ⟨tb, of + 5, none⟩ = some (.int .i64 ar) ∧ Below wr.heap.size wr w2.drew) := ⟨(e _).trans c0, (e _).trans c1, (e _).trans c2', (e _).trans c3, (e _).trans c4, (e _).trans c5, hb2.drew⟩
          have hsz : tb < w2.drew.heap.size ∧ wr.heap.size ≤ w2.drew.heap.size := by show tb < w2.heap.size ∧ wr.heap.size ≤ w2.heap.size; omega
          have hbD : Below wr.heap.size wr w2.drew := hb2.drew
          clear hb2 c0 c1 c2' c3 c4 c5 CA1 e
          go_wp2_with fail
          have hS0 := hS.out
          clear hS
          have hszB : tb < w2.heap.size ∧ wr.heap.size ≤ w2.heap.size := hsz
          have hszD : tb < (w2.alloc (.cells #[.int .i64 0, .bool false] 97)).drew.heap.size ∧ wr.heap.size ≤ (w2.alloc (.cells #[.int .i64 0, .bool false] 97)).drew.heap.size := by show tb < (w2.alloc _).heap.size ∧ wr.heap.size ≤ (w2.alloc _).heap.size; simp only [World.size_alloc]; omega
          have hbD2 : Below wr.heap.size wr (w2.alloc (.cells #[.int .i64 0, .bool false] 97)).drew := (HB2.out.alloc hs2 _).drew
          have hzbD : Box2 (w2.alloc (.cells #[.int .i64 0, .bool false] 97)).drew w2.heap.size (.int .i64 0) (.bool false) 97 := ⟨heap_alloc_new w2 _⟩
          have hSD : (w2.alloc (.cells #[.int .i64 0, .bool false] 97)).drew.cell? ⟨tb, of, none⟩ = some (.int .i64 op) ∧ (w2.alloc (.cells #[.int .i64 0, .bool false] 97)).drew.cell? ⟨tb, of + 1, none⟩ = some (.int .i64 vk) ∧ (w2.alloc (.cells #[.int .i64 0, .bool false] 97)).drew.cell? ⟨tb, of + 2, none⟩ = some (.int .i64 vn) ∧ (w2.alloc (.cells #[.int .i64 0, .bool false] 97)).drew.cell? ⟨tb, of + 3, none⟩ = some (.string vs) ∧ (w2.alloc (.cells #[.int .i64 0, .bool false] 97)).drew.cell? ⟨tb, of + 4, none⟩ = some (.string nm) ∧ (w2.alloc (.cells #[.int .i64 0, .bool false] 97)).drew.cell? ⟨tb, of + 5, none⟩ = some (.int .i64 ar) ∧ Below wr.heap.size wr (w2.alloc (.cells #[.int .i64 0, .bool false] 97)).drew := keepTy hszB hS0 (show Below w2.heap.size w2.drew (w2.alloc (.cells #[.int .i64 0, .bool false] 97)).drew from (Below.refl w2.heap.size w2.drew).alloc (Nat.le_refl _) _)
          cases q
          · simp only [Bool.false_eq_true, if_false, if_true] at CN1 hT
            go_region_held3 (fun w' => w'.cell? ⟨tb, of, none⟩ = some (.int .i64 op) ∧ w'.cell? ⟨tb, of + 1, none⟩ = some (.int .i64 vk) ∧ w'.cell? ⟨tb, of + 2, none⟩ = some (.int .i64 vn) ∧ w'.cell? ⟨tb, of + 3, none⟩ = some (.string vs) ∧ w'.cell? ⟨tb, of + 4, none⟩ = some (.string nm) ∧ w'.cell? ⟨tb, of + 5, none⟩ = some (.int .i64 ar) ∧ Below wr.heap.size wr w')
              (first | with_reducible exact hS0 | with_reducible exact hSD | exact keepTy hsz (by assumption) hcall | exact keepTy hszD (by assumption) hcall | exact keepTy hszB (by assumption) ((Below.refl _ _).alloc (Nat.le_refl _) _) | exact keepTy hsz4 hS4 ((Below.refl _ _).alloc (Nat.le_refl _) _) | exact keepTy hszB hS4 (((Below.refl _ _).setCell (p := ⟨w2.heap.size, 0, none⟩) (Nat.le_refl _) _).setCell (p := ⟨w2.heap.size, 1, none⟩) (Nat.le_refl _) _))
              (first
                | (go_at_call 72; refine (CN1.out w2.drew hbD).mono ?_; rintro e w4 ⟨rfl, hcall⟩; have hs4 := hcall.size; have hsz4 : tb < w4.heap.size ∧ wr.heap.size ≤ w4.heap.size := ⟨by omega, by omega⟩; have hS4 := keepTy hsz hS0 hcall)
                | (go_at_call 72; refine (CN1.out (w2.alloc (.cells #[.int .i64 0, .bool false] 97)).drew hbD2).mono ?_; rintro e w4 ⟨rfl, hcall⟩; have hs4 := hcall.size; have hsz4 : tb < w4.heap.size ∧ wr.heap.size ≤ w4.heap.size := ⟨by omega, by omega⟩; have hS4 := keepTy hszD hSD hcall; have hzb := Box2.keep hzbD hcall hzbD.lt; have z0 := hzb.c0; have z1 := hzb.c1; have zf := hzb.free))
            all_goals
              obtain ⟨_, _, _, _, _, _, hB9⟩ := ‹_ ∧ _ ∧ _ ∧ _ ∧ _ ∧ _ ∧ Below _ _ _›
              obtain rfl : E = none := by simpa using hT.symm
              have HB9 := Lib.hid (HBEL.out.trans (hB9.mono hszr))
              clear hB9 hT
              go_wp2_with fail
              go_ret3
              exact ⟨rfl, HB9.out⟩
          · simp only [if_true] at CN1 hT
            have HT2 := Lib.hid hT
            clear hT
            go_region_held3 (fun w' => w'.cell? ⟨tb, of, none⟩ = some (.int .i64 op) ∧ w'.cell? ⟨tb, of + 1, none⟩ = some (.int .i64 vk) ∧ w'.cell? ⟨tb, of + 2, none⟩ = some (.int .i64 vn) ∧ w'.cell? ⟨tb, of + 3, none⟩ = some (.string vs) ∧ w'.cell? ⟨tb, of + 4, none⟩ = some (.string nm) ∧ w'.cell? ⟨tb, of + 5, none⟩ = some (.int .i64 ar) ∧ Below wr.heap.size wr w')
              (first | with_reducible exact hS0 | with_reducible exact hSD | exact keepTy hsz (by assumption) hcall | exact keepTy hszD (by assumption) hcall | exact keepTy hszB (by assumption) ((Below.refl _ _).alloc (Nat.le_refl _) _) | exact keepTy hsz4 hS4 ((Below.refl _ _).alloc (Nat.le_refl _) _) | exact keepTy hszB hS4 (((Below.refl _ _).setCell (p := ⟨w2.heap.size, 0, none⟩) (Nat.le_refl _) _).setCell (p := ⟨w2.heap.size, 1, none⟩) (Nat.le_refl _) _))
              (first
                | (go_at_call 72; refine (CN1.out w2.drew hbD).mono ?_; rintro e w4 ⟨rfl, hcall⟩; have hs4 := hcall.size; have hsz4 : tb < w4.heap.size ∧ wr.heap.size ≤ w4.heap.size := ⟨by omega, by omega⟩; have hS4 := keepTy hsz hS0 hcall)
                | (go_at_call 72; refine (CN1.out (w2.alloc (.cells #[.int .i64 0, .bool false] 97)).drew hbD2).mono ?_; rintro e w4 ⟨rfl, hcall⟩; have hs4 := hcall.size; have hsz4 : tb < w4.heap.size ∧ wr.heap.size ≤ w4.heap.size := ⟨by omega, by omega⟩; have hS4 := keepTy hszD hSD hcall; have hzb := Box2.keep hzbD hcall hzbD.lt; have z0 := hzb.c0; have z1 := hzb.c1; have zf := hzb.free))
            · obtain ⟨_, _, _, _, _, _, hB9⟩ := ‹_ ∧ _ ∧ _ ∧ _ ∧ _ ∧ _ ∧ Below _ _ _›
              have hx5 : (w4.alloc (.cells #[.int .i64 nk, .bool nn] 97)).heap[w4.heap.size]? = some (.cells #[.int .i64 nk, .bool nn] 97 (0, 0)) := heap_alloc_new w4 _
              obtain ⟨w5, hw5⟩ : ∃ w5, (w4.alloc (.cells #[.int .i64 nk, .bool nn] 97)) = w5 := ⟨_, rfl⟩
              obtain ⟨B5, hb5⟩ : ∃ B5, w4.heap.size = B5 := ⟨_, rfl⟩
              rw [hw5, hb5] at hx5
              rw [hw5] at hB9
              rw [hw5, hb5]
              have hs5 := hB9.size
              have q0 : w5.drew.cell? ⟨B5, 0, none⟩ = some (.int .i64 nk) := cell_of_row _ _ 0 _ _ _ hx5
              have q1 : w5.drew.cell? ⟨B5, 1, none⟩ = some (.bool nn) := cell_of_row _ _ 1 _ _ _ hx5
              have HB9 := Lib.hid hB9
              clear hB9 hw5 hb5 hx5 hS0 hS4 hSD
              go_wp2_with fail
              have HBA : Below wr.heap.size wr (w5.drew.alloc (.cells #[.int .i64 nk, .bool nn] 97)) := HB9.out.drew.alloc hs5 _
              go_region_law (refine step_append_grows (by rfl) (.tmp 75) (.tmp 77) _ (by rfl) 97 i0 _ 2 16 Tryd.underlying95 hi hz0 hz1 hz2 rfl (by decide) sa n n ((ktsL st).take (n * 2)) (by rfl) HNO.out HLO.out (HOLD.out _ HBA) ⟨w5.heap.size, 0, none⟩ 1 1 [.int .i64 nk, .bool nn] (by rfl) (by rfl) (World.news_of_block (cs := #[.int .i64 nk, .bool nn]) (t := 97) (fr := (0, 0)) (heap_alloc_new w5 _)) (by simp [Value.oneCell']) (by omega) (by unfold maxLen; omega) (by omega) ?_; intro v9 w9 hown9 hgrow9)
              have hsA : w.heap.size ≤ (w5.drew.alloc (.cells #[.int .i64 nk, .bool nn] 97)).heap.size := Nat.le_trans hszr HBA.size
              have HB10 : Hid (Below w.heap.size w w9) := (HBEL.out.trans (HBA.mono hszr)).grown hgrow9 hsA (fun j hj => by cases hj)
              have HOWN9 : Hid (w9.ownsRow w.heap.size 97 2 v9 (st.take n ++ [((nk, nn) : KT)]).length (ktsL (st.take n ++ [((nk, nn) : KT)]))) := by
                have h := own_mono hown9 hsA
                rw [ktsL_take, ktsL_push _ ((nk, nn) : KT)] at h
                rw [show (st.take n ++ [((nk, nn) : KT)]).length = n + 1 by rw [List.length_append, List.length_take]; simp; omega]
                exact h
              have HV9 : Hid ((st.take n ++ [((nk, nn) : KT)]).length ≤ k + 1 ∧ (hst.take n ++ [maxL (hst.drop n) + 1]).length = (st.take n ++ [((nk, nn) : KT)]).length ∧ valS (ts.drop (k + 1)) (hst.take n ++ [maxL (hst.drop n) + 1]) = 0) := ⟨by rw [List.length_append, List.length_take]; simp; omega, by rw [List.length_append, List.length_append, List.length_take, List.length_take, hst2]; rfl, HNX.out⟩
              clear hown9 hgrow9 HBA hsA
              go_wp2_with fail
              go_roundw
              case rel => exact ⟨k + 1, _, _, by omega, by go_num, HOWN9.out, HV9, HT2, HB10⟩
              case measure => simp [intOf]; omega
            · obtain ⟨_, _, _, _, _, _, hB9⟩ := ‹_ ∧ _ ∧ _ ∧ _ ∧ _ ∧ _ ∧ Below _ _ _›
              have hx5 : ((w4.setCell ⟨w2.heap.size, 0, none⟩ (.int .i64 nk)).setCell ⟨w2.heap.size, 1, none⟩ (.bool nn)).heap[w2.heap.size]? = some (.cells #[.int .i64 nk, .bool nn] 97 (0, 0)) := (Box2.store (x' := .int .i64 nk) (y' := .bool nn) hzb).block
              obtain ⟨w5, hw5⟩ : ∃ w5, ((w4.setCell ⟨w2.heap.size, 0, none⟩ (.int .i64 nk)).setCell ⟨w2.heap.size, 1, none⟩ (.bool nn)) = w5 := ⟨_, rfl⟩
              obtain ⟨B5, hb5⟩ : ∃ B5, w2.heap.size = B5 := ⟨_, rfl⟩
              rw [hw5, hb5] at hx5
              rw [hw5] at hB9
              rw [hw5, hb5]
              have hs5 := hB9.size
              have q0 : w5.drew.cell? ⟨B5, 0, none⟩ = some (.int .i64 nk) := cell_of_row _ _ 0 _ _ _ hx5
              have q1 : w5.drew.cell? ⟨B5, 1, none⟩ = some (.bool nn) := cell_of_row _ _ 1 _ _ _ hx5
              have HB9 := Lib.hid hB9
              clear hB9 hw5 hb5 hx5 hS0 hS4 hSD
              go_wp2_with fail
              have HBA : Below wr.heap.size wr (w5.drew.alloc (.cells #[.int .i64 nk, .bool nn] 97)) := HB9.out.drew.alloc hs5 _
              go_region_law (refine step_append_grows (by rfl) (.tmp 75) (.tmp 77) _ (by rfl) 97 i0 _ 2 16 Tryd.underlying95 hi hz0 hz1 hz2 rfl (by decide) sa n n ((ktsL st).take (n * 2)) (by rfl) HNO.out HLO.out (HOLD.out _ HBA) ⟨w5.heap.size, 0, none⟩ 1 1 [.int .i64 nk, .bool nn] (by rfl) (by rfl) (World.news_of_block (cs := #[.int .i64 nk, .bool nn]) (t := 97) (fr := (0, 0)) (heap_alloc_new w5 _)) (by simp [Value.oneCell']) (by omega) (by unfold maxLen; omega) (by omega) ?_; intro v9 w9 hown9 hgrow9)
              have hsA : w.heap.size ≤ (w5.drew.alloc (.cells #[.int .i64 nk, .bool nn] 97)).heap.size := Nat.le_trans hszr HBA.size
              have HB10 : Hid (Below w.heap.size w w9) := (HBEL.out.trans (HBA.mono hszr)).grown hgrow9 hsA (fun j hj => by cases hj)
              have HOWN9 : Hid (w9.ownsRow w.heap.size 97 2 v9 (st.take n ++ [((nk, nn) : KT)]).length (ktsL (st.take n ++ [((nk, nn) : KT)]))) := by
                have h := own_mono hown9 hsA
                rw [ktsL_take, ktsL_push _ ((nk, nn) : KT)] at h
                rw [show (st.take n ++ [((nk, nn) : KT)]).length = n + 1 by rw [List.length_append, List.length_take]; simp; omega]
                exact h
              have HV9 : Hid ((st.take n ++ [((nk, nn) : KT)]).length ≤ k + 1 ∧ (hst.take n ++ [maxL (hst.drop n) + 1]).length = (st.take n ++ [((nk, nn) : KT)]).length ∧ valS (ts.drop (k + 1)) (hst.take n ++ [maxL (hst.drop n) + 1]) = 0) := ⟨by rw [List.length_append, List.length_take]; simp; omega, by rw [List.length_append, List.length_append, List.length_take, List.length_take, hst2]; rfl, HNX.out⟩
              clear hown9 hgrow9 HBA hsA
              go_wp2_with fail
              go_roundw
              case rel => exact ⟨k + 1, _, _, by omega, by go_num, HOWN9.out, HV9, HT2, HB10⟩
              case measure => simp [intOf]; omega
        · obtain rfl : k = len := by omega
          have hki : ¬ (k : Int) < (k : Int) := by omega
          have hV := HV.out.2.2
          rw [List.drop_of_length_le (by omega)] at hV
          have h1 : st.length = 1 := by rw [← HV.out.2.1]; exact valS_end hV
          have hT := HT.out
          rw [List.drop_of_length_le (by omega)] at hT
          obtain ⟨⟨xk, xn⟩, rfl⟩ : ∃ x, st = [x] := by
            match st, h1 with
            | [x], _ => exact ⟨x, rfl⟩
          obtain ⟨sa, sc, rfl, hpi, hscl, hscm, hsn, hsx⟩ := own_kts hown rfl
          have hT2 : some (xk, xn) = E := hT
          clear HT hT
          subst hT2
          rcases hpi.2 with h0 | ⟨b, off, rfl, hbl, hcl⟩
          · cases h0
          obtain ⟨q0, q1⟩ := hcl 0 _ rfl
          simp only [Nat.zero_mul, Nat.add_zero] at q0 q1
          have r0 : wr.drew.cell? ⟨b, off, none⟩ = some (.int .i64 xk) := q0
          have r1 : wr.drew.cell? ⟨b, off + 1, none⟩ = some (.bool xn) := q1
          clear hpi hown hcl hsx hsn hV HV CA CN
          go_wp2_with fail
          go_quiet (fail)
          go_wp2_with fail
          go_ret3
          exact ⟨rfl, below_drewN HBEL.out _⟩
end Go.Proofs.YtmdpjahhhfajaaaDoor
