/-
  The reference: Format.
-/
import Derived.Test.YtmdpjahhhfajaaaGreatDoorJC48
import Derived.Test.YtmdpjahhhfajaaaGreatDoorJC32
import Derived.Test.YtmdpjahhhfajaaaGreatDoorJC22
import Derived.Deep.RegionLawGrows
set_option linter.unusedVariables false
set_option linter.unusedSimpArgs false
set_option maxRecDepth 100000
namespace Go.Proofs.YtmdpjahhhfajaaaGreatDoor
open Go.RowKit Go.Joins Wh
theorem under_prs : Tryz.prog.underlying 48 = some (.slice (Tryz.prog.elem 48)) := by simp [Program.elem, Tryz.underlying48]
theorem elem_prs : Tryz.prog.elem 48 = 55 := by simp [Program.elem, Tryz.underlying48]
theorem size_pr (W : World) : (sizeOf 55).run Tryz.prog W = .ok 3 W := by
 obtain ⟨i0, hi, _, h1, _⟩ := info_parts info_pr
 simp [sizeOf, typeInfo, hi, h1]
theorem slice_from_prs {w : World} {a : Option Addr} {len cap : Nat} {es : List Pc} (k : Nat) (ki : Int) (hki : ki = (k : Int)) (h : IsPcs w a len es) (hk : k ≤ len) (hc : len ≤ cap) (hm : cap ≤ maxLen) (hn : a = none → cap = 0) (hs : ∀ x, a = some x → x.spot = none) :
  ∃ (a2 : Option Addr) (c2 : Nat), (∀ W, (Instr.slice 48 (.slice a len cap) (some (.int .i64 ki)) none none).run Tryz.prog W = .ok (.slice a2 (len - k) c2) W) ∧ IsPcs w a2 (len - k) (es.drop k) := by
 subst hki
 have hr : ∀ W, (Instr.slice 48 (.slice a len cap) (some (.int .i64 (k : Int))) none none).run Tryz.prog W = .ok (sliced a k len cap 3) W := by
  intro W
  rw [run_slice_l W _ _ _ _ under_prs .i64 _ (by omega) (by omega), elem_prs, size_pr]
  simp [Result.andThen]
 by_cases hcap : cap = k
 ·refine ⟨a, cap - k, ?_, ?_⟩
  ·intro W
   rw [hr]
   simp [sliced, hcap]
  ·exact ⟨by rw [List.length_drop, h.1], .inl (by apply List.drop_of_length_le; have := h.1; omega)⟩
 ·cases a with
  | none => exact absurd (hn rfl) (by omega)
  | some x =>
   obtain ⟨b, off, spot⟩ := x
   have hsp := hs _ rfl
   simp only at hsp
   subst hsp
   have hadd : (⟨b, off, none⟩ : Addr).add (k * 3) = ⟨b, off + k * 3, none⟩ := by unfold Addr.add; split <;> simp_all
   refine ⟨some ⟨b, off + k * 3, none⟩, cap - k, ?_, ⟨by rw [List.length_drop, h.1], ?_⟩⟩
   ·intro W
    rw [hr]
    simp [sliced, hcap] at hadd ⊢
    exact hadd
   ·rcases h.2 with h2 | ⟨b2, off2, hx, hlt, hcell⟩
    ·exact .inl (by rw [h2]; simp)
    ·cases hx
     refine .inr ⟨b, off + k * 3, rfl, hlt, fun i z hz => ?_⟩
     rw [List.getElem?_drop] at hz
     have := hcell (k + i) z hz
     rw [show off + k * 3 + i * 3 = off + (k + i) * 3 by omega]
     exact this
theorem slice_cut_prs (a : Option Addr) (len cap k : Nat) (hk : k ≤ cap) (hm : cap ≤ maxLen) (hs : ∀ x, a = some x → x.spot = none) (W : World) :
  (Instr.slice 48 (.slice a len cap) none (some (.int .i64 (k : Int))) (some (.int .i64 (k : Int)))).run Tryz.prog W = .ok (.slice a k k) W := by
 rw [run_slice_any W _ _ _ _ under_prs, elem_prs]
 have hb : (Instr.sliceBounds true len cap none (some (.int .i64 (k : Int))) (some (.int .i64 (k : Int)))).run Tryz.prog W = .ok (0, k, k) W := by
  simp [Instr.sliceBounds, run_sliceBound, hk]
 rw [hb]
 simp only [Result.andThen, size_pr]
 unfold sliced
 cases a with
 | none => simp
 | some x =>
  obtain ⟨b, off, spot⟩ := x
  have := hs _ rfl
  simp only at this
  subst this
  have hadd : (⟨b, off, none⟩ : Addr).add 0 = ⟨b, off, none⟩ := by unfold Addr.add; split <;> simp_all
  simp [hadd]
theorem keepRf {wr w1 w2 : World} {tb of B : Nat} {op vk vn ar : Int} {vs nm : ByteArray} (h0 : tb < B ∧ wr.heap.size ≤ B) (h : w1.cell? ⟨tb, of, none⟩ = some (.int .i64 op) ∧ w1.cell? ⟨tb, of + 1, none⟩ = some (.int .i64 vk) ∧ w1.cell? ⟨tb, of + 2, none⟩ = some (.int .i64 vn) ∧ w1.cell? ⟨tb, of + 3, none⟩ = some (.string vs) ∧ w1.cell? ⟨tb, of + 4, none⟩ = some (.string nm) ∧ w1.cell? ⟨tb, of + 5, none⟩ = some (.int .i64 ar) ∧ Below wr.heap.size wr w1) (hb : Below B w1 w2) : w2.cell? ⟨tb, of, none⟩ = some (.int .i64 op) ∧ w2.cell? ⟨tb, of + 1, none⟩ = some (.int .i64 vk) ∧ w2.cell? ⟨tb, of + 2, none⟩ = some (.int .i64 vn) ∧ w2.cell? ⟨tb, of + 3, none⟩ = some (.string vs) ∧ w2.cell? ⟨tb, of + 4, none⟩ = some (.string nm) ∧ w2.cell? ⟨tb, of + 5, none⟩ = some (.int .i64 ar) ∧ Below wr.heap.size wr w2 := by
 obtain ⟨a0, a1, a2, a3, a4, a5, hB⟩ := h
 have e : ∀ o, w2.cell? ⟨tb, o, none⟩ = w1.cell? ⟨tb, o, none⟩ := fun o => hb.cell (p := ⟨tb, o, none⟩) h0.1
 exact ⟨(e _).trans a0, (e _).trans a1, (e _).trans a2, (e _).trans a3, (e _).trans a4, (e _).trans a5, hB.trans (hb.mono h0.2)⟩
set_option maxHeartbeats 16000000 in
theorem rformat8_any (a : Option Addr) (len cap : Nat) (ts : List Nd) (w : World) (hs : IsNodes w a len ts) (hl : len ≤ 9223372036854775807) (hz : ∀ t ∈ ts, t.nm.size ≤ 9223372036854775800) :
  Calls Tryz.prog 11 #[.slice a len cap] w (IsTxt (fmtO ts).1 (fmtO ts).2 w) := by
 have hln := hs.1
 have CV := Lib.hid (rvalidN_any a len cap ts w hs hl hz)
 by_cases hE : valN ts = 0
 rotate_left
 ·have hEE : fmtO ts = ([], valN ts) := by unfold fmtO; rw [if_neg hE]
  rw [hEE]
  unfold IsTxt
  simp only
  have hEb := bne0 hE
  generalize valN ts = E at *
  clear hs hz hEE
  go_enter Tryz.func11, Tryz.ntmps11
  go_wp2_with fail
  refine CV.out.mono ?_
  rintro e w1 ⟨rfl, hb1⟩
  have HB1 := Lib.hid hb1
  clear hb1 CV
  go_wp2_with fail
  go_ret2
  exact ⟨rfl, HB1.out⟩
 obtain ⟨hl256, hv0⟩ := valN_zero hE
 have hEE : fmtO ts = (fmtE ts, 0) := by unfold fmtO; rw [if_pos hE]
 rw [hEE]
 rw [hE] at CV
 unfold IsTxt
 simp only
 obtain ⟨O, hO⟩ : ∃ O : ByteArray, (⟨(fmtE ts).toArray⟩ : ByteArray) = O := ⟨_, rfl⟩
 rw [hO]
 have HO := Lib.hid hO
 have HS := Lib.hid hs
 have HF0 := Lib.hid (FmI.zero hv0)
 obtain ⟨i0, hi, hz0, hz1, hz2⟩ := info_parts info_pr
 have CA := Lib.hid (fun t W => rarity_any t W)
 have CW := Lib.hid (fun t (hnod : nodB t = true) a len cap xs W hs hln htot hlv => rwrite8_any t hnod a len cap xs W hs hln htot hlv)
 unfold ndV at CA CW
 unfold pcV at CW
 clear hs hz hEE hE hO hv0
 go_enter Tryz.func11, Tryz.ntmps11
 go_wp2_with fail
 refine CV.out.mono ?_
 rintro e w1 ⟨rfl, hb1⟩
 have HB1 := Lib.hid hb1
 clear hb1 CV
 go_wp2_with fail
 go_loopw [5, 6] (fun sv iv wr => ∃ (k : Nat) (st : List Pc), k ≤ len ∧ iv = .int .i64 k ∧ wr.ownsRow w.heap.size 55 3 sv st.length (pcsL st) ∧ Hid (FmI ts k st) ∧ Hid (Below w.heap.size w wr)) (fun _ iv _ => len - (intOf iv).toNat)
 case atStart => exact ⟨0, [], Nat.zero_le _, rfl, World.ownsRow_nil _ _ _ _, HF0, HB1⟩
 case round =>
  obtain ⟨k, st, hk, rfl, hown, HI, HBEL⟩ := hrel
  have hszr := HBEL.out.size
  by_cases hlt : k < len
  ·obtain ⟨t, tb, toff, ht, rfl, htl, hat⟩ := (HS.out.below HBEL.out (Nat.le_refl _)).at hlt
   obtain ⟨hnod, n, p, hp, hp8, hst, hnx⟩ := HI.out.next ht
   have hstk := HI.out.len
   have htot := HI.out.tot
   have hlv := HI.out.lv
   obtain ⟨sa, sc, rfl, hpi, hscl, hscm, hsn, hsx⟩ := own_prs hown rfl
   have hsp : ∀ x, sa = some x → x.spot = none := fun x hx => by obtain ⟨g, rfl, _⟩ := hsx x hx; rfl
   have CA1 := Lib.hid (CA.out t)
   rw [hp] at CA1
   rw [hst] at hpi hscl hown
   have hni : ((n + p : Nat) : Int) - (p : Int) = (n : Int) := by omega
   obtain ⟨a2, c2, hsl2, hp2⟩ := slice_from_prs n (n : Int) rfl hpi (by omega) hscl hscm hsn hsp
   rw [show n + p - n = p by omega] at hsl2 hp2
   have hslt := slice_cut_prs sa (n + p) sc n (by omega) hscm hsp
   have htd : totP (st.drop n) ≤ 900000 := by
    have : totP st = totP (st.take n) + totP (st.drop n) := by rw [← totP_app, List.take_append_drop]
    omega
   have CW1 := Lib.hid (fun W (hb : Below wr.heap.size wr W) => CW.out t hnod a2 p c2 (st.drop n) W (hp2.below hb (Nat.le_refl _)) hp.symm htd (fun x hx => hlv x (List.mem_of_mem_drop hx)))
   have hNl := nodP_len hnod (xs := st.drop n) (by rw [List.length_drop, hp]; omega)
   obtain ⟨N, hN⟩ : ∃ N, nodP t (st.drop n) = N := ⟨_, rfl⟩
   rw [hN] at CW1 hnx hNl
   have hNz : (⟨N.tx.toArray⟩ : ByteArray).size ≤ 60000 := by
    rw [size_mk]
    have : totP st = totP (st.take n) + totP (st.drop n) := by rw [← totP_app, List.take_append_drop]
    omega
   have HNX := Lib.hid hnx
   have hcells : Hid ((pcsL st).take (n * 3) ++ [.string ⟨N.tx.toArray⟩, .int .i64 N.lv, .bool N.ig] = pcsL (st.take n ++ [N])) := by
    show _ = _
    rw [pcsL_take, pcsL_push]
   have hslen : Hid ((st.take n ++ [N]).length = n + 1) := by show _ = _; rw [List.length_append, List.length_take]; simp; omega
   -- the cells of the stack's lower part
   have HOLD : Hid (∀ W, Below wr.heap.size wr W → ∀ b, sa = some b → ∀ j u, ((pcsL st).take (n * 3))[j]? = some u → W.cell? (b.add j) = some u) := fun W hb b hsa j u hu => by
    obtain ⟨g, rfl, _, hg⟩ := hsx b hsa
    subst hsa
    have hjl := (List.getElem?_eq_some_iff.1 hu).1
    rw [List.length_take] at hjl
    rw [List.getElem?_take_of_lt (by omega)] at hu
    have hadd : (⟨g, 0, none⟩ : Addr).add j = ⟨g, j, none⟩ := by unfold Addr.add; split <;> simp_all
    rw [hadd, hb.cell (p := ⟨g, j, none⟩) hg, hown.cellAt j (by omega)]
    exact hu
   have HNO : Hid (sa = none → n = 0 ∧ n = 0) := fun h => by
    have := hsn h
    omega
   have HLO : Hid (((pcsL st).take (n * 3)).length = n * 3) := by
    show _ = _
    rw [List.length_take, pcsL_length]
    omega
   obtain ⟨c0, c1, c2', c3, c4, c5⟩ := hat
   obtain ⟨op, ⟨vk, vn, vs⟩, nm, ar⟩ := t
   simp only at CA1 CW1 c0 c1 c2' c3 c4 c5
   obtain ⟨nt, nl, ni⟩ := N
   simp only at CW1 hcells hNz
   generalize (⟨nt.toArray⟩ : ByteArray) = no at *
   have hki : (k : Int) < (len : Int) := by omega
   clear hpi hown hp2 hnod hp hnx hN htot hlv htd hsn hsp ht CA hNl hsx
   rw [hst]
   go_wp2_with fail
   refine (CA1.out _).mono ?_
   rintro e w2 ⟨rfl, hb2⟩
   have hs2 := hb2.size
   have HB2 := Lib.hid hb2
   have e : ∀ o, w2.cell? ⟨tb, o, none⟩ = wr.cell? ⟨tb, o, none⟩ := fun o => hb2.cell (p := ⟨tb, o, none⟩) htl
   obtain ⟨of, hof⟩ : ∃ of, toff + k * 6 = of := ⟨_, rfl⟩
   rw [hof] at c0 c1 c2' c3 c4 c5
   have hS : Hid (w2.drew.cell? ⟨tb, of, none⟩ = some (.int .i64 op) ∧ w2.drew.cell? ⟨tb, of + 1, none⟩ = some (.int .i64 vk) ∧ w2.drew.cell? ⟨tb, of + 2, none⟩ = some (.int .i64 vn) ∧ w2.drew.cell? ⟨tb, of + 3, none⟩ = some (.string vs) ∧ w2.drew.cell? ⟨tb, of + 4, none⟩ = some (.string nm) ∧ w2.drew.cell? ⟨tb, of + 5, none⟩ = some (.int .i64 ar) ∧ Below wr.heap.size wr w2.drew) := ⟨(e _).trans c0, (e _).trans c1, (e _).trans c2', (e _).trans c3, (e _).trans c4, (e _).trans c5, hb2.drew⟩
   have hsz : tb < w2.drew.heap.size ∧ wr.heap.size ≤ w2.drew.heap.size := by show tb < w2.heap.size ∧ wr.heap.size ≤ w2.heap.size; omega
   have hbD : Below wr.heap.size wr w2.drew := hb2.drew
   clear hb2 c0 c1 c2' c3 c4 c5 CA1 e
   go_wp2_with fail
   have hS0 := hS.out
   clear hS
   have hszB : tb < w2.heap.size ∧ wr.heap.size ≤ w2.heap.size := hsz
   have hszD : tb < (w2.alloc (.cells #[.string ⟨#[]⟩, .int .i64 0, .bool false] 55)).drew.heap.size ∧ wr.heap.size ≤ (w2.alloc (.cells #[.string ⟨#[]⟩, .int .i64 0, .bool false] 55)).drew.heap.size := by show tb < (w2.alloc _).heap.size ∧ wr.heap.size ≤ (w2.alloc _).heap.size; simp only [World.size_alloc]; omega
   have hbD2 : Below wr.heap.size wr (w2.alloc (.cells #[.string ⟨#[]⟩, .int .i64 0, .bool false] 55)).drew := (HB2.out.alloc hs2 _).drew
   have hzbD : Box3 (w2.alloc (.cells #[.string ⟨#[]⟩, .int .i64 0, .bool false] 55)).drew w2.heap.size (.string ⟨#[]⟩) (.int .i64 0) (.bool false) 55 := ⟨heap_alloc_new w2 _⟩
   have hltD : w2.heap.size < (w2.alloc (.cells #[.string ⟨#[]⟩, .int .i64 0, .bool false] 55)).drew.heap.size := by show w2.heap.size < (w2.alloc _).heap.size; simp only [World.size_alloc]; omega
   have hSD : (w2.alloc (.cells #[.string ⟨#[]⟩, .int .i64 0, .bool false] 55)).drew.cell? ⟨tb, of, none⟩ = some (.int .i64 op) ∧ (w2.alloc (.cells #[.string ⟨#[]⟩, .int .i64 0, .bool false] 55)).drew.cell? ⟨tb, of + 1, none⟩ = some (.int .i64 vk) ∧ (w2.alloc (.cells #[.string ⟨#[]⟩, .int .i64 0, .bool false] 55)).drew.cell? ⟨tb, of + 2, none⟩ = some (.int .i64 vn) ∧ (w2.alloc (.cells #[.string ⟨#[]⟩, .int .i64 0, .bool false] 55)).drew.cell? ⟨tb, of + 3, none⟩ = some (.string vs) ∧ (w2.alloc (.cells #[.string ⟨#[]⟩, .int .i64 0, .bool false] 55)).drew.cell? ⟨tb, of + 4, none⟩ = some (.string nm) ∧ (w2.alloc (.cells #[.string ⟨#[]⟩, .int .i64 0, .bool false] 55)).drew.cell? ⟨tb, of + 5, none⟩ = some (.int .i64 ar) ∧ Below wr.heap.size wr (w2.alloc (.cells #[.string ⟨#[]⟩, .int .i64 0, .bool false] 55)).drew := keepRf hszB hS0 (show Below w2.heap.size w2.drew (w2.alloc (.cells #[.string ⟨#[]⟩, .int .i64 0, .bool false] 55)).drew from (Below.refl w2.heap.size w2.drew).alloc (Nat.le_refl _) _)
   go_region_held3 (fun w' => w'.cell? ⟨tb, of, none⟩ = some (.int .i64 op) ∧ w'.cell? ⟨tb, of + 1, none⟩ = some (.int .i64 vk) ∧ w'.cell? ⟨tb, of + 2, none⟩ = some (.int .i64 vn) ∧ w'.cell? ⟨tb, of + 3, none⟩ = some (.string vs) ∧ w'.cell? ⟨tb, of + 4, none⟩ = some (.string nm) ∧ w'.cell? ⟨tb, of + 5, none⟩ = some (.int .i64 ar) ∧ Below wr.heap.size wr w')
    (first | with_reducible exact hS0 | with_reducible exact hSD | exact keepRf hsz (by assumption) hcall | exact keepRf hszD (by assumption) hcall | exact keepRf hszB (by assumption) ((Below.refl _ _).alloc (Nat.le_refl _) _) | exact keepRf hsz4 hS4 ((Below.refl _ _).alloc (Nat.le_refl _) _) | exact keepRf hszB hS4 ((((Below.refl _ _).setCell (p := ⟨w2.heap.size, 0, none⟩) (Nat.le_refl _) _).setCell (p := ⟨w2.heap.size, 1, none⟩) (Nat.le_refl _) _).setCell (p := ⟨w2.heap.size, 2, none⟩) (Nat.le_refl _) _))
    (first
     | (go_at_call 25; refine (CW1.out w2.drew hbD).mono ?_; rintro e w4 ⟨rfl, hcall⟩; have hs4 := hcall.size; have hsz4 : tb < w4.heap.size ∧ wr.heap.size ≤ w4.heap.size := ⟨by omega, by omega⟩; have hS4 := keepRf hsz hS0 hcall)
     | (go_at_call 25; refine (CW1.out (w2.alloc (.cells #[.string ⟨#[]⟩, .int .i64 0, .bool false] 55)).drew hbD2).mono ?_; rintro e w4 ⟨rfl, hcall⟩; have hs4 := hcall.size; have hsz4 : tb < w4.heap.size ∧ wr.heap.size ≤ w4.heap.size := ⟨by omega, by omega⟩; have hS4 := keepRf hszD hSD hcall; have hzb := Box3.keep hzbD hcall; have z0 := hzb.c0; have z1 := hzb.c1; have z2 := hzb.c2; have zf := hzb.free))
   ·obtain ⟨_, _, _, _, _, _, hB9⟩ := ‹_ ∧ _ ∧ _ ∧ _ ∧ _ ∧ _ ∧ Below _ _ _›
    have hx5 : (w4.alloc (.cells #[.string no, .int .i64 nl, .bool ni] 55)).heap[w4.heap.size]? = some (.cells #[.string no, .int .i64 nl, .bool ni] 55 (0, 0)) := heap_alloc_new w4 _
    obtain ⟨w5, hw5⟩ : ∃ w5, (w4.alloc (.cells #[.string no, .int .i64 nl, .bool ni] 55)) = w5 := ⟨_, rfl⟩
    obtain ⟨B5, hb5⟩ : ∃ B5, w4.heap.size = B5 := ⟨_, rfl⟩
    rw [hw5, hb5] at hx5
    rw [hw5] at hB9
    rw [hw5, hb5]
    have hs5 := hB9.size
    have q0' : w5.cell? ⟨B5, 0, none⟩ = some (.string no) := cell_of_row _ _ 0 _ _ _ hx5
    have q0 : w5.drew.cell? ⟨B5, 0, none⟩ = some (.string no) := cell_of_row _ _ 0 _ _ _ hx5
    have q1 : w5.drew.cell? ⟨B5, 1, none⟩ = some (.int .i64 nl) := cell_of_row _ _ 1 _ _ _ hx5
    have q2 : w5.drew.cell? ⟨B5, 2, none⟩ = some (.bool ni) := cell_of_row _ _ 2 _ _ _ hx5
    have HB9 := Lib.hid hB9
    have hNz1 : no.size ≤ 9223372036854775807 := by omega
    have hNz2 : (no.size : Int) ≤ 65536 := by omega
    clear hB9 hw5 hb5 hx5 hS0 hS4 hSD
    go_wp2_with fail
    have HBA : Below wr.heap.size wr (w5.drew.alloc (.cells #[.string no, .int .i64 nl, .bool ni] 55)) := HB9.out.drew.alloc hs5 _
    go_region_law (refine step_append_grows (by rfl) (.tmp 43) (.tmp 45) _ (by rfl) 55 i0 _ 3 32 Tryz.underlying48 hi hz0 hz1 hz2 rfl (by decide) sa n n ((pcsL st).take (n * 3)) (by rfl) HNO.out HLO.out (HOLD.out _ HBA) ⟨w5.heap.size, 0, none⟩ 1 1 [.string no, .int .i64 nl, .bool ni] (by rfl) (by rfl) (World.news_of_block (cs := #[.string no, .int .i64 nl, .bool ni]) (t := 55) (fr := (0, 0)) (heap_alloc_new w5 _)) (by simp [Value.oneCell']) (by omega) (by unfold maxLen; omega) (by omega) ?_; intro v9 w9 hown9 hgrow9)
    have hsA : w.heap.size ≤ (w5.drew.alloc (.cells #[.string no, .int .i64 nl, .bool ni] 55)).heap.size := Nat.le_trans hszr HBA.size
    have HB10 : Hid (Below w.heap.size w w9) := (HBEL.out.trans (HBA.mono hszr)).grown hgrow9 hsA (fun j hj => by cases hj)
    have HOWN9 : Hid (w9.ownsRow w.heap.size 55 3 v9 (st.take n ++ [(⟨nt, nl, ni⟩ : Pc)]).length (pcsL (st.take n ++ [(⟨nt, nl, ni⟩ : Pc)]))) := by
     have h := own_mono hown9 hsA
     rw [hcells.out] at h
     rw [hslen.out]
     exact h
    clear hown9 hgrow9 HBA hsA
    go_wp2_with fail
    go_roundw
    case rel => exact ⟨k + 1, _, by omega, by go_num, HOWN9.out, HNX, HB10⟩
    case measure => simp [intOf]; omega
   ·obtain ⟨_, _, _, _, _, _, hB9⟩ := ‹_ ∧ _ ∧ _ ∧ _ ∧ _ ∧ _ ∧ Below _ _ _›
    have hx5 : (((w4.setCell ⟨w2.heap.size, 0, none⟩ (.string no)).setCell ⟨w2.heap.size, 1, none⟩ (.int .i64 nl)).setCell ⟨w2.heap.size, 2, none⟩ (.bool ni)).heap[w2.heap.size]? = some (.cells #[.string no, .int .i64 nl, .bool ni] 55 (0, 0)) := (Box3.store (x' := .string no) (y' := .int .i64 nl) (z' := .bool ni) hzb).block
    obtain ⟨w5, hw5⟩ : ∃ w5, (((w4.setCell ⟨w2.heap.size, 0, none⟩ (.string no)).setCell ⟨w2.heap.size, 1, none⟩ (.int .i64 nl)).setCell ⟨w2.heap.size, 2, none⟩ (.bool ni)) = w5 := ⟨_, rfl⟩
    obtain ⟨B5, hb5⟩ : ∃ B5, w2.heap.size = B5 := ⟨_, rfl⟩
    rw [hw5, hb5] at hx5
    rw [hw5] at hB9
    rw [hw5, hb5]
    have hs5 := hB9.size
    have q0' : w5.cell? ⟨B5, 0, none⟩ = some (.string no) := cell_of_row _ _ 0 _ _ _ hx5
    have q0 : w5.drew.cell? ⟨B5, 0, none⟩ = some (.string no) := cell_of_row _ _ 0 _ _ _ hx5
    have q1 : w5.drew.cell? ⟨B5, 1, none⟩ = some (.int .i64 nl) := cell_of_row _ _ 1 _ _ _ hx5
    have q2 : w5.drew.cell? ⟨B5, 2, none⟩ = some (.bool ni) := cell_of_row _ _ 2 _ _ _ hx5
    have HB9 := Lib.hid hB9
    have hNz1 : no.size ≤ 9223372036854775807 := by omega
    have hNz2 : (no.size : Int) ≤ 65536 := by omega
    clear hB9 hw5 hb5 hx5 hS0 hS4 hSD
    go_wp2_with fail
    have HBA : Below wr.heap.size wr (w5.drew.alloc (.cells #[.string no, .int .i64 nl, .bool ni] 55)) := HB9.out.drew.alloc hs5 _
    go_region_law (refine step_append_grows (by rfl) (.tmp 43) (.tmp 45) _ (by rfl) 55 i0 _ 3 32 Tryz.underlying48 hi hz0 hz1 hz2 rfl (by decide) sa n n ((pcsL st).take (n * 3)) (by rfl) HNO.out HLO.out (HOLD.out _ HBA) ⟨w5.heap.size, 0, none⟩ 1 1 [.string no, .int .i64 nl, .bool ni] (by rfl) (by rfl) (World.news_of_block (cs := #[.string no, .int .i64 nl, .bool ni]) (t := 55) (fr := (0, 0)) (heap_alloc_new w5 _)) (by simp [Value.oneCell']) (by omega) (by unfold maxLen; omega) (by omega) ?_; intro v9 w9 hown9 hgrow9)
    have hsA : w.heap.size ≤ (w5.drew.alloc (.cells #[.string no, .int .i64 nl, .bool ni] 55)).heap.size := Nat.le_trans hszr HBA.size
    have HB10 : Hid (Below w.heap.size w w9) := (HBEL.out.trans (HBA.mono hszr)).grown hgrow9 hsA (fun j hj => by cases hj)
    have HOWN9 : Hid (w9.ownsRow w.heap.size 55 3 v9 (st.take n ++ [(⟨nt, nl, ni⟩ : Pc)]).length (pcsL (st.take n ++ [(⟨nt, nl, ni⟩ : Pc)]))) := by
     have h := own_mono hown9 hsA
     rw [hcells.out] at h
     rw [hslen.out]
     exact h
    clear hown9 hgrow9 HBA hsA
    go_wp2_with fail
    go_roundw
    case rel => exact ⟨k + 1, _, by omega, by go_num, HOWN9.out, HNX, HB10⟩
    case measure => simp [intOf]; omega
  ·obtain rfl : k = len := by omega
   have hI := HI.out
   rw [← hln] at hI
   obtain ⟨x, rfl, hf, hxl⟩ := hI.end
   obtain ⟨sa, sc, rfl, hpi, hscl, hscm, hsn, hsx⟩ := own_prs hown rfl
   obtain ⟨y, b, off, hy, rfl, hbl, c0, c1, c2⟩ := hpi.at (k := 0) (by simp)
   simp only [List.getElem?_cons_zero, Option.some.injEq] at hy
   subst hy
   simp only [Nat.zero_mul, Nat.add_zero, List.length_cons, List.length_nil] at c0
   have hO : O = ⟨x.tx.toArray⟩ := by rw [← HO.out, hf]
   rw [← hO] at c0
   have hki : ¬ (k : Int) < (k : Int) := by omega
   clear hpi hf hO HO c1 c2 CW CA hI HI hsx hsn hown
   go_wp2_with fail
   go_ret2
   exact ⟨rfl, HBEL.out⟩
end Go.Proofs.YtmdpjahhhfajaaaGreatDoor
