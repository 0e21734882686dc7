/-
  The program: Format. · Same of the reference, at lists of nodes that are the same. · The laws of expressions: known, parses. · Plain arithmetic: 'x & m' of an int for a mask m = 2^k - 1. No program is imported. · For every layer: warehousebase.At, the natural number for a position in a list of numbers. · The laws' texts: warehousebase.Text. · ExprParses, ExprParsesAt: their walks.
-/
import Derived.Test.YtmdpjahhhfajaaaGreatDoorJA45
import Derived.Deep.AppendLies
import Derived.Deep.RegionLaw
import Derived.Test.YtmdpjahhhfajaaaGreatDoorJA10
import Derived.Deep.RegionHeld3
import Derived.LoopTactic
import Derived.BigQuiet
import Derived.Deep.QuietTactic
import Derived.Laws.Entries
import Derived.Laws.BitsLemmas
import Derived.Test.YtmdpjahhhfajaaaGreatDoorJA06
import Derived.WalkSmall
import Derived.WalkLawsBesides
import Derived.WalkSpells
import Derived.Lib.Hide
import Derived.Test.YtmdpjahhhfajaaaGreatDoorJA05
set_option linter.unusedVariables false
set_option linter.unusedSimpArgs false
set_option maxRecDepth 100000
namespace Go.Proofs.YtmdpjahhhfajaaaGreatDoor
open Go.RowKit Go.Joins Wh

theorem under_pcs : Tryz.prog.underlying 74 = some (.slice (Tryz.prog.elem 74)) := by simp [Program.elem, Tryz.underlying74]
theorem elem_pcs : Tryz.prog.elem 74 = 76 := by simp [Program.elem, Tryz.underlying74]
theorem size_pc (W : World) : (sizeOf 76).run Tryz.prog W = .ok 3 W := by
  obtain ⟨i0, hi, _, h1, _⟩ := info_parts info_pc
  simp [sizeOf, typeInfo, hi, h1]
theorem slice_to_pcs (a : Option Addr) (len cap k : Nat) (ki : Int) (hki : ki = (k : Int)) (hk : k ≤ cap) (hm : cap ≤ maxLen) (hn : a = none → cap = 0) (hs : ∀ x, a = some x → x.spot = none) (W : World) :
    (Instr.slice 74 (.slice a len cap) none (some (.int .i64 ki)) none).run Tryz.prog W = .ok (.slice a k cap) W := by
  subst hki
  rw [run_slice_h W _ _ _ _ under_pcs .i64 _ (by omega) (by omega), elem_pcs, size_pc]
  by_cases hc : cap = 0
  · simp [Result.andThen, sliced, hc]
  · cases a with
    | none => exact absurd (hn rfl) hc
    | some x =>
      obtain ⟨b, off, spot⟩ := x
      have := hs _ rfl
      simp only at this
      subst this
      have hadd : (⟨b, off, none⟩ : Addr).add 0 = ⟨b, off, none⟩ := by unfold Addr.add; split <;> simp_all
      simp [Result.andThen, sliced, hc, hadd]
theorem slice_from_pcs {w : World} {a : Option Addr} {len cap : Nat} {es : List Pc} (k : Nat) (ki : Int) (hki : ki = (k : Int)) (h : IsPcs w a len es) (hk : k ≤ len) (hc : len ≤ cap) (hm : cap ≤ maxLen) (hn : a = none → cap = 0) (hs : ∀ x, a = some x → x.spot = none) :
    ∃ (a2 : Option Addr) (c2 : Nat), (∀ W, (Instr.slice 74 (.slice a len cap) (some (.int .i64 ki)) none none).run Tryz.prog W = .ok (.slice a2 (len - k) c2) W) ∧ IsPcs w a2 (len - k) (es.drop k) := by
  subst hki
  have hr : ∀ W, (Instr.slice 74 (.slice a len cap) (some (.int .i64 (k : Int))) none none).run Tryz.prog W = .ok (sliced a k len cap 3) W := by
    intro W
    rw [run_slice_l W _ _ _ _ under_pcs .i64 _ (by omega) (by omega), elem_pcs, size_pc]
    simp [Result.andThen]
  by_cases hcap : cap = k
  · refine ⟨a, cap - k, ?_, ?_⟩
    · intro W
      rw [hr]
      simp [sliced, hcap]
    · exact ⟨by rw [List.length_drop, h.1], .inl (by apply List.drop_of_length_le; have := h.1; omega)⟩
  · cases a with
    | none => exact absurd (hn rfl) (by omega)
    | some x =>
      obtain ⟨b, off, spot⟩ := x
      have hsp := hs _ rfl
      simp only at hsp
      subst hsp
      have hadd : (⟨b, off, none⟩ : Addr).add (k * 3) = ⟨b, off + k * 3, none⟩ := by unfold Addr.add; split <;> simp_all
      refine ⟨some ⟨b, off + k * 3, none⟩, cap - k, ?_, ⟨by rw [List.length_drop, h.1], ?_⟩⟩
      · intro W
        rw [hr]
        simp [sliced, hcap] at hadd ⊢
        exact hadd
      · rcases h.2 with h2 | ⟨b2, off2, hx, hlt, hcell⟩
        · exact .inl (by rw [h2]; simp)
        · cases hx
          refine .inr ⟨b, off + k * 3, rfl, hlt, fun i z hz => ?_⟩
          rw [List.getElem?_drop] at hz
          have := hcell (k + i) z hz
          rw [show off + k * 3 + i * 3 = off + (k + i) * 3 by omega]
          exact this

theorem keepFm {w0 w1 w2 : World} {B base : Nat} {op vk vn ar : Int} {vs nm : ByteArray} (h0 : B < w1.heap.size ∧ base ≤ w1.heap.size) (h : w1.cell? ⟨B, 0, none⟩ = some (.int .i64 op) ∧ w1.cell? ⟨B, 1, none⟩ = some (.int .i64 vk) ∧ w1.cell? ⟨B, 2, none⟩ = some (.int .i64 vn) ∧ w1.cell? ⟨B, 3, none⟩ = some (.string vs) ∧ w1.cell? ⟨B, 4, none⟩ = some (.string nm) ∧ w1.cell? ⟨B, 5, none⟩ = some (.int .i64 ar) ∧ Below base w0 w1) (hb : Below w1.heap.size w1 w2) : w2.cell? ⟨B, 0, none⟩ = some (.int .i64 op) ∧ w2.cell? ⟨B, 1, none⟩ = some (.int .i64 vk) ∧ w2.cell? ⟨B, 2, none⟩ = some (.int .i64 vn) ∧ w2.cell? ⟨B, 3, none⟩ = some (.string vs) ∧ w2.cell? ⟨B, 4, none⟩ = some (.string nm) ∧ w2.cell? ⟨B, 5, none⟩ = some (.int .i64 ar) ∧ Below base w0 w2 := by
  obtain ⟨a0, a1, a2, a3, a4, a5, hB⟩ := h
  have e : ∀ o, w2.cell? ⟨B, o, none⟩ = w1.cell? ⟨B, o, none⟩ := fun o => hb.cell (p := ⟨B, o, none⟩) h0.1
  exact ⟨(e _).trans a0, (e _).trans a1, (e _).trans a2, (e _).trans a3, (e _).trans a4, (e _).trans a5, hB.trans (hb.mono h0.2)⟩
theorem keepFmG {w0 w1 w2 : World} {B base : Nat} {op vk vn ar : Int} {vs nm : ByteArray} {row : Option Nat} (h0 : B < w1.heap.size ∧ base ≤ w1.heap.size) (h : w1.cell? ⟨B, 0, none⟩ = some (.int .i64 op) ∧ w1.cell? ⟨B, 1, none⟩ = some (.int .i64 vk) ∧ w1.cell? ⟨B, 2, none⟩ = some (.int .i64 vn) ∧ w1.cell? ⟨B, 3, none⟩ = some (.string vs) ∧ w1.cell? ⟨B, 4, none⟩ = some (.string nm) ∧ w1.cell? ⟨B, 5, none⟩ = some (.int .i64 ar) ∧ Below base w0 w1) (hg : w1.grownBy w2 row) (hr : some B ≠ row ∧ ∀ j, row = some j → base ≤ j) : w2.cell? ⟨B, 0, none⟩ = some (.int .i64 op) ∧ w2.cell? ⟨B, 1, none⟩ = some (.int .i64 vk) ∧ w2.cell? ⟨B, 2, none⟩ = some (.int .i64 vn) ∧ w2.cell? ⟨B, 3, none⟩ = some (.string vs) ∧ w2.cell? ⟨B, 4, none⟩ = some (.string nm) ∧ w2.cell? ⟨B, 5, none⟩ = some (.int .i64 ar) ∧ Below base w0 w2 := by
  obtain ⟨a0, a1, a2, a3, a4, a5, hB⟩ := h
  have e : ∀ o, w2.cell? ⟨B, o, none⟩ = w1.cell? ⟨B, o, none⟩ := fun o => hg.cell_far ⟨B, o, none⟩ h0.1 hr.1
  exact ⟨(e _).trans a0, (e _).trans a1, (e _).trans a2, (e _).trans a3, (e _).trans a4, (e _).trans a5, hB.grown hg h0.2 hr.2⟩

set_option maxHeartbeats 16000000 in
theorem pformat_any (a : Option Addr) (len cap : Nat) (ts : List Nd) (w : World) (hs : IsNodes w a len ts) (hl : len ≤ 9223372036854775807) (hz : ∀ t ∈ ts, t.nm.size ≤ 9223372036854775800) (hg : Glx w) :
    Calls Tryz.prog 18 #[.slice a len cap] w (IsTxt (fmtO ts).1 (fmtO ts).2 w) := by
  have hln := hs.1
  have CV := Lib.hid (pvalidN_any a len cap ts w hg.tb hs hl hz)
  by_cases hE : valN ts = 0
  rotate_left
  · have hEE : fmtO ts = ([], valN ts) := by unfold fmtO; rw [if_neg hE]
    rw [hEE]
    unfold IsTxt
    simp only
    have hEb := bne0 hE
    generalize valN ts = E at *
    clear hs hz hg hEE
    go_enter Tryz.func18, Tryz.ntmps18
    go_wp2_with fail
    refine CV.out.mono ?_
    rintro e w1 ⟨rfl, hb1⟩
    have HB1 := Lib.hid hb1
    clear hb1 CV
    go_wp2_with fail
    go_ret2
    exact ⟨rfl, HB1.out⟩
  obtain ⟨hl256, hv0⟩ := valN_zero hE
  have hEE : fmtO ts = (fmtE ts, 0) := by unfold fmtO; rw [if_pos hE]
  rw [hEE]
  rw [hE] at CV
  unfold IsTxt
  simp only
  obtain ⟨O, hO⟩ : ∃ O : ByteArray, (⟨(fmtE ts).toArray⟩ : ByteArray) = O := ⟨_, rfl⟩
  rw [hO]
  have HO := Lib.hid hO
  have HS := Lib.hid hs
  have HG := Lib.hid hg
  have HF0 := Lib.hid (FmI.zero hv0)
  obtain ⟨i0, hi, hz0, hz1, hz2⟩ := info_parts info_pc
  have CA := Lib.hid (fun t W => parity_any t W)
  have CW := Lib.hid (fun t (hnod : nodB t = true) a len cap xs W hs hln htot hlv hg => pwrite8_any t hnod a len cap xs W hs hln htot hlv hg)
  have CF := Lib.hid (fun s W h => pfit_any s W h)
  unfold ndV at CA CW
  unfold pcV at CW
  clear hs hz hg hEE hE hO hv0
  go_enter Tryz.func18, Tryz.ntmps18
  go_wp2_with fail
  refine CV.out.mono ?_
  rintro e w1 ⟨rfl, hb1⟩
  have HB1 := Lib.hid hb1
  clear hb1 CV
  go_wp2_with fail
  go_loopw [5, 16] (fun sv iv wr => ∃ (k : Nat) (st : List Pc), k ≤ len ∧ iv = .int .i64 k ∧ wr.ownsRow w.heap.size 76 3 sv st.length (pcsL st) ∧ Hid (FmI ts k st) ∧ Hid (Below w.heap.size w wr)) (fun _ iv _ => len - (intOf iv).toNat)
  case atStart => exact ⟨0, [], Nat.zero_le _, rfl, World.ownsRow_nil _ _ _ _, HF0, HB1⟩
  case round =>
    obtain ⟨k, st, hk, rfl, hown, HI, HBEL⟩ := hrel
    have hszr := HBEL.out.size
    by_cases hlt : k < len
    · obtain ⟨t, tb, toff, ht, rfl, htl, hat⟩ := (HS.out.below HBEL.out (Nat.le_refl _)).at hlt
      obtain ⟨hnod, n, p, hp, hp8, hst, hnx⟩ := HI.out.next ht
      have hstk := HI.out.len
      have htot := HI.out.tot
      have hlv := HI.out.lv
      obtain ⟨sa, sc, rfl, hpi, hscl, hscm, hsn, hsx⟩ := own_pcs hown rfl
      have hsp : ∀ x, sa = some x → x.spot = none := fun x hx => by obtain ⟨g, rfl, _⟩ := hsx x hx; rfl
      have CA1 := Lib.hid (CA.out t)
      rw [hp] at CA1
      rw [hst] at hpi hscl hown
      have hni : ((n + p : Nat) : Int) - (p : Int) = (n : Int) := by omega
      obtain ⟨a2, c2, hsl2, hp2⟩ := slice_from_pcs n (n : Int) rfl hpi (by omega) hscl hscm hsn hsp
      rw [show n + p - n = p by omega] at hsl2 hp2
      have hslt := slice_to_pcs sa (n + p) sc n (n : Int) rfl (by omega) hscm hsn hsp
      have htd : totP (st.drop n) ≤ 900000 := by
        have : totP st = totP (st.take n) + totP (st.drop n) := by rw [← totP_app, List.take_append_drop]
        omega
      have CW1 := Lib.hid (fun W (hb : Below wr.heap.size wr W) => CW.out t hnod a2 p c2 (st.drop n) W (hp2.below hb (Nat.le_refl _)) hp.symm htd (fun x hx => hlv x (List.mem_of_mem_drop hx)) (HG.out.below (HBEL.out.trans (hb.mono hszr)) (Nat.le_refl _)))
      obtain ⟨N, hN⟩ : ∃ N, nodP t (st.drop n) = N := ⟨_, rfl⟩
      rw [hN] at CW1 hnx
      have HNX := Lib.hid hnx
      have hcells : Hid ((pcsL st).take (n * 3) ++ [.string ⟨N.tx.toArray⟩, .int .i64 N.lv, .bool N.ig] = pcsL (st.take n ++ [N])) := by
        show _ = _
        rw [pcsL_take, pcsL_push]
      have hslen : Hid ((st.take n ++ [N]).length = n + 1) := by show _ = _; rw [List.length_append, List.length_take]; simp; omega
      have HOWN := Lib.hid hown
      obtain ⟨c0, c1, c2', c3, c4, c5⟩ := hat
      obtain ⟨op, ⟨vk, vn, vs⟩, nm, ar⟩ := t
      simp only at CA1 CW1 c0 c1 c2' c3 c4 c5
      obtain ⟨nt, nl, ni⟩ := N
      simp only at CW1 hcells
      generalize (⟨nt.toArray⟩ : ByteArray) = no at *
      have hB1 : Below wr.heap.size wr (wr.alloc (.cells #[.int .i64 op, .int .i64 vk, .int .i64 vn, .string vs, .string nm, .int .i64 ar] 53)) := (Below.refl _ _).alloc (Nat.le_refl _) _
      obtain ⟨d0, d1, d2, d3, d4, d5⟩ := box6 (Below.refl (wr.alloc (.cells #[.int .i64 op, .int .i64 vk, .int .i64 vn, .string vs, .string nm, .int .i64 ar] 53)).heap.size (wr.alloc (.cells #[.int .i64 op, .int .i64 vk, .int .i64 vn, .string vs, .string nm, .int .i64 ar] 53)))
      have hki : (k : Int) < (len : Int) := by omega
      clear hpi hown hp2 hnod hp hnx hN htot hlv htd hsn hsp ht CA
      rw [hst]
      go_wp2_with fail
      refine (CA1.out _).mono ?_
      rintro e w2 ⟨rfl, hb2⟩
      obtain ⟨e0, e1, e2, e3, e4, e5⟩ := box6 hb2
      have hB2 := below_box hb2
      have hs2 := hb2.size
      simp only [World.size_alloc] at hs2
      have HB2 := Lib.hid hB2
      have hown2 := (own_below HOWN.out hB2)
      have hownD := own_take hown2.drew (k := n) (by omega)
      have hfar : Hid (∀ z, (Value.slice sa n sc).ownBlock = some z → w.heap.size ≤ z ∧ z < wr.heap.size) := fun z hz => HOWN.out.lt z (by cases sa <;> simp [Value.ownBlock] at hz ⊢; exact hz)
      have HOWND := Lib.hid hownD
      clear hb2 hB2 hown2 c0 c1 c2' c3 c4 c5 d0 d1 d2 d3 d4 d5 hB1 CA1 hownD
      obtain ⟨B, hBB⟩ : ∃ B, wr.heap.size = B := ⟨_, rfl⟩
      obtain ⟨base, hbase⟩ : ∃ base, w.heap.size = base := ⟨_, rfl⟩
      rw [hBB] at e0 e1 e2 e3 e4 e5 hs2 hfar hszr
      rw [hbase] at hszr hfar HOWND
      have hS : Hid (w2.drew.cell? ⟨B, 0, none⟩ = some (.int .i64 op) ∧ w2.drew.cell? ⟨B, 1, none⟩ = some (.int .i64 vk) ∧ w2.drew.cell? ⟨B, 2, none⟩ = some (.int .i64 vn) ∧ w2.drew.cell? ⟨B, 3, none⟩ = some (.string vs) ∧ w2.drew.cell? ⟨B, 4, none⟩ = some (.string nm) ∧ w2.drew.cell? ⟨B, 5, none⟩ = some (.int .i64 ar) ∧ Below base w w2.drew) := ⟨e0, e1, e2, e3, e4, e5, by rw [← hbase]; exact (HBEL.out.trans (HB2.out.mono (by omega))).drew⟩
      have hsz : B < w2.drew.heap.size ∧ base ≤ w2.drew.heap.size := by show B < w2.heap.size ∧ base ≤ w2.heap.size; omega
      have hbD : Below B wr w2.drew := by rw [← hBB]; exact HB2.out.drew
      have CW2 := Lib.hid (fun W (hb : Below B wr W) => CW1.out W (by rw [hBB]; exact hb))
      clear CW1 e0 e1 e2 e3 e4 e5
      go_wp2_with fail
      have hS0 := hS.out
      clear hS
      have hrow : some B ≠ (Value.slice sa n sc).ownBlock ∧ ∀ j, (Value.slice sa n sc).ownBlock = some j → base ≤ j := ⟨fun h => by have := hfar.out B h.symm; omega, fun j h => (hfar.out j h).1⟩
      go_region_held3 (fun w' => w'.cell? ⟨B, 0, none⟩ = some (.int .i64 op) ∧ w'.cell? ⟨B, 1, none⟩ = some (.int .i64 vk) ∧ w'.cell? ⟨B, 2, none⟩ = some (.int .i64 vn) ∧ w'.cell? ⟨B, 3, none⟩ = some (.string vs) ∧ w'.cell? ⟨B, 4, none⟩ = some (.string nm) ∧ w'.cell? ⟨B, 5, none⟩ = some (.int .i64 ar) ∧ Below base w w')
        (first | with_reducible exact hS0 | exact keepFm (by assumption) (by assumption) hcall | exact keepFm (by assumption) (by assumption) ((Below.refl _ _).alloc (Nat.le_refl _) _) | exact keepFmG (by assumption) (by assumption) hgrow9 hrow)
        (first
          | (go_at_call 36; refine (CW2.out _ hbD).mono ?_; rintro e w4 ⟨rfl, hcall⟩; have hs4 := hcall.size; have hsz4 : B < w4.heap.size ∧ base ≤ w4.heap.size := ⟨by omega, by omega⟩; have hszE : B < (w4.alloc (.cells #[.string no, .int .i64 nl, .bool ni] 76)).heap.size ∧ base ≤ (w4.alloc (.cells #[.string no, .int .i64 nl, .bool ni] 76)).heap.size := ⟨by simp only [World.size_alloc]; omega, by simp only [World.size_alloc]; omega⟩; have hownE := (own_below HOWND.out hcall).alloc (.cells #[.string no, .int .i64 nl, .bool ni] 76); have hnew := World.news_of_block (cs := #[.string no, .int .i64 nl, .bool ni]) (t := 76) (fr := (0, 0)) (heap_alloc_new w4 (.cells #[.string no, .int .i64 nl, .bool ni] 76)))
          | (refine step_append_lies _ (by rfl) (.tmp 27) (.tmp 33) _ (by rfl) base 76 i0 _ 3 32 Tryz.underlying74 hi hz0 hz1 hz2 rfl (by omega) _ _ _ (by rfl) hownE ⟨w4.heap.size, 0, none⟩ 1 1 [.string no, .int .i64 nl, .bool ni] (by rfl) (by rfl) hnew (by simp [Value.oneCell']) (by omega) (by unfold maxLen; omega) (by omega) hszE.2 (w4.heap.size + 1) (by simp) ?_; intro gg cc w9 hown9 hgrow9 hat9 hlt9))
      all_goals
        obtain ⟨_, _, _, _, _, _, hB9⟩ := ‹_ ∧ _ ∧ _ ∧ _ ∧ _ ∧ _ ∧ Below _ _ _›
        have hown9b := hown9
        rw [hcells.out] at hown9b
        have HB9 : Hid (Below w.heap.size w w9) := by rw [hbase]; exact hB9
        have HOWN9 : Hid (w9.ownsRow w.heap.size 76 3 (.slice (some ⟨gg, 0, none⟩) (n + 1) cc) (st.take n ++ [(⟨nt, nl, ni⟩ : Pc)]).length (pcsL (st.take n ++ [(⟨nt, nl, ni⟩ : Pc)]))) := by rw [hslen.out, hbase]; exact hown9b
        clear hown9 hown9b hB9 hS0
        go_wp2_with fail
        go_roundw
        case rel => exact ⟨k + 1, _, by omega, by go_num, HOWN9.out, HNX, HB9⟩
        case measure => simp [intOf]; omega
    · obtain rfl : k = len := by omega
      have hI := HI.out
      rw [← hln] at hI
      obtain ⟨x, rfl, hf, hxl⟩ := hI.end
      obtain ⟨sa, sc, rfl, hpi, hscl, hscm, hsn, hsx⟩ := own_pcs hown rfl
      obtain ⟨y, b, off, hy, rfl, hbl, c0, c1, c2⟩ := hpi.at (k := 0) (by simp)
      simp only [List.getElem?_cons_zero, Option.some.injEq] at hy
      subst hy
      simp only [Nat.zero_mul, Nat.add_zero, List.length_cons, List.length_nil] at c0
      have hO : O = ⟨x.tx.toArray⟩ := by rw [← HO.out, hf]
      have CF1 := Lib.hid (CF.out ⟨x.tx.toArray⟩ wr (by rw [size_mk]; omega))
      rw [if_neg (by rw [size_mk]; omega), if_neg (by rw [size_mk]; omega), ← hO] at CF1
      rw [← hO] at c0
      have hki : ¬ (k : Int) < (k : Int) := by omega
      clear hpi hf hO HO c1 c2 CW CA hI HI hsx hsn hown
      go_wp2_with fail
      refine CF1.out.mono ?_
      rintro e w5 ⟨rfl, rfl⟩
      go_wp2_with fail
      go_ret2
      exact ⟨rfl, HBEL.out⟩

end Go.Proofs.YtmdpjahhhfajaaaGreatDoor
set_option linter.unusedVariables false
set_option maxRecDepth 100000
namespace Go.Proofs.YtmdpjahhhfajaaaGreatDoor
open Go.RowKit Wh

set_option maxHeartbeats 4000000 in
theorem rsame8_yes (a1 : Option Addr) (n c1 : Nat) (ts : List Nd) (a2 : Option Addr) (c2 : Nat) (w : World) (h1 : IsNodes w a1 n ts) (h2 : IsNodes w a2 n ts) (hn : n ≤ 1000000000000) :
    Calls Tryz.prog 15 #[.slice a1 n c1, .slice a2 n c2] w fun e w' => e = .returned (.bool true) ∧ Below w.heap.size w w' := by
  have H1 := Lib.hid h1
  have H2 := Lib.hid h2
  clear h1 h2
  go_enter Tryz.func15, Tryz.ntmps15
  go_wp2_with fail
  go_loopw [5] (fun iv wr => ∃ k : Nat, k ≤ n ∧ iv = .int .i64 k ∧ Below w.heap.size w wr) (fun iv _ => n - (intOf iv).toNat)
  case atStart => exact ⟨0, Nat.zero_le _, rfl, Below.refl _ _⟩
  case round =>
    obtain ⟨k, hk, rfl, hbel⟩ := hrel
    by_cases hlt : k < n
    · obtain ⟨⟨op, ⟨vk, vn, vs⟩, nm, ar⟩, b1, o1, e1, rfl, l1, c10, c11, c12, c13, c14, c15⟩ := (H1.out.below hbel (Nat.le_refl _)).at hlt
      obtain ⟨t, b2, o2, e2, rfl, l2, c20, c21, c22, c23, c24, c25⟩ := (H2.out.below hbel (Nat.le_refl _)).at hlt
      rw [e1] at e2
      cases e2
      simp only at c10 c11 c12 c13 c14 c15 c20 c21 c22 c23 c24 c25
      clear e1
      go_wp2_with fail
      go_quiet (fail)
      go_wp2_with fail
      go_roundw
      case rel => exact ⟨k + 1, by omega, by go_num, Below.drewN' hbel _⟩
      case measure => simp [intOf]; omega
    · go_wp2_with fail
      go_ret
      exact ⟨rfl, hbel⟩

end Go.Proofs.YtmdpjahhhfajaaaGreatDoor
set_option linter.unusedVariables false
set_option linter.unusedSimpArgs false
set_option maxRecDepth 100000
namespace Wh
open Go Go.Proofs.YtmdpjahhhfajaaaGreatDoor
def kn1 : ByteArray := ⟨#[97, 32, 62, 32, 98, 32, 43, 32, 49]⟩
def kn2 : ByteArray := ⟨#[97, 32, 61, 32, 98, 32, 61, 32, 99]⟩
theorem dec1 : Lib.decDigits 1 = [49] := by rw [decDigits_step]; rfl
theorem kn1_par : (parO kn1).1.length = 5 ∧ (parO kn1).2 = (0, 0) := by decide +kernel
theorem kn1_nodes : (parO kn1).1 = [⟨1, ⟨0, 0, ⟨#[]⟩⟩, ⟨#[98]⟩, 0⟩, cstN 2 1 ⟨#[]⟩, opNd 4, ⟨1, ⟨0, 0, ⟨#[]⟩⟩, ⟨#[97]⟩, 0⟩, opNd 12] := by kernel_rfl
theorem kn1_fmt : fmtO (parO kn1).1 = ([98, 32, 43, 32, 49, 32, 60, 32, 97], 0) := by
  rw [kn1_nodes]
  have hv : valN [⟨1, ⟨0, 0, ⟨#[]⟩⟩, ⟨#[98]⟩, 0⟩, cstN 2 1 ⟨#[]⟩, opNd 4, ⟨1, ⟨0, 0, ⟨#[]⟩⟩, ⟨#[97]⟩, 0⟩, opNd 12] = 0 := by decide +kernel
  unfold fmtO
  rw [if_pos hv]
  have hc : cstP ⟨2, 1, ⟨#[]⟩⟩ = ⟨[49], 8, true⟩ := by
    unfold cstP
    rw [if_neg (by decide), if_pos rfl, if_neg (by decide)]
    show (⟨Lib.decDigits 1, 8, true⟩ : Pc) = _
    rw [dec1]
  have e : ∀ x, nodP (cstN 2 1 ⟨#[]⟩) x = ⟨[49], 8, true⟩ := fun x => by unfold nodP; rw [if_pos rfl]; exact hc
  have hf : fmtE [⟨1, ⟨0, 0, ⟨#[]⟩⟩, ⟨#[98]⟩, 0⟩, cstN 2 1 ⟨#[]⟩, opNd 4, ⟨1, ⟨0, 0, ⟨#[]⟩⟩, ⟨#[97]⟩, 0⟩, opNd 12] = [98, 32, 43, 32, 49, 32, 60, 32, 97] := by
    unfold fmtE
    rw [fmtS, fmtS, e]
    rfl
  rw [hf]
theorem patO_val (ts : List TA) (z : Int) : (patO ts z).1 = [] ∨ valN (patO ts z).1 = 0 := by
  unfold patO
  by_cases h1 : ¬ valE ts = 0
  · rw [if_pos h1]; exact .inl rfl
  rw [if_neg h1]
  by_cases h2 : z < 0 ∨ (ts.length : Int) ≤ z
  · rw [if_pos h2]; exact .inl rfl
  rw [if_neg h2]
  cases prT ts (9 * ts.length + 9) 0 z.toNat 0 with
  | bad c j => exact .inl rfl
  | ok e j =>
    simp only
    by_cases h3 : valN e = 0
    · rw [if_pos h3]; exact .inr h3
    · rw [if_neg h3]; exact .inl rfl
theorem patO_len (ts : List TA) (z : Int) : (patO ts z).1.length ≤ 256 := by
  rcases patO_val ts z with h | h
  · rw [h]; exact Nat.zero_le _
  · exact (valN_zero h).1
theorem parO_cases (s : ByteArray) : (parO s).1 = [] ∨ (parO s).1 = (patO (splitP s).l 0).1 := by
  unfold parO
  by_cases h1 : ¬ (splitP s).e = 0
  · rw [if_pos h1]; exact .inl rfl
  rw [if_neg h1]
  by_cases h2 : ¬ (patO (splitP s).l 0).2.2 = 0
  · rw [if_pos h2]; exact .inl rfl
  rw [if_neg h2]
  by_cases h3 : ¬ (tkA (splitP s).l (patO (splitP s).l 0).2.1.toNat).1.k = 0
  · rw [if_pos h3]; exact .inl rfl
  rw [if_neg h3]; exact .inr rfl
theorem parO_len (s : ByteArray) : (parO s).1.length ≤ 256 := by
  rcases parO_cases s with h | h
  · rw [h]; exact Nat.zero_le _
  · rw [h]; exact patO_len _ _
theorem kn2_par : (parO kn2).2 = (6, 3) := by decide +kernel
end Wh
namespace Go.Proofs.YtmdpjahhhfajaaaGreatDoor
open Go.RowKit Wh

set_option maxHeartbeats 4000000 in
theorem known8_any (w : World) (hg : Glx w) : Calls Tryz.prog 8 #[] w fun e w' => e = .returned (.bool true) ∧ Below w.heap.size w w' := by
  have C1 := Lib.hid (pparse8_any kn1 w (by decide) hg)
  have C3 := Lib.hid (fun W (hb : Below w.heap.size w W) => pparse8_any kn2 W (by decide) (hg.below hb (Nat.le_refl _)))
  have hl := kn1_par.1
  have hn : ∀ t ∈ (parO kn1).1, t.nm.size ≤ 9223372036854775800 := by
    rw [kn1_nodes]
    intro t ht
    simp only [List.mem_cons, List.mem_nil_iff, or_false] at ht
    rcases ht with rfl | rfl | rfl | rfl | rfl <;> decide
  have CF := Lib.hid (fun a cap W (hs : IsNodes W a (parO kn1).1.length (parO kn1).1) (hb : Below w.heap.size w W) => pformat_any a _ cap (parO kn1).1 W hs (by rw [hl]; decide) hn (hg.below hb (Nat.le_refl _)))
  rw [kn1_fmt] at CF
  unfold IsTxt at CF
  unfold PatP at C1 C3
  rw [kn1_par.2] at C1
  rw [kn2_par] at C3
  rw [hl] at CF C1
  unfold kn1 at C1 CF hl
  unfold kn2 at C3
  clear hn hg
  generalize (parO ⟨#[97, 32, 62, 32, 98, 32, 43, 32, 49]⟩).1 = L1 at *
  go_enter Tryz.func8, Tryz.ntmps8
  go_wp2_with fail
  refine C1.out.mono ?_
  rintro e w1 ⟨v, rfl, hown, hb1⟩
  have HOW := Lib.hid hown
  have HB1 := Lib.hid hb1
  clear hown hb1 C1
  obtain ⟨a, c, rfl, q, _, _, _, _⟩ := own_nodes HOW.out hl
  have CF1 := Lib.hid (CF.out a c w1 q HB1.out)
  clear CF q
  go_wp2_with fail
  refine CF1.out.mono ?_
  rintro e w2 ⟨rfl, hb2⟩
  have HB2 := Lib.hid (HB1.out.trans (hb2.mono HB1.out.size))
  have C32 := Lib.hid (C3.out w2 HB2.out)
  clear hb2 CF1 C3
  go_wp2_with fail
  refine C32.out.mono ?_
  rintro e w3 ⟨v3, rfl, hown3, hb3⟩
  have HB3 := Lib.hid (HB2.out.trans (hb3.mono HB2.out.size))
  clear hown3 hb3 C32
  go_wp2_with fail
  go_ret
  exact ⟨rfl, HB3.out⟩

set_option maxHeartbeats 4000000 in
theorem parses8_any (s : ByteArray) (w : World) (hs : s.size ≤ 9223372036854775807) (hg : Glx w) : Calls Tryz.prog 9 #[.string s] w fun e w' => e = .returned (.bool true) ∧ Below w.heap.size w w' := by
  have C1 := Lib.hid (pparse8_any s w hs hg)
  have C2 := Lib.hid (fun W => rparse8_any s W hs)
  obtain ⟨⟨l, p, x⟩, hO⟩ : ∃ O, parO s = O := ⟨_, rfl⟩
  rw [hO] at C1 C2
  have hll : l.length ≤ 256 := by have := parO_len s; rw [hO] at this; exact this
  unfold PatP at C1 C2
  simp only at C1 C2
  clear hg hO
  go_enter Tryz.func9, Tryz.ntmps9
  go_wp2_with fail
  refine C1.out.mono ?_
  rintro e w1 ⟨v1, rfl, hown1, hb1⟩
  obtain ⟨a1, c1, rfl, q1, _, _, _, _⟩ := own_nodes hown1 rfl
  have HQ1 := Lib.hid q1
  have HB1 := Lib.hid hb1
  clear hown1 hb1 C1 q1
  go_wp2_with fail
  refine (C2.out w1).mono ?_
  rintro e w2 ⟨v2, rfl, hown2, hb2⟩
  obtain ⟨a2, c2, rfl, q2, _, _, _, _⟩ := own_nodes hown2 rfl
  have CS := Lib.hid (rsame8_yes a1 l.length c1 l a2 c2 w2 (HQ1.out.below hb2 (Nat.le_refl _)) q2 (by omega))
  have HB2 := Lib.hid (HB1.out.trans (hb2.mono HB1.out.size))
  clear hown2 hb2 C2 q2
  go_wp2_with fail
  refine CS.out.mono ?_
  rintro e w3 ⟨rfl, hb3⟩
  have HB3 := Lib.hid (HB2.out.trans (hb3.mono HB2.out.size))
  clear hb3 CS
  go_wp2_with fail
  go_ret
  exact ⟨rfl, HB3.out⟩

end Go.Proofs.YtmdpjahhhfajaaaGreatDoor
set_option linter.unusedVariables false
namespace Wh
open Go

theorem and_nat (x : Int) (m : Nat) (hm : m < 9223372036854775808) : bits .and .i64 x (m : Int) = (((x % 18446744073709551616).toNat &&& m : Nat) : Int) := by
  have h1 : (BitVec.ofInt 64 x).toNat = (x % 18446744073709551616).toNat := by
    rw [BitVec.toNat_ofInt]
    rfl
  have h2 : (BitVec.ofInt 64 (m : Int)).toNat = m := by
    rw [BitVec.ofInt_natCast, BitVec.toNat_ofNat]
    exact Nat.mod_eq_of_lt (by omega)
  have h3 : (x % 18446744073709551616).toNat &&& m ≤ m := Nat.and_le_right
  show IntKind.i64.wrap ((BitVec.ofInt 64 x &&& BitVec.ofInt 64 (m : Int)).toNat : Int) = _
  rw [BitVec.toNat_and, h1, h2, IntKind.wrap_i64]
  omega

theorem and_mask (x : Int) (k m : Nat) (hm : m = 2 ^ k - 1) (hk : k ≤ 32) : bits .and .i64 x (m : Int) = (x % 18446744073709551616) % ((2 ^ k : Nat) : Int) := by
  have hp : 2 ^ k ≤ 2 ^ 32 := Nat.pow_le_pow_right (by omega) hk
  have h := and_nat x m (by omega)
  rw [hm, Nat.and_two_pow_sub_one_eq_mod] at h
  rw [hm, h, Int.natCast_emod, Int.toNat_of_nonneg (by omega)]

theorem and_1 (x : Int) : bits .and .i64 x 1 = x % 2 := by
  have h := and_mask x 1 1 rfl (by omega)
  simp only [Nat.reducePow] at h
  rw [show ((1 : Nat) : Int) = 1 from rfl] at h
  omega
theorem and_3 (x : Int) : bits .and .i64 x 3 = x % 4 := by
  have h := and_mask x 2 3 rfl (by omega)
  rw [show ((3 : Nat) : Int) = 3 from rfl] at h
  omega
theorem and_7 (x : Int) : bits .and .i64 x 7 = x % 8 := by
  have h := and_mask x 3 7 rfl (by omega)
  rw [show ((7 : Nat) : Int) = 7 from rfl] at h
  omega
theorem and_15 (x : Int) : bits .and .i64 x 15 = x % 16 := by
  have h := and_mask x 4 15 rfl (by omega)
  rw [show ((15 : Nat) : Int) = 15 from rfl] at h
  omega
theorem and_31 (x : Int) : bits .and .i64 x 31 = x % 32 := by
  have h := and_mask x 5 31 rfl (by omega)
  rw [show ((31 : Nat) : Int) = 31 from rfl] at h
  omega
theorem and_63 (x : Int) : bits .and .i64 x 63 = x % 64 := by
  have h := and_mask x 6 63 rfl (by omega)
  rw [show ((63 : Nat) : Int) = 63 from rfl] at h
  omega
theorem and_255 (x : Int) : bits .and .i64 x 255 = x % 256 := by
  have h := and_mask x 8 255 rfl (by omega)
  rw [show ((255 : Nat) : Int) = 255 from rfl] at h
  omega
theorem and_1023 (x : Int) : bits .and .i64 x 1023 = x % 1024 := by
  have h := and_mask x 10 1023 rfl (by omega)
  rw [show ((1023 : Nat) : Int) = 1023 from rfl] at h
  omega
theorem and_4095 (x : Int) : bits .and .i64 x 4095 = x % 4096 := by
  have h := and_mask x 12 4095 rfl (by omega)
  rw [show ((4095 : Nat) : Int) = 4095 from rfl] at h
  omega
theorem and_65535 (x : Int) : bits .and .i64 x 65535 = x % 65536 := by
  have h := and_mask x 16 65535 rfl (by omega)
  rw [show ((65535 : Nat) : Int) = 65535 from rfl] at h
  omega

end Wh
set_option linter.unusedVariables false
namespace Wh
open Go

/-- The natural number for a position in a list of numbers. -/
def atZ (zs : List Int) (i : Int) : Int :=
  if zs.length = 0 then i % 65536 else zs.getD (i % 65536 % zs.length).toNat 0 % 65536 + i % 65536 / zs.length

theorem atZ_bounds (zs : List Int) (i : Int) : 0 ≤ atZ zs i ∧ atZ zs i ≤ 131070 := by
  unfold atZ
  split
  · omega
  · rename_i h
    have h1 : 0 ≤ i % 65536 / zs.length := Int.ediv_nonneg (by omega) (by omega)
    have h2 : i % 65536 / (zs.length : Int) ≤ i % 65536 := Int.ediv_le_self _ (by omega)
    omega

end Wh
namespace Go.Proofs.YtmdpjahhhfajaaaGreatDoor
open Go.RowKit Wh

theorem at_any (a : Option Addr) (len cap : Nat) (zs : List Int) (n : Int) (w : World) (hz : IsInts w a len zs) (hl : len ≤ 9223372036854775807) :
    Calls Tryz.prog 23 #[.slice a len cap, .int .i64 n] w fun e w' => e = .returned (.int .i64 (atZ zs n)) ∧ Below w.heap.size w w' := by
  obtain ⟨hlen, hz⟩ := hz
  have b1 := and_65535
  have i0 : 0 ≤ n % 65536 := by omega
  have i1 : n % 65536 < 65536 := by omega
  by_cases h0 : len = 0
  · have hv : atZ zs n = n % 65536 := by unfold atZ; rw [if_pos (by omega)]
    rw [hv]
    subst h0
    clear hv hlen hz
    go_enter Tryz.func23, Tryz.ntmps23
    go_wp2_with fail
    go_ret
    exact ⟨rfl, Below.refl _ _⟩
  · rcases hz with rfl | ⟨b, off, rfl, hb, hat⟩
    · exact absurd hlen.symm (by simpa using h0)
    · have hd : ((len : Int) == 0) = false := by simpa using h0
      have l1 : (1 : Int) ≤ len := by omega
      have r0 : 0 ≤ n % 65536 % (len : Int) := Int.emod_nonneg _ (by omega)
      have r1 : n % 65536 % (len : Int) < len := Int.emod_lt_of_pos _ (by omega)
      have q0 : 0 ≤ n % 65536 / (len : Int) := Int.ediv_nonneg i0 (by omega)
      have q1 : n % 65536 / (len : Int) ≤ 65536 := by have : n % 65536 / (len : Int) ≤ n % 65536 := Int.ediv_le_self _ i0; omega
      obtain ⟨z, hzz⟩ : ∃ z, zs[(n % 65536 % (len : Int)).toNat]? = some z := ⟨_, List.getElem?_eq_getElem (by omega)⟩
      have hc := hat _ _ hzz
      have hv : atZ zs n = z % 65536 + n % 65536 / (len : Int) := by
        unfold atZ
        rw [if_neg (by omega), hlen]
        simp [List.getD, hzz]
      rw [hv]
      have z0 : 0 ≤ z % 65536 := by omega
      have z1 : z % 65536 < 65536 := by omega
      clear hv hat hzz hlen
      go_enter Tryz.func23, Tryz.ntmps23
      go_wp2_with fail
      go_quiet (fail)
      go_wp2_with fail
      go_ret
      exact ⟨rfl, below_drewN (Below.refl _ _) nq⟩

end Go.Proofs.YtmdpjahhhfajaaaGreatDoor
set_option linter.unusedVariables false
set_option maxRecDepth 100000
namespace Go.Proofs.YtmdpjahhhfajaaaGreatDoor
open Go.RowKit Wh

/-- Texts of at most 20 bytes lie in block b. -/
def PieAt (w : World) (b : Nat) : Prop := b < w.heap.size ∧ ∀ i, i < 48 → ∃ s : ByteArray, w.cell? ⟨b, i, none⟩ = some (.string s) ∧ s.size ≤ 20
theorem PieAt.next {w w' : World} {b : Nat} {B : Nat} (h : PieAt w b) (hb : Below B w w') (hB : b < B) : PieAt w' b :=
  ⟨Nat.lt_of_lt_of_le h.1 hb.size, fun i hi => by
    obtain ⟨s, hs, hl⟩ := h.2 i hi
    exact ⟨s, by rw [hb.cell (p := ⟨b, i, none⟩) hB]; exact hs, hl⟩⟩

/-- Is it a text of at most 20 bytes? -/
def shortV : Value → Bool
  | .string s => decide (s.size ≤ 20)
  | _ => false
theorem pie_of {w : World} {b : Nat} {cs : Array Value} {t : TypeId} (h : w.heap[b]? = some (.cells cs t (0, 0))) (hb : b < w.heap.size) (hs : cs.size = 48) (ha : cs.toList.all shortV = true) : PieAt w b := by
  refine ⟨hb, fun i hi => ?_⟩
  obtain ⟨v, hv⟩ : ∃ v, cs.toList[i]? = some v := ⟨_, List.getElem?_eq_getElem (by simp; omega)⟩
  have h1 := List.all_eq_true.1 ha v (List.mem_of_getElem? hv)
  have h2 : w.cell? ⟨b, i, none⟩ = some v := (cell_of_row w b i cs t (0, 0) h).trans (by rw [← hv, Array.getElem?_toList])
  cases v with
  | string s => exact ⟨s, h2, by simpa [shortV] using h1⟩
  | _ => simp [shortV] at h1

/-- The call returns a text of at most m bytes. -/
def IsShort (m : Nat) (w : World) (e : Ending) (w' : World) : Prop := ∃ s : ByteArray, e = .returned (.string s) ∧ s.size ≤ m ∧ Below w.heap.size w w'

set_option maxHeartbeats 4000000 in
theorem text_any7 (a : Option Addr) (len cap : Nat) (zs : List Int) (n : Nat) (w : World) (hz : IsInts w a len zs) (hl : len ≤ 9223372036854775807) (hn : n ≤ 31) :
    Calls Tryz.prog 10 #[.slice a len cap, .int .i64 n] w (IsShort 620 w) := by
  have HZ := Lib.hid hz
  clear hz
  go_enter Tryz.func10, Tryz.ntmps10
  go_wp2_with fail
  have HT0 : Hid (PieAt (w.alloc (.cells #[.string ⟨#[97]⟩, .string ⟨#[118]⟩, .string ⟨#[32]⟩, .string ⟨#[43]⟩, .string ⟨#[45]⟩, .string ⟨#[42]⟩, .string ⟨#[40]⟩, .string ⟨#[41]⟩, .string ⟨#[49]⟩, .string ⟨#[50, 48]⟩, .string ⟨#[97, 110, 100]⟩, .string ⟨#[32, 111, 114, 32]⟩, .string ⟨#[110, 111, 116, 32]⟩, .string ⟨#[61]⟩, .string ⟨#[60, 61]⟩, .string ⟨#[62]⟩, .string ⟨#[44]⟩, .string ⟨#[39, 120, 39]⟩, .string ⟨#[110, 117, 108, 108]⟩, .string ⟨#[116, 114, 117, 101]⟩, .string ⟨#[100, 97, 121, 40]⟩, .string ⟨#[122, 48]⟩, .string ⟨#[105, 102, 40]⟩, .string ⟨#[58]⟩, .string ⟨#[124]⟩, .string ⟨#[102, 114, 111, 109, 32]⟩, .string ⟨#[119, 104, 101, 114, 101, 32]⟩, .string ⟨#[115, 101, 108, 101, 99, 116, 32]⟩, .string ⟨#[103, 114, 111, 117, 112, 32]⟩, .string ⟨#[106, 111, 105, 110, 32]⟩, .string ⟨#[32, 111, 110, 32]⟩, .string ⟨#[119, 105, 110, 100, 111, 119, 32]⟩, .string ⟨#[32, 98, 121, 32]⟩, .string ⟨#[99, 111, 117, 110, 116, 40]⟩, .string ⟨#[115, 117, 109, 40]⟩, .string ⟨#[59]⟩, .string ⟨#[109, 111, 100, 117, 108, 101, 32]⟩, .string ⟨#[109]⟩, .string ⟨#[64, 49, 57, 55, 48, 45, 48, 49, 45, 48, 50, 84, 48, 48, 58, 48, 48]⟩, .string ⟨#[35, 99, 10]⟩, .string ⟨#[39]⟩, .string ⟨#[46, 46]⟩, .string ⟨#[57, 97]⟩, .string ⟨#[97, 46, 98]⟩, .string ⟨#[37]⟩, .string ⟨#[43, 43]⟩, .string ⟨#[115, 101, 108, 102]⟩, .string ⟨#[109, 97, 99, 114, 111, 32]⟩] 9)) w.heap.size) := pie_of (heap_alloc_new w _) (by simp) rfl (by decide +kernel)
  go_loopw [6, 7] (fun sv iv wr => ∃ (k : Nat) (s : ByteArray), k ≤ n ∧ iv = .int .i64 k ∧ sv = .string s ∧ s.size ≤ 20 * k ∧ Hid (PieAt wr w.heap.size) ∧ Below w.heap.size w wr) (fun _ iv _ => n - (intOf iv).toNat)
  case atStart => exact ⟨0, ⟨#[]⟩, Nat.zero_le _, rfl, rfl, Nat.le_refl _, HT0, (Below.refl _ _).alloc (Nat.le_refl _) _⟩
  case round =>
    obtain ⟨k, s, hk, rfl, rfl, hsz, HT, hbel⟩ := hrel
    clear HT0
    have hs := hbel.size
    by_cases hlt : k < n
    · have C0 := Lib.hid (fun W (h : Below w.heap.size w W) => at_any a len cap zs k W (HZ.out.below h (Nat.le_refl _)) hl)
      have hab := atZ_bounds zs k
      obtain ⟨x, hx⟩ : ∃ x : Nat, atZ zs k = (x : Int) := ⟨(atZ zs k).toNat, by omega⟩
      rw [hx] at C0 hab
      clear hx
      go_wp2_with fail
      refine (C0.out _ hbel).mono ?_
      rintro e w1 ⟨rfl, hb1⟩
      have hB1 := hbel.trans (hb1.mono hs)
      have HT1 := Lib.hid (HT.out.next hb1 HT.out.1)
      have hlt1 := HT1.out.1
      obtain ⟨q, HQ⟩ : ∃ q, Hid (x % 48 = q) := ⟨_, rfl⟩
      have hq : (x : Int) % 48 = (q : Int) := by have := HQ.out; omega
      have hqb : q < 48 := by have := HQ.out; omega
      obtain ⟨t, ht, htl⟩ := HT1.out.2 q hqb
      have hadd : ¬ (9223372036854775807 < s.size + t.size) := by omega
      have hsz2 : Hid ((s ++ t).size ≤ 20 * (k + 1)) := by show _ ≤ _; rw [ByteArray.size_append]; omega
      clear C0 HT hbel hb1
      go_wp2_with fail
      go_roundw
      case rel => exact ⟨k + 1, s ++ t, by omega, by go_num, rfl, hsz2.out, HT1, hB1⟩
      case measure => simp [intOf]; omega
    · clear HT
      go_wp2_with fail
      go_ret
      exact ⟨s, rfl, by omega, hbel⟩

end Go.Proofs.YtmdpjahhhfajaaaGreatDoor
set_option linter.unusedVariables false
set_option linter.unusedSimpArgs false
set_option maxRecDepth 100000
namespace Go.Proofs.YtmdpjahhhfajaaaGreatDoor
open Go.RowKit Wh

set_option maxHeartbeats 4000000 in
theorem eparses_walk (w : World) (s : ByteArray) (hs : s.size ≤ 9223372036854775807) (a : Option Addr) (len cap : Nat) (zs : List Int) (hz : IsInts w a len zs) (hc : len ≤ cap) (hm : cap ≤ maxLen) (n : Int) (hn1 : -9223372036854775808 ≤ n) (hn2 : n ≤ 9223372036854775807) (hg : Glx w) :
    Calls Tryz.prog 3 #[.string s, .slice a len cap, .int .i64 n] w fun e w' => e = .returned (.bool true) ∧ Below w.heap.size w w' := by
  have mm : maxLen = 9223372036854775807 := rfl
  by_cases hl : 500 < s.size
  · have CK := Lib.hid (known8_any w hg)
    have hli : (500 : Int) < (s.size : Int) := by omega
    clear hz hg
    go_enter Tryz.func3, Tryz.ntmps3
    go_wp2_with fail
    refine CK.out.mono ?_
    rintro e w1 ⟨rfl, hb1⟩
    go_wp2_with fail
    go_ret
    exact ⟨rfl, hb1⟩
  have hli : ¬ (500 : Int) < (s.size : Int) := by omega
  obtain ⟨N, hN, hN7⟩ : ∃ N : Nat, n % 16 = (N : Int) ∧ N ≤ 31 := ⟨(n % 16).toNat, by omega, by omega⟩
  have C1 := Lib.hid (parses8_any s w hs hg)
  have C2 := Lib.hid (fun W (h : Below w.heap.size w W) => text_any7 a len cap zs N W (hz.below h (Nat.le_refl _)) (by omega) hN7)
  have HG := Lib.hid hg
  have hb15 := and_15 n
  rw [hN] at hb15
  clear hz hg hN
  go_enter Tryz.func3, Tryz.ntmps3
  go_wp2_with fail
  refine C1.out.mono ?_
  rintro e w1 ⟨rfl, hb1⟩
  have hs1 := hb1.size
  go_wp2_with fail
  refine (C2.out _ hb1).mono ?_
  rintro e w2 ⟨t, rfl, ht, hb2⟩
  have hB2 := hb1.trans (hb2.mono hs1)
  have hs2 := hB2.size
  go_wp2_with fail
  refine (parses8_any t _ (by omega) (HG.out.below hB2 (Nat.le_refl _))).mono ?_
  rintro e w3 ⟨rfl, hb3⟩
  have hB3 := hB2.trans (hb3.mono hs2)
  have hs3 := hB3.size
  go_wp2_with fail
  refine (known8_any _ (HG.out.below hB3 (Nat.le_refl _))).mono ?_
  rintro e w4 ⟨rfl, hb4⟩
  go_wp2_with fail
  go_ret
  exact ⟨rfl, hB3.trans (hb4.mono hs3)⟩

end Go.Proofs.YtmdpjahhhfajaaaGreatDoor
