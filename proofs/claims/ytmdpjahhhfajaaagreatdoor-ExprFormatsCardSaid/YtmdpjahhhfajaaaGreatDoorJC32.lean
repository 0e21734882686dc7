/-
  The texts of expressions, plainly: what stands on the stack while they · The program: Format. · Same of the reference, at lists of nodes that are the same. · The laws of expressions: known, parses. · Plain arithmetic: 'x & m' of an int for a mask m = 2^k - 1. No program · For every layer: the instants that the laws draw (warehousebase.Moment · For every layer: the values that the laws draw (warehousebase.Value, A
-/
import Derived.Test.YtmdpjahhhfajaaaGreatDoorJC14
import Derived.Test.YtmdpjahhhfajaaaGreatDoorJC31
import Derived.Deep.AppendLies
import Derived.Deep.RegionLaw
import Derived.Test.YtmdpjahhhfajaaaGreatDoorJC06
import Derived.Deep.RegionHeld3
import Derived.LoopTactic
import Derived.BigQuiet
import Derived.Deep.QuietTactic
import Derived.Laws.Entries
import Derived.Laws.BitsLemmas
import Derived.Test.YtmdpjahhhfajaaaGreatDoorRows
import Derived.WalkKit
import Derived.Below
import Derived.IntWalk
import Derived.Lib.Hide
import Derived.Test.YtmdpjahhhfajaaaGreatDoorJC09
import Derived.Laws.ResultCell
set_option linter.unusedVariables false
set_option linter.unusedSimpArgs false
set_option maxRecDepth 100000
namespace Wh
open Go Go.Proofs.YtmdpjahhhfajaaaGreatDoor
noncomputable def fmtO (ts : List Nd) : List UInt8 × Int := if valN ts = 0 then (fmtE ts, 0) else ([], valN ts)
theorem cstP_lv (v : V) : (cstP v).lv ≤ 8 := by
 unfold cstP
 by_cases h1 : v.k = 1
 ·rw [if_pos h1]; show (8 : Int) ≤ 8; decide
 rw [if_neg h1]
 by_cases h2 : v.k = 2
 ·rw [if_pos h2]
  by_cases h3 : v.n < 0
  ·rw [if_pos h3]; show (7 : Int) ≤ 8; decide
  ·rw [if_neg h3]; show (8 : Int) ≤ 8; decide
 rw [if_neg h2]
 by_cases h3 : v.k = 3
 ·rw [if_pos h3]; show (8 : Int) ≤ 8; decide
 rw [if_neg h3]
 by_cases h4 : v.k = 4
 ·rw [if_pos h4]; show (8 : Int) ≤ 8; decide
 ·rw [if_neg h4]; decide
theorem binP_lv (op : Int) : (binP op).2.1 ≤ 8 := by
 unfold binP
 repeat' split
 all_goals decide
theorem nodP_lv {t : Nd} {xs : List Pc} : (nodP t xs).lv ≤ 8 := by
 unfold nodP
 by_cases h0 : t.op = 0
 ·rw [if_pos h0]; exact cstP_lv _
 rw [if_neg h0]
 by_cases h1 : t.op = 1
 ·rw [if_pos h1]; show (8 : Int) ≤ 8; decide
 rw [if_neg h1]
 by_cases h2 : t.op = 2
 ·rw [if_pos h2]; show (2 : Int) ≤ 8; decide
 rw [if_neg h2]
 by_cases h3 : t.op = 3
 ·rw [if_pos h3]; show (7 : Int) ≤ 8; decide
 rw [if_neg h3]
 by_cases hb : 4 ≤ t.op ∧ t.op ≤ 15
 ·rw [if_pos hb]; exact binP_lv _
 ·rw [if_neg hb]; show (8 : Int) ≤ 8; decide
structure FmI (ts : List Nd) (k : Nat) (st : List Pc) : Prop where
 len : st.length ≤ k
 tot : totP st ≤ 200 * k
 lv : ∀ x ∈ st, x.lv ≤ 8
 val : ∃ hs : List Int, hs.length = st.length ∧ valS (ts.drop k) hs = 0
 fm : fmtS (ts.drop k) st = fmtS ts []
theorem FmI.zero {ts : List Nd} (h : valS ts [] = 0) : FmI ts 0 [] := ⟨Nat.le_refl _, by unfold totP; simp, by simp, ⟨[], rfl, by simpa using h⟩, by simp⟩
theorem FmI.end {ts : List Nd} {st : List Pc} (h : FmI ts ts.length st) : ∃ x, st = [x] ∧ fmtE ts = x.tx ∧ x.tx.length ≤ 200 * ts.length := by
 obtain ⟨hs, h1, h2⟩ := h.val
 rw [List.drop_of_length_le (Nat.le_refl _)] at h2
 have h3 := valS_end h2
 obtain ⟨x, rfl⟩ : ∃ x, st = [x] := List.length_eq_one_iff.1 (by omega)
 have hf := h.fm
 rw [List.drop_of_length_le (Nat.le_refl _)] at hf
 refine ⟨x, rfl, ?_, ?_⟩
 ·unfold fmtE
  rw [← hf]
  rfl
 ·exact Nat.le_trans (totP_mem (List.mem_singleton.2 rfl)) h.tot
theorem FmI.next {ts : List Nd} {k : Nat} {st : List Pc} (h : FmI ts k st) {t : Nd} (ht : ts[k]? = some t) :
  nodB t = true ∧ ∃ n p : Nat, arN t = (p : Int) ∧ p ≤ 8 ∧ st.length = n + p ∧ FmI ts (k + 1) (st.take n ++ [nodP t (st.drop n)]) := by
 have hdr : ts.drop k = t :: ts.drop (k + 1) := by
  obtain ⟨hk2, rfl⟩ := List.getElem?_eq_some_iff.1 ht
  exact List.drop_eq_getElem_cons hk2
 obtain ⟨hs, h1, h2⟩ := h.val
 rw [hdr] at h2
 obtain ⟨hn, p, hp, hpl, hp8, _, hv⟩ := valS_step h2
 have hf := h.fm
 rw [hdr] at hf
 have htl : (arN t).toNat = p := by omega
 have e : st.length = (st.length - p) + p := by omega
 rw [fmtS, htl] at hf
 refine ⟨hn, st.length - p, p, hp, hp8, e, ?_, ?_, ?_, ⟨_, ?_, hv⟩, hf⟩
 ·rw [List.length_append, List.length_take]
  have := h.len
  simp only [List.length_cons, List.length_nil]
  omega
 ·have hl := nodP_len hn (xs := st.drop (st.length - p)) (by rw [List.length_drop]; omega)
  have ht2 : totP st = totP (st.take (st.length - p)) + totP (st.drop (st.length - p)) := by
   rw [← totP_app, List.take_append_drop]
  have hto := h.tot
  rw [totP_app]
  have : totP [nodP t (st.drop (st.length - p))] = (nodP t (st.drop (st.length - p))).tx.length := by unfold totP; simp
  omega
 ·intro x hx
  rcases List.mem_append.1 hx with hx | hx
  ·exact h.lv x (List.mem_of_mem_take hx)
  ·rw [List.mem_singleton] at hx
   subst hx
   exact nodP_lv
 ·simp only [List.length_append, List.length_take, List.length_cons, List.length_nil]
  omega
end Wh
namespace Go.Proofs.YtmdpjahhhfajaaaGreatDoor
open Go.RowKit Go.Joins Wh
theorem under_pcs : Tryz.prog.underlying 74 = some (.slice (Tryz.prog.elem 74)) := by simp [Program.elem, Tryz.underlying74]
theorem elem_pcs : Tryz.prog.elem 74 = 76 := by simp [Program.elem, Tryz.underlying74]
theorem size_pc (W : World) : (sizeOf 76).run Tryz.prog W = .ok 3 W := by
 obtain ⟨i0, hi, _, h1, _⟩ := info_parts info_pc
 simp [sizeOf, typeInfo, hi, h1]
theorem slice_to_pcs (a : Option Addr) (len cap k : Nat) (ki : Int) (hki : ki = (k : Int)) (hk : k ≤ cap) (hm : cap ≤ maxLen) (hn : a = none → cap = 0) (hs : ∀ x, a = some x → x.spot = none) (W : World) :
  (Instr.slice 74 (.slice a len cap) none (some (.int .i64 ki)) none).run Tryz.prog W = .ok (.slice a k cap) W := by
 subst hki
 rw [run_slice_h W _ _ _ _ under_pcs .i64 _ (by omega) (by omega), elem_pcs, size_pc]
 by_cases hc : cap = 0
 ·simp [Result.andThen, sliced, hc]
 ·cases a with
  | none => exact absurd (hn rfl) hc
  | some x =>
   obtain ⟨b, off, spot⟩ := x
   have := hs _ rfl
   simp only at this
   subst this
   have hadd : (⟨b, off, none⟩ : Addr).add 0 = ⟨b, off, none⟩ := by unfold Addr.add; split <;> simp_all
   simp [Result.andThen, sliced, hc, hadd]
theorem slice_from_pcs {w : World} {a : Option Addr} {len cap : Nat} {es : List Pc} (k : Nat) (ki : Int) (hki : ki = (k : Int)) (h : IsPcs w a len es) (hk : k ≤ len) (hc : len ≤ cap) (hm : cap ≤ maxLen) (hn : a = none → cap = 0) (hs : ∀ x, a = some x → x.spot = none) :
  ∃ (a2 : Option Addr) (c2 : Nat), (∀ W, (Instr.slice 74 (.slice a len cap) (some (.int .i64 ki)) none none).run Tryz.prog W = .ok (.slice a2 (len - k) c2) W) ∧ IsPcs w a2 (len - k) (es.drop k) := by
 subst hki
 have hr : ∀ W, (Instr.slice 74 (.slice a len cap) (some (.int .i64 (k : Int))) none none).run Tryz.prog W = .ok (sliced a k len cap 3) W := by
  intro W
  rw [run_slice_l W _ _ _ _ under_pcs .i64 _ (by omega) (by omega), elem_pcs, size_pc]
  simp [Result.andThen]
 by_cases hcap : cap = k
 ·refine ⟨a, cap - k, ?_, ?_⟩
  ·intro W
   rw [hr]
   simp [sliced, hcap]
  ·exact ⟨by rw [List.length_drop, h.1], .inl (by apply List.drop_of_length_le; have := h.1; omega)⟩
 ·cases a with
  | none => exact absurd (hn rfl) (by omega)
  | some x =>
   obtain ⟨b, off, spot⟩ := x
   have hsp := hs _ rfl
   simp only at hsp
   subst hsp
   have hadd : (⟨b, off, none⟩ : Addr).add (k * 3) = ⟨b, off + k * 3, none⟩ := by unfold Addr.add; split <;> simp_all
   refine ⟨some ⟨b, off + k * 3, none⟩, cap - k, ?_, ⟨by rw [List.length_drop, h.1], ?_⟩⟩
   ·intro W
    rw [hr]
    simp [sliced, hcap] at hadd ⊢
    exact hadd
   ·rcases h.2 with h2 | ⟨b2, off2, hx, hlt, hcell⟩
    ·exact .inl (by rw [h2]; simp)
    ·cases hx
     refine .inr ⟨b, off + k * 3, rfl, hlt, fun i z hz => ?_⟩
     rw [List.getElem?_drop] at hz
     have := hcell (k + i) z hz
     rw [show off + k * 3 + i * 3 = off + (k + i) * 3 by omega]
     exact this
theorem keepFm {w0 w1 w2 : World} {B base : Nat} {op vk vn ar : Int} {vs nm : ByteArray} (h0 : B < w1.heap.size ∧ base ≤ w1.heap.size) (h : w1.cell? ⟨B, 0, none⟩ = some (.int .i64 op) ∧ w1.cell? ⟨B, 1, none⟩ = some (.int .i64 vk) ∧ w1.cell? ⟨B, 2, none⟩ = some (.int .i64 vn) ∧ w1.cell? ⟨B, 3, none⟩ = some (.string vs) ∧ w1.cell? ⟨B, 4, none⟩ = some (.string nm) ∧ w1.cell? ⟨B, 5, none⟩ = some (.int .i64 ar) ∧ Below base w0 w1) (hb : Below w1.heap.size w1 w2) : w2.cell? ⟨B, 0, none⟩ = some (.int .i64 op) ∧ w2.cell? ⟨B, 1, none⟩ = some (.int .i64 vk) ∧ w2.cell? ⟨B, 2, none⟩ = some (.int .i64 vn) ∧ w2.cell? ⟨B, 3, none⟩ = some (.string vs) ∧ w2.cell? ⟨B, 4, none⟩ = some (.string nm) ∧ w2.cell? ⟨B, 5, none⟩ = some (.int .i64 ar) ∧ Below base w0 w2 := by
 obtain ⟨a0, a1, a2, a3, a4, a5, hB⟩ := h
 have e : ∀ o, w2.cell? ⟨B, o, none⟩ = w1.cell? ⟨B, o, none⟩ := fun o => hb.cell (p := ⟨B, o, none⟩) h0.1
 exact ⟨(e _).trans a0, (e _).trans a1, (e _).trans a2, (e _).trans a3, (e _).trans a4, (e _).trans a5, hB.trans (hb.mono h0.2)⟩
theorem keepFmG {w0 w1 w2 : World} {B base : Nat} {op vk vn ar : Int} {vs nm : ByteArray} {row : Option Nat} (h0 : B < w1.heap.size ∧ base ≤ w1.heap.size) (h : w1.cell? ⟨B, 0, none⟩ = some (.int .i64 op) ∧ w1.cell? ⟨B, 1, none⟩ = some (.int .i64 vk) ∧ w1.cell? ⟨B, 2, none⟩ = some (.int .i64 vn) ∧ w1.cell? ⟨B, 3, none⟩ = some (.string vs) ∧ w1.cell? ⟨B, 4, none⟩ = some (.string nm) ∧ w1.cell? ⟨B, 5, none⟩ = some (.int .i64 ar) ∧ Below base w0 w1) (hg : w1.grownBy w2 row) (hr : some B ≠ row ∧ ∀ j, row = some j → base ≤ j) : w2.cell? ⟨B, 0, none⟩ = some (.int .i64 op) ∧ w2.cell? ⟨B, 1, none⟩ = some (.int .i64 vk) ∧ w2.cell? ⟨B, 2, none⟩ = some (.int .i64 vn) ∧ w2.cell? ⟨B, 3, none⟩ = some (.string vs) ∧ w2.cell? ⟨B, 4, none⟩ = some (.string nm) ∧ w2.cell? ⟨B, 5, none⟩ = some (.int .i64 ar) ∧ Below base w0 w2 := by
 obtain ⟨a0, a1, a2, a3, a4, a5, hB⟩ := h
 have e : ∀ o, w2.cell? ⟨B, o, none⟩ = w1.cell? ⟨B, o, none⟩ := fun o => hg.cell_far ⟨B, o, none⟩ h0.1 hr.1
 exact ⟨(e _).trans a0, (e _).trans a1, (e _).trans a2, (e _).trans a3, (e _).trans a4, (e _).trans a5, hB.grown hg h0.2 hr.2⟩
set_option maxHeartbeats 16000000 in
theorem pformat_any (a : Option Addr) (len cap : Nat) (ts : List Nd) (w : World) (hs : IsNodes w a len ts) (hl : len ≤ 9223372036854775807) (hz : ∀ t ∈ ts, t.nm.size ≤ 9223372036854775800) (hg : Glx w) :
  Calls Tryz.prog 18 #[.slice a len cap] w (IsTxt (fmtO ts).1 (fmtO ts).2 w) := by
 have hln := hs.1
 have CV := Lib.hid (pvalidN_any a len cap ts w hg.tb hs hl hz)
 by_cases hE : valN ts = 0
 rotate_left
 ·have hEE : fmtO ts = ([], valN ts) := by unfold fmtO; rw [if_neg hE]
  rw [hEE]
  unfold IsTxt
  simp only
  have hEb := bne0 hE
  generalize valN ts = E at *
  clear hs hz hg hEE
  go_enter Tryz.func18, Tryz.ntmps18
  go_wp2_with fail
  refine CV.out.mono ?_
  rintro e w1 ⟨rfl, hb1⟩
  have HB1 := Lib.hid hb1
  clear hb1 CV
  go_wp2_with fail
  go_ret2
  exact ⟨rfl, HB1.out⟩
 obtain ⟨hl256, hv0⟩ := valN_zero hE
 have hEE : fmtO ts = (fmtE ts, 0) := by unfold fmtO; rw [if_pos hE]
 rw [hEE]
 rw [hE] at CV
 unfold IsTxt
 simp only
 obtain ⟨O, hO⟩ : ∃ O : ByteArray, (⟨(fmtE ts).toArray⟩ : ByteArray) = O := ⟨_, rfl⟩
 rw [hO]
 have HO := Lib.hid hO
 have HS := Lib.hid hs
 have HG := Lib.hid hg
 have HF0 := Lib.hid (FmI.zero hv0)
 obtain ⟨i0, hi, hz0, hz1, hz2⟩ := info_parts info_pc
 have CA := Lib.hid (fun t W => parity_any t W)
 have CW := Lib.hid (fun t (hnod : nodB t = true) a len cap xs W hs hln htot hlv hg => pwrite8_any t hnod a len cap xs W hs hln htot hlv hg)
 have CF := Lib.hid (fun s W h => pfit_any s W h)
 unfold ndV at CA CW
 unfold pcV at CW
 clear hs hz hg hEE hE hO hv0
 go_enter Tryz.func18, Tryz.ntmps18
 go_wp2_with fail
 refine CV.out.mono ?_
 rintro e w1 ⟨rfl, hb1⟩
 have HB1 := Lib.hid hb1
 clear hb1 CV
 go_wp2_with fail
 go_loopw [5, 16] (fun sv iv wr => ∃ (k : Nat) (st : List Pc), k ≤ len ∧ iv = .int .i64 k ∧ wr.ownsRow w.heap.size 76 3 sv st.length (pcsL st) ∧ Hid (FmI ts k st) ∧ Hid (Below w.heap.size w wr)) (fun _ iv _ => len - (intOf iv).toNat)
 case atStart => exact ⟨0, [], Nat.zero_le _, rfl, World.ownsRow_nil _ _ _ _, HF0, HB1⟩
 case round =>
  obtain ⟨k, st, hk, rfl, hown, HI, HBEL⟩ := hrel
  have hszr := HBEL.out.size
  by_cases hlt : k < len
  ·obtain ⟨t, tb, toff, ht, rfl, htl, hat⟩ := (HS.out.below HBEL.out (Nat.le_refl _)).at hlt
   obtain ⟨hnod, n, p, hp, hp8, hst, hnx⟩ := HI.out.next ht
   have hstk := HI.out.len
   have htot := HI.out.tot
   have hlv := HI.out.lv
   obtain ⟨sa, sc, rfl, hpi, hscl, hscm, hsn, hsx⟩ := own_pcs hown rfl
   have hsp : ∀ x, sa = some x → x.spot = none := fun x hx => by obtain ⟨g, rfl, _⟩ := hsx x hx; rfl
   have CA1 := Lib.hid (CA.out t)
   rw [hp] at CA1
   rw [hst] at hpi hscl hown
   have hni : ((n + p : Nat) : Int) - (p : Int) = (n : Int) := by omega
   obtain ⟨a2, c2, hsl2, hp2⟩ := slice_from_pcs n (n : Int) rfl hpi (by omega) hscl hscm hsn hsp
   rw [show n + p - n = p by omega] at hsl2 hp2
   have hslt := slice_to_pcs sa (n + p) sc n (n : Int) rfl (by omega) hscm hsn hsp
   have htd : totP (st.drop n) ≤ 900000 := by
    have : totP st = totP (st.take n) + totP (st.drop n) := by rw [← totP_app, List.take_append_drop]
    omega
   have CW1 := Lib.hid (fun W (hb : Below wr.heap.size wr W) => CW.out t hnod a2 p c2 (st.drop n) W (hp2.below hb (Nat.le_refl _)) hp.symm htd (fun x hx => hlv x (List.mem_of_mem_drop hx)) (HG.out.below (HBEL.out.trans (hb.mono hszr)) (Nat.le_refl _)))
   obtain ⟨N, hN⟩ : ∃ N, nodP t (st.drop n) = N := ⟨_, rfl⟩
   rw [hN] at CW1 hnx
   have HNX := Lib.hid hnx
   have hcells : Hid ((pcsL st).take (n * 3) ++ [.string ⟨N.tx.toArray⟩, .int .i64 N.lv, .bool N.ig] = pcsL (st.take n ++ [N])) := by
    show _ = _
    rw [pcsL_take, pcsL_push]
   have hslen : Hid ((st.take n ++ [N]).length = n + 1) := by show _ = _; rw [List.length_append, List.length_take]; simp; omega
   have HOWN := Lib.hid hown
   obtain ⟨c0, c1, c2', c3, c4, c5⟩ := hat
   obtain ⟨op, ⟨vk, vn, vs⟩, nm, ar⟩ := t
   simp only at CA1 CW1 c0 c1 c2' c3 c4 c5
   obtain ⟨nt, nl, ni⟩ := N
   simp only at CW1 hcells
   generalize (⟨nt.toArray⟩ : ByteArray) = no at *
   have hB1 : Below wr.heap.size wr (wr.alloc (.cells #[.int .i64 op, .int .i64 vk, .int .i64 vn, .string vs, .string nm, .int .i64 ar] 53)) := (Below.refl _ _).alloc (Nat.le_refl _) _
   obtain ⟨d0, d1, d2, d3, d4, d5⟩ := box6 (Below.refl (wr.alloc (.cells #[.int .i64 op, .int .i64 vk, .int .i64 vn, .string vs, .string nm, .int .i64 ar] 53)).heap.size (wr.alloc (.cells #[.int .i64 op, .int .i64 vk, .int .i64 vn, .string vs, .string nm, .int .i64 ar] 53)))
   have hki : (k : Int) < (len : Int) := by omega
   clear hpi hown hp2 hnod hp hnx hN htot hlv htd hsn hsp ht CA
   rw [hst]
   go_wp2_with fail
   refine (CA1.out _).mono ?_
   rintro e w2 ⟨rfl, hb2⟩
   obtain ⟨e0, e1, e2, e3, e4, e5⟩ := box6 hb2
   have hB2 := below_box hb2
   have hs2 := hb2.size
   simp only [World.size_alloc] at hs2
   have HB2 := Lib.hid hB2
   have hown2 := (own_below HOWN.out hB2)
   have hownD := own_take hown2.drew (k := n) (by omega)
   have hfar : Hid (∀ z, (Value.slice sa n sc).ownBlock = some z → w.heap.size ≤ z ∧ z < wr.heap.size) := fun z hz => HOWN.out.lt z (by cases sa <;> simp [Value.ownBlock] at hz ⊢; exact hz)
   have HOWND := Lib.hid hownD
   clear hb2 hB2 hown2 c0 c1 c2' c3 c4 c5 d0 d1 d2 d3 d4 d5 hB1 CA1 hownD
   obtain ⟨B, hBB⟩ : ∃ B, wr.heap.size = B := ⟨_, rfl⟩
   obtain ⟨base, hbase⟩ : ∃ base, w.heap.size = base := ⟨_, rfl⟩
   rw [hBB] at e0 e1 e2 e3 e4 e5 hs2 hfar hszr
   rw [hbase] at hszr hfar HOWND
   have hS : Hid (w2.drew.cell? ⟨B, 0, none⟩ = some (.int .i64 op) ∧ w2.drew.cell? ⟨B, 1, none⟩ = some (.int .i64 vk) ∧ w2.drew.cell? ⟨B, 2, none⟩ = some (.int .i64 vn) ∧ w2.drew.cell? ⟨B, 3, none⟩ = some (.string vs) ∧ w2.drew.cell? ⟨B, 4, none⟩ = some (.string nm) ∧ w2.drew.cell? ⟨B, 5, none⟩ = some (.int .i64 ar) ∧ Below base w w2.drew) := ⟨e0, e1, e2, e3, e4, e5, by rw [← hbase]; exact (HBEL.out.trans (HB2.out.mono (by omega))).drew⟩
   have hsz : B < w2.drew.heap.size ∧ base ≤ w2.drew.heap.size := by show B < w2.heap.size ∧ base ≤ w2.heap.size; omega
   have hbD : Below B wr w2.drew := by rw [← hBB]; exact HB2.out.drew
   have CW2 := Lib.hid (fun W (hb : Below B wr W) => CW1.out W (by rw [hBB]; exact hb))
   clear CW1 e0 e1 e2 e3 e4 e5
   go_wp2_with fail
   have hS0 := hS.out
   clear hS
   have hrow : some B ≠ (Value.slice sa n sc).ownBlock ∧ ∀ j, (Value.slice sa n sc).ownBlock = some j → base ≤ j := ⟨fun h => by have := hfar.out B h.symm; omega, fun j h => (hfar.out j h).1⟩
   go_region_held3 (fun w' => w'.cell? ⟨B, 0, none⟩ = some (.int .i64 op) ∧ w'.cell? ⟨B, 1, none⟩ = some (.int .i64 vk) ∧ w'.cell? ⟨B, 2, none⟩ = some (.int .i64 vn) ∧ w'.cell? ⟨B, 3, none⟩ = some (.string vs) ∧ w'.cell? ⟨B, 4, none⟩ = some (.string nm) ∧ w'.cell? ⟨B, 5, none⟩ = some (.int .i64 ar) ∧ Below base w w')
    (first | with_reducible exact hS0 | exact keepFm (by assumption) (by assumption) hcall | exact keepFm (by assumption) (by assumption) ((Below.refl _ _).alloc (Nat.le_refl _) _) | exact keepFmG (by assumption) (by assumption) hgrow9 hrow)
    (first
     | (go_at_call 36; refine (CW2.out _ hbD).mono ?_; rintro e w4 ⟨rfl, hcall⟩; have hs4 := hcall.size; have hsz4 : B < w4.heap.size ∧ base ≤ w4.heap.size := ⟨by omega, by omega⟩; have hszE : B < (w4.alloc (.cells #[.string no, .int .i64 nl, .bool ni] 76)).heap.size ∧ base ≤ (w4.alloc (.cells #[.string no, .int .i64 nl, .bool ni] 76)).heap.size := ⟨by simp only [World.size_alloc]; omega, by simp only [World.size_alloc]; omega⟩; have hownE := (own_below HOWND.out hcall).alloc (.cells #[.string no, .int .i64 nl, .bool ni] 76); have hnew := World.news_of_block (cs := #[.string no, .int .i64 nl, .bool ni]) (t := 76) (fr := (0, 0)) (heap_alloc_new w4 (.cells #[.string no, .int .i64 nl, .bool ni] 76)))
     | (refine step_append_lies _ (by rfl) (.tmp 27) (.tmp 33) _ (by rfl) base 76 i0 _ 3 32 Tryz.underlying74 hi hz0 hz1 hz2 rfl (by omega) _ _ _ (by rfl) hownE ⟨w4.heap.size, 0, none⟩ 1 1 [.string no, .int .i64 nl, .bool ni] (by rfl) (by rfl) hnew (by simp [Value.oneCell']) (by omega) (by unfold maxLen; omega) (by omega) hszE.2 (w4.heap.size + 1) (by simp) ?_; intro gg cc w9 hown9 hgrow9 hat9 hlt9))
   all_goals
    obtain ⟨_, _, _, _, _, _, hB9⟩ := ‹_ ∧ _ ∧ _ ∧ _ ∧ _ ∧ _ ∧ Below _ _ _›
    have hown9b := hown9
    rw [hcells.out] at hown9b
    have HB9 : Hid (Below w.heap.size w w9) := by rw [hbase]; exact hB9
    have HOWN9 : Hid (w9.ownsRow w.heap.size 76 3 (.slice (some ⟨gg, 0, none⟩) (n + 1) cc) (st.take n ++ [(⟨nt, nl, ni⟩ : Pc)]).length (pcsL (st.take n ++ [(⟨nt, nl, ni⟩ : Pc)]))) := by rw [hslen.out, hbase]; exact hown9b
    clear hown9 hown9b hB9 hS0
    go_wp2_with fail
    go_roundw
    case rel => exact ⟨k + 1, _, by omega, by go_num, HOWN9.out, HNX, HB9⟩
    case measure => simp [intOf]; omega
  ·obtain rfl : k = len := by omega
   have hI := HI.out
   rw [← hln] at hI
   obtain ⟨x, rfl, hf, hxl⟩ := hI.end
   obtain ⟨sa, sc, rfl, hpi, hscl, hscm, hsn, hsx⟩ := own_pcs hown rfl
   obtain ⟨y, b, off, hy, rfl, hbl, c0, c1, c2⟩ := hpi.at (k := 0) (by simp)
   simp only [List.getElem?_cons_zero, Option.some.injEq] at hy
   subst hy
   simp only [Nat.zero_mul, Nat.add_zero, List.length_cons, List.length_nil] at c0
   have hO : O = ⟨x.tx.toArray⟩ := by rw [← HO.out, hf]
   have CF1 := Lib.hid (CF.out ⟨x.tx.toArray⟩ wr (by rw [size_mk]; omega))
   rw [if_neg (by rw [size_mk]; omega), if_neg (by rw [size_mk]; omega), ← hO] at CF1
   rw [← hO] at c0
   have hki : ¬ (k : Int) < (k : Int) := by omega
   clear hpi hf hO HO c1 c2 CW CA hI HI hsx hsn hown
   go_wp2_with fail
   refine CF1.out.mono ?_
   rintro e w5 ⟨rfl, rfl⟩
   go_wp2_with fail
   go_ret2
   exact ⟨rfl, HBEL.out⟩
end Go.Proofs.YtmdpjahhhfajaaaGreatDoor
namespace Go.Proofs.YtmdpjahhhfajaaaGreatDoor
open Go.RowKit Wh
end Go.Proofs.YtmdpjahhhfajaaaGreatDoor
namespace Wh
open Go Go.Proofs.YtmdpjahhhfajaaaGreatDoor
def kn1 : ByteArray := ⟨#[97, 32, 62, 32, 98, 32, 43, 32, 49]⟩
def kn2 : ByteArray := ⟨#[97, 32, 61, 32, 98, 32, 61, 32, 99]⟩
theorem dec1 : Lib.decDigits 1 = [49] := by rw [decDigits_step]; rfl
theorem kn1_par : (parO kn1).1.length = 5 ∧ (parO kn1).2 = (0, 0) := by decide +kernel
theorem kn1_nodes : (parO kn1).1 = [⟨1, ⟨0, 0, ⟨#[]⟩⟩, ⟨#[98]⟩, 0⟩, cstN 2 1 ⟨#[]⟩, opNd 4, ⟨1, ⟨0, 0, ⟨#[]⟩⟩, ⟨#[97]⟩, 0⟩, opNd 12] := by kernel_rfl
theorem kn1_fmt : fmtO (parO kn1).1 = ([98, 32, 43, 32, 49, 32, 60, 32, 97], 0) := by
 rw [kn1_nodes]
 have hv : valN [⟨1, ⟨0, 0, ⟨#[]⟩⟩, ⟨#[98]⟩, 0⟩, cstN 2 1 ⟨#[]⟩, opNd 4, ⟨1, ⟨0, 0, ⟨#[]⟩⟩, ⟨#[97]⟩, 0⟩, opNd 12] = 0 := by decide +kernel
 unfold fmtO
 rw [if_pos hv]
 have hc : cstP ⟨2, 1, ⟨#[]⟩⟩ = ⟨[49], 8, true⟩ := by
  unfold cstP
  rw [if_neg (by decide), if_pos rfl, if_neg (by decide)]
  show (⟨Lib.decDigits 1, 8, true⟩ : Pc) = _
  rw [dec1]
 have e : ∀ x, nodP (cstN 2 1 ⟨#[]⟩) x = ⟨[49], 8, true⟩ := fun x => by unfold nodP; rw [if_pos rfl]; exact hc
 have hf : fmtE [⟨1, ⟨0, 0, ⟨#[]⟩⟩, ⟨#[98]⟩, 0⟩, cstN 2 1 ⟨#[]⟩, opNd 4, ⟨1, ⟨0, 0, ⟨#[]⟩⟩, ⟨#[97]⟩, 0⟩, opNd 12] = [98, 32, 43, 32, 49, 32, 60, 32, 97] := by
  unfold fmtE
  rw [fmtS, fmtS, e]
  rfl
 rw [hf]
theorem kn2_par : (parO kn2).2 = (6, 3) := by decide +kernel
end Wh
namespace Go.Proofs.YtmdpjahhhfajaaaGreatDoor
open Go.RowKit Wh
set_option maxHeartbeats 4000000 in
theorem known8_any (w : World) (hg : Glx w) : Calls Tryz.prog 8 #[] w fun e w' => e = .returned (.bool true) ∧ Below w.heap.size w w' := by
 have C1 := Lib.hid (pparse8_any kn1 w (by decide) hg)
 have C3 := Lib.hid (fun W (hb : Below w.heap.size w W) => pparse8_any kn2 W (by decide) (hg.below hb (Nat.le_refl _)))
 have hl := kn1_par.1
 have hn : ∀ t ∈ (parO kn1).1, t.nm.size ≤ 9223372036854775800 := by
  rw [kn1_nodes]
  intro t ht
  simp only [List.mem_cons, List.mem_nil_iff, or_false] at ht
  rcases ht with rfl | rfl | rfl | rfl | rfl <;> decide
 have CF := Lib.hid (fun a cap W (hs : IsNodes W a (parO kn1).1.length (parO kn1).1) (hb : Below w.heap.size w W) => pformat_any a _ cap (parO kn1).1 W hs (by rw [hl]; decide) hn (hg.below hb (Nat.le_refl _)))
 rw [kn1_fmt] at CF
 unfold IsTxt at CF
 unfold PatP at C1 C3
 rw [kn1_par.2] at C1
 rw [kn2_par] at C3
 rw [hl] at CF C1
 unfold kn1 at C1 CF hl
 unfold kn2 at C3
 clear hn hg
 generalize (parO ⟨#[97, 32, 62, 32, 98, 32, 43, 32, 49]⟩).1 = L1 at *
 go_enter Tryz.func8, Tryz.ntmps8
 go_wp2_with fail
 refine C1.out.mono ?_
 rintro e w1 ⟨v, rfl, hown, hb1⟩
 have HOW := Lib.hid hown
 have HB1 := Lib.hid hb1
 clear hown hb1 C1
 obtain ⟨a, c, rfl, q, _, _, _, _⟩ := own_nodes HOW.out hl
 have CF1 := Lib.hid (CF.out a c w1 q HB1.out)
 clear CF q
 go_wp2_with fail
 refine CF1.out.mono ?_
 rintro e w2 ⟨rfl, hb2⟩
 have HB2 := Lib.hid (HB1.out.trans (hb2.mono HB1.out.size))
 have C32 := Lib.hid (C3.out w2 HB2.out)
 clear hb2 CF1 C3
 go_wp2_with fail
 refine C32.out.mono ?_
 rintro e w3 ⟨v3, rfl, hown3, hb3⟩
 have HB3 := Lib.hid (HB2.out.trans (hb3.mono HB2.out.size))
 clear hown3 hb3 C32
 go_wp2_with fail
 go_ret
 exact ⟨rfl, HB3.out⟩
end Go.Proofs.YtmdpjahhhfajaaaGreatDoor
namespace Wh
open Go
theorem and_nat (x : Int) (m : Nat) (hm : m < 9223372036854775808) : bits .and .i64 x (m : Int) = (((x % 18446744073709551616).toNat &&& m : Nat) : Int) := by
 have h1 : (BitVec.ofInt 64 x).toNat = (x % 18446744073709551616).toNat := by
  rw [BitVec.toNat_ofInt]
  rfl
 have h2 : (BitVec.ofInt 64 (m : Int)).toNat = m := by
  rw [BitVec.ofInt_natCast, BitVec.toNat_ofNat]
  exact Nat.mod_eq_of_lt (by omega)
 have h3 : (x % 18446744073709551616).toNat &&& m ≤ m := Nat.and_le_right
 show IntKind.i64.wrap ((BitVec.ofInt 64 x &&& BitVec.ofInt 64 (m : Int)).toNat : Int) = _
 rw [BitVec.toNat_and, h1, h2, IntKind.wrap_i64]
 omega
theorem and_mask (x : Int) (k m : Nat) (hm : m = 2 ^ k - 1) (hk : k ≤ 32) : bits .and .i64 x (m : Int) = (x % 18446744073709551616) % ((2 ^ k : Nat) : Int) := by
 have hp : 2 ^ k ≤ 2 ^ 32 := Nat.pow_le_pow_right (by omega) hk
 have h := and_nat x m (by omega)
 rw [hm, Nat.and_two_pow_sub_one_eq_mod] at h
 rw [hm, h, Int.natCast_emod, Int.toNat_of_nonneg (by omega)]
theorem and_1 (x : Int) : bits .and .i64 x 1 = x % 2 := by
 have h := and_mask x 1 1 rfl (by omega)
 simp only [Nat.reducePow] at h
 rw [show ((1 : Nat) : Int) = 1 from rfl] at h
 omega
theorem and_3 (x : Int) : bits .and .i64 x 3 = x % 4 := by
 have h := and_mask x 2 3 rfl (by omega)
 rw [show ((3 : Nat) : Int) = 3 from rfl] at h
 omega
theorem and_15 (x : Int) : bits .and .i64 x 15 = x % 16 := by
 have h := and_mask x 4 15 rfl (by omega)
 rw [show ((15 : Nat) : Int) = 15 from rfl] at h
 omega
theorem and_31 (x : Int) : bits .and .i64 x 31 = x % 32 := by
 have h := and_mask x 5 31 rfl (by omega)
 rw [show ((31 : Nat) : Int) = 31 from rfl] at h
 omega
theorem and_65535 (x : Int) : bits .and .i64 x 65535 = x % 65536 := by
 have h := and_mask x 16 65535 rfl (by omega)
 rw [show ((65535 : Nat) : Int) = 65535 from rfl] at h
 omega
end Wh
namespace Wh
def momentZ (n : Int) : Int :=
 if n % 65536 / 256 % 16 = 0 then [0, 1, 575999999, 575999998, 1439, 1440].getD (n % 65536 % 6).toNat 0
 else 144000 + n % 65536 / 8 % 4 * 1440 + n % 65536 % 7 * 200 + n % 65536 / 32 % 2 * 1439 - 600
theorem momentZ_bounds (n : Int) : 0 ≤ momentZ n ∧ momentZ n ≤ 575999999 := by
 unfold momentZ
 split
 ·generalize hj : (n % 65536 % 6).toNat = j
  have hj6 : j < 6 := by omega
  match j, hj6 with
  | 0, _ => decide
  | 1, _ => decide
  | 2, _ => decide
  | 3, _ => decide
  | 4, _ => decide
  | 5, _ => decide
 ·omega
end Wh
namespace Go.Proofs.YtmdpjahhhfajaaaGreatDoor
open Go.RowKit Wh
theorem pick6 (a b c d e f : Int) (j : Nat) (h : j < 6) :
  [Value.int .i64 a, Value.int .i64 b, Value.int .i64 c, Value.int .i64 d, Value.int .i64 e, Value.int .i64 f][j]? = some (.int .i64 ([a, b, c, d, e, f].getD j 0)) := by
 match j, h with
 | 0, _ => rfl
 | 1, _ => rfl
 | 2, _ => rfl
 | 3, _ => rfl
 | 4, _ => rfl
 | 5, _ => rfl
theorem moment_any (n : Int) (w : World) :
  Calls Tryz.prog 109 #[.int .i64 n] w fun e w' => e = .returned (.int .i64 (momentZ n)) ∧ Below w.heap.size w w' := by
 have b1 := and_65535
 have b2 := and_15
 have b3 := and_3
 have b4 := and_1
 have h0 : 0 ≤ n % 65536 := by omega
 have h1 : n % 65536 < 65536 := by omega
 by_cases hz : n % 65536 / 256 % 16 = 0
 ·have hb : (n % 65536 / 256 % 16 == 0) = true := by rw [hz]; rfl
  have hm : momentZ n = [0, 1, 575999999, 575999998, 1439, 1440].getD (n % 65536 % 6).toNat 0 := by unfold momentZ; rw [if_pos hz]
  have hp := pick6 0 1 575999999 575999998 1439 1440 (n % 65536 % 6).toNat (by omega)
  rw [← hm] at hp
  clear hm hz
  go_enter Tryz.func109, Tryz.ntmps109
  go_wp2_with fail
  go_ret
  exact ⟨rfl, (Below.refl _ _).alloc (Nat.le_refl _) _⟩
 ·have hb : (n % 65536 / 256 % 16 == 0) = false := by simpa using hz
  have hm : momentZ n = 144000 + n % 65536 / 8 % 4 * 1440 + n % 65536 % 7 * 200 + n % 65536 / 32 % 2 * 1439 - 600 := by unfold momentZ; rw [if_neg hz]
  have HM := Lib.hid hm
  clear hm hz
  go_enter Tryz.func109, Tryz.ntmps109
  go_wp2_with fail
  go_ret
  exact ⟨by rw [HM.out]; rfl, Below.refl _ _⟩
end Go.Proofs.YtmdpjahhhfajaaaGreatDoor
namespace Wh
open Go
def intZ (n : Int) : Int :=
 if n % 65536 / 256 % 32 = 0 then 1073741824 - n % 65536 % 2 else if n % 65536 / 256 % 32 = 1 then n % 65536 % 4 - 1073741824 else n % 65536 % 7 - 2
def texts : List ByteArray := [⟨#[97]⟩, ⟨#[98]⟩, ⟨#[99]⟩, ⟨#[]⟩, ⟨#[105, 116, 39, 115]⟩, ⟨#[97, 32, 98]⟩]
def valueV (k n : Int) : V :=
 if k = 1 then ⟨1, n % 65536 % 2, ⟨#[]⟩⟩ else if k = 2 then ⟨2, intZ n, ⟨#[]⟩⟩ else if k = 3 then ⟨3, 0, texts.getD (n % 65536 % 6).toNat ⟨#[]⟩⟩ else if k = 4 then ⟨4, momentZ n, ⟨#[]⟩⟩ else ⟨0, 0, ⟨#[]⟩⟩
def anyV (n : Int) : V := valueV (n.tmod 5) (n.tdiv 5)
theorem valid_null : validB 0 0 ⟨#[]⟩ = true := by simp [validB, Lib.toList_data]
theorem valueV_valid (k n : Int) : validB (valueV k n).k (valueV k n).n (valueV k n).s = true := by
 unfold valueV
 split
 ·have : n % 2 = 0 ∨ n % 2 = 1 := by omega
  simpa [validB, Lib.toList_data] using this
 ·split
  ·have : -1073741824 ≤ intZ n ∧ intZ n ≤ 1073741824 := by unfold intZ; split <;> (try split) <;> omega
   simp [validB, Lib.toList_data, this.1, this.2]
  ·split
   ·generalize hj : (n % 65536 % 6).toNat = j
    have hj6 : j < 6 := by omega
    match j, hj6 with
    | 0, _ => decide
    | 1, _ => decide
    | 2, _ => decide
    | 3, _ => decide
    | 4, _ => decide
    | 5, _ => decide
   ·split
    ·have := momentZ_bounds n
     simp [validB, Lib.toList_data, this.1, this.2]
    ·exact valid_null
end Wh
namespace Go.Proofs.YtmdpjahhhfajaaaGreatDoor
open Go.RowKit Wh
theorem pickText (j : Nat) (h : j < 6) :
  [Value.string ⟨#[97]⟩, Value.string ⟨#[98]⟩, Value.string ⟨#[99]⟩, Value.string ⟨#[]⟩, Value.string ⟨#[105, 116, 39, 115]⟩, Value.string ⟨#[97, 32, 98]⟩][j]? = some (.string (texts.getD j ⟨#[]⟩)) := by
 match j, h with
 | 0, _ => rfl
 | 1, _ => rfl
 | 2, _ => rfl
 | 3, _ => rfl
 | 4, _ => rfl
 | 5, _ => rfl
theorem value_any (k n : Int) (w : World) :
  Calls Tryz.prog 73 #[.int .i64 k, .int .i64 n] w fun e w' => e = .returned (agg (valueV k n).k (valueV k n).n (valueV k n).s) ∧ Below w.heap.size w w' := by
 have b1 := and_65535
 have b2 := and_31
 have b3 := and_3
 have b4 := and_1
 have m0 : 0 ≤ n % 65536 := by omega
 have m1 : n % 65536 < 65536 := by omega
 by_cases h1 : k = 1
 ·subst h1
  have hv : valueV 1 n = ⟨1, n % 2, ⟨#[]⟩⟩ := by
   have e : n % 65536 % 2 = n % 2 := by omega
   simp [valueV, e]
  rw [hv]
  go_enter Tryz.func73, Tryz.ntmps73
  go_wp2_with fail
  exact bodyPost_ret (v := agg 1 (n % 2) ⟨#[]⟩) (by simp [results, Tryz.results73, go_sem]) rfl ⟨rfl, (Below.refl _ _).alloc (Nat.le_refl _) _⟩
 by_cases h2 : k = 2
 ·subst h2
  by_cases hz : n % 65536 / 256 % 32 = 0
  ·have hb : (n % 65536 / 256 % 32 == 0) = true := by rw [hz]; rfl
   have hv : valueV 2 n = ⟨2, 1073741824 - n % 2, ⟨#[]⟩⟩ := by
    have e : n % 65536 % 2 = n % 2 := by omega
    simp [valueV, intZ, hz, e]
   rw [hv]
   clear hz hv
   go_enter Tryz.func73, Tryz.ntmps73
   go_wp2_with fail
   exact bodyPost_ret (v := agg 2 (1073741824 - n % 2) ⟨#[]⟩) (by simp [results, Tryz.results73, go_sem]) rfl ⟨rfl, (Below.refl _ _).alloc (Nat.le_refl _) _⟩
  ·have hb : (n % 65536 / 256 % 32 == 0) = false := by simpa using hz
   by_cases ho : n % 65536 / 256 % 32 = 1
   ·have hb1 : (n % 65536 / 256 % 32 == 1) = true := by rw [ho]; rfl
    have hv : valueV 2 n = ⟨2, n % 4 - 1073741824, ⟨#[]⟩⟩ := by
     have e : n % 65536 % 4 = n % 4 := by omega
     simp [valueV, intZ, ho, e]
    rw [hv]
    clear hz ho hv
    go_enter Tryz.func73, Tryz.ntmps73
    go_wp2_with fail
    exact bodyPost_ret (v := agg 2 (n % 4 - 1073741824) ⟨#[]⟩) (by simp [results, Tryz.results73, go_sem]) rfl ⟨rfl, (Below.refl _ _).alloc (Nat.le_refl _) _⟩
   ·have hb1 : (n % 65536 / 256 % 32 == 1) = false := by simpa using ho
    have hv : valueV 2 n = ⟨2, n % 65536 % 7 - 2, ⟨#[]⟩⟩ := by simp [valueV, intZ, hz, ho]
    rw [hv]
    clear hz ho hv
    go_enter Tryz.func73, Tryz.ntmps73
    go_wp2_with fail
    exact bodyPost_ret (v := agg 2 (n % 65536 % 7 - 2) ⟨#[]⟩) (by simp [results, Tryz.results73, go_sem]) rfl ⟨rfl, (Below.refl _ _).alloc (Nat.le_refl _) _⟩
 by_cases h3 : k = 3
 ·subst h3
  have hp := pickText (n % 65536 % 6).toNat (by omega)
  have hv : valueV 3 n = ⟨3, 0, texts.getD (n % 65536 % 6).toNat ⟨#[]⟩⟩ := by simp [valueV]
  rw [hv]
  generalize texts.getD (n % 65536 % 6).toNat ⟨#[]⟩ = tx at hp ⊢
  clear hv
  go_enter Tryz.func73, Tryz.ntmps73
  go_wp2_with fail
  exact bodyPost_ret (v := agg 3 0 tx) (by simp [results, Tryz.results73, go_sem]) rfl ⟨rfl, ((Below.refl _ _).alloc (Nat.le_refl _) _).alloc (by simp) _⟩
 by_cases h4 : k = 4
 ·subst h4
  have hv : valueV 4 n = ⟨4, momentZ n, ⟨#[]⟩⟩ := by simp [valueV]
  have hmm : momentZ (n % 65536) = momentZ n := by unfold momentZ; rw [show n % 65536 % 65536 = n % 65536 from by omega]
  rw [hv, ← hmm]
  clear hv hmm
  go_enter Tryz.func73, Tryz.ntmps73
  go_wp2_with fail
  refine (moment_any _ _).mono ?_
  rintro e w1 ⟨rfl, hb1⟩
  obtain ⟨hc, hf⟩ := bcell hb1
  have hs : w.heap.size < w1.heap.size := by have := hb1.size; simp at this; omega
  go_wp2_with fail
  have hB : Below w.heap.size w w1 := ((Below.refl _ _).alloc (Nat.le_refl _) _).trans (hb1.mono (by simp))
  exact bodyPost_ret (v := agg 4 (momentZ (n % 65536)) ⟨#[]⟩) (by simp [results, Tryz.results73, go_sem, hc]) rfl ⟨rfl, ((hB.setCell (Nat.le_refl _) _).setCell (Nat.le_refl _) _).setCell (Nat.le_refl _) _⟩
 ·have hv : valueV k n = ⟨0, 0, ⟨#[]⟩⟩ := by simp [valueV, h1, h2, h3, h4]
  have c1 : (k == 1) = false := by simpa using h1
  have c2 : (k == 2) = false := by simpa using h2
  have c3 : (k == 3) = false := by simpa using h3
  have c4 : (k == 4) = false := by simpa using h4
  rw [hv]
  clear hv
  go_enter Tryz.func73, Tryz.ntmps73
  go_wp2_with fail
  exact bodyPost_ret (v := agg 0 0 ⟨#[]⟩) (by simp [results, Tryz.results73, go_sem]) rfl ⟨rfl, (Below.refl _ _).alloc (Nat.le_refl _) _⟩
theorem any_any (n : Int) (h0 : -9223372036854775808 ≤ n) (h1 : n ≤ 9223372036854775807) (w : World) :
  Calls Tryz.prog 38 #[.int .i64 n] w fun e w' => e = .returned (agg (anyV n).k (anyV n).n (anyV n).s) ∧ Below w.heap.size w w' := by
 have hq : wrap64 (n.tdiv 5) = n.tdiv 5 := IntWalk.wrap64_in _ (by
  have hs : Int.sign 5 = 1 := rfl
  rw [Int.tdiv_eq_ediv, hs]
  split <;> omega)
 go_enter Tryz.func38, Tryz.ntmps38
 go_wp2_with fail
 refine (value_any _ _ _).mono ?_
 rintro e w1 ⟨rfl, hb1⟩
 obtain ⟨hc, hf⟩ := bcell hb1
 have hs : w.heap.size < w1.heap.size := by have := hb1.size; simp at this; omega
 go_wp2_with fail
 have hB : Below w.heap.size w w1 := ((Below.refl _ _).alloc (Nat.le_refl _) _).trans (hb1.mono (by simp))
 exact bodyPost_ret (v := agg (anyV n).k (anyV n).n (anyV n).s) (by simp [results, Tryz.results38, go_sem, hc, anyV]) rfl ⟨rfl, ((hB.setCell (Nat.le_refl _) _).setCell (Nat.le_refl _) _).setCell (Nat.le_refl _) _⟩
end Go.Proofs.YtmdpjahhhfajaaaGreatDoor
