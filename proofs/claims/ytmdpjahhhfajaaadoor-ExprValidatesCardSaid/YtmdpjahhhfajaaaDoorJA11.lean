/-
  The program: greatest, Validate. · readName and readInt, of package token. · readInt, of package token. · literalSize and readText, of package token. · text, of the reference. · symbol, of the reference. · next, of the ref · valid and Validate, of the reference.
-/
import Derived.Test.YtmdpjahhhfajaaaDoorJA08
import Derived.Test.YtmdpjahhhfajaaaDoorJA10
import Derived.Test.YtmdpjahhhfajaaaDoorJA09
import Derived.Test.YtmdpjahhhfajaaaDoorJA04
import Derived.Test.YtmdpjahhhfajaaaDoorJA05
import Derived.OwnWalk
import Derived.Test.YtmdpjahhhfajaaaDoorJA07
import Derived.Deep.RegionHeld3
set_option linter.unusedVariables false
set_option linter.unusedSimpArgs false
set_option maxRecDepth 100000
namespace Go.Proofs.YtmdpjahhhfajaaaDoor
open Go.RowKit Wh
set_option maxHeartbeats 4000000 in
theorem greatest_any (a : Option Addr) (len cap : Nat) (zs : List Int) (w : World) (hz : IsInts w a len zs) (hl : len ≤ 9223372036854775807) :
    Calls Tryd.prog 24 #[.slice a len cap] w fun e w' => e = .returned (.int .i64 (maxL zs)) ∧ Below w.heap.size w w' := by
  have HZ := Lib.hid hz
  have hzl := hz.1
  clear hz
  go_enter Tryd.func24, Tryd.ntmps24
  go_wp2_with fail
  go_loopw [3, 8] (fun hv iv wr => ∃ j : Nat, j ≤ len ∧ iv = .int .i64 (j : Int) ∧ hv = .int .i64 (maxL (zs.take j)) ∧ Below w.heap.size w wr) (fun _ iv _ => len - (intOf iv).toNat)
  case atStart => exact ⟨0, Nat.zero_le _, by go_num, by simp [maxL], Below.refl _ _⟩
  case round =>
    obtain ⟨j, hj, rfl, rfl, hbel⟩ := hrel
    by_cases hlt : j < len
    · obtain ⟨z, b, off, hz, rfl, hbl, hcell⟩ := (HZ.out.below hbel (Nat.le_refl _)).at hlt
      have HMX := Lib.hid (maxL_take zs j z hz)
      generalize maxL (zs.take j) = M at *
      clear hz
      go_wp2_with fail
      go_roundw
      case rel => exact ⟨j + 1, by omega, by go_num, by rw [HMX.out], hbel⟩
      case measure => simp [intOf]; omega
    · obtain rfl : j = len := by omega
      have HM : Hid (maxL (zs.take j) = maxL zs) := by
        show _ = _
        rw [List.take_of_length_le (by omega)]
      rw [HM.out]
      obtain ⟨M, hM⟩ : ∃ M, maxL zs = M := ⟨_, rfl⟩
      rw [hM]
      have HMM := Lib.hid hM
      clear HM hM
      go_wp2_with fail
      go_ret
      exact ⟨by rw [HMM.out]; rfl, hbel⟩
theorem slice_from_ints {w : World} {a : Option Addr} {len cap : Nat} {es : List Int} (k : Nat) (ki : Int) (hki : ki = (k : Int)) (h : IsInts w a len es) (hk : k ≤ len) (hc : len ≤ cap) (hm : cap ≤ maxLen) (hn : a = none → cap = 0) (hs : ∀ x, a = some x → x.spot = none) :
    ∃ (a2 : Option Addr) (c2 : Nat), (∀ W, (Instr.slice 27 (.slice a len cap) (some (.int .i64 ki)) none none).run Tryd.prog W = .ok (.slice a2 (len - k) c2) W) ∧ IsInts w a2 (len - k) (es.drop k) ∧ len - k ≤ c2 ∧ c2 ≤ maxLen := by
  have ht : Tryd.prog.underlying 27 = some (.slice (Tryd.prog.elem 27)) := by simp [Program.elem, Tryd.underlying27]
  have he : Tryd.prog.elem 27 = 3 := by simp [Program.elem, Tryd.underlying27]
  have hsz : ∀ W, (sizeOf 3).run Tryd.prog W = .ok 1 W := fun W => by
    obtain ⟨i0, hi, _, h1, _⟩ := info_parts info_int
    simp [sizeOf, typeInfo, hi, h1]
  subst hki
  have hr : ∀ W, (Instr.slice 27 (.slice a len cap) (some (.int .i64 (k : Int))) none none).run Tryd.prog W = .ok (sliced a k len cap 1) W := by
    intro W
    rw [run_slice_l W _ _ _ _ ht .i64 _ (by omega) (by omega), he, hsz]
    simp [Result.andThen]
  by_cases hcap : cap = k
  · refine ⟨a, cap - k, ?_, ?_, by omega, by omega⟩
    · intro W
      rw [hr]
      simp [sliced, hcap]
    · exact ⟨by rw [List.length_drop, h.1], .inl (by apply List.drop_of_length_le; have := h.1; omega)⟩
  · cases a with
    | none => exact absurd (hn rfl) (by omega)
    | some x =>
      obtain ⟨b, off, spot⟩ := x
      have hsp := hs _ rfl
      simp only at hsp
      subst hsp
      have hadd : (⟨b, off, none⟩ : Addr).add (k * 1) = ⟨b, off + k, none⟩ := by unfold Addr.add; split <;> simp_all
      refine ⟨some ⟨b, off + k, none⟩, cap - k, ?_, ⟨by rw [List.length_drop, h.1], ?_⟩, by omega, by omega⟩
      · intro W
        rw [hr]
        simp [sliced, hcap] at hadd ⊢
        exact hadd
      · rcases h.2 with h2 | ⟨b2, off2, hx, hlt, hcell⟩
        · exact .inl (by rw [h2]; simp)
        · cases hx
          refine .inr ⟨b, off + k, rfl, hlt, fun i z hz => ?_⟩
          rw [List.getElem?_drop] at hz
          have := hcell (k + i) z hz
          rw [show off + k + i = off + (k + i) by omega]
          exact this
set_option maxHeartbeats 8000000 in
theorem pvalidN_any (a : Option Addr) (len cap : Nat) (ts : List Nd) (w : World) (hT : TabB w) (hs : IsNodes w a len ts) (hl : len ≤ 9223372036854775807) (hz : ∀ t ∈ ts, t.nm.size ≤ 9223372036854775800) :
    Calls Tryd.prog 9 #[.slice a len cap] w fun e w' => e = .returned (.int .i64 (valN ts)) ∧ Below w.heap.size w w' := by
  have mm : maxLen = 9223372036854775807 := rfl
  have hln := hs.1
  by_cases hbig : 256 < len
  · have hE : valN ts = 2 := by unfold valN; rw [if_pos (by omega)]
    rw [hE]
    clear hE hs
    go_enter Tryd.func9, Tryd.ntmps9
    go_wp2
    go_ret
    exact ⟨rfl, Below.refl _ _⟩
  have hE : valN ts = valS ts [] := by unfold valN; rw [if_neg (by omega)]
  rw [hE]
  obtain ⟨E, hEE⟩ : ∃ E, valS ts [] = E := ⟨_, rfl⟩
  rw [hEE]
  obtain ⟨i0, hi, hz0, hz1, hz2⟩ := info_parts info_int
  have HS := Lib.hid hs
  have HZ := Lib.hid hz
  have HE := Lib.hid hEE
  have HTB := Lib.hid hT
  clear hs hz hE hEE hT
  go_enter Tryd.func9, Tryd.ntmps9
  go_wp2_with fail
  go_loopw [3, 13] (fun sv iv wr => ∃ (k : Nat) (st : List Int), k ≤ len ∧ iv = .int .i64 k ∧ wr.ownsRow w.heap.size 3 1 sv st.length (st.map (Value.int .i64)) ∧ Hid (st.length ≤ k ∧ ∀ z ∈ st, 0 ≤ z ∧ z ≤ 64) ∧ Hid (valS (ts.drop k) st = E) ∧ Below w.heap.size w wr) (fun _ iv _ => len - (intOf iv).toNat)
  case atStart => exact ⟨0, [], Nat.zero_le _, rfl, World.ownsRow_nil _ _ _ _, ⟨Nat.zero_le _, by simp⟩, HE, Below.refl _ _⟩
  case round =>
    obtain ⟨k, st, hk, rfl, hown, HST, HV, hbel⟩ := hrel
    have hsz := hbel.size
    have hsl := HST.out.1
    by_cases hlt : k < len
    · obtain ⟨t, b, off, ht, rfl, hbl, hat⟩ := (HS.out.below hbel (Nat.le_refl _)).at hlt
      have hdr : ts.drop k = t :: ts.drop (k + 1) := by
        obtain ⟨hk2, rfl⟩ := List.getElem?_eq_some_iff.1 ht
        exact List.drop_eq_getElem_cons hk2
      have hV := HV.out
      rw [hdr] at hV
      have hnm := HZ.out t (List.mem_of_getElem? ht)
      have CF := Lib.hid (fun W (h : Below w.heap.size w W) => pnode_any t W hnm (HTB.out.below h (Nat.le_refl _)))
      have CA := Lib.hid (fun W => parity_any t W)
      obtain ⟨sa, sc, rfl, hsi, hscl, hscm, hsn, hsx⟩ := own_ints hown
      clear HV hdr ht hnm
      obtain ⟨op, ⟨vk, vn, vs⟩, nm, ar⟩ := t
      obtain ⟨c0, c1, c2, c3, c4, c5⟩ := hat.mk6
      have hB1 := hbel.alloc hsz (.cells #[.int .i64 op, .int .i64 vk, .int .i64 vn, .string vs, .string nm, .int .i64 ar] 26)
      obtain ⟨d0, d1, d2, d3, d4, d5⟩ := box6 (Below.refl (wr.alloc (.cells #[.int .i64 op, .int .i64 vk, .int .i64 vn, .string vs, .string nm, .int .i64 ar] 26)).heap.size (wr.alloc (.cells #[.int .i64 op, .int .i64 vk, .int .i64 vn, .string vs, .string nm, .int .i64 ar] 26)))
      have CF1 := Lib.hid (CF.out _ hB1)
      have HB1 := Lib.hid hB1
      have hnew : (wr.alloc (.cells #[.int .i64 op, .int .i64 vk, .int .i64 vn, .string vs, .string nm, .int .i64 ar] 26)).heap.size = wr.heap.size + 1 := by simp
      by_cases hf : nodB ⟨op, ⟨vk, vn, vs⟩, nm, ar⟩ = false
      · rw [valS_bad hf] at hV
        subst hV
        rw [hf] at CF1
        unfold ndV at CF1
        simp only at CF1
        clear hat hsi hsx CA hf CF hown hbel
        go_wp2_with fail
        refine CF1.out.mono ?_
        rintro e w1 ⟨rfl, hb1⟩
        have HB2 := Lib.hid (HB1.out.trans (hb1.mono HB1.out.size))
        clear hb1 CF1
        go_wp2_with fail
        go_ret
        exact ⟨rfl, HB2.out⟩
      · have hf1 : nodB ⟨op, ⟨vk, vn, vs⟩, nm, ar⟩ = true := by simpa using hf
        obtain ⟨q0, q8⟩ := nodB_ar hf1
        obtain ⟨p, hp⟩ : ∃ p : Nat, arN ⟨op, ⟨vk, vn, vs⟩, nm, ar⟩ = (p : Int) := ⟨(arN ⟨op, ⟨vk, vn, vs⟩, nm, ar⟩).toNat, by omega⟩
        rw [hp] at CA q0 q8
        rw [hf1] at CF1
        have few := Lib.hid (fun (h : st.length < p) => valS_few (t := ⟨op, ⟨vk, vn, vs⟩, nm, ar⟩) (l := ts.drop (k + 1)) (st := st) (by omega))
        have deep := Lib.hid (fun (h : p ≤ st.length) hd => valS_deep (l := ts.drop (k + 1)) (st := st) hf1 hp h hd)
        have go := Lib.hid (fun (h : p ≤ st.length) hd => valS_go (l := ts.drop (k + 1)) (st := st) hf1 hp h hd)
        have HVV := Lib.hid hV
        unfold ndV at CF1 CA
        simp only at CF1 CA
        have HO := Lib.hid hown
        have HSI := Lib.hid hsi
        have HBEL := Lib.hid hbel
        clear hf hf1 hp hV hat hown hsi CF hbel
        go_wp2_with fail
        refine CF1.out.mono ?_
        rintro e w1 ⟨rfl, hb1⟩
        have e0 := (hb1.cell (p := ⟨wr.heap.size, 0, none⟩) (by show wr.heap.size < _; omega)).trans d0
        have e1 := (hb1.cell (p := ⟨wr.heap.size, 1, none⟩) (by show wr.heap.size < _; omega)).trans d1
        have e2 := (hb1.cell (p := ⟨wr.heap.size, 2, none⟩) (by show wr.heap.size < _; omega)).trans d2
        have e3 := (hb1.cell (p := ⟨wr.heap.size, 3, none⟩) (by show wr.heap.size < _; omega)).trans d3
        have e4 := (hb1.cell (p := ⟨wr.heap.size, 4, none⟩) (by show wr.heap.size < _; omega)).trans d4
        have e5 := (hb1.cell (p := ⟨wr.heap.size, 5, none⟩) (by show wr.heap.size < _; omega)).trans d5
        have hs1 := hb1.size
        have HB2 := Lib.hid (below_box hb1)
        clear hb1 CF1 c0 c1 c2 c3 c4 c5 d0 d1 d2 d3 d4 d5
        go_wp2_with fail
        refine (CA.out _).mono ?_
        rintro e w2 ⟨rfl, hb2⟩
        have HB3 := Lib.hid (HB2.out.trans (hb2.mono HB2.out.size))
        have hs2 := HB3.out.size
        clear hb2 e0 e1 e2 e3 e4 e5 CA
        by_cases hpl : st.length < p
        · have hE := few.out hpl
          rw [HVV.out] at hE
          subst hE
          clear few deep go HVV
          have hplI : (st.length : Int) < (p : Int) := by omega
          go_wp2_with fail
          go_ret
          exact ⟨rfl, HBEL.out.trans (HB3.out.mono hsz)⟩
        · have hpl2 : p ≤ st.length := by omega
          obtain ⟨r, hr⟩ : ∃ r : Nat, st.length = r + p := ⟨st.length - p, by omega⟩
          have hrr : st.length - p = r := by omega
          rw [hr] at hscl HSI hsn HO
          rw [hrr] at deep go
          have hri : ((r + p : Nat) : Int) - (p : Int) = (r : Int) := by omega
          obtain ⟨a2, c2, hsl2, hi2, hc2, hm2⟩ := slice_from_ints r (r : Int) rfl (HSI.out.below HB3.out (Nat.le_refl _)) (by omega) hscl hscm (fun h => (hsn h).2) (fun x hx => by obtain ⟨g, rfl, _⟩ := hsx x hx; rfl)
          have CG := Lib.hid (greatest_any a2 (r + p - r) c2 (st.drop r) w2 hi2 (by omega))
          have MB := Lib.hid (maxL_bound (st.drop r) (fun z hz => by have := HST.out.2 z (List.mem_of_mem_drop hz); omega))
          rw [show r + p - r = p by omega] at CG hsl2
          have hrl : r ≤ st.length := by omega
          obtain ⟨M, hM⟩ : ∃ M, maxL (st.drop r) = M := ⟨_, rfl⟩
          rw [hM] at CG MB deep go
          have HMB := Lib.hid MB.out
          have hslt := slice_to_ints sa (r + p) sc r (by omega) hscm (fun h => (hsn h).2) (fun x hx => by obtain ⟨g, rfl, _⟩ := hsx x hx; rfl)
          clear hi2 few HSI hM MB hsx hpl hrr
          rw [hr]
          go_wp2_with fail
          refine CG.out.mono ?_
          rintro e w3 ⟨rfl, hb3⟩
          have HB4 := Lib.hid (HB3.out.trans (hb3.mono hs2))
          have hs3 := HB4.out.size
          obtain ⟨hM0, hM1⟩ := HMB.out
          clear hb3 CG
          by_cases hd : 64 < M + 1
          · have hE := deep.out hpl2 hd
            rw [HVV.out] at hE
            subst hE
            have hd2 : (64 : Int) < 1 + M := by omega
            clear deep go HVV hd
            go_wp2_with fail
            go_ret
            exact ⟨rfl, HBEL.out.trans (HB4.out.mono hsz)⟩
          · have hE := go.out hpl2 (by omega)
            rw [HVV.out] at hE
            have HO4 := Lib.hid (own_take (own_below HO.out HB4.out) (k := r) (by omega))
            have HEE := Lib.hid hE.symm
            have hd2 : ¬ (64 : Int) < 1 + M := by omega
            have hcm : 1 + M = M + 1 := by omega
            have HMB2 := Lib.hid hd
            clear deep go HVV hE hd hcm
            go_wp2_with (at_builtin; refine wpList_append_own _ rfl _ _ 27 rfl w.heap.size 3 i0 _ 1 8 Tryd.underlying27 hi hz0 hz1 hz2 rfl (by decide) _ _ _ rfl (HO4.out.alloc _) ⟨w3.heap.size, 0, none⟩ 1 1 [.int .i64 (1 + M)] rfl rfl ?c1 ?c2 ?c3 ?c4 ?c5 ?_)
            case c1 => exact World.news_of_block (cs := #[.int .i64 (1 + M)]) (t := 3) (fr := (0, 0)) (heap_alloc_new w3 _)
            case c2 => simp [Value.oneCell']
            case c3 => simp [maxLen]; omega
            case c4 => omega
            case c5 => simp; omega
            intro v5 w5 hown5 hgrow _
            have hB5 : Below w.heap.size w w5 := ((HBEL.out.trans (HB4.out.mono hsz)).alloc (by omega) _).grown hgrow (by simp; omega) (fun j hj => (HO4.out.lt j hj).1)
            have hown6 : w5.ownsRow w.heap.size 3 1 v5 (st.take r ++ [M + 1]).length ((st.take r ++ [M + 1]).map (Value.int .i64)) := by
              rw [List.map_append, List.length_append, List.length_take, Nat.min_eq_left hrl, List.map_take]
              have e : 1 + M = M + 1 := by omega
              rw [e] at hown5
              simpa using hown5
            have HST2 : Hid ((st.take r ++ [M + 1]).length ≤ k + 1 ∧ ∀ z ∈ st.take r ++ [M + 1], 0 ≤ z ∧ z ≤ 64) := by
              refine ⟨by rw [List.length_append, List.length_take, Nat.min_eq_left hrl]; simp; omega, fun z hz => ?_⟩
              rcases List.mem_append.1 hz with h | h
              · exact HST.out.2 z (List.mem_of_mem_take h)
              · rw [List.mem_singleton] at h
                have := HMB2.out
                omega
            generalize st.take r ++ [M + 1] = st2 at *
            clear hown5 hgrow HO4 HO HB4 HB3 HB2 HB1 HST
            go_wp2_with fail
            go_roundw
            case rel => exact ⟨k + 1, st2, by omega, by go_num, hown6, HST2, HEE, hB5⟩
            case measure => simp [intOf]; omega
    · obtain rfl : k = len := by omega
      have hV := HV.out
      rw [List.drop_of_length_le (by omega)] at hV
      obtain ⟨sa, sc, rfl, hsi, hscl, hscm, hsn, hsx⟩ := own_ints hown
      by_cases h1 : st.length = 1
      · have : E = 0 := by rw [← hV]; unfold valS; rw [if_pos h1]
        subst this
        clear hV hown hsi HV
        rw [h1] at *
        go_wp2_with fail
        go_ret
        exact ⟨rfl, hbel⟩
      · have : E = 8 := by rw [← hV]; unfold valS; rw [if_neg h1]
        subst this
        clear hV hown hsi HV
        have h1i : ¬ (st.length : Int) = 1 := by omega
        go_wp2_with fail
        go_ret
        exact ⟨rfl, hbel⟩
end Go.Proofs.YtmdpjahhhfajaaaDoor
namespace Wh
open Go Go.Proofs.YtmdpjahhhfajaaaDoor
end Wh
namespace Go.Proofs.YtmdpjahhhfajaaaDoor
open Go.RowKit Wh
def IsNx (o : Int × Tk × Nat) (w : World) (e : Ending) (w' : World) : Prop :=
  ∃ (t : Tk) (n : Nat), e = .returned (.tuple #[tokV (t, 0), .int .i64 n, .int .i64 o.1]) ∧ (o.1 = 0 → t = o.2.1 ∧ n = o.2.2) ∧ Below w.heap.size w w'
theorem IsNx.of {o : Int × Tk × Nat} {w w' : World} {e : Ending} (t : Tk) (n : Nat) (x : Int) (he : e = .returned (.tuple #[tokV (t, 0), .int .i64 n, .int .i64 x])) (hx : o.1 = x) (h : o.1 = 0 → t = o.2.1 ∧ n = o.2.2) (hb : Below w.heap.size w w') : IsNx o w e w' := ⟨t, n, by rw [he, hx], h, hb⟩
end Go.Proofs.YtmdpjahhhfajaaaDoor
namespace Wh
open Go Go.Proofs.YtmdpjahhhfajaaaDoor
end Wh
namespace Go.Proofs.YtmdpjahhhfajaaaDoor
open Go.RowKit Wh
end Go.Proofs.YtmdpjahhhfajaaaDoor
namespace Wh
open Go Go.Proofs.YtmdpjahhhfajaaaDoor
end Wh
namespace Go.Proofs.YtmdpjahhhfajaaaDoor
open Go.RowKit Wh
end Go.Proofs.YtmdpjahhhfajaaaDoor
namespace Wh
open Go Go.Proofs.YtmdpjahhhfajaaaDoor
end Wh
namespace Go.Proofs.YtmdpjahhhfajaaaDoor
open Go.RowKit Wh
end Go.Proofs.YtmdpjahhhfajaaaDoor
namespace Go.Proofs.YtmdpjahhhfajaaaDoor
open Go.RowKit Wh
def TwoAt7 (w : World) (b : Nat) : Prop := b < w.heap.size ∧ ∀ i, i < 4 → w.cell? ⟨b, i, none⟩ = some (.string (twoL i))
theorem TwoAt7.next {w w' : World} {b : Nat} (h : TwoAt7 w b) (hb : Below w.heap.size w w') : TwoAt7 w' b :=
  ⟨Nat.lt_of_lt_of_le h.1 hb.size, fun i hi => by rw [hb.cell (p := ⟨b, i, none⟩) h.1]; exact h.2 i hi⟩
end Go.Proofs.YtmdpjahhhfajaaaDoor
namespace Wh
open Go Go.Proofs.YtmdpjahhhfajaaaDoor
end Wh
namespace Go.Proofs.YtmdpjahhhfajaaaDoor
open Go.RowKit Wh
end Go.Proofs.YtmdpjahhhfajaaaDoor
namespace Go.Proofs.YtmdpjahhhfajaaaDoor
open Go.RowKit Wh
end Go.Proofs.YtmdpjahhhfajaaaDoor
