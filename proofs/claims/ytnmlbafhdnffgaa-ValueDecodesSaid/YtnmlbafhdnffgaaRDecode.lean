/-
  warehouseref1.Decode: the row whose encoding bytes are, or the error.
-/
import Derived.Test.YtnmlbafhdnffgaaRText
set_option linter.unusedVariables false
namespace Go.Proofs.Ytnmlbafhdnffgaa
open Go.RowKit Wh

theorem rd_some {L : List UInt8} {v : V} {s : Nat} (h : readV L = some (v, s)) : rdOut L = (v, s) ∧ validB v.k v.n v.s = true := by
  have hv := (read_size h).2.2.2
  refine ⟨?_, hv⟩
  cases L with
  | nil => simp [readV] at h
  | cons k r =>
    simp only [readV] at h
    simp only [rdOut]
    split at h
    · cases h
    · rename_i v' n' hf
      rw [hf]
      split at h
      · simp only [Option.some.injEq, Prod.mk.injEq] at h
        obtain ⟨rfl, rfl⟩ := h
        rfl
      · cases h

theorem rd_none {L : List UInt8} (h : readV L = none) : rdOut L = (nullV, 0) ∨ ∃ v s, rdOut L = (v, s) ∧ 1 ≤ s ∧ s ≤ 257 ∧ validB v.k v.n v.s = false := by
  cases L with
  | nil => exact .inl rfl
  | cons k r =>
    simp only [readV] at h
    simp only [rdOut]
    split at h
    · rename_i hf
      rw [hf]
      exact .inl rfl
    · rename_i v' n' hf
      have hz := fields_size hf
      rw [hf]
      split at h
      · cases h
      · rename_i hv
        exact .inr ⟨v', 1 + n', rfl, by omega, by omega, by simpa using hv⟩

set_option maxHeartbeats 2000000 in
theorem rDecode_any (a : Option Addr) (len cap : Nat) (l : List UInt8) (w : World) (hl : IsBytes w a len l) (hc : len ≤ cap) (hm : cap ≤ 9223372036854775807) :
    Calls Try.prog 25 #[.slice a len cap] w (DecPost w (decOut l)) := by
  have HB := Lib.hid hl
  obtain ⟨hlen, hl⟩ := hl
  match l, hlen, hl, HB with
  | [], hlen, _, _ =>
    obtain rfl : len = 0 := by simpa using hlen.symm
    go_enter Try.func25, Try.ntmps25
    go_wp2_with fail
    go_ret2
    exact ⟨.slice none 0 0, rfl, World.ownsRow_nil _ _ _ _, Below.refl _ _⟩
  | n :: r, hlen, hl, HB =>
    rcases hl with h | ⟨b, off, rfl, hb, hat⟩
    · cases h
    have hl1 : 1 ≤ len := by simp at hlen; omega
    have h0 : w.cell? ⟨b, off, none⟩ = some (.int .u8 n.toNat) := hat 0 n rfl
    have hx := n.toNat_lt
    have HL := Lib.hid hlen
    clear hat hlen
    have hn0 : 0 < len := by omega
    have hi1 : (1 : Int) ≤ len := by omega
    have hlen0 : (0 : Int) < len := by omega
    have hd : ((len : Int) == 0) = false := by simp; omega
    by_cases hbig : 12 < n.toNat
    · have HO : Hid (decOut (n :: r) = ([], 11)) := by show _ = _; simp only [decOut]; rw [if_pos hbig]
      have hbig2 : (12 : Int) < (n.toNat : Int) := by omega
      clear hbig
      generalize hy : n.toNat = y at *
      go_enter Try.func25, Try.ntmps25
      go_wp2_with fail
      go_ret2
      exact ⟨.slice none 0 0, by rw [HO.out]; rfl, by rw [HO.out]; exact World.ownsRow_nil _ _ _ _, Below.refl _ _⟩
    · have HO := Lib.hid (decOut_cons n r (by omega))
      have hs12 : n.toNat ≤ 12 := by omega
      have hs12i : ¬ (12 : Int) < (n.toNat : Int) := by omega
      obtain ⟨i0, hi, hz0, hz1, hz2⟩ := info_parts info_val
      generalize hy : n.toNat = y at *
      have HY := Lib.hid hy
      have HH0 := Lib.hid h0
      clear hy hbig
      go_enter Try.func25, Try.ntmps25
      go_wp2_with fail
      go_loopw [4, 5, 6] (fun rv av iv wr => ∃ (k at_ : Nat) (done : List V), k ≤ y ∧ iv = .int .i64 k ∧ av = .int .i64 at_ ∧ at_ ≤ len ∧
          Hid (done.length = k) ∧ Hid (readR y r = (readR (y - k) ((n :: r).drop at_)).map (done ++ ·)) ∧
          wr.ownsRow w.heap.size 23 3 rv k (flat done) ∧ Below w.heap.size w wr)
        (fun _ _ i _ => y - (intOf i).toNat)
      case atStart =>
        refine ⟨0, 1, [], Nat.zero_le _, rfl, rfl, hl1, rfl, ?_, World.ownsRow_nil _ _ _ _, Below.refl _ _⟩
        show _ = _
        rw [show (n :: r).drop 1 = r from rfl]
        cases readR y r <;> simp
      case round =>
        obtain ⟨k, at_, done, hk, rfl, rfl, hat, HDL, HR, own, hbel⟩ := hrel
        have hs := hbel.size
        have h0 : wr.cell? ⟨b, off, none⟩ = some (.int .u8 y) := cell_later hbel HH0.out
        have hLL : ((n :: r).drop at_).length = len - at_ := by rw [List.length_drop]; have := HL.out; omega
        by_cases hlt : k < y
        · obtain ⟨a3, c3, hsl3, hB3, hc4, hc5⟩ := slice_tail at_ (at_ : Int) rfl HB.out hat hc hm
          generalize hL : (n :: r).drop at_ = L at *
          have HLQ := Lib.hid hL
          clear hL
          have hcall := rdecode_any a3 (len - at_) c3 L wr (hB3.below hbel (Nat.le_refl _)) hc4 hc5
          have HB3 := Lib.hid hB3
          clear hB3
          cases hrv : readV L with
          | none =>
            have HE : Hid (decOut (n :: r) = ([], 11)) := by
              show _ = _
              rw [HO.out, HR.out, show y - k = (y - k - 1) + 1 from by omega, readR_fail hrv]
              rfl
            rcases rd_none hrv with hq | ⟨⟨vk, vn, vt⟩, sz, hq, z1, z2, z3⟩
            · rw [hq] at hcall
              have hcall : Calls Try.prog 35 #[.slice a3 (len - at_) c3] wr (RPost wr (⟨0, 0, ⟨#[]⟩⟩, 0)) := hcall
              have HC := Lib.hid hcall
              clear hcall hrv own hq
              go_wp2_with fail
              refine HC.out.mono ?_
              rintro e w1 ⟨rfl, hb1⟩
              have hs1 := hb1.size
              have hb2 := hbel.trans (hb1.mono hs)
              clear hb1 hbel
              go_wp2_with fail
              go_ret2
              exact ⟨.slice none 0 0, by rw [HE.out]; rfl, by rw [HE.out]; exact World.ownsRow_nil _ _ _ _, hb2.alloc (by omega) _⟩
            · rw [hq] at hcall
              have HC := Lib.hid hcall
              have hd2 : ((sz : Int) == 0) = false := by simp; omega
              have z3 : validB vk vn vt = false := z3
              clear hcall hrv own hq
              go_wp2_with fail
              refine HC.out.mono ?_
              rintro e w1 ⟨rfl, hb1⟩
              have hs1 := hb1.size
              have hb2 := hbel.trans (hb1.mono hs)
              clear hb1 hbel
              go_wp2_with fail
              refine (rvalid_any _ _ _ _).mono ?_
              rintro e w2 ⟨rfl, hb3⟩
              have hs2 := hb3.size
              have hb4 := (hb2.alloc (by omega) _).trans (hb3.mono (by simp; omega))
              clear hb3 hb2
              go_wp2_with fail
              go_ret2
              exact ⟨.slice none 0 0, by rw [HE.out]; rfl, by rw [HE.out]; exact World.ownsRow_nil _ _ _ _, hb4⟩
          | some p =>
            obtain ⟨⟨vk, vn, vt⟩, sz⟩ := p
            obtain ⟨z1, z2, z3, z4⟩ := read_size hrv
            have z4 : validB vk vn vt = true := z4
            rw [(rd_some hrv).1] at hcall
            have HN : Hid (readR y r = (readR (y - (k + 1)) (L.drop sz)).map ((done ++ [⟨vk, vn, vt⟩]) ++ ·)) := by
              show _ = _
              rw [HR.out, show y - k = (y - (k + 1)) + 1 from by omega, readR_step hrv]
              cases readR (y - (k + 1)) (L.drop sz) <;> simp [Option.map]
            have HC := Lib.hid hcall
            have hd2 : ((sz : Int) == 0) = false := by simp; omega
            have hsz : at_ + sz ≤ len := by omega
            clear hrv hcall z2 hLL
            go_wp2_with fail
            refine HC.out.mono ?_
            rintro e w1 ⟨rfl, hb1⟩
            have hs1 := hb1.size
            have own1 := own_below own hb1
            have B1 := hbel.trans (hb1.mono hs)
            clear own hb1 hbel
            go_wp2_with fail
            refine (rvalid_any _ _ _ _).mono ?_
            rintro e w2 ⟨rfl, hb2⟩
            obtain ⟨hc1, hf1⟩ := bcell hb2
            have hs2 : w1.heap.size < w2.heap.size := by have := hb2.size; simp at this; omega
            have own2 := own_below (own1.alloc _) hb2
            have B2 := (B1.alloc (by omega) _).trans (hb2.mono (by simp; omega))
            clear own1 B1
            go_wp2_with (at_builtin; refine wpList_append_own _ rfl _ _ 31 rfl w.heap.size 23 i0 _ 3 32 Try.underlying31 hi hz0 hz1 hz2 rfl (by decide) _ _ _ rfl (own2.alloc _) ⟨w2.heap.size, 0, none⟩ 1 1 (cl ⟨vk, vn, vt⟩) rfl rfl ?c1 ?c2 ?c3 ?c4 ?c5 ?_)
            case c1 => exact World.news_of_block (cs := #[.int .i64 vk, .int .i64 vn, .string vt]) (t := 23) (fr := (0, 0)) (heap_alloc_new w2 _)
            case c2 => simp [Value.oneCell', cl]
            case c3 => simp [maxLen]; omega
            case c4 => omega
            case c5 => simp; omega
            intro v3 w3 own3 hgrow _
            have hB : Below w.heap.size w w3 := (B2.alloc (by omega) _).grown hgrow (by simp; omega) (fun j hj => (own2.lt j hj).1)
            have own4 : w3.ownsRow w.heap.size 23 3 v3 (k + 1) (flat (done ++ [⟨vk, vn, vt⟩])) := by
              have e : flat (done ++ [⟨vk, vn, vt⟩]) = flat done ++ cl ⟨vk, vn, vt⟩ := by simp [flat]
              rw [e]
              exact own3
            have HP : Hid (L.drop sz = (n :: r).drop (at_ + sz)) := by show _ = _; rw [← HLQ.out, List.drop_drop]
            clear own2 own3 hb2 hgrow B2 hc1 hf1
            go_wp2_with fail
            go_roundw
            case rel =>
              refine ⟨k + 1, at_ + sz, done ++ [⟨vk, vn, vt⟩], by omega, by go_num, ?_, hsz, ?_, ?_, own4, hB⟩
              · go_num
              · show _ = _
                rw [List.length_append, HDL.out]
                rfl
              · rw [← HP.out]
                exact HN
            case measure => simp [intOf]; omega
        · obtain rfl : k = y := by omega
          have HR0 : Hid (readR k r = (if ((n :: r).drop at_).length = 0 then some done else none)) := by
            show _ = _
            rw [HR.out, Nat.sub_self]
            simp only [readR]
            split <;> simp
          by_cases hz : at_ = len
          · subst hz
            have HE : Hid (decOut (n :: r) = (done, 0)) := by
              show _ = _
              rw [HO.out, HR0.out, if_pos (by omega)]
              rfl
            go_wp2_with fail
            go_ret2
            exact ⟨_, by rw [HE.out]; rfl, by rw [HE.out, HDL.out]; exact own, hbel⟩
          · have HE : Hid (decOut (n :: r) = ([], 11)) := by
              show _ = _
              rw [HO.out, HR0.out, if_neg (by omega)]
              rfl
            have hz2 : ((at_ : Int) == (len : Int)) = false := by simp; omega
            have hz3 : ¬ ((at_ : Int) = (len : Int)) := by omega
            clear own
            go_wp2_with fail
            go_ret2
            exact ⟨.slice none 0 0, by rw [HE.out]; rfl, by rw [HE.out]; exact World.ownsRow_nil _ _ _ _, hbel⟩

end Go.Proofs.Ytnmlbafhdnffgaa
