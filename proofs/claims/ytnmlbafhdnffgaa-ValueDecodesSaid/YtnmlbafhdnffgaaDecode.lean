/-
  value.Decode: the row whose encoding bytes are, or the error.
-/
import Derived.Test.YtnmlbafhdnffgaaRead
import Derived.Test.YtnmlbafhdnffgaaRow
set_option linter.unusedVariables false
namespace Go.Proofs.Ytnmlbafhdnffgaa
open Go.RowKit Wh

def DecPost (w : World) (out : List V × Int) (e : Ending) (w' : World) : Prop :=
  ∃ sv : Value, e = .returned (.tuple #[sv, .int .i64 out.2]) ∧ w'.ownsRow w.heap.size 23 3 sv out.1.length (flat out.1) ∧ Below w.heap.size w w'

theorem made_flat (n : Nat) : (madeCells #[.int .i64 0, .int .i64 0, .string ⟨#[]⟩] (n * 3)).toList = flat (List.replicate n nullV) := by
  apply List.ext_getElem?
  intro j
  by_cases hj : j < n * 3
  · have hi : (List.replicate n nullV)[j / 3]? = some nullV := by rw [List.getElem?_replicate, if_pos (by omega)]
    obtain ⟨h0, h1, h2⟩ := flat_at _ _ _ hi
    have hl : (madeCells #[.int .i64 0, .int .i64 0, .string ⟨#[]⟩] (n * 3)).toList[j]? = some (#[Value.int .i64 0, .int .i64 0, .string ⟨#[]⟩][j % 3]!) := by
      simp [madeCells, hj]
    rw [hl]
    have h3 : j % 3 = 0 ∨ j % 3 = 1 ∨ j % 3 = 2 := by omega
    rcases h3 with h3 | h3 | h3
    · rw [h3, show j = j / 3 * 3 from by omega, h0]
      rfl
    · rw [h3, show j = j / 3 * 3 + 1 from by omega, h1]
      rfl
    · rw [h3, show j = j / 3 * 3 + 2 from by omega, h2]
      rfl
  · rw [List.getElem?_eq_none (by simp [madeCells]; omega), List.getElem?_eq_none (by rw [flat_length, List.length_replicate]; omega)]

theorem flat_set (v x : V) (rest : List V) : ∀ done : List V, (((flat (done ++ x :: rest)).set (done.length * 3) (.int .i64 v.k)).set (done.length * 3 + 1) (.int .i64 v.n)).set (done.length * 3 + 2) (.string v.s) = flat ((done ++ [v]) ++ rest)
  | [] => by simp [flat, cl]
  | d :: ds => by
    have ih := flat_set v x rest ds
    simp only [flat, List.cons_append, List.flatMap_cons, List.length_cons] at ih ⊢
    rw [show (ds.length + 1) * 3 = ds.length * 3 + 1 + 1 + 1 from by omega, ← ih]
    simp [cl]

/-- What is left to decode after some rounds. -/
theorem readR_step {n : Nat} {l : List UInt8} {v : V} {k : Nat} (h : readV l = some (v, k)) : readR (n + 1) l = (readR n (l.drop k)).map (v :: ·) := by
  simp only [readR, h]
  cases readR n (l.drop k) <;> rfl

theorem readR_fail {n : Nat} {l : List UInt8} (h : readV l = none) : readR (n + 1) l = none := by
  simp only [readR, h]

def decFrom : Option (List V) → List V × Int
  | none => ([], 11)
  | some vs => (vs, 0)

theorem decOut_cons (n : UInt8) (r : List UInt8) (h : n.toNat ≤ 12) : decOut (n :: r) = decFrom (readR n.toNat r) := by
  simp only [decOut]
  rw [if_neg (by omega)]
  cases readR n.toNat r <;> rfl

theorem size_u8 (W : World) : (sizeOf 5).run Try.prog W = .ok 1 W := by
  obtain ⟨i0, hi, _, h1, _⟩ := info_parts info_u8
  simp [sizeOf, typeInfo, hi, h1]

/-- 'b[k:]': a slice of the bytes behind the first k, wherever it lies. -/
theorem slice_tail {w : World} {b off len cap : Nat} {l : List UInt8} (k : Nat) (ki : Int) (hki : ki = (k : Int)) (h : IsBytes w (some ⟨b, off, none⟩) len l) (hk : k ≤ len) (hc : len ≤ cap) (hm : cap ≤ 9223372036854775807) :
    ∃ (a2 : Option Addr) (c2 : Nat), (∀ W, (Instr.slice 37 (.slice (some ⟨b, off, none⟩) len cap) (some (.int .i64 ki)) none none).run Try.prog W = .ok (.slice a2 (len - k) c2) W) ∧ IsBytes w a2 (len - k) (l.drop k) ∧ len - k ≤ c2 ∧ c2 ≤ 9223372036854775807 := by
  have ht : Try.prog.underlying 37 = some (.slice (Try.prog.elem 37)) := by simp [Program.elem, Try.underlying37]
  have he : Try.prog.elem 37 = 5 := by simp [Program.elem, Try.underlying37]
  subst hki
  have hr : ∀ W, (Instr.slice 37 (.slice (some ⟨b, off, none⟩) len cap) (some (.int .i64 (k : Int))) none none).run Try.prog W = .ok (sliced (some ⟨b, off, none⟩) k len cap 1) W := by
    intro W
    rw [run_slice_l W _ _ _ _ ht .i64 _ (by omega) (by omega), he, size_u8]
    simp [Result.andThen]
  by_cases hcap : cap = k
  · refine ⟨some ⟨b, off, none⟩, cap - k, ?_, ?_, by omega, by omega⟩
    · intro W
      rw [hr]
      simp [sliced, hcap]
    · exact ⟨by rw [List.length_drop, h.1], .inl (by apply List.drop_of_length_le; have := h.1; omega)⟩
  · refine ⟨some ⟨b, off + k, none⟩, cap - k, ?_, h.tail hk, by omega, by omega⟩
    intro W
    rw [hr]
    have hadd : (⟨b, off, none⟩ : Addr).add k = ⟨b, off + k, none⟩ := by unfold Addr.add; split <;> simp_all
    simp [sliced, hcap, hadd]

set_option maxHeartbeats 2000000 in
theorem decode_any (a : Option Addr) (len cap : Nat) (l : List UInt8) (w : World) (hl : IsBytes w a len l) (hc : len ≤ cap) (hm : cap ≤ 9223372036854775807) :
    Calls Try.prog 24 #[.slice a len cap] w (DecPost w (decOut l)) := by
  have HB := Lib.hid hl
  obtain ⟨hlen, hl⟩ := hl
  match l, hlen, hl, HB with
  | [], hlen, _, _ =>
    obtain rfl : len = 0 := by simpa using hlen.symm
    go_enter Try.func24, Try.ntmps24
    go_wp2_with fail
    go_ret2
    exact ⟨.slice none 0 0, rfl, World.ownsRow_nil _ _ _ _, Below.refl _ _⟩
  | n :: r, hlen, hl, HB =>
    rcases hl with h | ⟨b, off, rfl, hb, hat⟩
    · cases h
    have hl1 : 1 ≤ len := by simp at hlen; omega
    have h0 : w.cell? ⟨b, off, none⟩ = some (.int .u8 n.toNat) := hat 0 n rfl
    have hx := n.toNat_lt
    have HL := Lib.hid hlen
    clear hat hlen
    have hn0 : 0 < len := by omega
    have hi1 : (1 : Int) ≤ len := by omega
    have hlen0 : (0 : Int) < len := by omega
    have hd : ((len : Int) == 0) = false := by simp; omega
    by_cases hbig : 12 < n.toNat
    · have HO : Hid (decOut (n :: r) = ([], 11)) := by show _ = _; simp only [decOut]; rw [if_pos hbig]
      have hbig2 : (12 : Int) < (n.toNat : Int) := by omega
      clear hbig
      generalize hy : n.toNat = y at *
      go_enter Try.func24, Try.ntmps24
      go_wp2_with fail
      go_ret2
      exact ⟨.slice none 0 0, by rw [HO.out]; rfl, by rw [HO.out]; exact World.ownsRow_nil _ _ _ _, Below.refl _ _⟩
    · have HO := Lib.hid (decOut_cons n r (by omega))
      have hs12 : n.toNat ≤ 12 := by omega
      have hs12i : ¬ (12 : Int) < (n.toNat : Int) := by omega
      obtain ⟨i0, hi, hz0, hz1, hz2⟩ := info_parts info_val
      obtain ⟨a2, c2, hsl, hB2, hc2, hc3⟩ := slice_tail 1 1 rfl HB.out hl1 hc hm
      rw [show (n :: r).drop 1 = r from rfl] at hB2
      generalize hy : n.toNat = y at *
      have HY := Lib.hid hy
      clear hy hbig
      go_enter Try.func24, Try.ntmps24
      go_wp2_with (refine wpList_make_full _ rfl (.tmp 20) (.tmp 20) 31 rfl w.heap.size 23 i0 _ 3 Try.underlying31 hi hz0 hz1 .u8 .u8 _ _ y rfl rfl rfl rfl ?c1 ?c2 (Nat.le_refl _) ?_)
      case c1 => omega
      case c2 => simp [maxLen]; omega
      intro w0 own0 hg0
      go_wp2_with fail
      have B0 : Below w.heap.size w w0 := (Below.refl _ _).grown hg0 (Nat.le_refl _) (fun j hj => by cases hj)
      have own1 : w0.ownsRow w.heap.size 23 3 (.slice (some ⟨w.heap.size, 0, none⟩) y y) y (flat ([] ++ List.replicate y nullV)) := by
        rw [List.nil_append, ← made_flat]
        exact own0
      clear own0 hg0 hsl
      go_loopw [5, 26] (fun rv iv wr => ∃ (k : Nat) (a' : Option Addr) (len' cap' : Nat) (L : List UInt8) (done : List V), k ≤ y ∧ iv = .int .i64 k ∧ rv = .slice a' len' cap' ∧ IsBytes w a' len' L ∧ len' ≤ cap' ∧ cap' ≤ 9223372036854775807 ∧
          done.length = k ∧ Hid (readR y r = (readR (y - k) L).map (done ++ ·)) ∧
          wr.ownsRow w.heap.size 23 3 (.slice (some ⟨w.heap.size, 0, none⟩) y y) y (flat (done ++ List.replicate (y - k) nullV)) ∧ Below w.heap.size w wr)
        (fun _ i _ => y - (intOf i).toNat)
      case atStart =>
        refine ⟨0, a2, len - 1, c2, r, [], Nat.zero_le _, rfl, rfl, hB2, hc2, hc3, rfl, ?_, own1, B0⟩
        show _ = _
        cases readR y r <;> simp
      case round =>
        obtain ⟨k, a', len', cap', L, done, hk, rfl, rfl, hB', hc', hm', hdl, HR, own, hbel⟩ := hrel
        have hs := hbel.size
        have HDL := Lib.hid hdl
        have HB' := Lib.hid hB'
        clear hdl hB' B0 own1 hB2
        by_cases hlt : k < y
        · have HRK := Lib.hid HR.out
          cases hrv : readV L with
          | none =>
            have hcall : Calls Try.prog 34 #[.slice a' len' cap'] wr (RPost wr (⟨0, 0, ⟨#[]⟩⟩, 0)) := by
              have h := readValue_any a' len' cap' L wr (HB'.out.below hbel (Nat.le_refl _)) hc' hm'
              rw [hrv] at h
              exact h
            have HE : Hid (decOut (n :: r) = ([], 11)) := by
              show _ = _
              rw [HO.out, HR.out, show y - k = (y - k - 1) + 1 from by omega, readR_fail hrv]
              rfl
            have HC := Lib.hid hcall
            clear hrv hcall own
            go_wp2_with fail
            refine HC.out.mono ?_
            rintro e w1 ⟨rfl, hb1⟩
            have hs1 := hb1.size
            have hb2 := hbel.trans (hb1.mono hs)
            clear hb1 hbel
            go_wp2_with fail
            go_ret2
            exact ⟨.slice none 0 0, by rw [HE.out]; rfl, by rw [HE.out]; exact World.ownsRow_nil _ _ _ _, hb2.alloc (by omega) _⟩
          | some p =>
            obtain ⟨⟨vk, vn, vt⟩, sz⟩ := p
            obtain ⟨z1, z2, z3, z4⟩ := read_size hrv
            have hcall : Calls Try.prog 34 #[.slice a' len' cap'] wr (RPost wr (⟨vk, vn, vt⟩, sz)) := by
              have h := readValue_any a' len' cap' L wr (HB'.out.below hbel (Nat.le_refl _)) hc' hm'
              rw [hrv] at h
              exact h
            have HN : Hid (readR y r = (readR (y - (k + 1)) (L.drop sz)).map ((done ++ [⟨vk, vn, vt⟩]) ++ ·)) := by
              show _ = _
              rw [HR.out, show y - k = (y - (k + 1)) + 1 from by omega, readR_step hrv]
              cases readR (y - (k + 1)) (L.drop sz) <;> simp [Option.map]
            have HC := Lib.hid hcall
            have hd2 : ((sz : Int) == 0) = false := by simp; omega
            have hlen' : L.length = len' := HB'.out.1
            have hzl : sz ≤ len' := by omega
            obtain ⟨b', off', rfl⟩ : ∃ b' off', a' = some ⟨b', off', none⟩ := by
              rcases HB'.out.2 with h | ⟨b', off', h, _⟩
              · rw [h] at z2; simp at z2; omega
              · exact ⟨b', off', h⟩
            obtain ⟨a3, c3, hsl3, hB3, hc4, hc5⟩ := slice_tail sz (sz : Int) rfl HB'.out hzl hc' hm'
            have HB3 := Lib.hid hB3
            clear hrv hcall hlen' hB3 z2
            go_wp2_with fail
            refine HC.out.mono ?_
            rintro e w1 ⟨rfl, hb1⟩
            have hs1 := hb1.size
            have hkd : done.length = k := HDL.out
            have hrep : List.replicate (y - k) nullV = nullV :: List.replicate (y - (k + 1)) nullV := by
              rw [show y - k = (y - (k + 1)) + 1 from by omega]; rfl
            have own2 := (own_below own hb1).alloc (.cells #[.int .i64 vk, .int .i64 vn, .string vt] 23)
            rw [hrep] at own2
            have hat : (done ++ nullV :: List.replicate (y - (k + 1)) nullV)[k]? = some nullV := by rw [← hkd]; simp
            obtain ⟨f0, f1, f2⟩ := flat_at _ _ _ hat
            have g0 := (own2.cellAt (k * 3) (by omega)).trans f0
            have g1 := (own2.cellAt (k * 3 + 1) (by omega)).trans f1
            have g2 := (own2.cellAt (k * 3 + 2) (by omega)).trans f2
            have q0 := own2.frozenAt (k * 3)
            have q1 := own2.frozenAt (k * 3 + 1)
            have q2 := own2.frozenAt (k * 3 + 2)
            have hb2 := (hbel.trans (hb1.mono hs)).alloc (by omega) (.cells #[.int .i64 vk, .int .i64 vn, .string vt] 23)
            have own3 := (((own2.stored (k * 3) (.int .i64 vk)).1.stored (k * 3 + 1) (.int .i64 vn)).1.stored (k * 3 + 2) (.string vt)).1
            rw [← hkd, flat_set ⟨vk, vn, vt⟩ nullV, hkd] at own3
            have HB5 := Lib.hid (((hb2.setCell (p := ⟨w.heap.size, k * 3, none⟩) (Nat.le_refl _) (.int .i64 vk)).setCell (p := ⟨w.heap.size, k * 3 + 1, none⟩) (Nat.le_refl _) (.int .i64 vn)).setCell (p := ⟨w.heap.size, k * 3 + 2, none⟩) (Nat.le_refl _) (.string vt))
            have HOWN2 := Lib.hid own2
            have HOWN3 := Lib.hid own3
            clear own own2 own3 hrep hat f0 f1 f2 hb1 hbel hkd
            go_wp2_with fail
            refine ⟨⟨k + 1, a3, len' - sz, c3, L.drop sz, done ++ [⟨vk, vn, vt⟩], by omega, ?_, rfl, ?_, hc4, hc5, ?_, HN, HOWN3.out, HB5.out⟩, ?_⟩
            · go_num
            · exact HB3.out
            · rw [List.length_append, HDL.out]; rfl
            · simp [intOf]; omega
        · obtain rfl : k = y := by omega
          have HR0 : Hid (readR k r = (if L.length = 0 then some done else none)) := by
            show _ = _
            rw [HR.out, Nat.sub_self]
            simp only [readR]
            split <;> simp
          have hlen' : L.length = len' := HB'.out.1
          by_cases hz : len' = 0
          · have HE : Hid (decOut (n :: r) = (done, 0)) := by
              show _ = _
              rw [HO.out, HR0.out, if_pos (by omega)]
              rfl
            have hz2 : ¬ (0 : Int) < (len' : Int) := by omega
            rw [Nat.sub_self, List.replicate_zero, List.append_nil] at own
            clear hlen' hz
            go_wp2_with fail
            go_ret2
            exact ⟨.slice (some ⟨w.heap.size, 0, none⟩) k k, by rw [HE.out]; rfl, by rw [HE.out, HDL.out]; exact own, hbel⟩
          · have HE : Hid (decOut (n :: r) = ([], 11)) := by
              show _ = _
              rw [HO.out, HR0.out, if_neg (by omega)]
              rfl
            have hz2 : (0 : Int) < (len' : Int) := by omega
            clear hlen' hz own
            go_wp2_with fail
            go_ret2
            exact ⟨.slice none 0 0, by rw [HE.out]; rfl, by rw [HE.out]; exact World.ownsRow_nil _ _ _ _, hbel⟩

end Go.Proofs.Ytnmlbafhdnffgaa
