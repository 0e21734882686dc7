/-
  Rows of values in memory, and what value.Encode returns.
-/
import Derived.Test.YtnmlbafhdnffgaaApp
import Derived.LoopTactic
import Derived.OwnWalk
set_option linter.unusedVariables false
namespace Go.Proofs.Ytnmlbafhdnffgaa
open Go.RowKit Wh

/-- From the cell (b, off) on lie the values vs. -/
def ValsAt (w : World) (b off : Nat) (vs : List V) : Prop :=
  ∀ i v, vs[i]? = some v → w.cell? ⟨b, off + i * 3, none⟩ = some (.int .i64 v.k) ∧ w.cell? ⟨b, off + i * 3 + 1, none⟩ = some (.int .i64 v.n) ∧ w.cell? ⟨b, off + i * 3 + 2, none⟩ = some (.string v.s)

/-- The slice (a, len) has the values vs. -/
def IsVals (w : World) (a : Option Addr) (len : Nat) (vs : List V) : Prop :=
  vs.length = len ∧ (vs = [] ∨ ∃ b off, a = some ⟨b, off, none⟩ ∧ b < w.heap.size ∧ ValsAt w b off vs)

theorem ValsAt.below {w w' : World} {b off B : Nat} {vs : List V} (h : ValsAt w b off vs) (hb : Below B w w') (hB : b < B) : ValsAt w' b off vs := by
  intro i v hv
  have e : ∀ o, w'.cell? ⟨b, o, none⟩ = w.cell? ⟨b, o, none⟩ := fun o => hb.cell (p := ⟨b, o, none⟩) hB
  rw [e, e, e]
  exact h i v hv

theorem own_below {W w1 : World} {base E sz n : Nat} {v : Value} {xs : List Value} (h : W.ownsRow base E sz v n xs) (hb : Below W.heap.size W w1) : w1.ownsRow base E sz v n xs := by
  refine h.kept (row := none) ⟨hb.os, hb.tape, hb.output, hb.size, fun k hk _ => hb.block k hk⟩ ?_
  cases e : v.ownBlock with
  | none => exact .inl rfl
  | some g => exact .inr (by simp)

def allValid (vs : List V) : Bool := vs.all fun v => validB v.k v.n v.s

/-- The bytes and the error that encoding a row gives. -/
def encOut (vs : List V) : List UInt8 × Int :=
  if 12 < vs.length then ([], 2) else if allValid vs = true then (encR vs, 0) else ([], 8)

theorem allValid_of {vs : List V} (h : ∀ v, v ∈ vs → validB v.k v.n v.s = true) : allValid vs = true := by
  simpa [allValid] using h

theorem not_allValid {vs : List V} {k : Nat} {v : V} (hv : vs[k]? = some v) (h : ¬ validB v.k v.n v.s = true) : ¬ allValid vs = true := by
  intro hc
  simp only [allValid, List.all_eq_true] at hc
  exact h (hc v (List.mem_of_getElem? hv))

def EncPost (w : World) (out : List UInt8 × Int) (e : Ending) (w' : World) : Prop :=
  ∃ bv : Value, e = .returned (.tuple #[bv, .int .i64 out.2]) ∧ w'.ownsRow w.heap.size 5 1 bv out.1.length (out.1.map B) ∧ Below w.heap.size w w'

set_option maxHeartbeats 400000 in
theorem encode_any (a : Option Addr) (len cap : Nat) (vs : List V) (w : World) (hvs : IsVals w a len vs) (hl : len ≤ 9223372036854775807) :
    Calls Try.prog 21 #[.slice a len cap] w (EncPost w (encOut vs)) := by
  obtain ⟨hlen, hvs⟩ := hvs
  by_cases h12 : 12 < len
  · have ho : encOut vs = ([], 2) := by unfold encOut; rw [if_pos (by omega)]
    have HO := Lib.hid ho
    have HL := Lib.hid hlen
    clear ho hlen hvs
    go_enter Try.func21, Try.ntmps21
    go_wp2
    go_ret2
    exact ⟨.slice none 0 0, by rw [HO.out]; rfl, by rw [HO.out]; exact World.ownsRow_nil _ _ _ _, Below.refl _ _⟩
  · have HL := Lib.hid hlen
    clear hlen
    obtain ⟨i0, hi, hz0, hz1, hz2⟩ := info_parts info_u8
    have hd : decide (12 < (len : Int)) = false := by simp; omega
    go_enter Try.func21, Try.ntmps21
    go_wp2_with fail
    go_loopw [4, 16] (fun bv iv wr => ∃ k : Nat, k ≤ len ∧ iv = .int .i64 k ∧ (∀ v, v ∈ vs.take k → validB v.k v.n v.s = true) ∧
        wr.ownsRow w.heap.size 5 1 bv (UInt8.ofNat len :: (vs.take k).flatMap encV).length ((UInt8.ofNat len :: (vs.take k).flatMap encV).map B) ∧ Below w.heap.size w wr)
      (fun _ i _ => len - (intOf i).toNat)
    case atStart =>
      refine ⟨0, Nat.zero_le _, rfl, by simp, ?_, (Below.refl _ _).alloc (Nat.le_refl _) _⟩
      have e : ((UInt8.ofNat len :: (vs.take 0).flatMap encV).map B) = [.int .u8 len] := by
        simp only [List.take_zero, List.flatMap_nil, List.map_cons, List.map_nil]
        congr 1
        unfold B
        rw [UInt8.toNat_ofNat']
        congr 1
        omega
      rw [e]
      exact ⟨rfl, .inr ⟨w.heap.size, 1, #[.int .u8 len], rfl, Nat.le_refl _, heap_alloc_new w _, Nat.le_refl _, by simp [maxLen], rfl, rfl⟩⟩
    case round =>
      obtain ⟨k, hk, rfl, hval, hown, hbel⟩ := hrel
      by_cases hlt : k < len
      · obtain ⟨v, hv⟩ : ∃ v, vs[k]? = some v := ⟨_, List.getElem?_eq_getElem (by have := HL.out; omega)⟩
        rcases hvs with rfl | ⟨b, off, rfl, hb, hat⟩
        · simp at hv
        obtain ⟨hc0, hc1, hc2⟩ := (hat.below hbel hb) k v hv
        have HV := Lib.hid hv
        have HA := Lib.hid hat
        clear hv hat
        by_cases hvv : validB v.k v.n v.s = true
        · have hs := hbel.size
          go_wp2_with fail
          refine (valid_any _ _ _ _).mono ?_
          rintro e w1 ⟨rfl, hb1⟩
          obtain ⟨hc, hf⟩ := bcell hb1
          have hs1 := hb1.size
          have hown1 := own_below (hown.alloc _) hb1
          have hlk : (vs.take k).length ≤ k := List.length_take_le _ _
          have hfl := flat_len hval
          go_wp2_with fail
          refine (appendValue_any w.heap.size _ _ _ v hvv _ hown1 (by simp at hs1; omega) (by simp only [List.length_cons]; omega)).mono ?_
          rintro e w2 ⟨v2, rfl, hown2, hB2⟩
          have hB : Below w.heap.size w w2 := ((hbel.alloc hs _).trans (hb1.mono (by simp; omega))).trans hB2
          have HN := Lib.hid (take_next HV.out)
          have hval2 : ∀ x, x ∈ vs.take (k + 1) → validB x.k x.n x.s = true := by
            rw [HN.out]
            intro x hx
            rcases List.mem_append.1 hx with hx | hx
            · exact hval x hx
            · simp only [List.mem_singleton] at hx
              subst hx
              exact hvv
          have hown3 : w2.ownsRow w.heap.size 5 1 v2 (UInt8.ofNat len :: (vs.take (k + 1)).flatMap encV).length ((UInt8.ofNat len :: (vs.take (k + 1)).flatMap encV).map B) := by
            have e : UInt8.ofNat len :: (vs.take (k + 1)).flatMap encV = (UInt8.ofNat len :: (vs.take k).flatMap encV) ++ encV v := by rw [HN.out]; simp
            rw [e, List.length_append, List.map_append]
            exact hown2
          clear hown hown1 hown2 hval hbel hb1 hB2 hc hf hc0 hc1 hc2
          go_wp2_with fail
          go_roundw
          case rel => exact ⟨k + 1, by omega, by go_num, hval2, hown3, hB⟩
          case measure => simp [intOf]; omega
        · have hs := hbel.size
          have HO : Hid (encOut vs = ([], 8)) := by
            show _ = _
            unfold encOut
            rw [if_neg (by have := HL.out; omega), if_neg (not_allValid HV.out hvv)]
          have hvf : validB v.k v.n v.s = false := by simpa using hvv
          clear hvv
          go_wp2_with fail
          refine (valid_any _ _ _ _).mono ?_
          rintro e w1 ⟨rfl, hb1⟩
          go_wp2_with fail
          go_ret2
          exact ⟨.slice none 0 0, by rw [HO.out]; rfl, by rw [HO.out]; exact World.ownsRow_nil _ _ _ _, (hbel.alloc hs _).trans (hb1.mono (by simp; omega))⟩
      · have hkl : k = len := by omega
        have HO : Hid (encOut vs = (encR vs, 0)) := by
          show _ = _
          have hv2 : allValid vs = true := by
            apply allValid_of
            intro v hv
            exact hval v (by rw [hkl, ← HL.out, List.take_length]; exact hv)
          unfold encOut
          rw [if_neg (by have := HL.out; omega), if_pos hv2]
        have hR : Hid (UInt8.ofNat len :: (vs.take k).flatMap encV = encR vs) := by
          show _ = _
          unfold encR
          rw [hkl, ← HL.out, List.take_length]
        have HX := Lib.hid hown
        clear hown hval
        clear hkl
        go_wp2_with fail
        go_ret2
        exact ⟨u4, by rw [HO.out]; rfl, by rw [HO.out]; have := HX.out; rw [hR.out] at this; exact this, hbel⟩
end Go.Proofs.Ytnmlbafhdnffgaa
