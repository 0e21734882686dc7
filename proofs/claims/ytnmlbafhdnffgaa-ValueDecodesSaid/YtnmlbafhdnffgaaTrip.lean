/-
  Decoding gives back what was encoded, and no encoding begins with another one. No program is imported.
-/
import Derived.Test.YtnmlbafhdnffgaaDec
set_option linter.unusedVariables false
namespace Wh
open Go

theorem empty_of {s : ByteArray} (h : s.toList.isEmpty = true) : s = ⟨#[]⟩ := by
  rw [Lib.toList_data] at h
  apply ByteArray.ext
  apply Array.toList_inj.1
  simpa using h

theorem byte_toNat {m : Nat} (h : m < 256) : (UInt8.ofNat m).toNat = m := by
  rw [UInt8.toNat_ofNat']
  omega

theorem num4_four {x : Int} (h0 : 0 ≤ x) (h1 : x < 4294967296) : num4 (UInt8.ofNat (x / 16777216).toNat) (UInt8.ofNat (x / 65536).toNat) (UInt8.ofNat (x / 256).toNat) (UInt8.ofNat x.toNat) = x := by
  unfold num4
  simp only [UInt8.toNat_ofNat']
  omega

theorem read_enc {v : V} (h : validB v.k v.n v.s = true) (r : List UInt8) : readV (encV v ++ r) = some (v, (encV v).length) := by
  obtain ⟨k, n, s⟩ := v
  have hv : validB k n s = true := h
  rcases valid_cases hv with ⟨rfl, rfl, hs⟩ | ⟨rfl, rfl, hs⟩ | ⟨rfl, rfl, hs⟩ | ⟨rfl, h1, h2, hs⟩ | ⟨rfl, rfl, hs⟩ | ⟨rfl, h1, h2, hs⟩
  · obtain rfl := empty_of hs
    simp [encV, readV, fieldsOf, hv]
  · obtain rfl := empty_of hs
    simp [encV, readV, fieldsOf, hv]
  · obtain rfl := empty_of hs
    simp [encV, readV, fieldsOf, hv]
  · obtain rfl := empty_of hs
    have e := num4_four (x := n + 1073741824) (by omega) (by omega)
    have e2 : n + 1073741824 - 1073741824 = n := by omega
    simp [encV, readV, fieldsOf, four, e, e2, hv]
  · have e := byte_toNat (m := s.size) (by omega)
    have hl : s.data.toList.length = s.size := rfl
    simp [encV, readV, fieldsOf, e, hl, hv]
    omega
  · obtain rfl := empty_of hs
    have e := num4_four (x := n) (by omega) (by omega)
    simp [encV, readV, fieldsOf, four, e, hv]

theorem readR_enc : ∀ {vs : List V}, (∀ v, v ∈ vs → validB v.k v.n v.s = true) → readR vs.length (vs.flatMap encV) = some vs
  | [], _ => by simp [readR]
  | v :: vs, h => by
    have ih := readR_enc (vs := vs) fun x hx => h x (by simp [hx])
    simp only [List.flatMap_cons, List.length_cons, readR]
    rw [read_enc (h v (by simp))]
    simp only [List.drop_left, ih]

theorem decOut_enc {vs : List V} (h : ∀ v, v ∈ vs → validB v.k v.n v.s = true) (hl : vs.length ≤ 12) : decOut (encR vs) = (vs, 0) := by
  unfold encR
  simp only [decOut]
  rw [byte_toNat (by omega), if_neg (by omega), readR_enc h]

theorem enc_inj : ∀ {as bs : List V} {t : List UInt8}, (∀ v, v ∈ as → validB v.k v.n v.s = true) → (∀ v, v ∈ bs → validB v.k v.n v.s = true) → as.length = bs.length →
    as.flatMap encV ++ t = bs.flatMap encV → as = bs
  | [], [], _, _, _, _, _ => rfl
  | a :: as, b :: bs, t, ha, hb, hl, he => by
    simp only [List.flatMap_cons, List.append_assoc] at he
    have r1 := read_enc (ha a (by simp)) (as.flatMap encV ++ t)
    have r2 := read_enc (hb b (by simp)) (bs.flatMap encV)
    rw [he, r2] at r1
    simp only [Option.some.injEq, Prod.mk.injEq] at r1
    obtain ⟨rfl, _⟩ := r1
    rw [enc_inj (as := as) (bs := bs) (t := t) (fun x hx => ha x (by simp [hx])) (fun x hx => hb x (by simp [hx])) (by simpa using hl) (List.append_cancel_left he)]

theorem encR_inj {as bs : List V} {t : List UInt8} (ha : ∀ v, v ∈ as → validB v.k v.n v.s = true) (hb : ∀ v, v ∈ bs → validB v.k v.n v.s = true) (la : as.length ≤ 12) (lb : bs.length ≤ 12)
    (he : encR as ++ t = encR bs) : as = bs := by
  unfold encR at he
  simp only [List.cons_append, List.cons.injEq] at he
  obtain ⟨h0, h1⟩ := he
  have h2 := congrArg UInt8.toNat h0
  rw [byte_toNat (by omega), byte_toNat (by omega)] at h2
  exact enc_inj ha hb h2 h1

end Wh
