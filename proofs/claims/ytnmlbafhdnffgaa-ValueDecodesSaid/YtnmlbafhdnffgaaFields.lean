/-
  value.readFields and value.readValue: the value that bytes begin with.
-/
import Derived.Test.YtnmlbafhdnffgaaNumbers
import Derived.Laws.ResultCell
import Derived.Laws.IdiomStrings
set_option linter.unusedVariables false
namespace Go.Proofs.Ytnmlbafhdnffgaa
open Go.RowKit Wh

def fOut : Option (V × Nat) → V × Nat × Bool
  | none => (nullV, 0, false)
  | some (v, n) => (v, n, true)

def FPost (w : World) (o : V × Nat × Bool) (e : Ending) (w' : World) : Prop :=
  e = .returned (.tuple #[agg o.1.k o.1.n o.1.s, .int .i64 o.2.1, .bool o.2.2]) ∧ Below w.heap.size w w'

theorem conv_bytes {W : World} {b off c y : Nat} {l : List UInt8} (hy : l.length = y) (h : ∀ (j : Nat) (x : UInt8), l[j]? = some x → W.cell? ⟨b, off + j, none⟩ = some (B x)) :
    (convert 37 9 (.slice (some ⟨b, off, none⟩) y c)).run Try.prog W = .ok (.string ⟨l.toArray⟩) W := by
  subst hy
  refine run_convert_bytes_back W _ _ 5 ⟨b, off, none⟩ c l Try.underlying37 Try.underlying5 Try.underlying9 fun j hj => ?_
  have hadd : (⟨b, off, none⟩ : Addr).add j = ⟨b, off + j, none⟩ := by unfold Addr.add; split <;> simp_all
  rw [hadd]
  exact h j _ (List.getElem?_eq_getElem hj)

theorem fields_text (x : UInt8) (r : List UInt8) (h : x.toNat ≤ r.length) : fieldsOf 3 (x :: r) = some (⟨3, 0, ⟨(r.take x.toNat).toArray⟩⟩, 1 + x.toNat) := by
  simp [fieldsOf, h]

theorem fields_text_no (x : UInt8) (r : List UInt8) (h : ¬ x.toNat ≤ r.length) : fieldsOf 3 (x :: r) = none := by
  simp only [fieldsOf, h, if_false]
  simp

theorem readFields_text (a : Option Addr) (len cap : Nat) (l : List UInt8) (w : World) (hl : IsBytes w a len l) (hc : len ≤ cap) (hm : cap ≤ 9223372036854775807) :
    Calls Try.prog 40 #[.int .i64 3, .slice a len cap] w (FPost w (fOut (fieldsOf 3 l))) := by
  obtain ⟨hlen, hl⟩ := hl
  match l, hlen, hl with
  | [], hlen, _ =>
    obtain rfl : len = 0 := by simpa using hlen.symm
    go_enter Try.func40, Try.ntmps40
    go_wp2_with fail
    exact bodyPost_ret (v := .tuple #[agg 0 0 ⟨#[]⟩, .int .i64 0, .bool false]) (by simp [results, Try.results40, go_sem]) rfl ⟨rfl, (Below.refl _ _).alloc (Nat.le_refl _) _⟩
  | x :: r, hlen, hl =>
    rcases hl with h | ⟨b, off, rfl, hb, hat⟩
    · cases h
    have h0 : w.cell? ⟨b, off, none⟩ = some (.int .u8 x.toNat) := hat 0 x rfl
    have hx := x.toNat_lt
    have HL := Lib.hid hlen
    have hl1 : (0 : Int) < len := by simp at hlen; omega
    have HA := Lib.hid hat
    clear hat hlen
    by_cases hfit : x.toNat ≤ r.length
    · have hfit2 : (x.toNat : Int) ≤ (len : Int) - 1 := by have := HL.out; simp at this; omega
      have hne : ¬ b = w.heap.size := by omega
      have HF := Lib.hid (fields_text x r hfit)
      have hlr : Hid (len = r.length + 1) := by have := HL.out; simp at this; exact this.symm
      generalize hy : x.toNat = y at *
      have HY := Lib.hid hy
      clear hy
      have htk : (r.take y).length = y := by rw [List.length_take]; omega
      by_cases hcap : cap = 1
      · obtain rfl : y = 0 := by have := hlr.out; omega
        have hcv := conv_bytes (W := w.alloc (.cells #[.int .i64 3, .int .i64 0, .string ⟨#[]⟩] 23)) (b := b) (off := off) (c := 0) (y := 0) (l := []) rfl (fun j x h => by simp at h)
        clear htk
        go_enter Try.func40, Try.ntmps40
        go_wp2_with fail
        refine bodyPost_ret (v := .tuple #[agg 3 0 ⟨#[]⟩, .int .i64 1, .bool true]) (by simp [results, Try.results40, go_sem]) rfl ⟨?_, (Below.refl _ _).alloc (Nat.le_refl _) _⟩
        rw [HF.out]
        rfl
      · have hcv := conv_bytes (W := w.alloc (.cells #[.int .i64 3, .int .i64 0, .string ⟨#[]⟩] 23)) (b := b) (off := off + 1) (c := cap - 1) (y := y) (l := r.take y) htk (fun j x h => by
          have hj : j < y := by have := (List.getElem?_eq_some_iff.1 h).1; omega
          rw [List.getElem?_take_of_lt hj] at h
          have := HA.out (j + 1) x (by simpa using h)
          rw [((Below.refl w.heap.size w).alloc (Nat.le_refl _) _).cell (p := ⟨b, off + 1 + j, none⟩) hb, show off + 1 + j = off + (j + 1) from by omega]
          exact this)
        generalize (⟨(r.take y).toArray⟩ : ByteArray) = tx at hcv HF
        clear htk
        go_enter Try.func40, Try.ntmps40
        go_wp2_with fail
        refine bodyPost_ret (v := .tuple #[agg 3 0 tx, .int .i64 (1 + y), .bool true]) (by simp [results, Try.results40, go_sem]) rfl ⟨?_, (Below.refl _ _).alloc (Nat.le_refl _) _⟩
        rw [HF.out]
        simp [fOut]
    · have HF := Lib.hid (fields_text_no x r hfit)
      have hfit2 : ¬ (x.toNat : Int) ≤ (len : Int) - 1 := by have := HL.out; simp at this; omega
      have hne : ¬ b = w.heap.size := by omega
      clear hfit
      generalize hy : x.toNat = y at *
      have HY := Lib.hid hy
      clear hy
      go_enter Try.func40, Try.ntmps40
      go_wp2_with fail
      refine bodyPost_ret (v := .tuple #[agg 0 0 ⟨#[]⟩, .int .i64 0, .bool false]) (by simp [results, Try.results40, go_sem]) rfl ⟨?_, (Below.refl _ _).alloc (Nat.le_refl _) _⟩
      rw [HF.out]
      rfl


theorem readFields_null (a : Option Addr) (len cap : Nat) (l : List UInt8) (w : World) :
    Calls Try.prog 40 #[.int .i64 0, .slice a len cap] w (FPost w (fOut (fieldsOf 0 l))) := by
  go_enter Try.func40, Try.ntmps40
  go_wp2_with fail
  exact bodyPost_ret (v := .tuple #[agg 0 0 ⟨#[]⟩, .int .i64 0, .bool true]) (by simp [results, Try.results40, go_sem]) rfl ⟨rfl, (Below.refl _ _).alloc (Nat.le_refl _) _⟩

theorem readFields_other (k : UInt8) (h0 : ¬ k = 0) (h1 : ¬ k = 1) (h2 : ¬ k = 2) (h3 : ¬ k = 3) (h4 : ¬ k = 4) (a : Option Addr) (len cap : Nat) (l : List UInt8) (w : World) :
    Calls Try.prog 40 #[.int .i64 k.toNat, .slice a len cap] w (FPost w (fOut (fieldsOf k l))) := by
  have HF : Hid (fieldsOf k l = none) := by show _ = _; simp [fieldsOf, h0, h1, h2, h3, h4]
  have ne : ∀ m : UInt8, ¬ k = m → ¬ k.toNat = m.toNat := fun m h e => h (UInt8.toNat_inj.1 e)
  have e0 : ¬ k.toNat = 0 := ne 0 h0
  have e1 : ¬ k.toNat = 1 := ne 1 h1
  have e2 : ¬ k.toNat = 2 := ne 2 h2
  have e3 : ¬ k.toNat = 3 := ne 3 h3
  have e4 : ¬ k.toNat = 4 := ne 4 h4
  clear ne h0 h1 h2 h3 h4
  generalize fieldsOf k l = o at HF ⊢
  obtain rfl : o = none := HF.out
  generalize k.toNat = y at *
  clear HF
  go_enter Try.func40, Try.ntmps40
  go_wp2_with fail
  exact bodyPost_ret (v := .tuple #[agg 0 0 ⟨#[]⟩, .int .i64 0, .bool false]) (by simp [results, Try.results40, go_sem]) rfl ⟨rfl, (Below.refl _ _).alloc (Nat.le_refl _) _⟩

theorem readFields_bool (a : Option Addr) (len cap : Nat) (l : List UInt8) (w : World) (hl : IsBytes w a len l) (hc : len ≤ cap) (hm : cap ≤ 9223372036854775807) :
    Calls Try.prog 40 #[.int .i64 1, .slice a len cap] w (FPost w (fOut (fieldsOf 1 l))) := by
  obtain ⟨hlen, hl⟩ := hl
  match l, hlen, hl with
  | [], hlen, _ =>
    obtain rfl : len = 0 := by simpa using hlen.symm
    go_enter Try.func40, Try.ntmps40
    go_wp2_with fail
    exact bodyPost_ret (v := .tuple #[agg 0 0 ⟨#[]⟩, .int .i64 0, .bool false]) (by simp [results, Try.results40, go_sem]) rfl ⟨rfl, (Below.refl _ _).alloc (Nat.le_refl _) _⟩
  | x :: r, hlen, hl =>
    rcases hl with h | ⟨b, off, rfl, hb, hat⟩
    · cases h
    have h0 : w.cell? ⟨b, off, none⟩ = some (.int .u8 x.toNat) := hat 0 x rfl
    have hx := x.toNat_lt
    have hl1 : (0 : Int) < len := by simp at hlen; omega
    have HA := Lib.hid hat
    have hne : ¬ b = w.heap.size := by omega
    have HF : Hid (fieldsOf 1 (x :: r) = some (⟨1, x.toNat, ⟨#[]⟩⟩, 1)) := by show _ = _; simp [fieldsOf]
    clear hat hlen
    generalize fieldsOf 1 (x :: r) = o at HF ⊢
    generalize hy : x.toNat = y at *
    have HY := Lib.hid hy
    clear hy
    go_enter Try.func40, Try.ntmps40
    go_wp2_with fail
    refine bodyPost_ret (v := .tuple #[agg 1 y ⟨#[]⟩, .int .i64 1, .bool true]) (by simp [results, Try.results40, go_sem]) rfl ⟨?_, (Below.refl _ _).alloc (Nat.le_refl _) _⟩
    rw [HF.out]
    rfl

theorem four_or (l : List UInt8) : (∃ x0 x1 x2 x3 r, l = x0 :: x1 :: x2 :: x3 :: r) ∨ l.length < 4 := by
  match l with
  | [] => right; decide
  | [_] => right; simp
  | [_, _] => right; simp
  | [_, _, _] => right; simp
  | x0 :: x1 :: x2 :: x3 :: r => exact .inl ⟨x0, x1, x2, x3, r, rfl⟩

theorem fields_short (k : UInt8) (hk : k = 2 ∨ k = 4) (l : List UInt8) (h : l.length < 4) : fieldsOf k l = none := by
  match l, h with
  | [], _ => rcases hk with rfl | rfl <;> simp [fieldsOf]
  | [_], _ => rcases hk with rfl | rfl <;> simp [fieldsOf]
  | [_, _], _ => rcases hk with rfl | rfl <;> simp [fieldsOf]
  | [_, _, _], _ => rcases hk with rfl | rfl <;> simp [fieldsOf]

theorem four_stores {W : World} {b : Nat} {u0 u1 u2 k n s : Value} (c0 : W.cell? ⟨b, 0, none⟩ = some u0) (c1 : W.cell? ⟨b, 1, none⟩ = some u1) (c2 : W.cell? ⟨b, 2, none⟩ = some u2) :
    ((((W.setCell ⟨b, 1, none⟩ n).setCell ⟨b, 0, none⟩ k).setCell ⟨b, 1, none⟩ n).setCell ⟨b, 2, none⟩ s).cell? ⟨b, 0, none⟩ = some k ∧
    ((((W.setCell ⟨b, 1, none⟩ n).setCell ⟨b, 0, none⟩ k).setCell ⟨b, 1, none⟩ n).setCell ⟨b, 2, none⟩ s).cell? ⟨b, 1, none⟩ = some n ∧
    ((((W.setCell ⟨b, 1, none⟩ n).setCell ⟨b, 0, none⟩ k).setCell ⟨b, 1, none⟩ n).setCell ⟨b, 2, none⟩ s).cell? ⟨b, 2, none⟩ = some s := by
  have n01 : (⟨b, 0, none⟩ : Addr) ≠ ⟨b, 1, none⟩ := by simp
  have n02 : (⟨b, 0, none⟩ : Addr) ≠ ⟨b, 2, none⟩ := by simp
  have n12 : (⟨b, 1, none⟩ : Addr) ≠ ⟨b, 2, none⟩ := by simp
  have a1 : (W.setCell ⟨b, 1, none⟩ n).cell? ⟨b, 1, none⟩ = some n := World.cell?_setCell_same _ _ _ c1
  have a0 : (W.setCell ⟨b, 1, none⟩ n).cell? ⟨b, 0, none⟩ = some u0 := (World.cell?_setCell_other _ _ _ _ n01.symm).trans c0
  have a2 : (W.setCell ⟨b, 1, none⟩ n).cell? ⟨b, 2, none⟩ = some u2 := (World.cell?_setCell_other _ _ _ _ n12).trans c2
  have b0 : ((W.setCell ⟨b, 1, none⟩ n).setCell ⟨b, 0, none⟩ k).cell? ⟨b, 0, none⟩ = some k := World.cell?_setCell_same _ _ _ a0
  have b1 : ((W.setCell ⟨b, 1, none⟩ n).setCell ⟨b, 0, none⟩ k).cell? ⟨b, 1, none⟩ = some n := (World.cell?_setCell_other _ _ _ _ n01).trans a1
  have b2 : ((W.setCell ⟨b, 1, none⟩ n).setCell ⟨b, 0, none⟩ k).cell? ⟨b, 2, none⟩ = some u2 := (World.cell?_setCell_other _ _ _ _ n02).trans a2
  have d0 : (((W.setCell ⟨b, 1, none⟩ n).setCell ⟨b, 0, none⟩ k).setCell ⟨b, 1, none⟩ n).cell? ⟨b, 0, none⟩ = some k := (World.cell?_setCell_other _ _ _ _ n01.symm).trans b0
  have d1 : (((W.setCell ⟨b, 1, none⟩ n).setCell ⟨b, 0, none⟩ k).setCell ⟨b, 1, none⟩ n).cell? ⟨b, 1, none⟩ = some n := World.cell?_setCell_same _ _ _ b1
  have d2 : (((W.setCell ⟨b, 1, none⟩ n).setCell ⟨b, 0, none⟩ k).setCell ⟨b, 1, none⟩ n).cell? ⟨b, 2, none⟩ = some u2 := (World.cell?_setCell_other _ _ _ _ n12).trans b2
  exact ⟨(World.cell?_setCell_other _ _ _ _ n02.symm).trans d0, (World.cell?_setCell_other _ _ _ _ n12.symm).trans d1, World.cell?_setCell_same _ _ _ d2⟩

theorem readFields_int (a : Option Addr) (len cap : Nat) (l : List UInt8) (w : World) (hl : IsBytes w a len l) (hc : len ≤ cap) (hm : cap ≤ 9223372036854775807) :
    Calls Try.prog 40 #[.int .i64 2, .slice a len cap] w (FPost w (fOut (fieldsOf 2 l))) := by
  obtain ⟨hlen, hl⟩ := hl
  rcases four_or l with ⟨x0, x1, x2, x3, r, rfl⟩ | h4
  · rcases hl with h | ⟨b, off, rfl, hb, hat⟩
    · cases h
    have h0 : w.cell? ⟨b, off, none⟩ = some (B x0) := hat 0 x0 rfl
    have h1 : w.cell? ⟨b, off + 1, none⟩ = some (B x1) := hat 1 x1 rfl
    have h2 : w.cell? ⟨b, off + 2, none⟩ = some (B x2) := hat 2 x2 rfl
    have h3 : w.cell? ⟨b, off + 3, none⟩ = some (B x3) := hat 3 x3 rfl
    have hl4 : 4 ≤ len := by simp at hlen; omega
    have HA := Lib.hid hat
    have hne : ¬ b = w.heap.size := by omega
    have HF : Hid (fieldsOf 2 (x0 :: x1 :: x2 :: x3 :: r) = some (⟨2, num4 x0 x1 x2 x3 - 1073741824, ⟨#[]⟩⟩, 4)) := by show _ = _; simp [fieldsOf]
    have N0 : 0 ≤ num4 x0 x1 x2 x3 := by unfold num4; omega
    have N1 : num4 x0 x1 x2 x3 < 4294967296 := by
      have := x0.toNat_lt
      have := x1.toNat_lt
      have := x2.toNat_lt
      have := x3.toNat_lt
      unfold num4
      omega
    have hN := fun W (q0 : W.cell? ⟨b, off, none⟩ = some (B x0)) (q1 : W.cell? ⟨b, off + 1, none⟩ = some (B x1)) (q2 : W.cell? ⟨b, off + 2, none⟩ = some (B x2)) (q3 : W.cell? ⟨b, off + 3, none⟩ = some (B x3)) =>
      readNumber_any b off len cap x0 x1 x2 x3 W hl4 q0 q1 q2 q3
    generalize fieldsOf 2 (x0 :: x1 :: x2 :: x3 :: r) = o at HF ⊢
    generalize num4 x0 x1 x2 x3 = y at *
    have HN := Lib.hid hN
    clear hN hat hlen
    have BA : ∀ o, Below w.heap.size w (w.alloc o) := fun o => (Below.refl _ _).alloc (Nat.le_refl _) _
    go_enter Try.func40, Try.ntmps40
    go_wp2_with fail
    refine (HN.out _ (cell_later (BA _) h0) (cell_later (BA _) h1) (cell_later (BA _) h2) (cell_later (BA _) h3)).mono ?_
    rintro e w1 ⟨rfl, hb1⟩
    obtain ⟨hc1, hf1⟩ := bcell hb1
    have hs1 : w.heap.size < w1.heap.size := by have := hb1.size; simp at this; omega
    have hB1 : Below w.heap.size w w1 := (BA _).trans (hb1.mono (by simp))
    clear h0 h1 h2 h3 BA
    go_wp2_with fail
    have cc : ∀ j v, (w.alloc (.cells #[.int .i64 2, .int .i64 0, .string ⟨#[]⟩] 23)).cell? ⟨w.heap.size, j, none⟩ = some v → w1.cell? ⟨w.heap.size, j, none⟩ = some v := fun j v h => cell_later hb1 h
    obtain ⟨f0, f1, f2⟩ := four_stores (n := .int .i64 (y - 1073741824)) (k := .int .i64 2) (s := .string ⟨#[]⟩) (cc 0 _ (cell_of_row _ _ _ _ _ _ (heap_alloc_new w _))) (cc 1 _ (cell_of_row _ _ _ _ _ _ (heap_alloc_new w _))) (cc 2 _ (cell_of_row _ _ _ _ _ _ (heap_alloc_new w _)))
    refine bodyPost_ret (v := .tuple #[agg 2 (y - 1073741824) ⟨#[]⟩, .int .i64 4, .bool true]) (by simp [results, Try.results40, go_sem, f0, f1, f2]) rfl ⟨?_, ?_⟩
    · rw [HF.out]
      rfl
    · exact (((hB1.setCell (Nat.le_refl _) _).setCell (Nat.le_refl _) _).setCell (Nat.le_refl _) _).setCell (Nat.le_refl _) _
  · have HF := Lib.hid (fields_short 2 (by simp) l h4)
    have hl4 : ¬ (4 : Int) ≤ len := by omega
    generalize fieldsOf 2 l = o at HF ⊢
    obtain rfl : o = none := HF.out
    clear HF hl h4 hlen
    go_enter Try.func40, Try.ntmps40
    go_wp2_with fail
    exact bodyPost_ret (v := .tuple #[agg 0 0 ⟨#[]⟩, .int .i64 0, .bool false]) (by simp [results, Try.results40, go_sem]) rfl ⟨rfl, (Below.refl _ _).alloc (Nat.le_refl _) _⟩

theorem readFields_time (a : Option Addr) (len cap : Nat) (l : List UInt8) (w : World) (hl : IsBytes w a len l) (hc : len ≤ cap) (hm : cap ≤ 9223372036854775807) :
    Calls Try.prog 40 #[.int .i64 4, .slice a len cap] w (FPost w (fOut (fieldsOf 4 l))) := by
  obtain ⟨hlen, hl⟩ := hl
  rcases four_or l with ⟨x0, x1, x2, x3, r, rfl⟩ | h4
  · rcases hl with h | ⟨b, off, rfl, hb, hat⟩
    · cases h
    have h0 : w.cell? ⟨b, off, none⟩ = some (B x0) := hat 0 x0 rfl
    have h1 : w.cell? ⟨b, off + 1, none⟩ = some (B x1) := hat 1 x1 rfl
    have h2 : w.cell? ⟨b, off + 2, none⟩ = some (B x2) := hat 2 x2 rfl
    have h3 : w.cell? ⟨b, off + 3, none⟩ = some (B x3) := hat 3 x3 rfl
    have hl4 : 4 ≤ len := by simp at hlen; omega
    have HA := Lib.hid hat
    have hne : ¬ b = w.heap.size := by omega
    have HF : Hid (fieldsOf 4 (x0 :: x1 :: x2 :: x3 :: r) = some (⟨4, num4 x0 x1 x2 x3, ⟨#[]⟩⟩, 4)) := by show _ = _; simp [fieldsOf]
    have N0 : 0 ≤ num4 x0 x1 x2 x3 := by unfold num4; omega
    have N1 : num4 x0 x1 x2 x3 < 4294967296 := by
      have := x0.toNat_lt
      have := x1.toNat_lt
      have := x2.toNat_lt
      have := x3.toNat_lt
      unfold num4
      omega
    have hN := fun W (q0 : W.cell? ⟨b, off, none⟩ = some (B x0)) (q1 : W.cell? ⟨b, off + 1, none⟩ = some (B x1)) (q2 : W.cell? ⟨b, off + 2, none⟩ = some (B x2)) (q3 : W.cell? ⟨b, off + 3, none⟩ = some (B x3)) =>
      readNumber_any b off len cap x0 x1 x2 x3 W hl4 q0 q1 q2 q3
    generalize fieldsOf 4 (x0 :: x1 :: x2 :: x3 :: r) = o at HF ⊢
    generalize num4 x0 x1 x2 x3 = y at *
    have HN := Lib.hid hN
    clear hN hat hlen
    have BA : ∀ o, Below w.heap.size w (w.alloc o) := fun o => (Below.refl _ _).alloc (Nat.le_refl _) _
    go_enter Try.func40, Try.ntmps40
    go_wp2_with fail
    refine (HN.out _ (cell_later (BA _) h0) (cell_later (BA _) h1) (cell_later (BA _) h2) (cell_later (BA _) h3)).mono ?_
    rintro e w1 ⟨rfl, hb1⟩
    obtain ⟨hc1, hf1⟩ := bcell hb1
    have hs1 : w.heap.size < w1.heap.size := by have := hb1.size; simp at this; omega
    have hB1 : Below w.heap.size w w1 := (BA _).trans (hb1.mono (by simp))
    clear h0 h1 h2 h3 BA
    go_wp2_with fail
    have cc : ∀ j v, (w.alloc (.cells #[.int .i64 4, .int .i64 0, .string ⟨#[]⟩] 23)).cell? ⟨w.heap.size, j, none⟩ = some v → w1.cell? ⟨w.heap.size, j, none⟩ = some v := fun j v h => cell_later hb1 h
    obtain ⟨f0, f1, f2⟩ := four_stores (n := .int .i64 y) (k := .int .i64 4) (s := .string ⟨#[]⟩) (cc 0 _ (cell_of_row _ _ _ _ _ _ (heap_alloc_new w _))) (cc 1 _ (cell_of_row _ _ _ _ _ _ (heap_alloc_new w _))) (cc 2 _ (cell_of_row _ _ _ _ _ _ (heap_alloc_new w _)))
    refine bodyPost_ret (v := .tuple #[agg 4 y ⟨#[]⟩, .int .i64 4, .bool true]) (by simp [results, Try.results40, go_sem, f0, f1, f2]) rfl ⟨?_, ?_⟩
    · rw [HF.out]
      rfl
    · exact (((hB1.setCell (Nat.le_refl _) _).setCell (Nat.le_refl _) _).setCell (Nat.le_refl _) _).setCell (Nat.le_refl _) _
  · have HF := Lib.hid (fields_short 4 (by simp) l h4)
    have hl4 : ¬ (4 : Int) ≤ len := by omega
    generalize fieldsOf 4 l = o at HF ⊢
    obtain rfl : o = none := HF.out
    clear HF hl h4 hlen
    go_enter Try.func40, Try.ntmps40
    go_wp2_with fail
    exact bodyPost_ret (v := .tuple #[agg 0 0 ⟨#[]⟩, .int .i64 0, .bool false]) (by simp [results, Try.results40, go_sem]) rfl ⟨rfl, (Below.refl _ _).alloc (Nat.le_refl _) _⟩

/-- readFields returns the struct that follows, for any kind that a byte gives. -/
theorem readFields_any (k : UInt8) (a : Option Addr) (len cap : Nat) (l : List UInt8) (w : World) (hl : IsBytes w a len l) (hc : len ≤ cap) (hm : cap ≤ 9223372036854775807) :
    Calls Try.prog 40 #[.int .i64 k.toNat, .slice a len cap] w (FPost w (fOut (fieldsOf k l))) := by
  by_cases h0 : k = 0
  · subst h0; exact readFields_null a len cap l w
  by_cases h1 : k = 1
  · subst h1; exact readFields_bool a len cap l w hl hc hm
  by_cases h2 : k = 2
  · subst h2; exact readFields_int a len cap l w hl hc hm
  by_cases h3 : k = 3
  · subst h3; exact readFields_text a len cap l w hl hc hm
  by_cases h4 : k = 4
  · subst h4; exact readFields_time a len cap l w hl hc hm
  exact readFields_other k h0 h1 h2 h3 h4 a len cap l w

end Go.Proofs.Ytnmlbafhdnffgaa
