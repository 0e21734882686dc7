/-
  value.readValue: the value that bytes begin with, and its size.
-/
import Derived.Test.YtnmlbafhdnffgaaFields
import Derived.Deep.RegionHeld3
set_option linter.unusedVariables false
namespace Go.Proofs.Ytnmlbafhdnffgaa
open Go.RowKit Wh

def rOut : Option (V × Nat) → V × Nat
  | none => (nullV, 0)
  | some (v, n) => (v, n)

def RPost (w : World) (o : V × Nat) (e : Ending) (w' : World) : Prop :=
  e = .returned (.tuple #[agg o.1.k o.1.n o.1.s, .int .i64 o.2]) ∧ Below w.heap.size w w'

theorem IsBytes.below {w w' : World} {a : Option Addr} {len B : Nat} {l : List UInt8} (h : IsBytes w a len l) (hb : Below B w w') (hB : w.heap.size ≤ B) : IsBytes w' a len l := by
  obtain ⟨h1, h2⟩ := h
  refine ⟨h1, ?_⟩
  rcases h2 with h2 | ⟨b, off, ha, hlt, hc⟩
  · exact .inl h2
  · refine .inr ⟨b, off, ha, by have := hb.size; omega, fun i x hx => ?_⟩
    rw [hb.cell (p := ⟨b, off + i, none⟩) (by show b < B; omega)]
    exact hc i x hx

/-- The bytes behind the first n. -/
theorem IsBytes.tail {w : World} {b off len n : Nat} {l : List UInt8} (h : IsBytes w (some ⟨b, off, none⟩) len l) (hn : n ≤ len) : IsBytes w (some ⟨b, off + n, none⟩) (len - n) (l.drop n) := by
  obtain ⟨h1, h2⟩ := h
  refine ⟨by rw [List.length_drop]; omega, ?_⟩
  rcases h2 with rfl | ⟨b', off', ha, hlt, hc⟩
  · exact .inl (by simp)
  · cases ha
    refine .inr ⟨b, off + n, rfl, hlt, fun i x hx => ?_⟩
    rw [List.getElem?_drop] at hx
    have := hc _ x hx
    rw [show off + n + i = off + (n + i) from by omega]
    exact this

theorem IsBytes.none {w : World} {a : Option Addr} {l : List UInt8} (h : l = []) : IsBytes w a 0 l := ⟨by rw [h]; rfl, .inl h⟩

theorem read_no {k : UInt8} {r : List UInt8} {v : V} {sz : Nat} (h : fOut (fieldsOf k r) = (v, sz, false)) : rOut (readV (k :: r)) = (nullV, 0) := by
  cases hf : fieldsOf k r with
  | none => simp [readV, hf, rOut]
  | some x => rw [hf] at h; obtain ⟨_, _⟩ := x; simp [fOut] at h

theorem read_yes {k : UInt8} {r : List UInt8} {v : V} {sz : Nat} (h : fOut (fieldsOf k r) = (v, sz, true)) : sz ≤ 256 ∧ rOut (readV (k :: r)) = if validB v.k v.n v.s = true then (v, 1 + sz) else (nullV, 0) := by
  cases hf : fieldsOf k r with
  | none => rw [hf] at h; simp [fOut] at h
  | some x =>
    obtain ⟨u, m⟩ := x
    have hs := fields_size hf
    rw [hf] at h
    simp only [fOut, Prod.mk.injEq, and_true] at h
    obtain ⟨rfl, rfl⟩ := h
    refine ⟨hs.2, ?_⟩
    simp only [readV, hf]
    split <;> rfl

theorem three_stores {W : World} {b : Nat} {u0 u1 u2 k n s : Value} (c0 : W.cell? ⟨b, 0, none⟩ = some u0) (c1 : W.cell? ⟨b, 1, none⟩ = some u1) (c2 : W.cell? ⟨b, 2, none⟩ = some u2) :
    (((W.setCell ⟨b, 0, none⟩ k).setCell ⟨b, 1, none⟩ n).setCell ⟨b, 2, none⟩ s).cell? ⟨b, 0, none⟩ = some k ∧
    (((W.setCell ⟨b, 0, none⟩ k).setCell ⟨b, 1, none⟩ n).setCell ⟨b, 2, none⟩ s).cell? ⟨b, 1, none⟩ = some n ∧
    (((W.setCell ⟨b, 0, none⟩ k).setCell ⟨b, 1, none⟩ n).setCell ⟨b, 2, none⟩ s).cell? ⟨b, 2, none⟩ = some s := by
  have n01 : (⟨b, 0, none⟩ : Addr) ≠ ⟨b, 1, none⟩ := by simp
  have n02 : (⟨b, 0, none⟩ : Addr) ≠ ⟨b, 2, none⟩ := by simp
  have n12 : (⟨b, 1, none⟩ : Addr) ≠ ⟨b, 2, none⟩ := by simp
  have a0 : (W.setCell ⟨b, 0, none⟩ k).cell? ⟨b, 0, none⟩ = some k := World.cell?_setCell_same _ _ _ c0
  have a1 : (W.setCell ⟨b, 0, none⟩ k).cell? ⟨b, 1, none⟩ = some u1 := (World.cell?_setCell_other _ _ _ _ n01).trans c1
  have a2 : (W.setCell ⟨b, 0, none⟩ k).cell? ⟨b, 2, none⟩ = some u2 := (World.cell?_setCell_other _ _ _ _ n02).trans c2
  have b0 : ((W.setCell ⟨b, 0, none⟩ k).setCell ⟨b, 1, none⟩ n).cell? ⟨b, 0, none⟩ = some k := (World.cell?_setCell_other _ _ _ _ n01.symm).trans a0
  have b1 : ((W.setCell ⟨b, 0, none⟩ k).setCell ⟨b, 1, none⟩ n).cell? ⟨b, 1, none⟩ = some n := World.cell?_setCell_same _ _ _ a1
  have b2 : ((W.setCell ⟨b, 0, none⟩ k).setCell ⟨b, 1, none⟩ n).cell? ⟨b, 2, none⟩ = some u2 := (World.cell?_setCell_other _ _ _ _ n12).trans a2
  exact ⟨(World.cell?_setCell_other _ _ _ _ n02.symm).trans b0, (World.cell?_setCell_other _ _ _ _ n12.symm).trans b1, World.cell?_setCell_same _ _ _ b2⟩

theorem below_three {B b : Nat} {w W : World} {k n s : Value} (h : Below B w W) (hb : B ≤ b) : Below B w (((W.setCell ⟨b, 0, none⟩ k).setCell ⟨b, 1, none⟩ n).setCell ⟨b, 2, none⟩ s) :=
  ((h.setCell hb _).setCell hb _).setCell hb _

theorem keepRead {w W w' : World} {a : Addr} {v : Value} (h : W.cell? a = some v ∧ Below w.heap.size w W) (hb : Below W.heap.size W w') : w'.cell? a = some v ∧ Below w.heap.size w w' :=
  ⟨cell_later hb h.1, h.2.trans (hb.mono h.2.size)⟩

theorem keepAlloc {w W : World} {a : Addr} {v : Value} (o : Obj) (h : W.cell? a = some v ∧ Below w.heap.size w W) : (W.alloc o).cell? a = some v ∧ Below w.heap.size w (W.alloc o) :=
  keepRead h ((Below.refl _ _).alloc (Nat.le_refl _) o)

theorem keepSet {w W : World} {a p : Addr} {v : Value} (u : Value) (h : W.cell? a = some v ∧ Below w.heap.size w W) (hp : w.heap.size ≤ p.block) (ha : a.block < w.heap.size) : (W.setCell p u).cell? a = some v ∧ Below w.heap.size w (W.setCell p u) :=
  ⟨(World.cell?_setCell_far _ _ _ _ (by omega)).trans h.1, h.2.setCell hp u⟩

set_option maxHeartbeats 4000000 in
theorem readValue_any (a : Option Addr) (len cap : Nat) (l : List UInt8) (w : World) (hl : IsBytes w a len l) (hc : len ≤ cap) (hm : cap ≤ 9223372036854775807) :
    Calls Try.prog 34 #[.slice a len cap] w (RPost w (rOut (readV l))) := by
  have HB := Lib.hid hl
  obtain ⟨hlen, hl⟩ := hl
  match l, hlen, hl, HB with
  | [], hlen, _, _ =>
    obtain rfl : len = 0 := by simpa using hlen.symm
    go_enter Try.func34, Try.ntmps34
    go_wp2_with fail
    exact bodyPost_ret (v := .tuple #[agg 0 0 ⟨#[]⟩, .int .i64 0]) (by simp [results, Try.results34, go_sem]) rfl ⟨rfl, (Below.refl _ _).alloc (Nat.le_refl _) _⟩
  | k :: r, hlen, hl, HB =>
    rcases hl with h | ⟨b, off, rfl, hb, hat⟩
    · cases h
    have hl1 : 1 ≤ len := by simp at hlen; omega
    have h0 : w.cell? ⟨b, off, none⟩ = some (.int .u8 k.toNat) := hat 0 k rfl
    have hx := k.toNat_lt
    have hne : ¬ b = w.heap.size := by omega
    have HL := Lib.hid hlen
    clear hat hlen
    have hlen0 : (0 : Int) < len := by omega
    have hn0 : 0 < len := by omega
    have hi1 : (1 : Int) ≤ len := by omega
    have hd : ((len : Int) == 0) = false := by simp; omega
    by_cases hcap : cap = 1
    · subst hcap
      obtain rfl : len = 1 := by omega
      have hr : r = [] := by have := HL.out; simpa using this
      have HT : Hid (IsBytes w (some ⟨b, off, none⟩) 0 r) := IsBytes.none hr
      clear hr
      have hF := fun W (hb : Below w.heap.size w W) => readFields_any k (some ⟨b, off, none⟩) 0 0 r W (HT.out.below hb (Nat.le_refl _)) (by omega) (by omega)
      generalize hq : fOut (fieldsOf k r) = q at hF
      have HQ := Lib.hid hq
      clear hq
      obtain ⟨⟨fk, fn, fs⟩, sz, ok⟩ := q
      have HF := Lib.hid hF
      clear hF
      generalize hy : k.toNat = y at *
      have HY := Lib.hid hy
      clear hy
      have hw : IntKind.i64.wrap (y : Int) = y := by rw [IntKind.wrap_i64]; omega
      go_enter Try.func34, Try.ntmps34
      go_wp2_with fail
      have hB0 : ∀ o, Below w.heap.size w (w.alloc o).drew := fun o => ((Below.refl _ _).alloc (Nat.le_refl _) o).drew
      have hS0 : (w.alloc (.cells #[.int .i64 0, .int .i64 0, .string ⟨#[]⟩] 23)).drew.cell? ⟨b, off, none⟩ = some (.int .u8 y) ∧ Below w.heap.size w (w.alloc (.cells #[.int .i64 0, .int .i64 0, .string ⟨#[]⟩] 23)).drew :=
        ⟨cell_later (hB0 _) h0, hB0 _⟩
      have hB1 : ∀ o1 o2, Below w.heap.size w ((w.alloc o1).alloc o2).drew := fun o1 o2 => (((Below.refl _ _).alloc (Nat.le_refl _) o1).alloc (by simp) o2).drew
      have hS1 : ((w.alloc (.cells #[.int .i64 0, .int .i64 0, .string ⟨#[]⟩] 23)).alloc (.cells #[.int .i64 0, .int .i64 0, .string ⟨#[]⟩] 23)).drew.cell? ⟨b, off, none⟩ = some (.int .u8 y) ∧ Below w.heap.size w ((w.alloc (.cells #[.int .i64 0, .int .i64 0, .string ⟨#[]⟩] 23)).alloc (.cells #[.int .i64 0, .int .i64 0, .string ⟨#[]⟩] 23)).drew :=
        ⟨cell_later (hB1 _ _) h0, hB1 _ _⟩
      go_region_held3 (fun w' => w'.cell? ⟨b, off, none⟩ = some (.int .u8 y) ∧ Below w.heap.size w w')
        (first | with_reducible exact hS0 | with_reducible exact hS1 | with_reducible exact keepRead (by assumption) (by assumption) | with_reducible exact keepAlloc _ (by assumption) | with_reducible exact keepAlloc _ (keepRead hS0 hcall) | with_reducible exact keepSet _ (keepSet _ (keepSet _ (by assumption) (by simp) hb) (by simp) hb) (by simp) hb)
        (first | (go_at_call 40; refine (HF.out _ (by go_split_ands; assumption)).mono ?_; rintro e w' ⟨rfl, hcall⟩; obtain ⟨hc1, hf1⟩ := bcell hcall))
      · obtain ⟨_, hBB⟩ := ‹_ ∧ _›
        have hz1 : w.heap.size < w'.heap.size := by have := hcall.size; simp at this; omega
        have hBw : Below w.heap.size w w' := (hB0 _).trans (hcall.mono (by simp))
        have z0 : w'.cell? ⟨w.heap.size, 0, none⟩ = some (.int .i64 0) := cell_later hcall (cell_of_row _ _ _ _ _ _ (heap_alloc_new w _))
        have z1 : w'.cell? ⟨w.heap.size, 1, none⟩ = some (.int .i64 0) := cell_later hcall (cell_of_row _ _ _ _ _ _ (heap_alloc_new w _))
        have z2 : w'.cell? ⟨w.heap.size, 2, none⟩ = some (.string ⟨#[]⟩) := cell_later hcall (cell_of_row _ _ _ _ _ _ (heap_alloc_new w _))
        clear hS0 hS1 hB0 hB1 HF HT hlen hl hx hn0 hi1 hlen0
        cases ok with
        | false =>
          have HR := Lib.hid (read_no HQ.out)
          clear HQ
          go_wp2_with fail
          obtain ⟨f0, f1, f2⟩ := three_stores (k := .int .i64 0) (n := .int .i64 0) (s := .string ⟨#[]⟩) z0 z1 z2
          have g : ∀ (X : World) o j v, X.cell? ⟨w.heap.size, j, none⟩ = some v → (X.alloc o).cell? ⟨w.heap.size, j, none⟩ = some v := fun X o j v h => cell_later ((Below.refl _ _).alloc (Nat.le_refl _) _) h
          refine bodyPost_ret (v := .tuple #[agg 0 0 ⟨#[]⟩, .int .i64 0]) (by simp [results, Try.results34, go_sem, g _ _ _ _ f0, g _ _ _ _ f1, g _ _ _ _ f2]) rfl ⟨?_, ?_⟩
          · rw [HR.out]
            rfl
          · exact (below_three hBw (Nat.le_refl _)).alloc (by simp; omega) _
        | true =>
          obtain ⟨hsz, hr⟩ := read_yes HQ.out
          have HR := Lib.hid hr
          clear hr HQ
          by_cases hv : validB fk fn fs = true
          · have HR2 : Hid (rOut (readV (k :: r)) = (⟨fk, fn, fs⟩, 1 + sz)) := by show _ = _; rw [HR.out, if_pos hv]
            clear HR
            go_wp2_with fail
            refine (valid_any _ _ _ _).mono ?_
            rintro e w2 ⟨rfl, hb2⟩
            obtain ⟨hc2, hf2⟩ := bcell hb2
            have hz4 : w.heap.size < w2.heap.size := by have := hb2.size; simp at this; omega
            have yz : ∀ j v, w'.cell? ⟨w.heap.size, j, none⟩ = some v → w2.cell? ⟨w.heap.size, j, none⟩ = some v := fun j v h => cell_later hb2 (cell_later ((Below.refl _ _).alloc (Nat.le_refl _) _) h)
            have y0 := yz 0 _ z0
            have y1 := yz 1 _ z1
            have y2 := yz 2 _ z2
            have hB2 : Below w.heap.size w w2 := hBB.trans (hb2.mono hBB.size)
            clear yz z0 z1 z2
            go_wp2_with fail
            obtain ⟨f0, f1, f2⟩ := three_stores (k := .int .i64 fk) (n := .int .i64 fn) (s := .string fs) y0 y1 y2
            refine bodyPost_ret (v := .tuple #[agg fk fn fs, .int .i64 (1 + sz)]) (by simp [results, Try.results34, go_sem, f0, f1, f2]) rfl ⟨?_, ?_⟩
            · rw [HR2.out]
              simp
            · exact below_three hB2 (Nat.le_refl _)
          · have HR2 : Hid (rOut (readV (k :: r)) = (nullV, 0)) := by show _ = _; rw [HR.out, if_neg hv]
            clear HR
            have hv' : validB fk fn fs = false := by simpa using hv
            clear hv
            go_wp2_with fail
            refine (valid_any _ _ _ _).mono ?_
            rintro e w2 ⟨rfl, hb2⟩
            obtain ⟨hc2, hf2⟩ := bcell hb2
            have hz4 : w.heap.size < w2.heap.size := by have := hb2.size; simp at this; omega
            have yz : ∀ j v, w'.cell? ⟨w.heap.size, j, none⟩ = some v → w2.cell? ⟨w.heap.size, j, none⟩ = some v := fun j v h => cell_later hb2 (cell_later ((Below.refl _ _).alloc (Nat.le_refl _) _) h)
            have y0 := yz 0 _ z0
            have y1 := yz 1 _ z1
            have y2 := yz 2 _ z2
            have hB2 : Below w.heap.size w w2 := hBB.trans (hb2.mono hBB.size)
            clear yz z0 z1 z2
            go_wp2_with fail
            obtain ⟨f0, f1, f2⟩ := three_stores (k := .int .i64 0) (n := .int .i64 0) (s := .string ⟨#[]⟩) y0 y1 y2
            refine bodyPost_ret (v := .tuple #[agg 0 0 ⟨#[]⟩, .int .i64 0]) (by simp [results, Try.results34, go_sem, f0, f1, f2]) rfl ⟨?_, ?_⟩
            · rw [HR2.out]
              rfl
            · exact below_three hB2 (Nat.le_refl _)
      · obtain ⟨_, hBB⟩ := ‹_ ∧ _›
        have hz1 : w.heap.size < w'.heap.size := by have := hcall.size; simp at this; omega
        have hBw : Below w.heap.size w w' := (hB1 _ _).trans (hcall.mono (by simp; omega))
        have z0 : w'.cell? ⟨w.heap.size, 0, none⟩ = some (.int .i64 0) := cell_later hcall (cell_of_row _ _ _ _ _ _ (old_block (heap_alloc_new w _)))
        have z1 : w'.cell? ⟨w.heap.size, 1, none⟩ = some (.int .i64 0) := cell_later hcall (cell_of_row _ _ _ _ _ _ (old_block (heap_alloc_new w _)))
        have z2 : w'.cell? ⟨w.heap.size, 2, none⟩ = some (.string ⟨#[]⟩) := cell_later hcall (cell_of_row _ _ _ _ _ _ (old_block (heap_alloc_new w _)))
        clear hS0 hS1 hB0 hB1 HF HT hlen hl hx hn0 hi1 hlen0
        cases ok with
        | false =>
          have HR := Lib.hid (read_no HQ.out)
          clear HQ
          go_wp2_with fail
          refine bodyPost_ret (v := .tuple #[agg 0 0 ⟨#[]⟩, .int .i64 0]) (by simp [results, Try.results34, go_sem, z0, z1, z2]) rfl ⟨?_, ?_⟩
          · rw [HR.out]
            rfl
          · exact below_three hBB (Nat.le_refl _)
        | true =>
          obtain ⟨hsz, hr⟩ := read_yes HQ.out
          have HR := Lib.hid hr
          clear hr HQ
          have hz3 : w.heap.size + 1 < w'.heap.size := by have := hcall.size; simp at this; omega
          by_cases hv : validB fk fn fs = true
          · have HR2 : Hid (rOut (readV (k :: r)) = (⟨fk, fn, fs⟩, 1 + sz)) := by show _ = _; rw [HR.out, if_pos hv]
            clear HR
            go_wp2_with fail
            refine (valid_any _ _ _ _).mono ?_
            rintro e w2 ⟨rfl, hb2⟩
            obtain ⟨hc2, hf2⟩ := bcell hb2
            have hz4 : w.heap.size < w2.heap.size := by have := hb2.size; simp at this; omega
            have yz : ∀ j v, w'.cell? ⟨w.heap.size, j, none⟩ = some v → w2.cell? ⟨w.heap.size, j, none⟩ = some v := fun j v h => cell_later hb2 (((World.cell?_setCell_far _ _ _ _ (by simp)).trans ((World.cell?_setCell_far _ _ _ _ (by simp)).trans (World.cell?_setCell_far _ _ _ _ (by simp)))).trans h)
            have y0 := yz 0 _ z0
            have y1 := yz 1 _ z1
            have y2 := yz 2 _ z2
            have hB2 : Below w.heap.size w w2 := hBB.trans (hb2.mono hBB.size)
            clear yz z0 z1 z2
            go_wp2_with fail
            obtain ⟨f0, f1, f2⟩ := three_stores (k := .int .i64 fk) (n := .int .i64 fn) (s := .string fs) y0 y1 y2
            refine bodyPost_ret (v := .tuple #[agg fk fn fs, .int .i64 (1 + sz)]) (by simp [results, Try.results34, go_sem, f0, f1, f2]) rfl ⟨?_, ?_⟩
            · rw [HR2.out]
              simp
            · exact below_three hB2 (Nat.le_refl _)
          · have HR2 : Hid (rOut (readV (k :: r)) = (nullV, 0)) := by show _ = _; rw [HR.out, if_neg hv]
            clear HR
            have hv' : validB fk fn fs = false := by simpa using hv
            clear hv
            go_wp2_with fail
            refine (valid_any _ _ _ _).mono ?_
            rintro e w2 ⟨rfl, hb2⟩
            obtain ⟨hc2, hf2⟩ := bcell hb2
            have hz4 : w.heap.size < w2.heap.size := by have := hb2.size; simp at this; omega
            have yz : ∀ j v, w'.cell? ⟨w.heap.size, j, none⟩ = some v → w2.cell? ⟨w.heap.size, j, none⟩ = some v := fun j v h => cell_later hb2 (((World.cell?_setCell_far _ _ _ _ (by simp)).trans ((World.cell?_setCell_far _ _ _ _ (by simp)).trans (World.cell?_setCell_far _ _ _ _ (by simp)))).trans h)
            have y0 := yz 0 _ z0
            have y1 := yz 1 _ z1
            have y2 := yz 2 _ z2
            have hB2 : Below w.heap.size w w2 := hBB.trans (hb2.mono hBB.size)
            clear yz z0 z1 z2
            go_wp2_with fail
            obtain ⟨f0, f1, f2⟩ := three_stores (k := .int .i64 0) (n := .int .i64 0) (s := .string ⟨#[]⟩) y0 y1 y2
            refine bodyPost_ret (v := .tuple #[agg 0 0 ⟨#[]⟩, .int .i64 0]) (by simp [results, Try.results34, go_sem, f0, f1, f2]) rfl ⟨?_, ?_⟩
            · rw [HR2.out]
              rfl
            · exact below_three hB2 (Nat.le_refl _)
    · have HT := Lib.hid (HB.out.tail hl1)
      have hF := fun W (hb : Below w.heap.size w W) => readFields_any k (some ⟨b, off + 1, none⟩) (len - 1) (cap - 1) ((k :: r).drop 1) W (HT.out.below hb (Nat.le_refl _)) (by omega) (by omega)
      have hdr : (k :: r).drop 1 = r := rfl
      rw [hdr] at hF
      generalize hq : fOut (fieldsOf k r) = q at hF
      have HQ := Lib.hid hq
      clear hq hdr
      obtain ⟨⟨fk, fn, fs⟩, sz, ok⟩ := q
      have HF := Lib.hid hF
      clear hF
      generalize hy : k.toNat = y at *
      have HY := Lib.hid hy
      clear hy
      have hw : IntKind.i64.wrap (y : Int) = y := by rw [IntKind.wrap_i64]; omega
      go_enter Try.func34, Try.ntmps34
      go_wp2_with fail
      have hB0 : ∀ o, Below w.heap.size w (w.alloc o).drew := fun o => ((Below.refl _ _).alloc (Nat.le_refl _) o).drew
      have hS0 : (w.alloc (.cells #[.int .i64 0, .int .i64 0, .string ⟨#[]⟩] 23)).drew.cell? ⟨b, off, none⟩ = some (.int .u8 y) ∧ Below w.heap.size w (w.alloc (.cells #[.int .i64 0, .int .i64 0, .string ⟨#[]⟩] 23)).drew :=
        ⟨cell_later (hB0 _) h0, hB0 _⟩
      have hB1 : ∀ o1 o2, Below w.heap.size w ((w.alloc o1).alloc o2).drew := fun o1 o2 => (((Below.refl _ _).alloc (Nat.le_refl _) o1).alloc (by simp) o2).drew
      have hS1 : ((w.alloc (.cells #[.int .i64 0, .int .i64 0, .string ⟨#[]⟩] 23)).alloc (.cells #[.int .i64 0, .int .i64 0, .string ⟨#[]⟩] 23)).drew.cell? ⟨b, off, none⟩ = some (.int .u8 y) ∧ Below w.heap.size w ((w.alloc (.cells #[.int .i64 0, .int .i64 0, .string ⟨#[]⟩] 23)).alloc (.cells #[.int .i64 0, .int .i64 0, .string ⟨#[]⟩] 23)).drew :=
        ⟨cell_later (hB1 _ _) h0, hB1 _ _⟩
      go_region_held3 (fun w' => w'.cell? ⟨b, off, none⟩ = some (.int .u8 y) ∧ Below w.heap.size w w')
        (first | with_reducible exact hS0 | with_reducible exact hS1 | with_reducible exact keepRead (by assumption) (by assumption) | with_reducible exact keepAlloc _ (by assumption) | with_reducible exact keepAlloc _ (keepRead hS0 hcall) | with_reducible exact keepSet _ (keepSet _ (keepSet _ (by assumption) (by simp) hb) (by simp) hb) (by simp) hb)
        (first | (go_at_call 40; refine (HF.out _ (by go_split_ands; assumption)).mono ?_; rintro e w' ⟨rfl, hcall⟩; obtain ⟨hc1, hf1⟩ := bcell hcall))
      · obtain ⟨_, hBB⟩ := ‹_ ∧ _›
        have hz1 : w.heap.size < w'.heap.size := by have := hcall.size; simp at this; omega
        have hBw : Below w.heap.size w w' := (hB0 _).trans (hcall.mono (by simp))
        have z0 : w'.cell? ⟨w.heap.size, 0, none⟩ = some (.int .i64 0) := cell_later hcall (cell_of_row _ _ _ _ _ _ (heap_alloc_new w _))
        have z1 : w'.cell? ⟨w.heap.size, 1, none⟩ = some (.int .i64 0) := cell_later hcall (cell_of_row _ _ _ _ _ _ (heap_alloc_new w _))
        have z2 : w'.cell? ⟨w.heap.size, 2, none⟩ = some (.string ⟨#[]⟩) := cell_later hcall (cell_of_row _ _ _ _ _ _ (heap_alloc_new w _))
        clear hS0 hS1 hB0 hB1 HF HT hlen hl hx hn0 hi1 hlen0
        cases ok with
        | false =>
          have HR := Lib.hid (read_no HQ.out)
          clear HQ
          go_wp2_with fail
          obtain ⟨f0, f1, f2⟩ := three_stores (k := .int .i64 0) (n := .int .i64 0) (s := .string ⟨#[]⟩) z0 z1 z2
          have g : ∀ (X : World) o j v, X.cell? ⟨w.heap.size, j, none⟩ = some v → (X.alloc o).cell? ⟨w.heap.size, j, none⟩ = some v := fun X o j v h => cell_later ((Below.refl _ _).alloc (Nat.le_refl _) _) h
          refine bodyPost_ret (v := .tuple #[agg 0 0 ⟨#[]⟩, .int .i64 0]) (by simp [results, Try.results34, go_sem, g _ _ _ _ f0, g _ _ _ _ f1, g _ _ _ _ f2]) rfl ⟨?_, ?_⟩
          · rw [HR.out]
            rfl
          · exact (below_three hBw (Nat.le_refl _)).alloc (by simp; omega) _
        | true =>
          obtain ⟨hsz, hr⟩ := read_yes HQ.out
          have HR := Lib.hid hr
          clear hr HQ
          by_cases hv : validB fk fn fs = true
          · have HR2 : Hid (rOut (readV (k :: r)) = (⟨fk, fn, fs⟩, 1 + sz)) := by show _ = _; rw [HR.out, if_pos hv]
            clear HR
            go_wp2_with fail
            refine (valid_any _ _ _ _).mono ?_
            rintro e w2 ⟨rfl, hb2⟩
            obtain ⟨hc2, hf2⟩ := bcell hb2
            have hz4 : w.heap.size < w2.heap.size := by have := hb2.size; simp at this; omega
            have yz : ∀ j v, w'.cell? ⟨w.heap.size, j, none⟩ = some v → w2.cell? ⟨w.heap.size, j, none⟩ = some v := fun j v h => cell_later hb2 (cell_later ((Below.refl _ _).alloc (Nat.le_refl _) _) h)
            have y0 := yz 0 _ z0
            have y1 := yz 1 _ z1
            have y2 := yz 2 _ z2
            have hB2 : Below w.heap.size w w2 := hBB.trans (hb2.mono hBB.size)
            clear yz z0 z1 z2
            go_wp2_with fail
            obtain ⟨f0, f1, f2⟩ := three_stores (k := .int .i64 fk) (n := .int .i64 fn) (s := .string fs) y0 y1 y2
            refine bodyPost_ret (v := .tuple #[agg fk fn fs, .int .i64 (1 + sz)]) (by simp [results, Try.results34, go_sem, f0, f1, f2]) rfl ⟨?_, ?_⟩
            · rw [HR2.out]
              simp
            · exact below_three hB2 (Nat.le_refl _)
          · have HR2 : Hid (rOut (readV (k :: r)) = (nullV, 0)) := by show _ = _; rw [HR.out, if_neg hv]
            clear HR
            have hv' : validB fk fn fs = false := by simpa using hv
            clear hv
            go_wp2_with fail
            refine (valid_any _ _ _ _).mono ?_
            rintro e w2 ⟨rfl, hb2⟩
            obtain ⟨hc2, hf2⟩ := bcell hb2
            have hz4 : w.heap.size < w2.heap.size := by have := hb2.size; simp at this; omega
            have yz : ∀ j v, w'.cell? ⟨w.heap.size, j, none⟩ = some v → w2.cell? ⟨w.heap.size, j, none⟩ = some v := fun j v h => cell_later hb2 (cell_later ((Below.refl _ _).alloc (Nat.le_refl _) _) h)
            have y0 := yz 0 _ z0
            have y1 := yz 1 _ z1
            have y2 := yz 2 _ z2
            have hB2 : Below w.heap.size w w2 := hBB.trans (hb2.mono hBB.size)
            clear yz z0 z1 z2
            go_wp2_with fail
            obtain ⟨f0, f1, f2⟩ := three_stores (k := .int .i64 0) (n := .int .i64 0) (s := .string ⟨#[]⟩) y0 y1 y2
            refine bodyPost_ret (v := .tuple #[agg 0 0 ⟨#[]⟩, .int .i64 0]) (by simp [results, Try.results34, go_sem, f0, f1, f2]) rfl ⟨?_, ?_⟩
            · rw [HR2.out]
              rfl
            · exact below_three hB2 (Nat.le_refl _)
      · obtain ⟨_, hBB⟩ := ‹_ ∧ _›
        have hz1 : w.heap.size < w'.heap.size := by have := hcall.size; simp at this; omega
        have hBw : Below w.heap.size w w' := (hB1 _ _).trans (hcall.mono (by simp; omega))
        have z0 : w'.cell? ⟨w.heap.size, 0, none⟩ = some (.int .i64 0) := cell_later hcall (cell_of_row _ _ _ _ _ _ (old_block (heap_alloc_new w _)))
        have z1 : w'.cell? ⟨w.heap.size, 1, none⟩ = some (.int .i64 0) := cell_later hcall (cell_of_row _ _ _ _ _ _ (old_block (heap_alloc_new w _)))
        have z2 : w'.cell? ⟨w.heap.size, 2, none⟩ = some (.string ⟨#[]⟩) := cell_later hcall (cell_of_row _ _ _ _ _ _ (old_block (heap_alloc_new w _)))
        clear hS0 hS1 hB0 hB1 HF HT hlen hl hx hn0 hi1 hlen0
        cases ok with
        | false =>
          have HR := Lib.hid (read_no HQ.out)
          clear HQ
          go_wp2_with fail
          refine bodyPost_ret (v := .tuple #[agg 0 0 ⟨#[]⟩, .int .i64 0]) (by simp [results, Try.results34, go_sem, z0, z1, z2]) rfl ⟨?_, ?_⟩
          · rw [HR.out]
            rfl
          · exact below_three hBB (Nat.le_refl _)
        | true =>
          obtain ⟨hsz, hr⟩ := read_yes HQ.out
          have HR := Lib.hid hr
          clear hr HQ
          have hz3 : w.heap.size + 1 < w'.heap.size := by have := hcall.size; simp at this; omega
          by_cases hv : validB fk fn fs = true
          · have HR2 : Hid (rOut (readV (k :: r)) = (⟨fk, fn, fs⟩, 1 + sz)) := by show _ = _; rw [HR.out, if_pos hv]
            clear HR
            go_wp2_with fail
            refine (valid_any _ _ _ _).mono ?_
            rintro e w2 ⟨rfl, hb2⟩
            obtain ⟨hc2, hf2⟩ := bcell hb2
            have hz4 : w.heap.size < w2.heap.size := by have := hb2.size; simp at this; omega
            have yz : ∀ j v, w'.cell? ⟨w.heap.size, j, none⟩ = some v → w2.cell? ⟨w.heap.size, j, none⟩ = some v := fun j v h => cell_later hb2 (((World.cell?_setCell_far _ _ _ _ (by simp)).trans ((World.cell?_setCell_far _ _ _ _ (by simp)).trans (World.cell?_setCell_far _ _ _ _ (by simp)))).trans h)
            have y0 := yz 0 _ z0
            have y1 := yz 1 _ z1
            have y2 := yz 2 _ z2
            have hB2 : Below w.heap.size w w2 := hBB.trans (hb2.mono hBB.size)
            clear yz z0 z1 z2
            go_wp2_with fail
            obtain ⟨f0, f1, f2⟩ := three_stores (k := .int .i64 fk) (n := .int .i64 fn) (s := .string fs) y0 y1 y2
            refine bodyPost_ret (v := .tuple #[agg fk fn fs, .int .i64 (1 + sz)]) (by simp [results, Try.results34, go_sem, f0, f1, f2]) rfl ⟨?_, ?_⟩
            · rw [HR2.out]
              simp
            · exact below_three hB2 (Nat.le_refl _)
          · have HR2 : Hid (rOut (readV (k :: r)) = (nullV, 0)) := by show _ = _; rw [HR.out, if_neg hv]
            clear HR
            have hv' : validB fk fn fs = false := by simpa using hv
            clear hv
            go_wp2_with fail
            refine (valid_any _ _ _ _).mono ?_
            rintro e w2 ⟨rfl, hb2⟩
            obtain ⟨hc2, hf2⟩ := bcell hb2
            have hz4 : w.heap.size < w2.heap.size := by have := hb2.size; simp at this; omega
            have yz : ∀ j v, w'.cell? ⟨w.heap.size, j, none⟩ = some v → w2.cell? ⟨w.heap.size, j, none⟩ = some v := fun j v h => cell_later hb2 (((World.cell?_setCell_far _ _ _ _ (by simp)).trans ((World.cell?_setCell_far _ _ _ _ (by simp)).trans (World.cell?_setCell_far _ _ _ _ (by simp)))).trans h)
            have y0 := yz 0 _ z0
            have y1 := yz 1 _ z1
            have y2 := yz 2 _ z2
            have hB2 : Below w.heap.size w w2 := hBB.trans (hb2.mono hBB.size)
            clear yz z0 z1 z2
            go_wp2_with fail
            obtain ⟨f0, f1, f2⟩ := three_stores (k := .int .i64 0) (n := .int .i64 0) (s := .string ⟨#[]⟩) y0 y1 y2
            refine bodyPost_ret (v := .tuple #[agg 0 0 ⟨#[]⟩, .int .i64 0]) (by simp [results, Try.results34, go_sem, f0, f1, f2]) rfl ⟨?_, ?_⟩
            · rw [HR2.out]
              rfl
            · exact below_three hB2 (Nat.le_refl _)

end Go.Proofs.Ytnmlbafhdnffgaa
