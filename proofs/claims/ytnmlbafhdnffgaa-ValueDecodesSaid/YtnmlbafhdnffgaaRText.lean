/-
  warehouseref1.decode at a text.
-/
import Derived.Test.YtnmlbafhdnffgaaRDec
set_option linter.unusedVariables false
namespace Go.Proofs.Ytnmlbafhdnffgaa
open Go.RowKit Wh

set_option maxHeartbeats 1000000 in
theorem rd_text (b off len cap y : Nat) (r : List UInt8) (w : World) (hl : len = 2 + r.length) (hs : y ≤ r.length) (hc : len ≤ cap) (hm : cap ≤ 9223372036854775807) (hb : b < w.heap.size) (h0 : w.cell? ⟨b, off, none⟩ = some (.int .u8 3)) (h1 : w.cell? ⟨b, off + 1, none⟩ = some (.int .u8 y)) (hy2 : y < 256)
    (hat : ∀ (j : Nat) (x : UInt8), r[j]? = some x → w.cell? ⟨b, off + 2 + j, none⟩ = some (B x)) :
    Calls Try.prog 35 #[.slice (some ⟨b, off, none⟩) len cap] w (RPost w (⟨3, 0, ⟨(r.take y).toArray⟩⟩, 2 + y)) := by
  have hne : ¬ b = w.heap.size := by omega
  have hne1 : ¬ b = w.heap.size + 1 := by omega
  have hd : ((len : Int) == 0) = false := by simp; omega
  have hl2 : (0 : Int) < len := by omega
  have hl3 : (1 : Int) < len := by omega
  have hl4 : (2 : Int) ≤ len := by omega
  have hl5 : (2 : Int) + y ≤ len := by omega
  have hl6 : (2 : Int) + y ≤ cap := by omega
  have htk : (r.take y).length = y := by rw [List.length_take]; omega
  by_cases hcap : cap = 2
  · obtain rfl : y = 0 := by omega
    have hr : r.length = 0 := by omega
    have hcv := conv_bytes (W := (w.alloc (.cells #[.int .i64 0, .int .i64 0, .string ⟨#[]⟩] 23)).alloc (.cells #[.int .i64 3, .int .i64 0, .string ⟨#[]⟩] 23)) (b := b) (off := off) (c := 0) (y := 0) (l := []) rfl (fun j x h => by simp at h)
    have htx : (⟨(r.take 0).toArray⟩ : ByteArray) = ⟨#[]⟩ := rfl
    rw [htx]
    subst hcap
    clear htk hat htx
    go_enter Try.func35, Try.ntmps35
    go_wp2_with fail
    go_region
    go_wp2_with fail
    refine bodyPost_ret (v := .tuple #[agg 3 0 ⟨#[]⟩, .int .i64 2]) (by simp [results, Try.results35, go_sem]) rfl ⟨rfl, ?_⟩
    exact (((Below.refl _ _).alloc (Nat.le_refl _) _).alloc (by simp) _).drew
  · have hcv := conv_bytes (W := (w.alloc (.cells #[.int .i64 0, .int .i64 0, .string ⟨#[]⟩] 23)).alloc (.cells #[.int .i64 3, .int .i64 0, .string ⟨#[]⟩] 23)) (b := b) (off := off + 2) (c := cap - 2) (y := y) (l := r.take y) htk (fun j x h => by
      have hj : j < y := by have := (List.getElem?_eq_some_iff.1 h).1; omega
      rw [List.getElem?_take_of_lt hj] at h
      exact cell_later (((Below.refl w.heap.size w).alloc (Nat.le_refl _) _).alloc (by simp) _) (hat j x h))
    generalize (⟨(r.take y).toArray⟩ : ByteArray) = tx at hcv ⊢
    clear htk hat
    have hw : IntKind.i64.wrap (2 + (y : Int)) = 2 + (y : Int) := IntWalk.i64_in _ (by omega)
    go_enter Try.func35, Try.ntmps35
    go_wp2_with fail
    go_region
    go_wp2_with fail
    refine bodyPost_ret (v := .tuple #[agg 3 0 tx, .int .i64 (2 + y)]) (by simp [results, Try.results35, go_sem]) rfl ⟨rfl, ?_⟩
    exact (((Below.refl _ _).alloc (Nat.le_refl _) _).alloc (by simp) _).drew

theorem bytes_at {w : World} {b off len : Nat} {l : List UInt8} {a : Option Addr} (ha : a = some ⟨b, off, none⟩) (h : IsBytes w a len l) (hne : l ≠ []) : b < w.heap.size ∧ ∀ (j : Nat) (x : UInt8), l[j]? = some x → w.cell? ⟨b, off + j, none⟩ = some (B x) := by
  rcases h.2 with h | ⟨b', off', hb, hlt, hat⟩
  · exact absurd h hne
  · rw [ha] at hb
    cases hb
    exact ⟨hlt, hat⟩

/-- The value that bytes begin with, as the document's own reading has it. -/
theorem rdecode_any (a : Option Addr) (len cap : Nat) (l : List UInt8) (w : World) (hl : IsBytes w a len l) (hc : len ≤ cap) (hm : cap ≤ 9223372036854775807) :
    Calls Try.prog 35 #[.slice a len cap] w (RPost w (rdOut l)) := by
  match l, hl with
  | [], hl =>
    obtain rfl : len = 0 := by simpa using hl.1.symm
    exact rd_nil a cap w hm
  | k :: r, hl =>
    have hlen : (k :: r).length = len := hl.1
    simp only [List.length_cons] at hlen
    obtain ⟨b, off, rfl⟩ : ∃ b off, a = some ⟨b, off, none⟩ := by
      rcases hl.2 with h | ⟨b, off, h, _⟩
      · cases h
      · exact ⟨b, off, h⟩
    obtain ⟨hb, hat⟩ := bytes_at (l := k :: r) rfl hl (by simp)
    have h0 : w.cell? ⟨b, off, none⟩ = some (.int .u8 k.toNat) := hat 0 k rfl
    by_cases e0 : k = 0
    · subst e0
      exact rd_null b off len cap w (by omega) hm hb h0
    by_cases e1 : k = 1
    · subst e1
      match r, hat, hlen with
      | [], _, hlen => exact rd_bool_short b off len cap w (by simpa using hlen.symm) hm hb h0
      | x :: r, hat, hlen => exact rd_bool b off len cap x.toNat w (by simp at hlen; omega) hm hb h0 (hat 1 x rfl) x.toNat_lt
    by_cases e2 : k = 2
    · subst e2
      rcases four_or r with ⟨x0, x1, x2, x3, r, rfl⟩ | h4
      · exact rd_int b off len cap x0 x1 x2 x3 w (by simp at hlen; omega) hc hm hb h0 (hat 1 x0 rfl) (hat 2 x1 rfl) (hat 3 x2 rfl) (hat 4 x3 rfl)
      · have e := fields_short 2 (by simp) r h4
        simp only [rdOut, e]
        exact rd_num_short 2 (by simp) b off len cap w (by omega) (by omega) hm hb h0
    by_cases e4 : k = 4
    · subst e4
      rcases four_or r with ⟨x0, x1, x2, x3, r, rfl⟩ | h4
      · exact rd_time b off len cap x0 x1 x2 x3 w (by simp at hlen; omega) hc hm hb h0 (hat 1 x0 rfl) (hat 2 x1 rfl) (hat 3 x2 rfl) (hat 4 x3 rfl)
      · have e := fields_short 4 (by simp) r h4
        simp only [rdOut, e]
        exact rd_num_short 4 (by simp) b off len cap w (by omega) (by omega) hm hb h0
    by_cases e3 : k = 3
    · subst e3
      match r, hat, hlen with
      | [], _, hlen =>
        exact rd_text_short b off len cap w (by simpa using hlen.symm) hm hb h0
      | x :: r, hat, hlen =>
        simp only [List.length_cons] at hlen
        by_cases hf : x.toNat ≤ r.length
        · have e := fields_text x r hf
          simp only [rdOut, e]
          rw [show 1 + (1 + x.toNat) = 2 + x.toNat from by omega]
          refine rd_text b off len cap x.toNat r w (by omega) hf hc hm hb h0 (hat 1 x rfl) x.toNat_lt fun j y hj => ?_
          have := hat (j + 2) y (by simpa using hj)
          rw [show off + 2 + j = off + (j + 2) from by omega]
          exact this
        · have e := fields_text_no x r hf
          simp only [rdOut, e]
          exact rd_text_no b off len cap x.toNat w (by omega) (by omega) hm hb h0 (hat 1 x rfl) x.toNat_lt
    have e : fieldsOf k r = none := by simp [fieldsOf, e0, e1, e2, e3, e4]
    simp only [rdOut, e]
    have ne : ∀ m : UInt8, ¬ k = m → ¬ k.toNat = m.toNat := fun m h e => h (UInt8.toNat_inj.1 e)
    have f0 : ¬ k.toNat = 0 := ne 0 e0
    have f1 : ¬ k.toNat = 1 := ne 1 e1
    have f2 : ¬ k.toNat = 2 := ne 2 e2
    have f3 : ¬ k.toNat = 3 := ne 3 e3
    have f4 : ¬ k.toNat = 4 := ne 4 e4
    exact rd_other b off len cap k.toNat w (by omega) hm hb h0 (by omega) k.toNat_lt

end Go.Proofs.Ytnmlbafhdnffgaa
