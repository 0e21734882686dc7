/-
  The laws' texts: warehousebase.Text.
-/
import Derived.Test.YtloccocengegnaaGreatDoorGAt
import Derived.Test.YtloccocengegnaaGreatDoorNLeaf
set_option linter.unusedVariables false
set_option maxRecDepth 100000
namespace Go.Proofs.YtloccocengegnaaGreatDoor
open Go.RowKit Wh

/-- Texts of at most 20 bytes lie in block b. -/
def PieAt (w : World) (b : Nat) : Prop := b < w.heap.size ∧ ∀ i, i < 48 → ∃ s : ByteArray, w.cell? ⟨b, i, none⟩ = some (.string s) ∧ s.size ≤ 20
theorem PieAt.next {w w' : World} {b : Nat} {B : Nat} (h : PieAt w b) (hb : Below B w w') (hB : b < B) : PieAt w' b :=
  ⟨Nat.lt_of_lt_of_le h.1 hb.size, fun i hi => by
    obtain ⟨s, hs, hl⟩ := h.2 i hi
    exact ⟨s, by rw [hb.cell (p := ⟨b, i, none⟩) hB]; exact hs, hl⟩⟩

/-- Is it a text of at most 20 bytes? -/
def shortV : Value → Bool
  | .string s => decide (s.size ≤ 20)
  | _ => false
theorem pie_of {w : World} {b : Nat} {cs : Array Value} {t : TypeId} (h : w.heap[b]? = some (.cells cs t (0, 0))) (hb : b < w.heap.size) (hs : cs.size = 48) (ha : cs.toList.all shortV = true) : PieAt w b := by
  refine ⟨hb, fun i hi => ?_⟩
  obtain ⟨v, hv⟩ : ∃ v, cs.toList[i]? = some v := ⟨_, List.getElem?_eq_getElem (by simp; omega)⟩
  have h1 := List.all_eq_true.1 ha v (List.mem_of_getElem? hv)
  have h2 : w.cell? ⟨b, i, none⟩ = some v := (cell_of_row w b i cs t (0, 0) h).trans (by rw [← hv, Array.getElem?_toList])
  cases v with
  | string s => exact ⟨s, h2, by simpa [shortV] using h1⟩
  | _ => simp [shortV] at h1

/-- The call returns a text of at most m bytes. -/
def IsShort (m : Nat) (w : World) (e : Ending) (w' : World) : Prop := ∃ s : ByteArray, e = .returned (.string s) ∧ s.size ≤ m ∧ Below w.heap.size w w'

set_option maxHeartbeats 4000000 in
theorem text_any7 (a : Option Addr) (len cap : Nat) (zs : List Int) (n : Nat) (w : World) (hz : IsInts w a len zs) (hl : len ≤ 9223372036854775807) (hn : n ≤ 31) :
    Calls Tryz.prog 8 #[.slice a len cap, .int .i64 n] w (IsShort 620 w) := by
  have HZ := Lib.hid hz
  clear hz
  go_enter Tryz.func8, Tryz.ntmps8
  go_wp2_with fail
  have HT0 : Hid (PieAt (w.alloc (.cells #[.string ⟨#[97]⟩, .string ⟨#[118]⟩, .string ⟨#[32]⟩, .string ⟨#[43]⟩, .string ⟨#[45]⟩, .string ⟨#[42]⟩, .string ⟨#[40]⟩, .string ⟨#[41]⟩, .string ⟨#[49]⟩, .string ⟨#[50, 48]⟩, .string ⟨#[97, 110, 100]⟩, .string ⟨#[32, 111, 114, 32]⟩, .string ⟨#[110, 111, 116, 32]⟩, .string ⟨#[61]⟩, .string ⟨#[60, 61]⟩, .string ⟨#[62]⟩, .string ⟨#[44]⟩, .string ⟨#[39, 120, 39]⟩, .string ⟨#[110, 117, 108, 108]⟩, .string ⟨#[116, 114, 117, 101]⟩, .string ⟨#[100, 97, 121, 40]⟩, .string ⟨#[122, 48]⟩, .string ⟨#[105, 102, 40]⟩, .string ⟨#[58]⟩, .string ⟨#[124]⟩, .string ⟨#[102, 114, 111, 109, 32]⟩, .string ⟨#[119, 104, 101, 114, 101, 32]⟩, .string ⟨#[115, 101, 108, 101, 99, 116, 32]⟩, .string ⟨#[103, 114, 111, 117, 112, 32]⟩, .string ⟨#[106, 111, 105, 110, 32]⟩, .string ⟨#[32, 111, 110, 32]⟩, .string ⟨#[119, 105, 110, 100, 111, 119, 32]⟩, .string ⟨#[32, 98, 121, 32]⟩, .string ⟨#[99, 111, 117, 110, 116, 40]⟩, .string ⟨#[115, 117, 109, 40]⟩, .string ⟨#[59]⟩, .string ⟨#[109, 111, 100, 117, 108, 101, 32]⟩, .string ⟨#[109]⟩, .string ⟨#[64, 49, 57, 55, 48, 45, 48, 49, 45, 48, 50, 84, 48, 48, 58, 48, 48]⟩, .string ⟨#[35, 99, 10]⟩, .string ⟨#[39]⟩, .string ⟨#[46, 46]⟩, .string ⟨#[57, 97]⟩, .string ⟨#[97, 46, 98]⟩, .string ⟨#[37]⟩, .string ⟨#[43, 43]⟩, .string ⟨#[115, 101, 108, 102]⟩, .string ⟨#[109, 97, 99, 114, 111, 32]⟩] 9)) w.heap.size) := pie_of (heap_alloc_new w _) (by simp) rfl (by decide +kernel)
  go_loopw [6, 7] (fun sv iv wr => ∃ (k : Nat) (s : ByteArray), k ≤ n ∧ iv = .int .i64 k ∧ sv = .string s ∧ s.size ≤ 20 * k ∧ Hid (PieAt wr w.heap.size) ∧ Below w.heap.size w wr) (fun _ iv _ => n - (intOf iv).toNat)
  case atStart => exact ⟨0, ⟨#[]⟩, Nat.zero_le _, rfl, rfl, Nat.le_refl _, HT0, (Below.refl _ _).alloc (Nat.le_refl _) _⟩
  case round =>
    obtain ⟨k, s, hk, rfl, rfl, hsz, HT, hbel⟩ := hrel
    clear HT0
    have hs := hbel.size
    by_cases hlt : k < n
    · have C0 := Lib.hid (fun W (h : Below w.heap.size w W) => at_any a len cap zs k W (HZ.out.below h (Nat.le_refl _)) hl)
      have hab := atZ_bounds zs k
      obtain ⟨x, hx⟩ : ∃ x : Nat, atZ zs k = (x : Int) := ⟨(atZ zs k).toNat, by omega⟩
      rw [hx] at C0 hab
      clear hx
      go_wp2_with fail
      refine (C0.out _ hbel).mono ?_
      rintro e w1 ⟨rfl, hb1⟩
      have hB1 := hbel.trans (hb1.mono hs)
      have HT1 := Lib.hid (HT.out.next hb1 HT.out.1)
      have hlt1 := HT1.out.1
      obtain ⟨q, HQ⟩ : ∃ q, Hid (x % 48 = q) := ⟨_, rfl⟩
      have hq : (x : Int) % 48 = (q : Int) := by have := HQ.out; omega
      have hqb : q < 48 := by have := HQ.out; omega
      obtain ⟨t, ht, htl⟩ := HT1.out.2 q hqb
      have hadd : ¬ (9223372036854775807 < s.size + t.size) := by omega
      have hsz2 : Hid ((s ++ t).size ≤ 20 * (k + 1)) := by show _ ≤ _; rw [ByteArray.size_append]; omega
      clear C0 HT hbel hb1
      go_wp2_with fail
      go_roundw
      case rel => exact ⟨k + 1, s ++ t, by omega, by go_num, rfl, hsz2.out, HT1, hB1⟩
      case measure => simp [intOf]; omega
    · clear HT
      go_wp2_with fail
      go_ret
      exact ⟨s, rfl, by omega, hbel⟩

end Go.Proofs.YtloccocengegnaaGreatDoor
