/-
  For every layer: a string's bytes; its index and its pieces, in a form that a walk uses as it stands.
-/
import Derived.Test.YtloccocengegnaaDoorRows
import Derived.WalkKit
import Derived.WalkSpells
import Derived.Lib.Hide
import Derived.Laws.IdiomStrings
set_option linter.unusedVariables false
namespace Wh
open Go

/-- A string's bytes. -/
def bts (s : ByteArray) : List UInt8 := s.data.toList
/-- The number of its byte i. -/
def btN (s : ByteArray) (i : Nat) : Nat := ((bts s).getD i 0).toNat

theorem bts_length (s : ByteArray) : (bts s).length = s.size := Array.length_toList
theorem bts_mk (l : List UInt8) : bts ⟨l.toArray⟩ = l := rfl
theorem btN_lt (s : ByteArray) (i : Nat) : btN s i < 256 := ((bts s).getD i 0).toNat_lt
theorem btN_of {s : ByteArray} {i : Nat} {x : UInt8} (h : (bts s)[i]? = some x) : btN s i = x.toNat := by simp [btN, List.getD, h]
theorem bts_at {s : ByteArray} {i : Nat} (h : i < s.size) : ∃ x, (bts s)[i]? = some x := ⟨_, List.getElem?_eq_getElem (by rw [bts_length]; exact h)⟩
theorem bts_extract (s : ByteArray) (a b : Nat) : bts (s.extract a b) = ((bts s).drop a).take (b - a) := by
  show (s.extract a b).data.toList = _
  rw [ByteArray.data_extract, Array.toList_extract, List.extract_eq_take_drop]
  rfl
theorem btN_extract (s : ByteArray) (a b i : Nat) (h : i < b - a) : btN (s.extract a b) i = btN s (a + i) := by
  unfold btN
  rw [bts_extract]
  simp only [List.getD]
  rw [List.getElem?_take_of_lt h, List.getElem?_drop]
theorem ba_append (a b : List UInt8) : (⟨a.toArray⟩ : ByteArray) ++ ⟨b.toArray⟩ = ⟨(a ++ b).toArray⟩ := by
  apply ByteArray.ext
  rw [ByteArray.data_append]
  simp

theorem size_extract {s : ByteArray} {a b : Nat} (h : a ≤ b) (hb : b ≤ s.size) : (s.extract a b).size = b - a := by
  rw [ByteArray.size_extract]
  omega

end Wh
namespace Go.Proofs.YtloccocengegnaaDoor
open Go.RowKit Wh

theorem index_str (s : ByteArray) (i : Nat) (h : i < s.size) (W : World) : (Instr.index 9 (.string s) (.int .i64 i)).run Tryd.prog W = .ok (.int .u8 (btN s i)) W := by
  rw [run_index_string W 9 s .i64 i Tryd.underlying9, dif_pos (by omega)]
  have e : (s[((i : Int)).toNat]'(by omega)).toNat = btN s i := by
    rw [btN_of (x := s[((i : Int)).toNat]'(by omega))]
    show s.data.toList[i]? = _
    rw [Array.getElem?_toList]
    exact Array.getElem?_eq_getElem (show i < s.data.size from h)
  rw [e]

theorem slice_str (s : ByteArray) (a b : Nat) (h : a ≤ b) (hb : b ≤ s.size) (W : World) :
    (Instr.slice 9 (.string s) (some (.int .i64 a)) (some (.int .i64 b)) none).run Tryd.prog W = .ok (.string (s.extract a b)) W := by
  rw [run_slice_string_if W 9 s .i64 .i64 a b Tryd.underlying9, if_pos (by omega), if_pos (by omega)]
  rfl

theorem slice_str_from (s : ByteArray) (a : Nat) (h : a ≤ s.size) (W : World) :
    (Instr.slice 9 (.string s) (some (.int .i64 a)) none none).run Tryd.prog W = .ok (.string (s.extract a s.size)) W := by
  rw [run_slice_string_from_if W 9 s .i64 a Tryd.underlying9, if_pos (by omega)]
  rfl

theorem slice_str_to (s : ByteArray) (b : Nat) (hb : b ≤ s.size) (W : World) :
    (Instr.slice 9 (.string s) none (some (.int .i64 b)) none).run Tryd.prog W = .ok (.string (s.extract 0 b)) W := by
  rw [run_slice_string_to_if W 9 s .i64 b Tryd.underlying9, if_pos (by omega)]
  rfl

/-- A slice of bytes as a string. -/
theorem conv_str {W : World} {b off c y : Nat} {l : List UInt8} (hy : l.length = y) (h : ∀ (j : Nat) (x : UInt8), l[j]? = some x → W.cell? ⟨b, off + j, none⟩ = some (.int .u8 x.toNat)) :
    (convert 54 9 (.slice (some ⟨b, off, none⟩) y c)).run Tryd.prog W = .ok (.string ⟨l.toArray⟩) W := by
  subst hy
  refine run_convert_bytes_back W _ _ 5 ⟨b, off, none⟩ c l Tryd.underlying54 Tryd.underlying5 Tryd.underlying9 fun j hj => ?_
  have hadd : (⟨b, off, none⟩ : Addr).add j = ⟨b, off + j, none⟩ := by unfold Addr.add; split <;> simp_all
  rw [hadd]
  exact h j _ (List.getElem?_eq_getElem hj)

end Go.Proofs.YtloccocengegnaaDoor

