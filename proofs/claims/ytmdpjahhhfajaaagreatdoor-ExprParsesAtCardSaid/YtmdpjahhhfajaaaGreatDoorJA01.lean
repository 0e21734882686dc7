/-
  For every layer: a string's bytes; its index and its pieces, in a form that a walk uses as it stands. · For every layer: equal results make equal endings; a pair of an integer and a bool.
-/
import Derived.Test.YtmdpjahhhfajaaaGreatDoorRows
import Derived.WalkKit
import Derived.WalkSpells
import Derived.Lib.Hide
import Derived.Laws.IdiomStrings
import Derived.Deep.QuietTactic
set_option linter.unusedVariables false
namespace Wh
open Go

/-- A string's bytes. -/
def bts (s : ByteArray) : List UInt8 := s.data.toList
/-- The number of its byte i. -/
def btN (s : ByteArray) (i : Nat) : Nat := ((bts s).getD i 0).toNat

theorem bts_length (s : ByteArray) : (bts s).length = s.size := Array.length_toList
theorem bts_mk (l : List UInt8) : bts ⟨l.toArray⟩ = l := rfl
theorem btN_lt (s : ByteArray) (i : Nat) : btN s i < 256 := ((bts s).getD i 0).toNat_lt
theorem btN_of {s : ByteArray} {i : Nat} {x : UInt8} (h : (bts s)[i]? = some x) : btN s i = x.toNat := by simp [btN, List.getD, h]
theorem bts_at {s : ByteArray} {i : Nat} (h : i < s.size) : ∃ x, (bts s)[i]? = some x := ⟨_, List.getElem?_eq_getElem (by rw [bts_length]; exact h)⟩
theorem bts_extract (s : ByteArray) (a b : Nat) : bts (s.extract a b) = ((bts s).drop a).take (b - a) := by
  show (s.extract a b).data.toList = _
  rw [ByteArray.data_extract, Array.toList_extract, List.extract_eq_take_drop]
  rfl
theorem btN_extract (s : ByteArray) (a b i : Nat) (h : i < b - a) : btN (s.extract a b) i = btN s (a + i) := by
  unfold btN
  rw [bts_extract]
  simp only [List.getD]
  rw [List.getElem?_take_of_lt h, List.getElem?_drop]
theorem ba_append (a b : List UInt8) : (⟨a.toArray⟩ : ByteArray) ++ ⟨b.toArray⟩ = ⟨(a ++ b).toArray⟩ := by
  apply ByteArray.ext
  rw [ByteArray.data_append]
  simp

theorem size_extract {s : ByteArray} {a b : Nat} (h : a ≤ b) (hb : b ≤ s.size) : (s.extract a b).size = b - a := by
  rw [ByteArray.size_extract]
  omega

end Wh
namespace Go.Proofs.YtmdpjahhhfajaaaGreatDoor
open Go.RowKit Wh

theorem index_str (s : ByteArray) (i : Nat) (h : i < s.size) (W : World) : (Instr.index 9 (.string s) (.int .i64 i)).run Tryz.prog W = .ok (.int .u8 (btN s i)) W := by
  rw [run_index_string W 9 s .i64 i Tryz.underlying9, dif_pos (by omega)]
  have e : (s[((i : Int)).toNat]'(by omega)).toNat = btN s i := by
    rw [btN_of (x := s[((i : Int)).toNat]'(by omega))]
    show s.data.toList[i]? = _
    rw [Array.getElem?_toList]
    exact Array.getElem?_eq_getElem (show i < s.data.size from h)
  rw [e]

theorem slice_str (s : ByteArray) (a b : Nat) (h : a ≤ b) (hb : b ≤ s.size) (W : World) :
    (Instr.slice 9 (.string s) (some (.int .i64 a)) (some (.int .i64 b)) none).run Tryz.prog W = .ok (.string (s.extract a b)) W := by
  rw [run_slice_string_if W 9 s .i64 .i64 a b Tryz.underlying9, if_pos (by omega), if_pos (by omega)]
  rfl

theorem slice_str_from (s : ByteArray) (a : Nat) (h : a ≤ s.size) (W : World) :
    (Instr.slice 9 (.string s) (some (.int .i64 a)) none none).run Tryz.prog W = .ok (.string (s.extract a s.size)) W := by
  rw [run_slice_string_from_if W 9 s .i64 a Tryz.underlying9, if_pos (by omega)]
  rfl

theorem slice_str_to (s : ByteArray) (b : Nat) (hb : b ≤ s.size) (W : World) :
    (Instr.slice 9 (.string s) none (some (.int .i64 b)) none).run Tryz.prog W = .ok (.string (s.extract 0 b)) W := by
  rw [run_slice_string_to_if W 9 s .i64 b Tryz.underlying9, if_pos (by omega)]
  rfl

/-- A slice of bytes as a string. -/
theorem conv_str {W : World} {b off c y : Nat} {l : List UInt8} (hy : l.length = y) (h : ∀ (j : Nat) (x : UInt8), l[j]? = some x → W.cell? ⟨b, off + j, none⟩ = some (.int .u8 x.toNat)) :
    (convert 127 9 (.slice (some ⟨b, off, none⟩) y c)).run Tryz.prog W = .ok (.string ⟨l.toArray⟩) W := by
  subst hy
  refine run_convert_bytes_back W _ _ 5 ⟨b, off, none⟩ c l Tryz.underlying127 Tryz.underlying5 Tryz.underlying9 fun j hj => ?_
  have hadd : (⟨b, off, none⟩ : Addr).add j = ⟨b, off + j, none⟩ := by unfold Addr.add; split <;> simp_all
  rw [hadd]
  exact h j _ (List.getElem?_eq_getElem hj)

end Go.Proofs.YtmdpjahhhfajaaaGreatDoor
namespace Go.Proofs.YtmdpjahhhfajaaaGreatDoor

theorem ret_bool {a b : Bool} (h : a = b) : Ending.returned (.bool a) = .returned (.bool b) := by rw [h]
theorem ret_int {k : IntKind} {a b : Int} (h : a = b) : Ending.returned (.int k a) = .returned (.int k b) := by rw [h]
theorem ret_pair {k : IntKind} {a b : Int} {x y : Bool} (h : a = b) (g : x = y) : Ending.returned (.tuple #[.int k a, .bool x]) = .returned (.tuple #[.int k b, .bool y]) := by rw [h, g]

theorem ret_two {k m : IntKind} {a b c d : Int} (h : a = b) (g : c = d) : Ending.returned (.tuple #[.int k a, .int m c]) = .returned (.tuple #[.int k b, .int m d]) := by rw [h, g]
theorem ret_three {k m n : IntKind} {a b c d x y : Int} (h : a = b) (g : c = d) (i : x = y) : Ending.returned (.tuple #[.int k a, .int m c, .int n x]) = .returned (.tuple #[.int k b, .int m d, .int n y]) := by rw [h, g, i]

theorem results_tmp4 {fn : Func} {t u v x : Tmp} (h : fn.results = #[.tmp t, .tmp u, .tmp v, .tmp x]) (tmps : Array Value) (P : Program) (w : World) :
    (results fn tmps).run P w = .ok (.tuple #[tmps.getD t undef, tmps.getD u undef, tmps.getD v undef, tmps.getD x undef]) w := by
  simp [results, h]

/-- What 'go_quiet' wants of a callee that changes nothing. -/
theorem quiet_eq {P : Program} {f : FuncId} {args : Array Value} {w : World} {n : Nat} {v : Value}
    (h : Calls P f args (w.drewN n) fun e w' => e = .returned v ∧ w.drewN n = w') : Calls P f args (w.drewN n) fun e w'' => e = .returned v ∧ ∃ m, w'' = w.drewN m :=
  h.mono fun _ _ ⟨he, hm⟩ => ⟨he, n, hm.symm⟩

/-- The call returns a number and a bool, and the world is as it was. -/
def IsPair (z : Int) (x : Bool) (w : World) (e : Ending) (w' : World) : Prop := e = .returned (.tuple #[.int .i64 z, .bool x]) ∧ w = w'

end Go.Proofs.YtmdpjahhhfajaaaGreatDoor
