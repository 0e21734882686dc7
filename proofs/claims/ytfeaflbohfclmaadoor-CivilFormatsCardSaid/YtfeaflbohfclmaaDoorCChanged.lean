/-
  What changed of the laws returns: some text.
-/
import Derived.Test.YtfeaflbohfclmaaDoorCText
import Derived.Test.YtfeaflbohfclmaaDoorMask
set_option linter.unusedVariables false
namespace Go.Proofs.YtfeaflbohfclmaaDoor
open Go.RowKit Wh

/-- What '[]byte(s)' lays: the string's bytes in a new block. -/
theorem bytes_row (w : World) (s : ByteArray) : ∃ (c : Nat) (w1 : World), (convert 9 45 (.string s)).run Tryd.prog w = .ok (.slice (some ⟨w.heap.size, 0, none⟩) s.size c) w1 ∧ Below w.heap.size w w1 ∧ w1.heap.size = w.heap.size + 1 ∧ s.size ≤ c ∧
    (∀ i, i < s.size → w1.cell? ⟨w.heap.size, i, none⟩ = some (.int .u8 (btN s i)) ∧ w1.frozen? ⟨w.heap.size, i, none⟩ = false) := by
  refine ⟨_, _, run_bytes_of_string w _ _ 5 s Tryd.underlying9 Tryd.underlying45 Tryd.underlying5, ((Below.refl _ _).drew).alloc (Nat.le_refl _) _, by simp, grownCap_ge _ _ _ _, fun i hi => ?_⟩
  generalize grownCap w s.size 0 5 = c
  have hz : (bytesRow s c)[i]? = some (.int .u8 (btN s i)) := by
    unfold bytesRow
    obtain ⟨x, hx⟩ := bts_at hi
    rw [btN_of hx]
    have hx2 : s.data[i]? = some x := by rw [← Array.getElem?_toList]; exact hx
    rw [Array.getElem?_append_left (by rw [Array.size_map]; exact hi), Array.getElem?_map, hx2]
    rfl
  have hlt : i < (bytesRow s c).size := (Array.getElem?_eq_some_iff.1 hz).1
  have hg : (w.drew.alloc (.cells (bytesRow s c) 5 ((bytesRow s c).size, (bytesRow s c).size + 1))).heap[w.heap.size]? = some (.cells (bytesRow s c) 5 ((bytesRow s c).size, (bytesRow s c).size + 1)) := by
    show (w.heap.push _)[w.heap.size]? = _
    simp
  constructor
  · rw [cell_of_row _ w.heap.size i _ _ _ hg]
    exact hz
  · unfold World.frozen?
    simp only [hg]
    simp
    omega

theorem changed_any (s : ByteArray) (hs : s.size = 16) (a b : Int) (hb0 : 0 ≤ b) (hb1 : b ≤ 255) (w : World) :
    Calls Tryd.prog 22 #[.string s, .int .i64 a, .int .u8 b] w fun e w' => (∃ t, e = .returned (.string t)) ∧ Below w.heap.size w w' := by
  have b8 := and_255
  obtain ⟨c, w1, hcv, hbel, hsz, hc, hat⟩ := bytes_row w s
  rw [hs] at hcv hc hat
  obtain ⟨j, hj⟩ : ∃ j : Nat, a % 256 % 16 = (j : Int) := ⟨(a % 256 % 16).toNat, by omega⟩
  have hj9 : j < 16 := by omega
  obtain ⟨x, rfl⟩ : ∃ x : UInt8, b = x.toNat := ⟨UInt8.ofNat b.toNat, by rw [UInt8.toNat_ofNat']; omega⟩
  have hf := (hat j hj9).2
  have hcl := (hat j hj9).1
  have hback := conv_str (W := w1.setCell ⟨w.heap.size, j, none⟩ (.int .u8 x.toNat)) (b := w.heap.size) (off := 0) (c := c) (y := 16) (l := (bts s).set j x) (by rw [List.length_set, bts_length, hs]) (fun i y hi => by
    rw [Nat.zero_add]
    have hlt : i < 16 := by have := (List.getElem?_eq_some_iff.1 hi).1; rw [List.length_set, bts_length, hs] at this; exact this
    by_cases e : i = j
    · subst e
      rw [List.getElem?_set_self (by rw [bts_length, hs]; exact hlt)] at hi
      obtain rfl := Option.some.inj hi
      exact World.cell?_setCell_same w1 _ _ hcl
    · rw [List.getElem?_set_ne (fun h => e h.symm)] at hi
      rw [World.cell?_setCell_other w1 _ _ _ (fun h => e (by cases h; rfl)), (hat i hlt).1, btN_of hi])
  have HB := Lib.hid hbel
  clear hbel
  go_enter Tryd.func22, Tryd.ntmps22
  go_wp2_with fail
  go_ret
  exact ⟨⟨_, rfl⟩, HB.out.setCell (Nat.le_refl _) _⟩

end Go.Proofs.YtfeaflbohfclmaaDoor
