/-
  putNumber and Format of civil.
-/
import Derived.Test.YtloccocengegnaaDoorCRFormat
import Derived.LoopTactic
import Derived.Lib.SlBytesConst
set_option linter.unusedVariables false
set_option maxRecDepth 100000
namespace Go.Proofs.YtloccocengegnaaDoor
open Go.RowKit Wh

/-- Block g holds the bytes L, and they may be written. -/
def Row (w : World) (g : Nat) (L : List UInt8) : Prop := ∀ (i : Nat) (x : UInt8), L[i]? = some x → w.cell? ⟨g, i, none⟩ = some (.int .u8 x.toNat) ∧ w.frozen? ⟨g, i, none⟩ = false

theorem Row.set {w : World} {g : Nat} {L : List UInt8} (h : Row w g L) (j : Nat) (x : UInt8) : Row (w.setCell ⟨g, j, none⟩ (.int .u8 x.toNat)) g (L.set j x) := by
  intro i y hi
  have hlt : i < L.length := by have := (List.getElem?_eq_some_iff.1 hi).1; rw [List.length_set] at this; exact this
  by_cases e : i = j
  · subst e
    rw [List.getElem?_set_self hlt] at hi
    obtain rfl := Option.some.inj hi
    have h2 := h i _ (List.getElem?_eq_getElem hlt)
    exact ⟨World.cell?_setCell_same w _ _ h2.1, by rw [World.frozen?_setCell]; exact h2.2⟩
  · rw [List.getElem?_set_ne (fun h => e h.symm)] at hi
    have h2 := h i y hi
    exact ⟨(World.cell?_setCell_other w _ _ _ (fun h => e (by cases h; rfl))).trans h2.1, by rw [World.frozen?_setCell]; exact h2.2⟩

theorem take_mid {P M l Q : List UInt8} {j : Nat} {y : UInt8} (hy : M[j]? = some y) : P ++ M.take (j + 1) ++ l ++ Q = (P ++ M.take j) ++ (y :: (l ++ Q)) ∧ (P ++ M.take j).length = P.length + j := by
  have hj := (List.getElem?_eq_some_iff.1 hy).1
  have hm : M.take (j + 1) = M.take j ++ [y] := by rw [List.take_add_one, hy]; rfl
  have hl : (M.take j).length = j := by rw [List.length_take]; omega
  refine ⟨?_, by rw [List.length_append, hl]⟩
  rw [hm]
  simp only [List.append_assoc, List.cons_append, List.nil_append]

theorem at_mid {P M l Q : List UInt8} {j : Nat} {y : UInt8} (hy : M[j]? = some y) : (P ++ M.take (j + 1) ++ l ++ Q)[P.length + j]? = some y := by
  obtain ⟨h1, h2⟩ := take_mid (P := P) (l := l) (Q := Q) hy
  rw [h1, List.getElem?_append_right (by omega), h2, Nat.sub_self]
  rfl

theorem set_mid {P M l Q : List UInt8} {j : Nat} {y : UInt8} (hy : M[j]? = some y) (x : UInt8) : (P ++ M.take (j + 1) ++ l ++ Q).set (P.length + j) x = P ++ M.take j ++ (x :: l) ++ Q := by
  obtain ⟨h1, h2⟩ := take_mid (P := P) (l := l) (Q := Q) hy
  rw [h1, List.set_append_right _ _ (by omega), h2, Nat.sub_self, List.set_cons_zero]
  simp only [List.append_assoc, List.cons_append]

theorem put_any (g c : Nat) (P M Q : List UInt8) (n k off : Nat) (hk : M.length = k) (hk1 : k ≤ 4) (ho : P.length = off) (hn : n ≤ 10000) (B : Nat) (hB : B ≤ g) (w : World) (hr : Row w g (P ++ M ++ Q)) :
    Calls Tryd.prog 47 #[.slice (some ⟨g, off, none⟩) k c, .int .i64 n] w fun e w' => e = .returned (.tuple #[]) ∧ Row w' g (P ++ digs k n ++ Q) ∧ Below B w w' := by
  have HK := Lib.hid hk
  have HO := Lib.hid ho
  have HR := Lib.hid hr
  clear hk ho hr
  go_enter Tryd.func47, Tryd.ntmps47
  go_wp2_with fail
  go_loopw [1, 4] (fun nv iv wr => ∃ (j x : Nat) (l : List UInt8), j ≤ k ∧ x ≤ 10000 ∧ nv = .int .i64 x ∧ iv = .int .i64 ((j : Int) - 1) ∧ Hid (digs k n = digs j x ++ l) ∧ Hid (Row wr g (P ++ M.take j ++ l ++ Q)) ∧ Hid (Below B w wr)) (fun _ iv _ => (intOf iv + 1).toNat)
  case atStart => exact ⟨k, n, [], Nat.le_refl _, hn, rfl, rfl, (List.append_nil _).symm, by rw [← HK.out, List.take_length, List.append_nil]; exact HR.out, Below.refl _ _⟩
  case round =>
    obtain ⟨j, x, l, hj, hx9, rfl, rfl, HD, HW, HB⟩ := hrel
    by_cases hlt : 0 < j
    · obtain ⟨i, rfl⟩ : ∃ i, j = i + 1 := ⟨j - 1, by omega⟩
      have hdn := dig_nat x
      obtain ⟨y, hy⟩ : ∃ y, M[i]? = some y := ⟨_, List.getElem?_eq_getElem (by have := HK.out; omega)⟩
      have hin := at_mid (P := P) (l := l) (Q := Q) hy
      rw [HO.out] at hin
      obtain ⟨hc, hf⟩ := HW.out _ _ hin
      have h2 := HW.out.set (off + i) (dig x)
      rw [← HO.out, set_mid hy, HO.out, hdn, show ((48 + x % 10 : Nat) : Int) = 48 + (x : Int) % 10 by omega] at h2
      have HW2 := Lib.hid h2
      have HD2 := Lib.hid (show digs k n = digs i (x / 10) ++ (dig x :: l) by rw [HD.out]; simp [digs])
      clear h2 hin HW HR HD hdn hy
      go_wp2_with fail
      go_roundw
      case rel => exact ⟨i, x / 10, dig x :: l, by omega, by omega, by go_num, by go_num, HD2, HW2, HB.out.setCell hB _⟩
      case measure => simp [intOf]
    · obtain rfl : j = 0 := by omega
      have e : digs k n = l := HD.out
      have HW2 := Lib.hid HW.out
      go_wp2_with fail
      go_end0
      rw [e]
      refine ⟨rfl, ?_, HB.out⟩
      simpa using HW2.out

/-- What '[]byte(pattern)' lays. -/
theorem row_new (w : World) : ∃ w1 : World, (convert 54 54 (.slice (some ⟨w.heap.size, 0, none⟩) 16 16)).run Tryd.prog (w.alloc (.cells #[.int .u8 48, .int .u8 48, .int .u8 48, .int .u8 48, .int .u8 45, .int .u8 48, .int .u8 48, .int .u8 45, .int .u8 48, .int .u8 48, .int .u8 84, .int .u8 48, .int .u8 48, .int .u8 58, .int .u8 48, .int .u8 48] 5)) = .ok (.slice (some ⟨w.heap.size, 0, none⟩) 16 16) w1 ∧
    Row w1 w.heap.size [48, 48, 48, 48, 45, 48, 48, 45, 48, 48, 84, 48, 48, 58, 48, 48] ∧ Below w.heap.size w w1 := by
  refine ⟨_, Lib.run_convert_bytes_const (P := Tryd.prog) w 54 5 #[.int .u8 48, .int .u8 48, .int .u8 48, .int .u8 48, .int .u8 45, .int .u8 48, .int .u8 48, .int .u8 45, .int .u8 48, .int .u8 48, .int .u8 84, .int .u8 48, .int .u8 48, .int .u8 58, .int .u8 48, .int .u8 48] 16 16 Tryd.underlying54 Tryd.underlying5, ?_, (Below.refl _ _).alloc (Nat.le_refl _) _⟩
  have hg : (w.alloc (.cells #[.int .u8 48, .int .u8 48, .int .u8 48, .int .u8 48, .int .u8 45, .int .u8 48, .int .u8 48, .int .u8 45, .int .u8 48, .int .u8 48, .int .u8 84, .int .u8 48, .int .u8 48, .int .u8 58, .int .u8 48, .int .u8 48] 5 (16, 17))).heap[w.heap.size]? = some (.cells #[.int .u8 48, .int .u8 48, .int .u8 48, .int .u8 48, .int .u8 45, .int .u8 48, .int .u8 48, .int .u8 45, .int .u8 48, .int .u8 48, .int .u8 84, .int .u8 48, .int .u8 48, .int .u8 58, .int .u8 48, .int .u8 48] 5 (16, 17)) := by
    show (w.heap.push _)[w.heap.size]? = _
    simp
  intro i x hi
  have hlt : i < 16 := (List.getElem?_eq_some_iff.1 hi).1
  constructor
  · refine (cell_of_row _ _ i _ _ _ hg).trans ?_
    have e : (#[.int .u8 48, .int .u8 48, .int .u8 48, .int .u8 48, .int .u8 45, .int .u8 48, .int .u8 48, .int .u8 45, .int .u8 48, .int .u8 48, .int .u8 84, .int .u8 48, .int .u8 48, .int .u8 58, .int .u8 48, .int .u8 48] : Array Value)[i]? = ([48, 48, 48, 48, 45, 48, 48, 45, 48, 48, 84, 48, 48, 58, 48, 48] : List UInt8)[i]?.map fun b => .int .u8 b.toNat := by
      rw [← List.getElem?_map, ← Array.getElem?_toList]
      rfl
    rw [e, hi]
    rfl
  · show (w.alloc (.cells #[.int .u8 48, .int .u8 48, .int .u8 48, .int .u8 48, .int .u8 45, .int .u8 48, .int .u8 48, .int .u8 45, .int .u8 48, .int .u8 48, .int .u8 84, .int .u8 48, .int .u8 48, .int .u8 58, .int .u8 48, .int .u8 48] 5 (16, 17))).frozen? _ = false
    unfold World.frozen?
    simp only [hg]
    simp
    omega

theorem format_bad (m : Int) (h : m < 0 ∨ 575999999 < m) (w : World) :
    Calls Tryd.prog 29 #[.int .i64 m] w (IsTxt [] 1 w) := by
  rcases (show m < 0 ∨ (0 ≤ m ∧ 575999999 < m) by omega) with h1 | ⟨h1, h2⟩
  all_goals
    clear h
    go_enter Tryd.func29, Tryd.ntmps29
    go_wp2_with fail
    go_ret2
    exact ⟨rfl, Below.refl _ _⟩

theorem format_any (y : Int) (k : Nat) (d : Int) (t : Nat) (hd : Dt y k d) (ht : t < 1440) (hn : dayZ y k d ≤ 399999) (w : World) (hT : Tab w) :
    Calls Tryd.prog 29 #[.int .i64 (dayZ y k d * 1440 + t)] w (IsTxt (fmtL y k d t) 0 w) := by
  have n0 := hd.n0
  have y0 := hd.y0
  have y9 := hd.year
  have k1 := hd.k1
  have d0 := hd.d0
  have d9 : d ≤ 31 := by have := hd.d1; have := lenZ_bd y ((k : Int) + 1); omega
  have c0 := date_any y k d hd w hT
  obtain ⟨Y, rfl⟩ : ∃ Y : Nat, y = (Y : Int) := ⟨y.toNat, by omega⟩
  obtain ⟨D, rfl⟩ : ∃ D : Nat, d = (D : Int) := ⟨d.toNat, by omega⟩
  generalize dayZ (Y : Int) k D = n at *
  have hL : fmtL Y k D t = digs 4 Y ++ [45] ++ digs 2 (k + 1) ++ [45] ++ digs 2 D ++ [84] ++ digs 2 (t / 60) ++ [58] ++ digs 2 (t % 60) := rfl
  have hLL := fmtL_length Y k D t
  have e1 : (n * 1440 + (t : Int)) / 1440 = n := by omega
  have e2 : (n * 1440 + (t : Int)) / 60 % 24 = ((t / 60 : Nat) : Int) := by omega
  have e3 : (n * 1440 + (t : Int)) % 60 = ((t % 60 : Nat) : Int) := by omega
  have m0 : 0 ≤ n * 1440 + (t : Int) := by omega
  have m9 : n * 1440 + (t : Int) ≤ 575999999 := by omega
  have H9 : t / 60 ≤ 10000 := by omega
  have M9 : t % 60 ≤ 10000 := by omega
  generalize fmtL Y k D t = L at *
  generalize n * 1440 + (t : Int) = m at *
  generalize t / 60 = H at *
  generalize t % 60 = M at *
  have l1 := digs_length 4 Y
  have l2 := digs_length 2 (k + 1)
  have l3 := digs_length 2 D
  have l4 := digs_length 2 H
  have P1 := Lib.hid (fun W hr => put_any w.heap.size 16 [] [48, 48, 48, 48] [45, 48, 48, 45, 48, 48, 84, 48, 48, 58, 48, 48] Y 4 0 rfl (by omega) rfl (by omega) w.heap.size (Nat.le_refl _) W hr)
  have P2 := Lib.hid (fun W hr => put_any w.heap.size 11 (digs 4 Y ++ [45]) [48, 48] [45, 48, 48, 84, 48, 48, 58, 48, 48] (k + 1) 2 5 rfl (by omega) (by simp [l1]) (by omega) w.heap.size (Nat.le_refl _) W hr)
  have P3 := Lib.hid (fun W hr => put_any w.heap.size 8 (digs 4 Y ++ [45] ++ digs 2 (k + 1) ++ [45]) [48, 48] [84, 48, 48, 58, 48, 48] D 2 8 rfl (by omega) (by simp [l1, l2]) (by omega) w.heap.size (Nat.le_refl _) W hr)
  have P4 := Lib.hid (fun W hr => put_any w.heap.size 5 (digs 4 Y ++ [45] ++ digs 2 (k + 1) ++ [45] ++ digs 2 D ++ [84]) [48, 48] [58, 48, 48] H 2 11 rfl (by omega) (by simp [l1, l2, l3]) (by omega) w.heap.size (Nat.le_refl _) W hr)
  have P5 := Lib.hid (fun W hr => put_any w.heap.size 2 (digs 4 Y ++ [45] ++ digs 2 (k + 1) ++ [45] ++ digs 2 D ++ [84] ++ digs 2 H ++ [58]) [48, 48] [] M 2 14 rfl (by omega) (by simp [l1, l2, l3, l4]) (by omega) w.heap.size (Nat.le_refl _) W hr)
  generalize digs 4 Y = L1 at *
  generalize digs 2 (k + 1) = L2 at *
  generalize digs 2 D = L3 at *
  generalize digs 2 H = L4 at *
  generalize digs 2 M = L5 at *
  obtain ⟨w0, kc, r0, hb0⟩ := row_new w
  have C0 := Lib.hid c0
  have HL := Lib.hid hL
  have HLL := Lib.hid hLL
  have R0 := Lib.hid r0
  clear c0 hL hLL hd hT r0 l1 l2 l3 l4
  go_enter Tryd.func29, Tryd.ntmps29
  go_wp2_with fail
  refine C0.out.mono ?_
  rintro e w' ⟨rfl, rfl⟩
  go_wp2_with fail
  refine (P1.out _ R0.out).mono ?_
  rintro e w1 ⟨rfl, r1, hb1⟩
  have R1 := Lib.hid (show Row w1 w.heap.size (L1 ++ [45] ++ [48, 48] ++ [45, 48, 48, 84, 48, 48, 58, 48, 48]) by simpa using r1)
  clear r1
  go_wp2_with fail
  refine (P2.out _ R1.out).mono ?_
  rintro e w2 ⟨rfl, r2, hb2⟩
  have R2 := Lib.hid (show Row w2 w.heap.size (L1 ++ [45] ++ L2 ++ [45] ++ [48, 48] ++ [84, 48, 48, 58, 48, 48]) by simpa using r2)
  clear r2
  go_wp2_with fail
  refine (P3.out _ R2.out).mono ?_
  rintro e w3 ⟨rfl, r3, hb3⟩
  have R3 := Lib.hid (show Row w3 w.heap.size (L1 ++ [45] ++ L2 ++ [45] ++ L3 ++ [84] ++ [48, 48] ++ [58, 48, 48]) by simpa using r3)
  clear r3
  go_wp2_with fail
  refine (P4.out _ R3.out).mono ?_
  rintro e w4 ⟨rfl, r4, hb4⟩
  have R4 := Lib.hid (show Row w4 w.heap.size (L1 ++ [45] ++ L2 ++ [45] ++ L3 ++ [84] ++ L4 ++ [58] ++ [48, 48] ++ []) by simpa using r4)
  clear r4
  go_wp2_with fail
  refine (P5.out _ R4.out).mono ?_
  rintro e w5 ⟨rfl, r5, hb5⟩
  have hback := conv_str (W := w5) (b := w.heap.size) (off := 0) (c := 16) (y := 16) (l := L) HLL.out (fun i x hi => by
    rw [HL.out] at hi
    rw [Nat.zero_add]
    exact (r5 i x (by simpa using hi)).1)
  clear r5
  go_wp2_with fail
  go_ret2
  exact ⟨rfl, ((((hb0.trans hb1).trans hb2).trans hb3).trans hb4).trans hb5⟩

end Go.Proofs.YtloccocengegnaaDoor

