/-
  putNumber and Format of civil. · How a token is written: write of package token, written of the referen · Join, of the reference, for tokens whose texts are given. · Every well-formed token has a text that both sides write and that is r · The program: fit, enclose, levelOfNegated, FormatBool, Itoa, Join with
-/
import Derived.Test.YtmdpjahhhfajaaaGreatDoorJC13
import Derived.LoopTactic
import Derived.Lib.SlBytesConst
import Derived.Test.YtmdpjahhhfajaaaGreatDoorJC14
import Derived.Test.YtmdpjahhhfajaaaGreatDoorJC27
import Derived.Test.YtmdpjahhhfajaaaGreatDoorJC24
import Derived.Test.YtmdpjahhhfajaaaGreatDoorJC26
import Derived.Test.YtmdpjahhhfajaaaGreatDoorJC03
import Derived.Test.YtmdpjahhhfajaaaGreatDoorJC25
set_option linter.unusedVariables false
set_option maxRecDepth 100000
set_option linter.unusedSimpArgs false
namespace Go.Proofs.YtmdpjahhhfajaaaGreatDoor
open Go.RowKit Wh
def Row (w : World) (g : Nat) (L : List UInt8) : Prop := ∀ (i : Nat) (x : UInt8), L[i]? = some x → w.cell? ⟨g, i, none⟩ = some (.int .u8 x.toNat) ∧ w.frozen? ⟨g, i, none⟩ = false
theorem Row.set {w : World} {g : Nat} {L : List UInt8} (h : Row w g L) (j : Nat) (x : UInt8) : Row (w.setCell ⟨g, j, none⟩ (.int .u8 x.toNat)) g (L.set j x) := by
 intro i y hi
 have hlt : i < L.length := by have := (List.getElem?_eq_some_iff.1 hi).1; rw [List.length_set] at this; exact this
 by_cases e : i = j
 ·subst e
  rw [List.getElem?_set_self hlt] at hi
  obtain rfl := Option.some.inj hi
  have h2 := h i _ (List.getElem?_eq_getElem hlt)
  exact ⟨World.cell?_setCell_same w _ _ h2.1, by rw [World.frozen?_setCell]; exact h2.2⟩
 ·rw [List.getElem?_set_ne (fun h => e h.symm)] at hi
  have h2 := h i y hi
  exact ⟨(World.cell?_setCell_other w _ _ _ (fun h => e (by cases h; rfl))).trans h2.1, by rw [World.frozen?_setCell]; exact h2.2⟩
theorem take_mid {P M l Q : List UInt8} {j : Nat} {y : UInt8} (hy : M[j]? = some y) : P ++ M.take (j + 1) ++ l ++ Q = (P ++ M.take j) ++ (y :: (l ++ Q)) ∧ (P ++ M.take j).length = P.length + j := by
 have hj := (List.getElem?_eq_some_iff.1 hy).1
 have hm : M.take (j + 1) = M.take j ++ [y] := by rw [List.take_add_one, hy]; rfl
 have hl : (M.take j).length = j := by rw [List.length_take]; omega
 refine ⟨?_, by rw [List.length_append, hl]⟩
 rw [hm]
 simp only [List.append_assoc, List.cons_append, List.nil_append]
theorem at_mid {P M l Q : List UInt8} {j : Nat} {y : UInt8} (hy : M[j]? = some y) : (P ++ M.take (j + 1) ++ l ++ Q)[P.length + j]? = some y := by
 obtain ⟨h1, h2⟩ := take_mid (P := P) (l := l) (Q := Q) hy
 rw [h1, List.getElem?_append_right (by omega), h2, Nat.sub_self]
 rfl
theorem set_mid {P M l Q : List UInt8} {j : Nat} {y : UInt8} (hy : M[j]? = some y) (x : UInt8) : (P ++ M.take (j + 1) ++ l ++ Q).set (P.length + j) x = P ++ M.take j ++ (x :: l) ++ Q := by
 obtain ⟨h1, h2⟩ := take_mid (P := P) (l := l) (Q := Q) hy
 rw [h1, List.set_append_right _ _ (by omega), h2, Nat.sub_self, List.set_cons_zero]
 simp only [List.append_assoc, List.cons_append]
theorem put_any (g c : Nat) (P M Q : List UInt8) (n k off : Nat) (hk : M.length = k) (hk1 : k ≤ 4) (ho : P.length = off) (hn : n ≤ 10000) (B : Nat) (hB : B ≤ g) (w : World) (hr : Row w g (P ++ M ++ Q)) :
  Calls Tryz.prog 214 #[.slice (some ⟨g, off, none⟩) k c, .int .i64 n] w fun e w' => e = .returned (.tuple #[]) ∧ Row w' g (P ++ digs k n ++ Q) ∧ Below B w w' := by
 have HK := Lib.hid hk
 have HO := Lib.hid ho
 have HR := Lib.hid hr
 clear hk ho hr
 go_enter Tryz.func214, Tryz.ntmps214
 go_wp2_with fail
 go_loopw [1, 4] (fun nv iv wr => ∃ (j x : Nat) (l : List UInt8), j ≤ k ∧ x ≤ 10000 ∧ nv = .int .i64 x ∧ iv = .int .i64 ((j : Int) - 1) ∧ Hid (digs k n = digs j x ++ l) ∧ Hid (Row wr g (P ++ M.take j ++ l ++ Q)) ∧ Hid (Below B w wr)) (fun _ iv _ => (intOf iv + 1).toNat)
 case atStart => exact ⟨k, n, [], Nat.le_refl _, hn, rfl, rfl, (List.append_nil _).symm, by rw [← HK.out, List.take_length, List.append_nil]; exact HR.out, Below.refl _ _⟩
 case round =>
  obtain ⟨j, x, l, hj, hx9, rfl, rfl, HD, HW, HB⟩ := hrel
  by_cases hlt : 0 < j
  ·obtain ⟨i, rfl⟩ : ∃ i, j = i + 1 := ⟨j - 1, by omega⟩
   have hdn := dig_nat x
   obtain ⟨y, hy⟩ : ∃ y, M[i]? = some y := ⟨_, List.getElem?_eq_getElem (by have := HK.out; omega)⟩
   have hin := at_mid (P := P) (l := l) (Q := Q) hy
   rw [HO.out] at hin
   obtain ⟨hc, hf⟩ := HW.out _ _ hin
   have h2 := HW.out.set (off + i) (dig x)
   rw [← HO.out, set_mid hy, HO.out, hdn, show ((48 + x % 10 : Nat) : Int) = 48 + (x : Int) % 10 by omega] at h2
   have HW2 := Lib.hid h2
   have HD2 := Lib.hid (show digs k n = digs i (x / 10) ++ (dig x :: l) by rw [HD.out]; simp [digs])
   clear h2 hin HW HR HD hdn hy
   go_wp2_with fail
   go_roundw
   case rel => exact ⟨i, x / 10, dig x :: l, by omega, by omega, by go_num, by go_num, HD2, HW2, HB.out.setCell hB _⟩
   case measure => simp [intOf]
  ·obtain rfl : j = 0 := by omega
   have e : digs k n = l := HD.out
   have HW2 := Lib.hid HW.out
   go_wp2_with fail
   go_end0
   rw [e]
   refine ⟨rfl, ?_, HB.out⟩
   simpa using HW2.out
theorem row_new (w : World) : ∃ w1 : World, (convert 127 127 (.slice (some ⟨w.heap.size, 0, none⟩) 16 16)).run Tryz.prog (w.alloc (.cells #[.int .u8 48, .int .u8 48, .int .u8 48, .int .u8 48, .int .u8 45, .int .u8 48, .int .u8 48, .int .u8 45, .int .u8 48, .int .u8 48, .int .u8 84, .int .u8 48, .int .u8 48, .int .u8 58, .int .u8 48, .int .u8 48] 5)) = .ok (.slice (some ⟨w.heap.size, 0, none⟩) 16 16) w1 ∧
  Row w1 w.heap.size [48, 48, 48, 48, 45, 48, 48, 45, 48, 48, 84, 48, 48, 58, 48, 48] ∧ Below w.heap.size w w1 := by
 refine ⟨_, Lib.run_convert_bytes_const (P := Tryz.prog) w 127 5 #[.int .u8 48, .int .u8 48, .int .u8 48, .int .u8 48, .int .u8 45, .int .u8 48, .int .u8 48, .int .u8 45, .int .u8 48, .int .u8 48, .int .u8 84, .int .u8 48, .int .u8 48, .int .u8 58, .int .u8 48, .int .u8 48] 16 16 Tryz.underlying127 Tryz.underlying5, ?_, (Below.refl _ _).alloc (Nat.le_refl _) _⟩
 have hg : (w.alloc (.cells #[.int .u8 48, .int .u8 48, .int .u8 48, .int .u8 48, .int .u8 45, .int .u8 48, .int .u8 48, .int .u8 45, .int .u8 48, .int .u8 48, .int .u8 84, .int .u8 48, .int .u8 48, .int .u8 58, .int .u8 48, .int .u8 48] 5 (16, 17))).heap[w.heap.size]? = some (.cells #[.int .u8 48, .int .u8 48, .int .u8 48, .int .u8 48, .int .u8 45, .int .u8 48, .int .u8 48, .int .u8 45, .int .u8 48, .int .u8 48, .int .u8 84, .int .u8 48, .int .u8 48, .int .u8 58, .int .u8 48, .int .u8 48] 5 (16, 17)) := by
  show (w.heap.push _)[w.heap.size]? = _
  simp
 intro i x hi
 have hlt : i < 16 := (List.getElem?_eq_some_iff.1 hi).1
 constructor
 ·refine (cell_of_row _ _ i _ _ _ hg).trans ?_
  have e : (#[.int .u8 48, .int .u8 48, .int .u8 48, .int .u8 48, .int .u8 45, .int .u8 48, .int .u8 48, .int .u8 45, .int .u8 48, .int .u8 48, .int .u8 84, .int .u8 48, .int .u8 48, .int .u8 58, .int .u8 48, .int .u8 48] : Array Value)[i]? = ([48, 48, 48, 48, 45, 48, 48, 45, 48, 48, 84, 48, 48, 58, 48, 48] : List UInt8)[i]?.map fun b => .int .u8 b.toNat := by
   rw [← List.getElem?_map, ← Array.getElem?_toList]
   rfl
  rw [e, hi]
  rfl
 ·show (w.alloc (.cells #[.int .u8 48, .int .u8 48, .int .u8 48, .int .u8 48, .int .u8 45, .int .u8 48, .int .u8 48, .int .u8 45, .int .u8 48, .int .u8 48, .int .u8 84, .int .u8 48, .int .u8 48, .int .u8 58, .int .u8 48, .int .u8 48] 5 (16, 17))).frozen? _ = false
  unfold World.frozen?
  simp only [hg]
  simp
  omega
theorem format_any (y : Int) (k : Nat) (d : Int) (t : Nat) (hd : Dt y k d) (ht : t < 1440) (hn : dayZ y k d ≤ 399999) (w : World) (hT : Tab w) :
  Calls Tryz.prog 190 #[.int .i64 (dayZ y k d * 1440 + t)] w (IsTxt (fmtL y k d t) 0 w) := by
 have n0 := hd.n0
 have y0 := hd.y0
 have y9 := hd.year
 have k1 := hd.k1
 have d0 := hd.d0
 have d9 : d ≤ 31 := by have := hd.d1; have := lenZ_bd y ((k : Int) + 1); omega
 have c0 := date_any y k d hd w hT
 obtain ⟨Y, rfl⟩ : ∃ Y : Nat, y = (Y : Int) := ⟨y.toNat, by omega⟩
 obtain ⟨D, rfl⟩ : ∃ D : Nat, d = (D : Int) := ⟨d.toNat, by omega⟩
 generalize dayZ (Y : Int) k D = n at *
 have hL : fmtL Y k D t = digs 4 Y ++ [45] ++ digs 2 (k + 1) ++ [45] ++ digs 2 D ++ [84] ++ digs 2 (t / 60) ++ [58] ++ digs 2 (t % 60) := rfl
 have hLL := fmtL_length Y k D t
 have e1 : (n * 1440 + (t : Int)) / 1440 = n := by omega
 have e2 : (n * 1440 + (t : Int)) / 60 % 24 = ((t / 60 : Nat) : Int) := by omega
 have e3 : (n * 1440 + (t : Int)) % 60 = ((t % 60 : Nat) : Int) := by omega
 have m0 : 0 ≤ n * 1440 + (t : Int) := by omega
 have m9 : n * 1440 + (t : Int) ≤ 575999999 := by omega
 have H9 : t / 60 ≤ 10000 := by omega
 have M9 : t % 60 ≤ 10000 := by omega
 generalize fmtL Y k D t = L at *
 generalize n * 1440 + (t : Int) = m at *
 generalize t / 60 = H at *
 generalize t % 60 = M at *
 have l1 := digs_length 4 Y
 have l2 := digs_length 2 (k + 1)
 have l3 := digs_length 2 D
 have l4 := digs_length 2 H
 have P1 := Lib.hid (fun W hr => put_any w.heap.size 16 [] [48, 48, 48, 48] [45, 48, 48, 45, 48, 48, 84, 48, 48, 58, 48, 48] Y 4 0 rfl (by omega) rfl (by omega) w.heap.size (Nat.le_refl _) W hr)
 have P2 := Lib.hid (fun W hr => put_any w.heap.size 11 (digs 4 Y ++ [45]) [48, 48] [45, 48, 48, 84, 48, 48, 58, 48, 48] (k + 1) 2 5 rfl (by omega) (by simp [l1]) (by omega) w.heap.size (Nat.le_refl _) W hr)
 have P3 := Lib.hid (fun W hr => put_any w.heap.size 8 (digs 4 Y ++ [45] ++ digs 2 (k + 1) ++ [45]) [48, 48] [84, 48, 48, 58, 48, 48] D 2 8 rfl (by omega) (by simp [l1, l2]) (by omega) w.heap.size (Nat.le_refl _) W hr)
 have P4 := Lib.hid (fun W hr => put_any w.heap.size 5 (digs 4 Y ++ [45] ++ digs 2 (k + 1) ++ [45] ++ digs 2 D ++ [84]) [48, 48] [58, 48, 48] H 2 11 rfl (by omega) (by simp [l1, l2, l3]) (by omega) w.heap.size (Nat.le_refl _) W hr)
 have P5 := Lib.hid (fun W hr => put_any w.heap.size 2 (digs 4 Y ++ [45] ++ digs 2 (k + 1) ++ [45] ++ digs 2 D ++ [84] ++ digs 2 H ++ [58]) [48, 48] [] M 2 14 rfl (by omega) (by simp [l1, l2, l3, l4]) (by omega) w.heap.size (Nat.le_refl _) W hr)
 generalize digs 4 Y = L1 at *
 generalize digs 2 (k + 1) = L2 at *
 generalize digs 2 D = L3 at *
 generalize digs 2 H = L4 at *
 generalize digs 2 M = L5 at *
 obtain ⟨w0, kc, r0, hb0⟩ := row_new w
 have C0 := Lib.hid c0
 have HL := Lib.hid hL
 have HLL := Lib.hid hLL
 have R0 := Lib.hid r0
 clear c0 hL hLL hd hT r0 l1 l2 l3 l4
 go_enter Tryz.func190, Tryz.ntmps190
 go_wp2_with fail
 refine C0.out.mono ?_
 rintro e w' ⟨rfl, rfl⟩
 go_wp2_with fail
 refine (P1.out _ R0.out).mono ?_
 rintro e w1 ⟨rfl, r1, hb1⟩
 have R1 := Lib.hid (show Row w1 w.heap.size (L1 ++ [45] ++ [48, 48] ++ [45, 48, 48, 84, 48, 48, 58, 48, 48]) by simpa using r1)
 clear r1
 go_wp2_with fail
 refine (P2.out _ R1.out).mono ?_
 rintro e w2 ⟨rfl, r2, hb2⟩
 have R2 := Lib.hid (show Row w2 w.heap.size (L1 ++ [45] ++ L2 ++ [45] ++ [48, 48] ++ [84, 48, 48, 58, 48, 48]) by simpa using r2)
 clear r2
 go_wp2_with fail
 refine (P3.out _ R2.out).mono ?_
 rintro e w3 ⟨rfl, r3, hb3⟩
 have R3 := Lib.hid (show Row w3 w.heap.size (L1 ++ [45] ++ L2 ++ [45] ++ L3 ++ [84] ++ [48, 48] ++ [58, 48, 48]) by simpa using r3)
 clear r3
 go_wp2_with fail
 refine (P4.out _ R3.out).mono ?_
 rintro e w4 ⟨rfl, r4, hb4⟩
 have R4 := Lib.hid (show Row w4 w.heap.size (L1 ++ [45] ++ L2 ++ [45] ++ L3 ++ [84] ++ L4 ++ [58] ++ [48, 48] ++ []) by simpa using r4)
 clear r4
 go_wp2_with fail
 refine (P5.out _ R4.out).mono ?_
 rintro e w5 ⟨rfl, r5, hb5⟩
 have hback := conv_str (W := w5) (b := w.heap.size) (off := 0) (c := 16) (y := 16) (l := L) HLL.out (fun i x hi => by
  rw [HL.out] at hi
  rw [Nat.zero_add]
  exact (r5 i x (by simpa using hi)).1)
 clear r5
 go_wp2_with fail
 go_ret2
 exact ⟨rfl, ((((hb0.trans hb1).trans hb2).trans hb3).trans hb4).trans hb5⟩
end Go.Proofs.YtmdpjahhhfajaaaGreatDoor
namespace Wh
open Go Go.Proofs.YtmdpjahhhfajaaaGreatDoor
theorem quote_eq (l : List UInt8) : ((⟨#[39]⟩ : ByteArray) ++ ⟨l.toArray⟩) ++ ⟨#[39]⟩ = ⟨(39 :: (l ++ [39])).toArray⟩ := by
 have h1 : (⟨#[39]⟩ : ByteArray) ++ ⟨l.toArray⟩ = ⟨(39 :: l).toArray⟩ := ba_append [39] l
 have h2 : (⟨(39 :: l).toArray⟩ : ByteArray) ++ ⟨#[39]⟩ = ⟨((39 :: l) ++ [39]).toArray⟩ := ba_append (39 :: l) [39]
 rw [h1, h2]
 rfl
end Wh
namespace Go.Proofs.YtmdpjahhhfajaaaGreatDoor
open Go.RowKit Wh
set_option maxHeartbeats 1000000 in
theorem pwrite_text (tx : ByteArray) (nm : Int) (hs : tx.size ≤ 64) : PWr ⟨3, tx, nm⟩ (39 :: (dbl (bts tx) ++ [39])) := by
 intro a W hg
 have C := Lib.hid (fun W1 (h : Below W.heap.size W W1) => dbl_any tx (by omega) W1 (hg.next h))
 have HQ := Lib.hid (quote_eq (dbl (bts tx)))
 have hl := dbl_length_le (bts tx)
 rw [bts_length] at hl
 have hsz : Hid ((⟨(dbl (bts tx)).toArray⟩ : ByteArray).size = (dbl (bts tx)).length) := by show (dbl (bts tx)).toArray.size = _; simp
 unfold IsStr at C ⊢
 rw [← HQ.out]
 clear HQ
 generalize hd : (⟨(dbl (bts tx)).toArray⟩ : ByteArray) = o at *
 have ho : o.size ≤ 128 := by rw [hsz.out]; omega
 clear hd hsz hl
 have s1 : ¬ (9223372036854775807 < (⟨#[39]⟩ : ByteArray).size + o.size) := by
  show ¬ (9223372036854775807 < 1 + o.size)
  omega
 have s2 : ¬ (9223372036854775807 < ((⟨#[39]⟩ : ByteArray) ++ o).size + (⟨#[39]⟩ : ByteArray).size) := by
  rw [ByteArray.size_append]
  show ¬ (9223372036854775807 < 1 + o.size + 1)
  omega
 have hbel0 : Below W.heap.size W (W.alloc (.cells #[.int .i64 3, .string tx, .int .i64 nm, .int .i64 a] 71)) := (Below.refl _ _).alloc (Nat.le_refl _) _
 simp only [tokV]
 go_enter Tryz.func171, Tryz.ntmps171
 go_wp2_with fail
 refine (C.out _ hbel0).mono ?_
 rintro e w1 ⟨rfl, hb⟩
 go_wp2_with fail
 go_ret
 exact ⟨rfl, hbel0.trans (hb.mono (by simp))⟩
set_option maxHeartbeats 1000000 in
theorem pwrite_time (y : Int) (k : Nat) (d : Int) (t : Nat) (hd : Dt y k d) (ht : t < 1440) (hn : dayZ y k d ≤ 399999) (tx : ByteArray) : PWr ⟨4, tx, dayZ y k d * 1440 + (t : Int)⟩ (64 :: fmtL y k d t) := by
 intro a W hg
 have C := Lib.hid (fun W1 (h : Below W.heap.size W W1) => format_any y k d t hd ht hn W1 (hg.next h).tab)
 have hl := fmtL_length y k d t
 have HT : Hid ((⟨#[64]⟩ : ByteArray) ++ ⟨(fmtL y k d t).toArray⟩ = ⟨(64 :: fmtL y k d t).toArray⟩) := ba_append [64] _
 have hsz : ¬ (9223372036854775807 < (⟨#[64]⟩ : ByteArray).size + (⟨(fmtL y k d t).toArray⟩ : ByteArray).size) := by
  show ¬ (9223372036854775807 < 1 + (fmtL y k d t).toArray.size)
  simp
  omega
 unfold IsTxt at C
 unfold IsStr
 rw [← HT.out]
 clear HT hl
 generalize (⟨(fmtL y k d t).toArray⟩ : ByteArray) = o at *
 generalize dayZ y k d * 1440 + (t : Int) = m at *
 clear hd ht hn
 have hbel0 : Below W.heap.size W (W.alloc (.cells #[.int .i64 4, .string tx, .int .i64 m, .int .i64 a] 71)) := (Below.refl _ _).alloc (Nat.le_refl _) _
 simp only [tokV]
 go_enter Tryz.func171, Tryz.ntmps171
 go_wp2_with fail
 refine (C.out _ hbel0).mono ?_
 rintro e w1 ⟨rfl, hb⟩
 go_wp2_with fail
 go_ret
 exact ⟨rfl, hbel0.trans (hb.mono (by simp))⟩
end Go.Proofs.YtmdpjahhhfajaaaGreatDoor
namespace Wh
open Go Go.Proofs.YtmdpjahhhfajaaaGreatDoor
end Wh
namespace Go.Proofs.YtmdpjahhhfajaaaGreatDoor
open Go.RowKit Wh
end Go.Proofs.YtmdpjahhhfajaaaGreatDoor
namespace Go.Proofs.YtmdpjahhhfajaaaGreatDoor
open Go.RowKit Wh
end Go.Proofs.YtmdpjahhhfajaaaGreatDoor
namespace Wh
open Go Go.Proofs.YtmdpjahhhfajaaaGreatDoor
def encS (s : ByteArray) (lv l : Int) : ByteArray := if lv < l then ((⟨#[40]⟩ : ByteArray) ++ s) ++ ⟨#[41]⟩ else s
theorem bts_app (a b : ByteArray) : bts (a ++ b) = bts a ++ bts b := by unfold bts; simp [ByteArray.toList_data_append]
theorem encS_bts (x : Pc) (l : Int) : encS ⟨x.tx.toArray⟩ x.lv l = ⟨(encL x l).toArray⟩ := by
 apply ext_bts
 unfold encS encL
 split
 ·rw [bts_app, bts_app]
  show [40] ++ x.tx ++ [41] = 40 :: (x.tx ++ [41])
  simp
 ·rfl
theorem size_mk (l : List UInt8) : (⟨l.toArray⟩ : ByteArray).size = l.length := by show l.toArray.size = _; simp
end Wh
namespace Go.Proofs.YtmdpjahhhfajaaaGreatDoor
open Go.RowKit Go.Joins Wh
theorem pfit_any (s : ByteArray) (w : World) (hs : s.size ≤ 1000000) : Calls Tryz.prog 37 #[.string s] w fun e w' => e = .returned (.tuple #[.string (if 65536 < s.size then ⟨#[]⟩ else s), .int .i64 (if 65536 < s.size then 2 else 0)]) ∧ w' = w := by
 by_cases h : 65536 < s.size
 ·rw [if_pos h, if_pos h]
  have hi : (65536 : Int) < (s.size : Int) := by omega
  go_enter Tryz.func37, Tryz.ntmps37
  go_wp2_with fail
  go_ret2
  exact ⟨rfl, rfl⟩
 ·rw [if_neg h, if_neg h]
  have hi : ¬ (65536 : Int) < (s.size : Int) := by omega
  go_enter Tryz.func37, Tryz.ntmps37
  go_wp2_with fail
  go_ret2
  exact ⟨rfl, rfl⟩
set_option maxHeartbeats 1000000 in
theorem penclose_any (s : ByteArray) (lv : Int) (ig : Bool) (l : Int) (w : World) (hs : s.size ≤ 1000000) : Calls Tryz.prog 68 #[.agg #[.string s, .int .i64 lv, .bool ig], .int .i64 l] w fun e w' => e = .returned (.string (encS s lv l)) ∧ Below w.heap.size w w' := by
 unfold encS
 have s1 : ¬ (9223372036854775807 < (⟨#[40]⟩ : ByteArray).size + s.size) := by show ¬ (9223372036854775807 < 1 + s.size); omega
 have s2 : ¬ (9223372036854775807 < ((⟨#[40]⟩ : ByteArray) ++ s).size + (⟨#[41]⟩ : ByteArray).size) := by
  rw [ByteArray.size_append]
  show ¬ (9223372036854775807 < 1 + s.size + 1)
  omega
 by_cases h : lv < l
 ·rw [if_pos h]
  go_enter Tryz.func68, Tryz.ntmps68
  go_wp2_with fail
  go_ret
  exact ⟨rfl, (Below.refl _ _).alloc (Nat.le_refl _) _⟩
 ·rw [if_neg h]
  go_enter Tryz.func68, Tryz.ntmps68
  go_wp2_with fail
  go_ret
  exact ⟨rfl, (Below.refl _ _).alloc (Nat.le_refl _) _⟩
set_option maxHeartbeats 1000000 in
theorem plevneg_any (s : ByteArray) (lv : Int) (ig : Bool) (w : World) : Calls Tryz.prog 69 #[.agg #[.string s, .int .i64 lv, .bool ig]] w fun e w' => e = .returned (.int .i64 (if ig = true then 9 else 7)) ∧ Below w.heap.size w w' := by
 cases ig <;>
 ·go_enter Tryz.func69, Tryz.ntmps69
  go_wp2_with fail
  go_ret
  exact ⟨rfl, (Below.refl _ _).alloc (Nat.le_refl _) _⟩
theorem pfbool0_any (q : Bool) (w : World) : Calls Tryz.prog 138 #[.bool q] w fun e w' => e = .returned (.string (if q = true then truS else falS)) ∧ w' = w := by
 cases q <;>
 ·go_enter Tryz.func138, Tryz.ntmps138
  go_wp2_with fail
  go_ret
  exact ⟨rfl, rfl⟩
theorem pfbool_any (q : Bool) (w : World) : Calls Tryz.prog 104 #[.bool q] w fun e w' => e = .returned (.string (if q = true then truS else falS)) ∧ w' = w := by
 have C := Lib.hid (pfbool0_any q w)
 generalize (if q = true then truS else falS) = o at *
 go_enter Tryz.func104, Tryz.ntmps104
 go_wp2_with fail
 refine C.out.mono ?_
 rintro e w1 ⟨rfl, rfl⟩
 go_wp2_with fail
 go_ret
 exact ⟨rfl, rfl⟩
theorem itoaz_any (n : Int) (h0 : -1073741824 ≤ n) (h1 : n ≤ 1073741824) (w : World) (hg : Glo w) : Calls Tryz.prog 105 #[.int .i64 n] w (IsStr (if n < 0 then 45 :: Lib.decDigits (-n).toNat else Lib.decDigits n.toNat) w) := by
 obtain ⟨nm, hn, ht⟩ := hg.pow
 refine (Any.strconv_Itoa laysM171 n (by omega) (by omega) w (tab_same hn laysM171.m17 ht)).mono ?_
 rintro e w' ⟨rfl, k, os, rfl⟩
 refine ⟨?_, Lib.below_grow _ _ (Nat.le_refl _) _ _⟩
 unfold Lib.itoa
 by_cases h : n < 0
 ·rw [if_pos h, if_pos h, show n.natAbs = (-n).toNat by omega]
 ·rw [if_neg h, if_neg h]
theorem joinc_any (a : Option Addr) (len cap : Nat) (ss : List ByteArray) (w : World) (hs : IsStrs w a len ss) (hl : len ≤ 1000000) (hc : len ≤ cap) (hlen : (Lib.join (ss.map bts) [44, 32]).length ≤ 140737488355328) :
  Calls Tryz.prog 108 #[.slice a len cap, .string ⟨#[44, 32]⟩] w (IsStr (Lib.join (ss.map bts) [44, 32]) w) := by
 obtain ⟨h1, h2⟩ := hs
 subst h1
 rcases h2 with rfl | ⟨b, off, rfl, hlt, hcs⟩
 ·refine (Any.strings_Join_none lays156 extra156 a cap ⟨#[44, 32]⟩ w).mono ?_
  rintro e w' ⟨rfl, rfl⟩
  exact ⟨rfl, Below.refl _ _⟩
 ·refine (Any.strings_Join lays156 extra156 b off cap ss ⟨#[44, 32]⟩ w hcs hlt (by omega) hc hlen).mono ?_
  rintro e w' ⟨rfl, hb⟩
  exact ⟨rfl, hb⟩
set_option maxHeartbeats 2000000 in
theorem pwtok_any (t : Tk) (l : List UInt8) (hok : okT t = true) (hz : t.tx.size ≤ 9223372036854775800) (hw : PWr t l) (hl : l.length ≤ 65536) (w : World) (hg : Glo w) :
  Calls Tryz.prog 106 #[tokV (t, 0)] w (IsStr l w) := by
 have hv : valE [(t, 0), (noT, 0)] = 0 := valE_of (ms := [(t, 0)]) (p := 0) (by simpa using hok)
 have hjn : jnO [l] = (l, 0) := by
  unfold jnO
  rw [jn_one, if_neg (by omega)]
 obtain ⟨kd, tx, nm⟩ := t
 have C := Lib.hid (fun a W (hs : IsToks W a 2 [(⟨kd, tx, nm⟩, 0), (noT, 0)]) (ha : a ≠ none) (hb : Below w.heap.size w W) => pjoin_ok a 2 2 [(⟨kd, tx, nm⟩, 0), (noT, 0)] [l] W hs (by omega) (Nat.le_refl _) (by unfold maxLen; omega) (fun h => absurd h ha) (by
  intro u hu
  simp only [List.mem_cons, List.mem_nil_iff, or_false] at hu
  rcases hu with rfl | rfl
  ·exact hz
  ·show (0 : Nat) ≤ _; omega) hv rfl (fun i u l' h1 h2 => by
   cases i with
   | zero => simp at h1 h2; subst h1 h2; exact hw
   | succ i => simp at h2) (fun l' h => by simp at h; subst h; omega) (hg.next hb))
 rw [hjn] at C
 unfold IsTxt at C
 unfold IsStr
 simp only [tokV] at C ⊢
 have HT : Hid (IsToks ((w.alloc (.cells #[.int .i64 kd, .string tx, .int .i64 nm, .int .i64 0] 71)).alloc (.cells #[.int .i64 kd, .string tx, .int .i64 nm, .int .i64 0, .int .i64 0, .string ⟨#[]⟩, .int .i64 0, .int .i64 0] 71)) (some ⟨w.heap.size + 1, 0, none⟩) 2 [(⟨kd, tx, nm⟩, 0), (noT, 0)]) := by
  have hh := heap_alloc_new (w.alloc (.cells #[.int .i64 kd, .string tx, .int .i64 nm, .int .i64 0] 71)) (.cells #[.int .i64 kd, .string tx, .int .i64 nm, .int .i64 0, .int .i64 0, .string ⟨#[]⟩, .int .i64 0, .int .i64 0] 71)
  rw [show (w.alloc (.cells #[.int .i64 kd, .string tx, .int .i64 nm, .int .i64 0] 71)).heap.size = w.heap.size + 1 by simp] at hh
  refine ⟨rfl, .inr ⟨w.heap.size + 1, 0, rfl, by simp, fun i u hi => ?_⟩⟩
  cases i with
  | zero =>
   simp at hi
   subst hi
   exact ⟨(cell_of_row _ _ 0 _ _ _ hh).trans rfl, (cell_of_row _ _ 1 _ _ _ hh).trans rfl, (cell_of_row _ _ 2 _ _ _ hh).trans rfl, (cell_of_row _ _ 3 _ _ _ hh).trans rfl⟩
  | succ i =>
   cases i with
   | zero =>
    simp at hi
    subst hi
    exact ⟨(cell_of_row _ _ 4 _ _ _ hh).trans rfl, (cell_of_row _ _ 5 _ _ _ hh).trans rfl, (cell_of_row _ _ 6 _ _ _ hh).trans rfl, (cell_of_row _ _ 7 _ _ _ hh).trans rfl⟩
   | succ i => simp at hi
 have hbel : Below w.heap.size w ((w.alloc (.cells #[.int .i64 kd, .string tx, .int .i64 nm, .int .i64 0] 71)).alloc (.cells #[.int .i64 kd, .string tx, .int .i64 nm, .int .i64 0, .int .i64 0, .string ⟨#[]⟩, .int .i64 0, .int .i64 0] 71)) := ((Below.refl _ _).alloc (Nat.le_refl _) _).alloc (by simp) _
 have C1 := Lib.hid (C.out _ _ HT.out (by simp) hbel)
 have HB := Lib.hid hbel
 clear C HT hbel hv hjn hw hok hg
 generalize (⟨l.toArray⟩ : ByteArray) = o at *
 go_enter Tryz.func106, Tryz.ntmps106
 go_wp2_with fail
 refine C1.out.mono ?_
 rintro e w1 ⟨rfl, hb⟩
 have HB1 := Lib.hid (HB.out.trans (hb.mono HB.out.size))
 clear hb C1
 go_wp2_with fail
 go_ret
 exact ⟨rfl, HB1.out⟩
end Go.Proofs.YtmdpjahhhfajaaaGreatDoor
