/-
  How a token is written: write of package token, written of the reference.
-/
import Derived.Test.YtloccocengegnaaDoorTRWr
import Derived.Test.YtloccocengegnaaDoorTPJoin
import Derived.Test.YtloccocengegnaaDoorCFormat
set_option linter.unusedVariables false
set_option maxRecDepth 100000
namespace Wh
open Go Go.Proofs.YtloccocengegnaaDoor

theorem quote_eq (l : List UInt8) : ((⟨#[39]⟩ : ByteArray) ++ ⟨l.toArray⟩) ++ ⟨#[39]⟩ = ⟨(39 :: (l ++ [39])).toArray⟩ := by
  have h1 : (⟨#[39]⟩ : ByteArray) ++ ⟨l.toArray⟩ = ⟨(39 :: l).toArray⟩ := ba_append [39] l
  have h2 : (⟨(39 :: l).toArray⟩ : ByteArray) ++ ⟨#[39]⟩ = ⟨((39 :: l) ++ [39]).toArray⟩ := ba_append (39 :: l) [39]
  rw [h1, h2]
  rfl

end Wh
namespace Go.Proofs.YtloccocengegnaaDoor
open Go.RowKit Wh

set_option maxHeartbeats 1000000 in
theorem pwrite_int (n : Nat) (hn : n ≤ 1073741824) (tx : ByteArray) : PWr ⟨2, tx, (n : Int)⟩ (Lib.decDigits n) := by
  intro a W hg
  have C := Lib.hid (fun W1 (h : Below W.heap.size W W1) => itoa_any (n : Int) (by omega) (by omega) W1 (hg.next h))
  rw [show ((n : Int)).toNat = n from rfl] at C
  have hbel0 : Below W.heap.size W (W.alloc (.cells #[.int .i64 2, .string tx, .int .i64 (n : Int), .int .i64 a] 41)) := (Below.refl _ _).alloc (Nat.le_refl _) _
  unfold IsStr at C ⊢
  generalize (⟨(Lib.decDigits n).toArray⟩ : ByteArray) = o at *
  simp only [tokV]
  go_enter Tryd.func19, Tryd.ntmps19
  go_wp2_with fail
  refine (C.out _ hbel0).mono ?_
  rintro e w1 ⟨rfl, hb⟩
  go_wp2_with fail
  go_ret
  exact ⟨rfl, hbel0.trans (hb.mono (by simp))⟩

set_option maxHeartbeats 1000000 in
theorem pwrite_text (tx : ByteArray) (nm : Int) (hs : tx.size ≤ 64) : PWr ⟨3, tx, nm⟩ (39 :: (dbl (bts tx) ++ [39])) := by
  intro a W hg
  have C := Lib.hid (fun W1 (h : Below W.heap.size W W1) => dbl_any tx (by omega) W1 (hg.next h))
  have HQ := Lib.hid (quote_eq (dbl (bts tx)))
  have hl := dbl_length_le (bts tx)
  rw [bts_length] at hl
  have hsz : Hid ((⟨(dbl (bts tx)).toArray⟩ : ByteArray).size = (dbl (bts tx)).length) := by show (dbl (bts tx)).toArray.size = _; simp
  unfold IsStr at C ⊢
  rw [← HQ.out]
  clear HQ
  generalize hd : (⟨(dbl (bts tx)).toArray⟩ : ByteArray) = o at *
  have ho : o.size ≤ 128 := by rw [hsz.out]; omega
  clear hd hsz hl
  have s1 : ¬ (9223372036854775807 < (⟨#[39]⟩ : ByteArray).size + o.size) := by
    show ¬ (9223372036854775807 < 1 + o.size)
    omega
  have s2 : ¬ (9223372036854775807 < ((⟨#[39]⟩ : ByteArray) ++ o).size + (⟨#[39]⟩ : ByteArray).size) := by
    rw [ByteArray.size_append]
    show ¬ (9223372036854775807 < 1 + o.size + 1)
    omega
  have hbel0 : Below W.heap.size W (W.alloc (.cells #[.int .i64 3, .string tx, .int .i64 nm, .int .i64 a] 41)) := (Below.refl _ _).alloc (Nat.le_refl _) _
  simp only [tokV]
  go_enter Tryd.func19, Tryd.ntmps19
  go_wp2_with fail
  refine (C.out _ hbel0).mono ?_
  rintro e w1 ⟨rfl, hb⟩
  go_wp2_with fail
  go_ret
  exact ⟨rfl, hbel0.trans (hb.mono (by simp))⟩

set_option maxHeartbeats 1000000 in
theorem pwrite_time (y : Int) (k : Nat) (d : Int) (t : Nat) (hd : Dt y k d) (ht : t < 1440) (hn : dayZ y k d ≤ 399999) (tx : ByteArray) : PWr ⟨4, tx, dayZ y k d * 1440 + (t : Int)⟩ (64 :: fmtL y k d t) := by
  intro a W hg
  have C := Lib.hid (fun W1 (h : Below W.heap.size W W1) => format_any y k d t hd ht hn W1 (hg.next h).tab)
  have hl := fmtL_length y k d t
  have HT : Hid ((⟨#[64]⟩ : ByteArray) ++ ⟨(fmtL y k d t).toArray⟩ = ⟨(64 :: fmtL y k d t).toArray⟩) := ba_append [64] _
  have hsz : ¬ (9223372036854775807 < (⟨#[64]⟩ : ByteArray).size + (⟨(fmtL y k d t).toArray⟩ : ByteArray).size) := by
    show ¬ (9223372036854775807 < 1 + (fmtL y k d t).toArray.size)
    simp
    omega
  unfold IsTxt at C
  unfold IsStr
  rw [← HT.out]
  clear HT hl
  generalize (⟨(fmtL y k d t).toArray⟩ : ByteArray) = o at *
  generalize dayZ y k d * 1440 + (t : Int) = m at *
  clear hd ht hn
  have hbel0 : Below W.heap.size W (W.alloc (.cells #[.int .i64 4, .string tx, .int .i64 m, .int .i64 a] 41)) := (Below.refl _ _).alloc (Nat.le_refl _) _
  simp only [tokV]
  go_enter Tryd.func19, Tryd.ntmps19
  go_wp2_with fail
  refine (C.out _ hbel0).mono ?_
  rintro e w1 ⟨rfl, hb⟩
  go_wp2_with fail
  go_ret
  exact ⟨rfl, hbel0.trans (hb.mono (by simp))⟩

set_option maxHeartbeats 1000000 in
theorem pwrite_else (k : Int) (tx : ByteArray) (nm : Int) (h2 : ¬ k = 2) (h3 : ¬ k = 3) (h4 : ¬ k = 4) : PWr ⟨k, tx, nm⟩ (bts tx) := by
  intro a W hg
  unfold IsStr
  rw [mk_bts]
  have e2 : (k == 2) = false := by simpa using h2
  have e3 : (k == 3) = false := by simpa using h3
  have e4 : (k == 4) = false := by simpa using h4
  clear h2 h3 h4 hg
  simp only [tokV]
  go_enter Tryd.func19, Tryd.ntmps19
  go_wp2_with fail
  go_ret
  exact ⟨rfl, (Below.refl _ _).alloc (Nat.le_refl _) _⟩

end Go.Proofs.YtloccocengegnaaDoor

