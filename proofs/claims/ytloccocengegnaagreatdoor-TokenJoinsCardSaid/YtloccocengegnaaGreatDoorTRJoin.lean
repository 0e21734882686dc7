/-
  Join, of the reference, for tokens whose texts are given.
-/
import Derived.Test.YtloccocengegnaaGreatDoorTWr
import Derived.Test.YtloccocengegnaaGreatDoorTRTok
set_option linter.unusedVariables false
set_option maxRecDepth 100000
namespace Wh
open Go Go.Proofs.YtloccocengegnaaGreatDoor

theorem app_txt {a b c : List UInt8} {x y z : ByteArray} (hx : x = ⟨a.toArray⟩) (hy : y = ⟨b.toArray⟩) (hz : z = ⟨c.toArray⟩) (h : c = a ++ b) : x ++ y = z := by
  subst hx hy hz h
  exact ba_append a b

end Wh
namespace Go.Proofs.YtloccocengegnaaGreatDoor
open Go.RowKit Wh

set_option maxHeartbeats 1000000 in
theorem rjoin_bad (a : Option Addr) (len cap : Nat) (ts : List TA) (w : World) (hs : IsToks w a len ts) (hl : len ≤ 1000000000000) (hz : ∀ t ∈ ts, t.1.tx.size ≤ 9223372036854775800) (hE : valE ts = 8) :
    Calls Tryz.prog 10 #[.slice a len cap] w (IsTxt [] 8 w) := by
  have C := Lib.hid (fun W hW => rvalidate_any7 a len cap ts W hW hl hz)
  rw [hE] at C
  have HS := Lib.hid hs
  clear hs hz hE
  go_enter Tryz.func10, Tryz.ntmps10
  go_wp2_with fail
  refine (C.out _ HS.out).mono ?_
  rintro e w1 ⟨rfl, hb⟩
  go_wp2_with fail
  go_ret2
  exact ⟨rfl, hb⟩

set_option maxHeartbeats 4000000 in
theorem rjoin_ok (a : Option Addr) (len cap : Nat) (ts : List TA) (ls : List (List UInt8)) (w : World) (hs : IsToks w a len ts) (hl : len ≤ 1000000) (hz : ∀ t ∈ ts, t.1.tx.size ≤ 9223372036854775800) (hE : valE ts = 0)
    (hll : ls.length + 1 = len) (hW : ∀ (i : Nat) (t : TA) (l : List UInt8), ts[i]? = some t → ls[i]? = some l → RWr t.1 l) (hlen : ∀ l ∈ ls, l.length ≤ 1000000) :
    Calls Tryz.prog 10 #[.slice a len cap] w (IsTxt (jnO ls).1 (jnO ls).2 w) := by
  subst hll
  have C := Lib.hid (fun W hW => rvalidate_any7 a (ls.length + 1) cap ts W hW (by omega) hz)
  rw [hE] at C
  have HS := Lib.hid hs
  have HW := Lib.hid hW
  have HL := Lib.hid hlen
  have GREAT := Lib.hid (fun (k : Nat) h => jnO_great (ls := ls) (k := k) h)
  have FIN : Hid (¬ 65536 < (jn ls).length → jnO ls = (jn ls, 0)) := fun h => by unfold jnO; rw [if_neg h]
  obtain ⟨O, hO⟩ : ∃ O, jnO ls = O := ⟨_, rfl⟩
  rw [hO] at GREAT FIN ⊢
  clear hs hz hE hW hlen hO
  generalize hm : ls.length = m at *
  have HM := Lib.hid hm
  clear hm
  go_enter Tryz.func10, Tryz.ntmps10
  go_wp2_with fail
  refine (C.out _ HS.out).mono ?_
  rintro e w1 ⟨rfl, hb1⟩
  have hs1 := hb1.size
  go_wp2_with fail
  go_loopw [5, 6] (fun sv iv wr => ∃ (k : Nat) (s : ByteArray), k ≤ m ∧ iv = .int .i64 k ∧ sv = .string s ∧ Hid (s = ⟨(jn (ls.take k)).toArray⟩) ∧ s.size ≤ 65536 ∧ Below w.heap.size w wr) (fun _ iv _ => m - (intOf iv).toNat)
  case atStart => exact ⟨0, ⟨#[]⟩, Nat.zero_le _, rfl, rfl, rfl, Nat.zero_le _, hb1⟩
  case round =>
    obtain ⟨k, s, hk, rfl, rfl, HSS, hsz, hbel⟩ := hrel
    have hs9 := hbel.size
    by_cases hlt : k < m
    · obtain ⟨kd, tx, nm, p, b, off, hx, rfl, hblt, c0, c1, c2, c3⟩ := (HS.out.below hbel (Nat.le_refl _)).at (k := k) (by omega)
      obtain ⟨l, hl9⟩ : ∃ l, ls[k]? = some l := ⟨_, List.getElem?_eq_getElem (by have := HM.out; omega)⟩
      have hl6 := HL.out l (List.mem_of_getElem? hl9)
      have PW := Lib.hid (fun W => HW.out k _ l hx hl9 p W)
      have HJ := Lib.hid (jn_take hl9)
      have G2 := Lib.hid (GREAT.out (k + 1))
      simp only [tokV] at PW
      have hts : Hid ((⟨l.toArray⟩ : ByteArray).size = l.length) := by show l.toArray.size = l.length; simp
      have PW2 : Hid (∀ W, Calls Tryz.prog 21 #[.agg #[.int .i64 kd, .string tx, .int .i64 nm, .int .i64 p]] W fun e w' => e = .returned (.string ⟨l.toArray⟩) ∧ Below W.heap.size W w') := PW.out
      clear PW hx hl9 GREAT FIN
      obtain ⟨txt, htxt⟩ : ∃ txt : ByteArray, (⟨l.toArray⟩ : ByteArray) = txt := ⟨_, rfl⟩
      rw [htxt] at PW2 hts
      have HTX := Lib.hid htxt.symm
      have htx : txt.size ≤ 1000000 := by rw [hts.out]; exact hl6
      obtain ⟨s2, hs2⟩ : ∃ s2 : ByteArray, (⟨(jn (ls.take (k + 1))).toArray⟩ : ByteArray) = s2 := ⟨_, rfl⟩
      have HS2 := Lib.hid hs2.symm
      have hsz2 : Hid (s2.size = (jn (ls.take (k + 1))).length) := by show _ = _; rw [HS2.out]; show (jn (ls.take (k + 1))).toArray.size = _; simp
      clear htxt hs2 hts hl6
      by_cases hk0 : k = 0
      · have hk0i : ¬ (0 : Int) < (k : Int) := by omega
        have happ : Hid (s ++ txt = s2) := by
          refine app_txt HSS.out HTX.out HS2.out ?_
          rw [HJ.out, if_pos hk0, hk0]
          rfl
        have hapl : Hid (s2.size = s.size + txt.size) := by show _ = _; rw [← happ.out, ByteArray.size_append]
        have hov : ¬ (9223372036854775807 < s.size + txt.size) := by omega
        have HK := Lib.hid hk0
        clear HJ hk0 HSS
        by_cases hgr : 65536 < s.size + txt.size
        · have hO := G2.out (by rw [← hsz2.out, hapl.out]; exact hgr)
          subst hO
          have hgri : (65536 : Int) < ((s ++ txt).size : Int) := by rw [happ.out, hapl.out]; omega
          clear G2
          go_wp2_with (first | (go_at_call 21; refine (PW2.out _).mono ?_; rintro e w2 ⟨rfl, hb2⟩))
          go_ret2
          exact ⟨rfl, hbel.trans (hb2.mono hs9)⟩
        · have hgri : ¬ (65536 : Int) < ((s ++ txt).size : Int) := by rw [happ.out, hapl.out]; omega
          clear G2
          go_wp2_with (first | (go_at_call 21; refine (PW2.out _).mono ?_; rintro e w2 ⟨rfl, hb2⟩))
          go_roundw
          case rel => exact ⟨k + 1, s ++ txt, by omega, by go_num, rfl, by show _ = _; rw [happ.out, HS2.out], by rw [happ.out, hapl.out]; omega, hbel.trans (hb2.mono hs9)⟩
          case measure => simp [intOf]; omega
      · have hk0i : (0 : Int) < (k : Int) := by omega
        have happ : Hid ((s ++ ⟨#[32]⟩) ++ txt = s2) := by
          have h1 : s ++ (⟨#[32]⟩ : ByteArray) = ⟨(jn (ls.take k) ++ [32]).toArray⟩ := app_txt HSS.out (b := [32]) rfl rfl rfl
          refine app_txt h1 HTX.out HS2.out ?_
          rw [HJ.out, if_neg hk0]
          simp
        have hap1 : (s ++ (⟨#[32]⟩ : ByteArray)).size = s.size + 1 := by rw [ByteArray.size_append]; rfl
        have hapl : Hid (s2.size = s.size + 1 + txt.size) := by show _ = _; rw [← happ.out, ByteArray.size_append, hap1]
        have hov1 : ¬ (9223372036854775807 < s.size + (⟨#[32]⟩ : ByteArray).size) := by show ¬ (9223372036854775807 < s.size + 1); omega
        have hov2 : ¬ (9223372036854775807 < (s ++ (⟨#[32]⟩ : ByteArray)).size + txt.size) := by omega
        have HA1 := Lib.hid hap1
        clear HJ hk0 HSS hap1
        by_cases hgr : 65536 < s.size + 1 + txt.size
        · have hO := G2.out (by rw [← hsz2.out, hapl.out]; exact hgr)
          subst hO
          have hgri : (65536 : Int) < (((s ++ (⟨#[32]⟩ : ByteArray)) ++ txt).size : Int) := by rw [happ.out, hapl.out]; omega
          clear G2
          go_wp2_with (first | (go_at_call 21; refine (PW2.out _).mono ?_; rintro e w2 ⟨rfl, hb2⟩))
          go_ret2
          exact ⟨rfl, hbel.trans (hb2.mono hs9)⟩
        · have hgri : ¬ (65536 : Int) < (((s ++ (⟨#[32]⟩ : ByteArray)) ++ txt).size : Int) := by rw [happ.out, hapl.out]; omega
          clear G2
          go_wp2_with (first | (go_at_call 21; refine (PW2.out _).mono ?_; rintro e w2 ⟨rfl, hb2⟩))
          go_roundw
          case rel => exact ⟨k + 1, (s ++ ⟨#[32]⟩) ++ txt, by omega, by go_num, rfl, by show _ = _; rw [happ.out, HS2.out], by rw [happ.out, hapl.out]; omega, hbel.trans (hb2.mono hs9)⟩
          case measure => simp [intOf]; omega
    · obtain rfl : k = m := by omega
      have hE : ls.take k = ls := List.take_of_length_le (by have := HM.out; omega)
      have hjs : Hid (s = ⟨(jn ls).toArray⟩) := by show _ = _; rw [HSS.out, hE]
      have hjl : (jn ls).length ≤ 65536 := by
        have : s.size = (jn ls).length := by rw [hjs.out]; show (jn ls).toArray.size = _; simp
        omega
      have hO := FIN.out (by omega)
      subst hO
      clear FIN GREAT hE hjl
      go_wp2_with fail
      go_ret2
      exact ⟨by rw [hjs.out]; rfl, hbel⟩

end Go.Proofs.YtloccocengegnaaGreatDoor
