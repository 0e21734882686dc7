/-
  The law SchemaNames: walk.
-/
import Derived.Test.YtdlkkajkflebgaaSKnown
import Derived.Test.YtdlkkajkflebgaaGAt
set_option linter.unusedVariables false
namespace Wh
open Go

def pieces9 : List ByteArray := [⟨#[97]⟩, ⟨#[122]⟩, ⟨#[48]⟩, ⟨#[95]⟩, ⟨#[97, 98, 99, 100, 101, 102]⟩, ⟨#[65]⟩, ⟨#[46]⟩, ⟨#[45]⟩, ⟨#[255]⟩]

theorem pieces9_size (j : Nat) : (pieces9.getD j ⟨#[]⟩).size ≤ 6 := by
  match j with
  | 0 => decide
  | 1 => decide
  | 2 => decide
  | 3 => decide
  | 4 => decide
  | 5 => decide
  | 6 => decide
  | 7 => decide
  | 8 => decide
  | j + 9 => simp [pieces9]; decide

end Wh
namespace Go.Proofs.Ytdlkkajkflebgaa
open Go.RowKit Wh

theorem pick9s (j : Nat) (h : j < 9) :
    #[Value.string ⟨#[97]⟩, .string ⟨#[122]⟩, .string ⟨#[48]⟩, .string ⟨#[95]⟩, .string ⟨#[97, 98, 99, 100, 101, 102]⟩, .string ⟨#[65]⟩, .string ⟨#[46]⟩, .string ⟨#[45]⟩, .string ⟨#[255]⟩][j]? = some (.string (pieces9.getD j ⟨#[]⟩)) := by
  match j, h with
  | 0, _ => rfl
  | 1, _ => rfl
  | 2, _ => rfl
  | 3, _ => rfl
  | 4, _ => rfl
  | 5, _ => rfl
  | 6, _ => rfl
  | 7, _ => rfl
  | 8, _ => rfl

set_option maxHeartbeats 2000000 in
theorem names_walk (w : World) (s : ByteArray) (hsz : s.size ≤ 9223372036854775807) (a : Option Addr) (len cap : Nat) (zs : List Int) (hz : IsInts w a len zs) (hl : len ≤ cap) (hm : cap ≤ maxLen) (_ : ∀ z ∈ zs, -9223372036854775808 ≤ z ∧ z ≤ 9223372036854775807)
    (n : Int) (_ : -9223372036854775808 ≤ n) (_ : n ≤ 9223372036854775807) :
    Calls Try.prog 3 #[.string s, .slice a len cap, .int .i64 n] w fun e w' => e = .returned (.bool true) ∧ Below w.heap.size w w' := by
  have hmm : maxLen = 9223372036854775807 := rfl
  by_cases h200 : 200 < s.size
  · clear hz hl hm
    go_enter Try.func3, Try.ntmps3
    go_wp2_with (go_at_call 10; refine (known_any _).mono ?_; rintro e w' ⟨rfl, hb⟩)
    go_ret
    exact ⟨rfl, hb⟩
  · have b63 := and_63
    obtain ⟨N, hN, hN63⟩ : ∃ N : Nat, n % 64 = N ∧ N ≤ 63 := ⟨(n % 64).toNat, by omega, by omega⟩
    have hs200 : s.size ≤ 200 := by omega
    have HZ := Lib.hid hz
    have c1 := fun W => isName_any s W
    have c2 := fun W => rIsName_any s W
    have c3 := fun W => isQualified_any s (by omega) W
    have c4 := fun W => rIsQualified_any s (by omega) W
    generalize nameB s = r1 at *
    generalize qualB s = r2 at *
    have C1 := Lib.hid c1
    have C2 := Lib.hid c2
    have C3 := Lib.hid c3
    have C4 := Lib.hid c4
    clear hz c1 c2 c3 c4
    go_enter Try.func3, Try.ntmps3
    go_wp2_with fail
    go_loopw [7, 8] (fun tv iv wr => ∃ (k : Nat) (t : ByteArray), k ≤ N ∧ iv = .int .i64 k ∧ tv = .string t ∧ t.size ≤ 6 * k ∧ Below w.heap.size w wr) (fun _ i _ => N - (intOf i).toNat)
    case atStart => exact ⟨0, ⟨#[]⟩, Nat.zero_le _, rfl, rfl, by decide, Below.refl _ _⟩
    case round =>
      obtain ⟨k, t, hk, rfl, rfl, ht, hbel⟩ := hrel
      have hs := hbel.size
      by_cases hlt : k < N
      · have ca := fun W (hW : Below w.heap.size w W) => at_any a len cap zs (k : Int) W (HZ.out.below hW (Nat.le_refl _)) (by omega)
        have hab := atZ_bounds zs (k : Int)
        generalize atZ zs (k : Int) = x at *
        obtain ⟨x0, x1⟩ := hab
        have hp := pick9s (x % 9).toNat (by omega)
        have hps := pieces9_size (x % 9).toNat
        generalize pieces9.getD (x % 9).toNat ⟨#[]⟩ = p at *
        have e9 : ∀ w1, Below (wr.heap.size + 1) (wr.alloc (.cells #[Value.string ⟨#[97]⟩, .string ⟨#[122]⟩, .string ⟨#[48]⟩, .string ⟨#[95]⟩, .string ⟨#[97, 98, 99, 100, 101, 102]⟩, .string ⟨#[65]⟩, .string ⟨#[46]⟩, .string ⟨#[45]⟩, .string ⟨#[255]⟩] 9)) w1 →
            w1.cell? ⟨wr.heap.size, (x % 9).toNat, none⟩ = some (.string p) ∧ wr.heap.size < w1.heap.size ∧ Below wr.heap.size wr w1 := fun w1 hb => by
          have hs1 := hb.size
          simp at hs1
          have hbl : w1.heap[wr.heap.size]? = some (.cells #[Value.string ⟨#[97]⟩, .string ⟨#[122]⟩, .string ⟨#[48]⟩, .string ⟨#[95]⟩, .string ⟨#[97, 98, 99, 100, 101, 102]⟩, .string ⟨#[65]⟩, .string ⟨#[46]⟩, .string ⟨#[45]⟩, .string ⟨#[255]⟩] 9) := by
            rw [hb.block _ (by omega)]
            exact heap_alloc_new wr _
          exact ⟨by rw [cell_of_row _ _ _ _ _ _ hbl]; exact hp, by omega, ((Below.refl _ _).alloc (Nat.le_refl _) _).trans (hb.mono (by omega))⟩
        have E9 := Lib.hid e9
        have CA := Lib.hid ca
        have hT : (t ++ p).size ≤ 6 * (k + 1) := by rw [ByteArray.size_append]; omega
        have HT := Lib.hid hT
        have hns : ¬ 9223372036854775807 < t.size + p.size := by omega
        clear hp e9 ca hps hT
        go_wp2_with (go_at_call 11; refine (CA.out _ (hbel.alloc hs _)).mono ?_; rintro e w1 ⟨rfl, hb1⟩; rw [World.size_alloc] at hb1; obtain ⟨e0, hs1, hb2⟩ := E9.out _ hb1)
        go_roundw
        case rel => exact ⟨k + 1, _, by omega, by go_num, rfl, HT.out, hbel.trans (hb2.mono hs)⟩
        case measure => simp [intOf]; omega
      · have c5 := fun W => isName_any t W
        have c6 := fun W => rIsName_any t W
        have c7 := fun W => isQualified_any t (by omega) W
        have c8 := fun W => rIsQualified_any t (by omega) W
        generalize nameB t = r3 at *
        generalize qualB t = r4 at *
        have hk2 : k = N := by omega
        subst hk2
        go_wp2_with (first | (go_at_call_of 12 (Value.string s); refine (C1.out _).mono ?_; rintro e w1 ⟨rfl, h1⟩; have b1 := hbel.trans (h1.mono hs)) |
          (go_at_call_of 13 (Value.string s); refine (C2.out _).mono ?_; rintro e w1 ⟨rfl, rfl⟩) |
          (go_at_call_of 14 (Value.string s); refine (C3.out _).mono ?_; rintro e w2 ⟨rfl, h2⟩; have b2 := b1.trans (h2.mono b1.size)) |
          (go_at_call_of 15 (Value.string s); refine (C4.out _).mono ?_; rintro e w1 ⟨rfl, rfl⟩) |
          (go_at_call_of 12 (Value.string t); refine (c5 _).mono ?_; rintro e w3 ⟨rfl, h3⟩; have b3 := b2.trans (h3.mono b2.size)) |
          (go_at_call_of 13 (Value.string t); refine (c6 _).mono ?_; rintro e w1 ⟨rfl, rfl⟩) |
          (go_at_call_of 14 (Value.string t); refine (c7 _).mono ?_; rintro e w4 ⟨rfl, h4⟩; have b4 := b3.trans (h4.mono b3.size)) |
          (go_at_call_of 15 (Value.string t); refine (c8 _).mono ?_; rintro e w1 ⟨rfl, rfl⟩) |
          (go_at_call 10; refine (known_any _).mono ?_; rintro e w5 ⟨rfl, h5⟩; have b5 := b4.trans (h5.mono b4.size)))
        go_ret
        exact ⟨rfl, b5⟩

end Go.Proofs.Ytdlkkajkflebgaa
