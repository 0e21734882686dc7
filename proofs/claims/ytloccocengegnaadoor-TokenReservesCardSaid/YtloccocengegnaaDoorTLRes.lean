/-
  TokenReserves: its walk.
-/
import Derived.Test.YtloccocengegnaaDoorTKit
import Derived.Test.YtloccocengegnaaDoorTRRes
import Derived.Test.YtloccocengegnaaDoorTPTok
import Derived.Test.YtloccocengegnaaDoorMask
import Derived.Deep.RegionWith
import Derived.Deep.RegionHeld3
set_option linter.unusedVariables false
set_option maxRecDepth 100000
namespace Go.Proofs.YtloccocengegnaaDoor
open Go.RowKit Wh

/-- The words of the law. -/
def wordX (q : Nat) : ByteArray := match q with | 0 => ⟨#[97, 110, 100]⟩ | 1 => ⟨#[111, 114]⟩ | 2 => ⟨#[110, 111, 116]⟩ | 3 => ⟨#[110, 117, 108, 108]⟩ | 4 => ⟨#[116, 114, 117, 101]⟩ | 5 => ⟨#[102, 97, 108, 115, 101]⟩ | 6 => ⟨#[98, 121]⟩ | 7 => ⟨#[115, 101, 108, 102]⟩ | 8 => ⟨#[102, 114, 111, 109]⟩ | 9 => ⟨#[111, 110]⟩ | 10 => ⟨#[97]⟩ | _ => ⟨#[]⟩
theorem wordX_res (q : Nat) (h : q < 12) : resB (wordX q) = decide (q < 8) := by
  rcases (show q = 0 ∨ q = 1 ∨ q = 2 ∨ q = 3 ∨ q = 4 ∨ q = 5 ∨ q = 6 ∨ q = 7 ∨ q = 8 ∨ q = 9 ∨ q = 10 ∨ q = 11 by omega) with rfl | rfl | rfl | rfl | rfl | rfl | rfl | rfl | rfl | rfl | rfl | rfl <;> decide +kernel

set_option maxHeartbeats 1000000 in
theorem treserves_walk (w : World) (s : ByteArray) (hs : s.size ≤ 9223372036854775807) (n : Int) (hn1 : -9223372036854775808 ≤ n) (hn2 : n ≤ 9223372036854775807) (hg : Glo w) :
    Calls Tryd.prog 3 #[.string s, .int .i64 n] w fun e w' => e = .returned (.bool true) ∧ Below w.heap.size w w' := by
  obtain ⟨N, hN, hN7⟩ : ∃ N : Nat, n % 256 = (N : Int) ∧ N ≤ 255 := ⟨(n % 256).toNat, by omega, by omega⟩
  have hb255 := and_255 n
  rw [hN] at hb255
  have HG := Lib.hid hg
  obtain ⟨q, HQ⟩ : ∃ q, Hid (N % 12 = q) := ⟨_, rfl⟩
  have hqb : q < 12 := by have := HQ.out; omega
  have hq2 : (N : Int) % 12 = (q : Int) := by have := HQ.out; omega
  have hq : Int.tmod (N : Int) 12 = (q : Int) := by rw [Int.tmod_eq_emod_of_nonneg (by omega)]; exact hq2
  have hel : ([Value.string ⟨#[97, 110, 100]⟩, .string ⟨#[111, 114]⟩, .string ⟨#[110, 111, 116]⟩, .string ⟨#[110, 117, 108, 108]⟩, .string ⟨#[116, 114, 117, 101]⟩, .string ⟨#[102, 97, 108, 115, 101]⟩, .string ⟨#[98, 121]⟩, .string ⟨#[115, 101, 108, 102]⟩, .string ⟨#[102, 114, 111, 109]⟩, .string ⟨#[111, 110]⟩, .string ⟨#[97]⟩, .string ⟨#[]⟩] : List Value)[q]'(by simpa using hqb) = .string (wordX q) := by
    rcases (show q = 0 ∨ q = 1 ∨ q = 2 ∨ q = 3 ∨ q = 4 ∨ q = 5 ∨ q = 6 ∨ q = 7 ∨ q = 8 ∨ q = 9 ∨ q = 10 ∨ q = 11 by omega) with rfl | rfl | rfl | rfl | rfl | rfl | rfl | rfl | rfl | rfl | rfl | rfl <;> rfl
  have WR := Lib.hid (wordX_res q hqb)
  generalize wordX q = wq at *
  have CP := Lib.hid (fun W => tReserved_any wq W)
  rw [WR.out] at CP
  obtain ⟨b8, h8, h8i⟩ : ∃ b, decide (q < 8) = b ∧ decide ((q : Int) < 8) = b := ⟨_, rfl, by by_cases h : q < 8 <;> simp [h] <;> omega⟩
  rw [h8] at CP
  have CS := Lib.hid (fun W => tReserved_any s W)
  have CR := Lib.hid (fun W => rreserved_any s W)
  generalize resB s = rb at *
  clear h8
  clear hg hN WR
  go_enter Tryd.func3, Tryd.ntmps3
  go_wp2_with fail
  have hB1 : Below w.heap.size w (w.alloc (.cells #[.string ⟨#[97, 110, 100]⟩, .string ⟨#[111, 114]⟩, .string ⟨#[110, 111, 116]⟩, .string ⟨#[110, 117, 108, 108]⟩, .string ⟨#[116, 114, 117, 101]⟩, .string ⟨#[102, 97, 108, 115, 101]⟩, .string ⟨#[98, 121]⟩, .string ⟨#[115, 101, 108, 102]⟩, .string ⟨#[102, 114, 111, 109]⟩, .string ⟨#[111, 110]⟩, .string ⟨#[97]⟩, .string ⟨#[]⟩] 9)).drew := ((Below.refl _ _).alloc (Nat.le_refl _) _).drew
  have hs1 := hB1.size
  have HB1 := Lib.hid hB1
  go_region_held3 (fun w' => Below w.heap.size w w')
    (first | with_reducible exact hB1 | with_reducible exact hcall | with_reducible assumption)
    (first
    | (go_at_call_of 6 (Value.string s); refine (CS.out _).mono ?_; rintro e w1 ⟨rfl, rfl⟩)
    | (go_at_call_of 6 (Value.string wq); refine (CP.out _).mono ?_; rintro e w1 ⟨rfl, rfl⟩)
    | (go_at_call 7; refine (CR.out _).mono ?_; rintro e w2 ⟨rfl, hb2⟩; have hcall := hB1.trans (hb2.mono hs1))
    | (go_at_call 8; refine (known_any7 _ (HG.out.next (by go_split_ands; assumption))).mono ?_; rintro e w3 ⟨rfl, hb3⟩; have hcall := hB1.trans ((hb2.mono hs1).trans (hb3.mono (hB1.trans (hb2.mono hs1)).size))))
  all_goals
    go_wp2_with fail
    go_ret
    exact ⟨rfl, hcall⟩

end Go.Proofs.YtloccocengegnaaDoor

