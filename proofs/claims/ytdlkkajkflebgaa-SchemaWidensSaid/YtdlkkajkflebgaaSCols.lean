/-
  The columns that the laws draw: warehousebase.Columns.
-/
import Derived.Test.YtdlkkajkflebgaaGRow3
import Derived.Test.YtdlkkajkflebgaaGAt
import Derived.Test.YtdlkkajkflebgaaGMoment
import Derived.Laws.BytesString
set_option linter.unusedVariables false
namespace Wh
open Go

/-- A text of one byte. -/
def chrZ (x : Int) : ByteArray := ⟨#[UInt8.ofNat x.toNat]⟩
def odd4 : List ByteArray := [⟨#[]⟩, ⟨#[65]⟩, ⟨#[97, 46, 98]⟩, ⟨#[98, 121]⟩]
/-- The column that a number stands for. -/
def colD (k : Int) : C :=
  if k / 256 % 16 = 0 then ⟨odd4.getD (k % 4).toNat ⟨#[]⟩, k % 7 - 1, k / 36 % 2 == 1⟩ else ⟨chrZ (97 + k % 9), 1 + k / 9 % 4, k / 36 % 2 == 1⟩
/-- n columns, from a list of numbers. -/
def colL (zs : List Int) (n : Nat) : List C := (List.range n).map fun (i : Nat) => colD (atZ zs (i : Int))

theorem colL_next (zs : List Int) (k : Nat) : colL zs (k + 1) = colL zs k ++ [colD (atZ zs (k : Int))] := by
  unfold colL
  rw [List.range_succ, List.map_append]
  rfl
theorem colL_length (zs : List Int) (n : Nat) : (colL zs n).length = n := by simp [colL]

end Wh
namespace Go.Proofs.Ytdlkkajkflebgaa
open Go.RowKit Wh

theorem pick4s (a b c d : ByteArray) (j : Nat) (h : j < 4) :
    [Value.string a, Value.string b, Value.string c, Value.string d][j]? = some (.string ([a, b, c, d].getD j ⟨#[]⟩)) := by
  match j, h with
  | 0, _ => rfl
  | 1, _ => rfl
  | 2, _ => rfl
  | 3, _ => rfl

theorem conv_chr (W : World) (x : Int) (h0 : 0 ≤ x) (h1 : x ≤ 255) :
    (convert 34 9 (.slice (some ⟨W.heap.size, 0, none⟩) 1 1)).run Try.prog (W.alloc (.cells #[.int .u8 x] 5)) = .ok (.string (chrZ x)) (W.alloc (.cells #[.int .u8 x] 5)) := by
  have hb := heap_alloc_new W (.cells #[.int .u8 x] 5)
  have h := conv_str (W := W.alloc (.cells #[.int .u8 x] 5)) (b := W.heap.size) (off := 0) (c := 1) (y := 1) (l := [UInt8.ofNat x.toNat]) rfl (fun j u hu => by
    cases j with
    | zero =>
      simp at hu
      subst hu
      rw [cell_of_row _ _ 0 _ _ _ hb]
      show some (Value.int .u8 x) = some (.int .u8 _)
      congr 2
      rw [UInt8.toNat_ofNat']
      omega
    | succ j => simp at hu)
  exact h

set_option maxHeartbeats 2000000 in
theorem columns_any (a : Option Addr) (len cap : Nat) (zs : List Int) (n : Nat) (hn : n ≤ 1000) (w : World) (hz : IsInts w a len zs) (hl : len ≤ 9223372036854775807) :
    Calls Try.prog 16 #[.slice a len cap, .int .i64 n] w (ColsPost w (colL zs n)) := by
  unfold ColsPost
  rw [colL_length]
  obtain ⟨i0, hi, hz0, hz1, hz2⟩ := info_parts info_col
  have HZ := Lib.hid hz
  have b15 := and_15
  clear hz
  go_enter Try.func16, Try.ntmps16
  go_wp2_with fail
  go_loopw [5, 6] (fun ov iv wr => ∃ k : Nat, k ≤ n ∧ iv = .int .i64 k ∧ wr.ownsRow w.heap.size 55 3 ov k (flat3 ((colL zs k).map cC)) ∧ Below w.heap.size w wr)
    (fun _ i _ => n - (intOf i).toNat)
  case atStart => exact ⟨0, Nat.zero_le _, rfl, World.ownsRow_nil _ _ _ _, Below.refl _ _⟩
  case round =>
    obtain ⟨k, hk, rfl, hown, hbel⟩ := hrel
    by_cases hlt : k < n
    · have hs := hbel.size
      have HO := Lib.hid hown
      clear hown
      go_wp2_with fail
      refine (at_any _ _ _ zs _ _ (HZ.out.below hbel (Nat.le_refl _)) hl).mono ?_
      rintro e w1 ⟨rfl, hb1⟩
      have hab := atZ_bounds zs (k : Int)
      have hown1 := own_below HO.out hb1
      have hs1 := hb1.size
      have HN := Lib.hid (colL_next zs k)
      generalize hx : atZ zs (k : Int) = x at *
      obtain ⟨x0, x1⟩ := hab
      have c1 := conv_chr w1 (97 + x % 9) (by omega) (by omega)
      have hw8 : IntKind.u8.wrap (97 + x % 9) = 97 + x % 9 := by rw [IntKind.wrap_u8]; omega
      have HB1 := Lib.hid (hbel.trans (hb1.mono hs))
      have HO1 := Lib.hid hown1
      clear hx hown1 hb1 hbel HO
      generalize hnm : chrZ (97 + x % 9) = nm at *
      generalize hbo : (x / 36 % 2 == 1) = nu at *
      have hn3 : ∀ o1 o2 o3, (((w1.alloc o1).alloc o2).alloc o3).heap[w1.heap.size + 1 + 1]? = some o3 := fun o1 o2 o3 => by
        have := heap_alloc_new ((w1.alloc o1).alloc o2) o3
        rwa [World.size_alloc, World.size_alloc] at this
      have hn4 : ∀ o1 o2 o3 o4, ((((w1.alloc o1).alloc o2).alloc o3).alloc o4).heap[w1.heap.size + 1 + 1 + 1]? = some o4 := fun o1 o2 o3 o4 => by
        have := heap_alloc_new (((w1.alloc o1).alloc o2).alloc o3) o4
        rwa [World.size_alloc, World.size_alloc, World.size_alloc] at this
      by_cases hz : x / 256 % 16 = 0
      · have hzb : (x / 256 % 16 == 0) = true := by rw [hz]; rfl
        have hp := pick4s ⟨#[]⟩ ⟨#[65]⟩ ⟨#[97, 46, 98]⟩ ⟨#[98, 121]⟩ (x % 4).toNat (by omega)
        generalize hty : [(⟨#[]⟩ : ByteArray), ⟨#[65]⟩, ⟨#[97, 46, 98]⟩, ⟨#[98, 121]⟩].getD (x % 4).toNat ⟨#[]⟩ = ty at *
        have HC : Hid (colD x = ⟨ty, x % 7 - 1, nu⟩) := by
          show _ = _
          unfold colD
          rw [if_pos hz, show odd4.getD (x % 4).toNat ⟨#[]⟩ = ty from hty, hbo]
        clear hz
        go_wp2_with (at_builtin; refine wpList_append_own _ rfl _ _ 28 rfl w.heap.size 55 i0 _ 3 32 Try.underlying28 hi hz0 hz1 hz2 rfl (by decide) _ _ _ rfl ((((HO1.out.alloc _).alloc _).alloc _).alloc _) ⟨w1.heap.size + 1 + 1 + 1, 0, none⟩ 1 1 [.string ty, .int .i64 (x % 7 - 1), .bool nu] rfl rfl ?c1 ?c2 ?c3 ?c4 ?c5 ?_)
        case c1 => exact World.news_of_block (t := 55) (fr := (0, 0)) (hn4 _ _ _ _)
        case c2 => simp [Value.oneCell']
        case c3 => simp [maxLen]; omega
        case c4 => omega
        case c5 => simp; omega
        intro v3 w3 hown3 hgrow _
        have hB : Below w.heap.size w w3 := ((((HB1.out.alloc (by omega) _).alloc (by simp; omega) _).alloc (by simp; omega) _).alloc (by simp; omega) _).grown hgrow (by simp; omega) (fun j hj => (HO1.out.lt j hj).1)
        have hown4 : w3.ownsRow w.heap.size 55 3 v3 (k + 1) (flat3 ((colL zs (k + 1)).map cC)) := by
          have e : flat3 ((colL zs (k + 1)).map cC) = flat3 ((colL zs k).map cC) ++ [.string ty, .int .i64 (x % 7 - 1), .bool nu] := by
            rw [HN.out, HC.out, List.map_append]
            unfold flat3
            rw [List.flatMap_append]
            rfl
          rw [e]
          exact hown3
        clear hown3 hgrow HO1
        go_wp2_with fail
        go_roundw
        case rel => exact ⟨k + 1, by omega, by go_num, hown4, hB⟩
        case measure => simp [intOf]; omega
      · have hzb : (x / 256 % 16 == 0) = false := by simpa using hz
        have HC : Hid (colD x = ⟨nm, 1 + x / 9 % 4, nu⟩) := by
          show _ = _
          unfold colD
          rw [if_neg hz, hnm, hbo]
        clear hz
        go_wp2_with (at_builtin; refine wpList_append_own _ rfl _ _ 28 rfl w.heap.size 55 i0 _ 3 32 Try.underlying28 hi hz0 hz1 hz2 rfl (by decide) _ _ _ rfl (((HO1.out.alloc _).alloc _).alloc _) ⟨w1.heap.size + 1 + 1, 0, none⟩ 1 1 [.string nm, .int .i64 (1 + x / 9 % 4), .bool nu] rfl rfl ?c1 ?c2 ?c3 ?c4 ?c5 ?_)
        case c1 => exact World.news_of_block (t := 55) (fr := (0, 0)) (hn3 _ _ _)
        case c2 => simp [Value.oneCell']
        case c3 => simp [maxLen]; omega
        case c4 => omega
        case c5 => simp; omega
        intro v3 w3 hown3 hgrow _
        have hB : Below w.heap.size w w3 := (((HB1.out.alloc (by omega) _).alloc (by simp; omega) _).alloc (by simp; omega) _).grown hgrow (by simp; omega) (fun j hj => (HO1.out.lt j hj).1)
        have hown4 : w3.ownsRow w.heap.size 55 3 v3 (k + 1) (flat3 ((colL zs (k + 1)).map cC)) := by
          have e : flat3 ((colL zs (k + 1)).map cC) = flat3 ((colL zs k).map cC) ++ [.string nm, .int .i64 (1 + x / 9 % 4), .bool nu] := by
            rw [HN.out, HC.out, List.map_append]
            unfold flat3
            rw [List.flatMap_append]
            rfl
          rw [e]
          exact hown3
        clear hown3 hgrow HO1
        go_wp2_with fail
        go_roundw
        case rel => exact ⟨k + 1, by omega, by go_num, hown4, hB⟩
        case measure => simp [intOf]; omega
    · obtain rfl : k = n := by omega
      have HO := Lib.hid hown
      clear hown
      go_wp2_with fail
      go_ret
      exact ⟨_, rfl, HO.out, hbel⟩

end Go.Proofs.Ytdlkkajkflebgaa
