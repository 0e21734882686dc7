/-
  The law ExactSums: the sum of a list is what the document says, and the order does not matter.
-/
import Derived.Test.YtknpjfmpflbcfaaXKnown
import Derived.Test.YtknpjfmpflbcfaaXSum
import Derived.Test.YtknpjfmpflbcfaaGOwn
import Derived.OwnWalk
set_option linter.unusedVariables false
namespace Go.Proofs.Ytknpjfmpflbcfaa
open Go.RowKit Wh

/-- The number that stands in the second list. -/
def turnZ (c z : Int) : Int := nearZ (bits .xor .i64 z c)

/-- The lists that the law builds: in order, and turned. -/
def rowM (c : Int) (zs : List Int) (k : Nat) : List Value := ((zs.take k).map (turnZ c)).map (Value.int .i64)
def rowT (c : Int) (zs : List Int) (k : Nat) : List Value := ((zs.take k).map (turnZ c)).reverse.map (Value.int .i64)

theorem rowM_next {c : Int} {zs : List Int} {k : Nat} {x : Int} (h : zs[k]? = some x) : rowM c zs (k + 1) = rowM c zs k ++ [.int .i64 (turnZ c x)] := by
  unfold rowM
  rw [take_next h]
  simp

theorem rowT_next {c : Int} {zs : List Int} {k : Nat} {x : Int} (h : zs[k]? = some x) : rowT c zs (k + 1) = .int .i64 (turnZ c x) :: rowT c zs k := by
  unfold rowT
  rw [take_next h]
  simp

theorem rowT_one (c : Int) (zs : List Int) (k : Nat) : ∀ u ∈ rowT c zs k, u.oneCell' = true := by
  intro u hu
  unfold rowT at hu
  obtain ⟨z, _, rfl⟩ := List.mem_map.1 hu
  rfl

set_option maxRecDepth 100000 in
set_option maxHeartbeats 2000000 in
theorem sums_walk (w : World) (a : Option Addr) (len cap : Nat) (zs : List Int) (hz : IsInts w a len zs) (hl : len ≤ cap) (hm : cap ≤ maxLen) (hbd : ∀ z ∈ zs, -9223372036854775808 ≤ z ∧ z ≤ 9223372036854775807)
    (c : Int) (hc0 : -9223372036854775808 ≤ c) (hc1 : c ≤ 9223372036854775807) :
    Calls Try.prog 5 #[.slice a len cap, .int .i64 c] w fun e w' => e = .returned (.bool true) ∧ Below w.heap.size w w' := by
  simp only [maxLen] at hm
  have hl6 : len ≤ 9223372036854775807 := by omega
  have HZ := Lib.hid hz
  have HB := Lib.hid hbd
  clear hz hbd
  by_cases hbig : 1000 < len
  · have hd : decide (1000 < (len : Int)) = true := by simp; omega
    go_enter Try.func5, Try.ntmps5
    go_wp2_with fail
    refine (known_any _).mono ?_
    rintro e w1 ⟨rfl, hb1⟩
    go_wp2_with fail
    go_ret
    exact ⟨rfl, hb1⟩
  · have hd : decide (1000 < (len : Int)) = false := by simp; omega
    have h1000 : len ≤ 1000 := by omega
    have c1 := fun W h => sum_any a len cap zs W h h1000
    have c2 := fun W h => rsum_any a len cap zs W h h1000
    generalize sumZ zs = z1 at c1 c2
    generalize sumB zs = x1 at c1 c2
    have C1 := Lib.hid c1
    have C2 := Lib.hid c2
    clear c1 c2 hbig
    obtain ⟨i0, hi, hz0, hz1, hz2⟩ := info_parts info_int
    go_enter Try.func5, Try.ntmps5
    go_wp2_with fail
    refine (C1.out _ HZ.out).mono ?_
    rintro e w1 ⟨rfl, rfl⟩
    go_wp2_with fail
    refine (C2.out _ HZ.out).mono ?_
    rintro e w1 ⟨rfl, rfl⟩
    go_wp2_with fail
    go_loopw [9, 10, 11] (fun xv yv iv wr => ∃ k : Nat, k ≤ len ∧ iv = .int .i64 k ∧ wr.ownsRow w.heap.size 3 1 xv k (rowM c zs k) ∧
        wr.ownsRow w.heap.size 3 1 yv k (rowT c zs k) ∧ Apart xv yv ∧ (k = 0 → yv = .slice none 0 0) ∧ Below w.heap.size w wr)
      (fun _ _ i _ => len - (intOf i).toNat)
    case atStart => exact ⟨0, Nat.zero_le _, rfl, World.ownsRow_nil _ _ _ _, World.ownsRow_nil _ _ _ _, fun g hg _ => (by simp [Value.ownBlock] at hg), fun _ => rfl, Below.refl _ _⟩
    case round =>
      obtain ⟨k, hk, rfl, ox, oy, hap, hnil, hbel⟩ := hrel
      have hs := hbel.size
      have HNIL := Lib.hid hnil
      clear hnil
      have HAP := Lib.hid hap
      clear hap
      by_cases hlt : k < len
      · obtain ⟨x, hx⟩ : ∃ x, zs[k]? = some x := ⟨_, List.getElem?_eq_getElem (by have := HZ.out.1; omega)⟩
        obtain ⟨b, off, rfl, hbl, hat⟩ : ∃ b off, a = some ⟨b, off, none⟩ ∧ b < w.heap.size ∧ ∀ i z, zs[i]? = some z → w.cell? ⟨b, off + i, none⟩ = some (.int .i64 z) := by
          rcases HZ.out.2 with h | h
          · rw [h] at hx; simp at hx
          · exact h
        have HC := Lib.hid (hat k x hx)
        have hc : wr.cell? ⟨b, off + k, none⟩ = some (.int .i64 x) := by rw [hbel.cell (p := ⟨b, off + k, none⟩) hbl]; exact HC.out
        have HX := Lib.hid (rowM_next (c := c) hx)
        have HR := Lib.hid (rowT_next (c := c) hx)
        have HY := Lib.hid (show nearZ (bits .xor .i64 x c) = turnZ c x from rfl)
        clear hx hat
        go_wp2_with fail
        refine (near_any _ _).mono ?_
        rintro e w1 ⟨rfl, rfl⟩
        rw [HY.out]
        generalize turnZ c x = y at HX HR HY ⊢
        go_wp2_with (at_builtin; refine wpList_append_lies _ rfl (.tmp 38) (.tmp 46) 27 rfl w.heap.size 3 i0 _ 1 8 Try.underlying27 hi hz0 hz1 hz2 rfl (by decide) _ _ _ rfl (ox.alloc _) ⟨wr.heap.size, 0, none⟩ 1 1 [.int .i64 y] rfl rfl ?c1 ?c2 ?c3 ?c4 ?c5 ?c6 _ rfl ?_)
        case c1 => exact World.news_of_block (cs := #[.int .i64 y]) (t := 3) (fr := (0, 0)) (heap_alloc_new wr _)
        case c2 => simp [Value.oneCell']
        case c3 => omega
        case c4 => simp [maxLen]; omega
        case c5 => omega
        case c6 => simp; omega
        intro g3 c3 w3 ox3 hg3 hat3 hlt3
        have B3 : Below w.heap.size w w3 := (hbel.alloc (by omega) _).grown hg3 (by simp; omega) (fun j hj => (ox.lt j hj).1)
        have t3 : wr.heap.size + 1 ≤ w3.heap.size := by have := hg3.size; simpa using this
        have oy3 := (oy.alloc _).kept hg3 HAP.out.kept
        rw [← HX.out] at ox3
        have hc3 : w3.cell? ⟨b, off + k, none⟩ = some (.int .i64 x) := by rw [B3.cell (p := ⟨b, off + k, none⟩) hbl]; exact HC.out
        clear ox oy hg3 hat3 HAP HX hbel hc
        go_wp2_with fail
        refine (near_any _ _).mono ?_
        rintro e w1 ⟨rfl, rfl⟩
        rw [show nearZ (bits .xor .i64 x c) = y from HY.out]
        rcases oy3.2 with ⟨rfl, hk0⟩ | ⟨g, cp, cur, rfl, hgb, hgh, hgn, hgm, hgs, hgt⟩
        · have hr0 : rowT c zs k = [] := by rw [hk0]; rfl
          have o4 : (w3.alloc (.cells #[.int .i64 y] 3 (0, 0))).ownsRow w.heap.size 3 1 (.slice (some ⟨w3.heap.size, 0, none⟩) 1 1) 1 [.int .i64 y] :=
            ⟨rfl, .inr ⟨w3.heap.size, 1, #[.int .i64 y], rfl, by omega, heap_alloc_new w3 _, Nat.le_refl _, by simp [maxLen], rfl, rfl⟩⟩
          have B4 : Below w.heap.size w (w3.alloc (.cells #[.int .i64 y] 3 (0, 0))) := B3.alloc (by omega) _
          have ox4 := ox3.alloc (.cells #[.int .i64 y] 3 (0, 0))
          have HR1 : Hid (rowT c zs (k + 1) = [.int .i64 y]) := by show _ = _; rw [HR.out, hr0]
          have HK := Lib.hid hk0
          have ap4 : Hid (Apart (.slice (some ⟨g3, 0, none⟩) (k + 1) c3) (.slice (some ⟨w3.heap.size, 0, none⟩) 1 1)) := by
            intro g hg hu
            simp only [Value.ownBlock, Option.some.injEq] at hg hu
            omega
          clear hk0 hr0 oy3 ox3 hc3
          go_wp2_with (at_builtin; refine wpList_append_own_none rfl (.tmp 55) (.tmp 56) 27 rfl w.heap.size 3 i0 1 Try.underlying27 hi _ 1 [.int .i64 y] rfl o4 rfl ?_)
          go_wp2_with fail
          go_roundw
          case rel =>
            have hk0 := HK.out
            refine ⟨k + 1, by omega, by go_num, ox4, ?_, ap4.out, fun h => absurd h (by omega), B4⟩
            rw [HR1.out, hk0]
            exact o4
          case measure => simp [intOf]; omega
        · have hgl : g < w3.heap.size := (oy3.lt g rfl).2
          have hk1 : 0 < k := by
            rcases Nat.eq_zero_or_pos k with h | h
            · have := HNIL.out h
              cases this
            · exact h
          have o4 : (w3.alloc (.cells #[.int .i64 y] 3 (0, 0))).ownsRow w.heap.size 3 1 (.slice (some ⟨w3.heap.size, 0, none⟩) 1 1) 1 [.int .i64 y] :=
            ⟨rfl, .inr ⟨w3.heap.size, 1, #[.int .i64 y], rfl, by omega, heap_alloc_new w3 _, Nat.le_refl _, by simp [maxLen], rfl, rfl⟩⟩
          have ox4 := ox3.alloc (.cells #[.int .i64 y] 3 (0, 0))
          have oy4 := oy3.alloc (.cells #[.int .i64 y] 3 (0, 0))
          have hcs := oy4.cells (g := g) rfl
          have hrl : (rowT c zs k).length = k * 1 := oy4.1
          have h1c : ∀ u ∈ rowT c zs k, u.oneCell' = true := rowT_one c zs k
          have HCS := Lib.hid hcs
          have HRL := Lib.hid hrl
          have H1C := Lib.hid h1c
          clear hcs hrl h1c oy3 ox3 oy4 hgb hgh hgn hgm hgs hgt hc3
          go_wp2_with (at_builtin; refine wpList_append_lies _ rfl (.tmp 55) (.tmp 56) 27 rfl w.heap.size 3 i0 _ 1 8 Try.underlying27 hi hz0 hz1 hz2 rfl (by decide) _ 1 [.int .i64 y] rfl o4 ⟨g, 0, none⟩ k cp (rowT c zs k) rfl HRL.out HCS.out H1C.out ?d3 ?d4 ?d5 ?d6 _ rfl ?_)
          case d3 => exact hk1
          case d4 => simp [maxLen]; omega
          case d5 => omega
          case d6 => simp; omega
          intro g5 c5 w5 o5 hg5 hat5 hlt5
          have B5 : Below w.heap.size w w5 := (B3.alloc (by omega) _).grown hg5 (by simp; omega) (fun j hj => by simp [Value.ownBlock] at hj; omega)
          have ox5 := ox4.kept hg5 (.inr (by simp [Value.ownBlock]; omega))
          have ap5 : Hid (Apart (.slice (some ⟨g3, 0, none⟩) (k + 1) c3) (.slice (some ⟨g5, 0, none⟩) (1 + k) c5)) := by
            intro g' hg hu
            simp only [Value.ownBlock, Option.some.injEq] at hg hu
            rcases hat5 with h | h
            · simp only [Value.ownBlock, Option.some.injEq] at h
              omega
            · have : g5 = w3.heap.size + 1 := by simpa using h
              omega
          rw [← HR.out] at o5
          clear hg5 hat5 ox4 o4
          rw [Nat.add_comm 1 k] at o5 ap5 ⊢
          go_wp2_with fail
          go_roundw
          case rel => exact ⟨k + 1, by omega, by go_num, ox5, o5, ap5.out, fun h => absurd h (by omega), B5⟩
          case measure => simp [intOf]; omega
      · obtain rfl : k = len := by omega
        have hall : zs.take k = zs := by rw [← HZ.out.1, List.take_length]
        have eM : rowM c zs k = (zs.map (turnZ c)).map (Value.int .i64) := by unfold rowM; rw [hall]
        have eT : rowT c zs k = (zs.map (turnZ c)).reverse.map (Value.int .i64) := by unfold rowT; rw [hall]
        rw [eM] at ox
        rw [eT] at oy
        obtain ⟨ax, cx, rfl, ix, _, _, _, _⟩ := own_ints ox
        obtain ⟨ay, cy, rfl, iy, _, _, _, _⟩ := own_ints oy
        have c3 := fun W h => sum_any ax k cx (zs.map (turnZ c)) W h h1000
        have c4 := fun W h => rsum_any ax k cx (zs.map (turnZ c)) W h h1000
        have c5 := fun W h => sum_any ay k cy (zs.map (turnZ c)).reverse W h h1000
        rw [(sum_reverse _).1, (sum_reverse _).2] at c5
        generalize sumZ (zs.map (turnZ c)) = z2 at c3 c4 c5
        generalize sumB (zs.map (turnZ c)) = x2 at c3 c4 c5
        have C3 := Lib.hid c3
        have C4 := Lib.hid c4
        have C5 := Lib.hid c5
        have IX := Lib.hid ix
        have IY := Lib.hid iy
        clear c3 c4 c5 ix iy ox oy hall eM eT HAP
        go_wp2_with fail
        refine (C3.out _ IX.out).mono ?_
        rintro e w1 ⟨rfl, rfl⟩
        go_wp2_with fail
        refine (C4.out _ IX.out).mono ?_
        rintro e w1 ⟨rfl, rfl⟩
        go_wp2_with fail
        refine (C5.out _ IY.out).mono ?_
        rintro e w1 ⟨rfl, rfl⟩
        go_wp2_with fail
        refine (known_any _).mono ?_
        rintro e w2 ⟨rfl, hb2⟩
        go_wp2_with fail
        go_ret
        exact ⟨rfl, hbel.trans (hb2.mono hs)⟩

end Go.Proofs.Ytknpjfmpflbcfaa
