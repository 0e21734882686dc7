/-
  The zones that the laws draw: warehousebase.Zone.
-/
import Derived.Test.YtfknoclmpdnkdaaZDraw
import Derived.Test.YtfknoclmpdnkdaaGMoment
import Derived.Test.YtfknoclmpdnkdaaGOwn
import Derived.Laws.OwnMore
import Derived.OneCell
import Derived.OwnWalk
import Derived.Deep.RegionLaw
import Derived.Deep.AppendLies
set_option linter.unusedVariables false
namespace Go.Proofs.Ytfknoclmpdnkdaa
open Go.RowKit Wh

theorem info_shift : (Try.prog.info? 28).map (fun i => (i.zero, i.size, i.bytes)) = some (some (.agg #[.int .i64 0, .int .i64 0]), 2, 16) := by kernel_rfl

/-- The cells of shifts. -/
def flatS (l : List (Int × Int)) : List Value := l.flatMap fun s => [.int .i64 s.1, .int .i64 s.2]

theorem flatS_length (l : List (Int × Int)) : (flatS l).length = l.length * 2 := by
  unfold flatS
  induction l with
  | nil => rfl
  | cons s l ih => simp only [List.flatMap_cons, List.length_append, ih, List.length_cons, List.length_nil]; omega

theorem flatS_at (l : List (Int × Int)) (i : Nat) (s : Int × Int) (h : l[i]? = some s) : (flatS l)[i * 2]? = some (.int .i64 s.1) ∧ (flatS l)[i * 2 + 1]? = some (.int .i64 s.2) := by
  unfold flatS
  induction l generalizing i with
  | nil => simp at h
  | cons u l ih =>
    cases i with
    | zero => simp at h; subst h; simp
    | succ i =>
      simp only [List.getElem?_cons_succ] at h
      have := ih i h
      rw [show (i + 1) * 2 = i * 2 + 1 + 1 from by omega]
      simpa [List.flatMap_cons] using this

/-- A slice that owns the cells of shifts has these shifts. -/
theorem own_shifts {w : World} {base n : Nat} {sv : Value} {l : List (Int × Int)} (h : w.ownsRow base 28 2 sv n (flatS l)) (hn : l.length = n) :
    ∃ (a : Option Addr) (cap : Nat), sv = .slice a n cap ∧ IsShifts w a n l ∧ n ≤ cap ∧ (∀ x, a = some x → ∃ g, x = ⟨g, 0, none⟩ ∧ base ≤ g ∧ g < w.heap.size) := by
  rcases h.2 with ⟨rfl, rfl⟩ | ⟨g, cap, cur, rfl, hg, hh, hnc, _, _, ht⟩
  · exact ⟨none, 0, rfl, ⟨hn, .inl (List.eq_nil_of_length_eq_zero hn)⟩, Nat.le_refl _, by simp⟩
  · have hlt : g < w.heap.size := (Array.getElem?_eq_some_iff.1 hh).1
    refine ⟨_, cap, rfl, ⟨hn, .inr ⟨g, 0, rfl, hlt, fun i s hs => ?_⟩⟩, hnc, by rintro x ⟨⟩; exact ⟨g, rfl, hg, hlt⟩⟩
    have hadd : ∀ o j, (⟨g, o, none⟩ : Addr).add j = ⟨g, o + j, none⟩ := fun o j => by unfold Addr.add; split <;> simp_all
    obtain ⟨h0, h1⟩ := flatS_at l i s hs
    have c := h.cells (g := g) rfl
    have c0 := c _ _ h0
    have c1 := c _ _ h1
    simp only [hadd] at c0 c1
    refine ⟨c0, ?_⟩
    rw [Nat.add_assoc]
    exact c1

theorem own_mono {w : World} {base base' E sz n : Nat} {v : Value} {xs : List Value} (h : w.ownsRow base E sz v n xs) (hb : base' ≤ base) : w.ownsRow base' E sz v n xs := by
  refine ⟨h.1, ?_⟩
  rcases h.2 with h | ⟨g, cap, cur, e, hg, rest⟩
  · exact .inl h
  · exact .inr ⟨g, cap, cur, e, by omega, rest⟩

theorem pick7 (a b c d e f g : Int) (j : Nat) (h : j < 7) :
    [Value.int .i64 a, Value.int .i64 b, Value.int .i64 c, Value.int .i64 d, Value.int .i64 e, Value.int .i64 f, Value.int .i64 g][j]? = some (.int .i64 ([a, b, c, d, e, f, g].getD j 0)) := by
  match j, h with
  | 0, _ => rfl
  | 1, _ => rfl
  | 2, _ => rfl
  | 3, _ => rfl
  | 4, _ => rfl
  | 5, _ => rfl
  | 6, _ => rfl

/-- A block of three cells. -/
structure Box3 (w : World) (b : Nat) (x y z : Value) (t : TypeId) : Prop where
  block : w.heap[b]? = some (.cells #[x, y, z] t (0, 0))

theorem Box3.c0 {w : World} {b : Nat} {x y z : Value} {t : TypeId} (h : Box3 w b x y z t) : w.cell? ⟨b, 0, none⟩ = some x := cell_of_row _ _ 0 _ _ _ h.block
theorem Box3.c1 {w : World} {b : Nat} {x y z : Value} {t : TypeId} (h : Box3 w b x y z t) : w.cell? ⟨b, 1, none⟩ = some y := cell_of_row _ _ 1 _ _ _ h.block
theorem Box3.c2 {w : World} {b : Nat} {x y z : Value} {t : TypeId} (h : Box3 w b x y z t) : w.cell? ⟨b, 2, none⟩ = some z := cell_of_row _ _ 2 _ _ _ h.block
theorem Box3.free {w : World} {b : Nat} {x y z : Value} {t : TypeId} (h : Box3 w b x y z t) (j : Nat) : w.frozen? ⟨b, j, none⟩ = false := by simp [World.frozen?, h.block]
theorem Box3.lt {w : World} {b : Nat} {x y z : Value} {t : TypeId} (h : Box3 w b x y z t) : b < w.heap.size := (Array.getElem?_eq_some_iff.1 h.block).1
theorem Box3.set2 {w : World} {b : Nat} {x y z u : Value} {t : TypeId} (h : Box3 w b x y z t) : Box3 (w.setCell ⟨b, 2, none⟩ u) b x y u t := by
  refine ⟨?_⟩
  have hb := h.block
  simp only [World.setCell, Array.getElem?_modify, if_pos]
  rw [hb]
  rfl
theorem Box3.far {w : World} {b : Nat} {x y z u : Value} {t : TypeId} (h : Box3 w b x y z t) {a : Addr} (ha : b ≠ a.block) : Box3 (w.setCell a u) b x y z t := ⟨by rw [Below.heap_setCell _ _ _ _ ha]; exact h.block⟩
theorem Box3.alloc {w : World} {b : Nat} {x y z : Value} {t : TypeId} (h : Box3 w b x y z t) (o : Obj) : Box3 (w.alloc o) b x y z t := ⟨by rw [Below.heap_alloc _ _ _ h.lt]; exact h.block⟩
theorem Box3.drew {w : World} {b : Nat} {x y z : Value} {t : TypeId} (h : Box3 w b x y z t) : Box3 w.drew b x y z t := ⟨h.block⟩
theorem Box3.grown {w w' : World} {b : Nat} {x y z : Value} {t : TypeId} {row : Option Nat} (h : Box3 w b x y z t) (hg : w.grownBy w' row) (hne : some b ≠ row) : Box3 w' b x y z t := ⟨by rw [hg.block b h.lt hne]; exact h.block⟩

set_option maxHeartbeats 1000000 in
theorem zone_any (n : Int) (w : World) :
    Calls Try.prog 11 #[.int .i64 n] w fun e w' => ∃ sv, e = .returned (.agg #[.string ⟨#[122]⟩, .int .i64 (drawO (n % 65536)), sv]) ∧
      w'.ownsRow w.heap.size 28 2 sv (cntD (n % 65536)) (flatS (drawL (n % 65536) (cntD (n % 65536)))) ∧ Below w.heap.size w w' := by
  have b1 := and_65535
  have h0 : 0 ≤ n % 65536 := by omega
  have h1 : n % 65536 < 65536 := by omega
  have hp := pick7 0 60 (-300) 840 (-840) 120 30 (n % 65536 % 7).toNat (by omega)
  have hO : drawO (n % 65536) = [0, 60, -300, 840, -840, 120, 30].getD (n % 65536 % 7).toNat 0 := rfl
  rw [← hO] at hp
  have hc : (n % 65536 / 7 % 4 : Int) = (cntD (n % 65536) : Int) := by unfold cntD; omega
  have hc3 : cntD (n % 65536) ≤ 3 := by unfold cntD; omega
  clear hO
  generalize drawO (n % 65536) = o at *
  obtain ⟨i0, hi, hz0, hz1, hz2⟩ := info_parts info_shift
  go_enter Try.func11, Try.ntmps11
  go_wp2_with fail
  go_loopw [4, 5] (fun iv kv wr => ∃ (k : Nat) (sv : Value), k ≤ cntD (n % 65536) ∧ iv = .int .i64 k ∧ wr.ownsRow (w.heap.size + 1 + 1 + 1) 28 2 sv k (flatS (drawL (n % 65536) k)) ∧
      Box3 wr w.heap.size (.string ⟨#[]⟩) (.int .i64 0) (.slice none 0 0) 24 ∧ Box3 wr (w.heap.size + 1 + 1) (.string ⟨#[122]⟩) (.int .i64 o) sv 24 ∧ Below w.heap.size w wr)
    (fun i _ _ => 4 - (intOf i).toNat)
  case atStart =>
    refine ⟨0, .slice none 0 0, Nat.zero_le _, rfl, World.ownsRow_nil _ _ _ _, ((Box3.mk (heap_alloc_new w _)).alloc _).alloc _, ⟨?_⟩, (((Below.refl _ _).alloc (Nat.le_refl _) _).alloc (by simp) _).alloc (by simp; omega) _⟩
    have := heap_alloc_new ((w.alloc (.cells #[.string ⟨#[]⟩, .int .i64 0, .slice none 0 0] 24)).alloc (.cells #[.int .i64 0, .int .i64 60, .int .i64 (-300), .int .i64 840, .int .i64 (-840), .int .i64 120, .int .i64 30] 3)) (.cells #[.string ⟨#[122]⟩, .int .i64 o, .slice none 0 0] 24)
    rw [World.size_alloc, World.size_alloc] at this
    exact this
  case round =>
    obtain ⟨k, sv, hk, rfl, hown, hx0, hx2, hbel⟩ := hrel
    by_cases hlt : k < cntD (n % 65536)
    · have hs := hbel.size
      have hsz := hx2.lt
      have e0 := hx2.c0
      have e1 := hx2.c1
      have e2 := hx2.c2
      have f2 := hx2.free 2
      have H0 := Lib.hid hx0
      have H2 := Lib.hid hx2
      have HO := Lib.hid hown
      clear hx0 hx2 hown hp
      have hN := Lib.hid (drawL_next (n % 65536) k)
      have hS : shiftZ (n % 65536) k = (144000 + 1000 * (k : Int) + shrZ (n % 65536) k % 9 * 100, offs7.getD (shrZ (n % 65536) k % 7).toNat 0) := rfl
      have hp2 := pick7 60 0 120 (-300) 720 (-720) 90 (shrZ (n % 65536) k % 7).toNat (by omega)
      have hp3 : (0 : Int) ≤ shrZ (n % 65536) k % 7 := by omega
      have hp4 : shrZ (n % 65536) k % 7 < 7 := by omega
      rw [show [60, 0, 120, -300, 720, -720, 90] = offs7 from rfl] at hp2
      generalize offs7.getD (shrZ (n % 65536) k % 7).toNat 0 = q at *
      have hsh : n % 65536 / 2 ^ ((3 : Int) + (k : Int)).toNat = shrZ (n % 65536) k := by
        rcases (show k = 0 ∨ k = 1 ∨ k = 2 by omega) with rfl | rfl | rfl <;> rfl
      have hx0 : 0 ≤ shrZ (n % 65536) k ∧ shrZ (n % 65536) k < 65536 := by
        rcases (show k = 0 ∨ k = 1 ∨ k = 2 by omega) with rfl | rfl | rfl <;> (unfold shrZ; simp only; omega)
      generalize shrZ (n % 65536) k = x at *
      obtain ⟨x0, x1⟩ := hx0
      have hp5 : [Value.int .i64 60, Value.int .i64 0, Value.int .i64 120, Value.int .i64 (-300), Value.int .i64 720, Value.int .i64 (-720), Value.int .i64 90][(x % 7).toNat]'(by simp; omega) = Value.int .i64 q := (List.getElem?_eq_some_iff.1 hp2).2
      generalize shiftZ (n % 65536) k = sh at *
      have HS := Lib.hid hS
      clear hS
      have hk3 : k ≤ 2 := by omega
      clear hp2
      have m9 : x.tmod 9 = x % 9 := by rw [Int.tmod_eq_emod, if_pos (.inl x0)]; simp
      have m7 : x.tmod 7 = x % 7 := by rw [Int.tmod_eq_emod, if_pos (.inl x0)]; simp
      have hw1 : IntKind.i64.wrap (1000 * (k : Int)) = 1000 * (k : Int) := by rw [IntKind.wrap_i64]; omega
      have hw2 : IntKind.i64.wrap (144000 + 1000 * (k : Int)) = 144000 + 1000 * (k : Int) := by rw [IntKind.wrap_i64]; omega
      have hw3 : IntKind.i64.wrap (x % 9 * 100) = x % 9 * 100 := by rw [IntKind.wrap_i64]; omega
      obtain ⟨y, hy⟩ : ∃ y, y = 144000 + 1000 * (k : Int) + x % 9 * 100 := ⟨_, rfl⟩
      have hw4 : IntKind.i64.wrap (144000 + 1000 * (k : Int) + x % 9 * 100) = y := by rw [IntKind.wrap_i64]; omega
      rw [← hy] at HS
      clear hy
      have hn41 : ∀ o1 o2, ((wr.alloc o1).alloc o2).heap[wr.heap.size + 1]? = some o2 := fun o1 o2 => by
        have := heap_alloc_new (wr.alloc o1) o2
        rwa [World.size_alloc] at this
      have e2a : ∀ o1, (wr.alloc o1).cell? ⟨w.heap.size + 1 + 1, 2, none⟩ = some sv := fun o1 => (H2.out.alloc o1).c2
      have e2b : ∀ o1 o2, ((wr.alloc o1).alloc o2).cell? ⟨w.heap.size + 1 + 1, 2, none⟩ = some sv := fun o1 o2 => ((H2.out.alloc o1).alloc o2).c2
      have hne : some (w.heap.size + 1 + 1) ≠ sv.ownBlock := fun e => by have := (HO.out.lt _ e.symm).1; omega
      go_wp2_with fail
      go_region_law (refine step_append_lies _ (by rfl) (.tmp 27) (.tmp 41) _ (by rfl) (w.heap.size + 1 + 1 + 1) 28 i0 _ 2 16 Try.underlying22 hi hz0 hz1 hz2 rfl (by omega) _ _ _ (by rfl) (((HO.out.alloc _).alloc _).drew) ⟨wr.heap.size + 1, 0, none⟩ 1 1 [.int .i64 y, .int .i64 q] (by rfl) (by rfl) (World.news_of_block (cs := #[.int .i64 y, .int .i64 q]) (t := 28) (fr := (0, 0)) (hn41 _ _)) (by simp [Value.oneCell']) (by omega) (by unfold maxLen; omega) (by omega) (by simp; omega) (wr.heap.size + 1 + 1) (by simp) ?_; intro gg cc w3 hown4 hgrow3 hat3 hlt3; have hx3 := Box3.grown (((H2.out.alloc _).alloc _).drew) hgrow3 hne; have e3 := hx3.c2; have f3 := hx3.free 2; have HX3 := Lib.hid hx3; clear hx3)
      all_goals
        clear e2a e2b hn41 e0 e1 e2 f2 hp5 m9 m7 hw1 hw2 hw3 hw4
        have hB : Below w.heap.size w w3 := (((hbel.alloc hs _).alloc (by simp; omega) _).drew).grown hgrow3 (by simp; omega) (fun j hj => by have := (HO.out.lt j hj).1; omega)
        have hb0 : Box3 w3 w.heap.size (.string ⟨#[]⟩) (.int .i64 0) (.slice none 0 0) 24 := Box3.grown (((H0.out.alloc _).alloc _).drew) hgrow3 (fun e => by have := (HO.out.lt _ e.symm).1; omega)
        have hown5 : w3.ownsRow (w.heap.size + 1 + 1 + 1) 28 2 (.slice (some ⟨gg, 0, none⟩) (k + 1) cc) (k + 1) (flatS (drawL (n % 65536) (k + 1))) := by
          have e : flatS (drawL (n % 65536) (k + 1)) = flatS (drawL (n % 65536) k) ++ [.int .i64 y, .int .i64 q] := by rw [hN.out, HS.out]; simp [flatS]
          rw [e]
          exact hown4
        have R : Hid (∃ (k' : Nat) (sv' : Value), k' ≤ cntD (n % 65536) ∧ Value.int .i64 ((k : Int) + 1) = .int .i64 k' ∧ (w3.setCell ⟨w.heap.size + 1 + 1, 2, none⟩ (.slice (some ⟨gg, 0, none⟩) (k + 1) cc)).ownsRow (w.heap.size + 1 + 1 + 1) 28 2 sv' k' (flatS (drawL (n % 65536) k')) ∧
            Box3 (w3.setCell ⟨w.heap.size + 1 + 1, 2, none⟩ (.slice (some ⟨gg, 0, none⟩) (k + 1) cc)) w.heap.size (.string ⟨#[]⟩) (.int .i64 0) (.slice none 0 0) 24 ∧ Box3 (w3.setCell ⟨w.heap.size + 1 + 1, 2, none⟩ (.slice (some ⟨gg, 0, none⟩) (k + 1) cc)) (w.heap.size + 1 + 1) (.string ⟨#[122]⟩) (.int .i64 o) sv' 24 ∧
            Below w.heap.size w (w3.setCell ⟨w.heap.size + 1 + 1, 2, none⟩ (.slice (some ⟨gg, 0, none⟩) (k + 1) cc))) :=
          ⟨k + 1, .slice (some ⟨gg, 0, none⟩) (k + 1) cc, by omega, by go_num, ownsRow_setCell_below hown5 (by show w.heap.size + 1 + 1 < _; omega) _, hb0.far (by show w.heap.size ≠ w.heap.size + 1 + 1; omega), HX3.out.set2, hB.setCell (by show w.heap.size ≤ w.heap.size + 1 + 1; omega) _⟩
        clear hB hb0 hown5 hown4 hgrow3 hat3 hlt3 e3 f3 hne HX3
        go_wp2_with fail
        go_roundw
        case rel => exact R.out
        case measure => simp [intOf]; omega
    · obtain rfl : k = cntD (n % 65536) := by omega
      obtain ⟨a, cap, rfl, _, _, _⟩ := own_shifts hown (drawL_length _ _)
      have hs := hbel.size
      have hsz := hx2.lt
      have e0 := hx2.c0
      have e1 := hx2.c1
      have e2 := hx2.c2
      have g0 := hx0.free 0
      have g1 := hx0.free 1
      have g2 := hx0.free 2
      have d0 := hx0.c0
      have d1 := hx0.c1
      have d2 := hx0.c2
      have HO := Lib.hid hown
      clear hown hx0 hx2 hp
      go_wp2_with fail
      exact bodyPost_ret (v := .agg #[.string ⟨#[122]⟩, .int .i64 o, .slice a (cntD (n % 65536)) cap]) (by simp [results, Try.results11, go_sem, d0, d1, d2]) rfl
        ⟨_, rfl, own_mono (ownsRow_setCell_below (ownsRow_setCell_below (ownsRow_setCell_below HO.out (by show w.heap.size < _; omega) _) (by show w.heap.size < _; omega) _) (by show w.heap.size < _; omega) _) (by omega),
          ((hbel.setCell (Nat.le_refl _) _).setCell (Nat.le_refl _) _).setCell (Nat.le_refl _) _⟩

end Go.Proofs.Ytfknoclmpdnkdaa
