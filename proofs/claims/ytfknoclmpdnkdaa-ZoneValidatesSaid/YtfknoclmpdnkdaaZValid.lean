/-
  The law ZoneValidates: walk.
-/
import Derived.Test.YtfknoclmpdnkdaaZLaws
import Derived.Deep.RegionHeld3
set_option linter.unusedVariables false
namespace Wh

end Wh
namespace Go.Proofs.Ytfknoclmpdnkdaa
open Go.RowKit Wh

/-- Two boxes. -/
theorem keepTwo {W0 W w' : World} {B0 B1 B2 : Nat} {a0 a1 a2 b0 b1 b2 : Value}
    (h : W.cell? ⟨B1, 0, none⟩ = some a0 ∧ W.cell? ⟨B1, 1, none⟩ = some a1 ∧ W.cell? ⟨B1, 2, none⟩ = some a2 ∧ W.cell? ⟨B2, 0, none⟩ = some b0 ∧ W.cell? ⟨B2, 1, none⟩ = some b1 ∧ W.cell? ⟨B2, 2, none⟩ = some b2 ∧
      B1 < W.heap.size ∧ B2 < W.heap.size ∧ B0 ≤ W.heap.size ∧ Below B0 W0 W)
    (hb : Below W.heap.size W w') :
    w'.cell? ⟨B1, 0, none⟩ = some a0 ∧ w'.cell? ⟨B1, 1, none⟩ = some a1 ∧ w'.cell? ⟨B1, 2, none⟩ = some a2 ∧ w'.cell? ⟨B2, 0, none⟩ = some b0 ∧ w'.cell? ⟨B2, 1, none⟩ = some b1 ∧ w'.cell? ⟨B2, 2, none⟩ = some b2 ∧
      B1 < w'.heap.size ∧ B2 < w'.heap.size ∧ B0 ≤ w'.heap.size ∧ Below B0 W0 w' := by
  obtain ⟨h0, h1, h2, h3, h4, h5, h6, h7, h8, h9⟩ := h
  have hc := (bcell hb).1
  have hs := hb.size
  refine ⟨?_, ?_, ?_, ?_, ?_, ?_, by omega, by omega, by omega, h9.trans (hb.mono (by omega))⟩ <;> (rw [hc _ _ (by omega)]; assumption)

theorem flatS_set (l : List (Int × Int)) (k : Nat) (s : Int × Int) (x : Int) (h : l[k]? = some s) : (flatS l).set (k * 2) (.int .i64 x) = flatS (l.set k (x, s.2)) := by
  unfold flatS
  induction l generalizing k with
  | nil => simp at h
  | cons u l ih =>
    cases k with
    | zero => simp at h; subst h; simp
    | succ k =>
      simp only [List.getElem?_cons_succ] at h
      have := ih k h
      rw [show (k + 1) * 2 = k * 2 + 1 + 1 from by omega]
      simpa [List.flatMap_cons] using this

theorem validates_walk (w : World) (nm : ByteArray) (o : Int) (a : Option Addr) (len cap : Nat) (l : List (Int × Int)) (hs : IsShifts w a len l) (hl : len ≤ cap) (hm : cap ≤ maxLen)
    (n : Int) (_ : -9223372036854775808 ≤ n) (_ : n ≤ 9223372036854775807) (at_ : Int) (_ : -9223372036854775808 ≤ at_) (_ : at_ ≤ 9223372036854775807) :
    Calls Try.prog 3 #[zoneV nm o a len cap, .int .i64 n, .int .i64 at_] w fun e w' => e = .returned (.bool true) ∧ Below w.heap.size w w' := by
  have hB0 : ∀ o, Below w.heap.size w (w.alloc o) := fun o => (Below.refl _ _).alloc (Nat.le_refl _) o
  by_cases h200 : 200 < len
  · clear hs hl hm
    go_enter Try.func3, Try.ntmps3
    go_wp2_with (go_at_call 10; refine (known_any _).mono ?_; rintro e w' ⟨rfl, hb⟩)
    go_ret
    exact ⟨rfl, (hB0 _).trans (hb.mono (by simp))⟩
  · have b7 := and_7
    have hc3 : cntD (n % 65536) ≤ 3 := by unfold cntD; omega
    have c0 := fun W => zone_any n W
    have hb0 : ∀ (j : Nat) (s : Int × Int), (drawL (n % 65536) (cntD (n % 65536)))[j]? = some s → 0 ≤ s.1 ∧ s.1 ≤ 200000 := fun j s hj => by
      have hmem := List.mem_of_getElem? hj
      simp only [drawL, List.mem_map, List.mem_range] at hmem
      obtain ⟨i, hi, rfl⟩ := hmem
      have := shiftZ_bd (n % 65536) i (by omega)
      omega
    have hln : (drawL (n % 65536) (cntD (n % 65536))).length = cntD (n % 65536) := drawL_length _ _
    generalize drawL (n % 65536) (cntD (n % 65536)) = l2 at *
    generalize drawO (n % 65536) = o2 at *
    generalize cntD (n % 65536) = k2 at *
    have HS := Lib.hid hs
    have HLN := Lib.hid hln
    have HB0 := Lib.hid hb0
    have C0 := Lib.hid c0
    clear hs hln hb0 c0
    go_enter Try.func3, Try.ntmps3
    go_wp2_with fail
    refine (C0.out _).mono ?_
    rintro e w1 ⟨sv, rfl, hown, hb1⟩
    rw [World.size_alloc] at hb1 hown
    obtain ⟨a2, cap2, rfl, _, hk2, hg2⟩ := own_shifts hown HLN.out
    have hz1 : Box3 w1 w.heap.size (.string nm) (.int .i64 o) (.slice a len cap) 24 := by
      refine ⟨?_⟩
      rw [hb1.block _ (by omega)]
      exact heap_alloc_new w _
    have hbw := (hB0 _).trans (hb1.mono (by omega))
    have hs1 : w.heap.size + 1 ≤ w1.heap.size := by have := hb1.size; simpa using this
    have HO := Lib.hid hown
    have HZ1 := Lib.hid hz1
    have HBW := Lib.hid hbw
    have HG2 := Lib.hid hg2
    clear hb1 hown hz1 hbw hg2
    go_wp2_with fail
    go_loopw [8] (fun iv wr => ∃ (k : Nat) (l' : List (Int × Int)), k ≤ k2 ∧ iv = .int .i64 k ∧ l'.length = k2 ∧ wr.ownsRow (w.heap.size + 1) 28 2 (.slice a2 k2 cap2) k2 (flatS l') ∧
        (∀ (j : Nat) (s : Int × Int), k ≤ j → l'[j]? = some s → 0 ≤ s.1 ∧ s.1 ≤ 200000) ∧
        Box3 wr w.heap.size (.string nm) (.int .i64 o) (.slice a len cap) 24 ∧ Box3 wr w1.heap.size (.string ⟨#[122]⟩) (.int .i64 o2) (.slice a2 k2 cap2) 24 ∧ Below w.heap.size w wr)
      (fun i _ => k2 - (intOf i).toNat)
    case atStart => exact ⟨0, l2, Nat.zero_le _, rfl, HLN.out, HO.out.alloc _, fun j s _ h => HB0.out j s h, HZ1.out.alloc _, ⟨heap_alloc_new w1 _⟩, HBW.out.alloc (by omega) _⟩
    case round =>
      obtain ⟨k, l', hk, rfl, hlen, hown, hbd, hz, hx, hbel⟩ := hrel
      have z0 := hz.c0
      have z1 := hz.c1
      have z2 := hz.c2
      have x0 := hx.c0
      have x1 := hx.c1
      have x2 := hx.c2
      have hxs := hx.lt
      have hbs := hbel.size
      by_cases hlt : k < k2
      · obtain ⟨s, hsk⟩ : ∃ s, l'[k]? = some s := ⟨_, List.getElem?_eq_getElem (by omega)⟩
        obtain ⟨g, rfl, hg0, hg1⟩ : ∃ g, a2 = some ⟨g, 0, none⟩ ∧ w.heap.size + 1 ≤ g ∧ g < w1.heap.size := by
          cases ha : a2 with
          | none =>
            rw [ha] at hown
            rcases hown.2 with ⟨_, h⟩ | ⟨_, _, _, h, _⟩
            · omega
            · cases h
          | some y =>
            obtain ⟨g, rfl, h1, h2⟩ := HG2.out y ha
            exact ⟨g, rfl, h1, h2⟩
        have hc0 : wr.cell? ⟨g, k * 2, none⟩ = some (.int .i64 s.1) := by rw [hown.cellAt (k * 2) (by omega)]; exact (flatS_at l' k s hsk).1
        have hf0 : wr.frozen? ⟨g, k * 2, none⟩ = false := hown.frozenAt _
        obtain ⟨p0, p1⟩ := hbd k s (Nat.le_refl _) hsk
        have hst := fun x => (hown.stored (k * 2) (.int .i64 x))
        have hset := fun x => flatS_set l' k s x hsk
        obtain ⟨s1, s2⟩ := s
        simp only at hc0 p0 p1 hset
        have R : ∀ x, ∃ (k' : Nat) (l'' : List (Int × Int)), k' ≤ k2 ∧ Value.int .i64 ((k : Int) + 1) = .int .i64 k' ∧ l''.length = k2 ∧ (wr.setCell ⟨g, k * 2, none⟩ (.int .i64 x)).ownsRow (w.heap.size + 1) 28 2 (.slice (some ⟨g, 0, none⟩) k2 cap2) k2 (flatS l'') ∧
            (∀ (j : Nat) (s : Int × Int), k' ≤ j → l''[j]? = some s → 0 ≤ s.1 ∧ s.1 ≤ 200000) ∧
            Box3 (wr.setCell ⟨g, k * 2, none⟩ (.int .i64 x)) w.heap.size (.string nm) (.int .i64 o) (.slice a len cap) 24 ∧
            Box3 (wr.setCell ⟨g, k * 2, none⟩ (.int .i64 x)) w1.heap.size (.string ⟨#[122]⟩) (.int .i64 o2) (.slice (some ⟨g, 0, none⟩) k2 cap2) 24 ∧ Below w.heap.size w (wr.setCell ⟨g, k * 2, none⟩ (.int .i64 x)) := fun x => by
          refine ⟨k + 1, l'.set k (x, s2), by omega, by go_num, by simpa using hlen, by rw [← hset]; exact (hst x).1, fun j s hj h => ?_, hz.far (by show w.heap.size ≠ g; omega), hx.far (by show w1.heap.size ≠ g; omega), hbel.setCell (by show w.heap.size ≤ g; omega) _⟩
          rw [List.getElem?_set_ne (by omega)] at h
          exact hbd j s (by omega) h
        have HR := Lib.hid R
        clear R hst hset hown hz hx hbd
        go_wp2_with fail
        go_roundw
        case rel => exact HR.out _
        case measure => simp [intOf]; omega
      · obtain rfl : k = k2 := by omega
        obtain ⟨a3, cap3, e3, hsx, _, _⟩ := own_shifts hown hlen
        obtain ⟨rfl, rfl⟩ : a3 = a2 ∧ cap3 = cap2 := by cases e3; exact ⟨rfl, rfl⟩
        have hsz := HS.out.below hbel (Nat.le_refl _)
        have v1 := fun W (hb : Below wr.heap.size wr W) => validate_any nm o a len cap l W (hsz.below hb (Nat.le_refl _)) (by omega)
        have v2 := fun W (hb : Below wr.heap.size wr W) => rvalidate_any nm o a len cap l W (hsz.below hb (Nat.le_refl _)) (by omega)
        have v3 := fun W (hb : Below wr.heap.size wr W) => validate_any ⟨#[122]⟩ o2 a3 k cap3 l' W (hsx.below hb (Nat.le_refl _)) (by omega)
        have v4 := fun W (hb : Below wr.heap.size wr W) => rvalidate_any ⟨#[122]⟩ o2 a3 k cap3 l' W (hsx.below hb (Nat.le_refl _)) (by omega)
        generalize zoneE o l = E1 at *
        generalize zoneE o2 l' = E2 at *
        have V1 := Lib.hid v1
        have V2 := Lib.hid v2
        have V3 := Lib.hid v3
        have V4 := Lib.hid v4
        have hzl := hz.lt
        clear v1 v2 v3 v4 hsz hsx hown hbd hz hx e3 HO HLN HB0 HG2 HZ1
        go_wp2_with fail
        have hS0 : wr.drew.cell? ⟨w.heap.size, 0, none⟩ = some (.string nm) ∧ wr.drew.cell? ⟨w.heap.size, 1, none⟩ = some (.int .i64 o) ∧ wr.drew.cell? ⟨w.heap.size, 2, none⟩ = some (.slice a len cap) ∧
            wr.drew.cell? ⟨w1.heap.size, 0, none⟩ = some (.string ⟨#[122]⟩) ∧ wr.drew.cell? ⟨w1.heap.size, 1, none⟩ = some (.int .i64 o2) ∧ wr.drew.cell? ⟨w1.heap.size, 2, none⟩ = some (.slice a3 k cap3) ∧
            w.heap.size < wr.drew.heap.size ∧ w1.heap.size < wr.drew.heap.size ∧ wr.heap.size ≤ wr.drew.heap.size ∧ Below wr.heap.size wr wr.drew := ⟨z0, z1, z2, x0, x1, x2, hzl, hxs, Nat.le_refl _, (Below.refl _ _).drew⟩
        go_region_held3 (fun w' => w'.cell? ⟨w.heap.size, 0, none⟩ = some (.string nm) ∧ w'.cell? ⟨w.heap.size, 1, none⟩ = some (.int .i64 o) ∧ w'.cell? ⟨w.heap.size, 2, none⟩ = some (.slice a len cap) ∧
            w'.cell? ⟨w1.heap.size, 0, none⟩ = some (.string ⟨#[122]⟩) ∧ w'.cell? ⟨w1.heap.size, 1, none⟩ = some (.int .i64 o2) ∧ w'.cell? ⟨w1.heap.size, 2, none⟩ = some (.slice a3 k cap3) ∧
            w.heap.size < w'.heap.size ∧ w1.heap.size < w'.heap.size ∧ wr.heap.size ≤ w'.heap.size ∧ Below wr.heap.size wr w')
          (first | with_reducible exact hS0 | with_reducible exact keepTwo hS0 k1 | with_reducible exact keepTwo (keepTwo hS0 k1) k2 | with_reducible exact keepTwo (keepTwo (keepTwo hS0 k1) k2) k3 | with_reducible exact keepTwo (keepTwo (keepTwo (keepTwo hS0 k1) k2) k3) k4 | with_reducible exact keepTwo (keepTwo (keepTwo (keepTwo (keepTwo hS0 k1) k2) k3) k4) k5)
          (first | (go_at_call_of 12 (Value.string nm); refine (V1.out _ (by go_split_ands; assumption)).mono ?_; rintro e w' ⟨rfl, k1⟩) | (go_at_call_of 13 (Value.string nm); refine (V2.out _ (by go_split_ands; assumption)).mono ?_; rintro e w' ⟨rfl, k2⟩) | (go_at_call_of 12 (Value.int .i64 o2); refine (V3.out _ (by go_split_ands; assumption)).mono ?_; rintro e w' ⟨rfl, k3⟩) | (go_at_call_of 13 (Value.int .i64 o2); refine (V4.out _ (by go_split_ands; assumption)).mono ?_; rintro e w' ⟨rfl, k4⟩) | (go_at_call 10; refine (known_any _).mono ?_; rintro e w' ⟨rfl, k5⟩))
        all_goals
          have hF := ‹_ ∧ _›
          have hF2 := hbel.trans (hF.2.2.2.2.2.2.2.2.2.mono hbs)
          clear hF
          go_wp2_with fail
          go_ret
          exact ⟨rfl, hF2⟩

end Go.Proofs.Ytfknoclmpdnkdaa
