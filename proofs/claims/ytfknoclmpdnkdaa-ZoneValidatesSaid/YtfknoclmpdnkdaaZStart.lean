/-
  The first instant of a day, of zone and of its reference.
-/
import Derived.Test.YtfknoclmpdnkdaaZRDay
set_option linter.unusedVariables false
namespace Wh

/-- The first instant whose day is at least d. -/
def StartZ (o : Int) (l : List (Int × Int)) (d : Int) (s : Nat) : Prop := FirstZ (dayZn o l) d 576000000 s

theorem startZ_is (o : Int) (l : List (Int × Int)) (d : Int) : ∃ s, StartZ o l d s := firstZ_is _ _ _

theorem StartZ.le {o : Int} {l : List (Int × Int)} {d : Int} {s : Nat} (h : StartZ o l d s) : s ≤ 576000000 := h.1

theorem StartZ.iff {o : Int} {l : List (Int × Int)} (hz : OkZ o l) {d : Int} {s : Nat} (h : StartZ o l d s) {t : Nat} (ht : t < 576000000) : d ≤ dayZn o l t ↔ s ≤ t :=
  FirstZ.le_iff h (fun a b hab => dayZn_mono o l (fun s hs => (hz.at_ s hs).1) (by omega) (by omega)) ht

end Wh
namespace Go.Proofs.Ytfknoclmpdnkdaa
open Go.RowKit Wh

/-- The boxes of a zone and of a number, while callees make new memory. -/
theorem keepPair {W w' : World} {B1 B2 : Nat} {v0 v1 v2 x : Value}
    (h : W.cell? ⟨B1, 0, none⟩ = some v0 ∧ W.cell? ⟨B1, 1, none⟩ = some v1 ∧ W.cell? ⟨B1, 2, none⟩ = some v2 ∧ W.cell? ⟨B2, 0, none⟩ = some x) (h1 : B1 < W.heap.size) (h2 : B2 < W.heap.size) (hb : Below W.heap.size W w') :
    w'.cell? ⟨B1, 0, none⟩ = some v0 ∧ w'.cell? ⟨B1, 1, none⟩ = some v1 ∧ w'.cell? ⟨B1, 2, none⟩ = some v2 ∧ w'.cell? ⟨B2, 0, none⟩ = some x := by
  obtain ⟨c0, c1, c2, c3⟩ := h
  have hc := (bcell hb).1
  refine ⟨?_, ?_, ?_, ?_⟩ <;> (rw [hc _ _ (by omega)]; assumption)

theorem two_boxes (w : World) (v0 v1 v2 x : Value) (t u : TypeId) {W0 : World} (hW0 : W0 = (w.alloc (.cells #[v0, v1, v2] t)).alloc (.cells #[x] u)) :
    W0.heap.size = w.heap.size + 1 + 1 ∧ Below w.heap.size w W0 ∧ W0.cell? ⟨w.heap.size, 0, none⟩ = some v0 ∧ W0.cell? ⟨w.heap.size, 1, none⟩ = some v1 ∧ W0.cell? ⟨w.heap.size, 2, none⟩ = some v2 ∧ W0.cell? ⟨w.heap.size + 1, 0, none⟩ = some x := by
  have e0 : W0.heap[w.heap.size]? = some (.cells #[v0, v1, v2] t) := by
    rw [hW0, Below.heap_alloc _ _ _ (by simp)]
    exact heap_alloc_new w _
  have e1 : W0.heap[w.heap.size + 1]? = some (.cells #[x] u) := by
    have := heap_alloc_new (w.alloc (.cells #[v0, v1, v2] t)) (.cells #[x] u)
    rw [World.size_alloc] at this
    rw [hW0]
    exact this
  exact ⟨by rw [hW0]; simp, by rw [hW0]; exact ((Below.refl _ w).alloc (Nat.le_refl _) _).alloc (by simp) _, cell_of_row _ _ 0 _ _ _ e0, cell_of_row _ _ 1 _ _ _ e0, cell_of_row _ _ 2 _ _ _ e0, cell_of_row _ _ 0 _ _ _ e1⟩

/-- The function that the search is given: is the day of the instant i at least d? -/
theorem reached_any (bz bd : Nat) (nm : ByteArray) (o : Int) (a : Option Addr) (len cap : Nat) (l : List (Int × Int)) (d : Int) (i : Nat) (W : World) (hz : OkZ o l) (hi : i < 576000000)
    (h : W.cell? ⟨bz, 0, none⟩ = some (.string nm) ∧ W.cell? ⟨bz, 1, none⟩ = some (.int .i64 o) ∧ W.cell? ⟨bz, 2, none⟩ = some (.slice a len cap) ∧ W.cell? ⟨bd, 0, none⟩ = some (.int .i64 d)) (h1 : bz < W.heap.size) (h2 : bd < W.heap.size) (hs : IsShifts W a len l) :
    Calls Try.prog 37 (#[.int .i64 i] ++ #[.pointer (some ⟨bz, 0, none⟩), .pointer (some ⟨bd, 0, none⟩)]) W fun e w' => e = .returned (.bool (decide (d ≤ dayZn o l i))) ∧ Below W.heap.size W w' := by
  have cx := fun W' (hb : Below W.heap.size W W') => dayAt_any nm o a len cap l i W' (hs.below hb (Nat.le_refl _)) hz (by omega) (by omega)
  generalize dayZn o l i = D at *
  have CX := Lib.hid cx
  have hS0 : W.drew.cell? ⟨bz, 0, none⟩ = some (.string nm) ∧ W.drew.cell? ⟨bz, 1, none⟩ = some (.int .i64 o) ∧ W.drew.cell? ⟨bz, 2, none⟩ = some (.slice a len cap) ∧ W.drew.cell? ⟨bd, 0, none⟩ = some (.int .i64 d) := h
  have hB : Below W.heap.size W W.drew := (Below.refl _ _).drew
  have hk : ∀ w', Below W.drew.heap.size W.drew w' → w'.cell? ⟨bz, 0, none⟩ = some (.string nm) ∧ w'.cell? ⟨bz, 1, none⟩ = some (.int .i64 o) ∧ w'.cell? ⟨bz, 2, none⟩ = some (.slice a len cap) ∧ w'.cell? ⟨bd, 0, none⟩ = some (.int .i64 d) :=
    fun w' hb => keepPair hS0 h1 h2 hb
  clear cx h hs hz h1 h2
  go_enter Try.func37, Try.ntmps37
  go_wp2_with fail
  go_region_held3 (fun w' => w'.cell? ⟨bz, 0, none⟩ = some (.string nm) ∧ w'.cell? ⟨bz, 1, none⟩ = some (.int .i64 o) ∧ w'.cell? ⟨bz, 2, none⟩ = some (.slice a len cap) ∧ w'.cell? ⟨bd, 0, none⟩ = some (.int .i64 d))
    (first | with_reducible exact hS0 | with_reducible exact hk _ hcall)
    (first | (go_at_call 29; refine (CX.out _ hB).mono ?_; rintro e w' ⟨rfl, hcall⟩))
  all_goals
    go_wp2_with fail
    go_ret
    exact ⟨rfl, hB.trans hcall⟩

theorem startOf_any (nm : ByteArray) (o : Int) (a : Option Addr) (len cap : Nat) (l : List (Int × Int)) (d : Int) (s : Nat) (w : World) (hs : IsShifts w a len l) (hz : OkZ o l) (hd : StartZ o l d s) :
    Calls Try.prog 31 #[zoneV nm o a len cap, .int .i64 d] w fun e w' => e = .returned (.int .i64 s) ∧ Below w.heap.size w w' := by
  obtain ⟨W0, hW0⟩ : ∃ W0, W0 = (w.alloc (.cells #[.string nm, .int .i64 o, .slice a len cap] 24)).alloc (.cells #[.int .i64 d] 3) := ⟨_, rfl⟩
  obtain ⟨hsz, hB0, c0, c1, c2, c3⟩ := two_boxes w _ _ _ _ _ _ hW0
  have eg : ∀ args W, (callFunc 37 args).run Try.prog W = .ok (.enter 37 args) W := Go.Proofs.enters_of Try.func37 (by kernel_rfl) rfl
  have hS := search_any 37 #[.pointer (some ⟨w.heap.size, 0, none⟩), .pointer (some ⟨w.heap.size + 1, 0, none⟩)] 576000000 s (fun i => decide (s ≤ i)) W0 eg (by omega)
    (fun W i hb hi => by
      have := reached_any w.heap.size (w.heap.size + 1) nm o a len cap l d i W hz hi (keepPair ⟨c0, c1, c2, c3⟩ (by omega) (by omega) hb) (by have := hb.size; omega) (by have := hb.size; omega)
        ((hs.below hB0 (Nat.le_refl _)).below hb (Nat.le_refl _))
      rw [decide_eq_decide.2 (hd.iff hz hi)] at this
      exact this)
    hd.le (fun i _ => by simp)
  have H := Lib.hid hS
  clear hd c0 c1 c2 c3 eg hS hz hs
  go_enter Try.func31, Try.ntmps31
  go_wp2_with (go_at_call 33; rw [← hW0]; refine H.out.mono ?_; rintro e w' ⟨rfl, hb⟩)
  go_ret
  exact ⟨rfl, hB0.trans (hb.mono (by omega))⟩

theorem rstart_any (nm : ByteArray) (o : Int) (a : Option Addr) (len cap : Nat) (l : List (Int × Int)) (d : Int) (s : Nat) (w : World) (hs : IsShifts w a len l) (hz : OkZ o l) (hd : StartZ o l d s) :
    Calls Try.prog 32 #[zoneV nm o a len cap, .int .i64 d] w fun e w' => e = .returned (.int .i64 s) ∧ Below w.heap.size w w' := by
  have cx := fun W (hb : Below w.heap.size w W) (m : Nat) (hm : m < 576000000) => rday_any nm o a len cap l m W (hs.below hb (Nat.le_refl _)) hz (by omega) (by omega)
  have HI : Hid (∀ t : Nat, t < 576000000 → (d ≤ dayZn o l t ↔ s ≤ t)) := fun t ht => hd.iff hz ht
  have hsn := hd.le
  have CX := Lib.hid cx
  clear cx hs hz hd
  go_enter Try.func32, Try.ntmps32
  go_wp2_with fail
  go_loopw [5, 6] (fun lv hv wr => ∃ lo hi : Nat, lv = .int .i64 lo ∧ hv = .int .i64 hi ∧ lo ≤ s ∧ s ≤ hi ∧ hi ≤ 576000000 ∧
      Below (w.heap.size + 1) (w.alloc (.cells #[.string nm, .int .i64 o, .slice a len cap] 24)) wr) (fun lv hv _ => (intOf hv - intOf lv).toNat)
  case atStart => exact ⟨0, 576000000, rfl, rfl, Nat.zero_le _, hsn, Nat.le_refl _, Below.refl _ _⟩
  case round =>
    obtain ⟨lo, hi, rfl, rfl, h1, h2, h3, hbel⟩ := hrel
    obtain ⟨z0, z1, z2, hsz, hbw⟩ := box_cells hbel
    have HB := Lib.hid hbel
    clear hbel
    by_cases hlt : lo < hi
    · have hq := HI.out ((lo + hi) / 2) (by omega)
      have cm := CX.out wr hbw ((lo + hi) / 2) (by omega)
      rw [show (((lo + hi) / 2 : Nat) : Int) = ((lo : Int) + (hi : Int)) / 2 by omega] at hq cm
      generalize dayZn o l (((lo : Int) + (hi : Int)) / 2) = D at *
      have CM := Lib.hid cm
      have HQ := Lib.hid hq
      clear cm hq
      by_cases hd : d ≤ D
      · have hq2 := HQ.out.1 hd
        go_wp2_with (go_at_call 30; refine CM.out.mono ?_; rintro e w' ⟨rfl, hb⟩)
        go_roundw
        case rel => exact ⟨lo, (lo + hi) / 2, rfl, by rw [show ((lo : Int) + (hi : Int)) / 2 = (((lo + hi) / 2 : Nat) : Int) by omega], h1, hq2, by omega, HB.out.trans (hb.mono hsz)⟩
        case measure => simp [intOf]; omega
      · have hq2 : (lo + hi) / 2 + 1 ≤ s := by
          by_cases h : s ≤ (lo + hi) / 2
          · exact absurd (HQ.out.2 h) hd
          · omega
        go_wp2_with (go_at_call 30; refine CM.out.mono ?_; rintro e w' ⟨rfl, hb⟩)
        go_roundw
        case rel => exact ⟨(lo + hi) / 2 + 1, hi, by rw [show ((lo : Int) + (hi : Int)) / 2 + 1 = (((lo + hi) / 2 + 1 : Nat) : Int) by omega], rfl, hq2, h2, h3, HB.out.trans (hb.mono hsz)⟩
        case measure => simp [intOf]; omega
    · obtain rfl : hi = lo := by omega
      obtain rfl : s = hi := by omega
      go_wp2_with fail
      go_ret
      exact ⟨rfl, hbw⟩

end Go.Proofs.Ytfknoclmpdnkdaa
