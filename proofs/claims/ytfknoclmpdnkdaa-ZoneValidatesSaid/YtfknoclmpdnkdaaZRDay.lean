/-
  The day of an instant, of the reference.
-/
import Derived.Test.YtfknoclmpdnkdaaZDay
import Derived.Deep.RegionHeld3
set_option linter.unusedVariables false
namespace Wh

def dfold (o : Int) (l : List (Int × Int)) (t : Int) (m : List (Int × Int)) : Int := m.foldl (fun d s => if s.1 ≤ t then max d (locZ o l (s.1 - 1)) else d) (max 0 (locZ o l t))

theorem dfold_all (o : Int) (l : List (Int × Int)) (t : Int) : dfold o l t l = dayZn o l t := rfl

theorem dfold_next {m : List (Int × Int)} {k : Nat} {s : Int × Int} (h : m[k]? = some s) (o : Int) (l : List (Int × Int)) (t : Int) :
    dfold o l t (m.take (k + 1)) = if s.1 ≤ t then max (dfold o l t (m.take k)) (locZ o l (s.1 - 1)) else dfold o l t (m.take k) := by
  unfold dfold
  rw [List.take_add_one, h]
  simp [List.foldl_append]

end Wh
namespace Go.Proofs.Ytfknoclmpdnkdaa
open Go.RowKit Wh

theorem rlocal_any (nm : ByteArray) (o : Int) (a : Option Addr) (len cap : Nat) (l : List (Int × Int)) (t : Int) (w : World) (hs : IsShifts w a len l) (hz : OkZ o l) (ht0 : -1 ≤ t) (ht1 : t ≤ 575999999) :
    Calls Try.prog 36 #[zoneV nm o a len cap, .int .i64 t] w fun e w' => e = .returned (.int .i64 (locZ o l t)) ∧ Below w.heap.size w w' := by
  have hob := offZ_bd l o t (fun s h => (hz.at_ s h).2.2) hz.o0 hz.o1
  have c1 := fun W (h : IsShifts W a len l) => roffset_any nm o a len cap l t W h (by have := hz.len; have := hs.1; omega)
  have HS := Lib.hid hs
  have he : locZ o l t = (t + offZ o l t) / 1440 := rfl
  generalize locZ o l t = L at *
  generalize offZ o l t = q at *
  have c2 := fun W => floor_any (t + q) (by omega) (by omega) W
  rw [← he] at c2
  have C1 := Lib.hid c1
  have C2 := Lib.hid c2
  clear c1 c2 he hs hz
  have hB0 : ∀ o, Below w.heap.size w (w.alloc o) := fun o => (Below.refl _ _).alloc (Nat.le_refl _) o
  go_enter Try.func36, Try.ntmps36
  go_wp2_with (first | (go_at_call 28; refine (C1.out _ (HS.out.below (hB0 _) (Nat.le_refl _))).mono ?_; rintro e w' ⟨rfl, hb⟩) | (go_at_call 38; refine (C2.out _).mono ?_; rintro e w' ⟨rfl, rfl⟩))
  go_ret
  exact ⟨rfl, (hB0 _).trans (hb.mono (by simp))⟩

/-- The box of a zone, and a shift, while callees make new memory. -/
theorem keepDay {W0 W w' : World} {B b j : Nat} {v0 v1 v2 x : Value} (hbB : b < B)
    (h : W.cell? ⟨B, 0, none⟩ = some v0 ∧ W.cell? ⟨B, 1, none⟩ = some v1 ∧ W.cell? ⟨B, 2, none⟩ = some v2 ∧ W.cell? ⟨b, j, none⟩ = some x ∧ B + 1 ≤ W.heap.size ∧ Below (B + 1) W0 W) (hb : Below W.heap.size W w') :
    w'.cell? ⟨B, 0, none⟩ = some v0 ∧ w'.cell? ⟨B, 1, none⟩ = some v1 ∧ w'.cell? ⟨B, 2, none⟩ = some v2 ∧ w'.cell? ⟨b, j, none⟩ = some x ∧ B + 1 ≤ w'.heap.size ∧ Below (B + 1) W0 w' := by
  obtain ⟨h0, h1, h2, h3, h4, h5⟩ := h
  have hc := (bcell hb).1
  have hs := hb.size
  refine ⟨?_, ?_, ?_, ?_, by omega, h5.trans (hb.mono h4)⟩ <;> (rw [hc _ _ (by omega)]; assumption)

theorem rday_any (nm : ByteArray) (o : Int) (a : Option Addr) (len cap : Nat) (l : List (Int × Int)) (t : Int) (w : World) (hs : IsShifts w a len l) (hz : OkZ o l) (ht0 : 0 ≤ t) (ht1 : t ≤ 575999999) :
    Calls Try.prog 30 #[zoneV nm o a len cap, .int .i64 t] w fun e w' => e = .returned (.int .i64 (dayZn o l t)) ∧ Below w.heap.size w w' := by
  have HS := Lib.hid hs
  have hlen := hs.1
  have hl64 := hz.len
  have HZ := Lib.hid hz
  have hl : len ≤ 64 := by omega
  have HL := Lib.hid hlen
  have hd := dfold_all o l t
  have h00 : dfold o l t (l.take 0) = max 0 (locZ o l t) := rfl
  have c1 := fun W (h : IsShifts W a len l) => rlocal_any nm o a len cap l t W h hz (by omega) ht1
  have C1 := Lib.hid c1
  generalize hD : dayZn o l t = D at *
  have HD := Lib.hid hd
  have H0 := Lib.hid h00
  clear hs hz hd hlen hl64 hD c1 h00
  generalize locZ o l t = x0 at *
  have hB0 : ∀ o, Below w.heap.size w (w.alloc o) := fun o => (Below.refl _ _).alloc (Nat.le_refl _) o
  go_enter Try.func30, Try.ntmps30
  go_wp2_with (first | (go_at_call 36; refine (C1.out _ (HS.out.below (hB0 _) (Nat.le_refl _))).mono ?_; rintro e w' ⟨rfl, hb⟩))
  all_goals
    go_loopw [5, 6] (fun dv iv wr => ∃ k : Nat, k ≤ len ∧ iv = .int .i64 k ∧ dv = .int .i64 (dfold o l t (l.take k)) ∧
        Below (w.heap.size + 1) (w.alloc (.cells #[.string nm, .int .i64 o, .slice a len cap] 24)) wr) (fun _ i _ => len - (intOf i).toNat)
    case atStart => exact ⟨0, Nat.zero_le _, rfl, by rw [H0.out]; congr 1; omega, (by simpa using hb)⟩
    case round =>
      obtain ⟨k, hk, rfl, rfl, hbel⟩ := hrel
      obtain ⟨z0, z1, z2, hsz, hbw⟩ := box_cells hbel
      have HB := Lib.hid hbel
      clear hbel
      by_cases hlt : k < len
      · obtain ⟨s, b, off, hx, rfl, hbl, hc0, hc1⟩ := (HS.out.below hbw (Nat.le_refl _)).at hlt
        have hbl0 : b < w.heap.size := by
          rcases HS.out.2 with h | ⟨b', off', h, hlt', _⟩
          · rw [h] at hx; simp at hx
          · cases h; exact hlt'
        have hat := HZ.out.at_ s (List.mem_of_getElem? hx)
        have hn := dfold_next hx o l t
        obtain ⟨s1, s2⟩ := s
        simp only at hc0 hc1 hn hat
        obtain ⟨a0, a1, a2, a3⟩ := hat
        generalize dfold o l t (l.take k) = d at *
        generalize hd1 : dfold o l t (l.take (k + 1)) = d1 at *
        have HD1 := Lib.hid hd1
        have HN := Lib.hid hn
        clear hx hn C1 hd1
        by_cases hst : s1 ≤ t
        · have HR : Hid (d1 = max d (locZ o l (s1 - 1))) := by show _ = _; rw [HN.out, if_pos hst]
          have cx := fun W (h : Below (w.heap.size + 1) (w.alloc (.cells #[.string nm, .int .i64 o, .slice (some ⟨b, off, none⟩) len cap] 24)) W) =>
            rlocal_any nm o (some ⟨b, off, none⟩) len cap l (s1 - 1) W (HS.out.below (box_cells h).2.2.2.2 (Nat.le_refl _)) HZ.out (by omega) (by omega)
          clear HN
          generalize locZ o l (s1 - 1) = x at *
          have CX := Lib.hid cx
          clear cx
          have hS0 : wr.drew.cell? ⟨w.heap.size, 0, none⟩ = some (.string nm) ∧ wr.drew.cell? ⟨w.heap.size, 1, none⟩ = some (.int .i64 o) ∧ wr.drew.cell? ⟨w.heap.size, 2, none⟩ = some (.slice (some ⟨b, off, none⟩) len cap) ∧
              wr.drew.cell? ⟨b, off + k * 2, none⟩ = some (.int .i64 s1) ∧ w.heap.size + 1 ≤ wr.drew.heap.size ∧ Below (w.heap.size + 1) (w.alloc (.cells #[.string nm, .int .i64 o, .slice (some ⟨b, off, none⟩) len cap] 24)) wr.drew :=
            ⟨z0, z1, z2, hc0, hsz, HB.out.drew⟩
          have hw : IntKind.i64.wrap (s1 - 1) = s1 - 1 := by rw [IntKind.wrap_i64]; omega
          go_wp2_with fail
          go_region_held3 (fun w' => w'.cell? ⟨w.heap.size, 0, none⟩ = some (.string nm) ∧ w'.cell? ⟨w.heap.size, 1, none⟩ = some (.int .i64 o) ∧ w'.cell? ⟨w.heap.size, 2, none⟩ = some (.slice (some ⟨b, off, none⟩) len cap) ∧
              w'.cell? ⟨b, off + k * 2, none⟩ = some (.int .i64 s1) ∧ w.heap.size + 1 ≤ w'.heap.size ∧ Below (w.heap.size + 1) (w.alloc (.cells #[.string nm, .int .i64 o, .slice (some ⟨b, off, none⟩) len cap] 24)) w')
            (first | with_reducible exact hS0 | with_reducible exact keepDay hbl0 hS0 hcall)
            (first | (go_at_call 36; refine (CX.out _ (by go_split_ands; assumption)).mono ?_; rintro e w' ⟨rfl, hcall⟩))
          all_goals
            have hF := (keepDay hbl0 hS0 hcall).2.2.2.2.2
            go_wp2_with fail
            go_roundw
            case rel => exact ⟨k + 1, by omega, by go_num, by rw [HD1.out, HR.out]; congr 1; omega, hF⟩
            case measure => simp [intOf]; omega
        · have HR : Hid (d1 = d) := by show _ = _; rw [HN.out, if_neg hst]
          clear HN
          go_wp2_with fail
          go_roundw
          case rel => exact ⟨k + 1, by omega, by go_num, by rw [HD1.out, HR.out], HB.out⟩
          case measure => simp [intOf]; omega
      · have HR : Hid (dfold o l t (l.take k) = D) := by
          show _ = _
          rw [← HD.out, List.take_of_length_le (by have := HL.out; omega)]
        generalize dfold o l t (l.take k) = d at *
        obtain rfl : k = len := by omega
        go_wp2_with fail
        go_ret
        exact ⟨ret_int HR.out, hbw⟩

end Go.Proofs.Ytfknoclmpdnkdaa
