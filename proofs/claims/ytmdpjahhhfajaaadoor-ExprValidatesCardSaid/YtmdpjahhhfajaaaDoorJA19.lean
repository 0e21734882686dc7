/-
  Zones, plainly: which are valid, the offset, the day, the first instan · Zones in memory; the small functions: isOffset, within, localDay, Floo · Validate, of zone and of its reference. · Validate of the reference. · Index and Validate, of schema and of its reference.
-/
import Derived.Test.YtmdpjahhhfajaaaDoorRows
import Derived.Test.YtmdpjahhhfajaaaDoorJA01
import Derived.WalkLawsBesides
import Derived.WalkSpells
import Derived.Outline
import Derived.BigQuiet
import Derived.Below
import Derived.IntWalk
import Derived.Lib.Hide
import Derived.LoopTactic
import Derived.Test.YtmdpjahhhfajaaaDoorJA13
import Derived.Test.YtmdpjahhhfajaaaDoorJA03
set_option linter.unusedVariables false
namespace Wh
def goE (b : Int) : List (Int × Int) → Int
  | [] => 0
  | s :: l => if s.1 < 1 ∨ 575999999 < s.1 ∨ s.2 < -840 ∨ 840 < s.2 then 1 else if s.1 ≤ b then 14 else goE s.1 l
def zoneE (o : Int) (l : List (Int × Int)) : Int :=
  if 64 < l.length then 2 else if o < -840 ∨ 840 < o then 1 else goE 0 l
end Wh
namespace Go.Proofs.YtmdpjahhhfajaaaDoor
open Go.RowKit Wh
abbrev zoneV (nm : ByteArray) (o : Int) (a : Option Addr) (len cap : Nat) : Value := .agg #[.string nm, .int .i64 o, .slice a len cap]
def IsShifts (w : World) (a : Option Addr) (len : Nat) (l : List (Int × Int)) : Prop :=
  l.length = len ∧ (l = [] ∨ ∃ b off, a = some ⟨b, off, none⟩ ∧ b < w.heap.size ∧ ∀ i s, l[i]? = some s → w.cell? ⟨b, off + i * 2, none⟩ = some (.int .i64 s.1) ∧ w.cell? ⟨b, off + i * 2 + 1, none⟩ = some (.int .i64 s.2))
theorem IsShifts.below {w w' : World} {a : Option Addr} {len B : Nat} {l : List (Int × Int)} (h : IsShifts w a len l) (hb : Below B w w') (hB : w.heap.size ≤ B) : IsShifts w' a len l := by
  obtain ⟨h1, h2⟩ := h
  refine ⟨h1, ?_⟩
  rcases h2 with h2 | ⟨b, off, ha, hlt, hc⟩
  · exact .inl h2
  · have e : ∀ o, w'.cell? ⟨b, o, none⟩ = w.cell? ⟨b, o, none⟩ := fun o => hb.cell (p := ⟨b, o, none⟩) (by show b < B; omega)
    refine .inr ⟨b, off, ha, by have := hb.size; omega, fun i s hs => ?_⟩
    rw [e, e]
    exact hc i s hs
theorem IsShifts.at {w : World} {a : Option Addr} {len : Nat} {l : List (Int × Int)} (h : IsShifts w a len l) {k : Nat} (hk : k < len) :
    ∃ s b off, l[k]? = some s ∧ a = some ⟨b, off, none⟩ ∧ b < w.heap.size ∧ w.cell? ⟨b, off + k * 2, none⟩ = some (.int .i64 s.1) ∧ w.cell? ⟨b, off + k * 2 + 1, none⟩ = some (.int .i64 s.2) := by
  obtain ⟨h1, h2⟩ := h
  obtain ⟨s, hs⟩ : ∃ s, l[k]? = some s := ⟨_, List.getElem?_eq_getElem (by omega)⟩
  rcases h2 with rfl | ⟨b, off, ha, hlt, hc⟩
  · simp at hs
  · exact ⟨s, b, off, hs, ha, hlt, (hc k s hs).1, (hc k s hs).2⟩
def offB (o : Int) : Bool := decide (-840 ≤ o) && decide (o ≤ 840)
theorem within_any (o : Int) (w : World) : Calls Tryd.prog 84 #[.int .i64 o] w fun e w' => e = .returned (.bool (offB o)) ∧ w = w' := by
  go_enter Tryd.func84, Tryd.ntmps84
  go_wp2
  all_goals
    go_ret
    refine ⟨ret_bool ?_, rfl⟩
    simp_all [offB]
    try omega
end Go.Proofs.YtmdpjahhhfajaaaDoor
namespace Wh
theorem goE_next {b : Int} {l : List (Int × Int)} {k : Nat} {s : Int × Int} (h : l[k]? = some s) :
    goE b (l.drop k) = if s.1 < 1 ∨ 575999999 < s.1 ∨ s.2 < -840 ∨ 840 < s.2 then 1 else if s.1 ≤ b then 14 else goE s.1 (l.drop (k + 1)) := by
  have hk := (List.getElem?_eq_some_iff.1 h).1
  rw [List.drop_eq_getElem_cons hk]
  have e : l[k] = s := by rw [List.getElem?_eq_getElem hk] at h; exact Option.some.inj h
  rw [e]
  rfl
end Wh
namespace Go.Proofs.YtmdpjahhhfajaaaDoor
open Go.RowKit Wh
theorem offB_true {o : Int} (h0 : -840 ≤ o) (h1 : o ≤ 840) : offB o = true := by simp [offB, h0, h1]
theorem offB_false {o : Int} (h : o < -840 ∨ 840 < o) : offB o = false := by
  unfold offB
  rcases h with h | h
  · rw [decide_eq_false (by omega)]; rfl
  · rw [decide_eq_false (p := o ≤ 840) (by omega), Bool.and_false]
end Go.Proofs.YtmdpjahhhfajaaaDoor
namespace Go.Proofs.YtmdpjahhhfajaaaDoor
open Go.RowKit Wh
theorem rvalidate_any (nm : ByteArray) (o : Int) (a : Option Addr) (len cap : Nat) (l : List (Int × Int)) (w : World) (hs : IsShifts w a len l) (hl : len ≤ 9223372036854775807) :
    Calls Tryd.prog 71 #[zoneV nm o a len cap] w fun e w' => e = .returned (.int .i64 (zoneE o l)) ∧ Below w.heap.size w w' := by
  have hlen := hs.1
  by_cases h64 : 64 < len
  · have he : zoneE o l = 2 := by unfold zoneE; rw [if_pos (by omega)]
    rw [he]
    clear he hlen hs
    go_enter Tryd.func71, Tryd.ntmps71
    go_wp2_with fail
    go_ret
    exact ⟨rfl, (Below.refl _ _).alloc (Nat.le_refl _) _⟩
  by_cases ho : o < -840 ∨ 840 < o
  · have he : zoneE o l = 1 := by unfold zoneE; rw [if_neg (by omega), if_pos ho]
    rw [he]
    have hb := offB_false ho
    clear he hlen hs ho
    go_enter Tryd.func71, Tryd.ntmps71
    go_wp2_with (go_at_call 84; refine (within_any _ _).mono ?_; rintro e w' ⟨rfl, rfl⟩)
    go_ret
    exact ⟨rfl, (Below.refl _ _).alloc (Nat.le_refl _) _⟩
  · have he : zoneE o l = goE 0 l := by unfold zoneE; rw [if_neg (by omega), if_neg ho]
    rw [he]
    have hb := offB_true (o := o) (by omega) (by omega)
    generalize hE : goE 0 l = E
    have HE := Lib.hid hE
    have HS := Lib.hid hs
    have HL := Lib.hid hlen
    clear he hlen hs ho hE
    go_enter Tryd.func71, Tryd.ntmps71
    go_wp2_with (go_at_call 84; refine (within_any _ _).mono ?_; rintro e w' ⟨rfl, rfl⟩)
    clear hb
    go_loopw [3] (fun iv wr => ∃ (k : Nat) (b : Int), k ≤ len ∧ iv = .int .i64 k ∧ goE b (l.drop k) = E ∧ (k = 0 → b = 0) ∧ (∀ j, k = j + 1 → ∃ s, l[j]? = some s ∧ s.1 = b) ∧
        Below (w.heap.size + 1) (w.alloc (.cells #[.string nm, .int .i64 o, .slice a len cap] 94)) wr) (fun i _ => len - (intOf i).toNat)
    case atStart => exact ⟨0, 0, Nat.zero_le _, rfl, HE.out, fun _ => rfl, fun j h => (by omega), Below.refl _ _⟩
    case round =>
      obtain ⟨k, b, hk, rfl, hg, hb0, hb1, hbel⟩ := hrel
      have hbb := hbel
      obtain ⟨z0, z1, z2, hsz, hbw⟩ := box_cells hbel
      have HB := Lib.hid hbel
      clear hbel hbb
      by_cases hlt : k < len
      · obtain ⟨s, bb, off, hx, rfl, hbl, hc0, hc1⟩ := (HS.out.below hbw (Nat.le_refl _)).at hlt
        have hn := goE_next (b := b) hx
        rw [hg] at hn
        obtain ⟨s1, s2⟩ := s
        simp only at hc0 hc1 hn
        have HX := Lib.hid hx
        clear hg hx
        have HN := Lib.hid hn
        clear hn
        by_cases b1 : s1 < 1
        · have HR : Hid (E = 1) := by show _ = _; rw [HN.out, if_pos (.inl b1)]
          clear hb0 hb1
          go_wp2_with fail
          go_ret
          exact ⟨ret_int HR.out.symm, hbw.alloc (by omega) _⟩
        by_cases b2 : 575999999 < s1
        · have HR : Hid (E = 1) := by show _ = _; rw [HN.out, if_pos (.inr (.inl b2))]
          clear hb0 hb1
          go_wp2_with fail
          go_ret
          exact ⟨ret_int HR.out.symm, hbw.alloc (by omega) _⟩
        by_cases b3 : s2 < -840 ∨ 840 < s2
        · have HR : Hid (E = 1) := by show _ = _; rw [HN.out, if_pos (.inr (.inr b3))]
          have hb := offB_false b3
          clear b3 hb0 hb1
          go_wp2_with (go_at_call 84; refine (within_any _ _).mono ?_; rintro e w' ⟨rfl, rfl⟩)
          go_ret
          exact ⟨ret_int HR.out.symm, hbw.alloc (by omega) _⟩
        have hb := offB_true (o := s2) (by omega) (by omega)
        have HN2 : Hid (E = if s1 ≤ b then 14 else goE s1 (l.drop (k + 1))) := by show _ = _; rw [HN.out, if_neg (by omega)]
        clear HN b3
        cases k with
        | zero =>
          obtain rfl := hb0 rfl
          simp only [Nat.zero_mul, Nat.add_zero] at hc0 hc1
          have HR : Hid (goE s1 (l.drop (0 + 1)) = E) := by show _ = _; rw [HN2.out, if_neg (by omega)]
          have hg : decide ((0 : Int) < ((0 : Nat) : Int)) = false := rfl
          clear hb0 hb1
          go_wp2_with (go_at_call 84; refine (within_any _ _).mono ?_; rintro e w' ⟨rfl, rfl⟩)
          go_quiet (fail)
          go_wp2_with fail
          go_roundw
          case rel => exact ⟨0 + 1, s1, by omega, rfl, HR.out, fun h => (by omega), fun j h => ⟨(s1, s2), (by rw [show j = 0 by omega]; exact HX.out), rfl⟩, Below.drewN' (HB.out.alloc (by omega) _) _⟩
          case measure => simp [intOf]; omega
        | succ j =>
          obtain ⟨p, hp, rfl⟩ := hb1 j rfl
          obtain ⟨p', bb', off', hp', ha', _, hd0, _⟩ := (HS.out.below hbw (Nat.le_refl _)).at (show j < len by omega)
          obtain ⟨rfl, rfl⟩ : bb' = bb ∧ off' = off := by cases ha'; exact ⟨rfl, rfl⟩
          obtain rfl : p' = p := by rw [hp] at hp'; exact (Option.some.inj hp').symm
          obtain ⟨p1, p2⟩ := p'
          simp only at hd0 HN2
          have hg : decide ((0 : Int) < ((j + 1 : Nat) : Int)) = true := decide_eq_true (by omega)
          have hi : ((j + 1 : Nat) : Int) - 1 = (j : Int) := by omega
          have hsl : w.heap.size < wr.heap.size := by omega
          clear hb0 hb1 hp hp' ha'
          by_cases b4 : s1 ≤ p1
          · have HR : Hid (E = 14) := by show _ = _; rw [HN2.out, if_pos b4]
            go_wp2_with (go_at_call 84; refine (within_any _ _).mono ?_; rintro e w' ⟨rfl, rfl⟩)
            go_quiet (fail)
            go_wp2_with fail
            go_ret
            exact ⟨ret_int HR.out.symm, Below.drewN' (hbw.alloc (by omega) _) _⟩
          · have HR : Hid (goE s1 (l.drop (j + 1 + 1)) = E) := by show _ = _; rw [HN2.out, if_neg b4]
            go_wp2_with (go_at_call 84; refine (within_any _ _).mono ?_; rintro e w' ⟨rfl, rfl⟩)
            go_quiet (fail)
            go_wp2_with fail
            go_roundw
            case rel => exact ⟨j + 1 + 1, s1, by omega, by go_num, HR.out, fun h => (by omega), fun i h => ⟨(s1, s2), (by rw [show i = j + 1 by omega]; exact HX.out), rfl⟩, Below.drewN' (HB.out.alloc (by omega) _) _⟩
            case measure => simp [intOf]; omega
      · have HR : Hid (E = 0) := by
          show _ = _
          rw [← hg, List.drop_of_length_le (by have := HL.out; omega)]
          rfl
        clear hg hb0 hb1
        obtain rfl : k = len := by omega
        go_wp2_with fail
        go_ret
        exact ⟨ret_int HR.out.symm, hbw⟩
end Go.Proofs.YtmdpjahhhfajaaaDoor
namespace Wh
open Go
def idxF (nm : ByteArray) : List C → Nat → Int
  | [], _ => -1
  | c :: cs, i => if eqS c.nm nm = true then i else idxF nm cs (i + 1)
def idxC (cs : List C) (nm : ByteArray) : Int := idxF nm cs 0
theorem idxF_next {cs : List C} {k : Nat} {c : C} (h : cs[k]? = some c) (nm : ByteArray) : idxF nm (cs.drop k) k = if eqS c.nm nm = true then (k : Int) else idxF nm (cs.drop (k + 1)) (k + 1) := by
  have hk := (List.getElem?_eq_some_iff.1 h).1
  rw [List.drop_eq_getElem_cons hk]
  have e : cs[k] = c := by rw [List.getElem?_eq_getElem hk] at h; exact Option.some.inj h
  rw [e]
  rfl
theorem idxF_end {cs : List C} {k : Nat} (h : cs.length ≤ k) (nm : ByteArray) : idxF nm (cs.drop k) k = -1 := by
  rw [List.drop_of_length_le h]
  rfl
theorem idxF_bd (nm : ByteArray) : ∀ (cs : List C) (i : Nat), idxF nm cs i = -1 ∨ ((i : Int) ≤ idxF nm cs i ∧ idxF nm cs i < (i + cs.length : Nat))
  | [], _ => .inl rfl
  | c :: cs, i => by
    unfold idxF
    split
    · right; simp; omega
    · rcases idxF_bd nm cs (i + 1) with h | h
      · exact .inl h
      · right; simp at *; omega
theorem idxF_append (nm : ByteArray) (b : List C) : ∀ (a : List C) (i : Nat), idxF nm (a ++ b) i = if idxF nm a i < 0 then idxF nm b (i + a.length) else idxF nm a i
  | [], i => by simp [idxF]
  | c :: a, i => by
    simp only [List.cons_append, idxF]
    split
    · rw [if_neg (by omega)]
    · rw [idxF_append nm b a (i + 1)]
      simp only [List.length_cons]
      rw [show i + 1 + a.length = i + (a.length + 1) by omega]
theorem dup_iff {cs : List C} {k : Nat} {c : C} (h : cs[k]? = some c) : (idxC (cs.take k) c.nm < 0) ↔ idxC cs c.nm = k := by
  have hk := (List.getElem?_eq_some_iff.1 h).1
  have e := idxF_append c.nm (cs.drop k) (cs.take k) 0
  rw [List.take_append_drop] at e
  have hl : (cs.take k).length = k := by rw [List.length_take]; omega
  rw [hl, Nat.zero_add, idxF_next h, if_pos (eqS_refl _)] at e
  have hb := idxF_bd c.nm (cs.take k) 0
  rw [hl] at hb
  unfold idxC
  rw [e]
  constructor
  · intro h; rw [if_pos h]
  · intro h2
    by_cases h3 : idxF c.nm (cs.take k) 0 < 0
    · exact h3
    · rw [if_neg h3] at h2
      omega
end Wh
namespace Go.Proofs.YtmdpjahhhfajaaaDoor
open Go.RowKit Wh
theorem rindex_any5 (a : Option Addr) (len cap : Nat) (cs : List C) (nm : ByteArray) (w : World) (hs : IsCols w a len cs) (hl : len ≤ 9223372036854775807) :
    Calls Tryd.prog 83 #[.slice a len cap, .string nm] w fun e w' => e = .returned (.int .i64 (idxC cs nm)) ∧ w = w' := by
  generalize hE : idxC cs nm = E
  have HE := Lib.hid hE
  have HS := Lib.hid hs
  clear hs hE
  go_enter Tryd.func83, Tryd.ntmps83
  go_wp2_with fail
  go_loop [5] (fun iv => ∃ k : Nat, k ≤ len ∧ iv = .int .i64 k ∧ Hid (idxF nm (cs.drop k) k = E)) (fun i => len - (intOf i).toNat)
  case atStart => exact ⟨0, Nat.zero_le _, rfl, HE.out⟩
  case round =>
    obtain ⟨k, hk, rfl, HG⟩ := hrel
    by_cases hlt : k < len
    · obtain ⟨nk, kd, nu, b, off, hx, rfl, hbl, hc0, hc1, hc2⟩ := HS.out.at hlt
      have HN := Lib.hid (idxF_next hx nm)
      clear hx
      cases he : eqS nk nm with
      | true =>
        have HR : Hid (E = k) := by show _ = _; rw [← HG.out, HN.out, if_pos he]
        have he2 : (nk.toList == nm.toList) = true := he
        clear he HN HG
        go_wp2_with fail
        go_ret
        exact ⟨ret_int HR.out.symm, rfl⟩
      | false =>
        have HR : Hid (idxF nm (cs.drop (k + 1)) (k + 1) = E) := by
          show _ = _
          rw [← HG.out, HN.out, if_neg]
          show ¬ eqS nk nm = true
          rw [he]
          decide
        have he2 : (nk.toList == nm.toList) = false := he
        clear he HN HG
        go_wp2_with fail
        go_round
        case rel => exact ⟨k + 1, by omega, by go_num, HR⟩
        case measure => simp [intOf]; omega
    · have HR : Hid (E = -1) := by show _ = _; rw [← HG.out, idxF_end (by have := HS.out.1; omega)]
      clear HG
      go_wp2_with fail
      go_ret
      exact ⟨ret_int HR.out.symm, rfl⟩
end Go.Proofs.YtmdpjahhhfajaaaDoor
