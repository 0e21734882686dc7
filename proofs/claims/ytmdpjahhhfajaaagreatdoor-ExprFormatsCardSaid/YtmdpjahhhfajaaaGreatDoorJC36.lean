/-
  Zones, plainly: which are valid, the offset, the day, the first instan · Zones in memory; the small functions: isOffset, within, localDay, Floo · Validate, of zone and of its reference. · Validate of the reference. · For every layer: columns in memory (what came in, what lies in a row). · Index and Validate, of schema and of its reference. · Validate, of schema and of its reference. · The laws' zones; the reference's Zone.
-/
import Derived.Test.YtmdpjahhhfajaaaGreatDoorRows
import Derived.Test.YtmdpjahhhfajaaaGreatDoorJC01
import Derived.Test.YtmdpjahhhfajaaaGreatDoorJC03
import Derived.WalkLawsBesides
import Derived.WalkSpells
import Derived.Outline
import Derived.BigQuiet
import Derived.Below
import Derived.IntWalk
import Derived.Lib.Hide
import Derived.LoopTactic
import Derived.Test.YtmdpjahhhfajaaaGreatDoorJC04
import Derived.Deep.RegionHeld3
import Derived.Test.YtmdpjahhhfajaaaGreatDoorJC35
set_option linter.unusedVariables false
set_option linter.unusedSimpArgs false
set_option maxRecDepth 100000
namespace Wh
def goE (b : Int) : List (Int × Int) → Int
 | [] => 0
 | s :: l => if s.1 < 1 ∨ 575999999 < s.1 ∨ s.2 < -840 ∨ 840 < s.2 then 1 else if s.1 ≤ b then 14 else goE s.1 l
def zoneE (o : Int) (l : List (Int × Int)) : Int :=
 if 64 < l.length then 2 else if o < -840 ∨ 840 < o then 1 else goE 0 l
end Wh
namespace Go.Proofs.YtmdpjahhhfajaaaGreatDoor
open Go.RowKit Wh
abbrev zoneV (nm : ByteArray) (o : Int) (a : Option Addr) (len cap : Nat) : Value := .agg #[.string nm, .int .i64 o, .slice a len cap]
def IsShifts (w : World) (a : Option Addr) (len : Nat) (l : List (Int × Int)) : Prop :=
 l.length = len ∧ (l = [] ∨ ∃ b off, a = some ⟨b, off, none⟩ ∧ b < w.heap.size ∧ ∀ i s, l[i]? = some s → w.cell? ⟨b, off + i * 2, none⟩ = some (.int .i64 s.1) ∧ w.cell? ⟨b, off + i * 2 + 1, none⟩ = some (.int .i64 s.2))
theorem IsShifts.below {w w' : World} {a : Option Addr} {len B : Nat} {l : List (Int × Int)} (h : IsShifts w a len l) (hb : Below B w w') (hB : w.heap.size ≤ B) : IsShifts w' a len l := by
 obtain ⟨h1, h2⟩ := h
 refine ⟨h1, ?_⟩
 rcases h2 with h2 | ⟨b, off, ha, hlt, hc⟩
 ·exact .inl h2
 ·have e : ∀ o, w'.cell? ⟨b, o, none⟩ = w.cell? ⟨b, o, none⟩ := fun o => hb.cell (p := ⟨b, o, none⟩) (by show b < B; omega)
  refine .inr ⟨b, off, ha, by have := hb.size; omega, fun i s hs => ?_⟩
  rw [e, e]
  exact hc i s hs
theorem IsShifts.at {w : World} {a : Option Addr} {len : Nat} {l : List (Int × Int)} (h : IsShifts w a len l) {k : Nat} (hk : k < len) :
  ∃ s b off, l[k]? = some s ∧ a = some ⟨b, off, none⟩ ∧ b < w.heap.size ∧ w.cell? ⟨b, off + k * 2, none⟩ = some (.int .i64 s.1) ∧ w.cell? ⟨b, off + k * 2 + 1, none⟩ = some (.int .i64 s.2) := by
 obtain ⟨h1, h2⟩ := h
 obtain ⟨s, hs⟩ : ∃ s, l[k]? = some s := ⟨_, List.getElem?_eq_getElem (by omega)⟩
 rcases h2 with rfl | ⟨b, off, ha, hlt, hc⟩
 ·simp at hs
 ·exact ⟨s, b, off, hs, ha, hlt, (hc k s hs).1, (hc k s hs).2⟩
def offB (o : Int) : Bool := decide (-840 ≤ o) && decide (o ≤ 840)
theorem within_any (o : Int) (w : World) : Calls Tryz.prog 153 #[.int .i64 o] w fun e w' => e = .returned (.bool (offB o)) ∧ w = w' := by
 go_enter Tryz.func153, Tryz.ntmps153
 go_wp2
 all_goals
  go_ret
  refine ⟨ret_bool ?_, rfl⟩
  simp_all [offB]
  try omega
end Go.Proofs.YtmdpjahhhfajaaaGreatDoor
namespace Wh
theorem goE_next {b : Int} {l : List (Int × Int)} {k : Nat} {s : Int × Int} (h : l[k]? = some s) :
  goE b (l.drop k) = if s.1 < 1 ∨ 575999999 < s.1 ∨ s.2 < -840 ∨ 840 < s.2 then 1 else if s.1 ≤ b then 14 else goE s.1 (l.drop (k + 1)) := by
 have hk := (List.getElem?_eq_some_iff.1 h).1
 rw [List.drop_eq_getElem_cons hk]
 have e : l[k] = s := by rw [List.getElem?_eq_getElem hk] at h; exact Option.some.inj h
 rw [e]
 rfl
end Wh
namespace Go.Proofs.YtmdpjahhhfajaaaGreatDoor
open Go.RowKit Wh
theorem offB_true {o : Int} (h0 : -840 ≤ o) (h1 : o ≤ 840) : offB o = true := by simp [offB, h0, h1]
theorem offB_false {o : Int} (h : o < -840 ∨ 840 < o) : offB o = false := by
 unfold offB
 rcases h with h | h
 ·rw [decide_eq_false (by omega)]; rfl
 ·rw [decide_eq_false (p := o ≤ 840) (by omega), Bool.and_false]
end Go.Proofs.YtmdpjahhhfajaaaGreatDoor
namespace Go.Proofs.YtmdpjahhhfajaaaGreatDoor
open Go.RowKit Wh
theorem rvalidate_any (nm : ByteArray) (o : Int) (a : Option Addr) (len cap : Nat) (l : List (Int × Int)) (w : World) (hs : IsShifts w a len l) (hl : len ≤ 9223372036854775807) :
  Calls Tryz.prog 123 #[zoneV nm o a len cap] w fun e w' => e = .returned (.int .i64 (zoneE o l)) ∧ Below w.heap.size w w' := by
 have hlen := hs.1
 by_cases h64 : 64 < len
 ·have he : zoneE o l = 2 := by unfold zoneE; rw [if_pos (by omega)]
  rw [he]
  clear he hlen hs
  go_enter Tryz.func123, Tryz.ntmps123
  go_wp2_with fail
  go_ret
  exact ⟨rfl, (Below.refl _ _).alloc (Nat.le_refl _) _⟩
 by_cases ho : o < -840 ∨ 840 < o
 ·have he : zoneE o l = 1 := by unfold zoneE; rw [if_neg (by omega), if_pos ho]
  rw [he]
  have hb := offB_false ho
  clear he hlen hs ho
  go_enter Tryz.func123, Tryz.ntmps123
  go_wp2_with (go_at_call 153; refine (within_any _ _).mono ?_; rintro e w' ⟨rfl, rfl⟩)
  go_ret
  exact ⟨rfl, (Below.refl _ _).alloc (Nat.le_refl _) _⟩
 ·have he : zoneE o l = goE 0 l := by unfold zoneE; rw [if_neg (by omega), if_neg ho]
  rw [he]
  have hb := offB_true (o := o) (by omega) (by omega)
  generalize hE : goE 0 l = E
  have HE := Lib.hid hE
  have HS := Lib.hid hs
  have HL := Lib.hid hlen
  clear he hlen hs ho hE
  go_enter Tryz.func123, Tryz.ntmps123
  go_wp2_with (go_at_call 153; refine (within_any _ _).mono ?_; rintro e w' ⟨rfl, rfl⟩)
  clear hb
  go_loopw [3] (fun iv wr => ∃ (k : Nat) (b : Int), k ≤ len ∧ iv = .int .i64 k ∧ goE b (l.drop k) = E ∧ (k = 0 → b = 0) ∧ (∀ j, k = j + 1 → ∃ s, l[j]? = some s ∧ s.1 = b) ∧
    Below (w.heap.size + 1) (w.alloc (.cells #[.string nm, .int .i64 o, .slice a len cap] 143)) wr) (fun i _ => len - (intOf i).toNat)
  case atStart => exact ⟨0, 0, Nat.zero_le _, rfl, HE.out, fun _ => rfl, fun j h => (by omega), Below.refl _ _⟩
  case round =>
   obtain ⟨k, b, hk, rfl, hg, hb0, hb1, hbel⟩ := hrel
   have hbb := hbel
   obtain ⟨z0, z1, z2, hsz, hbw⟩ := box_cells hbel
   have HB := Lib.hid hbel
   clear hbel hbb
   by_cases hlt : k < len
   ·obtain ⟨s, bb, off, hx, rfl, hbl, hc0, hc1⟩ := (HS.out.below hbw (Nat.le_refl _)).at hlt
    have hn := goE_next (b := b) hx
    rw [hg] at hn
    obtain ⟨s1, s2⟩ := s
    simp only at hc0 hc1 hn
    have HX := Lib.hid hx
    clear hg hx
    have HN := Lib.hid hn
    clear hn
    by_cases b1 : s1 < 1
    ·have HR : Hid (E = 1) := by show _ = _; rw [HN.out, if_pos (.inl b1)]
     clear hb0 hb1
     go_wp2_with fail
     go_ret
     exact ⟨ret_int HR.out.symm, hbw.alloc (by omega) _⟩
    by_cases b2 : 575999999 < s1
    ·have HR : Hid (E = 1) := by show _ = _; rw [HN.out, if_pos (.inr (.inl b2))]
     clear hb0 hb1
     go_wp2_with fail
     go_ret
     exact ⟨ret_int HR.out.symm, hbw.alloc (by omega) _⟩
    by_cases b3 : s2 < -840 ∨ 840 < s2
    ·have HR : Hid (E = 1) := by show _ = _; rw [HN.out, if_pos (.inr (.inr b3))]
     have hb := offB_false b3
     clear b3 hb0 hb1
     go_wp2_with (go_at_call 153; refine (within_any _ _).mono ?_; rintro e w' ⟨rfl, rfl⟩)
     go_ret
     exact ⟨ret_int HR.out.symm, hbw.alloc (by omega) _⟩
    have hb := offB_true (o := s2) (by omega) (by omega)
    have HN2 : Hid (E = if s1 ≤ b then 14 else goE s1 (l.drop (k + 1))) := by show _ = _; rw [HN.out, if_neg (by omega)]
    clear HN b3
    cases k with
    | zero =>
     obtain rfl := hb0 rfl
     simp only [Nat.zero_mul, Nat.add_zero] at hc0 hc1
     have HR : Hid (goE s1 (l.drop (0 + 1)) = E) := by show _ = _; rw [HN2.out, if_neg (by omega)]
     have hg : decide ((0 : Int) < ((0 : Nat) : Int)) = false := rfl
     clear hb0 hb1
     go_wp2_with (go_at_call 153; refine (within_any _ _).mono ?_; rintro e w' ⟨rfl, rfl⟩)
     go_quiet (fail)
     go_wp2_with fail
     go_roundw
     case rel => exact ⟨0 + 1, s1, by omega, rfl, HR.out, fun h => (by omega), fun j h => ⟨(s1, s2), (by rw [show j = 0 by omega]; exact HX.out), rfl⟩, Below.drewN' (HB.out.alloc (by omega) _) _⟩
     case measure => simp [intOf]; omega
    | succ j =>
     obtain ⟨p, hp, rfl⟩ := hb1 j rfl
     obtain ⟨p', bb', off', hp', ha', _, hd0, _⟩ := (HS.out.below hbw (Nat.le_refl _)).at (show j < len by omega)
     obtain ⟨rfl, rfl⟩ : bb' = bb ∧ off' = off := by cases ha'; exact ⟨rfl, rfl⟩
     obtain rfl : p' = p := by rw [hp] at hp'; exact (Option.some.inj hp').symm
     obtain ⟨p1, p2⟩ := p'
     simp only at hd0 HN2
     have hg : decide ((0 : Int) < ((j + 1 : Nat) : Int)) = true := decide_eq_true (by omega)
     have hi : ((j + 1 : Nat) : Int) - 1 = (j : Int) := by omega
     have hsl : w.heap.size < wr.heap.size := by omega
     clear hb0 hb1 hp hp' ha'
     by_cases b4 : s1 ≤ p1
     ·have HR : Hid (E = 14) := by show _ = _; rw [HN2.out, if_pos b4]
      go_wp2_with (go_at_call 153; refine (within_any _ _).mono ?_; rintro e w' ⟨rfl, rfl⟩)
      go_quiet (fail)
      go_wp2_with fail
      go_ret
      exact ⟨ret_int HR.out.symm, Below.drewN' (hbw.alloc (by omega) _) _⟩
     ·have HR : Hid (goE s1 (l.drop (j + 1 + 1)) = E) := by show _ = _; rw [HN2.out, if_neg b4]
      go_wp2_with (go_at_call 153; refine (within_any _ _).mono ?_; rintro e w' ⟨rfl, rfl⟩)
      go_quiet (fail)
      go_wp2_with fail
      go_roundw
      case rel => exact ⟨j + 1 + 1, s1, by omega, by go_num, HR.out, fun h => (by omega), fun i h => ⟨(s1, s2), (by rw [show i = j + 1 by omega]; exact HX.out), rfl⟩, Below.drewN' (HB.out.alloc (by omega) _) _⟩
      case measure => simp [intOf]; omega
   ·have HR : Hid (E = 0) := by
     show _ = _
     rw [← hg, List.drop_of_length_le (by have := HL.out; omega)]
     rfl
    clear hg hb0 hb1
    obtain rfl : k = len := by omega
    go_wp2_with fail
    go_ret
    exact ⟨ret_int HR.out.symm, hbw⟩
end Go.Proofs.YtmdpjahhhfajaaaGreatDoor
namespace Wh
open Go
structure C where
 nm : ByteArray
 k : Int
 nu : Bool
end Wh
namespace Go.Proofs.YtmdpjahhhfajaaaGreatDoor
open Go.RowKit Wh
def IsCols (w : World) (a : Option Addr) (len : Nat) (cs : List C) : Prop :=
 cs.length = len ∧ (cs = [] ∨ ∃ b off, a = some ⟨b, off, none⟩ ∧ b < w.heap.size ∧ ∀ i c, cs[i]? = some c →
  w.cell? ⟨b, off + i * 3, none⟩ = some (.string c.nm) ∧ w.cell? ⟨b, off + i * 3 + 1, none⟩ = some (.int .i64 c.k) ∧ w.cell? ⟨b, off + i * 3 + 2, none⟩ = some (.bool c.nu))
theorem IsCols.below {w w' : World} {a : Option Addr} {len B : Nat} {cs : List C} (h : IsCols w a len cs) (hb : Below B w w') (hB : w.heap.size ≤ B) : IsCols w' a len cs := by
 obtain ⟨h1, h2⟩ := h
 refine ⟨h1, ?_⟩
 rcases h2 with h2 | ⟨b, off, ha, hlt, hc⟩
 ·exact .inl h2
 ·have e : ∀ o, w'.cell? ⟨b, o, none⟩ = w.cell? ⟨b, o, none⟩ := fun o => hb.cell (p := ⟨b, o, none⟩) (by show b < B; omega)
  refine .inr ⟨b, off, ha, by have := hb.size; omega, fun i s hs => ?_⟩
  rw [e, e, e]
  exact hc i s hs
theorem IsCols.at {w : World} {a : Option Addr} {len : Nat} {cs : List C} (h : IsCols w a len cs) {k : Nat} (hk : k < len) :
  ∃ nm kd nu b off, cs[k]? = some ⟨nm, kd, nu⟩ ∧ a = some ⟨b, off, none⟩ ∧ b < w.heap.size ∧ w.cell? ⟨b, off + k * 3, none⟩ = some (.string nm) ∧ w.cell? ⟨b, off + k * 3 + 1, none⟩ = some (.int .i64 kd) ∧ w.cell? ⟨b, off + k * 3 + 2, none⟩ = some (.bool nu) := by
 obtain ⟨h1, h2⟩ := h
 obtain ⟨⟨nm, kd, nu⟩, hs⟩ : ∃ s, cs[k]? = some s := ⟨_, List.getElem?_eq_getElem (by omega)⟩
 rcases h2 with rfl | ⟨b, off, ha, hlt, hc⟩
 ·simp at hs
 ·exact ⟨nm, kd, nu, b, off, hs, ha, hlt, (hc k _ hs).1, (hc k _ hs).2.1, (hc k _ hs).2.2⟩
theorem IsCols.take {w : World} {a : Option Addr} {len : Nat} {cs : List C} (h : IsCols w a len cs) {k : Nat} (hk : k ≤ len) : IsCols w a k (cs.take k) := by
 obtain ⟨h1, h2⟩ := h
 refine ⟨by rw [List.length_take]; omega, ?_⟩
 rcases h2 with rfl | ⟨b, off, ha, hlt, hc⟩
 ·exact .inl (by simp)
 ·refine .inr ⟨b, off, ha, hlt, fun i c hi => hc i c ?_⟩
  have hlt := (List.getElem?_eq_some_iff.1 hi).1
  rw [List.length_take] at hlt
  rw [List.getElem?_take_of_lt (by omega)] at hi
  exact hi
end Go.Proofs.YtmdpjahhhfajaaaGreatDoor
namespace Wh
open Go
def idxF (nm : ByteArray) : List C → Nat → Int
 | [], _ => -1
 | c :: cs, i => if eqS c.nm nm = true then i else idxF nm cs (i + 1)
def idxC (cs : List C) (nm : ByteArray) : Int := idxF nm cs 0
theorem idxF_next {cs : List C} {k : Nat} {c : C} (h : cs[k]? = some c) (nm : ByteArray) : idxF nm (cs.drop k) k = if eqS c.nm nm = true then (k : Int) else idxF nm (cs.drop (k + 1)) (k + 1) := by
 have hk := (List.getElem?_eq_some_iff.1 h).1
 rw [List.drop_eq_getElem_cons hk]
 have e : cs[k] = c := by rw [List.getElem?_eq_getElem hk] at h; exact Option.some.inj h
 rw [e]
 rfl
theorem idxF_end {cs : List C} {k : Nat} (h : cs.length ≤ k) (nm : ByteArray) : idxF nm (cs.drop k) k = -1 := by
 rw [List.drop_of_length_le h]
 rfl
theorem idxF_bd (nm : ByteArray) : ∀ (cs : List C) (i : Nat), idxF nm cs i = -1 ∨ ((i : Int) ≤ idxF nm cs i ∧ idxF nm cs i < (i + cs.length : Nat))
 | [], _ => .inl rfl
 | c :: cs, i => by
  unfold idxF
  split
  ·right; simp; omega
  ·rcases idxF_bd nm cs (i + 1) with h | h
   ·exact .inl h
   ·right; simp at *; omega
theorem idxF_append (nm : ByteArray) (b : List C) : ∀ (a : List C) (i : Nat), idxF nm (a ++ b) i = if idxF nm a i < 0 then idxF nm b (i + a.length) else idxF nm a i
 | [], i => by simp [idxF]
 | c :: a, i => by
  simp only [List.cons_append, idxF]
  split
  ·rw [if_neg (by omega)]
  ·rw [idxF_append nm b a (i + 1)]
   simp only [List.length_cons]
   rw [show i + 1 + a.length = i + (a.length + 1) by omega]
theorem dup_iff {cs : List C} {k : Nat} {c : C} (h : cs[k]? = some c) : (idxC (cs.take k) c.nm < 0) ↔ idxC cs c.nm = k := by
 have hk := (List.getElem?_eq_some_iff.1 h).1
 have e := idxF_append c.nm (cs.drop k) (cs.take k) 0
 rw [List.take_append_drop] at e
 have hl : (cs.take k).length = k := by rw [List.length_take]; omega
 rw [hl, Nat.zero_add, idxF_next h, if_pos (eqS_refl _)] at e
 have hb := idxF_bd c.nm (cs.take k) 0
 rw [hl] at hb
 unfold idxC
 rw [e]
 constructor
 ·intro h; rw [if_pos h]
 ·intro h2
  by_cases h3 : idxF c.nm (cs.take k) 0 < 0
  ·exact h3
  ·rw [if_neg h3] at h2
   omega
end Wh
namespace Go.Proofs.YtmdpjahhhfajaaaGreatDoor
open Go.RowKit Wh
theorem rindex_any5 (a : Option Addr) (len cap : Nat) (cs : List C) (nm : ByteArray) (w : World) (hs : IsCols w a len cs) (hl : len ≤ 9223372036854775807) :
  Calls Tryz.prog 152 #[.slice a len cap, .string nm] w fun e w' => e = .returned (.int .i64 (idxC cs nm)) ∧ w = w' := by
 generalize hE : idxC cs nm = E
 have HE := Lib.hid hE
 have HS := Lib.hid hs
 clear hs hE
 go_enter Tryz.func152, Tryz.ntmps152
 go_wp2_with fail
 go_loop [5] (fun iv => ∃ k : Nat, k ≤ len ∧ iv = .int .i64 k ∧ Hid (idxF nm (cs.drop k) k = E)) (fun i => len - (intOf i).toNat)
 case atStart => exact ⟨0, Nat.zero_le _, rfl, HE.out⟩
 case round =>
  obtain ⟨k, hk, rfl, HG⟩ := hrel
  by_cases hlt : k < len
  ·obtain ⟨nk, kd, nu, b, off, hx, rfl, hbl, hc0, hc1, hc2⟩ := HS.out.at hlt
   have HN := Lib.hid (idxF_next hx nm)
   clear hx
   cases he : eqS nk nm with
   | true =>
    have HR : Hid (E = k) := by show _ = _; rw [← HG.out, HN.out, if_pos he]
    have he2 : (nk.toList == nm.toList) = true := he
    clear he HN HG
    go_wp2_with fail
    go_ret
    exact ⟨ret_int HR.out.symm, rfl⟩
   | false =>
    have HR : Hid (idxF nm (cs.drop (k + 1)) (k + 1) = E) := by
     show _ = _
     rw [← HG.out, HN.out, if_neg]
     show ¬ eqS nk nm = true
     rw [he]
     decide
    have he2 : (nk.toList == nm.toList) = false := he
    clear he HN HG
    go_wp2_with fail
    go_round
    case rel => exact ⟨k + 1, by omega, by go_num, HR⟩
    case measure => simp [intOf]; omega
  ·have HR : Hid (E = -1) := by show _ = _; rw [← HG.out, idxF_end (by have := HS.out.1; omega)]
   clear HG
   go_wp2_with fail
   go_ret
   exact ⟨ret_int HR.out.symm, rfl⟩
end Go.Proofs.YtmdpjahhhfajaaaGreatDoor
namespace Go.Proofs.YtmdpjahhhfajaaaGreatDoor
open Go.RowKit Wh
def goVal (all : List C) : List C → Nat → Int
 | [], _ => 0
 | c :: r, i => if nameB c.nm = false then 4 else if c.k < 1 ∨ 4 < c.k then 7 else if idxC (all.take i) c.nm < 0 then goVal all r (i + 1) else 6
def valEC (cs : List C) : Int := if cs.length = 0 ∨ 12 < cs.length then 2 else goVal cs cs 0
theorem goVal_next {all cs : List C} {k : Nat} {c : C} (h : cs[k]? = some c) :
  goVal all (cs.drop k) k = if nameB c.nm = false then 4 else if c.k < 1 ∨ 4 < c.k then 7 else if idxC (all.take k) c.nm < 0 then goVal all (cs.drop (k + 1)) (k + 1) else 6 := by
 have hk := (List.getElem?_eq_some_iff.1 h).1
 rw [List.drop_eq_getElem_cons hk]
 have e : cs[k] = c := by rw [List.getElem?_eq_getElem hk] at h; exact Option.some.inj h
 rw [e]
 rfl
theorem rvalidate_any5 (a : Option Addr) (len cap : Nat) (cs : List C) (w : World) (hs : IsCols w a len cs) (hl : len ≤ cap) (hm : cap ≤ 9223372036854775807) :
  Calls Tryz.prog 122 #[.slice a len cap] w fun e w' => e = .returned (.int .i64 (valEC cs)) ∧ w = w' := by
 have hlen := hs.1
 by_cases h0 : len = 0
 ·have he : valEC cs = 2 := by unfold valEC; rw [if_pos (by omega)]
  rw [he]
  subst h0
  clear he hlen hs
  go_enter Tryz.func122, Tryz.ntmps122
  go_wp2_with fail
  go_ret
  exact ⟨rfl, rfl⟩
 by_cases h12 : 12 < len
 ·have he : valEC cs = 2 := by unfold valEC; rw [if_pos (by omega)]
  rw [he]
  clear he hlen hs
  go_enter Tryz.func122, Tryz.ntmps122
  go_wp2_with fail
  go_ret
  exact ⟨rfl, rfl⟩
 have he : valEC cs = goVal cs cs 0 := by unfold valEC; rw [if_neg (by omega)]
 rw [he]
 generalize hE : goVal cs cs 0 = E
 have HE := Lib.hid hE
 have HS := Lib.hid hs
 clear he hE hs hlen
 go_enter Tryz.func122, Tryz.ntmps122
 go_wp2_with fail
 go_loop [3] (fun iv => ∃ k : Nat, k ≤ len ∧ iv = .int .i64 k ∧ Hid (goVal cs (cs.drop k) k = E)) (fun i => len - (intOf i).toNat)
 case atStart => exact ⟨0, Nat.zero_le _, rfl, HE.out⟩
 case round =>
  obtain ⟨k, hk, rfl, HG⟩ := hrel
  by_cases hlt : k < len
  ·obtain ⟨nm, kd, nu, b, off, hx, rfl, hbl, hc0, hc1, hc2⟩ := HS.out.at hlt
   have HN := Lib.hid (goVal_next (all := cs) hx)
   have HD := Lib.hid (dup_iff hx)
   have cn := fun W => rIsName_any nm W
   have ci := fun W hW => rindex_any5 (some ⟨b, off, none⟩) len cap cs nm W (HS.out.below hW (Nat.le_refl _)) (by omega)
   simp only at HN HD
   generalize idxC (cs.take k) nm = ix at *
   generalize idxC cs nm = iy at *
   have ci2 := ci w (Below.refl _ _)
   clear hx ci
   cases hn : nameB nm with
   | false =>
    have HR : Hid (E = 4) := by show _ = _; rw [← HG.out, HN.out, if_pos hn]
    rw [hn] at cn
    clear HN HG hn ci2
    go_wp2_with (go_at_call 110; refine (cn _).mono ?_; rintro e w1 ⟨rfl, rfl⟩)
    go_ret
    exact ⟨ret_int HR.out.symm, rfl⟩
   | true =>
    have HN2 : Hid (E = if kd < 1 ∨ 4 < kd then 7 else if ix < 0 then goVal cs (cs.drop (k + 1)) (k + 1) else 6) := by
     show _ = _; rw [← HG.out, HN.out, if_neg (by show ¬ nameB nm = false; rw [hn]; decide)]
    rw [hn] at cn
    clear HN HG hn
    by_cases hk1 : kd < 1
    ·have HR : Hid (E = 7) := by show _ = _; rw [HN2.out, if_pos (.inl hk1)]
     clear HN2 ci2
     go_wp2_with (go_at_call 110; refine (cn _).mono ?_; rintro e w1 ⟨rfl, rfl⟩)
     go_ret
     exact ⟨ret_int HR.out.symm, rfl⟩
    by_cases hk2 : 4 < kd
    ·have HR : Hid (E = 7) := by show _ = _; rw [HN2.out, if_pos (.inr hk2)]
     clear HN2 ci2
     go_wp2_with (go_at_call 110; refine (cn _).mono ?_; rintro e w1 ⟨rfl, rfl⟩)
     go_ret
     exact ⟨ret_int HR.out.symm, rfl⟩
    have HN3 : Hid (E = if ix < 0 then goVal cs (cs.drop (k + 1)) (k + 1) else 6) := by show _ = _; rw [HN2.out, if_neg (by omega)]
    clear HN2
    have hk3 : kd ≤ 4 := by omega
    by_cases hix : ix < 0
    ·have HR : Hid (goVal cs (cs.drop (k + 1)) (k + 1) = E) := by show _ = _; rw [HN3.out, if_pos hix]
     obtain rfl := HD.out.1 hix
     clear HN3 HD
     go_wp2_with (first | (go_at_call 110; refine (cn _).mono ?_; rintro e w1 ⟨rfl, rfl⟩) | (go_at_call 152; refine ci2.mono ?_; rintro e w1 ⟨rfl, rfl⟩))
     go_round
     case rel => exact ⟨k + 1, by omega, by go_num, HR⟩
     case measure => simp [intOf]; omega
    ·have HR : Hid (E = 6) := by show _ = _; rw [HN3.out, if_neg hix]
     have hne : ¬ iy = (k : Int) := fun h => hix (HD.out.2 h)
     clear HN3 HD
     go_wp2_with (first | (go_at_call 110; refine (cn _).mono ?_; rintro e w1 ⟨rfl, rfl⟩) | (go_at_call 152; refine ci2.mono ?_; rintro e w1 ⟨rfl, rfl⟩))
     go_ret
     exact ⟨ret_int HR.out.symm, rfl⟩
  ·have HR : Hid (E = 0) := by show _ = _; rw [← HG.out, List.drop_of_length_le (by have := HS.out.1; omega)]; rfl
   clear HG
   go_wp2_with fail
   go_ret
   exact ⟨ret_int HR.out.symm, rfl⟩
end Go.Proofs.YtmdpjahhhfajaaaGreatDoor
namespace Wh
open Go Go.Proofs.YtmdpjahhhfajaaaGreatDoor
def zNm (i : Nat) : ByteArray := if i = 0 then ⟨#[122, 48]⟩ else if i = 1 then ⟨#[122, 49]⟩ else ⟨#[122, 50]⟩
def zOf (i : Nat) : Int := if i = 0 then 60 else if i = 1 then -300 else 120
def zSh (s1 s2 : Nat) (i : Nat) : Value := if i = 0 then .slice none 0 0 else if i = 1 then .slice (some ⟨s1, 0, none⟩) 2 2 else .slice (some ⟨s2, 0, none⟩) 1 1
def zoneC (s1 s2 : Nat) : List Value := [.string ⟨#[122, 48]⟩, .int .i64 60, .slice none 0 0, .string ⟨#[122, 49]⟩, .int .i64 (-300), .slice (some ⟨s1, 0, none⟩) 2 2, .string ⟨#[122, 50]⟩, .int .i64 120, .slice (some ⟨s2, 0, none⟩) 1 1]
theorem zoneC_at (s1 s2 : Nat) {i : Nat} (h : i < 3) : (zoneC s1 s2)[i * 3]? = some (.string (zNm i)) ∧ (zoneC s1 s2)[i * 3 + 1]? = some (.int .i64 (zOf i)) ∧ (zoneC s1 s2)[i * 3 + 2]? = some (zSh s1 s2 i) := by
 have : i = 0 ∨ i = 1 ∨ i = 2 := by omega
 rcases this with rfl | rfl | rfl <;> exact ⟨rfl, rfl, rfl⟩
theorem zNm_eq {i j : Nat} (hi : i < 3) (hj : j < 3) (h : i ≠ j) : ((zNm i).toList == (zNm j).toList) = false := by
 have h1 : i = 0 ∨ i = 1 ∨ i = 2 := by omega
 have h2 : j = 0 ∨ j = 1 ∨ j = 2 := by omega
 rcases h1 with rfl | rfl | rfl <;> rcases h2 with rfl | rfl | rfl <;> first | exact absurd rfl h | decide +kernel
end Wh
namespace Go.Proofs.YtmdpjahhhfajaaaGreatDoor
open Go.RowKit Wh
structure ZonesX (w : World) (zb s1 s2 : Nat) : Prop where
 lz : zb < w.heap.size
 l1 : s1 < w.heap.size
 l2 : s2 < w.heap.size
 cz : w.rangeAt zb 0 (zoneC s1 s2)
 c1 : w.rangeAt s1 0 [.int .i64 145000, .int .i64 (-240), .int .i64 147000, .int .i64 (-300)]
 c2 : w.rangeAt s2 0 [.int .i64 145450, .int .i64 0]
theorem ZonesX.below {w w' : World} {zb s1 s2 B : Nat} (h : ZonesX w zb s1 s2) (hb : Below B w w') (hB : w.heap.size ≤ B) : ZonesX w' zb s1 s2 := by
 have hs := hb.size
 have h1 := h.lz
 have h2 := h.l1
 have h3 := h.l2
 by_cases hle : w.heap.size ≤ w'.heap.size
 ·exact ⟨by omega, by omega, by omega, fun j v hv => by rw [hb.cell (p := ⟨zb, 0 + j, none⟩) (by show zb < B; omega)]; exact h.cz j v hv,
   fun j v hv => by rw [hb.cell (p := ⟨s1, 0 + j, none⟩) (by show s1 < B; omega)]; exact h.c1 j v hv,
   fun j v hv => by rw [hb.cell (p := ⟨s2, 0 + j, none⟩) (by show s2 < B; omega)]; exact h.c2 j v hv⟩
 ·omega
theorem ZonesX.cells {w : World} {zb s1 s2 i : Nat} (h : ZonesX w zb s1 s2) (hi : i < 3) : w.cell? ⟨zb, i * 3, none⟩ = some (.string (zNm i)) ∧ w.cell? ⟨zb, i * 3 + 1, none⟩ = some (.int .i64 (zOf i)) ∧ w.cell? ⟨zb, i * 3 + 2, none⟩ = some (zSh s1 s2 i) := by
 obtain ⟨a, b, c⟩ := zoneC_at s1 s2 hi
 have e : ∀ j v, (zoneC s1 s2)[j]? = some v → w.cell? ⟨zb, j, none⟩ = some v := fun j v hv => by
  have := h.cz j v hv
  rwa [Nat.zero_add] at this
 exact ⟨e _ _ a, e _ _ b, e _ _ c⟩
theorem box_zn {w : World} {B : Nat} {x y z : Value} (h : w.heap[B]? = some (.cells #[x, y, z] 143 (0, 0))) : (loadVar 143 ⟨B, 0, none⟩).run Tryz.prog w = .ok (.agg #[x, y, z]) w := by
 refine run_loadVar_mid w B 0 _ [x, y, z] _ (fun j q hv => ?_) Tryz.underlying143 rfl (by kernel_rfl)
 rw [Nat.zero_add]
 exact (cell_of_row _ _ j _ _ _ h).trans (by rw [← Array.getElem?_toList]; exact hv)
set_option maxHeartbeats 4000000 in
theorem rzone_any (zb s1 s2 i : Nat) (hi : i < 3) (w : World) (hZ : ZonesX w zb s1 s2) :
  Calls Tryz.prog 156 #[.slice (some ⟨zb, 0, none⟩) 3 3, .string (zNm i)] w fun e w' => e = .returned (.tuple #[.agg #[.string (zNm i), .int .i64 (zOf i), zSh s1 s2 i], .bool true]) ∧ Below w.heap.size w w' := by
 obtain ⟨W0, hW0⟩ : ∃ W0, w.alloc (.cells #[.string ⟨#[]⟩, .int .i64 0, .slice none 0 0] 143) = W0 := ⟨_, rfl⟩
 have hb0 : Below w.heap.size w W0 := by rw [← hW0]; exact (Below.refl _ _).alloc (Nat.le_refl _) _
 have hx0 : W0.heap[w.heap.size]? = some (.cells #[.string ⟨#[]⟩, .int .i64 0, .slice none 0 0] 143 (0, 0)) := by rw [← hW0]; exact heap_alloc_new _ _
 have HZ := Lib.hid (hZ.below hb0 (Nat.le_refl _))
 have HX := Lib.hid hx0
 have HB := Lib.hid hb0
 clear hZ hb0 hx0
 have hne : Hid (∀ k, k < 3 → k ≠ i → ((zNm k).toList == (zNm i).toList) = false) := fun k hk h => zNm_eq hk hi h
 obtain ⟨NM, hNM⟩ : ∃ NM, zNm i = NM := ⟨_, rfl⟩
 rw [hNM] at hne ⊢
 obtain ⟨sa, sl, sc, hsh⟩ : ∃ sa sl sc, zSh s1 s2 i = .slice sa sl sc := by
  unfold zSh
  repeat' split
  all_goals exact ⟨_, _, _, rfl⟩
 obtain ⟨zo, hzo⟩ : ∃ zo, zOf i = zo := ⟨_, rfl⟩
 rw [hsh, hzo]
 have HD : Hid (W0.cell? ⟨zb, i * 3, none⟩ = some (.string NM) ∧ W0.cell? ⟨zb, i * 3 + 1, none⟩ = some (.int .i64 zo) ∧ W0.cell? ⟨zb, i * 3 + 2, none⟩ = some (.slice sa sl sc)) := by
  have h := HZ.out.cells hi
  rw [hNM, hzo, hsh] at h
  exact h
 clear hNM hzo hsh
 go_enter Tryz.func156, Tryz.ntmps156
 go_wp2_with fail
 go_loopw [6] (fun iv wr => ∃ k : Nat, k ≤ i ∧ iv = .int .i64 k ∧ wr = W0) (fun iv _ => 3 - (intOf iv).toNat)
 case atStart => exact ⟨0, Nat.zero_le _, rfl, rfl⟩
 case round =>
  obtain ⟨k, hk, rfl, rfl⟩ := hrel
  have hk3 : (k : Int) < 3 := by omega
  by_cases hki : k = i
  ·subst hki
   obtain ⟨d0, d1, d2⟩ := HD.out
   clear hne hW0
   go_wp2_with (with_reducible refine wpList_store_row (o := Oper.mk none (Op.store 143 (.tmp 4) (.tmp 23)) _ _ _ none) rfl 143 (.tmp 4) (.tmp 23) rfl (w.heap.size) #[.string NM, .int .i64 zo, .slice sa sl sc] ?gx ?gy 143 _ HX.out ?gi ?go ?g1 ?gk)
   case gx => rfl
   case gy => rfl
   case gi => kernel_rfl
   case go => rfl
   case g1 => simp [Value.oneCell']
   go_wp2_with fail
   have hld := box_zn (setRow_heap _ _ _ #[.string NM, .int .i64 zo, .slice sa sl sc] _ _ HX.out)
   exact bodyPost_ret (v := .tuple #[.agg #[.string NM, .int .i64 zo, .slice sa sl sc], .bool true]) (by simp [results, Tryz.results156, Act.put, asAddr, hld]) rfl ⟨rfl, HB.out.grown (grown_rowT _ _ _) HB.out.size (fun z hz => by cases hz; omega)⟩
  ·obtain ⟨d0, d1, d2⟩ := HZ.out.cells (i := k) (by omega)
   have hnb := hne.out k (by omega) hki
   generalize zNm k = nmk at *
   have hnb2 : (nmk.toList == NM.toList) = false := hnb
   clear hne hW0 HX HD
   go_wp2_with fail
   go_roundw
   case rel => exact ⟨k + 1, by omega, by go_num, trivial⟩
   case measure => simp [intOf]; omega
end Go.Proofs.YtmdpjahhhfajaaaGreatDoor
