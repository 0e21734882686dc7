/-
  The law ValueCompares: value.Compare is the order that the document says, and a total order of all structs.
-/
import Derived.Test.YtnmlbafhdnffgaaLift
import Derived.Test.YtnmlbafhdnffgaaKeep
import Derived.Test.YtnmlbafhdnffgaaOrder
import Derived.Deep.RegionHeld3
set_option linter.unusedVariables false
namespace Go.Proofs.Ytnmlbafhdnffgaa
open Go.ChangeShapes Go.WideShapes Go.ChangeAt Go.RowKit Wh

theorem compare6 (k n : Int) (s : ByteArray) (k' n' : Int) (s' : ByteArray) (w : World) :
    Calls Try.prog 14 #[agg k n s, agg k' n' s'] w fun e w' => e = .returned (.int .i64 (cmpV ⟨k, n, s⟩ ⟨k', n', s'⟩)) ∧ Below w.heap.size w w' := compare_any ⟨k, n, s⟩ ⟨k', n', s'⟩ w

theorem rcompare6 (k n : Int) (s : ByteArray) (k' n' : Int) (s' : ByteArray) (w : World) :
    Calls Try.prog 15 #[agg k n s, agg k' n' s'] w fun e w' => e = .returned (.int .i64 (cmpV ⟨k, n, s⟩ ⟨k', n', s'⟩)) ∧ Below w.heap.size w w' := rcompare_any ⟨k, n, s⟩ ⟨k', n', s'⟩ w

set_option maxHeartbeats 1000000 in
theorem compares_walk (a b c : V) (w : World) :
    Calls Try.prog 4 #[agg a.k a.n a.s, agg b.k b.n b.s, agg c.k c.n c.s] w fun e w' => e = .returned (.bool true) ∧ Below w.heap.size w w' := by
  obtain ⟨ak, an, at_⟩ := a
  obtain ⟨bk, bn, bs⟩ := b
  obtain ⟨ck, cn, cs⟩ := c
  go_enter Try.func4, Try.ntmps4
  go_wp2_with fail
  have hB2 : ∀ o1 o2 o3, Below w.heap.size w (((w.alloc o1).alloc o2).alloc o3).drew := fun o1 o2 o3 => ((((Below.refl _ _).alloc (Nat.le_refl _) _).alloc (by simp) _).alloc (by simp; omega) _).drew
  have hS2 : ∀ o1 o2 o3, w.heap.size + 1 + 1 < (((w.alloc o1).alloc o2).alloc o3).drew.heap.size := fun o1 o2 o3 => by show _ < (((w.heap.push o1).push o2).push o3).size; simp only [Array.size_push]; omega
  go_region_held3 (fun w' => w'.cell? ⟨w.heap.size, 0, none⟩ = some (.int .i64 ak) ∧ w'.cell? ⟨w.heap.size, 1, none⟩ = some (.int .i64 an) ∧ w'.cell? ⟨w.heap.size, 2, none⟩ = some (.string at_) ∧
      w'.cell? ⟨w.heap.size + 1, 0, none⟩ = some (.int .i64 bk) ∧ w'.cell? ⟨w.heap.size + 1, 1, none⟩ = some (.int .i64 bn) ∧ w'.cell? ⟨w.heap.size + 1, 2, none⟩ = some (.string bs) ∧
      w'.cell? ⟨w.heap.size + 1 + 1, 0, none⟩ = some (.int .i64 ck) ∧ w'.cell? ⟨w.heap.size + 1 + 1, 1, none⟩ = some (.int .i64 cn) ∧ w'.cell? ⟨w.heap.size + 1 + 1, 2, none⟩ = some (.string cs) ∧
      w.heap.size + 1 + 1 < w'.heap.size ∧ Below w.heap.size w w')
    (first | exact keepThree (by assumption) (by assumption) | exact hB2 _ _ _ | exact hS2 _ _ _ | (refine ⟨?_, ?_, ?_, ?_, ?_, ?_, ?_, ?_, ?_, ?_, ?_⟩ <;> first | exact hB2 _ _ _ | exact hS2 _ _ _ | exact third_cell _ _ _ _ _ _ _ rfl | go_keep))
    (first | (go_at_call 14; refine (compare6 _ _ _ _ _ _ _).mono ?_; rintro e w' ⟨rfl, hb⟩))
  obtain ⟨k0, k1, k2, k3, k4, k5, k6, k7, k8, k9, k10⟩ := ‹_ ∧ _›
  have hle := cmpV_le ⟨ak, an, at_⟩ ⟨bk, bn, bs⟩ ⟨ck, cn, cs⟩
  have hz := cmpV_zero ⟨ak, an, at_⟩ ⟨bk, bn, bs⟩
  have v1 := cmpV_vals ⟨ak, an, at_⟩ ⟨bk, bn, bs⟩
  have v2 := cmpV_vals ⟨bk, bn, bs⟩ ⟨ck, cn, cs⟩
  have v3 := cmpV_vals ⟨ak, an, at_⟩ ⟨ck, cn, cs⟩
  have c4 := fun W => compare6 bk bn bs ak an at_ W
  rw [cmpV_neg ⟨ak, an, at_⟩ ⟨bk, bn, bs⟩] at c4
  have r1 := fun W => rcompare6 ak an at_ bk bn bs W
  have r2 := fun W => rcompare6 bk bn bs ck cn cs W
  generalize cmpV ⟨ak, an, at_⟩ ⟨bk, bn, bs⟩ = x at *
  generalize cmpV ⟨bk, bn, bs⟩ ⟨ck, cn, cs⟩ = y at *
  generalize cmpV ⟨ak, an, at_⟩ ⟨ck, cn, cs⟩ = z at *
  have C4 := Lib.hid c4
  have R1 := Lib.hid r1
  have R2 := Lib.hid r2
  have HZ := Lib.hid hz
  have HL := Lib.hid hle
  have V1 := Lib.hid v1
  have V2 := Lib.hid v2
  have V3 := Lib.hid v3
  have x0 : -1 ≤ x := by omega
  have x1 : x ≤ 1 := by omega
  clear c4 r1 r2 hz hle v1 v2 v3 hB2 hS2
  go_wp2_with fail
  refine (R1.out _).mono ?_
  rintro e w4 ⟨rfl, hb4⟩
  have K := keepThree ⟨k0, k1, k2, k3, k4, k5, k6, k7, k8, k9, k10⟩ hb4
  clear k0 k1 k2 k3 k4 k5 k6 k7 k8 k9 k10
  obtain ⟨k0, k1, k2, k3, k4, k5, k6, k7, k8, k9, k10⟩ := K
  go_wp2_with fail
  refine (R2.out _).mono ?_
  rintro e w5 ⟨rfl, hb5⟩
  have K := keepThree ⟨k0, k1, k2, k3, k4, k5, k6, k7, k8, k9, k10⟩ hb5
  clear k0 k1 k2 k3 k4 k5 k6 k7 k8 k9 k10
  obtain ⟨k0, k1, k2, k3, k4, k5, k6, k7, k8, k9, k10⟩ := K
  go_wp2_with fail
  refine (C4.out _).mono ?_
  rintro e w6 ⟨rfl, hb6⟩
  have K := keepThree ⟨k0, k1, k2, k3, k4, k5, k6, k7, k8, k9, k10⟩ hb6
  clear k0 k1 k2 k3 k4 k5 k6 k7 k8 k9 k10
  obtain ⟨k0, k1, k2, k3, k4, k5, k6, k7, k8, k9, k10⟩ := K
  have hB : Hid (Below w.heap.size w w6) := k10
  have D : (x = 1 ∧ (¬ ak = bk ∨ (ak = bk ∧ ¬ an = bn) ∨ (ak = bk ∧ an = bn ∧ ¬ at_.toList = bs.toList))) ∨
      (x = 0 ∧ ak = bk ∧ an = bn ∧ at_ = bs ∧ (0 < y ∨ (y ≤ 0 ∧ z ≤ 0))) ∨
      (x = -1 ∧ (¬ ak = bk ∨ (ak = bk ∧ ¬ an = bn) ∨ (ak = bk ∧ an = bn ∧ ¬ at_.toList = bs.toList)) ∧ (0 < y ∨ (y ≤ 0 ∧ z < 0))) := by
    have hle := HL.out
    have hne : ¬ x = 0 → (¬ ak = bk ∨ (ak = bk ∧ ¬ an = bn) ∨ (ak = bk ∧ an = bn ∧ ¬ at_.toList = bs.toList)) := by
      intro h
      by_cases e1 : ak = bk
      · by_cases e2 : an = bn
        · refine .inr (.inr ⟨e1, e2, fun e3 => h (HZ.out.2 ?_)⟩)
          rw [Lib.toList_data, Lib.toList_data] at e3
          rw [e1, e2, ByteArray.ext (Array.toList_inj.1 e3)]
        · exact .inr (.inl ⟨e1, e2⟩)
      · exact .inl e1
    have hy : 0 < y ∨ y ≤ 0 := by omega
    rcases V1.out with rfl | rfl | rfl
    · refine .inr (.inr ⟨rfl, hne (by omega), ?_⟩)
      rcases hy with hy | hy
      · exact .inl hy
      · exact .inr ⟨hy, (hle (by omega) hy).2 (by omega)⟩
    · have e := HZ.out.1 rfl
      simp only [V.mk.injEq] at e
      refine .inr (.inl ⟨rfl, e.1, e.2.1, e.2.2, ?_⟩)
      rcases hy with hy | hy
      · exact .inl hy
      · exact .inr ⟨hy, (hle (by omega) hy).1⟩
    · exact .inl ⟨rfl, hne (by omega)⟩
  clear k6 k7 k8 k10 HZ HL V1 V2 V3 x0 x1
  clear C4 R1 R2
  rcases D with ⟨rfl, D | ⟨rfl, D⟩ | ⟨rfl, rfl, D⟩⟩ | ⟨rfl, rfl, rfl, rfl, D | ⟨D1, D2⟩⟩ | ⟨rfl, D | ⟨rfl, D⟩ | ⟨rfl, rfl, D⟩, D3 | ⟨D3, D4⟩⟩
  all_goals
    go_wp2_with fail
    refine (known_any _).mono ?_
    rintro e w7 ⟨rfl, hb7⟩
    go_wp2_with fail
    go_ret
    refine ⟨ret_bool ?_, hB.out.trans (hb7.mono (by omega))⟩
    first | rfl | (simp; omega)

end Go.Proofs.Ytnmlbafhdnffgaa
