/-
  The four bytes of a number: value.appendNumber and the reference's four.
-/
import Derived.Test.YtnmlbafhdnffgaaLeaf
import Derived.Laws.AppendOwn
import Derived.Lib.AppendStr
import Derived.Deep.AppendLies
namespace Go.Proofs.Ytnmlbafhdnffgaa
open Go.RowKit Wh

theorem info_u8 : (Try.prog.info? 5).map (fun i => (i.zero, i.size, i.bytes)) = some (some (.int .u8 0), 1, 1) := by kernel_rfl

theorem B_of (y : Int) (h : 0 ≤ y) : B (UInt8.ofNat y.toNat) = .int .u8 (y % 256) := by
  unfold B
  rw [UInt8.toNat_ofNat']
  congr 1
  omega

theorem B_four (x : Int) (h0 : 0 ≤ x) (h1 : x < 4294967296) : (four x).map B = [.int .u8 (x / 16777216), .int .u8 (x / 65536 % 256), .int .u8 (x / 256 % 256), .int .u8 (x % 256)] := by
  simp only [four, List.map_cons, List.map_nil]
  rw [B_of _ (by omega), B_of _ (by omega), B_of _ (by omega), B_of _ (by omega)]
  rw [show x / 16777216 % 256 = x / 16777216 from by omega]

theorem four_any (x : Int) (h0 : 0 ≤ x) (h1 : x < 4294967296) (w : World) :
    Calls Try.prog 33 #[.int .i64 x] w fun e w' => e = .returned (.slice (some ⟨w.heap.size, 0, none⟩) 4 4) ∧ w' = w.alloc (.cells ((four x).map B).toArray 5 (0, 0)) := by
  have H := Lib.hid (B_four x h0 h1)
  go_enter Try.func33, Try.ntmps33
  go_wp2
  go_ret
  exact ⟨rfl, by rw [H.out]⟩

/-- After an append: the value that is returned owns what was there and the bytes l. -/
def Appended (base n : Nat) (xs : List Value) (l : List UInt8) (w : World) (e : Ending) (w' : World) : Prop :=
  ∃ v' : Value, e = .returned v' ∧ w'.ownsRow base 5 1 v' (n + l.length) (xs ++ l.map B) ∧ Below base w w'

theorem appendNumber_any (base : Nat) (bv : Value) (n : Nat) (xs : List Value) (x : Int) (h0 : 0 ≤ x) (h1 : x < 4294967296) (w : World)
    (hown : w.ownsRow base 5 1 bv n xs) (hbase : base ≤ w.heap.size) (hn : n ≤ 2000000000) :
    Calls Try.prog 39 #[bv, .int .u32 x] w (Appended base n xs (four x) w) := by
  have H := Lib.hid (B_four x h0 h1)
  obtain ⟨i0, hi, hz0, hz1, hz2⟩ := info_parts info_u8
  go_enter Try.func39, Try.ntmps39
  go_wp2_with (at_builtin; refine wpList_append_own _ rfl _ _ 37 rfl base 5 i0 (.int .u8 0) 1 1 Try.underlying37 hi hz0 hz1 hz2 rfl (by decide) _ _ _ rfl (hown.alloc _) ⟨w.heap.size, 0, none⟩ 4 4 [.int .u8 (x / 16777216), .int .u8 (x / 65536 % 256), .int .u8 (x / 256 % 256), .int .u8 (x % 256)] rfl rfl ?c1 ?c2 ?c3 ?c4 ?c5 ?_)
  case c1 => exact World.news_of_block (cs := #[.int .u8 (x / 16777216), .int .u8 (x / 65536 % 256), .int .u8 (x / 256 % 256), .int .u8 (x % 256)]) (t := 5) (fr := (0, 0)) (heap_alloc_new w _)
  case c2 => simp [Value.oneCell']
  case c3 => simp [maxLen]; omega
  case c4 => omega
  case c5 => simp; omega
  intro v' w' hown' hgrow _
  go_wp2
  go_ret
  refine ⟨v', rfl, by rw [H.out]; exact hown', ?_⟩
  exact ((Below.refl _ _).alloc hbase _).grown hgrow (by simp; omega) (fun k hk => (hown.lt k hk).1)

end Go.Proofs.Ytnmlbafhdnffgaa
