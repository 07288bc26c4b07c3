/- ssa: the set of all blocks. -/
import Derived.Test.YtnbgadndkepomaaGreatDoorSaSet
namespace Go.Proofs.YtnbgadndkepomaaGreatDoor
open Go.RowKit

def partA (j : Nat) : Bs := (List.range 7).map fun i => if i < j then 18446744073709551615 else 0
theorem partA_set : ∀ j, j < 7 → (u64s (partA j)).setIfInBounds j (.int .u64 (18446744073709551615 : Int)) = u64s (partA (j + 1))
  | 0, _ => rfl
  | 1, _ => rfl
  | 2, _ => rfl
  | 3, _ => rfl
  | 4, _ => rfl
  | 5, _ => rfl
  | 6, _ => rfl
  | _ + 7, h => absurd h (by omega)
set_option maxRecDepth 100000 in
set_option maxHeartbeats 1600000 in
theorem allBlocks_any {W : World} : Calls Tryz.prog 99 #[] W fun e w' => e = .returned (.agg (u64s allS)) ∧ Below W.heap.size W w' := by
  have N0 := (Box.new W 108 (u64s (partA 0))).alloc (.cells (u64s (partA 0)) 108)
  have N1 := Box.newAt (X := W.alloc (.cells (u64s (partA 0)) 108)) (n := W.heap.size + 1) (by simp) 108 (u64s (partA 0))
  have bA : Below W.heap.size W ((W.alloc (.cells (u64s (partA 0)) 108)).alloc (.cells (u64s (partA 0)) 108)) := ((Below.refl _ _).alloc (Nat.le_refl _) _).alloc (by simp) _
  have hz : u64s (partA 0) = #[.int .u64 0, .int .u64 0, .int .u64 0, .int .u64 0, .int .u64 0, .int .u64 0, .int .u64 0] := rfl
  rw [hz] at N0 N1 bA
  go_enter Tryz.func99, Tryz.ntmps99
  go_upto_region 3 with fail
  obtain ⟨w1, hw1⟩ : ∃ Y, (W.alloc (.cells #[.int .u64 0, .int .u64 0, .int .u64 0, .int .u64 0, .int .u64 0, .int .u64 0, .int .u64 0] 108)).alloc (.cells #[.int .u64 0, .int .u64 0, .int .u64 0, .int .u64 0, .int .u64 0, .int .u64 0, .int .u64 0] 108) = Y := ⟨_, rfl⟩
  rw [hw1] at N0 N1 bA
  simp only [hw1]
  clear hw1
  rw [← hz] at N0 N1
  have hz2 := Lib.hid hz
  clear hz
  go_loopw [3] (fun v wr => ∃ j : Nat, j ≤ 7 ∧ v = .int .i64 j ∧ Box wr (W.heap.size + 1) 108 (u64s (partA j)) ∧ Box wr W.heap.size 108 (u64s (partA 0)) ∧ Below W.heap.size W wr) (fun v _ => 7 - iOf v)
  case atStart => exact ⟨0, by omega, rfl, N1, N0, bA⟩
  case round =>
    rename_i wr
    clear N0 N1 bA
    obtain ⟨j, hj, rfl, N1, N0, hb⟩ := hrel
    by_cases hlt7 : j < 7
    · have c1 := N1.cell j
      have hjl : j < (partA j).length := by simp [partA]; omega
      rw [u64s_get _ _ hjl] at c1
      have f1 := N1.free j
      have hjc : (j : Int) < 7 := by omega
      have hwi : IntKind.i64.wrap ((j : Int) + 1) = ((j + 1 : Nat) : Int) := by rw [IntWalk.i64_in _ (by omega)]; omega
      have h2 := N1.set j (.int .u64 18446744073709551615)
      rw [partA_set j hlt7] at h2
      have n2 := N0.far (b' := W.heap.size + 1) (i := j) (by omega) (.int .u64 18446744073709551615)
      have hb2 := hb.setCell (show W.heap.size ≤ (⟨W.heap.size + 1, j, none⟩ : Addr).block by show W.heap.size ≤ W.heap.size + 1; omega) (.int .u64 18446744073709551615)
      clear hjl
      go_wp2_with fail
      go_roundw
      case rel => exact ⟨j + 1, by omega, by go_num, h2, n2, hb2⟩
      case measure => simp only [iOf]; omega
    · have hje : j = 7 := by omega
      subst hje
      have e7 : u64s (partA 7) = #[.int .u64 18446744073709551615, .int .u64 18446744073709551615, .int .u64 18446744073709551615, .int .u64 18446744073709551615, .int .u64 18446744073709551615, .int .u64 18446744073709551615, .int .u64 18446744073709551615] := rfl
      rw [e7] at N1
      rw [hz2.out] at N0
      clear e7 hz2
      have c0 := N1.cell 0
      have c1 := N1.cell 1
      have c2 := N1.cell 2
      have c3 := N1.cell 3
      have c4 := N1.cell 4
      have c5 := N1.cell 5
      have c6 := N1.cell 6
      have d0 := N0.cell 0
      have d1 := N0.cell 1
      have d2 := N0.cell 2
      have d3 := N0.cell 3
      have d4 := N0.cell 4
      have d5 := N0.cell 5
      have d6 := N0.cell 6
      have f0 := N0.free 0
      have f1 := N0.free 1
      have f2 := N0.free 2
      have f3 := N0.free 3
      have f4 := N0.free 4
      have f5 := N0.free 5
      have f6 := N0.free 6
      go_wp2
      have N9 : Box (((((((wr.setCell ⟨W.heap.size, 0, none⟩ (.int .u64 18446744073709551615)).setCell ⟨W.heap.size, 1, none⟩ (.int .u64 18446744073709551615)).setCell ⟨W.heap.size, 2, none⟩ (.int .u64 18446744073709551615)).setCell ⟨W.heap.size, 3, none⟩ (.int .u64 18446744073709551615)).setCell ⟨W.heap.size, 4, none⟩ (.int .u64 18446744073709551615)).setCell ⟨W.heap.size, 5, none⟩ (.int .u64 18446744073709551615)).setCell ⟨W.heap.size, 6, none⟩ (.int .u64 18446744073709551615)) W.heap.size 108 #[.int .u64 18446744073709551615, .int .u64 18446744073709551615, .int .u64 18446744073709551615, .int .u64 18446744073709551615, .int .u64 18446744073709551615, .int .u64 18446744073709551615, .int .u64 18446744073709551615] := (((((((N0.set 0 (.int .u64 18446744073709551615)).set 1 (.int .u64 18446744073709551615)).set 2 (.int .u64 18446744073709551615)).set 3 (.int .u64 18446744073709551615)).set 4 (.int .u64 18446744073709551615)).set 5 (.int .u64 18446744073709551615)).set 6 (.int .u64 18446744073709551615))
      have B9 : Below W.heap.size W (((((((wr.setCell ⟨W.heap.size, 0, none⟩ (.int .u64 18446744073709551615)).setCell ⟨W.heap.size, 1, none⟩ (.int .u64 18446744073709551615)).setCell ⟨W.heap.size, 2, none⟩ (.int .u64 18446744073709551615)).setCell ⟨W.heap.size, 3, none⟩ (.int .u64 18446744073709551615)).setCell ⟨W.heap.size, 4, none⟩ (.int .u64 18446744073709551615)).setCell ⟨W.heap.size, 5, none⟩ (.int .u64 18446744073709551615)).setCell ⟨W.heap.size, 6, none⟩ (.int .u64 18446744073709551615)) := (((((((hb.setCell (show W.heap.size ≤ (⟨W.heap.size, 0, none⟩ : Addr).block from Nat.le_refl _) (.int .u64 18446744073709551615)).setCell (show W.heap.size ≤ (⟨W.heap.size, 1, none⟩ : Addr).block from Nat.le_refl _) (.int .u64 18446744073709551615)).setCell (show W.heap.size ≤ (⟨W.heap.size, 2, none⟩ : Addr).block from Nat.le_refl _) (.int .u64 18446744073709551615)).setCell (show W.heap.size ≤ (⟨W.heap.size, 3, none⟩ : Addr).block from Nat.le_refl _) (.int .u64 18446744073709551615)).setCell (show W.heap.size ≤ (⟨W.heap.size, 4, none⟩ : Addr).block from Nat.le_refl _) (.int .u64 18446744073709551615)).setCell (show W.heap.size ≤ (⟨W.heap.size, 5, none⟩ : Addr).block from Nat.le_refl _) (.int .u64 18446744073709551615)).setCell (show W.heap.size ≤ (⟨W.heap.size, 6, none⟩ : Addr).block from Nat.le_refl _) (.int .u64 18446744073709551615))
      generalize (((((((wr.setCell ⟨W.heap.size, 0, none⟩ (.int .u64 18446744073709551615)).setCell ⟨W.heap.size, 1, none⟩ (.int .u64 18446744073709551615)).setCell ⟨W.heap.size, 2, none⟩ (.int .u64 18446744073709551615)).setCell ⟨W.heap.size, 3, none⟩ (.int .u64 18446744073709551615)).setCell ⟨W.heap.size, 4, none⟩ (.int .u64 18446744073709551615)).setCell ⟨W.heap.size, 5, none⟩ (.int .u64 18446744073709551615)).setCell ⟨W.heap.size, 6, none⟩ (.int .u64 18446744073709551615)) = w9 at N9 B9 ⊢
      have e0 := N9.cell 0
      have e1 := N9.cell 1
      have e2 := N9.cell 2
      have e3 := N9.cell 3
      have e4 := N9.cell 4
      have e5 := N9.cell 5
      have e6 := N9.cell 6
      clear c0 c1 c2 c3 c4 c5 c6 d0 d1 d2 d3 d4 d5 d6 f0 f1 f2 f3 f4 f5 f6
      refine bodyPost_ret (v := .agg #[.int .u64 18446744073709551615, .int .u64 18446744073709551615, .int .u64 18446744073709551615, .int .u64 18446744073709551615, .int .u64 18446744073709551615, .int .u64 18446744073709551615, .int .u64 18446744073709551615]) (by simp [results, Tryz.results99, go_sem, e0, e1, e2, e3, e4, e5, e6]) rfl ⟨rfl, B9⟩
end Go.Proofs.YtnbgadndkepomaaGreatDoor
