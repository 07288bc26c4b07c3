/- The look-up of operators in maps that are made at each call. -/
import Derived.Test.YteibkmignbbekaaMeth3
namespace Go.Proofs.Yteibkmignbbekaa
open Go.RowKit

theorem findArithmetic_u0 (w : World) : (Instr.mapUpdate 59 (.map (some w.heap.size)) (.int .i64 2) (.func (.func 44) #[] #[])).run Try.prog (w.alloc (.map #[] 0)) = .ok () (w.alloc (.map #[{ key := .int .i64 2, val := .func (.func 44) #[] #[], born := 0 }] 1)) :=
  upd_last w Try.underlying59 Try.underlying3 rfl rfl
theorem findArithmetic_u1 (w : World) : (Instr.mapUpdate 59 (.map (some w.heap.size)) (.int .i64 3) (.func (.func 45) #[] #[])).run Try.prog (w.alloc (.map #[{ key := .int .i64 2, val := .func (.func 44) #[] #[], born := 0 }] 1)) = .ok () (w.alloc (.map #[{ key := .int .i64 2, val := .func (.func 44) #[] #[], born := 0 }, { key := .int .i64 3, val := .func (.func 45) #[] #[], born := 1 }] 2)) :=
  upd_last w Try.underlying59 Try.underlying3 rfl rfl
theorem findArithmetic_u2 (w : World) : (Instr.mapUpdate 59 (.map (some w.heap.size)) (.int .i64 4) (.func (.func 46) #[] #[])).run Try.prog (w.alloc (.map #[{ key := .int .i64 2, val := .func (.func 44) #[] #[], born := 0 }, { key := .int .i64 3, val := .func (.func 45) #[] #[], born := 1 }] 2)) = .ok () (w.alloc (.map #[{ key := .int .i64 2, val := .func (.func 44) #[] #[], born := 0 }, { key := .int .i64 3, val := .func (.func 45) #[] #[], born := 1 }, { key := .int .i64 4, val := .func (.func 46) #[] #[], born := 2 }] 3)) :=
  upd_last w Try.underlying59 Try.underlying3 rfl rfl
theorem findArithmetic_u3 (w : World) : (Instr.mapUpdate 59 (.map (some w.heap.size)) (.int .i64 5) (.func (.func 47) #[] #[])).run Try.prog (w.alloc (.map #[{ key := .int .i64 2, val := .func (.func 44) #[] #[], born := 0 }, { key := .int .i64 3, val := .func (.func 45) #[] #[], born := 1 }, { key := .int .i64 4, val := .func (.func 46) #[] #[], born := 2 }] 3)) = .ok () (w.alloc (.map #[{ key := .int .i64 2, val := .func (.func 44) #[] #[], born := 0 }, { key := .int .i64 3, val := .func (.func 45) #[] #[], born := 1 }, { key := .int .i64 4, val := .func (.func 46) #[] #[], born := 2 }, { key := .int .i64 5, val := .func (.func 47) #[] #[], born := 3 }] 4)) :=
  upd_last w Try.underlying59 Try.underlying3 rfl rfl
theorem findArithmetic_u4 (w : World) : (Instr.mapUpdate 59 (.map (some w.heap.size)) (.int .i64 6) (.func (.func 48) #[] #[])).run Try.prog (w.alloc (.map #[{ key := .int .i64 2, val := .func (.func 44) #[] #[], born := 0 }, { key := .int .i64 3, val := .func (.func 45) #[] #[], born := 1 }, { key := .int .i64 4, val := .func (.func 46) #[] #[], born := 2 }, { key := .int .i64 5, val := .func (.func 47) #[] #[], born := 3 }] 4)) = .ok () (w.alloc (.map #[{ key := .int .i64 2, val := .func (.func 44) #[] #[], born := 0 }, { key := .int .i64 3, val := .func (.func 45) #[] #[], born := 1 }, { key := .int .i64 4, val := .func (.func 46) #[] #[], born := 2 }, { key := .int .i64 5, val := .func (.func 47) #[] #[], born := 3 }, { key := .int .i64 6, val := .func (.func 48) #[] #[], born := 4 }] 5)) :=
  upd_last w Try.underlying59 Try.underlying3 rfl rfl
theorem findArithmetic_l0 (w : World) : (Instr.lookup 59 (.map (some w.heap.size)) (.int .i64 2) true).run Try.prog (w.alloc (.map #[{ key := .int .i64 2, val := .func (.func 44) #[] #[], born := 0 }, { key := .int .i64 3, val := .func (.func 45) #[] #[], born := 1 }, { key := .int .i64 4, val := .func (.func 46) #[] #[], born := 2 }, { key := .int .i64 5, val := .func (.func 47) #[] #[], born := 3 }, { key := .int .i64 6, val := .func (.func 48) #[] #[], born := 4 }] 5)) = .ok (.tuple #[.func (.func 44) #[] #[], .bool true]) (w.alloc (.map #[{ key := .int .i64 2, val := .func (.func 44) #[] #[], born := 0 }, { key := .int .i64 3, val := .func (.func 45) #[] #[], born := 1 }, { key := .int .i64 4, val := .func (.func 46) #[] #[], born := 2 }, { key := .int .i64 5, val := .func (.func 47) #[] #[], born := 3 }, { key := .int .i64 6, val := .func (.func 48) #[] #[], born := 4 }] 5)) :=
  look_last (i := 0) w Try.underlying59 Try.underlying3 rfl rfl
set_option maxHeartbeats 400000 in
theorem findArithmetic_2 (w : World) :
    Calls Try.prog 41 #[.int .i64 2] w fun e w' => e = .returned (.tuple #[.func (.func 44) #[] #[], .bool true]) ∧ Below w.heap.size w w' := by
  have hmm := @run_makeMap Try.prog
  have u0 := findArithmetic_u0
  have u1 := findArithmetic_u1
  have u2 := findArithmetic_u2
  have u3 := findArithmetic_u3
  have u4 := findArithmetic_u4
  have hl := findArithmetic_l0
  go_enter Try.func41, Try.ntmps41
  go_wp2
  go_ret2
  exact ⟨rfl, (Below.refl _ _).alloc (Nat.le_refl _) _⟩
theorem findArithmetic_l1 (w : World) : (Instr.lookup 59 (.map (some w.heap.size)) (.int .i64 3) true).run Try.prog (w.alloc (.map #[{ key := .int .i64 2, val := .func (.func 44) #[] #[], born := 0 }, { key := .int .i64 3, val := .func (.func 45) #[] #[], born := 1 }, { key := .int .i64 4, val := .func (.func 46) #[] #[], born := 2 }, { key := .int .i64 5, val := .func (.func 47) #[] #[], born := 3 }, { key := .int .i64 6, val := .func (.func 48) #[] #[], born := 4 }] 5)) = .ok (.tuple #[.func (.func 45) #[] #[], .bool true]) (w.alloc (.map #[{ key := .int .i64 2, val := .func (.func 44) #[] #[], born := 0 }, { key := .int .i64 3, val := .func (.func 45) #[] #[], born := 1 }, { key := .int .i64 4, val := .func (.func 46) #[] #[], born := 2 }, { key := .int .i64 5, val := .func (.func 47) #[] #[], born := 3 }, { key := .int .i64 6, val := .func (.func 48) #[] #[], born := 4 }] 5)) :=
  look_last (i := 1) w Try.underlying59 Try.underlying3 rfl rfl
set_option maxHeartbeats 400000 in
theorem findArithmetic_3 (w : World) :
    Calls Try.prog 41 #[.int .i64 3] w fun e w' => e = .returned (.tuple #[.func (.func 45) #[] #[], .bool true]) ∧ Below w.heap.size w w' := by
  have hmm := @run_makeMap Try.prog
  have u0 := findArithmetic_u0
  have u1 := findArithmetic_u1
  have u2 := findArithmetic_u2
  have u3 := findArithmetic_u3
  have u4 := findArithmetic_u4
  have hl := findArithmetic_l1
  go_enter Try.func41, Try.ntmps41
  go_wp2
  go_ret2
  exact ⟨rfl, (Below.refl _ _).alloc (Nat.le_refl _) _⟩
theorem findArithmetic_l2 (w : World) : (Instr.lookup 59 (.map (some w.heap.size)) (.int .i64 4) true).run Try.prog (w.alloc (.map #[{ key := .int .i64 2, val := .func (.func 44) #[] #[], born := 0 }, { key := .int .i64 3, val := .func (.func 45) #[] #[], born := 1 }, { key := .int .i64 4, val := .func (.func 46) #[] #[], born := 2 }, { key := .int .i64 5, val := .func (.func 47) #[] #[], born := 3 }, { key := .int .i64 6, val := .func (.func 48) #[] #[], born := 4 }] 5)) = .ok (.tuple #[.func (.func 46) #[] #[], .bool true]) (w.alloc (.map #[{ key := .int .i64 2, val := .func (.func 44) #[] #[], born := 0 }, { key := .int .i64 3, val := .func (.func 45) #[] #[], born := 1 }, { key := .int .i64 4, val := .func (.func 46) #[] #[], born := 2 }, { key := .int .i64 5, val := .func (.func 47) #[] #[], born := 3 }, { key := .int .i64 6, val := .func (.func 48) #[] #[], born := 4 }] 5)) :=
  look_last (i := 2) w Try.underlying59 Try.underlying3 rfl rfl
set_option maxHeartbeats 400000 in
theorem findArithmetic_4 (w : World) :
    Calls Try.prog 41 #[.int .i64 4] w fun e w' => e = .returned (.tuple #[.func (.func 46) #[] #[], .bool true]) ∧ Below w.heap.size w w' := by
  have hmm := @run_makeMap Try.prog
  have u0 := findArithmetic_u0
  have u1 := findArithmetic_u1
  have u2 := findArithmetic_u2
  have u3 := findArithmetic_u3
  have u4 := findArithmetic_u4
  have hl := findArithmetic_l2
  go_enter Try.func41, Try.ntmps41
  go_wp2
  go_ret2
  exact ⟨rfl, (Below.refl _ _).alloc (Nat.le_refl _) _⟩
theorem findArithmetic_l3 (w : World) : (Instr.lookup 59 (.map (some w.heap.size)) (.int .i64 5) true).run Try.prog (w.alloc (.map #[{ key := .int .i64 2, val := .func (.func 44) #[] #[], born := 0 }, { key := .int .i64 3, val := .func (.func 45) #[] #[], born := 1 }, { key := .int .i64 4, val := .func (.func 46) #[] #[], born := 2 }, { key := .int .i64 5, val := .func (.func 47) #[] #[], born := 3 }, { key := .int .i64 6, val := .func (.func 48) #[] #[], born := 4 }] 5)) = .ok (.tuple #[.func (.func 47) #[] #[], .bool true]) (w.alloc (.map #[{ key := .int .i64 2, val := .func (.func 44) #[] #[], born := 0 }, { key := .int .i64 3, val := .func (.func 45) #[] #[], born := 1 }, { key := .int .i64 4, val := .func (.func 46) #[] #[], born := 2 }, { key := .int .i64 5, val := .func (.func 47) #[] #[], born := 3 }, { key := .int .i64 6, val := .func (.func 48) #[] #[], born := 4 }] 5)) :=
  look_last (i := 3) w Try.underlying59 Try.underlying3 rfl rfl
set_option maxHeartbeats 400000 in
theorem findArithmetic_5 (w : World) :
    Calls Try.prog 41 #[.int .i64 5] w fun e w' => e = .returned (.tuple #[.func (.func 47) #[] #[], .bool true]) ∧ Below w.heap.size w w' := by
  have hmm := @run_makeMap Try.prog
  have u0 := findArithmetic_u0
  have u1 := findArithmetic_u1
  have u2 := findArithmetic_u2
  have u3 := findArithmetic_u3
  have u4 := findArithmetic_u4
  have hl := findArithmetic_l3
  go_enter Try.func41, Try.ntmps41
  go_wp2
  go_ret2
  exact ⟨rfl, (Below.refl _ _).alloc (Nat.le_refl _) _⟩
theorem findArithmetic_l4 (w : World) : (Instr.lookup 59 (.map (some w.heap.size)) (.int .i64 6) true).run Try.prog (w.alloc (.map #[{ key := .int .i64 2, val := .func (.func 44) #[] #[], born := 0 }, { key := .int .i64 3, val := .func (.func 45) #[] #[], born := 1 }, { key := .int .i64 4, val := .func (.func 46) #[] #[], born := 2 }, { key := .int .i64 5, val := .func (.func 47) #[] #[], born := 3 }, { key := .int .i64 6, val := .func (.func 48) #[] #[], born := 4 }] 5)) = .ok (.tuple #[.func (.func 48) #[] #[], .bool true]) (w.alloc (.map #[{ key := .int .i64 2, val := .func (.func 44) #[] #[], born := 0 }, { key := .int .i64 3, val := .func (.func 45) #[] #[], born := 1 }, { key := .int .i64 4, val := .func (.func 46) #[] #[], born := 2 }, { key := .int .i64 5, val := .func (.func 47) #[] #[], born := 3 }, { key := .int .i64 6, val := .func (.func 48) #[] #[], born := 4 }] 5)) :=
  look_last (i := 4) w Try.underlying59 Try.underlying3 rfl rfl
set_option maxHeartbeats 400000 in
theorem findArithmetic_6 (w : World) :
    Calls Try.prog 41 #[.int .i64 6] w fun e w' => e = .returned (.tuple #[.func (.func 48) #[] #[], .bool true]) ∧ Below w.heap.size w w' := by
  have hmm := @run_makeMap Try.prog
  have u0 := findArithmetic_u0
  have u1 := findArithmetic_u1
  have u2 := findArithmetic_u2
  have u3 := findArithmetic_u3
  have u4 := findArithmetic_u4
  have hl := findArithmetic_l4
  go_enter Try.func41, Try.ntmps41
  go_wp2
  go_ret2
  exact ⟨rfl, (Below.refl _ _).alloc (Nat.le_refl _) _⟩
theorem findArithmetic_ln (op : Int) (h : op < 2) (w : World) : (Instr.lookup 59 (.map (some w.heap.size)) (.int .i64 op) true).run Try.prog (w.alloc (.map #[{ key := .int .i64 2, val := .func (.func 44) #[] #[], born := 0 }, { key := .int .i64 3, val := .func (.func 45) #[] #[], born := 1 }, { key := .int .i64 4, val := .func (.func 46) #[] #[], born := 2 }, { key := .int .i64 5, val := .func (.func 47) #[] #[], born := 3 }, { key := .int .i64 6, val := .func (.func 48) #[] #[], born := 4 }] 5)) = .ok (.tuple #[.nilFunc, .bool false]) (w.alloc (.map #[{ key := .int .i64 2, val := .func (.func 44) #[] #[], born := 0 }, { key := .int .i64 3, val := .func (.func 45) #[] #[], born := 1 }, { key := .int .i64 4, val := .func (.func 46) #[] #[], born := 2 }, { key := .int .i64 5, val := .func (.func 47) #[] #[], born := 3 }, { key := .int .i64 6, val := .func (.func 48) #[] #[], born := 4 }] 5)) := by
  refine look_last_no w Try.underlying59 Try.underlying3 rfl ?_ Try.zeroOp
  have n2 : (op == 2) = false := by simp; omega
  have n3 : (op == 3) = false := by simp; omega
  have n4 : (op == 4) = false := by simp; omega
  have n5 : (op == 5) = false := by simp; omega
  have n6 : (op == 6) = false := by simp; omega
  simp [Instr.findNow, Instr.sameNow, n2, n3, n4, n5, n6]
set_option maxHeartbeats 400000 in
theorem findArithmetic_none (op : Int) (w : World) (h : op < 2) :
    Calls Try.prog 41 #[.int .i64 op] w fun e w' => e = .returned (.tuple #[.nilFunc, .bool false]) ∧ Below w.heap.size w w' := by
  have hmm := @run_makeMap Try.prog
  have u0 := findArithmetic_u0
  have u1 := findArithmetic_u1
  have u2 := findArithmetic_u2
  have u3 := findArithmetic_u3
  have u4 := findArithmetic_u4
  have hl := findArithmetic_ln op h
  clear h
  go_enter Try.func41, Try.ntmps41
  go_wp2
  go_ret2
  exact ⟨rfl, (Below.refl _ _).alloc (Nat.le_refl _) _⟩
theorem findBitwise_u0 (w : World) : (Instr.mapUpdate 59 (.map (some w.heap.size)) (.int .i64 7) (.func (.func 49) #[] #[])).run Try.prog (w.alloc (.map #[] 0)) = .ok () (w.alloc (.map #[{ key := .int .i64 7, val := .func (.func 49) #[] #[], born := 0 }] 1)) :=
  upd_last w Try.underlying59 Try.underlying3 rfl rfl
theorem findBitwise_u1 (w : World) : (Instr.mapUpdate 59 (.map (some w.heap.size)) (.int .i64 8) (.func (.func 50) #[] #[])).run Try.prog (w.alloc (.map #[{ key := .int .i64 7, val := .func (.func 49) #[] #[], born := 0 }] 1)) = .ok () (w.alloc (.map #[{ key := .int .i64 7, val := .func (.func 49) #[] #[], born := 0 }, { key := .int .i64 8, val := .func (.func 50) #[] #[], born := 1 }] 2)) :=
  upd_last w Try.underlying59 Try.underlying3 rfl rfl
theorem findBitwise_u2 (w : World) : (Instr.mapUpdate 59 (.map (some w.heap.size)) (.int .i64 9) (.func (.func 51) #[] #[])).run Try.prog (w.alloc (.map #[{ key := .int .i64 7, val := .func (.func 49) #[] #[], born := 0 }, { key := .int .i64 8, val := .func (.func 50) #[] #[], born := 1 }] 2)) = .ok () (w.alloc (.map #[{ key := .int .i64 7, val := .func (.func 49) #[] #[], born := 0 }, { key := .int .i64 8, val := .func (.func 50) #[] #[], born := 1 }, { key := .int .i64 9, val := .func (.func 51) #[] #[], born := 2 }] 3)) :=
  upd_last w Try.underlying59 Try.underlying3 rfl rfl
theorem findBitwise_u3 (w : World) : (Instr.mapUpdate 59 (.map (some w.heap.size)) (.int .i64 10) (.func (.func 52) #[] #[])).run Try.prog (w.alloc (.map #[{ key := .int .i64 7, val := .func (.func 49) #[] #[], born := 0 }, { key := .int .i64 8, val := .func (.func 50) #[] #[], born := 1 }, { key := .int .i64 9, val := .func (.func 51) #[] #[], born := 2 }] 3)) = .ok () (w.alloc (.map #[{ key := .int .i64 7, val := .func (.func 49) #[] #[], born := 0 }, { key := .int .i64 8, val := .func (.func 50) #[] #[], born := 1 }, { key := .int .i64 9, val := .func (.func 51) #[] #[], born := 2 }, { key := .int .i64 10, val := .func (.func 52) #[] #[], born := 3 }] 4)) :=
  upd_last w Try.underlying59 Try.underlying3 rfl rfl
theorem findBitwise_u4 (w : World) : (Instr.mapUpdate 59 (.map (some w.heap.size)) (.int .i64 11) (.func (.func 53) #[] #[])).run Try.prog (w.alloc (.map #[{ key := .int .i64 7, val := .func (.func 49) #[] #[], born := 0 }, { key := .int .i64 8, val := .func (.func 50) #[] #[], born := 1 }, { key := .int .i64 9, val := .func (.func 51) #[] #[], born := 2 }, { key := .int .i64 10, val := .func (.func 52) #[] #[], born := 3 }] 4)) = .ok () (w.alloc (.map #[{ key := .int .i64 7, val := .func (.func 49) #[] #[], born := 0 }, { key := .int .i64 8, val := .func (.func 50) #[] #[], born := 1 }, { key := .int .i64 9, val := .func (.func 51) #[] #[], born := 2 }, { key := .int .i64 10, val := .func (.func 52) #[] #[], born := 3 }, { key := .int .i64 11, val := .func (.func 53) #[] #[], born := 4 }] 5)) :=
  upd_last w Try.underlying59 Try.underlying3 rfl rfl
theorem findBitwise_l0 (w : World) : (Instr.lookup 59 (.map (some w.heap.size)) (.int .i64 7) true).run Try.prog (w.alloc (.map #[{ key := .int .i64 7, val := .func (.func 49) #[] #[], born := 0 }, { key := .int .i64 8, val := .func (.func 50) #[] #[], born := 1 }, { key := .int .i64 9, val := .func (.func 51) #[] #[], born := 2 }, { key := .int .i64 10, val := .func (.func 52) #[] #[], born := 3 }, { key := .int .i64 11, val := .func (.func 53) #[] #[], born := 4 }] 5)) = .ok (.tuple #[.func (.func 49) #[] #[], .bool true]) (w.alloc (.map #[{ key := .int .i64 7, val := .func (.func 49) #[] #[], born := 0 }, { key := .int .i64 8, val := .func (.func 50) #[] #[], born := 1 }, { key := .int .i64 9, val := .func (.func 51) #[] #[], born := 2 }, { key := .int .i64 10, val := .func (.func 52) #[] #[], born := 3 }, { key := .int .i64 11, val := .func (.func 53) #[] #[], born := 4 }] 5)) :=
  look_last (i := 0) w Try.underlying59 Try.underlying3 rfl rfl
set_option maxHeartbeats 400000 in
theorem findBitwise_7 (w : World) :
    Calls Try.prog 42 #[.int .i64 7] w fun e w' => e = .returned (.tuple #[.func (.func 49) #[] #[], .bool true]) ∧ Below w.heap.size w w' := by
  have hmm := @run_makeMap Try.prog
  have u0 := findBitwise_u0
  have u1 := findBitwise_u1
  have u2 := findBitwise_u2
  have u3 := findBitwise_u3
  have u4 := findBitwise_u4
  have hl := findBitwise_l0
  go_enter Try.func42, Try.ntmps42
  go_wp2
  go_ret2
  exact ⟨rfl, (Below.refl _ _).alloc (Nat.le_refl _) _⟩
theorem findBitwise_l1 (w : World) : (Instr.lookup 59 (.map (some w.heap.size)) (.int .i64 8) true).run Try.prog (w.alloc (.map #[{ key := .int .i64 7, val := .func (.func 49) #[] #[], born := 0 }, { key := .int .i64 8, val := .func (.func 50) #[] #[], born := 1 }, { key := .int .i64 9, val := .func (.func 51) #[] #[], born := 2 }, { key := .int .i64 10, val := .func (.func 52) #[] #[], born := 3 }, { key := .int .i64 11, val := .func (.func 53) #[] #[], born := 4 }] 5)) = .ok (.tuple #[.func (.func 50) #[] #[], .bool true]) (w.alloc (.map #[{ key := .int .i64 7, val := .func (.func 49) #[] #[], born := 0 }, { key := .int .i64 8, val := .func (.func 50) #[] #[], born := 1 }, { key := .int .i64 9, val := .func (.func 51) #[] #[], born := 2 }, { key := .int .i64 10, val := .func (.func 52) #[] #[], born := 3 }, { key := .int .i64 11, val := .func (.func 53) #[] #[], born := 4 }] 5)) :=
  look_last (i := 1) w Try.underlying59 Try.underlying3 rfl rfl
set_option maxHeartbeats 400000 in
theorem findBitwise_8 (w : World) :
    Calls Try.prog 42 #[.int .i64 8] w fun e w' => e = .returned (.tuple #[.func (.func 50) #[] #[], .bool true]) ∧ Below w.heap.size w w' := by
  have hmm := @run_makeMap Try.prog
  have u0 := findBitwise_u0
  have u1 := findBitwise_u1
  have u2 := findBitwise_u2
  have u3 := findBitwise_u3
  have u4 := findBitwise_u4
  have hl := findBitwise_l1
  go_enter Try.func42, Try.ntmps42
  go_wp2
  go_ret2
  exact ⟨rfl, (Below.refl _ _).alloc (Nat.le_refl _) _⟩
theorem findBitwise_l2 (w : World) : (Instr.lookup 59 (.map (some w.heap.size)) (.int .i64 9) true).run Try.prog (w.alloc (.map #[{ key := .int .i64 7, val := .func (.func 49) #[] #[], born := 0 }, { key := .int .i64 8, val := .func (.func 50) #[] #[], born := 1 }, { key := .int .i64 9, val := .func (.func 51) #[] #[], born := 2 }, { key := .int .i64 10, val := .func (.func 52) #[] #[], born := 3 }, { key := .int .i64 11, val := .func (.func 53) #[] #[], born := 4 }] 5)) = .ok (.tuple #[.func (.func 51) #[] #[], .bool true]) (w.alloc (.map #[{ key := .int .i64 7, val := .func (.func 49) #[] #[], born := 0 }, { key := .int .i64 8, val := .func (.func 50) #[] #[], born := 1 }, { key := .int .i64 9, val := .func (.func 51) #[] #[], born := 2 }, { key := .int .i64 10, val := .func (.func 52) #[] #[], born := 3 }, { key := .int .i64 11, val := .func (.func 53) #[] #[], born := 4 }] 5)) :=
  look_last (i := 2) w Try.underlying59 Try.underlying3 rfl rfl
set_option maxHeartbeats 400000 in
theorem findBitwise_9 (w : World) :
    Calls Try.prog 42 #[.int .i64 9] w fun e w' => e = .returned (.tuple #[.func (.func 51) #[] #[], .bool true]) ∧ Below w.heap.size w w' := by
  have hmm := @run_makeMap Try.prog
  have u0 := findBitwise_u0
  have u1 := findBitwise_u1
  have u2 := findBitwise_u2
  have u3 := findBitwise_u3
  have u4 := findBitwise_u4
  have hl := findBitwise_l2
  go_enter Try.func42, Try.ntmps42
  go_wp2
  go_ret2
  exact ⟨rfl, (Below.refl _ _).alloc (Nat.le_refl _) _⟩
theorem findBitwise_l3 (w : World) : (Instr.lookup 59 (.map (some w.heap.size)) (.int .i64 10) true).run Try.prog (w.alloc (.map #[{ key := .int .i64 7, val := .func (.func 49) #[] #[], born := 0 }, { key := .int .i64 8, val := .func (.func 50) #[] #[], born := 1 }, { key := .int .i64 9, val := .func (.func 51) #[] #[], born := 2 }, { key := .int .i64 10, val := .func (.func 52) #[] #[], born := 3 }, { key := .int .i64 11, val := .func (.func 53) #[] #[], born := 4 }] 5)) = .ok (.tuple #[.func (.func 52) #[] #[], .bool true]) (w.alloc (.map #[{ key := .int .i64 7, val := .func (.func 49) #[] #[], born := 0 }, { key := .int .i64 8, val := .func (.func 50) #[] #[], born := 1 }, { key := .int .i64 9, val := .func (.func 51) #[] #[], born := 2 }, { key := .int .i64 10, val := .func (.func 52) #[] #[], born := 3 }, { key := .int .i64 11, val := .func (.func 53) #[] #[], born := 4 }] 5)) :=
  look_last (i := 3) w Try.underlying59 Try.underlying3 rfl rfl
set_option maxHeartbeats 400000 in
theorem findBitwise_10 (w : World) :
    Calls Try.prog 42 #[.int .i64 10] w fun e w' => e = .returned (.tuple #[.func (.func 52) #[] #[], .bool true]) ∧ Below w.heap.size w w' := by
  have hmm := @run_makeMap Try.prog
  have u0 := findBitwise_u0
  have u1 := findBitwise_u1
  have u2 := findBitwise_u2
  have u3 := findBitwise_u3
  have u4 := findBitwise_u4
  have hl := findBitwise_l3
  go_enter Try.func42, Try.ntmps42
  go_wp2
  go_ret2
  exact ⟨rfl, (Below.refl _ _).alloc (Nat.le_refl _) _⟩
theorem findBitwise_l4 (w : World) : (Instr.lookup 59 (.map (some w.heap.size)) (.int .i64 11) true).run Try.prog (w.alloc (.map #[{ key := .int .i64 7, val := .func (.func 49) #[] #[], born := 0 }, { key := .int .i64 8, val := .func (.func 50) #[] #[], born := 1 }, { key := .int .i64 9, val := .func (.func 51) #[] #[], born := 2 }, { key := .int .i64 10, val := .func (.func 52) #[] #[], born := 3 }, { key := .int .i64 11, val := .func (.func 53) #[] #[], born := 4 }] 5)) = .ok (.tuple #[.func (.func 53) #[] #[], .bool true]) (w.alloc (.map #[{ key := .int .i64 7, val := .func (.func 49) #[] #[], born := 0 }, { key := .int .i64 8, val := .func (.func 50) #[] #[], born := 1 }, { key := .int .i64 9, val := .func (.func 51) #[] #[], born := 2 }, { key := .int .i64 10, val := .func (.func 52) #[] #[], born := 3 }, { key := .int .i64 11, val := .func (.func 53) #[] #[], born := 4 }] 5)) :=
  look_last (i := 4) w Try.underlying59 Try.underlying3 rfl rfl
set_option maxHeartbeats 400000 in
theorem findBitwise_11 (w : World) :
    Calls Try.prog 42 #[.int .i64 11] w fun e w' => e = .returned (.tuple #[.func (.func 53) #[] #[], .bool true]) ∧ Below w.heap.size w w' := by
  have hmm := @run_makeMap Try.prog
  have u0 := findBitwise_u0
  have u1 := findBitwise_u1
  have u2 := findBitwise_u2
  have u3 := findBitwise_u3
  have u4 := findBitwise_u4
  have hl := findBitwise_l4
  go_enter Try.func42, Try.ntmps42
  go_wp2
  go_ret2
  exact ⟨rfl, (Below.refl _ _).alloc (Nat.le_refl _) _⟩
theorem findComparison_u0 (w : World) : (Instr.mapUpdate 59 (.map (some w.heap.size)) (.int .i64 12) (.func (.func 54) #[] #[])).run Try.prog (w.alloc (.map #[] 0)) = .ok () (w.alloc (.map #[{ key := .int .i64 12, val := .func (.func 54) #[] #[], born := 0 }] 1)) :=
  upd_last w Try.underlying59 Try.underlying3 rfl rfl
theorem findComparison_u1 (w : World) : (Instr.mapUpdate 59 (.map (some w.heap.size)) (.int .i64 13) (.func (.func 55) #[] #[])).run Try.prog (w.alloc (.map #[{ key := .int .i64 12, val := .func (.func 54) #[] #[], born := 0 }] 1)) = .ok () (w.alloc (.map #[{ key := .int .i64 12, val := .func (.func 54) #[] #[], born := 0 }, { key := .int .i64 13, val := .func (.func 55) #[] #[], born := 1 }] 2)) :=
  upd_last w Try.underlying59 Try.underlying3 rfl rfl
theorem findComparison_u2 (w : World) : (Instr.mapUpdate 59 (.map (some w.heap.size)) (.int .i64 14) (.func (.func 56) #[] #[])).run Try.prog (w.alloc (.map #[{ key := .int .i64 12, val := .func (.func 54) #[] #[], born := 0 }, { key := .int .i64 13, val := .func (.func 55) #[] #[], born := 1 }] 2)) = .ok () (w.alloc (.map #[{ key := .int .i64 12, val := .func (.func 54) #[] #[], born := 0 }, { key := .int .i64 13, val := .func (.func 55) #[] #[], born := 1 }, { key := .int .i64 14, val := .func (.func 56) #[] #[], born := 2 }] 3)) :=
  upd_last w Try.underlying59 Try.underlying3 rfl rfl
theorem findComparison_l0 (w : World) : (Instr.lookup 59 (.map (some w.heap.size)) (.int .i64 12) true).run Try.prog (w.alloc (.map #[{ key := .int .i64 12, val := .func (.func 54) #[] #[], born := 0 }, { key := .int .i64 13, val := .func (.func 55) #[] #[], born := 1 }, { key := .int .i64 14, val := .func (.func 56) #[] #[], born := 2 }] 3)) = .ok (.tuple #[.func (.func 54) #[] #[], .bool true]) (w.alloc (.map #[{ key := .int .i64 12, val := .func (.func 54) #[] #[], born := 0 }, { key := .int .i64 13, val := .func (.func 55) #[] #[], born := 1 }, { key := .int .i64 14, val := .func (.func 56) #[] #[], born := 2 }] 3)) :=
  look_last (i := 0) w Try.underlying59 Try.underlying3 rfl rfl
set_option maxHeartbeats 400000 in
theorem findComparison_12 (w : World) :
    Calls Try.prog 43 #[.int .i64 12] w fun e w' => e = .returned (.tuple #[.func (.func 54) #[] #[], .bool true]) ∧ Below w.heap.size w w' := by
  have hmm := @run_makeMap Try.prog
  have u0 := findComparison_u0
  have u1 := findComparison_u1
  have u2 := findComparison_u2
  have hl := findComparison_l0
  go_enter Try.func43, Try.ntmps43
  go_wp2
  go_ret2
  exact ⟨rfl, (Below.refl _ _).alloc (Nat.le_refl _) _⟩
theorem findComparison_l1 (w : World) : (Instr.lookup 59 (.map (some w.heap.size)) (.int .i64 13) true).run Try.prog (w.alloc (.map #[{ key := .int .i64 12, val := .func (.func 54) #[] #[], born := 0 }, { key := .int .i64 13, val := .func (.func 55) #[] #[], born := 1 }, { key := .int .i64 14, val := .func (.func 56) #[] #[], born := 2 }] 3)) = .ok (.tuple #[.func (.func 55) #[] #[], .bool true]) (w.alloc (.map #[{ key := .int .i64 12, val := .func (.func 54) #[] #[], born := 0 }, { key := .int .i64 13, val := .func (.func 55) #[] #[], born := 1 }, { key := .int .i64 14, val := .func (.func 56) #[] #[], born := 2 }] 3)) :=
  look_last (i := 1) w Try.underlying59 Try.underlying3 rfl rfl
set_option maxHeartbeats 400000 in
theorem findComparison_13 (w : World) :
    Calls Try.prog 43 #[.int .i64 13] w fun e w' => e = .returned (.tuple #[.func (.func 55) #[] #[], .bool true]) ∧ Below w.heap.size w w' := by
  have hmm := @run_makeMap Try.prog
  have u0 := findComparison_u0
  have u1 := findComparison_u1
  have u2 := findComparison_u2
  have hl := findComparison_l1
  go_enter Try.func43, Try.ntmps43
  go_wp2
  go_ret2
  exact ⟨rfl, (Below.refl _ _).alloc (Nat.le_refl _) _⟩
theorem findComparison_l2 (w : World) : (Instr.lookup 59 (.map (some w.heap.size)) (.int .i64 14) true).run Try.prog (w.alloc (.map #[{ key := .int .i64 12, val := .func (.func 54) #[] #[], born := 0 }, { key := .int .i64 13, val := .func (.func 55) #[] #[], born := 1 }, { key := .int .i64 14, val := .func (.func 56) #[] #[], born := 2 }] 3)) = .ok (.tuple #[.func (.func 56) #[] #[], .bool true]) (w.alloc (.map #[{ key := .int .i64 12, val := .func (.func 54) #[] #[], born := 0 }, { key := .int .i64 13, val := .func (.func 55) #[] #[], born := 1 }, { key := .int .i64 14, val := .func (.func 56) #[] #[], born := 2 }] 3)) :=
  look_last (i := 2) w Try.underlying59 Try.underlying3 rfl rfl
set_option maxHeartbeats 400000 in
theorem findComparison_14 (w : World) :
    Calls Try.prog 43 #[.int .i64 14] w fun e w' => e = .returned (.tuple #[.func (.func 56) #[] #[], .bool true]) ∧ Below w.heap.size w w' := by
  have hmm := @run_makeMap Try.prog
  have u0 := findComparison_u0
  have u1 := findComparison_u1
  have u2 := findComparison_u2
  have hl := findComparison_l2
  go_enter Try.func43, Try.ntmps43
  go_wp2
  go_ret2
  exact ⟨rfl, (Below.refl _ _).alloc (Nat.le_refl _) _⟩
theorem findComparison_ln (op : Int) (h : 14 < op) (w : World) : (Instr.lookup 59 (.map (some w.heap.size)) (.int .i64 op) true).run Try.prog (w.alloc (.map #[{ key := .int .i64 12, val := .func (.func 54) #[] #[], born := 0 }, { key := .int .i64 13, val := .func (.func 55) #[] #[], born := 1 }, { key := .int .i64 14, val := .func (.func 56) #[] #[], born := 2 }] 3)) = .ok (.tuple #[.nilFunc, .bool false]) (w.alloc (.map #[{ key := .int .i64 12, val := .func (.func 54) #[] #[], born := 0 }, { key := .int .i64 13, val := .func (.func 55) #[] #[], born := 1 }, { key := .int .i64 14, val := .func (.func 56) #[] #[], born := 2 }] 3)) := by
  refine look_last_no w Try.underlying59 Try.underlying3 rfl ?_ Try.zeroOp
  have n12 : (op == 12) = false := by simp; omega
  have n13 : (op == 13) = false := by simp; omega
  have n14 : (op == 14) = false := by simp; omega
  simp [Instr.findNow, Instr.sameNow, n12, n13, n14]
set_option maxHeartbeats 400000 in
theorem findComparison_none (op : Int) (w : World) (h : 14 < op) :
    Calls Try.prog 43 #[.int .i64 op] w fun e w' => e = .returned (.tuple #[.nilFunc, .bool false]) ∧ Below w.heap.size w w' := by
  have hmm := @run_makeMap Try.prog
  have u0 := findComparison_u0
  have u1 := findComparison_u1
  have u2 := findComparison_u2
  have hl := findComparison_ln op h
  clear h
  go_enter Try.func43, Try.ntmps43
  go_wp2
  go_ret2
  exact ⟨rfl, (Below.refl _ _).alloc (Nat.le_refl _) _⟩
set_option maxHeartbeats 400000 in
theorem find_2 (w : World) :
    Calls Try.prog 30 #[.int .i64 2] w fun e w' => e = .returned (.tuple #[.func (.func 44) #[] #[], .bool true]) ∧ Below w.heap.size w w' := by
  go_enter Try.func30, Try.ntmps30
  go_wp2_with (go_at_call 41; refine (findArithmetic_2 _).mono ?_; rintro e w1 ⟨rfl, hb⟩)
  go_ret2
  exact ⟨rfl, hb⟩
set_option maxHeartbeats 400000 in
theorem find_3 (w : World) :
    Calls Try.prog 30 #[.int .i64 3] w fun e w' => e = .returned (.tuple #[.func (.func 45) #[] #[], .bool true]) ∧ Below w.heap.size w w' := by
  go_enter Try.func30, Try.ntmps30
  go_wp2_with (go_at_call 41; refine (findArithmetic_3 _).mono ?_; rintro e w1 ⟨rfl, hb⟩)
  go_ret2
  exact ⟨rfl, hb⟩
set_option maxHeartbeats 400000 in
theorem find_4 (w : World) :
    Calls Try.prog 30 #[.int .i64 4] w fun e w' => e = .returned (.tuple #[.func (.func 46) #[] #[], .bool true]) ∧ Below w.heap.size w w' := by
  go_enter Try.func30, Try.ntmps30
  go_wp2_with (go_at_call 41; refine (findArithmetic_4 _).mono ?_; rintro e w1 ⟨rfl, hb⟩)
  go_ret2
  exact ⟨rfl, hb⟩
set_option maxHeartbeats 400000 in
theorem find_5 (w : World) :
    Calls Try.prog 30 #[.int .i64 5] w fun e w' => e = .returned (.tuple #[.func (.func 47) #[] #[], .bool true]) ∧ Below w.heap.size w w' := by
  go_enter Try.func30, Try.ntmps30
  go_wp2_with (go_at_call 41; refine (findArithmetic_5 _).mono ?_; rintro e w1 ⟨rfl, hb⟩)
  go_ret2
  exact ⟨rfl, hb⟩
set_option maxHeartbeats 400000 in
theorem find_6 (w : World) :
    Calls Try.prog 30 #[.int .i64 6] w fun e w' => e = .returned (.tuple #[.func (.func 48) #[] #[], .bool true]) ∧ Below w.heap.size w w' := by
  go_enter Try.func30, Try.ntmps30
  go_wp2_with (go_at_call 41; refine (findArithmetic_6 _).mono ?_; rintro e w1 ⟨rfl, hb⟩)
  go_ret2
  exact ⟨rfl, hb⟩
set_option maxHeartbeats 400000 in
theorem find_7 (w : World) :
    Calls Try.prog 30 #[.int .i64 7] w fun e w' => e = .returned (.tuple #[.func (.func 49) #[] #[], .bool true]) ∧ Below w.heap.size w w' := by
  go_enter Try.func30, Try.ntmps30
  go_wp2_with (go_at_call 42; refine (findBitwise_7 _).mono ?_; rintro e w1 ⟨rfl, hb⟩)
  go_ret2
  exact ⟨rfl, hb⟩
set_option maxHeartbeats 400000 in
theorem find_8 (w : World) :
    Calls Try.prog 30 #[.int .i64 8] w fun e w' => e = .returned (.tuple #[.func (.func 50) #[] #[], .bool true]) ∧ Below w.heap.size w w' := by
  go_enter Try.func30, Try.ntmps30
  go_wp2_with (go_at_call 42; refine (findBitwise_8 _).mono ?_; rintro e w1 ⟨rfl, hb⟩)
  go_ret2
  exact ⟨rfl, hb⟩
set_option maxHeartbeats 400000 in
theorem find_9 (w : World) :
    Calls Try.prog 30 #[.int .i64 9] w fun e w' => e = .returned (.tuple #[.func (.func 51) #[] #[], .bool true]) ∧ Below w.heap.size w w' := by
  go_enter Try.func30, Try.ntmps30
  go_wp2_with (go_at_call 42; refine (findBitwise_9 _).mono ?_; rintro e w1 ⟨rfl, hb⟩)
  go_ret2
  exact ⟨rfl, hb⟩
set_option maxHeartbeats 400000 in
theorem find_10 (w : World) :
    Calls Try.prog 30 #[.int .i64 10] w fun e w' => e = .returned (.tuple #[.func (.func 52) #[] #[], .bool true]) ∧ Below w.heap.size w w' := by
  go_enter Try.func30, Try.ntmps30
  go_wp2_with (go_at_call 42; refine (findBitwise_10 _).mono ?_; rintro e w1 ⟨rfl, hb⟩)
  go_ret2
  exact ⟨rfl, hb⟩
set_option maxHeartbeats 400000 in
theorem find_11 (w : World) :
    Calls Try.prog 30 #[.int .i64 11] w fun e w' => e = .returned (.tuple #[.func (.func 53) #[] #[], .bool true]) ∧ Below w.heap.size w w' := by
  go_enter Try.func30, Try.ntmps30
  go_wp2_with (go_at_call 42; refine (findBitwise_11 _).mono ?_; rintro e w1 ⟨rfl, hb⟩)
  go_ret2
  exact ⟨rfl, hb⟩
set_option maxHeartbeats 400000 in
theorem find_12 (w : World) :
    Calls Try.prog 30 #[.int .i64 12] w fun e w' => e = .returned (.tuple #[.func (.func 54) #[] #[], .bool true]) ∧ Below w.heap.size w w' := by
  go_enter Try.func30, Try.ntmps30
  go_wp2_with (go_at_call 43; refine (findComparison_12 _).mono ?_; rintro e w1 ⟨rfl, hb⟩)
  go_ret2
  exact ⟨rfl, hb⟩
set_option maxHeartbeats 400000 in
theorem find_13 (w : World) :
    Calls Try.prog 30 #[.int .i64 13] w fun e w' => e = .returned (.tuple #[.func (.func 55) #[] #[], .bool true]) ∧ Below w.heap.size w w' := by
  go_enter Try.func30, Try.ntmps30
  go_wp2_with (go_at_call 43; refine (findComparison_13 _).mono ?_; rintro e w1 ⟨rfl, hb⟩)
  go_ret2
  exact ⟨rfl, hb⟩
set_option maxHeartbeats 400000 in
theorem find_14 (w : World) :
    Calls Try.prog 30 #[.int .i64 14] w fun e w' => e = .returned (.tuple #[.func (.func 56) #[] #[], .bool true]) ∧ Below w.heap.size w w' := by
  go_enter Try.func30, Try.ntmps30
  go_wp2_with (go_at_call 43; refine (findComparison_14 _).mono ?_; rintro e w1 ⟨rfl, hb⟩)
  go_ret2
  exact ⟨rfl, hb⟩
set_option maxHeartbeats 400000 in
theorem find_low (op : Int) (w : World) (h : op < 2) :
    Calls Try.prog 30 #[.int .i64 op] w fun e w' => e = .returned (.tuple #[.nilFunc, .bool false]) ∧ Below w.heap.size w w' := by
  have h1 : op ≤ 6 := by omega
  go_enter Try.func30, Try.ntmps30
  go_wp2_with (go_at_call 41; refine (findArithmetic_none op _ h).mono ?_; rintro e w1 ⟨rfl, hb⟩)
  go_ret2
  exact ⟨rfl, hb⟩
set_option maxHeartbeats 400000 in
theorem find_high (op : Int) (w : World) (h : 14 < op) :
    Calls Try.prog 30 #[.int .i64 op] w fun e w' => e = .returned (.tuple #[.nilFunc, .bool false]) ∧ Below w.heap.size w w' := by
  have h1 : ¬ op ≤ 6 := by omega
  have h2 : ¬ op ≤ 11 := by omega
  go_enter Try.func30, Try.ntmps30
  go_wp2_with (go_at_call 43; refine (findComparison_none op _ h).mono ?_; rintro e w1 ⟨rfl, hb⟩)
  go_ret2
  exact ⟨rfl, hb⟩
end Go.Proofs.Yteibkmignbbekaa
