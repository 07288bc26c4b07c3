/- Joined texts: SaRv7, SaRi1. -/
import Derived.Test.YtnbgadndkepomaaGreatDoorSQO
import Derived.Test.YtnbgadndkepomaaGreatDoorSQL

namespace Go.Proofs.YtnbgadndkepomaaGreatDoor
open Go.RowKit

theorem below_set {m : Nat} {W w : World} (h : Below m W w) (k : Nat) (v : Value) : Below m W (w.setCell ⟨m + 1, k, none⟩ v) := h.setCell (Nat.le_succ m) v

theorem plain_new (W : World) (op w p a b c : Int) (n : Nat) (t : Int) : ∃ X, Hid ((W.alloc (.cells #[.int .i64 op, .int .i64 w, .int .i64 p, .int .i64 a, .int .i64 b, .int .i64 c, .int .u64 (n : Int), .int .i64 t] 47)).alloc (.cells #[.int .i64 op, .int .i64 w, .int .i64 p, .int .i64 0, .int .i64 0, .int .i64 0, .int .u64 (n : Int), .int .i64 t] 47) = X) ∧ Below W.heap.size W X ∧ Box X W.heap.size 47 #[.int .i64 op, .int .i64 w, .int .i64 p, .int .i64 a, .int .i64 b, .int .i64 c, .int .u64 (n : Int), .int .i64 t] ∧ Box X (W.heap.size + 1) 47 #[.int .i64 op, .int .i64 w, .int .i64 p, .int .i64 0, .int .i64 0, .int .i64 0, .int .u64 (n : Int), .int .i64 t] := by
  have bA1 : Below W.heap.size W (W.alloc (.cells #[.int .i64 op, .int .i64 w, .int .i64 p, .int .i64 a, .int .i64 b, .int .i64 c, .int .u64 (n : Int), .int .i64 t] 47)) := (Below.refl _ _).alloc (Nat.le_refl _) _
  exact ⟨_, Lib.hid rfl, bA1.alloc bA1.size _, (Box.new W _ _).alloc _, Box.newAt (by simp) _ _⟩
theorem box8 {X : World} {m : Nat} {T : TypeId} {v0 v1 v2 v3 v4 v5 v6 v7 : Value} (h : Box X m T #[v0, v1, v2, v3, v4, v5, v6, v7]) : X.cell? ⟨m, 0, none⟩ = some v0 ∧ X.cell? ⟨m, 1, none⟩ = some v1 ∧ X.cell? ⟨m, 2, none⟩ = some v2 ∧ X.cell? ⟨m, 3, none⟩ = some v3 ∧ X.cell? ⟨m, 4, none⟩ = some v4 ∧ X.cell? ⟨m, 5, none⟩ = some v5 ∧ X.cell? ⟨m, 6, none⟩ = some v6 ∧ X.cell? ⟨m, 7, none⟩ = some v7 := ⟨h.cell 0, h.cell 1, h.cell 2, h.cell 3, h.cell 4, h.cell 5, h.cell 6, h.cell 7⟩
theorem free6 {X : World} {m : Nat} {T : TypeId} {cs : Array Value} (h : Box X m T cs) : X.frozen? ⟨m, 1, none⟩ = false ∧ X.frozen? ⟨m, 2, none⟩ = false ∧ X.frozen? ⟨m, 3, none⟩ = false ∧ X.frozen? ⟨m, 4, none⟩ = false ∧ X.frozen? ⟨m, 5, none⟩ = false ∧ X.frozen? ⟨m, 6, none⟩ = false := ⟨h.free 1, h.free 2, h.free 3, h.free 4, h.free 5, h.free 6⟩
set_option maxRecDepth 100000 in
set_option maxHeartbeats 1600000 in
theorem rplain_1 {W : World} (w p a b c : Int) (n : Nat) (t : Int)  :
    Calls Tryz.prog 59 #[.agg #[.int .i64 1, .int .i64 w, .int .i64 p, .int .i64 a, .int .i64 b, .int .i64 c, .int .u64 (n : Int), .int .i64 t]] W fun e w' => e = .returned (.bool (B (PlainR ⟨1, w, p, a, b, c, n, t⟩))) ∧ Below W.heap.size W w' := by
  have hz : Hid (B (PlainR ⟨1, w, p, a, b, c, n, t⟩) = ((a == 0) && (b == 0) && (c == 0) && (p == 0))) := Lib.hid (by
    symm
    apply B_eq
    have hv : valN 1 = 0 := by unfold valN; repeat' (first | rw [if_pos (by omega)] | rw [if_neg (by omega)])
    have hn : UseN 1 ↔ True := ⟨fun _ => trivial, fun _ => by unfold UseN; omega⟩
    unfold PlainR
    simp only [Bool.and_eq_true, beq_iff_eq, hv, hn, or_true, and_true]
    omega)
  generalize B (PlainR ⟨1, w, p, a, b, c, n, t⟩) = E at hz ⊢
  have hA : ∀ W1, Calls Tryz.prog 24 #[.agg #[.int .i64 1, .int .i64 w, .int .i64 p, .int .i64 a, .int .i64 b, .int .i64 c, .int .u64 (n : Int), .int .i64 t]] W1 (ListP W1 (argsOf ⟨1, w, p, a, b, c, n, t⟩)) := fun W1 => Args_any ⟨1, w, p, a, b, c, n, t⟩
  have hV : argsOf ⟨1, w, p, a, b, c, n, t⟩ = [] := by unfold argsOf valN valsOf; rfl
  rw [hV] at hA
  clear hV
  go_enter Tryz.func59, Tryz.ntmps59
  go_upto_region 2 with fail
  obtain ⟨X, hX, bA, N1, N2⟩ := plain_new W 1 w p a b c n t
  simp only [hX.out]
  obtain ⟨m, hm⟩ : ∃ m, Hid (W.heap.size = m) := ⟨_, Lib.hid rfl⟩
  have hmX : W.heap.size ≤ X.heap.size := bA.size
  rw [hm.out] at N1 N2 bA hmX ⊢
  clear hX
  obtain ⟨e0, e1, e2, e3, e4, e5, e6, e7⟩ := box8 N1
  go_wp2_with fail
  refine (hA X).mono ?_
  rintro e' w1 ⟨A, q, rfl, hq1, hq2, _, bw⟩
  clear hA e0 e1 e2 e3 e4 e5 e6 e7
  have N1 := N1.below bw
  have N2 := N2.below bw
  have bw := bA.trans (bw.mono hmX)
  obtain ⟨e0, e1, e2, e3, e4, e5, e6, e7⟩ := box8 N1
  obtain ⟨f0, f1, f2, f3, f4, f5, f6, f7⟩ := box8 N2
  obtain ⟨g1, g2, g3, g4, g5, g6⟩ := free6 N2
  clear N1 N2 hq1 hq2
  go_wp2
  all_goals go_ret
  all_goals refine ⟨?_, ?_⟩
  all_goals first | (rw [hm.out]; (repeat refine below_set ?_ _ _); exact bw) | (rw [hz.out]; clear e0 e1 e2 e3 e4 e5 e6 e7 f0 f1 f2 f3 f4 f5 f6 f7 g1 g2 g3 g4 g5 g6; simp [*]; done)
set_option maxRecDepth 100000 in
set_option maxHeartbeats 1600000 in
theorem rplain_18 {W : World} (w p a b c : Int) (n : Nat) (t : Int)  :
    Calls Tryz.prog 59 #[.agg #[.int .i64 18, .int .i64 w, .int .i64 p, .int .i64 a, .int .i64 b, .int .i64 c, .int .u64 (n : Int), .int .i64 t]] W fun e w' => e = .returned (.bool (B (PlainR ⟨18, w, p, a, b, c, n, t⟩))) ∧ Below W.heap.size W w' := by
  have hz : Hid (B (PlainR ⟨18, w, p, a, b, c, n, t⟩) = ((b == 0) && (c == 0) && (p == 0))) := Lib.hid (by
    symm
    apply B_eq
    have hv : valN 18 = 1 := by unfold valN; repeat' (first | rw [if_pos (by omega)] | rw [if_neg (by omega)])
    have hn : UseN 18 ↔ True := ⟨fun _ => trivial, fun _ => by unfold UseN; omega⟩
    unfold PlainR
    simp only [Bool.and_eq_true, beq_iff_eq, hv, hn, or_true, and_true]
    omega)
  generalize B (PlainR ⟨18, w, p, a, b, c, n, t⟩) = E at hz ⊢
  have hA : ∀ W1, Calls Tryz.prog 24 #[.agg #[.int .i64 18, .int .i64 w, .int .i64 p, .int .i64 a, .int .i64 b, .int .i64 c, .int .u64 (n : Int), .int .i64 t]] W1 (ListP W1 (argsOf ⟨18, w, p, a, b, c, n, t⟩)) := fun W1 => Args_any ⟨18, w, p, a, b, c, n, t⟩
  have hV : argsOf ⟨18, w, p, a, b, c, n, t⟩ = [a] := by unfold argsOf valN valsOf; rfl
  rw [hV] at hA
  clear hV
  go_enter Tryz.func59, Tryz.ntmps59
  go_upto_region 2 with fail
  obtain ⟨X, hX, bA, N1, N2⟩ := plain_new W 18 w p a b c n t
  simp only [hX.out]
  obtain ⟨m, hm⟩ : ∃ m, Hid (W.heap.size = m) := ⟨_, Lib.hid rfl⟩
  have hmX : W.heap.size ≤ X.heap.size := bA.size
  rw [hm.out] at N1 N2 bA hmX ⊢
  clear hX
  obtain ⟨e0, e1, e2, e3, e4, e5, e6, e7⟩ := box8 N1
  go_wp2_with fail
  refine (hA X).mono ?_
  rintro e' w1 ⟨A, q, rfl, hq1, hq2, _, bw⟩
  clear hA e0 e1 e2 e3 e4 e5 e6 e7
  have N1 := N1.below bw
  have N2 := N2.below bw
  have bw := bA.trans (bw.mono hmX)
  obtain ⟨e0, e1, e2, e3, e4, e5, e6, e7⟩ := box8 N1
  obtain ⟨f0, f1, f2, f3, f4, f5, f6, f7⟩ := box8 N2
  obtain ⟨g1, g2, g3, g4, g5, g6⟩ := free6 N2
  clear N1 N2 hq1 hq2
  go_wp2
  all_goals go_ret
  all_goals refine ⟨?_, ?_⟩
  all_goals first | (rw [hm.out]; (repeat refine below_set ?_ _ _); exact bw) | (rw [hz.out]; clear e0 e1 e2 e3 e4 e5 e6 e7 f0 f1 f2 f3 f4 f5 f6 f7 g1 g2 g3 g4 g5 g6; simp [*]; done)
set_option maxRecDepth 100000 in
set_option maxHeartbeats 1600000 in
theorem rplain_22 {W : World} (w p a b c : Int) (n : Nat) (t : Int)  :
    Calls Tryz.prog 59 #[.agg #[.int .i64 22, .int .i64 w, .int .i64 p, .int .i64 a, .int .i64 b, .int .i64 c, .int .u64 (n : Int), .int .i64 t]] W fun e w' => e = .returned (.bool (B (PlainR ⟨22, w, p, a, b, c, n, t⟩))) ∧ Below W.heap.size W w' := by
  have hz : Hid (B (PlainR ⟨22, w, p, a, b, c, n, t⟩) = ((a == 0) && (b == 0) && (c == 0) && (p == 0) && (n == 0))) := Lib.hid (by
    symm
    apply B_eq
    have hv : valN 22 = 0 := by unfold valN; repeat' (first | rw [if_pos (by omega)] | rw [if_neg (by omega)])
    have hn : UseN 22 ↔ False := ⟨fun h => by unfold UseN at h; omega, False.elim⟩
    unfold PlainR
    simp only [Bool.and_eq_true, beq_iff_eq, hv, hn, or_false]
    omega)
  generalize B (PlainR ⟨22, w, p, a, b, c, n, t⟩) = E at hz ⊢
  have hA : ∀ W1, Calls Tryz.prog 24 #[.agg #[.int .i64 22, .int .i64 w, .int .i64 p, .int .i64 a, .int .i64 b, .int .i64 c, .int .u64 (n : Int), .int .i64 t]] W1 (ListP W1 (argsOf ⟨22, w, p, a, b, c, n, t⟩)) := fun W1 => Args_any ⟨22, w, p, a, b, c, n, t⟩
  have hV : argsOf ⟨22, w, p, a, b, c, n, t⟩ = [] := by unfold argsOf valN valsOf; rfl
  rw [hV] at hA
  clear hV
  go_enter Tryz.func59, Tryz.ntmps59
  go_upto_region 2 with fail
  obtain ⟨X, hX, bA, N1, N2⟩ := plain_new W 22 w p a b c n t
  simp only [hX.out]
  obtain ⟨m, hm⟩ : ∃ m, Hid (W.heap.size = m) := ⟨_, Lib.hid rfl⟩
  have hmX : W.heap.size ≤ X.heap.size := bA.size
  rw [hm.out] at N1 N2 bA hmX ⊢
  clear hX
  obtain ⟨e0, e1, e2, e3, e4, e5, e6, e7⟩ := box8 N1
  go_wp2_with fail
  refine (hA X).mono ?_
  rintro e' w1 ⟨A, q, rfl, hq1, hq2, _, bw⟩
  clear hA e0 e1 e2 e3 e4 e5 e6 e7
  have N1 := N1.below bw
  have N2 := N2.below bw
  have bw := bA.trans (bw.mono hmX)
  obtain ⟨e0, e1, e2, e3, e4, e5, e6, e7⟩ := box8 N1
  obtain ⟨f0, f1, f2, f3, f4, f5, f6, f7⟩ := box8 N2
  obtain ⟨g1, g2, g3, g4, g5, g6⟩ := free6 N2
  clear N1 N2 hq1 hq2
  go_wp2
  all_goals go_ret
  all_goals refine ⟨?_, ?_⟩
  all_goals first | (rw [hm.out]; (repeat refine below_set ?_ _ _); exact bw) | (rw [hz.out]; clear e0 e1 e2 e3 e4 e5 e6 e7 f0 f1 f2 f3 f4 f5 f6 f7 g1 g2 g3 g4 g5 g6; simp [*]; done)
set_option maxRecDepth 100000 in
set_option maxHeartbeats 1600000 in
theorem rplain_30 {W : World} (w p a b c : Int) (n : Nat) (t : Int)  :
    Calls Tryz.prog 59 #[.agg #[.int .i64 30, .int .i64 w, .int .i64 p, .int .i64 a, .int .i64 b, .int .i64 c, .int .u64 (n : Int), .int .i64 t]] W fun e w' => e = .returned (.bool (B (PlainR ⟨30, w, p, a, b, c, n, t⟩))) ∧ Below W.heap.size W w' := by
  have hz : Hid (B (PlainR ⟨30, w, p, a, b, c, n, t⟩) = ((a == 0) && (b == 0) && (c == 0) && (n == 0))) := Lib.hid (by
    symm
    apply B_eq
    have hv : valN 30 = 0 := by unfold valN; repeat' (first | rw [if_pos (by omega)] | rw [if_neg (by omega)])
    have hn : UseN 30 ↔ False := ⟨fun h => by unfold UseN at h; omega, False.elim⟩
    unfold PlainR
    simp only [Bool.and_eq_true, beq_iff_eq, hv, hn, or_false]
    omega)
  generalize B (PlainR ⟨30, w, p, a, b, c, n, t⟩) = E at hz ⊢
  have hA : ∀ W1, Calls Tryz.prog 24 #[.agg #[.int .i64 30, .int .i64 w, .int .i64 p, .int .i64 a, .int .i64 b, .int .i64 c, .int .u64 (n : Int), .int .i64 t]] W1 (ListP W1 (argsOf ⟨30, w, p, a, b, c, n, t⟩)) := fun W1 => Args_any ⟨30, w, p, a, b, c, n, t⟩
  have hV : argsOf ⟨30, w, p, a, b, c, n, t⟩ = [] := by unfold argsOf valN valsOf; rfl
  rw [hV] at hA
  clear hV
  go_enter Tryz.func59, Tryz.ntmps59
  go_upto_region 2 with fail
  obtain ⟨X, hX, bA, N1, N2⟩ := plain_new W 30 w p a b c n t
  simp only [hX.out]
  obtain ⟨m, hm⟩ : ∃ m, Hid (W.heap.size = m) := ⟨_, Lib.hid rfl⟩
  have hmX : W.heap.size ≤ X.heap.size := bA.size
  rw [hm.out] at N1 N2 bA hmX ⊢
  clear hX
  obtain ⟨e0, e1, e2, e3, e4, e5, e6, e7⟩ := box8 N1
  go_wp2_with fail
  refine (hA X).mono ?_
  rintro e' w1 ⟨A, q, rfl, hq1, hq2, _, bw⟩
  clear hA e0 e1 e2 e3 e4 e5 e6 e7
  have N1 := N1.below bw
  have N2 := N2.below bw
  have bw := bA.trans (bw.mono hmX)
  obtain ⟨e0, e1, e2, e3, e4, e5, e6, e7⟩ := box8 N1
  obtain ⟨f0, f1, f2, f3, f4, f5, f6, f7⟩ := box8 N2
  obtain ⟨g1, g2, g3, g4, g5, g6⟩ := free6 N2
  clear N1 N2 hq1 hq2
  go_wp2
  all_goals go_ret
  all_goals refine ⟨?_, ?_⟩
  all_goals first | (rw [hm.out]; (repeat refine below_set ?_ _ _); exact bw) | (rw [hz.out]; clear e0 e1 e2 e3 e4 e5 e6 e7 f0 f1 f2 f3 f4 f5 f6 f7 g1 g2 g3 g4 g5 g6; simp [*]; done)
set_option maxRecDepth 100000 in
set_option maxHeartbeats 1600000 in
theorem rplain_31 {W : World} (w p a b c : Int) (n : Nat) (t : Int)  :
    Calls Tryz.prog 59 #[.agg #[.int .i64 31, .int .i64 w, .int .i64 p, .int .i64 a, .int .i64 b, .int .i64 c, .int .u64 (n : Int), .int .i64 t]] W fun e w' => e = .returned (.bool (B (PlainR ⟨31, w, p, a, b, c, n, t⟩))) ∧ Below W.heap.size W w' := by
  have hz : Hid (B (PlainR ⟨31, w, p, a, b, c, n, t⟩) = ((b == 0) && (c == 0) && (w == 0))) := Lib.hid (by
    symm
    apply B_eq
    have hv : valN 31 = 1 := by unfold valN; repeat' (first | rw [if_pos (by omega)] | rw [if_neg (by omega)])
    have hn : UseN 31 ↔ True := ⟨fun _ => trivial, fun _ => by unfold UseN; omega⟩
    unfold PlainR
    simp only [Bool.and_eq_true, beq_iff_eq, hv, hn, or_true, true_or, not_true_eq_false, or_false, and_true]
    omega)
  generalize B (PlainR ⟨31, w, p, a, b, c, n, t⟩) = E at hz ⊢
  have hA : ∀ W1, Calls Tryz.prog 24 #[.agg #[.int .i64 31, .int .i64 w, .int .i64 p, .int .i64 a, .int .i64 b, .int .i64 c, .int .u64 (n : Int), .int .i64 t]] W1 (ListP W1 (argsOf ⟨31, w, p, a, b, c, n, t⟩)) := fun W1 => Args_any ⟨31, w, p, a, b, c, n, t⟩
  have hV : argsOf ⟨31, w, p, a, b, c, n, t⟩ = [a] := by unfold argsOf valN valsOf; rfl
  rw [hV] at hA
  clear hV
  go_enter Tryz.func59, Tryz.ntmps59
  go_upto_region 2 with fail
  obtain ⟨X, hX, bA, N1, N2⟩ := plain_new W 31 w p a b c n t
  simp only [hX.out]
  obtain ⟨m, hm⟩ : ∃ m, Hid (W.heap.size = m) := ⟨_, Lib.hid rfl⟩
  have hmX : W.heap.size ≤ X.heap.size := bA.size
  rw [hm.out] at N1 N2 bA hmX ⊢
  clear hX
  obtain ⟨e0, e1, e2, e3, e4, e5, e6, e7⟩ := box8 N1
  go_wp2_with fail
  refine (hA X).mono ?_
  rintro e' w1 ⟨A, q, rfl, hq1, hq2, _, bw⟩
  clear hA e0 e1 e2 e3 e4 e5 e6 e7
  have N1 := N1.below bw
  have N2 := N2.below bw
  have bw := bA.trans (bw.mono hmX)
  obtain ⟨e0, e1, e2, e3, e4, e5, e6, e7⟩ := box8 N1
  obtain ⟨f0, f1, f2, f3, f4, f5, f6, f7⟩ := box8 N2
  obtain ⟨g1, g2, g3, g4, g5, g6⟩ := free6 N2
  clear N1 N2 hq1 hq2
  go_wp2
  all_goals go_ret
  all_goals refine ⟨?_, ?_⟩
  all_goals first | (rw [hm.out]; (repeat refine below_set ?_ _ _); exact bw) | (rw [hz.out]; clear e0 e1 e2 e3 e4 e5 e6 e7 f0 f1 f2 f3 f4 f5 f6 f7 g1 g2 g3 g4 g5 g6; simp [*]; done)
set_option maxRecDepth 100000 in
set_option maxHeartbeats 1600000 in
theorem rplain_32 {W : World} (w p a b c : Int) (n : Nat) (t : Int)  :
    Calls Tryz.prog 59 #[.agg #[.int .i64 32, .int .i64 w, .int .i64 p, .int .i64 a, .int .i64 b, .int .i64 c, .int .u64 (n : Int), .int .i64 t]] W fun e w' => e = .returned (.bool (B (PlainR ⟨32, w, p, a, b, c, n, t⟩))) ∧ Below W.heap.size W w' := by
  have hz : Hid (B (PlainR ⟨32, w, p, a, b, c, n, t⟩) = ((a == 0) && (b == 0) && (c == 0) && (w == 0))) := Lib.hid (by
    symm
    apply B_eq
    have hv : valN 32 = 0 := by unfold valN; repeat' (first | rw [if_pos (by omega)] | rw [if_neg (by omega)])
    have hn : UseN 32 ↔ True := ⟨fun _ => trivial, fun _ => by unfold UseN; omega⟩
    unfold PlainR
    simp only [Bool.and_eq_true, beq_iff_eq, hv, hn, or_true, true_or, not_true_eq_false, or_false, and_true]
    omega)
  generalize B (PlainR ⟨32, w, p, a, b, c, n, t⟩) = E at hz ⊢
  have hA : ∀ W1, Calls Tryz.prog 24 #[.agg #[.int .i64 32, .int .i64 w, .int .i64 p, .int .i64 a, .int .i64 b, .int .i64 c, .int .u64 (n : Int), .int .i64 t]] W1 (ListP W1 (argsOf ⟨32, w, p, a, b, c, n, t⟩)) := fun W1 => Args_any ⟨32, w, p, a, b, c, n, t⟩
  have hV : argsOf ⟨32, w, p, a, b, c, n, t⟩ = [] := by unfold argsOf valN valsOf; rfl
  rw [hV] at hA
  clear hV
  go_enter Tryz.func59, Tryz.ntmps59
  go_upto_region 2 with fail
  obtain ⟨X, hX, bA, N1, N2⟩ := plain_new W 32 w p a b c n t
  simp only [hX.out]
  obtain ⟨m, hm⟩ : ∃ m, Hid (W.heap.size = m) := ⟨_, Lib.hid rfl⟩
  have hmX : W.heap.size ≤ X.heap.size := bA.size
  rw [hm.out] at N1 N2 bA hmX ⊢
  clear hX
  obtain ⟨e0, e1, e2, e3, e4, e5, e6, e7⟩ := box8 N1
  go_wp2_with fail
  refine (hA X).mono ?_
  rintro e' w1 ⟨A, q, rfl, hq1, hq2, _, bw⟩
  clear hA e0 e1 e2 e3 e4 e5 e6 e7
  have N1 := N1.below bw
  have N2 := N2.below bw
  have bw := bA.trans (bw.mono hmX)
  obtain ⟨e0, e1, e2, e3, e4, e5, e6, e7⟩ := box8 N1
  obtain ⟨f0, f1, f2, f3, f4, f5, f6, f7⟩ := box8 N2
  obtain ⟨g1, g2, g3, g4, g5, g6⟩ := free6 N2
  clear N1 N2 hq1 hq2
  go_wp2
  all_goals go_ret
  all_goals refine ⟨?_, ?_⟩
  all_goals first | (rw [hm.out]; (repeat refine below_set ?_ _ _); exact bw) | (rw [hz.out]; clear e0 e1 e2 e3 e4 e5 e6 e7 f0 f1 f2 f3 f4 f5 f6 f7 g1 g2 g3 g4 g5 g6; simp [*]; done)
set_option maxRecDepth 100000 in
set_option maxHeartbeats 1600000 in
theorem rplain_33 {W : World} (w p a b c : Int) (n : Nat) (t : Int)  :
    Calls Tryz.prog 59 #[.agg #[.int .i64 33, .int .i64 w, .int .i64 p, .int .i64 a, .int .i64 b, .int .i64 c, .int .u64 (n : Int), .int .i64 t]] W fun e w' => e = .returned (.bool (B (PlainR ⟨33, w, p, a, b, c, n, t⟩))) ∧ Below W.heap.size W w' := by
  have hz : Hid (B (PlainR ⟨33, w, p, a, b, c, n, t⟩) = ((c == 0) && (p == 0) && (n == 0))) := Lib.hid (by
    symm
    apply B_eq
    have hv : valN 33 = 2 := by unfold valN; repeat' (first | rw [if_pos (by omega)] | rw [if_neg (by omega)])
    have hn : UseN 33 ↔ False := ⟨fun h => by unfold UseN at h; omega, False.elim⟩
    unfold PlainR
    simp only [Bool.and_eq_true, beq_iff_eq, hv, hn, or_false]
    omega)
  generalize B (PlainR ⟨33, w, p, a, b, c, n, t⟩) = E at hz ⊢
  have hA : ∀ W1, Calls Tryz.prog 24 #[.agg #[.int .i64 33, .int .i64 w, .int .i64 p, .int .i64 a, .int .i64 b, .int .i64 c, .int .u64 (n : Int), .int .i64 t]] W1 (ListP W1 (argsOf ⟨33, w, p, a, b, c, n, t⟩)) := fun W1 => Args_any ⟨33, w, p, a, b, c, n, t⟩
  have hV : argsOf ⟨33, w, p, a, b, c, n, t⟩ = [a, b] := by unfold argsOf valN valsOf; rfl
  rw [hV] at hA
  clear hV
  go_enter Tryz.func59, Tryz.ntmps59
  go_upto_region 2 with fail
  obtain ⟨X, hX, bA, N1, N2⟩ := plain_new W 33 w p a b c n t
  simp only [hX.out]
  obtain ⟨m, hm⟩ : ∃ m, Hid (W.heap.size = m) := ⟨_, Lib.hid rfl⟩
  have hmX : W.heap.size ≤ X.heap.size := bA.size
  rw [hm.out] at N1 N2 bA hmX ⊢
  clear hX
  obtain ⟨e0, e1, e2, e3, e4, e5, e6, e7⟩ := box8 N1
  go_wp2_with fail
  refine (hA X).mono ?_
  rintro e' w1 ⟨A, q, rfl, hq1, hq2, _, bw⟩
  clear hA e0 e1 e2 e3 e4 e5 e6 e7
  have N1 := N1.below bw
  have N2 := N2.below bw
  have bw := bA.trans (bw.mono hmX)
  obtain ⟨e0, e1, e2, e3, e4, e5, e6, e7⟩ := box8 N1
  obtain ⟨f0, f1, f2, f3, f4, f5, f6, f7⟩ := box8 N2
  obtain ⟨g1, g2, g3, g4, g5, g6⟩ := free6 N2
  clear N1 N2 hq1 hq2
  go_wp2
  all_goals go_ret
  all_goals refine ⟨?_, ?_⟩
  all_goals first | (rw [hm.out]; (repeat refine below_set ?_ _ _); exact bw) | (rw [hz.out]; clear e0 e1 e2 e3 e4 e5 e6 e7 f0 f1 f2 f3 f4 f5 f6 f7 g1 g2 g3 g4 g5 g6; simp [*]; done)
set_option maxRecDepth 100000 in
set_option maxHeartbeats 1600000 in
theorem rplain_34 {W : World} (w p a b c : Int) (n : Nat) (t : Int)  :
    Calls Tryz.prog 59 #[.agg #[.int .i64 34, .int .i64 w, .int .i64 p, .int .i64 a, .int .i64 b, .int .i64 c, .int .u64 (n : Int), .int .i64 t]] W fun e w' => e = .returned (.bool (B (PlainR ⟨34, w, p, a, b, c, n, t⟩))) ∧ Below W.heap.size W w' := by
  have hz : Hid (B (PlainR ⟨34, w, p, a, b, c, n, t⟩) = ((p == 0) && (w == 0) && (n == 0))) := Lib.hid (by
    symm
    apply B_eq
    have hv : valN 34 = 3 := by unfold valN; repeat' (first | rw [if_pos (by omega)] | rw [if_neg (by omega)])
    have hn : UseN 34 ↔ False := ⟨fun h => by unfold UseN at h; omega, False.elim⟩
    unfold PlainR
    simp only [Bool.and_eq_true, beq_iff_eq, hv, hn, or_false]
    omega)
  generalize B (PlainR ⟨34, w, p, a, b, c, n, t⟩) = E at hz ⊢
  have hA : ∀ W1, Calls Tryz.prog 24 #[.agg #[.int .i64 34, .int .i64 w, .int .i64 p, .int .i64 a, .int .i64 b, .int .i64 c, .int .u64 (n : Int), .int .i64 t]] W1 (ListP W1 (argsOf ⟨34, w, p, a, b, c, n, t⟩)) := fun W1 => Args_any ⟨34, w, p, a, b, c, n, t⟩
  have hV : argsOf ⟨34, w, p, a, b, c, n, t⟩ = [a, b, c] := by unfold argsOf valN valsOf; rfl
  rw [hV] at hA
  clear hV
  go_enter Tryz.func59, Tryz.ntmps59
  go_upto_region 2 with fail
  obtain ⟨X, hX, bA, N1, N2⟩ := plain_new W 34 w p a b c n t
  simp only [hX.out]
  obtain ⟨m, hm⟩ : ∃ m, Hid (W.heap.size = m) := ⟨_, Lib.hid rfl⟩
  have hmX : W.heap.size ≤ X.heap.size := bA.size
  rw [hm.out] at N1 N2 bA hmX ⊢
  clear hX
  obtain ⟨e0, e1, e2, e3, e4, e5, e6, e7⟩ := box8 N1
  go_wp2_with fail
  refine (hA X).mono ?_
  rintro e' w1 ⟨A, q, rfl, hq1, hq2, _, bw⟩
  clear hA e0 e1 e2 e3 e4 e5 e6 e7
  have N1 := N1.below bw
  have N2 := N2.below bw
  have bw := bA.trans (bw.mono hmX)
  obtain ⟨e0, e1, e2, e3, e4, e5, e6, e7⟩ := box8 N1
  obtain ⟨f0, f1, f2, f3, f4, f5, f6, f7⟩ := box8 N2
  obtain ⟨g1, g2, g3, g4, g5, g6⟩ := free6 N2
  clear N1 N2 hq1 hq2
  go_wp2
  all_goals go_ret
  all_goals refine ⟨?_, ?_⟩
  all_goals first | (rw [hm.out]; (repeat refine below_set ?_ _ _); exact bw) | (rw [hz.out]; clear e0 e1 e2 e3 e4 e5 e6 e7 f0 f1 f2 f3 f4 f5 f6 f7 g1 g2 g3 g4 g5 g6; simp [*]; done)
set_option maxRecDepth 100000 in
set_option maxHeartbeats 1600000 in
theorem rplain_35 {W : World} (w p a b c : Int) (n : Nat) (t : Int)  :
    Calls Tryz.prog 59 #[.agg #[.int .i64 35, .int .i64 w, .int .i64 p, .int .i64 a, .int .i64 b, .int .i64 c, .int .u64 (n : Int), .int .i64 t]] W fun e w' => e = .returned (.bool (B (PlainR ⟨35, w, p, a, b, c, n, t⟩))) ∧ Below W.heap.size W w' := by
  have hz : Hid (B (PlainR ⟨35, w, p, a, b, c, n, t⟩) = ((b == 0) && (c == 0) && (p == 0) && (w == 0) && (n == 0))) := Lib.hid (by
    symm
    apply B_eq
    have hv : valN 35 = 1 := by unfold valN; repeat' (first | rw [if_pos (by omega)] | rw [if_neg (by omega)])
    have hn : UseN 35 ↔ False := ⟨fun h => by unfold UseN at h; omega, False.elim⟩
    unfold PlainR
    simp only [Bool.and_eq_true, beq_iff_eq, hv, hn, or_false]
    omega)
  generalize B (PlainR ⟨35, w, p, a, b, c, n, t⟩) = E at hz ⊢
  have hA : ∀ W1, Calls Tryz.prog 24 #[.agg #[.int .i64 35, .int .i64 w, .int .i64 p, .int .i64 a, .int .i64 b, .int .i64 c, .int .u64 (n : Int), .int .i64 t]] W1 (ListP W1 (argsOf ⟨35, w, p, a, b, c, n, t⟩)) := fun W1 => Args_any ⟨35, w, p, a, b, c, n, t⟩
  have hV : argsOf ⟨35, w, p, a, b, c, n, t⟩ = [a] := by unfold argsOf valN valsOf; rfl
  rw [hV] at hA
  clear hV
  go_enter Tryz.func59, Tryz.ntmps59
  go_upto_region 2 with fail
  obtain ⟨X, hX, bA, N1, N2⟩ := plain_new W 35 w p a b c n t
  simp only [hX.out]
  obtain ⟨m, hm⟩ : ∃ m, Hid (W.heap.size = m) := ⟨_, Lib.hid rfl⟩
  have hmX : W.heap.size ≤ X.heap.size := bA.size
  rw [hm.out] at N1 N2 bA hmX ⊢
  clear hX
  obtain ⟨e0, e1, e2, e3, e4, e5, e6, e7⟩ := box8 N1
  go_wp2_with fail
  refine (hA X).mono ?_
  rintro e' w1 ⟨A, q, rfl, hq1, hq2, _, bw⟩
  clear hA e0 e1 e2 e3 e4 e5 e6 e7
  have N1 := N1.below bw
  have N2 := N2.below bw
  have bw := bA.trans (bw.mono hmX)
  obtain ⟨e0, e1, e2, e3, e4, e5, e6, e7⟩ := box8 N1
  obtain ⟨f0, f1, f2, f3, f4, f5, f6, f7⟩ := box8 N2
  obtain ⟨g1, g2, g3, g4, g5, g6⟩ := free6 N2
  clear N1 N2 hq1 hq2
  go_wp2
  all_goals go_ret
  all_goals refine ⟨?_, ?_⟩
  all_goals first | (rw [hm.out]; (repeat refine below_set ?_ _ _); exact bw) | (rw [hz.out]; clear e0 e1 e2 e3 e4 e5 e6 e7 f0 f1 f2 f3 f4 f5 f6 f7 g1 g2 g3 g4 g5 g6; simp [*]; done)
set_option maxRecDepth 100000 in
set_option maxHeartbeats 1600000 in
theorem rplain_36 {W : World} (w p a b c : Int) (n : Nat) (t : Int)  :
    Calls Tryz.prog 59 #[.agg #[.int .i64 36, .int .i64 w, .int .i64 p, .int .i64 a, .int .i64 b, .int .i64 c, .int .u64 (n : Int), .int .i64 t]] W fun e w' => e = .returned (.bool (B (PlainR ⟨36, w, p, a, b, c, n, t⟩))) ∧ Below W.heap.size W w' := by
  have hz : Hid (B (PlainR ⟨36, w, p, a, b, c, n, t⟩) = ((b == 0) && (c == 0) && (p == 0) && (w == 0))) := Lib.hid (by
    symm
    apply B_eq
    have hv : valN 36 = 1 := by unfold valN; repeat' (first | rw [if_pos (by omega)] | rw [if_neg (by omega)])
    have hn : UseN 36 ↔ True := ⟨fun _ => trivial, fun _ => by unfold UseN; omega⟩
    unfold PlainR
    simp only [Bool.and_eq_true, beq_iff_eq, hv, hn, or_true, and_true]
    omega)
  generalize B (PlainR ⟨36, w, p, a, b, c, n, t⟩) = E at hz ⊢
  have hA : ∀ W1, Calls Tryz.prog 24 #[.agg #[.int .i64 36, .int .i64 w, .int .i64 p, .int .i64 a, .int .i64 b, .int .i64 c, .int .u64 (n : Int), .int .i64 t]] W1 (ListP W1 (argsOf ⟨36, w, p, a, b, c, n, t⟩)) := fun W1 => Args_any ⟨36, w, p, a, b, c, n, t⟩
  have hV : argsOf ⟨36, w, p, a, b, c, n, t⟩ = [a] := by unfold argsOf valN valsOf; rfl
  rw [hV] at hA
  clear hV
  go_enter Tryz.func59, Tryz.ntmps59
  go_upto_region 2 with fail
  obtain ⟨X, hX, bA, N1, N2⟩ := plain_new W 36 w p a b c n t
  simp only [hX.out]
  obtain ⟨m, hm⟩ : ∃ m, Hid (W.heap.size = m) := ⟨_, Lib.hid rfl⟩
  have hmX : W.heap.size ≤ X.heap.size := bA.size
  rw [hm.out] at N1 N2 bA hmX ⊢
  clear hX
  obtain ⟨e0, e1, e2, e3, e4, e5, e6, e7⟩ := box8 N1
  go_wp2_with fail
  refine (hA X).mono ?_
  rintro e' w1 ⟨A, q, rfl, hq1, hq2, _, bw⟩
  clear hA e0 e1 e2 e3 e4 e5 e6 e7
  have N1 := N1.below bw
  have N2 := N2.below bw
  have bw := bA.trans (bw.mono hmX)
  obtain ⟨e0, e1, e2, e3, e4, e5, e6, e7⟩ := box8 N1
  obtain ⟨f0, f1, f2, f3, f4, f5, f6, f7⟩ := box8 N2
  obtain ⟨g1, g2, g3, g4, g5, g6⟩ := free6 N2
  clear N1 N2 hq1 hq2
  go_wp2
  all_goals go_ret
  all_goals refine ⟨?_, ?_⟩
  all_goals first | (rw [hm.out]; (repeat refine below_set ?_ _ _); exact bw) | (rw [hz.out]; clear e0 e1 e2 e3 e4 e5 e6 e7 f0 f1 f2 f3 f4 f5 f6 f7 g1 g2 g3 g4 g5 g6; simp [*]; done)
set_option maxRecDepth 100000 in
set_option maxHeartbeats 1600000 in
theorem rplain_two {W : World} (op w p a b c : Int) (n : Nat) (t : Int) (h : (2 ≤ op ∧ op ≤ 14) ∨ op = 19) :
    Calls Tryz.prog 59 #[.agg #[.int .i64 op, .int .i64 w, .int .i64 p, .int .i64 a, .int .i64 b, .int .i64 c, .int .u64 (n : Int), .int .i64 t]] W fun e w' => e = .returned (.bool (B (PlainR ⟨op, w, p, a, b, c, n, t⟩))) ∧ Below W.heap.size W w' := by
  have hz : Hid (B (PlainR ⟨op, w, p, a, b, c, n, t⟩) = ((c == 0) && (p == 0) && (n == 0))) := Lib.hid (by
    symm
    apply B_eq
    have hv : valN op = 2 := by unfold valN; repeat' (first | rw [if_pos (by omega)] | rw [if_neg (by omega)])
    have hn : UseN op ↔ False := ⟨fun h => by unfold UseN at h; omega, False.elim⟩
    unfold PlainR
    simp only [Bool.and_eq_true, beq_iff_eq, hv, hn, or_false]
    omega)
  generalize B (PlainR ⟨op, w, p, a, b, c, n, t⟩) = E at hz ⊢
  have hA : ∀ W1, Calls Tryz.prog 24 #[.agg #[.int .i64 op, .int .i64 w, .int .i64 p, .int .i64 a, .int .i64 b, .int .i64 c, .int .u64 (n : Int), .int .i64 t]] W1 (ListP W1 (argsOf ⟨op, w, p, a, b, c, n, t⟩)) := fun W1 => Args_any ⟨op, w, p, a, b, c, n, t⟩
  have hV : argsOf ⟨op, w, p, a, b, c, n, t⟩ = [a, b] := argsOf_two (by show (2 ≤ op ∧ op ≤ 14) ∨ op = 19 ∨ op = 33; omega)
  rw [hV] at hA
  clear hV
  have q30 : (op != 30) = true := by simp; omega
  have q31 : (op != 31) = true := by simp; omega
  have q32 : (op != 32) = true := by simp; omega
  have q1 : (op != 1) = true := by simp; omega
  have q18 : (op != 18) = true := by simp; omega
  have q36 : (op != 36) = true := by simp; omega
  have r31 : (op == 31) = false := by simp; omega
  have r32 : (op == 32) = false := by simp; omega
  have g34 : decide (34 ≤ op) = false := by simp; omega
  clear h
  go_enter Tryz.func59, Tryz.ntmps59
  go_upto_region 2 with fail
  obtain ⟨X, hX, bA, N1, N2⟩ := plain_new W op w p a b c n t
  simp only [hX.out]
  obtain ⟨m, hm⟩ : ∃ m, Hid (W.heap.size = m) := ⟨_, Lib.hid rfl⟩
  have hmX : W.heap.size ≤ X.heap.size := bA.size
  rw [hm.out] at N1 N2 bA hmX ⊢
  clear hX
  obtain ⟨e0, e1, e2, e3, e4, e5, e6, e7⟩ := box8 N1
  go_wp2_with fail
  refine (hA X).mono ?_
  rintro e' w1 ⟨A, q, rfl, hq1, hq2, _, bw⟩
  clear hA e0 e1 e2 e3 e4 e5 e6 e7
  have N1 := N1.below bw
  have N2 := N2.below bw
  have bw := bA.trans (bw.mono hmX)
  obtain ⟨e0, e1, e2, e3, e4, e5, e6, e7⟩ := box8 N1
  obtain ⟨f0, f1, f2, f3, f4, f5, f6, f7⟩ := box8 N2
  obtain ⟨g1, g2, g3, g4, g5, g6⟩ := free6 N2
  clear N1 N2 hq1 hq2
  go_wp2
  all_goals go_ret
  all_goals refine ⟨?_, ?_⟩
  all_goals first | (rw [hm.out]; (repeat refine below_set ?_ _ _); exact bw) | (rw [hz.out]; clear e0 e1 e2 e3 e4 e5 e6 e7 f0 f1 f2 f3 f4 f5 f6 f7 g1 g2 g3 g4 g5 g6; simp [*]; done)
set_option maxRecDepth 100000 in
set_option maxHeartbeats 1600000 in
theorem rplain_one {W : World} (op w p a b c : Int) (n : Nat) (t : Int) (h : op ≤ 0 ∨ (15 ≤ op ∧ op ≤ 17) ∨ op = 20 ∨ op = 21 ∨ (23 ≤ op ∧ op ≤ 29)) :
    Calls Tryz.prog 59 #[.agg #[.int .i64 op, .int .i64 w, .int .i64 p, .int .i64 a, .int .i64 b, .int .i64 c, .int .u64 (n : Int), .int .i64 t]] W fun e w' => e = .returned (.bool (B (PlainR ⟨op, w, p, a, b, c, n, t⟩))) ∧ Below W.heap.size W w' := by
  have hz : Hid (B (PlainR ⟨op, w, p, a, b, c, n, t⟩) = ((b == 0) && (c == 0) && (p == 0) && (n == 0))) := Lib.hid (by
    symm
    apply B_eq
    have hv : valN op = 1 := by unfold valN; repeat' (first | rw [if_pos (by omega)] | rw [if_neg (by omega)])
    have hn : UseN op ↔ False := ⟨fun h => by unfold UseN at h; omega, False.elim⟩
    unfold PlainR
    simp only [Bool.and_eq_true, beq_iff_eq, hv, hn, or_false]
    omega)
  generalize B (PlainR ⟨op, w, p, a, b, c, n, t⟩) = E at hz ⊢
  have hA : ∀ W1, Calls Tryz.prog 24 #[.agg #[.int .i64 op, .int .i64 w, .int .i64 p, .int .i64 a, .int .i64 b, .int .i64 c, .int .u64 (n : Int), .int .i64 t]] W1 (ListP W1 (argsOf ⟨op, w, p, a, b, c, n, t⟩)) := fun W1 => Args_any ⟨op, w, p, a, b, c, n, t⟩
  have hV : argsOf ⟨op, w, p, a, b, c, n, t⟩ = [a] := argsOf_one (by show ¬ ((2 ≤ op ∧ op ≤ 14) ∨ op = 19 ∨ op = 33); omega) (by show op ≠ 34; omega) (by show ¬ (op = 1 ∨ op = 22 ∨ op = 30 ∨ op = 32); omega)
  rw [hV] at hA
  clear hV
  have q30 : (op != 30) = true := by simp; omega
  have q31 : (op != 31) = true := by simp; omega
  have q32 : (op != 32) = true := by simp; omega
  have q1 : (op != 1) = true := by simp; omega
  have q18 : (op != 18) = true := by simp; omega
  have q36 : (op != 36) = true := by simp; omega
  have r31 : (op == 31) = false := by simp; omega
  have r32 : (op == 32) = false := by simp; omega
  have g34 : decide (34 ≤ op) = false := by simp; omega
  clear h
  go_enter Tryz.func59, Tryz.ntmps59
  go_upto_region 2 with fail
  obtain ⟨X, hX, bA, N1, N2⟩ := plain_new W op w p a b c n t
  simp only [hX.out]
  obtain ⟨m, hm⟩ : ∃ m, Hid (W.heap.size = m) := ⟨_, Lib.hid rfl⟩
  have hmX : W.heap.size ≤ X.heap.size := bA.size
  rw [hm.out] at N1 N2 bA hmX ⊢
  clear hX
  obtain ⟨e0, e1, e2, e3, e4, e5, e6, e7⟩ := box8 N1
  go_wp2_with fail
  refine (hA X).mono ?_
  rintro e' w1 ⟨A, q, rfl, hq1, hq2, _, bw⟩
  clear hA e0 e1 e2 e3 e4 e5 e6 e7
  have N1 := N1.below bw
  have N2 := N2.below bw
  have bw := bA.trans (bw.mono hmX)
  obtain ⟨e0, e1, e2, e3, e4, e5, e6, e7⟩ := box8 N1
  obtain ⟨f0, f1, f2, f3, f4, f5, f6, f7⟩ := box8 N2
  obtain ⟨g1, g2, g3, g4, g5, g6⟩ := free6 N2
  clear N1 N2 hq1 hq2
  go_wp2
  all_goals go_ret
  all_goals refine ⟨?_, ?_⟩
  all_goals first | (rw [hm.out]; (repeat refine below_set ?_ _ _); exact bw) | (rw [hz.out]; clear e0 e1 e2 e3 e4 e5 e6 e7 f0 f1 f2 f3 f4 f5 f6 f7 g1 g2 g3 g4 g5 g6; simp [*]; done)
set_option maxRecDepth 100000 in
set_option maxHeartbeats 1600000 in
theorem rplain_big {W : World} (op w p a b c : Int) (n : Nat) (t : Int) (h : 37 ≤ op) :
    Calls Tryz.prog 59 #[.agg #[.int .i64 op, .int .i64 w, .int .i64 p, .int .i64 a, .int .i64 b, .int .i64 c, .int .u64 (n : Int), .int .i64 t]] W fun e w' => e = .returned (.bool (B (PlainR ⟨op, w, p, a, b, c, n, t⟩))) ∧ Below W.heap.size W w' := by
  have hz : Hid (B (PlainR ⟨op, w, p, a, b, c, n, t⟩) = ((b == 0) && (c == 0) && (p == 0) && (w == 0) && (n == 0))) := Lib.hid (by
    symm
    apply B_eq
    have hv : valN op = 1 := by unfold valN; repeat' (first | rw [if_pos (by omega)] | rw [if_neg (by omega)])
    have hn : UseN op ↔ False := ⟨fun h => by unfold UseN at h; omega, False.elim⟩
    unfold PlainR
    simp only [Bool.and_eq_true, beq_iff_eq, hv, hn, or_false]
    omega)
  generalize B (PlainR ⟨op, w, p, a, b, c, n, t⟩) = E at hz ⊢
  have hA : ∀ W1, Calls Tryz.prog 24 #[.agg #[.int .i64 op, .int .i64 w, .int .i64 p, .int .i64 a, .int .i64 b, .int .i64 c, .int .u64 (n : Int), .int .i64 t]] W1 (ListP W1 (argsOf ⟨op, w, p, a, b, c, n, t⟩)) := fun W1 => Args_any ⟨op, w, p, a, b, c, n, t⟩
  have hV : argsOf ⟨op, w, p, a, b, c, n, t⟩ = [a] := argsOf_one (by show ¬ ((2 ≤ op ∧ op ≤ 14) ∨ op = 19 ∨ op = 33); omega) (by show op ≠ 34; omega) (by show ¬ (op = 1 ∨ op = 22 ∨ op = 30 ∨ op = 32); omega)
  rw [hV] at hA
  clear hV
  have q30 : (op != 30) = true := by simp; omega
  have q31 : (op != 31) = true := by simp; omega
  have q32 : (op != 32) = true := by simp; omega
  have q1 : (op != 1) = true := by simp; omega
  have q18 : (op != 18) = true := by simp; omega
  have q36 : (op != 36) = true := by simp; omega
  have r31 : (op == 31) = false := by simp; omega
  have r32 : (op == 32) = false := by simp; omega
  have g34 : decide (34 ≤ op) = true := by simp; omega
  clear h
  go_enter Tryz.func59, Tryz.ntmps59
  go_upto_region 2 with fail
  obtain ⟨X, hX, bA, N1, N2⟩ := plain_new W op w p a b c n t
  simp only [hX.out]
  obtain ⟨m, hm⟩ : ∃ m, Hid (W.heap.size = m) := ⟨_, Lib.hid rfl⟩
  have hmX : W.heap.size ≤ X.heap.size := bA.size
  rw [hm.out] at N1 N2 bA hmX ⊢
  clear hX
  obtain ⟨e0, e1, e2, e3, e4, e5, e6, e7⟩ := box8 N1
  go_wp2_with fail
  refine (hA X).mono ?_
  rintro e' w1 ⟨A, q, rfl, hq1, hq2, _, bw⟩
  clear hA e0 e1 e2 e3 e4 e5 e6 e7
  have N1 := N1.below bw
  have N2 := N2.below bw
  have bw := bA.trans (bw.mono hmX)
  obtain ⟨e0, e1, e2, e3, e4, e5, e6, e7⟩ := box8 N1
  obtain ⟨f0, f1, f2, f3, f4, f5, f6, f7⟩ := box8 N2
  obtain ⟨g1, g2, g3, g4, g5, g6⟩ := free6 N2
  clear N1 N2 hq1 hq2
  go_wp2
  all_goals go_ret
  all_goals refine ⟨?_, ?_⟩
  all_goals first | (rw [hm.out]; (repeat refine below_set ?_ _ _); exact bw) | (rw [hz.out]; clear e0 e1 e2 e3 e4 e5 e6 e7 f0 f1 f2 f3 f4 f5 f6 f7 g1 g2 g3 g4 g5 g6; simp [*]; done)
theorem rplain_any {W : World} (i : CIn) : Calls Tryz.prog 59 #[.agg #[.int .i64 i.op, .int .i64 i.w, .int .i64 i.p, .int .i64 i.a, .int .i64 i.b, .int .i64 i.c, .int .u64 i.n, .int .i64 i.at_]] W fun e w' => e = .returned (.bool (B (PlainR i))) ∧ Below W.heap.size W w' := by
  obtain ⟨op, w, p, a, b, c, n, t⟩ := i
  show Calls Tryz.prog 59 #[.agg #[.int .i64 op, .int .i64 w, .int .i64 p, .int .i64 a, .int .i64 b, .int .i64 c, .int .u64 (n : Int), .int .i64 t]] W _
  by_cases h1 : op = 1
  · subst h1; exact rplain_1 w p a b c n t
  by_cases h18 : op = 18
  · subst h18; exact rplain_18 w p a b c n t
  by_cases h22 : op = 22
  · subst h22; exact rplain_22 w p a b c n t
  by_cases h30 : op = 30
  · subst h30; exact rplain_30 w p a b c n t
  by_cases h31 : op = 31
  · subst h31; exact rplain_31 w p a b c n t
  by_cases h32 : op = 32
  · subst h32; exact rplain_32 w p a b c n t
  by_cases h33 : op = 33
  · subst h33; exact rplain_33 w p a b c n t
  by_cases h34 : op = 34
  · subst h34; exact rplain_34 w p a b c n t
  by_cases h35 : op = 35
  · subst h35; exact rplain_35 w p a b c n t
  by_cases h36 : op = 36
  · subst h36; exact rplain_36 w p a b c n t
  by_cases h2 : (2 ≤ op ∧ op ≤ 14) ∨ op = 19
  · exact rplain_two op w p a b c n t h2
  by_cases h3 : 37 ≤ op
  · exact rplain_big op w p a b c n t h3
  · exact rplain_one op w p a b c n t (by omega)
end Go.Proofs.YtnbgadndkepomaaGreatDoor

namespace Go.Proofs.YtnbgadndkepomaaGreatDoor
open Go.RowKit

/-- RI with the sums as they wrap. -/
def RW (c : Cd) (i : CIn) : Prop :=
  if i.op = 18 then 0 < wOf c i.a ∧ Wid i.w ∧ (i.n : Int) ≤ wOf c i.a ∧ wrap64 ((i.n : Int) + i.w) ≤ wOf c i.a
  else if i.op = 19 then 0 < wOf c i.a ∧ 0 < wOf c i.b ∧ i.w = wrap64 (wOf c i.a + wOf c i.b) ∧ i.w ≤ 64
  else RI c i
theorem wid_iff {n : Int} : widB n = true ↔ Wid n := by unfold widB Wid; exact decide_eq_true_iff
theorem wOf_i64 {c : Cd} (ok : c.ok) (a : Int) : I64 (wOf c a) := by
  unfold wOf
  by_cases h : 0 ≤ a
  · rw [if_pos h]
    cases e : c.ins[a.toNat]? with
    | none => exact ⟨by decide, by decide⟩
    | some y => exact (ok.ins y (List.mem_of_getElem? e)).2.1
  · rw [if_neg h]; exact ⟨by decide, by decide⟩
theorem wv {c : Cd} (ok : c.ok) (a : Int) : ∃ A, wOf c a = A ∧ -9223372036854775808 ≤ A ∧ A ≤ 9223372036854775807 := ⟨_, rfl, wOf_i64 ok a⟩
/-- What inst is asked of an instruction, in the words of a claim. -/
def InsC (W : World) (c : Cd) (x : Sl) (i : CIn) (q : Bool) : Prop := Calls Tryz.prog 38 #[.agg #[.slice x.S c.st.length x.sc, .slice x.N c.nm.length x.nc, .slice x.I c.ins.length x.ic, .slice x.K c.bk.length x.kc], .agg #[.int .i64 i.op, .int .i64 i.w, .int .i64 i.p, .int .i64 i.a, .int .i64 i.b, .int .i64 i.c, .int .u64 i.n, .int .i64 i.at_]] W fun e w' => e = .returned (.bool q) ∧ Below W.heap.size W w'
/-- The code and an instruction in blocks of their own. -/
structure IS (W X : World) (c : Cd) (x : Sl) (i : CIn) : Prop where
  hx : CdAt W c x
  bA : Below W.heap.size W X
  N1 : Box X W.heap.size 27 #[.slice x.S c.st.length x.sc, .slice x.N c.nm.length x.nc, .slice x.I c.ins.length x.ic, .slice x.K c.bk.length x.kc]
  N2 : Box X (W.heap.size + 1) 47 #[.int .i64 i.op, .int .i64 i.w, .int .i64 i.p, .int .i64 i.a, .int .i64 i.b, .int .i64 i.c, .int .u64 i.n, .int .i64 i.at_]
theorem IS.new {W : World} {c : Cd} {x : Sl} (hx : CdAt W c x) (i : CIn) : ∃ X, Hid (((W.alloc (.cells #[.slice x.S c.st.length x.sc, .slice x.N c.nm.length x.nc, .slice x.I c.ins.length x.ic, .slice x.K c.bk.length x.kc] 27))).alloc (.cells #[.int .i64 i.op, .int .i64 i.w, .int .i64 i.p, .int .i64 i.a, .int .i64 i.b, .int .i64 i.c, .int .u64 i.n, .int .i64 i.at_] 47) = X) ∧ IS W X c x i := by
  have bA1 : Below W.heap.size W (W.alloc (.cells #[.slice x.S c.st.length x.sc, .slice x.N c.nm.length x.nc, .slice x.I c.ins.length x.ic, .slice x.K c.bk.length x.kc] 27)) := (Below.refl _ _).alloc (Nat.le_refl _) _
  exact ⟨_, Lib.hid rfl, hx, bA1.alloc bA1.size _, (Box.new W _ _).alloc _, Box.newAt (by simp) _ _⟩
theorem IS.later {W X Y : World} {c : Cd} {x : Sl} {i : CIn} (h : IS W X c x i) (b : Below X.heap.size X Y) : IS W Y c x i := ⟨h.hx, h.bA.trans (b.mono h.bA.size), h.N1.below b, h.N2.below b⟩
theorem IS.at_ {W X : World} {c : Cd} {x : Sl} {i : CIn} (h : IS W X c x i) : CdAt X c x := h.hx.later h.bA
theorem IS.cs {W X : World} {c : Cd} {x : Sl} {i : CIn} (h : IS W X c x i) : X.cell? ⟨W.heap.size + 1, 0, none⟩ = some (.int .i64 i.op) ∧ X.cell? ⟨W.heap.size + 1, 1, none⟩ = some (.int .i64 i.w) ∧ X.cell? ⟨W.heap.size + 1, 2, none⟩ = some (.int .i64 i.p) ∧ X.cell? ⟨W.heap.size + 1, 3, none⟩ = some (.int .i64 i.a) ∧ X.cell? ⟨W.heap.size + 1, 4, none⟩ = some (.int .i64 i.b) ∧ X.cell? ⟨W.heap.size + 1, 5, none⟩ = some (.int .i64 i.c) ∧ X.cell? ⟨W.heap.size + 1, 6, none⟩ = some (.int .u64 i.n) ∧ X.cell? ⟨W.heap.size + 1, 7, none⟩ = some (.int .i64 i.at_) ∧ X.cell? ⟨W.heap.size, 0, none⟩ = some (.slice x.S c.st.length x.sc) ∧ X.cell? ⟨W.heap.size, 1, none⟩ = some (.slice x.N c.nm.length x.nc) ∧ X.cell? ⟨W.heap.size, 2, none⟩ = some (.slice x.I c.ins.length x.ic) ∧ X.cell? ⟨W.heap.size, 3, none⟩ = some (.slice x.K c.bk.length x.kc) := ⟨h.N2.cell 0, h.N2.cell 1, h.N2.cell 2, h.N2.cell 3, h.N2.cell 4, h.N2.cell 5, h.N2.cell 6, h.N2.cell 7, h.N1.cell 0, h.N1.cell 1, h.N1.cell 2, h.N1.cell 3⟩
theorem rw_1 (c : Cd) (w p a b k : Int) (n : Nat) (t : Int) : RW c ⟨1, w, p, a, b, k, n, t⟩ ↔ (Wid w ∧ (w = 64 ∨ n < 2 ^ w.toNat)) := by
  unfold RW
  dsimp only
  repeat' (first | rw [if_pos (by omega)] | rw [if_neg (by omega)])
  try (unfold RI; dsimp only; repeat' (first | rw [if_pos (by omega)] | rw [if_neg (by omega)]))
set_option maxRecDepth 100000 in
set_option maxHeartbeats 3200000 in
theorem rinst_1_0 {W : World} {c : Cd} {x : Sl} (hx : CdAt W c x) (ok : c.ok) (_hst : c.st.length ≤ 8) (_hnm : c.nm.length ≤ 32) (w p a b k : Int) (n : Nat) (t : Int) (hpl : PlainR ⟨1, w, p, a, b, k, n, t⟩) (hat : plcB t = true) (_hn : n < 18446744073709551616) (hw : widB w = false) : InsC W c x ⟨1, w, p, a, b, k, n, t⟩ (B (RW c ⟨1, w, p, a, b, k, n, t⟩)) := by
  unfold InsC
  have hR := rw_1 c w p a b k n t
  generalize RW c ⟨1, w, p, a, b, k, n, t⟩ = E at hR ⊢
  obtain ⟨A, eA, iA, jA⟩ := wv ok a
  obtain ⟨Bw, eB, iB, jB⟩ := wv ok b
  obtain ⟨C, eC⟩ : ∃ C, cellR c a b = C := ⟨_, rfl⟩
  try simp only [eA, eB, eC] at hR
  replace hR := Lib.hid hR
  obtain ⟨X, hX, I⟩ := IS.new hx ⟨1, w, p, a, b, k, n, t⟩
  obtain ⟨e0, e1, e2, e3, e4, e5, e6, e7, v0, v1, v2, v3⟩ := I.cs
  have hz : Hid (B E = false) := Lib.hid (B_not (fun h0 => by have h2 := wid_iff.2 (hR.out.1 h0).1; rw [hw] at h2; cases h2))
  clear hR
  go_enter Tryz.func38, Tryz.ntmps38
  go_upto_region 1 with fail
  simp only [hX.out]
  go_wp2_with fail
  refine (rplain_any ⟨1, w, p, a, b, k, n, t⟩).mono ?_
  rintro e w1 ⟨rfl, b1⟩
  rw [B_of hpl]
  clear e0 e1 e2 e3 e4 e5 e6 e7 v0 v1 v2 v3
  replace I := I.later b1
  obtain ⟨e0, e1, e2, e3, e4, e5, e6, e7, v0, v1, v2, v3⟩ := I.cs
  go_wp2_with fail
  refine (rplace_any _ _).mono ?_
  rintro e w2 ⟨rfl, rfl⟩
  rw [hat]
  go_wp2_with fail
  refine (rInt_any I.at_ a).mono ?_
  rintro e w2 ⟨rfl, b2⟩
  rw [eA]
  clear e0 e1 e2 e3 e4 e5 e6 e7 v0 v1 v2 v3
  replace I := I.later b2
  obtain ⟨e0, e1, e2, e3, e4, e5, e6, e7, v0, v1, v2, v3⟩ := I.cs
  go_wp2_with fail
  refine (rInt_any I.at_ b).mono ?_
  rintro e w3 ⟨rfl, b3⟩
  rw [eB]
  clear e0 e1 e2 e3 e4 e5 e6 e7 v0 v1 v2 v3
  replace I := I.later b3
  obtain ⟨e0, e1, e2, e3, e4, e5, e6, e7, v0, v1, v2, v3⟩ := I.cs
  have hWd : ∀ W1, Calls Tryz.prog 56 #[.int .i64 w] W1 fun e w' => e = .returned (.bool (widB w)) ∧ W1 = w' := fun W1 => rWidth_any w W1
  rw [hw] at hWd
  go_wp2_with fail
  go_quiet ((go_at_call 56; exact Calls.quiet_of_same ((hWd _).mono fun _ _ q => ⟨q.1, q.2.symm⟩)))
  go_wp2
  go_ret
  exact ⟨by rw [hz.out]; try rfl, below_drewN I.bA _⟩
set_option maxRecDepth 100000 in
set_option maxHeartbeats 3200000 in
theorem rinst_1_1 {W : World} {c : Cd} {x : Sl} (hx : CdAt W c x) (ok : c.ok) (_hst : c.st.length ≤ 8) (_hnm : c.nm.length ≤ 32) (w p a b k : Int) (n : Nat) (t : Int) (hpl : PlainR ⟨1, w, p, a, b, k, n, t⟩) (hat : plcB t = true) (_hn : n < 18446744073709551616) (hw : widB w = true) (a1 : w = 64) : InsC W c x ⟨1, w, p, a, b, k, n, t⟩ (B (RW c ⟨1, w, p, a, b, k, n, t⟩)) := by
  unfold InsC
  have hR := rw_1 c w p a b k n t
  generalize RW c ⟨1, w, p, a, b, k, n, t⟩ = E at hR ⊢
  obtain ⟨A, eA, iA, jA⟩ := wv ok a
  obtain ⟨Bw, eB, iB, jB⟩ := wv ok b
  obtain ⟨C, eC⟩ : ∃ C, cellR c a b = C := ⟨_, rfl⟩
  try simp only [eA, eB, eC] at hR
  replace hR := Lib.hid hR
  obtain ⟨X, hX, I⟩ := IS.new hx ⟨1, w, p, a, b, k, n, t⟩
  obtain ⟨e0, e1, e2, e3, e4, e5, e6, e7, v0, v1, v2, v3⟩ := I.cs
  have t1 : (w == 64) = true := by simpa using a1
  have hz : Hid (B E = true) := Lib.hid (B_of (hR.out.2 ⟨wid_iff.1 hw, Or.inl a1⟩))
  clear hR a1
  go_enter Tryz.func38, Tryz.ntmps38
  go_upto_region 1 with fail
  simp only [hX.out]
  go_wp2_with fail
  refine (rplain_any ⟨1, w, p, a, b, k, n, t⟩).mono ?_
  rintro e w1 ⟨rfl, b1⟩
  rw [B_of hpl]
  clear e0 e1 e2 e3 e4 e5 e6 e7 v0 v1 v2 v3
  replace I := I.later b1
  obtain ⟨e0, e1, e2, e3, e4, e5, e6, e7, v0, v1, v2, v3⟩ := I.cs
  go_wp2_with fail
  refine (rplace_any _ _).mono ?_
  rintro e w2 ⟨rfl, rfl⟩
  rw [hat]
  go_wp2_with fail
  refine (rInt_any I.at_ a).mono ?_
  rintro e w2 ⟨rfl, b2⟩
  rw [eA]
  clear e0 e1 e2 e3 e4 e5 e6 e7 v0 v1 v2 v3
  replace I := I.later b2
  obtain ⟨e0, e1, e2, e3, e4, e5, e6, e7, v0, v1, v2, v3⟩ := I.cs
  go_wp2_with fail
  refine (rInt_any I.at_ b).mono ?_
  rintro e w3 ⟨rfl, b3⟩
  rw [eB]
  clear e0 e1 e2 e3 e4 e5 e6 e7 v0 v1 v2 v3
  replace I := I.later b3
  obtain ⟨e0, e1, e2, e3, e4, e5, e6, e7, v0, v1, v2, v3⟩ := I.cs
  have hWd : ∀ W1, Calls Tryz.prog 56 #[.int .i64 w] W1 fun e w' => e = .returned (.bool (widB w)) ∧ W1 = w' := fun W1 => rWidth_any w W1
  rw [hw] at hWd
  go_wp2_with fail
  go_quiet ((go_at_call 56; exact Calls.quiet_of_same ((hWd _).mono fun _ _ q => ⟨q.1, q.2.symm⟩)))
  go_wp2
  go_ret
  exact ⟨by rw [hz.out]; try rfl, below_drewN I.bA _⟩
set_option maxRecDepth 100000 in
set_option maxHeartbeats 3200000 in
theorem rinst_1_2 {W : World} {c : Cd} {x : Sl} (hx : CdAt W c x) (ok : c.ok) (_hst : c.st.length ≤ 8) (_hnm : c.nm.length ≤ 32) (w p a b k : Int) (n : Nat) (t : Int) (hpl : PlainR ⟨1, w, p, a, b, k, n, t⟩) (hat : plcB t = true) (_hn : n < 18446744073709551616) (hw : widB w = true) (a1 : ¬ w = 64) : InsC W c x ⟨1, w, p, a, b, k, n, t⟩ (B (RW c ⟨1, w, p, a, b, k, n, t⟩)) := by
  unfold InsC
  have hR := rw_1 c w p a b k n t
  generalize RW c ⟨1, w, p, a, b, k, n, t⟩ = E at hR ⊢
  obtain ⟨A, eA, iA, jA⟩ := wv ok a
  obtain ⟨Bw, eB, iB, jB⟩ := wv ok b
  obtain ⟨C, eC⟩ : ∃ C, cellR c a b = C := ⟨_, rfl⟩
  try simp only [eA, eB, eC] at hR
  replace hR := Lib.hid hR
  obtain ⟨X, hX, I⟩ := IS.new hx ⟨1, w, p, a, b, k, n, t⟩
  obtain ⟨e0, e1, e2, e3, e4, e5, e6, e7, v0, v1, v2, v3⟩ := I.cs
  have t1 : (w == 64) = false := by simpa using a1
  have hw2 := wid_iff.1 hw
  unfold Wid at hw2
  have hz : Hid (B E = decide ((n : Int) < IntKind.u64.wrap (2 ^ w.toNat))) := Lib.hid (by
    have h3 : (2 : Nat) ^ w.toNat ≤ 2 ^ 63 := Nat.pow_le_pow_right (by decide) (by omega)
    have h4 : ((2 : Int) ^ w.toNat) = ((2 ^ w.toNat : Nat) : Int) := by simp
    rw [show IntKind.u64.wrap ((2 : Int) ^ w.toNat) = (2 : Int) ^ w.toNat from by rw [h4]; simp only [IntKind.wrap, IntKind.signed, IntKind.bits]; generalize (2 : Nat) ^ w.toNat = z at h3; simp; omega]
    symm; apply B_eq; rw [hR.out, decide_eq_true_iff]
    have hq : ((n : Int) < (2 : Int) ^ w.toNat) ↔ n < 2 ^ w.toNat := by rw [← Int.ofNat_lt]; simp
    rw [hq]
    exact ⟨fun hh => ⟨wid_iff.1 hw, Or.inr hh⟩, fun hh => hh.2.elim (fun hh => absurd hh a1) id⟩)
  clear hR a1
  go_enter Tryz.func38, Tryz.ntmps38
  go_upto_region 1 with fail
  simp only [hX.out]
  go_wp2_with fail
  refine (rplain_any ⟨1, w, p, a, b, k, n, t⟩).mono ?_
  rintro e w1 ⟨rfl, b1⟩
  rw [B_of hpl]
  clear e0 e1 e2 e3 e4 e5 e6 e7 v0 v1 v2 v3
  replace I := I.later b1
  obtain ⟨e0, e1, e2, e3, e4, e5, e6, e7, v0, v1, v2, v3⟩ := I.cs
  go_wp2_with fail
  refine (rplace_any _ _).mono ?_
  rintro e w2 ⟨rfl, rfl⟩
  rw [hat]
  go_wp2_with fail
  refine (rInt_any I.at_ a).mono ?_
  rintro e w2 ⟨rfl, b2⟩
  rw [eA]
  clear e0 e1 e2 e3 e4 e5 e6 e7 v0 v1 v2 v3
  replace I := I.later b2
  obtain ⟨e0, e1, e2, e3, e4, e5, e6, e7, v0, v1, v2, v3⟩ := I.cs
  go_wp2_with fail
  refine (rInt_any I.at_ b).mono ?_
  rintro e w3 ⟨rfl, b3⟩
  rw [eB]
  clear e0 e1 e2 e3 e4 e5 e6 e7 v0 v1 v2 v3
  replace I := I.later b3
  obtain ⟨e0, e1, e2, e3, e4, e5, e6, e7, v0, v1, v2, v3⟩ := I.cs
  have hWd : ∀ W1, Calls Tryz.prog 56 #[.int .i64 w] W1 fun e w' => e = .returned (.bool (widB w)) ∧ W1 = w' := fun W1 => rWidth_any w W1
  rw [hw] at hWd
  go_wp2_with fail
  go_quiet ((go_at_call 56; exact Calls.quiet_of_same ((hWd _).mono fun _ _ q => ⟨q.1, q.2.symm⟩)))
  go_wp2
  go_ret
  exact ⟨by rw [hz.out]; try rfl, below_drewN I.bA _⟩
theorem rinst_1 {W : World} {c : Cd} {x : Sl} (hx : CdAt W c x) (ok : c.ok) (hst : c.st.length ≤ 8) (hnm : c.nm.length ≤ 32) (w p a b k : Int) (n : Nat) (t : Int) (hpl : PlainR ⟨1, w, p, a, b, k, n, t⟩) (hat : plcB t = true) (hn : n < 18446744073709551616) : InsC W c x ⟨1, w, p, a, b, k, n, t⟩ (B (RW c ⟨1, w, p, a, b, k, n, t⟩)) := by
  cases hw : widB w with
  | false => exact rinst_1_0 hx ok hst hnm w p a b k n t hpl hat hn hw
  | true =>
    by_cases a1 : w = 64
    · exact rinst_1_1 hx ok hst hnm w p a b k n t hpl hat hn hw a1
    · exact rinst_1_2 hx ok hst hnm w p a b k n t hpl hat hn hw a1
theorem rw_15 (c : Cd) (w p a b k : Int) (n : Nat) (t : Int) : RW c ⟨15, w, p, a, b, k, n, t⟩ ↔ (0 < wOf c a ∧ w = wOf c a) := by
  unfold RW
  dsimp only
  repeat' (first | rw [if_pos (by omega)] | rw [if_neg (by omega)])
  try (unfold RI; dsimp only; repeat' (first | rw [if_pos (by omega)] | rw [if_neg (by omega)]))
set_option maxRecDepth 100000 in
set_option maxHeartbeats 3200000 in
theorem rinst_15_0 {W : World} {c : Cd} {x : Sl} (hx : CdAt W c x) (ok : c.ok) (_hst : c.st.length ≤ 8) (_hnm : c.nm.length ≤ 32) (w p a b k : Int) (n : Nat) (t : Int) (hpl : PlainR ⟨15, w, p, a, b, k, n, t⟩) (hat : plcB t = true) (_hn : n < 18446744073709551616) (a1 : ¬ (0 < wOf c a)) : InsC W c x ⟨15, w, p, a, b, k, n, t⟩ (B (RW c ⟨15, w, p, a, b, k, n, t⟩)) := by
  unfold InsC
  have hR := rw_15 c w p a b k n t
  generalize RW c ⟨15, w, p, a, b, k, n, t⟩ = E at hR ⊢
  obtain ⟨A, eA, iA, jA⟩ := wv ok a
  obtain ⟨Bw, eB, iB, jB⟩ := wv ok b
  obtain ⟨C, eC⟩ : ∃ C, cellR c a b = C := ⟨_, rfl⟩
  try simp only [eA] at hR
  replace hR := Lib.hid hR
  obtain ⟨X, hX, I⟩ := IS.new hx ⟨15, w, p, a, b, k, n, t⟩
  obtain ⟨e0, e1, e2, e3, e4, e5, e6, e7, v0, v1, v2, v3⟩ := I.cs
  try simp only [eA] at a1
  have ta1 : decide (0 < A) = false := by simpa using a1
  have hz : Hid (B E = false) := Lib.hid (B_not (fun h => by have h2 := hR.out.1 h; omega))
  clear hR a1
  go_enter Tryz.func38, Tryz.ntmps38
  go_upto_region 1 with fail
  simp only [hX.out]
  go_wp2_with fail
  refine (rplain_any ⟨15, w, p, a, b, k, n, t⟩).mono ?_
  rintro e w1 ⟨rfl, b1⟩
  rw [B_of hpl]
  clear e0 e1 e2 e3 e4 e5 e6 e7 v0 v1 v2 v3
  replace I := I.later b1
  obtain ⟨e0, e1, e2, e3, e4, e5, e6, e7, v0, v1, v2, v3⟩ := I.cs
  go_wp2_with fail
  refine (rplace_any _ _).mono ?_
  rintro e w2 ⟨rfl, rfl⟩
  rw [hat]
  go_wp2_with fail
  refine (rInt_any I.at_ a).mono ?_
  rintro e w2 ⟨rfl, b2⟩
  rw [eA]
  clear e0 e1 e2 e3 e4 e5 e6 e7 v0 v1 v2 v3
  replace I := I.later b2
  obtain ⟨e0, e1, e2, e3, e4, e5, e6, e7, v0, v1, v2, v3⟩ := I.cs
  go_wp2_with fail
  refine (rInt_any I.at_ b).mono ?_
  rintro e w3 ⟨rfl, b3⟩
  rw [eB]
  clear e0 e1 e2 e3 e4 e5 e6 e7 v0 v1 v2 v3
  replace I := I.later b3
  obtain ⟨e0, e1, e2, e3, e4, e5, e6, e7, v0, v1, v2, v3⟩ := I.cs
  go_wp2
  go_ret
  exact ⟨by rw [hz.out]; try rfl, I.bA⟩
set_option maxRecDepth 100000 in
set_option maxHeartbeats 3200000 in
theorem rinst_15_1 {W : World} {c : Cd} {x : Sl} (hx : CdAt W c x) (ok : c.ok) (_hst : c.st.length ≤ 8) (_hnm : c.nm.length ≤ 32) (w p a b k : Int) (n : Nat) (t : Int) (hpl : PlainR ⟨15, w, p, a, b, k, n, t⟩) (hat : plcB t = true) (_hn : n < 18446744073709551616) (a1 : 0 < wOf c a) : InsC W c x ⟨15, w, p, a, b, k, n, t⟩ (B (RW c ⟨15, w, p, a, b, k, n, t⟩)) := by
  unfold InsC
  have hR := rw_15 c w p a b k n t
  generalize RW c ⟨15, w, p, a, b, k, n, t⟩ = E at hR ⊢
  obtain ⟨A, eA, iA, jA⟩ := wv ok a
  obtain ⟨Bw, eB, iB, jB⟩ := wv ok b
  obtain ⟨C, eC⟩ : ∃ C, cellR c a b = C := ⟨_, rfl⟩
  try simp only [eA] at hR
  replace hR := Lib.hid hR
  obtain ⟨X, hX, I⟩ := IS.new hx ⟨15, w, p, a, b, k, n, t⟩
  obtain ⟨e0, e1, e2, e3, e4, e5, e6, e7, v0, v1, v2, v3⟩ := I.cs
  try simp only [eA] at a1
  have ta1 : decide (0 < A) = true := by simpa using a1
  have hz : Hid (B E = (w == A)) := Lib.hid (by symm; apply B_eq; rw [hR.out]; simp only [beq_iff_eq] <;> omega)
  clear hR a1
  go_enter Tryz.func38, Tryz.ntmps38
  go_upto_region 1 with fail
  simp only [hX.out]
  go_wp2_with fail
  refine (rplain_any ⟨15, w, p, a, b, k, n, t⟩).mono ?_
  rintro e w1 ⟨rfl, b1⟩
  rw [B_of hpl]
  clear e0 e1 e2 e3 e4 e5 e6 e7 v0 v1 v2 v3
  replace I := I.later b1
  obtain ⟨e0, e1, e2, e3, e4, e5, e6, e7, v0, v1, v2, v3⟩ := I.cs
  go_wp2_with fail
  refine (rplace_any _ _).mono ?_
  rintro e w2 ⟨rfl, rfl⟩
  rw [hat]
  go_wp2_with fail
  refine (rInt_any I.at_ a).mono ?_
  rintro e w2 ⟨rfl, b2⟩
  rw [eA]
  clear e0 e1 e2 e3 e4 e5 e6 e7 v0 v1 v2 v3
  replace I := I.later b2
  obtain ⟨e0, e1, e2, e3, e4, e5, e6, e7, v0, v1, v2, v3⟩ := I.cs
  go_wp2_with fail
  refine (rInt_any I.at_ b).mono ?_
  rintro e w3 ⟨rfl, b3⟩
  rw [eB]
  clear e0 e1 e2 e3 e4 e5 e6 e7 v0 v1 v2 v3
  replace I := I.later b3
  obtain ⟨e0, e1, e2, e3, e4, e5, e6, e7, v0, v1, v2, v3⟩ := I.cs
  go_wp2
  go_ret
  exact ⟨by rw [hz.out]; try rfl, I.bA⟩
theorem rinst_15 {W : World} {c : Cd} {x : Sl} (hx : CdAt W c x) (ok : c.ok) (hst : c.st.length ≤ 8) (hnm : c.nm.length ≤ 32) (w p a b k : Int) (n : Nat) (t : Int) (hpl : PlainR ⟨15, w, p, a, b, k, n, t⟩) (hat : plcB t = true) (hn : n < 18446744073709551616) : InsC W c x ⟨15, w, p, a, b, k, n, t⟩ (B (RW c ⟨15, w, p, a, b, k, n, t⟩)) := by
  refine (Classical.em (0 < wOf c a)).elim (fun a1 => ?_) (fun a1 => rinst_15_0 hx ok hst hnm w p a b k n t hpl hat hn  a1)
  exact rinst_15_1 hx ok hst hnm w p a b k n t hpl hat hn a1
theorem rw_21 (c : Cd) (w p a b k : Int) (n : Nat) (t : Int) : RW c ⟨21, w, p, a, b, k, n, t⟩ ↔ (0 < wOf c a ∧ w = 8) := by
  unfold RW
  dsimp only
  repeat' (first | rw [if_pos (by omega)] | rw [if_neg (by omega)])
  try (unfold RI; dsimp only; repeat' (first | rw [if_pos (by omega)] | rw [if_neg (by omega)]))
set_option maxRecDepth 100000 in
set_option maxHeartbeats 3200000 in
theorem rinst_21_0 {W : World} {c : Cd} {x : Sl} (hx : CdAt W c x) (ok : c.ok) (_hst : c.st.length ≤ 8) (_hnm : c.nm.length ≤ 32) (w p a b k : Int) (n : Nat) (t : Int) (hpl : PlainR ⟨21, w, p, a, b, k, n, t⟩) (hat : plcB t = true) (_hn : n < 18446744073709551616) (a1 : ¬ (0 < wOf c a)) : InsC W c x ⟨21, w, p, a, b, k, n, t⟩ (B (RW c ⟨21, w, p, a, b, k, n, t⟩)) := by
  unfold InsC
  have hR := rw_21 c w p a b k n t
  generalize RW c ⟨21, w, p, a, b, k, n, t⟩ = E at hR ⊢
  obtain ⟨A, eA, iA, jA⟩ := wv ok a
  obtain ⟨Bw, eB, iB, jB⟩ := wv ok b
  obtain ⟨C, eC⟩ : ∃ C, cellR c a b = C := ⟨_, rfl⟩
  try simp only [eA] at hR
  replace hR := Lib.hid hR
  obtain ⟨X, hX, I⟩ := IS.new hx ⟨21, w, p, a, b, k, n, t⟩
  obtain ⟨e0, e1, e2, e3, e4, e5, e6, e7, v0, v1, v2, v3⟩ := I.cs
  try simp only [eA] at a1
  have ta1 : decide (0 < A) = false := by simpa using a1
  have hz : Hid (B E = false) := Lib.hid (B_not (fun h => by have h2 := hR.out.1 h; omega))
  clear hR a1
  go_enter Tryz.func38, Tryz.ntmps38
  go_upto_region 1 with fail
  simp only [hX.out]
  go_wp2_with fail
  refine (rplain_any ⟨21, w, p, a, b, k, n, t⟩).mono ?_
  rintro e w1 ⟨rfl, b1⟩
  rw [B_of hpl]
  clear e0 e1 e2 e3 e4 e5 e6 e7 v0 v1 v2 v3
  replace I := I.later b1
  obtain ⟨e0, e1, e2, e3, e4, e5, e6, e7, v0, v1, v2, v3⟩ := I.cs
  go_wp2_with fail
  refine (rplace_any _ _).mono ?_
  rintro e w2 ⟨rfl, rfl⟩
  rw [hat]
  go_wp2_with fail
  refine (rInt_any I.at_ a).mono ?_
  rintro e w2 ⟨rfl, b2⟩
  rw [eA]
  clear e0 e1 e2 e3 e4 e5 e6 e7 v0 v1 v2 v3
  replace I := I.later b2
  obtain ⟨e0, e1, e2, e3, e4, e5, e6, e7, v0, v1, v2, v3⟩ := I.cs
  go_wp2_with fail
  refine (rInt_any I.at_ b).mono ?_
  rintro e w3 ⟨rfl, b3⟩
  rw [eB]
  clear e0 e1 e2 e3 e4 e5 e6 e7 v0 v1 v2 v3
  replace I := I.later b3
  obtain ⟨e0, e1, e2, e3, e4, e5, e6, e7, v0, v1, v2, v3⟩ := I.cs
  go_wp2
  go_ret
  exact ⟨by rw [hz.out]; try rfl, I.bA⟩
set_option maxRecDepth 100000 in
set_option maxHeartbeats 3200000 in
theorem rinst_21_1 {W : World} {c : Cd} {x : Sl} (hx : CdAt W c x) (ok : c.ok) (_hst : c.st.length ≤ 8) (_hnm : c.nm.length ≤ 32) (w p a b k : Int) (n : Nat) (t : Int) (hpl : PlainR ⟨21, w, p, a, b, k, n, t⟩) (hat : plcB t = true) (_hn : n < 18446744073709551616) (a1 : 0 < wOf c a) : InsC W c x ⟨21, w, p, a, b, k, n, t⟩ (B (RW c ⟨21, w, p, a, b, k, n, t⟩)) := by
  unfold InsC
  have hR := rw_21 c w p a b k n t
  generalize RW c ⟨21, w, p, a, b, k, n, t⟩ = E at hR ⊢
  obtain ⟨A, eA, iA, jA⟩ := wv ok a
  obtain ⟨Bw, eB, iB, jB⟩ := wv ok b
  obtain ⟨C, eC⟩ : ∃ C, cellR c a b = C := ⟨_, rfl⟩
  try simp only [eA] at hR
  replace hR := Lib.hid hR
  obtain ⟨X, hX, I⟩ := IS.new hx ⟨21, w, p, a, b, k, n, t⟩
  obtain ⟨e0, e1, e2, e3, e4, e5, e6, e7, v0, v1, v2, v3⟩ := I.cs
  try simp only [eA] at a1
  have ta1 : decide (0 < A) = true := by simpa using a1
  have hz : Hid (B E = (w == 8)) := Lib.hid (by symm; apply B_eq; rw [hR.out]; simp only [beq_iff_eq] <;> omega)
  clear hR a1
  go_enter Tryz.func38, Tryz.ntmps38
  go_upto_region 1 with fail
  simp only [hX.out]
  go_wp2_with fail
  refine (rplain_any ⟨21, w, p, a, b, k, n, t⟩).mono ?_
  rintro e w1 ⟨rfl, b1⟩
  rw [B_of hpl]
  clear e0 e1 e2 e3 e4 e5 e6 e7 v0 v1 v2 v3
  replace I := I.later b1
  obtain ⟨e0, e1, e2, e3, e4, e5, e6, e7, v0, v1, v2, v3⟩ := I.cs
  go_wp2_with fail
  refine (rplace_any _ _).mono ?_
  rintro e w2 ⟨rfl, rfl⟩
  rw [hat]
  go_wp2_with fail
  refine (rInt_any I.at_ a).mono ?_
  rintro e w2 ⟨rfl, b2⟩
  rw [eA]
  clear e0 e1 e2 e3 e4 e5 e6 e7 v0 v1 v2 v3
  replace I := I.later b2
  obtain ⟨e0, e1, e2, e3, e4, e5, e6, e7, v0, v1, v2, v3⟩ := I.cs
  go_wp2_with fail
  refine (rInt_any I.at_ b).mono ?_
  rintro e w3 ⟨rfl, b3⟩
  rw [eB]
  clear e0 e1 e2 e3 e4 e5 e6 e7 v0 v1 v2 v3
  replace I := I.later b3
  obtain ⟨e0, e1, e2, e3, e4, e5, e6, e7, v0, v1, v2, v3⟩ := I.cs
  go_wp2
  go_ret
  exact ⟨by rw [hz.out]; try rfl, I.bA⟩
theorem rinst_21 {W : World} {c : Cd} {x : Sl} (hx : CdAt W c x) (ok : c.ok) (hst : c.st.length ≤ 8) (hnm : c.nm.length ≤ 32) (w p a b k : Int) (n : Nat) (t : Int) (hpl : PlainR ⟨21, w, p, a, b, k, n, t⟩) (hat : plcB t = true) (hn : n < 18446744073709551616) : InsC W c x ⟨21, w, p, a, b, k, n, t⟩ (B (RW c ⟨21, w, p, a, b, k, n, t⟩)) := by
  refine (Classical.em (0 < wOf c a)).elim (fun a1 => ?_) (fun a1 => rinst_21_0 hx ok hst hnm w p a b k n t hpl hat hn  a1)
  exact rinst_21_1 hx ok hst hnm w p a b k n t hpl hat hn a1
theorem rw_22 (c : Cd) (w p a b k : Int) (n : Nat) (t : Int) : RW c ⟨22, w, p, a, b, k, n, t⟩ ↔ (w = 8) := by
  unfold RW
  dsimp only
  repeat' (first | rw [if_pos (by omega)] | rw [if_neg (by omega)])
  try (unfold RI; dsimp only; repeat' (first | rw [if_pos (by omega)] | rw [if_neg (by omega)]))
set_option maxRecDepth 100000 in
set_option maxHeartbeats 3200000 in
theorem rinst_22_0 {W : World} {c : Cd} {x : Sl} (hx : CdAt W c x) (ok : c.ok) (_hst : c.st.length ≤ 8) (_hnm : c.nm.length ≤ 32) (w p a b k : Int) (n : Nat) (t : Int) (hpl : PlainR ⟨22, w, p, a, b, k, n, t⟩) (hat : plcB t = true) (_hn : n < 18446744073709551616) : InsC W c x ⟨22, w, p, a, b, k, n, t⟩ (B (RW c ⟨22, w, p, a, b, k, n, t⟩)) := by
  unfold InsC
  have hR := rw_22 c w p a b k n t
  generalize RW c ⟨22, w, p, a, b, k, n, t⟩ = E at hR ⊢
  obtain ⟨A, eA, iA, jA⟩ := wv ok a
  obtain ⟨Bw, eB, iB, jB⟩ := wv ok b
  obtain ⟨C, eC⟩ : ∃ C, cellR c a b = C := ⟨_, rfl⟩
  try simp only [eA, eB, eC] at hR
  replace hR := Lib.hid hR
  obtain ⟨X, hX, I⟩ := IS.new hx ⟨22, w, p, a, b, k, n, t⟩
  obtain ⟨e0, e1, e2, e3, e4, e5, e6, e7, v0, v1, v2, v3⟩ := I.cs
  have hz : Hid (B E = (w == 8)) := Lib.hid (by symm; apply B_eq; rw [hR.out]; simp only [beq_iff_eq] <;> omega)
  clear hR
  go_enter Tryz.func38, Tryz.ntmps38
  go_upto_region 1 with fail
  simp only [hX.out]
  go_wp2_with fail
  refine (rplain_any ⟨22, w, p, a, b, k, n, t⟩).mono ?_
  rintro e w1 ⟨rfl, b1⟩
  rw [B_of hpl]
  clear e0 e1 e2 e3 e4 e5 e6 e7 v0 v1 v2 v3
  replace I := I.later b1
  obtain ⟨e0, e1, e2, e3, e4, e5, e6, e7, v0, v1, v2, v3⟩ := I.cs
  go_wp2_with fail
  refine (rplace_any _ _).mono ?_
  rintro e w2 ⟨rfl, rfl⟩
  rw [hat]
  go_wp2_with fail
  refine (rInt_any I.at_ a).mono ?_
  rintro e w2 ⟨rfl, b2⟩
  rw [eA]
  clear e0 e1 e2 e3 e4 e5 e6 e7 v0 v1 v2 v3
  replace I := I.later b2
  obtain ⟨e0, e1, e2, e3, e4, e5, e6, e7, v0, v1, v2, v3⟩ := I.cs
  go_wp2_with fail
  refine (rInt_any I.at_ b).mono ?_
  rintro e w3 ⟨rfl, b3⟩
  rw [eB]
  clear e0 e1 e2 e3 e4 e5 e6 e7 v0 v1 v2 v3
  replace I := I.later b3
  obtain ⟨e0, e1, e2, e3, e4, e5, e6, e7, v0, v1, v2, v3⟩ := I.cs
  go_wp2
  go_ret
  exact ⟨by rw [hz.out]; try rfl, I.bA⟩
theorem rinst_22 {W : World} {c : Cd} {x : Sl} (hx : CdAt W c x) (ok : c.ok) (hst : c.st.length ≤ 8) (hnm : c.nm.length ≤ 32) (w p a b k : Int) (n : Nat) (t : Int) (hpl : PlainR ⟨22, w, p, a, b, k, n, t⟩) (hat : plcB t = true) (hn : n < 18446744073709551616) : InsC W c x ⟨22, w, p, a, b, k, n, t⟩ (B (RW c ⟨22, w, p, a, b, k, n, t⟩)) := by
  exact rinst_22_0 hx ok hst hnm w p a b k n t hpl hat hn 
end Go.Proofs.YtnbgadndkepomaaGreatDoor
