/- ssa: ends, edges, the fields that a row leaves out. -/
import Derived.Test.YtnbgadndkepomaaGreatDoorSQC
namespace Go.Proofs.YtnbgadndkepomaaGreatDoor
open Go.RowKit

theorem len0 {α : Type} {l : List α} : ((l.length : Int) == 0) = true ↔ l.length = 0 := by simp
/-- Edges that can be read. -/
def EdgeRow (w : World) (A : Option Addr) (l : List Edge) : Prop := ∀ (i : Nat) (h : i < l.length), ∃ g o TA tc, A = some ⟨g, o, none⟩ ∧ w.cell? ⟨g, o + i * 2, none⟩ = some (.int .i64 l[i].to) ∧ w.cell? ⟨g, o + i * 2 + 1, none⟩ = some (.slice TA l[i].args.length tc) ∧ l[i].args.length ≤ tc ∧ tc ≤ maxLen ∧ (TA = none → tc = 0) ∧ IRow w TA l[i].args
theorem EdgeRow.later {w w' : World} (hb : Below w.heap.size w w') {A : Option Addr} {l : List Edge} (h : EdgeRow w A l) : EdgeRow w' A l := fun i hi => by
  obtain ⟨g, o, TA, tc, e, h1, h2, h3, h4, hz, h5⟩ := h i hi
  exact ⟨g, o, TA, tc, e, cell_later hb h1, cell_later hb h2, h3, h4, hz, h5.later hb⟩
set_option maxRecDepth 100000 in
set_option maxHeartbeats 1600000 in
theorem leadsNowhere_any {W : World} (e : CEn) (TA EA : Option Addr) (tc ec : Nat) :
    Calls Tryz.prog 123 #[.agg #[.int .i64 e.kind, .int .i64 e.a, .int .i64 e.to, .int .i64 e.els, .slice TA e.ta.length tc, .slice EA e.ea.length ec, .int .i64 e.n, .int .i64 e.at_]] W fun r w' => r = .returned (.bool (B (NoWhere e))) ∧ Below W.heap.size W w' := by
  have N0 := Box.new W 41 #[.int .i64 e.kind, .int .i64 e.a, .int .i64 e.to, .int .i64 e.els, .slice TA e.ta.length tc, .slice EA e.ea.length ec, .int .i64 e.n, .int .i64 e.at_]
  have bA : Below W.heap.size W (W.alloc (.cells #[.int .i64 e.kind, .int .i64 e.a, .int .i64 e.to, .int .i64 e.els, .slice TA e.ta.length tc, .slice EA e.ea.length ec, .int .i64 e.n, .int .i64 e.at_] 41)) := (Below.refl _ _).alloc (Nat.le_refl _) _
  have n0 := N0.cell 0
  have n1 := N0.cell 1
  have n2 := N0.cell 2
  have n3 := N0.cell 3
  have n4 := N0.cell 4
  have n5 := N0.cell 5
  have n6 := N0.cell 6
  have n7 := N0.cell 7
  obtain ⟨R, hR⟩ : ∃ R, Hid (B (NoWhere e) = R) := ⟨_, Lib.hid rfl⟩
  rw [hR.out]
  by_cases q0 : e.a = 0
  rotate_left 1
  · have hQ : Hid (R = false) := Lib.hid (by rw [← hR.out]; exact B_not (fun h => q0 h.1))
    have b0 : (e.a == 0) = false := by simpa using q0
    clear hR q0
    go_enter Tryz.func123, Tryz.ntmps123
    go_wp2
    go_ret
    exact ⟨by rw [hQ.out]; rfl, bA⟩
  have b0 : (e.a == 0) = true := by simpa using q0
  by_cases q1 : e.to = 0
  rotate_left 1
  · have hQ : Hid (R = false) := Lib.hid (by rw [← hR.out]; exact B_not (fun h => q1 h.2.1))
    have b1 : (e.to == 0) = false := by simpa using q1
    clear hR q0 q1
    go_enter Tryz.func123, Tryz.ntmps123
    go_wp2
    go_ret
    exact ⟨by rw [hQ.out]; rfl, bA⟩
  have b1 : (e.to == 0) = true := by simpa using q1
  by_cases q2 : e.els = 0
  rotate_left 1
  · have hQ : Hid (R = false) := Lib.hid (by rw [← hR.out]; exact B_not (fun h => q2 h.2.2.1))
    have b2 : (e.els == 0) = false := by simpa using q2
    clear hR q0 q1 q2
    go_enter Tryz.func123, Tryz.ntmps123
    go_wp2
    go_ret
    exact ⟨by rw [hQ.out]; rfl, bA⟩
  have b2 : (e.els == 0) = true := by simpa using q2
  by_cases q3 : e.ta.length = 0
  rotate_left 1
  · have hQ : Hid (R = false) := Lib.hid (by rw [← hR.out]; exact B_not (fun h => q3 h.2.2.2.1))
    have b3 : ((e.ta.length : Int) == 0) = false := by simpa using q3
    clear hR q0 q1 q2 q3
    go_enter Tryz.func123, Tryz.ntmps123
    go_wp2
    go_ret
    exact ⟨by rw [hQ.out]; rfl, bA⟩
  have b3 : ((e.ta.length : Int) == 0) = true := by simpa using q3
  have hQ : Hid (R = ((e.ea.length : Int) == 0)) := Lib.hid (by rw [← hR.out]; exact (B_eq (by rw [len0]; exact ⟨fun h => ⟨q0, q1, q2, q3, h⟩, fun h => h.2.2.2.2⟩)).symm)
  clear hR q0 q1 q2 q3
  go_enter Tryz.func123, Tryz.ntmps123
  go_wp2
  go_ret
  exact ⟨by rw [hQ.out]; rfl, bA⟩
set_option maxRecDepth 100000 in
set_option maxHeartbeats 1600000 in
theorem endFits_any {W : World} (e : CEn) (TA EA : Option Addr) (tc ec : Nat) :
    Calls Tryz.prog 92 #[.agg #[.int .i64 e.kind, .int .i64 e.a, .int .i64 e.to, .int .i64 e.els, .slice TA e.ta.length tc, .slice EA e.ea.length ec, .int .i64 e.n, .int .i64 e.at_]] W fun r w' => r = .returned (.bool (B (EndP e))) ∧ Below W.heap.size W w' := by
  have N0 := Box.new W 41 #[.int .i64 e.kind, .int .i64 e.a, .int .i64 e.to, .int .i64 e.els, .slice TA e.ta.length tc, .slice EA e.ea.length ec, .int .i64 e.n, .int .i64 e.at_]
  have bA : Below W.heap.size W (W.alloc (.cells #[.int .i64 e.kind, .int .i64 e.a, .int .i64 e.to, .int .i64 e.els, .slice TA e.ta.length tc, .slice EA e.ea.length ec, .int .i64 e.n, .int .i64 e.at_] 41)) := (Below.refl _ _).alloc (Nat.le_refl _) _
  have n0 := N0.cell 0
  have n1 := N0.cell 1
  have n2 := N0.cell 2
  have n3 := N0.cell 3
  have n4 := N0.cell 4
  have n5 := N0.cell 5
  have n6 := N0.cell 6
  have n7 := N0.cell 7
  obtain ⟨R, hR⟩ : ∃ R, Hid (B (EndP e) = R) := ⟨_, Lib.hid rfl⟩
  rw [hR.out]
  by_cases k1 : e.kind = 1
  · have b : (e.kind == 1) = true := by simpa using k1
    have hE : Hid (R = B (e.a = 0 ∧ e.els = 0 ∧ e.ea.length = 0 ∧ e.n = 0)) := Lib.hid (by
      rw [← hR.out]; refine B_congr ?_; unfold EndP; rw [k1]; constructor
      · rintro (h | h | h | h)
        · exact h.2
        · exact absurd h.1 (by decide)
        · exact absurd h.1 (by decide)
        · exact absurd h.1 (by decide)
      · intro h; exact .inl ⟨rfl, h⟩)
    clear hR k1
    by_cases q0 : e.a = 0
    rotate_left 1
    · have hQ : Hid (R = false) := Lib.hid (by rw [hE.out]; exact B_not (fun h => q0 h.1))
      have b0 : (e.a == 0) = false := by simpa using q0
      clear hE q0
      go_enter Tryz.func92, Tryz.ntmps92
      go_wp2
      go_ret
      exact ⟨by rw [hQ.out]; rfl, bA⟩
    have b0 : (e.a == 0) = true := by simpa using q0
    by_cases q1 : e.els = 0
    rotate_left 1
    · have hQ : Hid (R = false) := Lib.hid (by rw [hE.out]; exact B_not (fun h => q1 h.2.1))
      have b1 : (e.els == 0) = false := by simpa using q1
      clear hE q0 q1
      go_enter Tryz.func92, Tryz.ntmps92
      go_wp2
      go_ret
      exact ⟨by rw [hQ.out]; rfl, bA⟩
    have b1 : (e.els == 0) = true := by simpa using q1
    by_cases q2 : e.ea.length = 0
    rotate_left 1
    · have hQ : Hid (R = false) := Lib.hid (by rw [hE.out]; exact B_not (fun h => q2 h.2.2.1))
      have b2 : ((e.ea.length : Int) == 0) = false := by simpa using q2
      clear hE q0 q1 q2
      go_enter Tryz.func92, Tryz.ntmps92
      go_wp2
      go_ret
      exact ⟨by rw [hQ.out]; rfl, bA⟩
    have b2 : ((e.ea.length : Int) == 0) = true := by simpa using q2
    have hQ : Hid (R = (e.n == 0)) := Lib.hid (by rw [hE.out]; exact (B_eq (by rw [beq_iff_eq]; exact ⟨fun h => ⟨q0, q1, q2, h⟩, fun h => h.2.2.2⟩)).symm)
    clear hE q0 q1 q2
    go_enter Tryz.func92, Tryz.ntmps92
    go_wp2
    go_ret
    exact ⟨by rw [hQ.out]; rfl, bA⟩
  have b1 : (e.kind == 1) = false := by simpa using k1
  by_cases k2 : e.kind = 2
  · have b : (e.kind == 2) = true := by simpa using k2
    have hQ : Hid (R = (e.n == 0)) := Lib.hid (by
      rw [← hR.out]; refine (B_eq ?_).symm; unfold EndP; rw [k2, beq_iff_eq]; constructor
      · intro h; exact .inr (.inl ⟨rfl, h⟩)
      · rintro (h | h | h | h)
        · exact absurd h.1 (by decide)
        · exact h.2
        · exact absurd h.1 (by decide)
        · exact absurd h.1 (by decide))
    clear hR k1 k2
    go_enter Tryz.func92, Tryz.ntmps92
    go_wp2
    go_ret
    exact ⟨by rw [hQ.out]; rfl, bA⟩
  have b2 : (e.kind == 2) = false := by simpa using k2
  by_cases k3 : e.kind = 3
  · have b : (e.kind == 3) = true := by simpa using k3
    have hE : Hid (R = B (NoWhere e ∧ e.n = 0)) := Lib.hid (by
      rw [← hR.out]; refine B_congr ?_; unfold EndP; rw [k3]; constructor
      · rintro (h | h | h | h)
        · exact absurd h.1 (by decide)
        · exact absurd h.1 (by decide)
        · exact h.2
        · exact absurd h.1 (by decide)
      · intro h; exact .inr (.inr (.inl ⟨rfl, h⟩)))
    clear hR k1 k2 k3
    go_enter Tryz.func92, Tryz.ntmps92
    go_wp2_with fail
    refine (leadsNowhere_any e TA EA tc ec).mono ?_
    rintro r w1 ⟨rfl, c1⟩
    have N1 := N0.below c1
    have m6 := N1.cell 6
    have bW := bA.trans (c1.mono bA.size)
    clear n0 n1 n2 n3 n4 n5 n6 n7 c1
    by_cases q0 : NoWhere e
    rotate_left 1
    · have hQ : Hid (R = false) := Lib.hid (by rw [hE.out]; exact B_not (fun h => q0 h.1))
      rw [B_not q0]
      clear hE q0
      go_wp2
      go_ret
      exact ⟨by rw [hQ.out]; rfl, bW⟩
    have hQ : Hid (R = (e.n == 0)) := Lib.hid (by rw [hE.out]; exact (B_eq (by rw [beq_iff_eq]; exact ⟨fun h => ⟨q0, h⟩, fun h => h.2⟩)).symm)
    rw [B_of q0]
    clear hE q0
    go_wp2
    go_ret
    exact ⟨by rw [hQ.out]; rfl, bW⟩
  have b3 : (e.kind == 3) = false := by simpa using k3
  by_cases k4 : e.kind = 4
  · have b : (e.kind == 4) = true := by simpa using k4
    have hE : Hid (R = B (NoWhere e ∧ 0 ≤ e.n ∧ e.n ≤ 255)) := Lib.hid (by
      rw [← hR.out]; refine B_congr ?_; unfold EndP; rw [k4]; constructor
      · rintro (h | h | h | h)
        · exact absurd h.1 (by decide)
        · exact absurd h.1 (by decide)
        · exact absurd h.1 (by decide)
        · exact h.2
      · intro h; exact .inr (.inr (.inr ⟨rfl, h⟩)))
    clear hR k1 k2 k3 k4
    go_enter Tryz.func92, Tryz.ntmps92
    go_wp2_with fail
    refine (leadsNowhere_any e TA EA tc ec).mono ?_
    rintro r w1 ⟨rfl, c1⟩
    have N1 := N0.below c1
    have m6 := N1.cell 6
    have bW := bA.trans (c1.mono bA.size)
    clear n0 n1 n2 n3 n4 n5 n6 n7 c1
    by_cases q0 : NoWhere e
    rotate_left 1
    · have hQ : Hid (R = false) := Lib.hid (by rw [hE.out]; exact B_not (fun h => q0 h.1))
      rw [B_not q0]
      clear hE q0
      go_wp2
      go_ret
      exact ⟨by rw [hQ.out]; rfl, bW⟩
    have hQ : Hid (R = B (0 ≤ e.n ∧ e.n ≤ 255)) := Lib.hid (by rw [hE.out]; exact B_congr ⟨fun h => h.2, fun h => ⟨q0, h⟩⟩)
    rw [B_of q0]
    clear hE q0
    go_wp2_with fail
    refine (within_any _ _ _ _).mono ?_
    rintro r w' ⟨rfl, rfl⟩
    go_wp2
    go_ret
    exact ⟨by rw [hQ.out]; rfl, bW⟩
  have b4 : (e.kind == 4) = false := by simpa using k4
  have hQ : Hid (R = false) := Lib.hid (by rw [← hR.out]; refine B_not ?_; rintro (h | h | h | h); exact k1 h.1; exact k2 h.1; exact k3 h.1; exact k4 h.1)
  clear hR k1 k2 k3 k4
  go_enter Tryz.func92, Tryz.ntmps92
  go_wp2
  go_ret
  exact ⟨by rw [hQ.out]; rfl, bA⟩
/-- A row of edges that was made. -/
def EdgesPost (W : World) (e : CEn) (r : Ending) (w' : World) : Prop := ∃ A c, r = .returned (.slice A (edges e).length c) ∧ (edges e).length ≤ c ∧ c ≤ maxLen ∧ EdgeRow w' A (edges e) ∧ Below W.heap.size W w'
set_option maxRecDepth 100000 in
set_option maxHeartbeats 1600000 in
theorem edgesOf_any {W : World} (e : CEn) (TA EA : Option Addr) (tc ec : Nat) (hl : EndL W e TA EA tc ec) :
    Calls Tryz.prog 94 #[.agg #[.int .i64 e.kind, .int .i64 e.a, .int .i64 e.to, .int .i64 e.els, .slice TA e.ta.length tc, .slice EA e.ea.length ec, .int .i64 e.n, .int .i64 e.at_]] W (EdgesPost W e) := by
  obtain ⟨r1, r2, ⟨l1, l2⟩, ⟨l3, l4⟩, z1, z2⟩ := hl
  have N0 := Box.new W 41 #[.int .i64 e.kind, .int .i64 e.a, .int .i64 e.to, .int .i64 e.els, .slice TA e.ta.length tc, .slice EA e.ea.length ec, .int .i64 e.n, .int .i64 e.at_]
  have bA : Below W.heap.size W (W.alloc (.cells #[.int .i64 e.kind, .int .i64 e.a, .int .i64 e.to, .int .i64 e.els, .slice TA e.ta.length tc, .slice EA e.ea.length ec, .int .i64 e.n, .int .i64 e.at_] 41)) := (Below.refl _ _).alloc (Nat.le_refl _) _
  have n0 := N0.cell 0
  have n1 := N0.cell 1
  have n2 := N0.cell 2
  have n3 := N0.cell 3
  have n4 := N0.cell 4
  have n5 := N0.cell 5
  have n6 := N0.cell 6
  have n7 := N0.cell 7
  have hr1 := Lib.hid (r1.later bA)
  have hr2 := Lib.hid (r2.later bA)
  have l2' := Lib.hid l2
  have l4' := Lib.hid l4
  have z1' := Lib.hid z1
  have z2' := Lib.hid z2
  clear z1 z2
  unfold maxLen at l2 l4
  clear r1 r2
  by_cases k1 : e.kind = 1
  · have b : (e.kind == 1) = true := by simpa using k1
    have hE : Hid (edges e = [⟨e.to, e.ta⟩]) := Lib.hid (by unfold edges; rw [if_pos k1])
    clear k1
    go_enter Tryz.func94, Tryz.ntmps94
    go_wp2
    go_ret
    have N2 := Box.new (W.alloc (.cells #[.int .i64 e.kind, .int .i64 e.a, .int .i64 e.to, .int .i64 e.els, .slice TA e.ta.length tc, .slice EA e.ea.length ec, .int .i64 e.n, .int .i64 e.at_] 41)) 100 #[.int .i64 e.to, .slice TA e.ta.length tc]
    have bC : Below (W.alloc (.cells #[.int .i64 e.kind, .int .i64 e.a, .int .i64 e.to, .int .i64 e.els, .slice TA e.ta.length tc, .slice EA e.ea.length ec, .int .i64 e.n, .int .i64 e.at_] 41)).heap.size (W.alloc (.cells #[.int .i64 e.kind, .int .i64 e.a, .int .i64 e.to, .int .i64 e.els, .slice TA e.ta.length tc, .slice EA e.ea.length ec, .int .i64 e.n, .int .i64 e.at_] 41)) ((W.alloc (.cells #[.int .i64 e.kind, .int .i64 e.a, .int .i64 e.to, .int .i64 e.els, .slice TA e.ta.length tc, .slice EA e.ea.length ec, .int .i64 e.n, .int .i64 e.at_] 41)).alloc (.cells #[.int .i64 e.to, .slice TA e.ta.length tc] 100)) := (Below.refl _ _).alloc (Nat.le_refl _) _
    have bB := bA.trans (bC.mono bA.size)
    refine ⟨some ⟨(W.alloc (.cells #[.int .i64 e.kind, .int .i64 e.a, .int .i64 e.to, .int .i64 e.els, .slice TA e.ta.length tc, .slice EA e.ea.length ec, .int .i64 e.n, .int .i64 e.at_] 41)).heap.size, 0, none⟩, 1, by rw [hE.out]; simp, by rw [hE.out]; exact Nat.le_refl _, by unfold maxLen; omega, ?_, bB⟩
    rw [hE.out]
    intro i hi
    match i, hi with
    | 0, _ => exact ⟨_, 0, TA, tc, rfl, by simp, by simp, l1, l2'.out, z1'.out, hr1.out.later bC⟩
    | k + 1, h => simp at h
  have b1 : (e.kind == 1) = false := by simpa using k1
  by_cases k2 : e.kind = 2
  · have b : (e.kind == 2) = true := by simpa using k2
    have hE : Hid (edges e = [⟨e.to, e.ta⟩, ⟨e.els, e.ea⟩]) := Lib.hid (by unfold edges; rw [if_neg k1, if_pos k2])
    clear k1 k2
    go_enter Tryz.func94, Tryz.ntmps94
    go_wp2
    go_ret
    have N2 := Box.new (W.alloc (.cells #[.int .i64 e.kind, .int .i64 e.a, .int .i64 e.to, .int .i64 e.els, .slice TA e.ta.length tc, .slice EA e.ea.length ec, .int .i64 e.n, .int .i64 e.at_] 41)) 100 #[.int .i64 e.to, .slice TA e.ta.length tc, .int .i64 e.els, .slice EA e.ea.length ec]
    have bC : Below (W.alloc (.cells #[.int .i64 e.kind, .int .i64 e.a, .int .i64 e.to, .int .i64 e.els, .slice TA e.ta.length tc, .slice EA e.ea.length ec, .int .i64 e.n, .int .i64 e.at_] 41)).heap.size (W.alloc (.cells #[.int .i64 e.kind, .int .i64 e.a, .int .i64 e.to, .int .i64 e.els, .slice TA e.ta.length tc, .slice EA e.ea.length ec, .int .i64 e.n, .int .i64 e.at_] 41)) ((W.alloc (.cells #[.int .i64 e.kind, .int .i64 e.a, .int .i64 e.to, .int .i64 e.els, .slice TA e.ta.length tc, .slice EA e.ea.length ec, .int .i64 e.n, .int .i64 e.at_] 41)).alloc (.cells #[.int .i64 e.to, .slice TA e.ta.length tc, .int .i64 e.els, .slice EA e.ea.length ec] 100)) := (Below.refl _ _).alloc (Nat.le_refl _) _
    have bB := bA.trans (bC.mono bA.size)
    refine ⟨some ⟨(W.alloc (.cells #[.int .i64 e.kind, .int .i64 e.a, .int .i64 e.to, .int .i64 e.els, .slice TA e.ta.length tc, .slice EA e.ea.length ec, .int .i64 e.n, .int .i64 e.at_] 41)).heap.size, 0, none⟩, 2, by rw [hE.out]; simp, by rw [hE.out]; exact Nat.le_refl _, by unfold maxLen; omega, ?_, bB⟩
    rw [hE.out]
    intro i hi
    match i, hi with
    | 0, _ => exact ⟨_, 0, TA, tc, rfl, by simp, by simp, l1, l2'.out, z1'.out, hr1.out.later bC⟩
    | 1, _ => exact ⟨_, 0, EA, ec, rfl, by simp, by simp, l3, l4'.out, z2'.out, hr2.out.later bC⟩
    | k + 2, h => simp at h; omega
  have b2 : (e.kind == 2) = false := by simpa using k2
  have hE : Hid (edges e = []) := Lib.hid (by unfold edges; rw [if_neg k1, if_neg k2])
  clear k1 k2
  go_enter Tryz.func94, Tryz.ntmps94
  go_wp2
  go_ret
  exact ⟨none, 0, by rw [hE.out]; rfl, by rw [hE.out]; exact Nat.le_refl _, by unfold maxLen; omega, fun i hi => by rw [hE.out] at hi; simp at hi, bA⟩
end Go.Proofs.YtnbgadndkepomaaGreatDoor
