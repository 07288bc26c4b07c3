/- Joined texts: SaFit, SaFi2. -/
import Derived.Test.YtnbgadndkepomaaGreatDoorSaCell

/- ssa: what the rows ask of instructions. -/
namespace Go.Proofs.YtnbgadndkepomaaGreatDoor
open Go.RowKit

theorem u64_in {z : Int} (h0 : 0 ≤ z) (h1 : z < 18446744073709551616) : IntKind.u64.wrap z = z := by
  simp [IntKind.wrap, IntKind.bits, IntKind.signed]
  omega
theorem w64_in {z : Int} (h0 : -9223372036854775808 ≤ z) (h1 : z ≤ 9223372036854775807) : wrap64 z = z := IntWalk.wrap64_in z ⟨h0, h1⟩
set_option maxRecDepth 100000 in
set_option maxHeartbeats 400000 in
theorem arithmeticFits_any {W : World} {p : Nat} {c : Cd} {x : Sl} (h : PtAt W p c x) (i : CIn) (ha : Ix i.a c.ins) (hb : Ix i.b c.ins) :
    Calls Tryz.prog 66 #[.pointer (some ⟨p, 0, none⟩), .agg #[.int .i64 i.op, .int .i64 i.w, .int .i64 i.p, .int .i64 i.a, .int .i64 i.b, .int .i64 i.c, .int .u64 i.n, .int .i64 i.at_]] W fun e w' => e = .returned (.bool (B (Wid (wOf c i.a) ∧ wOf c i.a = wOf c i.b ∧ i.w = wOf c i.a))) ∧ Below W.heap.size W w' := by
  have N0 := Box.new W 47 #[.int .i64 i.op, .int .i64 i.w, .int .i64 i.p, .int .i64 i.a, .int .i64 i.b, .int .i64 i.c, .int .u64 i.n, .int .i64 i.at_]
  have bA : Below W.heap.size W (W.alloc (.cells #[.int .i64 i.op, .int .i64 i.w, .int .i64 i.p, .int .i64 i.a, .int .i64 i.b, .int .i64 i.c, .int .u64 i.n, .int .i64 i.at_] 47)) := (Below.refl _ _).alloc (Nat.le_refl _) _
  have hA := h.later bA
  have n1 := N0.cell 1
  have n2 := N0.cell 2
  have n3 := N0.cell 3
  have n4 := N0.cell 4
  have n5 := N0.cell 5
  have n6 := N0.cell 6
  obtain ⟨R, hR⟩ : ∃ R, Hid (B (Wid (wOf c i.a) ∧ wOf c i.a = wOf c i.b ∧ i.w = wOf c i.a) = R) := ⟨_, Lib.hid rfl⟩
  rw [hR.out]
  by_cases q0 : Wid (wOf c i.a) ∧ wOf c i.a = wOf c i.b
  rotate_left 1
  · have hQ : Hid (R = false) := Lib.hid (by rw [← hR.out]; exact B_not (fun h => by first | exact q0 h.1 | exact q0 ⟨h.1, h.2.1⟩ | exact q0 h.2.1 | exact q0 h.2.2.1 | exact q0 h.2.2.2 | exact q0 h.2.2 | exact q0 h.2 | exact q0 h | exact q0 ⟨h.2.1, h.2.2.1⟩ | (apply q0; omega)))
    have k0 := fun m => haveOneWidth_any (hA.drewN m) i.a i.b ha hb
    simp only [B_not q0] at k0
    clear hR q0
    go_enter Tryz.func66, Tryz.ntmps66
    go_wp2_with fail
    go_quiet (first | (go_at_call 110; with_reducible exact quiet_same' (k0 _)) | (go_at_call 106; with_reducible exact quiet_same' (width_any (hA.drewN _) i.a ha)))
    go_wp2
    go_ret
    exact ⟨by rw [hQ.out]; rfl, Below.trans bA ((Drew.below ⟨_, rfl⟩).mono bA.size)⟩
  have k0 := fun m => haveOneWidth_any (hA.drewN m) i.a i.b ha hb
  simp only [B_of q0] at k0
  have hQ : Hid (R = (i.w == wOf c i.a)) := Lib.hid (by rw [← hR.out]; exact (B_eq (by rw [beq_iff_eq]; exact ⟨fun h => ⟨q0.1, q0.2, h⟩, fun h => by first | exact h.2.2.1 | exact h.2.2 | exact h.2 | exact h⟩)).symm)
  clear hR q0
  go_enter Tryz.func66, Tryz.ntmps66
  go_wp2_with fail
  go_quiet (first | (go_at_call 110; with_reducible exact quiet_same' (k0 _)) | (go_at_call 106; with_reducible exact quiet_same' (width_any (hA.drewN _) i.a ha)))
  go_wp2
  go_ret
  exact ⟨by rw [hQ.out]; rfl, Below.trans bA ((Drew.below ⟨_, rfl⟩).mono bA.size)⟩
set_option maxRecDepth 100000 in
set_option maxHeartbeats 400000 in
theorem comparisonFits_any {W : World} {p : Nat} {c : Cd} {x : Sl} (h : PtAt W p c x) (i : CIn) (ha : Ix i.a c.ins) (hb : Ix i.b c.ins) :
    Calls Tryz.prog 67 #[.pointer (some ⟨p, 0, none⟩), .agg #[.int .i64 i.op, .int .i64 i.w, .int .i64 i.p, .int .i64 i.a, .int .i64 i.b, .int .i64 i.c, .int .u64 i.n, .int .i64 i.at_]] W fun e w' => e = .returned (.bool (B (Wid (wOf c i.a) ∧ wOf c i.a = wOf c i.b ∧ i.w = 1))) ∧ Below W.heap.size W w' := by
  have N0 := Box.new W 47 #[.int .i64 i.op, .int .i64 i.w, .int .i64 i.p, .int .i64 i.a, .int .i64 i.b, .int .i64 i.c, .int .u64 i.n, .int .i64 i.at_]
  have bA : Below W.heap.size W (W.alloc (.cells #[.int .i64 i.op, .int .i64 i.w, .int .i64 i.p, .int .i64 i.a, .int .i64 i.b, .int .i64 i.c, .int .u64 i.n, .int .i64 i.at_] 47)) := (Below.refl _ _).alloc (Nat.le_refl _) _
  have hA := h.later bA
  have n1 := N0.cell 1
  have n2 := N0.cell 2
  have n3 := N0.cell 3
  have n4 := N0.cell 4
  have n5 := N0.cell 5
  have n6 := N0.cell 6
  obtain ⟨R, hR⟩ : ∃ R, Hid (B (Wid (wOf c i.a) ∧ wOf c i.a = wOf c i.b ∧ i.w = 1) = R) := ⟨_, Lib.hid rfl⟩
  rw [hR.out]
  by_cases q0 : Wid (wOf c i.a) ∧ wOf c i.a = wOf c i.b
  rotate_left 1
  · have hQ : Hid (R = false) := Lib.hid (by rw [← hR.out]; exact B_not (fun h => by first | exact q0 h.1 | exact q0 ⟨h.1, h.2.1⟩ | exact q0 h.2.1 | exact q0 h.2.2.1 | exact q0 h.2.2.2 | exact q0 h.2.2 | exact q0 h.2 | exact q0 h | exact q0 ⟨h.2.1, h.2.2.1⟩ | (apply q0; omega)))
    have k0 := fun m => haveOneWidth_any (hA.drewN m) i.a i.b ha hb
    simp only [B_not q0] at k0
    clear hR q0
    go_enter Tryz.func67, Tryz.ntmps67
    go_wp2_with fail
    refine (k0 0).mono ?_
    rintro e w' ⟨rfl, rfl⟩
    go_wp2
    go_ret
    exact ⟨by rw [hQ.out]; rfl, bA⟩
  have k0 := fun m => haveOneWidth_any (hA.drewN m) i.a i.b ha hb
  simp only [B_of q0] at k0
  have hQ : Hid (R = (i.w == 1)) := Lib.hid (by rw [← hR.out]; exact (B_eq (by rw [beq_iff_eq]; exact ⟨fun h => ⟨q0.1, q0.2, h⟩, fun h => by first | exact h.2.2.1 | exact h.2.2 | exact h.2 | exact h⟩)).symm)
  clear hR q0
  go_enter Tryz.func67, Tryz.ntmps67
  go_wp2_with fail
  refine (k0 0).mono ?_
  rintro e w' ⟨rfl, rfl⟩
  go_wp2
  go_ret
  exact ⟨by rw [hQ.out]; rfl, bA⟩
set_option maxRecDepth 100000 in
set_option maxHeartbeats 400000 in
theorem notFits_any {W : World} {p : Nat} {c : Cd} {x : Sl} (h : PtAt W p c x) (i : CIn) (ha : Ix i.a c.ins) :
    Calls Tryz.prog 70 #[.pointer (some ⟨p, 0, none⟩), .agg #[.int .i64 i.op, .int .i64 i.w, .int .i64 i.p, .int .i64 i.a, .int .i64 i.b, .int .i64 i.c, .int .u64 i.n, .int .i64 i.at_]] W fun e w' => e = .returned (.bool (B (Wid (wOf c i.a) ∧ i.w = wOf c i.a))) ∧ Below W.heap.size W w' := by
  have N0 := Box.new W 47 #[.int .i64 i.op, .int .i64 i.w, .int .i64 i.p, .int .i64 i.a, .int .i64 i.b, .int .i64 i.c, .int .u64 i.n, .int .i64 i.at_]
  have bA : Below W.heap.size W (W.alloc (.cells #[.int .i64 i.op, .int .i64 i.w, .int .i64 i.p, .int .i64 i.a, .int .i64 i.b, .int .i64 i.c, .int .u64 i.n, .int .i64 i.at_] 47)) := (Below.refl _ _).alloc (Nat.le_refl _) _
  have hA := h.later bA
  have n1 := N0.cell 1
  have n2 := N0.cell 2
  have n3 := N0.cell 3
  have n4 := N0.cell 4
  have n5 := N0.cell 5
  have n6 := N0.cell 6
  obtain ⟨R, hR⟩ : ∃ R, Hid (B (Wid (wOf c i.a) ∧ i.w = wOf c i.a) = R) := ⟨_, Lib.hid rfl⟩
  rw [hR.out]
  by_cases q0 : Wid (wOf c i.a)
  rotate_left 1
  · have hQ : Hid (R = false) := Lib.hid (by rw [← hR.out]; exact B_not (fun h => by first | exact q0 h.1 | exact q0 ⟨h.1, h.2.1⟩ | exact q0 h.2.1 | exact q0 h.2.2.1 | exact q0 h.2.2.2 | exact q0 h.2.2 | exact q0 h.2 | exact q0 h | exact q0 ⟨h.2.1, h.2.2.1⟩ | (apply q0; omega)))
    have k0 := fun m => isInteger_any (hA.drewN m) i.a ha
    simp only [B_not q0] at k0
    clear hR q0
    go_enter Tryz.func70, Tryz.ntmps70
    go_wp2_with fail
    go_quiet (first | (go_at_call 111; with_reducible exact quiet_same' (k0 _)) | (go_at_call 106; with_reducible exact quiet_same' (width_any (hA.drewN _) i.a ha)))
    go_wp2
    go_ret
    exact ⟨by rw [hQ.out]; rfl, Below.trans bA ((Drew.below ⟨_, rfl⟩).mono bA.size)⟩
  have k0 := fun m => isInteger_any (hA.drewN m) i.a ha
  simp only [B_of q0] at k0
  have hQ : Hid (R = (i.w == wOf c i.a)) := Lib.hid (by rw [← hR.out]; exact (B_eq (by rw [beq_iff_eq]; exact ⟨fun h => ⟨q0, h⟩, fun h => by first | exact h.2.2.1 | exact h.2.2 | exact h.2 | exact h⟩)).symm)
  clear hR q0
  go_enter Tryz.func70, Tryz.ntmps70
  go_wp2_with fail
  go_quiet (first | (go_at_call 111; with_reducible exact quiet_same' (k0 _)) | (go_at_call 106; with_reducible exact quiet_same' (width_any (hA.drewN _) i.a ha)))
  go_wp2
  go_ret
  exact ⟨by rw [hQ.out]; rfl, Below.trans bA ((Drew.below ⟨_, rfl⟩).mono bA.size)⟩
set_option maxRecDepth 100000 in
set_option maxHeartbeats 400000 in
theorem extensionFits_any {W : World} {p : Nat} {c : Cd} {x : Sl} (h : PtAt W p c x) (i : CIn) (ha : Ix i.a c.ins) :
    Calls Tryz.prog 68 #[.pointer (some ⟨p, 0, none⟩), .agg #[.int .i64 i.op, .int .i64 i.w, .int .i64 i.p, .int .i64 i.a, .int .i64 i.b, .int .i64 i.c, .int .u64 i.n, .int .i64 i.at_]] W fun e w' => e = .returned (.bool (B (Wid (wOf c i.a) ∧ wOf c i.a ≤ i.w ∧ i.w ≤ 64))) ∧ Below W.heap.size W w' := by
  have N0 := Box.new W 47 #[.int .i64 i.op, .int .i64 i.w, .int .i64 i.p, .int .i64 i.a, .int .i64 i.b, .int .i64 i.c, .int .u64 i.n, .int .i64 i.at_]
  have bA : Below W.heap.size W (W.alloc (.cells #[.int .i64 i.op, .int .i64 i.w, .int .i64 i.p, .int .i64 i.a, .int .i64 i.b, .int .i64 i.c, .int .u64 i.n, .int .i64 i.at_] 47)) := (Below.refl _ _).alloc (Nat.le_refl _) _
  have hA := h.later bA
  have n1 := N0.cell 1
  have n2 := N0.cell 2
  have n3 := N0.cell 3
  have n4 := N0.cell 4
  have n5 := N0.cell 5
  have n6 := N0.cell 6
  obtain ⟨R, hR⟩ : ∃ R, Hid (B (Wid (wOf c i.a) ∧ wOf c i.a ≤ i.w ∧ i.w ≤ 64) = R) := ⟨_, Lib.hid rfl⟩
  rw [hR.out]
  by_cases q0 : Wid (wOf c i.a)
  rotate_left 1
  · have hQ : Hid (R = false) := Lib.hid (by rw [← hR.out]; exact B_not (fun h => by first | exact q0 h.1 | exact q0 ⟨h.1, h.2.1⟩ | exact q0 h.2.1 | exact q0 h.2.2.1 | exact q0 h.2.2.2 | exact q0 h.2.2 | exact q0 h.2 | exact q0 h | exact q0 ⟨h.2.1, h.2.2.1⟩ | (apply q0; omega)))
    have k0 := fun m => isInteger_any (hA.drewN m) i.a ha
    simp only [B_not q0] at k0
    clear hR q0
    go_enter Tryz.func68, Tryz.ntmps68
    go_wp2_with fail
    go_quiet (first | (go_at_call 111; with_reducible exact quiet_same' (k0 _)) | (go_at_call 106; with_reducible exact quiet_same' (width_any (hA.drewN _) i.a ha)))
    go_wp2
    go_ret
    exact ⟨by rw [hQ.out]; rfl, Below.trans bA ((Drew.below ⟨_, rfl⟩).mono bA.size)⟩
  have k0 := fun m => isInteger_any (hA.drewN m) i.a ha
  simp only [B_of q0] at k0
  have hQ : Hid (R = (B (wOf c i.a ≤ i.w ∧ i.w ≤ 64))) := Lib.hid (by rw [← hR.out]; exact (B_eq (by rw [B_true]; exact ⟨fun h => ⟨q0, h⟩, fun h => by first | exact h.2.2.2 | exact h.2.2 | exact h.2⟩)).symm)
  clear hR q0
  have kl := fun m => within_any i.w (wOf c i.a) 64 ((W.alloc (.cells #[.int .i64 i.op, .int .i64 i.w, .int .i64 i.p, .int .i64 i.a, .int .i64 i.b, .int .i64 i.c, .int .u64 i.n, .int .i64 i.at_] 47)).drewN m)
  go_enter Tryz.func68, Tryz.ntmps68
  go_wp2_with fail
  go_quiet (first | (go_at_call 111; with_reducible exact quiet_same' (k0 _)) | (go_at_call 82; with_reducible exact quiet_same' (kl _)) | (go_at_call 106; with_reducible exact quiet_same' (width_any (hA.drewN _) i.a ha)))
  go_wp2
  go_ret
  exact ⟨by rw [hQ.out]; rfl, Below.trans bA ((Drew.below ⟨_, rfl⟩).mono bA.size)⟩
set_option maxRecDepth 100000 in
set_option maxHeartbeats 400000 in
theorem byteFits_any {W : World} {p : Nat} {c : Cd} {x : Sl} (h : PtAt W p c x) (i : CIn) (ha : Ix i.a c.ins) :
    Calls Tryz.prog 73 #[.pointer (some ⟨p, 0, none⟩), .agg #[.int .i64 i.op, .int .i64 i.w, .int .i64 i.p, .int .i64 i.a, .int .i64 i.b, .int .i64 i.c, .int .u64 i.n, .int .i64 i.at_]] W fun e w' => e = .returned (.bool (B (Wid (wOf c i.a) ∧ i.w = 8))) ∧ Below W.heap.size W w' := by
  have N0 := Box.new W 47 #[.int .i64 i.op, .int .i64 i.w, .int .i64 i.p, .int .i64 i.a, .int .i64 i.b, .int .i64 i.c, .int .u64 i.n, .int .i64 i.at_]
  have bA : Below W.heap.size W (W.alloc (.cells #[.int .i64 i.op, .int .i64 i.w, .int .i64 i.p, .int .i64 i.a, .int .i64 i.b, .int .i64 i.c, .int .u64 i.n, .int .i64 i.at_] 47)) := (Below.refl _ _).alloc (Nat.le_refl _) _
  have hA := h.later bA
  have n1 := N0.cell 1
  have n2 := N0.cell 2
  have n3 := N0.cell 3
  have n4 := N0.cell 4
  have n5 := N0.cell 5
  have n6 := N0.cell 6
  obtain ⟨R, hR⟩ : ∃ R, Hid (B (Wid (wOf c i.a) ∧ i.w = 8) = R) := ⟨_, Lib.hid rfl⟩
  rw [hR.out]
  by_cases q0 : Wid (wOf c i.a)
  rotate_left 1
  · have hQ : Hid (R = false) := Lib.hid (by rw [← hR.out]; exact B_not (fun h => by first | exact q0 h.1 | exact q0 ⟨h.1, h.2.1⟩ | exact q0 h.2.1 | exact q0 h.2.2.1 | exact q0 h.2.2.2 | exact q0 h.2.2 | exact q0 h.2 | exact q0 h | exact q0 ⟨h.2.1, h.2.2.1⟩ | (apply q0; omega)))
    have k0 := fun m => isInteger_any (hA.drewN m) i.a ha
    simp only [B_not q0] at k0
    clear hR q0
    go_enter Tryz.func73, Tryz.ntmps73
    go_wp2_with fail
    refine (k0 0).mono ?_
    rintro e w' ⟨rfl, rfl⟩
    go_wp2
    go_ret
    exact ⟨by rw [hQ.out]; rfl, bA⟩
  have k0 := fun m => isInteger_any (hA.drewN m) i.a ha
  simp only [B_of q0] at k0
  have hQ : Hid (R = (i.w == 8)) := Lib.hid (by rw [← hR.out]; exact (B_eq (by rw [beq_iff_eq]; exact ⟨fun h => ⟨q0, h⟩, fun h => by first | exact h.2.2.1 | exact h.2.2 | exact h.2 | exact h⟩)).symm)
  clear hR q0
  go_enter Tryz.func73, Tryz.ntmps73
  go_wp2_with fail
  refine (k0 0).mono ?_
  rintro e w' ⟨rfl, rfl⟩
  go_wp2
  go_ret
  exact ⟨by rw [hQ.out]; rfl, bA⟩
set_option maxRecDepth 100000 in
set_option maxHeartbeats 400000 in
theorem lenFits_any {W : World} {p : Nat} {c : Cd} {x : Sl} (h : PtAt W p c x) (i : CIn) :
    Calls Tryz.prog 74 #[.pointer (some ⟨p, 0, none⟩), .agg #[.int .i64 i.op, .int .i64 i.w, .int .i64 i.p, .int .i64 i.a, .int .i64 i.b, .int .i64 i.c, .int .u64 i.n, .int .i64 i.at_]] W fun e w' => e = .returned (.bool (B (i.w = 8))) ∧ Below W.heap.size W w' := by
  have N0 := Box.new W 47 #[.int .i64 i.op, .int .i64 i.w, .int .i64 i.p, .int .i64 i.a, .int .i64 i.b, .int .i64 i.c, .int .u64 i.n, .int .i64 i.at_]
  have bA : Below W.heap.size W (W.alloc (.cells #[.int .i64 i.op, .int .i64 i.w, .int .i64 i.p, .int .i64 i.a, .int .i64 i.b, .int .i64 i.c, .int .u64 i.n, .int .i64 i.at_] 47)) := (Below.refl _ _).alloc (Nat.le_refl _) _
  have hA := h.later bA
  have n1 := N0.cell 1
  have n2 := N0.cell 2
  have n3 := N0.cell 3
  have n4 := N0.cell 4
  have n5 := N0.cell 5
  have n6 := N0.cell 6
  obtain ⟨R, hR⟩ : ∃ R, Hid (B (i.w = 8) = R) := ⟨_, Lib.hid rfl⟩
  rw [hR.out]
  have hQ : Hid (R = (i.w == 8)) := Lib.hid (by rw [← hR.out]; exact (B_eq (by rw [beq_iff_eq])).symm)
  clear hR 
  go_enter Tryz.func74, Tryz.ntmps74
  go_wp2
  go_ret
  exact ⟨by rw [hQ.out]; rfl, bA⟩
set_option maxRecDepth 100000 in
set_option maxHeartbeats 400000 in
theorem partFits_any {W : World} {p : Nat} {c : Cd} {x : Sl} (h : PtAt W p c x) (i : CIn) (ha : Ix i.a c.ins) :
    Calls Tryz.prog 71 #[.pointer (some ⟨p, 0, none⟩), .agg #[.int .i64 i.op, .int .i64 i.w, .int .i64 i.p, .int .i64 i.a, .int .i64 i.b, .int .i64 i.c, .int .u64 i.n, .int .i64 i.at_]] W fun e w' => e = .returned (.bool (B (Wid (wOf c i.a) ∧ (1 ≤ i.w ∧ i.w ≤ wOf c i.a) ∧ (i.n : Int) + i.w ≤ wOf c i.a))) ∧ Below W.heap.size W w' := by
  have N0 := Box.new W 47 #[.int .i64 i.op, .int .i64 i.w, .int .i64 i.p, .int .i64 i.a, .int .i64 i.b, .int .i64 i.c, .int .u64 i.n, .int .i64 i.at_]
  have bA : Below W.heap.size W (W.alloc (.cells #[.int .i64 i.op, .int .i64 i.w, .int .i64 i.p, .int .i64 i.a, .int .i64 i.b, .int .i64 i.c, .int .u64 i.n, .int .i64 i.at_] 47)) := (Below.refl _ _).alloc (Nat.le_refl _) _
  have hA := h.later bA
  have n1 := N0.cell 1
  have n2 := N0.cell 2
  have n3 := N0.cell 3
  have n4 := N0.cell 4
  have n5 := N0.cell 5
  have n6 := N0.cell 6
  obtain ⟨R, hR⟩ : ∃ R, Hid (B (Wid (wOf c i.a) ∧ (1 ≤ i.w ∧ i.w ≤ wOf c i.a) ∧ (i.n : Int) + i.w ≤ wOf c i.a) = R) := ⟨_, Lib.hid rfl⟩
  rw [hR.out]
  by_cases q0 : Wid (wOf c i.a)
  rotate_left 1
  · have hQ : Hid (R = false) := Lib.hid (by rw [← hR.out]; exact B_not (fun h => by first | exact q0 h.1 | exact q0 ⟨h.1, h.2.1⟩ | exact q0 h.2.1 | exact q0 h.2.2.1 | exact q0 h.2.2.2 | exact q0 h.2.2 | exact q0 h.2 | exact q0 h | exact q0 ⟨h.2.1, h.2.2.1⟩ | (apply q0; omega)))
    have k0 := fun m => isInteger_any (hA.drewN m) i.a ha
    simp only [B_not q0] at k0
    clear hR q0
    go_enter Tryz.func71, Tryz.ntmps71
    go_wp2_with fail
    go_quiet (first | (go_at_call 111; with_reducible exact quiet_same' (k0 _)) | (go_at_call 106; with_reducible exact quiet_same' (width_any (hA.drewN _) i.a ha)))
    go_wp2
    go_ret
    exact ⟨by rw [hQ.out]; rfl, Below.trans bA ((Drew.below ⟨_, rfl⟩).mono bA.size)⟩
  have k0 := fun m => isInteger_any (hA.drewN m) i.a ha
  simp only [B_of q0] at k0
  by_cases q1 : 1 ≤ i.w ∧ i.w ≤ wOf c i.a
  rotate_left 1
  · have hQ : Hid (R = false) := Lib.hid (by rw [← hR.out]; exact B_not (fun h => by first | exact q1 h.1 | exact q1 ⟨h.1, h.2.1⟩ | exact q1 h.2.1 | exact q1 h.2.2.1 | exact q1 h.2.2.2 | exact q1 h.2.2 | exact q1 h.2 | exact q1 h | exact q1 ⟨h.2.1, h.2.2.1⟩ | (apply q1; omega)))
    have k1 := fun m => within_any i.w 1 (wOf c i.a) ((W.alloc (.cells #[.int .i64 i.op, .int .i64 i.w, .int .i64 i.p, .int .i64 i.a, .int .i64 i.b, .int .i64 i.c, .int .u64 i.n, .int .i64 i.at_] 47)).drewN m)
    simp only [B_not q1] at k1
    clear hR q0 q1
    go_enter Tryz.func71, Tryz.ntmps71
    go_wp2_with fail
    go_quiet (first | (go_at_call 111; with_reducible exact quiet_same' (k0 _)) | (go_at_call 82; with_reducible exact quiet_same' (k1 _)) | (go_at_call 106; with_reducible exact quiet_same' (width_any (hA.drewN _) i.a ha)))
    go_wp2
    go_ret
    exact ⟨by rw [hQ.out]; rfl, Below.trans bA ((Drew.below ⟨_, rfl⟩).mono bA.size)⟩
  have k1 := fun m => within_any i.w 1 (wOf c i.a) ((W.alloc (.cells #[.int .i64 i.op, .int .i64 i.w, .int .i64 i.p, .int .i64 i.a, .int .i64 i.b, .int .i64 i.c, .int .u64 i.n, .int .i64 i.at_] 47)).drewN m)
  simp only [B_of q1] at k1
  have hQ : Hid (R = (decide ((i.n : Int) ≤ IntKind.u64.wrap (wrap64 (wOf c i.a - i.w))))) := Lib.hid (by rw [← hR.out]; exact (B_eq (by rw [decide_eq_true_iff, w64_in (by have := q1.2; omega) (by have := q0.2; have := q1.1; omega), u64_in (by have := q1.2; omega) (by have := q0.2; have := q1.1; omega)]; exact ⟨fun h => ⟨q0, q1, by omega⟩, fun h => by have := h.2.2; omega⟩)).symm)
  clear hR q0 q1
  go_enter Tryz.func71, Tryz.ntmps71
  go_wp2_with fail
  go_quiet (first | (go_at_call 111; with_reducible exact quiet_same' (k0 _)) | (go_at_call 82; with_reducible exact quiet_same' (k1 _)) | (go_at_call 106; with_reducible exact quiet_same' (width_any (hA.drewN _) i.a ha)))
  go_wp2
  go_ret
  exact ⟨by rw [hQ.out]; rfl, Below.trans bA ((Drew.below ⟨_, rfl⟩).mono bA.size)⟩
set_option maxRecDepth 100000 in
set_option maxHeartbeats 400000 in
theorem joinFits_any {W : World} {p : Nat} {c : Cd} {x : Sl} (h : PtAt W p c x) (i : CIn) (ha : Ix i.a c.ins) (hb : Ix i.b c.ins) :
    Calls Tryz.prog 72 #[.pointer (some ⟨p, 0, none⟩), .agg #[.int .i64 i.op, .int .i64 i.w, .int .i64 i.p, .int .i64 i.a, .int .i64 i.b, .int .i64 i.c, .int .u64 i.n, .int .i64 i.at_]] W fun e w' => e = .returned (.bool (B (Wid (wOf c i.a) ∧ Wid (wOf c i.b) ∧ i.w = wOf c i.a + wOf c i.b ∧ Wid i.w))) ∧ Below W.heap.size W w' := by
  have N0 := Box.new W 47 #[.int .i64 i.op, .int .i64 i.w, .int .i64 i.p, .int .i64 i.a, .int .i64 i.b, .int .i64 i.c, .int .u64 i.n, .int .i64 i.at_]
  have bA : Below W.heap.size W (W.alloc (.cells #[.int .i64 i.op, .int .i64 i.w, .int .i64 i.p, .int .i64 i.a, .int .i64 i.b, .int .i64 i.c, .int .u64 i.n, .int .i64 i.at_] 47)) := (Below.refl _ _).alloc (Nat.le_refl _) _
  have hA := h.later bA
  have n1 := N0.cell 1
  have n2 := N0.cell 2
  have n3 := N0.cell 3
  have n4 := N0.cell 4
  have n5 := N0.cell 5
  have n6 := N0.cell 6
  obtain ⟨R, hR⟩ : ∃ R, Hid (B (Wid (wOf c i.a) ∧ Wid (wOf c i.b) ∧ i.w = wOf c i.a + wOf c i.b ∧ Wid i.w) = R) := ⟨_, Lib.hid rfl⟩
  rw [hR.out]
  by_cases q0 : Wid (wOf c i.a)
  rotate_left 1
  · have hQ : Hid (R = false) := Lib.hid (by rw [← hR.out]; exact B_not (fun h => by first | exact q0 h.1 | exact q0 ⟨h.1, h.2.1⟩ | exact q0 h.2.1 | exact q0 h.2.2.1 | exact q0 h.2.2.2 | exact q0 h.2.2 | exact q0 h.2 | exact q0 h | exact q0 ⟨h.2.1, h.2.2.1⟩ | (apply q0; omega)))
    have k0 := fun m => isInteger_any (hA.drewN m) i.a ha
    simp only [B_not q0] at k0
    clear hR q0
    go_enter Tryz.func72, Tryz.ntmps72
    go_wp2_with fail
    go_quiet (first | (go_at_call 111; with_reducible exact quiet_same' (k0 _)) | (go_at_call 106; with_reducible exact quiet_same' (width_any (hA.drewN _) i.a ha)) | (go_at_call 106; with_reducible exact quiet_same' (width_any (hA.drewN _) i.b hb)))
    go_wp2
    go_ret
    exact ⟨by rw [hQ.out]; rfl, Below.trans bA ((Drew.below ⟨_, rfl⟩).mono bA.size)⟩
  have k0 := fun m => isInteger_any (hA.drewN m) i.a ha
  simp only [B_of q0] at k0
  by_cases q1 : Wid (wOf c i.b)
  rotate_left 1
  · have hQ : Hid (R = false) := Lib.hid (by rw [← hR.out]; exact B_not (fun h => by first | exact q1 h.1 | exact q1 ⟨h.1, h.2.1⟩ | exact q1 h.2.1 | exact q1 h.2.2.1 | exact q1 h.2.2.2 | exact q1 h.2.2 | exact q1 h.2 | exact q1 h | exact q1 ⟨h.2.1, h.2.2.1⟩ | (apply q1; omega)))
    have k1 := fun m => isInteger_any (hA.drewN m) i.b hb
    simp only [B_not q1] at k1
    clear hR q0 q1
    go_enter Tryz.func72, Tryz.ntmps72
    go_wp2_with fail
    go_quiet (first | (go_at_call 111; with_reducible exact quiet_same' (k0 _)) | (go_at_call 111; with_reducible exact quiet_same' (k1 _)) | (go_at_call 106; with_reducible exact quiet_same' (width_any (hA.drewN _) i.a ha)) | (go_at_call 106; with_reducible exact quiet_same' (width_any (hA.drewN _) i.b hb)))
    go_wp2
    go_ret
    exact ⟨by rw [hQ.out]; rfl, Below.trans bA ((Drew.below ⟨_, rfl⟩).mono bA.size)⟩
  have k1 := fun m => isInteger_any (hA.drewN m) i.b hb
  simp only [B_of q1] at k1
  by_cases q2 : i.w = wOf c i.a + wOf c i.b
  rotate_left 1
  · have hQ : Hid (R = false) := Lib.hid (by rw [← hR.out]; exact B_not (fun h => by first | exact q2 h.1 | exact q2 ⟨h.1, h.2.1⟩ | exact q2 h.2.1 | exact q2 h.2.2.1 | exact q2 h.2.2.2 | exact q2 h.2.2 | exact q2 h.2 | exact q2 h | exact q2 ⟨h.2.1, h.2.2.1⟩ | (apply q2; omega)))
    have b2 : (i.w == wrap64 (wOf c i.a + wOf c i.b)) = false := by rw [IntWalk.wrap64_in _ (by have := q0.1; have := q0.2; have := q1.1; have := q1.2; omega)]; simpa using q2
    clear hR q0 q1 q2
    go_enter Tryz.func72, Tryz.ntmps72
    go_wp2_with fail
    go_quiet (first | (go_at_call 111; with_reducible exact quiet_same' (k0 _)) | (go_at_call 111; with_reducible exact quiet_same' (k1 _)) | (go_at_call 106; with_reducible exact quiet_same' (width_any (hA.drewN _) i.a ha)) | (go_at_call 106; with_reducible exact quiet_same' (width_any (hA.drewN _) i.b hb)))
    go_wp2
    go_ret
    exact ⟨by rw [hQ.out]; rfl, Below.trans bA ((Drew.below ⟨_, rfl⟩).mono bA.size)⟩
  have b2 : (i.w == wrap64 (wOf c i.a + wOf c i.b)) = true := by rw [IntWalk.wrap64_in _ (by have := q0.1; have := q0.2; have := q1.1; have := q1.2; omega)]; simpa using q2
  have hQ : Hid (R = (B (Wid i.w))) := Lib.hid (by rw [← hR.out]; exact (B_eq (by rw [B_true]; exact ⟨fun h => ⟨q0, q1, q2, h⟩, fun h => by first | exact h.2.2.2 | exact h.2.2 | exact h.2⟩)).symm)
  clear hR q0 q1 q2
  have kl := fun m => isWidth_any i.w ((W.alloc (.cells #[.int .i64 i.op, .int .i64 i.w, .int .i64 i.p, .int .i64 i.a, .int .i64 i.b, .int .i64 i.c, .int .u64 i.n, .int .i64 i.at_] 47)).drewN m)
  go_enter Tryz.func72, Tryz.ntmps72
  go_wp2_with fail
  go_quiet (first | (go_at_call 111; with_reducible exact quiet_same' (k0 _)) | (go_at_call 111; with_reducible exact quiet_same' (k1 _)) | (go_at_call 112; with_reducible exact quiet_same' (kl _)) | (go_at_call 106; with_reducible exact quiet_same' (width_any (hA.drewN _) i.a ha)) | (go_at_call 106; with_reducible exact quiet_same' (width_any (hA.drewN _) i.b hb)))
  go_wp2
  go_ret
  exact ⟨by rw [hQ.out]; rfl, Below.trans bA ((Drew.below ⟨_, rfl⟩).mono bA.size)⟩
set_option maxRecDepth 100000 in
set_option maxHeartbeats 400000 in
theorem newFits_any {W : World} {p : Nat} {c : Cd} {x : Sl} (h : PtAt W p c x) (i : CIn) (ha : Ix i.a c.ins) :
    Calls Tryz.prog 76 #[.pointer (some ⟨p, 0, none⟩), .agg #[.int .i64 i.op, .int .i64 i.w, .int .i64 i.p, .int .i64 i.a, .int .i64 i.b, .int .i64 i.c, .int .u64 i.n, .int .i64 i.at_]] W fun e w' => e = .returned (.bool (B (Wid (wOf c i.a) ∧ Wid i.p ∧ (i.n : Int) = i.p))) ∧ Below W.heap.size W w' := by
  have N0 := Box.new W 47 #[.int .i64 i.op, .int .i64 i.w, .int .i64 i.p, .int .i64 i.a, .int .i64 i.b, .int .i64 i.c, .int .u64 i.n, .int .i64 i.at_]
  have bA : Below W.heap.size W (W.alloc (.cells #[.int .i64 i.op, .int .i64 i.w, .int .i64 i.p, .int .i64 i.a, .int .i64 i.b, .int .i64 i.c, .int .u64 i.n, .int .i64 i.at_] 47)) := (Below.refl _ _).alloc (Nat.le_refl _) _
  have hA := h.later bA
  have n1 := N0.cell 1
  have n2 := N0.cell 2
  have n3 := N0.cell 3
  have n4 := N0.cell 4
  have n5 := N0.cell 5
  have n6 := N0.cell 6
  obtain ⟨R, hR⟩ : ∃ R, Hid (B (Wid (wOf c i.a) ∧ Wid i.p ∧ (i.n : Int) = i.p) = R) := ⟨_, Lib.hid rfl⟩
  rw [hR.out]
  by_cases q0 : Wid (wOf c i.a)
  rotate_left 1
  · have hQ : Hid (R = false) := Lib.hid (by rw [← hR.out]; exact B_not (fun h => by first | exact q0 h.1 | exact q0 ⟨h.1, h.2.1⟩ | exact q0 h.2.1 | exact q0 h.2.2.1 | exact q0 h.2.2.2 | exact q0 h.2.2 | exact q0 h.2 | exact q0 h | exact q0 ⟨h.2.1, h.2.2.1⟩ | (apply q0; omega)))
    have k0 := fun m => isInteger_any (hA.drewN m) i.a ha
    simp only [B_not q0] at k0
    clear hR q0
    go_enter Tryz.func76, Tryz.ntmps76
    go_wp2_with fail
    refine (k0 0).mono ?_
    rintro e w' ⟨rfl, rfl⟩
    go_wp2
    go_ret
    exact ⟨by rw [hQ.out]; rfl, bA⟩
  have k0 := fun m => isInteger_any (hA.drewN m) i.a ha
  simp only [B_of q0] at k0
  by_cases q1 : Wid i.p
  rotate_left 1
  · have hQ : Hid (R = false) := Lib.hid (by rw [← hR.out]; exact B_not (fun h => by first | exact q1 h.1 | exact q1 ⟨h.1, h.2.1⟩ | exact q1 h.2.1 | exact q1 h.2.2.1 | exact q1 h.2.2.2 | exact q1 h.2.2 | exact q1 h.2 | exact q1 h | exact q1 ⟨h.2.1, h.2.2.1⟩ | (apply q1; omega)))
    have k1 := fun m => isWidth_any i.p ((W.alloc (.cells #[.int .i64 i.op, .int .i64 i.w, .int .i64 i.p, .int .i64 i.a, .int .i64 i.b, .int .i64 i.c, .int .u64 i.n, .int .i64 i.at_] 47)).drewN m)
    simp only [B_not q1] at k1
    clear hR q0 q1
    go_enter Tryz.func76, Tryz.ntmps76
    go_wp2_with fail
    refine (k0 0).mono ?_
    rintro e w' ⟨rfl, rfl⟩
    go_wp2_with fail
    refine (k1 0).mono ?_
    rintro e w' ⟨rfl, rfl⟩
    go_wp2
    go_ret
    exact ⟨by rw [hQ.out]; rfl, bA⟩
  have k1 := fun m => isWidth_any i.p ((W.alloc (.cells #[.int .i64 i.op, .int .i64 i.w, .int .i64 i.p, .int .i64 i.a, .int .i64 i.b, .int .i64 i.c, .int .u64 i.n, .int .i64 i.at_] 47)).drewN m)
  simp only [B_of q1] at k1
  have hQ : Hid (R = ((i.n : Int) == IntKind.u64.wrap i.p)) := Lib.hid (by rw [← hR.out]; exact (B_eq (by rw [beq_iff_eq, u64_in (by have := q1.1; omega) (by have := q1.2; omega)]; exact ⟨fun h => ⟨q0, q1, h⟩, fun h => h.2.2⟩)).symm)
  clear hR q0 q1
  go_enter Tryz.func76, Tryz.ntmps76
  go_wp2_with fail
  refine (k0 0).mono ?_
  rintro e w' ⟨rfl, rfl⟩
  go_wp2_with fail
  refine (k1 0).mono ?_
  rintro e w' ⟨rfl, rfl⟩
  go_wp2
  go_ret
  exact ⟨by rw [hQ.out]; rfl, bA⟩
set_option maxRecDepth 100000 in
set_option maxHeartbeats 400000 in
theorem makeFits_any {W : World} {p : Nat} {c : Cd} {x : Sl} (h : PtAt W p c x) (i : CIn) (h8 : c.st.length ≤ 8) :
    Calls Tryz.prog 77 #[.pointer (some ⟨p, 0, none⟩), .agg #[.int .i64 i.op, .int .i64 i.w, .int .i64 i.p, .int .i64 i.a, .int .i64 i.b, .int .i64 i.c, .int .u64 i.n, .int .i64 i.at_]] W fun e w' => e = .returned (.bool (B (i.n < c.st.length ∧ i.p = 65 + (i.n : Int)))) ∧ Below W.heap.size W w' := by
  have N0 := Box.new W 47 #[.int .i64 i.op, .int .i64 i.w, .int .i64 i.p, .int .i64 i.a, .int .i64 i.b, .int .i64 i.c, .int .u64 i.n, .int .i64 i.at_]
  have bA : Below W.heap.size W (W.alloc (.cells #[.int .i64 i.op, .int .i64 i.w, .int .i64 i.p, .int .i64 i.a, .int .i64 i.b, .int .i64 i.c, .int .u64 i.n, .int .i64 i.at_] 47)) := (Below.refl _ _).alloc (Nat.le_refl _) _
  have hA := h.later bA
  have n1 := N0.cell 1
  have n2 := N0.cell 2
  have n3 := N0.cell 3
  have n4 := N0.cell 4
  have n5 := N0.cell 5
  have n6 := N0.cell 6
  obtain ⟨R, hR⟩ : ∃ R, Hid (B (i.n < c.st.length ∧ i.p = 65 + (i.n : Int)) = R) := ⟨_, Lib.hid rfl⟩
  rw [hR.out]
  have s0 := hA.s0
  by_cases q0 : i.n < c.st.length
  rotate_left 1
  · have hQ : Hid (R = false) := Lib.hid (by rw [← hR.out]; exact B_not (fun h => by first | exact q0 h.1 | exact q0 ⟨h.1, h.2.1⟩ | exact q0 h.2.1 | exact q0 h.2.2.1 | exact q0 h.2.2.2 | exact q0 h.2.2 | exact q0 h.2 | exact q0 h | exact q0 ⟨h.2.1, h.2.2.1⟩ | (apply q0; omega)))
    have k0 := fun m => isIndexU_ints i.n x.S c.st.length x.sc (by omega) ((W.alloc (.cells #[.int .i64 i.op, .int .i64 i.w, .int .i64 i.p, .int .i64 i.a, .int .i64 i.b, .int .i64 i.c, .int .u64 i.n, .int .i64 i.at_] 47)).drewN m)
    simp only [B_not q0] at k0
    clear hR q0
    go_enter Tryz.func77, Tryz.ntmps77
    go_wp2_with fail
    go_quiet (first | (go_at_call 114; with_reducible exact quiet_same' (k0 _)))
    go_wp2
    go_ret
    exact ⟨by rw [hQ.out]; rfl, Below.trans bA ((Drew.below ⟨_, rfl⟩).mono bA.size)⟩
  have k0 := fun m => isIndexU_ints i.n x.S c.st.length x.sc (by omega) ((W.alloc (.cells #[.int .i64 i.op, .int .i64 i.w, .int .i64 i.p, .int .i64 i.a, .int .i64 i.b, .int .i64 i.c, .int .u64 i.n, .int .i64 i.at_] 47)).drewN m)
  simp only [B_of q0] at k0
  have hQ : Hid (R = (i.p == wrap64 (65 + wrap64 (i.n : Int)))) := Lib.hid (by rw [← hR.out]; exact (B_eq (by rw [beq_iff_eq, w64_in (z := (i.n : Int)) (by omega) (by omega), w64_in (by omega) (by omega)]; exact ⟨fun h => ⟨q0, h⟩, fun h => h.2⟩)).symm)
  clear hR q0
  go_enter Tryz.func77, Tryz.ntmps77
  go_wp2_with fail
  go_quiet (first | (go_at_call 114; with_reducible exact quiet_same' (k0 _)))
  go_wp2
  go_ret
  exact ⟨by rw [hQ.out]; rfl, Below.trans bA ((Drew.below ⟨_, rfl⟩).mono bA.size)⟩
set_option maxRecDepth 100000 in
set_option maxHeartbeats 400000 in
theorem emitFits_any {W : World} {p : Nat} {c : Cd} {x : Sl} (h : PtAt W p c x) (i : CIn) (ha : Ix i.a c.ins) (h8 : c.nm.length ≤ 32) :
    Calls Tryz.prog 81 #[.pointer (some ⟨p, 0, none⟩), .agg #[.int .i64 i.op, .int .i64 i.w, .int .i64 i.p, .int .i64 i.a, .int .i64 i.b, .int .i64 i.c, .int .u64 i.n, .int .i64 i.at_]] W fun e w' => e = .returned (.bool (B (Wid (wOf c i.a) ∧ i.n < c.nm.length))) ∧ Below W.heap.size W w' := by
  have N0 := Box.new W 47 #[.int .i64 i.op, .int .i64 i.w, .int .i64 i.p, .int .i64 i.a, .int .i64 i.b, .int .i64 i.c, .int .u64 i.n, .int .i64 i.at_]
  have bA : Below W.heap.size W (W.alloc (.cells #[.int .i64 i.op, .int .i64 i.w, .int .i64 i.p, .int .i64 i.a, .int .i64 i.b, .int .i64 i.c, .int .u64 i.n, .int .i64 i.at_] 47)) := (Below.refl _ _).alloc (Nat.le_refl _) _
  have hA := h.later bA
  have n1 := N0.cell 1
  have n2 := N0.cell 2
  have n3 := N0.cell 3
  have n4 := N0.cell 4
  have n5 := N0.cell 5
  have n6 := N0.cell 6
  obtain ⟨R, hR⟩ : ∃ R, Hid (B (Wid (wOf c i.a) ∧ i.n < c.nm.length) = R) := ⟨_, Lib.hid rfl⟩
  rw [hR.out]
  have s1 := hA.s1
  by_cases q0 : Wid (wOf c i.a)
  rotate_left 1
  · have hQ : Hid (R = false) := Lib.hid (by rw [← hR.out]; exact B_not (fun h => by first | exact q0 h.1 | exact q0 ⟨h.1, h.2.1⟩ | exact q0 h.2.1 | exact q0 h.2.2.1 | exact q0 h.2.2.2 | exact q0 h.2.2 | exact q0 h.2 | exact q0 h | exact q0 ⟨h.2.1, h.2.2.1⟩ | (apply q0; omega)))
    have k0 := fun m => isInteger_any (hA.drewN m) i.a ha
    simp only [B_not q0] at k0
    clear hR q0
    go_enter Tryz.func81, Tryz.ntmps81
    go_wp2_with fail
    go_quiet (first | (go_at_call 111; with_reducible exact quiet_same' (k0 _)))
    go_wp2
    go_ret
    exact ⟨by rw [hQ.out]; rfl, Below.trans bA ((Drew.below ⟨_, rfl⟩).mono bA.size)⟩
  have k0 := fun m => isInteger_any (hA.drewN m) i.a ha
  simp only [B_of q0] at k0
  have hQ : Hid (R = (B (i.n < c.nm.length))) := Lib.hid (by rw [← hR.out]; exact (B_eq (by rw [B_true]; exact ⟨fun h => ⟨q0, h⟩, fun h => by first | exact h.2.2.2 | exact h.2.2 | exact h.2⟩)).symm)
  clear hR q0
  have kl := fun m => isIndexU_str i.n x.N c.nm.length x.nc (by omega) ((W.alloc (.cells #[.int .i64 i.op, .int .i64 i.w, .int .i64 i.p, .int .i64 i.a, .int .i64 i.b, .int .i64 i.c, .int .u64 i.n, .int .i64 i.at_] 47)).drewN m)
  go_enter Tryz.func81, Tryz.ntmps81
  go_wp2_with fail
  go_quiet (first | (go_at_call 111; with_reducible exact quiet_same' (k0 _)) | (go_at_call 116; with_reducible exact quiet_same' (kl _)))
  go_wp2
  go_ret
  exact ⟨by rw [hQ.out]; rfl, Below.trans bA ((Drew.below ⟨_, rfl⟩).mono bA.size)⟩
end Go.Proofs.YtnbgadndkepomaaGreatDoor

/- ssa: what the rows ask of instructions, the other ones. -/
namespace Go.Proofs.YtnbgadndkepomaaGreatDoor
open Go.RowKit

theorem shr_zero {n : Nat} {w : Nat} : ((n : Int) / 2 ^ w = 0) ↔ n < 2 ^ w := by
  have hp : 0 < 2 ^ w := Nat.two_pow_pos w
  have e : ((n : Int) / 2 ^ w) = ((n / 2 ^ w : Nat) : Int) := by simp
  rw [e]
  constructor
  · intro h
    have : n / 2 ^ w = 0 := by omega
    exact (Nat.div_eq_zero_iff_lt hp).1 this
  · intro h
    have := (Nat.div_eq_zero_iff_lt hp).2 h
    omega
set_option maxRecDepth 100000 in
set_option maxHeartbeats 1600000 in
theorem constFits_any {W : World} {p : Nat} (i : CIn) (hn : i.n < 18446744073709551616) :
    Calls Tryz.prog 69 #[.pointer (some ⟨p, 0, none⟩), .agg #[.int .i64 i.op, .int .i64 i.w, .int .i64 i.p, .int .i64 i.a, .int .i64 i.b, .int .i64 i.c, .int .u64 i.n, .int .i64 i.at_]] W fun e w' => e = .returned (.bool (B (Wid i.w ∧ i.n < 2 ^ i.w.toNat))) ∧ Below W.heap.size W w' := by
  have N0 := Box.new W 47 #[.int .i64 i.op, .int .i64 i.w, .int .i64 i.p, .int .i64 i.a, .int .i64 i.b, .int .i64 i.c, .int .u64 i.n, .int .i64 i.at_]
  have bA : Below W.heap.size W (W.alloc (.cells #[.int .i64 i.op, .int .i64 i.w, .int .i64 i.p, .int .i64 i.a, .int .i64 i.b, .int .i64 i.c, .int .u64 i.n, .int .i64 i.at_] 47)) := (Below.refl _ _).alloc (Nat.le_refl _) _
  have n1 := N0.cell 1
  have n6 := N0.cell 6
  obtain ⟨R, hR⟩ : ∃ R, Hid (B (Wid i.w ∧ i.n < 2 ^ i.w.toNat) = R) := ⟨_, Lib.hid rfl⟩
  rw [hR.out]
  by_cases q0 : Wid i.w
  rotate_left 1
  · have hQ : Hid (R = false) := Lib.hid (by rw [← hR.out]; exact B_not (fun h => q0 h.1))
    go_enter Tryz.func69, Tryz.ntmps69
    go_wp2_with fail
    refine (isWidth_any i.w _).mono ?_
    rintro e w' ⟨rfl, rfl⟩
    rw [B_not q0]
    clear hR q0
    go_wp2
    go_ret
    exact ⟨by rw [hQ.out]; rfl, bA⟩
  have q0k := Lib.hid q0
  obtain ⟨iop, iw, ip, ia, ib, ic, inn, iat⟩ := i
  simp only at hn q0 hR n1 n6 bA N0 q0k ⊢
  obtain ⟨v, rfl, hv1, hv2⟩ : ∃ v : Nat, iw = v ∧ 1 ≤ v ∧ v ≤ 64 := ⟨iw.toNat, by have := q0.1; omega, by have := q0.1; omega, by have := q0.2; omega⟩
  have hQ : Hid (R = ((inn : Int) / 2 ^ v == 0)) := Lib.hid (by
    rw [← hR.out]
    refine (B_eq ?_).symm
    rw [beq_iff_eq, shr_zero]
    have e : ((v : Nat) : Int).toNat = v := by omega
    rw [e]
    exact ⟨fun h => ⟨q0, h⟩, fun h => h.2⟩)
  go_enter Tryz.func69, Tryz.ntmps69
  go_wp2_with fail
  refine (isWidth_any v _).mono ?_
  rintro e w' ⟨rfl, rfl⟩
  rw [B_of q0]
  clear hR q0
  go_wp2
  go_ret
  exact ⟨by rw [hQ.out]; rfl, bA⟩
set_option maxRecDepth 100000 in
set_option maxHeartbeats 1600000 in
theorem paramFits_any {W : World} {p : Nat} {c : Cd} {x : Sl} (h : PtAt W p c x) (i : CIn) (h8 : c.st.length ≤ 8) (hp : I64 i.p) :
    Calls Tryz.prog 75 #[.pointer (some ⟨p, 0, none⟩), .agg #[.int .i64 i.op, .int .i64 i.w, .int .i64 i.p, .int .i64 i.a, .int .i64 i.b, .int .i64 i.c, .int .u64 i.n, .int .i64 i.at_]] W fun e w' => e = .returned (.bool (B ((i.p = 0 ∧ Wid i.w) ∨ (i.p ≠ 0 ∧ i.w = 0 ∧ KindP c i.p)))) ∧ Below W.heap.size W w' := by
  have N0 := Box.new W 47 #[.int .i64 i.op, .int .i64 i.w, .int .i64 i.p, .int .i64 i.a, .int .i64 i.b, .int .i64 i.c, .int .u64 i.n, .int .i64 i.at_]
  have bA : Below W.heap.size W (W.alloc (.cells #[.int .i64 i.op, .int .i64 i.w, .int .i64 i.p, .int .i64 i.a, .int .i64 i.b, .int .i64 i.c, .int .u64 i.n, .int .i64 i.at_] 47)) := (Below.refl _ _).alloc (Nat.le_refl _) _
  have hA := h.later bA
  have n0 := N0.cell 0
  have n1 := N0.cell 1
  have n2 := N0.cell 2
  have n3 := N0.cell 3
  have n4 := N0.cell 4
  have n5 := N0.cell 5
  have n6 := N0.cell 6
  have n7 := N0.cell 7
  obtain ⟨R, hR⟩ : ∃ R, Hid (B ((i.p = 0 ∧ Wid i.w) ∨ (i.p ≠ 0 ∧ i.w = 0 ∧ KindP c i.p)) = R) := ⟨_, Lib.hid rfl⟩
  rw [hR.out]
  by_cases q0 : i.p = 0
  · have hQ : Hid (R = B (Wid i.w)) := Lib.hid (by rw [← hR.out]; exact B_congr ⟨fun h => by rcases h with h | h; exact h.2; exact absurd q0 h.1, fun h => .inl ⟨q0, h⟩⟩)
    have b0 : (i.p == 0) = true := by simpa using q0
    clear hR q0
    go_enter Tryz.func75, Tryz.ntmps75
    go_wp2_with fail
    refine (isWidth_any i.w _).mono ?_
    rintro e w' ⟨rfl, rfl⟩
    go_wp2
    go_ret
    exact ⟨by rw [hQ.out]; rfl, bA⟩
  have b0 : (i.p == 0) = false := by simpa using q0
  by_cases q1 : i.w = 0
  · have hQ : Hid (R = B (KindP c i.p)) := Lib.hid (by rw [← hR.out]; exact B_congr ⟨fun h => by rcases h with h | h; exact absurd h.1 q0; exact h.2.2, fun h => .inr ⟨q0, q1, h⟩⟩)
    have b1 : (i.w == 0) = true := by simpa using q1
    clear hR q0 q1
    go_enter Tryz.func75, Tryz.ntmps75
    go_wp2_with fail
    refine (isKind_any hA h8 i.p hp).mono ?_
    rintro e w' ⟨rfl, rfl⟩
    go_wp2
    go_ret
    exact ⟨by rw [hQ.out]; rfl, bA⟩
  · have hQ : Hid (R = false) := Lib.hid (by rw [← hR.out]; exact B_not (fun h => by rcases h with h | h; exact q0 h.1; exact q1 h.2.1))
    have b1 : (i.w == 0) = false := by simpa using q1
    clear hR q0 q1
    go_enter Tryz.func75, Tryz.ntmps75
    go_wp2
    go_ret
    exact ⟨by rw [hQ.out]; rfl, bA⟩
set_option maxRecDepth 100000 in
set_option maxHeartbeats 1600000 in
theorem loadFits_any {W : World} {p : Nat} {c : Cd} {x : Sl} (h : PtAt W p c x) (i : CIn) (ok : c.ok) (h8 : c.st.length ≤ 8) (ha : Ix i.a c.ins) (hb : Ix i.b c.ins) :
    Calls Tryz.prog 78 #[.pointer (some ⟨p, 0, none⟩), .agg #[.int .i64 i.op, .int .i64 i.w, .int .i64 i.p, .int .i64 i.a, .int .i64 i.b, .int .i64 i.c, .int .u64 i.n, .int .i64 i.at_]] W fun e w' => e = .returned (.bool (B (Wid (cellW c i.a i.b) ∧ i.w = cellW c i.a i.b))) ∧ Below W.heap.size W w' := by
  have N0 := Box.new W 47 #[.int .i64 i.op, .int .i64 i.w, .int .i64 i.p, .int .i64 i.a, .int .i64 i.b, .int .i64 i.c, .int .u64 i.n, .int .i64 i.at_]
  have bA : Below W.heap.size W (W.alloc (.cells #[.int .i64 i.op, .int .i64 i.w, .int .i64 i.p, .int .i64 i.a, .int .i64 i.b, .int .i64 i.c, .int .u64 i.n, .int .i64 i.at_] 47)) := (Below.refl _ _).alloc (Nat.le_refl _) _
  have hA := h.later bA
  have n0 := N0.cell 0
  have n1 := N0.cell 1
  have n2 := N0.cell 2
  have n3 := N0.cell 3
  have n4 := N0.cell 4
  have n5 := N0.cell 5
  have n6 := N0.cell 6
  have n7 := N0.cell 7
  obtain ⟨R, hR⟩ : ∃ R, Hid (B (Wid (cellW c i.a i.b) ∧ i.w = cellW c i.a i.b) = R) := ⟨_, Lib.hid rfl⟩
  rw [hR.out]
  go_enter Tryz.func78, Tryz.ntmps78
  go_wp2_with fail
  refine (cellWidth_any hA ok h8 i ha hb).mono ?_
  rintro e w1 ⟨rfl, b1⟩
  have hB := hA.later b1
  have N1 := N0.below b1
  have m1 := N1.cell 1
  have m5 := N1.cell 5
  have bW := bA.trans (b1.mono bA.size)
  clear n0 n1 n2 n3 n4 n5 n6 n7 b1
  go_wp2_with fail
  refine (isWidth_any _ _).mono ?_
  rintro e w' ⟨rfl, rfl⟩
  by_cases q0 : Wid (cellW c i.a i.b)
  rotate_left 1
  · have hQ : Hid (R = false) := Lib.hid (by rw [← hR.out]; exact B_not (fun h => q0 h.1))
    rw [B_not q0]
    clear hR q0
    go_wp2
    go_ret
    exact ⟨by rw [hQ.out]; rfl, bW⟩
  have hQ : Hid (R = (i.w == cellW c i.a i.b)) := Lib.hid (by rw [← hR.out]; exact (B_eq (by rw [beq_iff_eq]; exact ⟨fun h => ⟨q0, h⟩, fun h => h.2⟩)).symm)
  rw [B_of q0]
  clear hR q0
  go_wp2
  go_ret
  exact ⟨by rw [hQ.out]; rfl, bW⟩
set_option maxRecDepth 100000 in
set_option maxHeartbeats 1600000 in
theorem putFits_any {W : World} {p : Nat} {c : Cd} {x : Sl} (h : PtAt W p c x) (i : CIn) (ok : c.ok) (h8 : c.st.length ≤ 8) (ha : Ix i.a c.ins) (hb : Ix i.b c.ins) (hc : Ix i.c c.ins) :
    Calls Tryz.prog 79 #[.pointer (some ⟨p, 0, none⟩), .agg #[.int .i64 i.op, .int .i64 i.w, .int .i64 i.p, .int .i64 i.a, .int .i64 i.b, .int .i64 i.c, .int .u64 i.n, .int .i64 i.at_]] W fun e w' => e = .returned (.bool (B (Wid (cellW c i.a i.b) ∧ wOf c i.c = cellW c i.a i.b))) ∧ Below W.heap.size W w' := by
  have N0 := Box.new W 47 #[.int .i64 i.op, .int .i64 i.w, .int .i64 i.p, .int .i64 i.a, .int .i64 i.b, .int .i64 i.c, .int .u64 i.n, .int .i64 i.at_]
  have bA : Below W.heap.size W (W.alloc (.cells #[.int .i64 i.op, .int .i64 i.w, .int .i64 i.p, .int .i64 i.a, .int .i64 i.b, .int .i64 i.c, .int .u64 i.n, .int .i64 i.at_] 47)) := (Below.refl _ _).alloc (Nat.le_refl _) _
  have hA := h.later bA
  have n0 := N0.cell 0
  have n1 := N0.cell 1
  have n2 := N0.cell 2
  have n3 := N0.cell 3
  have n4 := N0.cell 4
  have n5 := N0.cell 5
  have n6 := N0.cell 6
  have n7 := N0.cell 7
  obtain ⟨R, hR⟩ : ∃ R, Hid (B (Wid (cellW c i.a i.b) ∧ wOf c i.c = cellW c i.a i.b) = R) := ⟨_, Lib.hid rfl⟩
  rw [hR.out]
  go_enter Tryz.func79, Tryz.ntmps79
  go_wp2_with fail
  refine (cellWidth_any hA ok h8 i ha hb).mono ?_
  rintro e w1 ⟨rfl, b1⟩
  have hB := hA.later b1
  have N1 := N0.below b1
  have m1 := N1.cell 1
  have m5 := N1.cell 5
  have bW := bA.trans (b1.mono bA.size)
  clear n0 n1 n2 n3 n4 n5 n6 n7 b1
  go_wp2_with fail
  refine (isWidth_any _ _).mono ?_
  rintro e w' ⟨rfl, rfl⟩
  by_cases q0 : Wid (cellW c i.a i.b)
  rotate_left 1
  · have hQ : Hid (R = false) := Lib.hid (by rw [← hR.out]; exact B_not (fun h => q0 h.1))
    rw [B_not q0]
    clear hR q0
    go_wp2
    go_ret
    exact ⟨by rw [hQ.out]; rfl, bW⟩
  have hQ : Hid (R = (wOf c i.c == cellW c i.a i.b)) := Lib.hid (by rw [← hR.out]; exact (B_eq (by rw [beq_iff_eq]; exact ⟨fun h => ⟨q0, h⟩, fun h => h.2⟩)).symm)
  rw [B_of q0]
  clear hR q0
  go_wp2_with fail
  refine (width_any hB i.c hc).mono ?_
  rintro e w' ⟨rfl, rfl⟩
  go_wp2
  go_ret
  exact ⟨by rw [hQ.out]; rfl, bW⟩
set_option maxRecDepth 100000 in
set_option maxHeartbeats 1600000 in
theorem freeFits_any {W : World} {p : Nat} {c : Cd} {x : Sl} (h : PtAt W p c x) (i : CIn) (ok : c.ok) (h8 : c.st.length ≤ 8) (ha : Ix i.a c.ins) :
    Calls Tryz.prog 80 #[.pointer (some ⟨p, 0, none⟩), .agg #[.int .i64 i.op, .int .i64 i.w, .int .i64 i.p, .int .i64 i.a, .int .i64 i.b, .int .i64 i.c, .int .u64 i.n, .int .i64 i.at_]] W fun e w' => e = .returned (.bool (B (KindP c (pOf c i.a)))) ∧ Below W.heap.size W w' := by
  have N0 := Box.new W 47 #[.int .i64 i.op, .int .i64 i.w, .int .i64 i.p, .int .i64 i.a, .int .i64 i.b, .int .i64 i.c, .int .u64 i.n, .int .i64 i.at_]
  have bA : Below W.heap.size W (W.alloc (.cells #[.int .i64 i.op, .int .i64 i.w, .int .i64 i.p, .int .i64 i.a, .int .i64 i.b, .int .i64 i.c, .int .u64 i.n, .int .i64 i.at_] 47)) := (Below.refl _ _).alloc (Nat.le_refl _) _
  have hA := h.later bA
  have n0 := N0.cell 0
  have n1 := N0.cell 1
  have n2 := N0.cell 2
  have n3 := N0.cell 3
  have n4 := N0.cell 4
  have n5 := N0.cell 5
  have n6 := N0.cell 6
  have n7 := N0.cell 7
  obtain ⟨R, hR⟩ : ∃ R, Hid (B (KindP c (pOf c i.a)) = R) := ⟨_, Lib.hid rfl⟩
  rw [hR.out]
  obtain ⟨iop, iw, ip, ia, ib, ic, inn, iat⟩ := i
  simp only at ha hR n0 n1 n2 n3 n4 n5 n6 n7 bA N0 hA ⊢
  obtain ⟨k, rfl, hk⟩ := ix_nat ha
  have hq := (ok.ins _ (List.getElem_mem hk)).2.2.1
  rw [← pOf_nat hk] at hq
  obtain ⟨g, o, hs, hi⟩ := hA.inst k hk
  have i2 := hi.2.2.1
  rw [← pOf_nat hk] at i2
  have hlk : (k : Int) < c.ins.length := by omega
  have kk := fun m => isKind_any (hA.drewN m) h8 (pOf c k) hq
  rw [hR.out] at kk
  clear hi hq hR
  go_enter Tryz.func80, Tryz.ntmps80
  go_wp2_with fail
  go_quiet (first | (go_at_call 113; with_reducible exact quiet_same' (kk _)))
  go_wp2
  go_ret
  exact ⟨rfl, Below.trans bA ((Drew.below ⟨_, rfl⟩).mono bA.size)⟩
end Go.Proofs.YtnbgadndkepomaaGreatDoor
