/- BitsLogic: the walk. -/
import Derived.Test.YtdnbpfhkbaojnaaLater
namespace Go.Proofs.Ytdnbpfhkbaojnaa
open Go.RowKit

/-- What Not answers at a bit vector, whatever the world. -/
def NotC (n a y : Int) : Prop := ∀ w : World, Calls Try.prog 15 #[.agg #[.int .i64 n, .int .u64 a]] w fun e w' => e = .returned (.tuple #[.agg #[.int .i64 n, .int .u64 y], .int .i64 0]) ∧ Below w.heap.size w w'
theorem notUse {n a y : Int} (h : Hid (NotC n a y)) (w : World) : Calls Try.prog 15 #[.agg #[.int .i64 n, .int .u64 a]] w fun e w' => e = .returned (.tuple #[.agg #[.int .i64 n, .int .u64 y], .int .i64 0]) ∧ Below w.heap.size w w' := h.out w

set_option maxHeartbeats 400000 in
theorem logic_no (n a m b : Int) (w : World) (a0 : 0 ≤ a) (b0 : 0 ≤ b) (h : sameV n a m b = false) :
    Calls Try.prog 5 #[.agg #[.int .i64 n, .int .u64 a], .agg #[.int .i64 m, .int .u64 b]] w fun e w' => e = .returned (.bool true) ∧ Below w.heap.size w w' := by
  go_enter Try.func5, Try.ntmps5
  go_wp2_with fail
  refine (head_any _).mono ?_
  rintro e w1 ⟨rfl, hb1⟩
  obtain ⟨hc1, hf1⟩ := bcell hb1
  have hz1 : w.heap.size < w1.heap.size ∧ w.heap.size + 1 < w1.heap.size := by have hs := hb1.size; simp at hs; omega
  go_wp2_with fail
  refine (same_any n a m b _ a0 b0).mono ?_
  rintro e w2 ⟨rfl, hb2⟩
  obtain ⟨hc2, hf2⟩ := bcell hb2
  have hz2 : w.heap.size < w2.heap.size ∧ w.heap.size + 1 < w2.heap.size := by have hs := hb2.size; omega
  go_wp2
  go_ret
  exact ⟨rfl, ((below2 hb1).trans (hb2.mono (by omega)))⟩

set_option maxRecDepth 100000 in
set_option maxHeartbeats 4000000 in
theorem logic_walk (n a b x y v p q r s t u : Int) (w : World) (a0 : 0 ≤ a) (b0 : 0 ≤ b) (h : sameV n a n b = true)
    (NX : Hid (NotC n a x)) (NY : Hid (NotC n b y)) (NZ : Hid (NotC n x a)) (NR : Hid (NotC n r v))
    (CO : Hid (BinC 8 n x y n v)) (CX : Hid (BinC 9 n a b n p)) (COR : Hid (BinC 8 n a b n q)) (CA : Hid (BinC 7 n a b n r)) (CS : Hid (BinC 3 n q r n p)) (CD : Hid (BinC 3 n a b n s)) (CY : Hid (BinC 2 n y 1 n t)) (CT : Hid (BinC 2 n a t n s)) (CU : Hid (BinC 9 n a x n u)) (CV : Hid (BinC 8 n a x n u)) :
    Calls Try.prog 5 #[.agg #[.int .i64 n, .int .u64 a], .agg #[.int .i64 n, .int .u64 b]] w fun e w' => e = .returned (.bool true) ∧ Below w.heap.size w w' := by
  have SA := Lib.hid (And.intro a0 b0)
  clear a0 b0
  go_enter Try.func5, Try.ntmps5
  go_wp2_with fail
  refine (head_any _).mono ?_
  rintro e w1 ⟨rfl, hb1⟩
  obtain ⟨hc1, hf1⟩ := bcell hb1
  have hz1 : w.heap.size < w1.heap.size ∧ w.heap.size + 1 < w1.heap.size := by have hs := hb1.size; simp at hs; omega
  go_wp2_with fail
  refine (same_any n a n b _ SA.out.1 SA.out.2).mono ?_
  rintro e w2 ⟨rfl, hb2⟩
  obtain ⟨hc2, hf2⟩ := bcell hb2
  have hz2 : w.heap.size < w2.heap.size ∧ w.heap.size + 1 < w2.heap.size := by have hs := hb2.size; omega
  go_wp2_with fail
  have S0 : w2.cell? ⟨w.heap.size, 0, none⟩ = some (.int .i64 n) ∧ w2.cell? ⟨w.heap.size, 1, none⟩ = some (.int .u64 a) ∧ w2.cell? ⟨w.heap.size + 1, 0, none⟩ = some (.int .i64 n) ∧ w2.cell? ⟨w.heap.size + 1, 1, none⟩ = some (.int .u64 b) ∧ Below w.heap.size w w2 := by
    refine ⟨?_, ?_, ?_, ?_, ((below2 hb1).trans (hb2.mono (by omega)))⟩ <;> simp [hc1, hc2, hz1, go_sem]
  clear hc1 hf1 hz1 hb1 hc2 hf2 hz2 hb2
  clear h
  refine (notUse NX _).mono ?_
  rintro e w3 ⟨rfl, hb3⟩
  have S3 : w3.cell? ⟨w.heap.size, 0, none⟩ = some (.int .i64 n) ∧ w3.cell? ⟨w.heap.size, 1, none⟩ = some (.int .u64 a) ∧ w3.cell? ⟨w.heap.size + 1, 0, none⟩ = some (.int .i64 n) ∧ w3.cell? ⟨w.heap.size + 1, 1, none⟩ = some (.int .u64 b) ∧ Below w.heap.size w w3 := later4 hb3 S0
  clear S0 hb3
  have S3a : (w3.alloc (.cells #[.int .i64 n, .int .u64 x] 24)).cell? ⟨w.heap.size, 0, none⟩ = some (.int .i64 n) ∧ (w3.alloc (.cells #[.int .i64 n, .int .u64 x] 24)).cell? ⟨w.heap.size, 1, none⟩ = some (.int .u64 a) ∧ (w3.alloc (.cells #[.int .i64 n, .int .u64 x] 24)).cell? ⟨w.heap.size + 1, 0, none⟩ = some (.int .i64 n) ∧ (w3.alloc (.cells #[.int .i64 n, .int .u64 x] 24)).cell? ⟨w.heap.size + 1, 1, none⟩ = some (.int .u64 b) ∧ (w3.alloc (.cells #[.int .i64 n, .int .u64 x] 24)).cell? ⟨w3.heap.size, 0, none⟩ = some (.int .i64 n) ∧ (w3.alloc (.cells #[.int .i64 n, .int .u64 x] 24)).cell? ⟨w3.heap.size, 1, none⟩ = some (.int .u64 x) ∧ Below w.heap.size w (w3.alloc (.cells #[.int .i64 n, .int .u64 x] 24)) := ⟨in_alloc _ S3.1, in_alloc _ S3.2.1, in_alloc _ S3.2.2.1, in_alloc _ S3.2.2.2.1, new0 _ _ _ _, new1 _ _ _ _, S3.2.2.2.2.alloc S3.2.2.2.2.size _⟩
  clear S3
  go_wp2_with fail
  refine (notUse NY _).mono ?_
  rintro e w4 ⟨rfl, hb4⟩
  have S4 : w4.cell? ⟨w.heap.size, 0, none⟩ = some (.int .i64 n) ∧ w4.cell? ⟨w.heap.size, 1, none⟩ = some (.int .u64 a) ∧ w4.cell? ⟨w.heap.size + 1, 0, none⟩ = some (.int .i64 n) ∧ w4.cell? ⟨w.heap.size + 1, 1, none⟩ = some (.int .u64 b) ∧ w4.cell? ⟨w3.heap.size, 0, none⟩ = some (.int .i64 n) ∧ w4.cell? ⟨w3.heap.size, 1, none⟩ = some (.int .u64 x) ∧ Below w.heap.size w w4 := later6 hb4 S3a
  clear S3a hb4
  have S4a : (w4.alloc (.cells #[.int .i64 n, .int .u64 y] 24)).cell? ⟨w.heap.size, 0, none⟩ = some (.int .i64 n) ∧ (w4.alloc (.cells #[.int .i64 n, .int .u64 y] 24)).cell? ⟨w.heap.size, 1, none⟩ = some (.int .u64 a) ∧ (w4.alloc (.cells #[.int .i64 n, .int .u64 y] 24)).cell? ⟨w.heap.size + 1, 0, none⟩ = some (.int .i64 n) ∧ (w4.alloc (.cells #[.int .i64 n, .int .u64 y] 24)).cell? ⟨w.heap.size + 1, 1, none⟩ = some (.int .u64 b) ∧ (w4.alloc (.cells #[.int .i64 n, .int .u64 y] 24)).cell? ⟨w3.heap.size, 0, none⟩ = some (.int .i64 n) ∧ (w4.alloc (.cells #[.int .i64 n, .int .u64 y] 24)).cell? ⟨w3.heap.size, 1, none⟩ = some (.int .u64 x) ∧ (w4.alloc (.cells #[.int .i64 n, .int .u64 y] 24)).cell? ⟨w4.heap.size, 0, none⟩ = some (.int .i64 n) ∧ (w4.alloc (.cells #[.int .i64 n, .int .u64 y] 24)).cell? ⟨w4.heap.size, 1, none⟩ = some (.int .u64 y) ∧ Below w.heap.size w (w4.alloc (.cells #[.int .i64 n, .int .u64 y] 24)) := ⟨in_alloc _ S4.1, in_alloc _ S4.2.1, in_alloc _ S4.2.2.1, in_alloc _ S4.2.2.2.1, in_alloc _ S4.2.2.2.2.1, in_alloc _ S4.2.2.2.2.2.1, new0 _ _ _ _, new1 _ _ _ _, S4.2.2.2.2.2.2.alloc S4.2.2.2.2.2.2.size _⟩
  clear S4
  go_wp2_with fail
  refine (notUse NZ _).mono ?_
  rintro e w5 ⟨rfl, hb5⟩
  have S5 : w5.cell? ⟨w.heap.size, 0, none⟩ = some (.int .i64 n) ∧ w5.cell? ⟨w.heap.size, 1, none⟩ = some (.int .u64 a) ∧ w5.cell? ⟨w.heap.size + 1, 0, none⟩ = some (.int .i64 n) ∧ w5.cell? ⟨w.heap.size + 1, 1, none⟩ = some (.int .u64 b) ∧ w5.cell? ⟨w3.heap.size, 0, none⟩ = some (.int .i64 n) ∧ w5.cell? ⟨w3.heap.size, 1, none⟩ = some (.int .u64 x) ∧ w5.cell? ⟨w4.heap.size, 0, none⟩ = some (.int .i64 n) ∧ w5.cell? ⟨w4.heap.size, 1, none⟩ = some (.int .u64 y) ∧ Below w.heap.size w w5 := later8 hb5 S4a
  clear S4a hb5
  have S5a : (w5.alloc (.cells #[.int .i64 n, .int .u64 a] 24)).cell? ⟨w.heap.size, 0, none⟩ = some (.int .i64 n) ∧ (w5.alloc (.cells #[.int .i64 n, .int .u64 a] 24)).cell? ⟨w.heap.size, 1, none⟩ = some (.int .u64 a) ∧ (w5.alloc (.cells #[.int .i64 n, .int .u64 a] 24)).cell? ⟨w.heap.size + 1, 0, none⟩ = some (.int .i64 n) ∧ (w5.alloc (.cells #[.int .i64 n, .int .u64 a] 24)).cell? ⟨w.heap.size + 1, 1, none⟩ = some (.int .u64 b) ∧ (w5.alloc (.cells #[.int .i64 n, .int .u64 a] 24)).cell? ⟨w3.heap.size, 0, none⟩ = some (.int .i64 n) ∧ (w5.alloc (.cells #[.int .i64 n, .int .u64 a] 24)).cell? ⟨w3.heap.size, 1, none⟩ = some (.int .u64 x) ∧ (w5.alloc (.cells #[.int .i64 n, .int .u64 a] 24)).cell? ⟨w4.heap.size, 0, none⟩ = some (.int .i64 n) ∧ (w5.alloc (.cells #[.int .i64 n, .int .u64 a] 24)).cell? ⟨w4.heap.size, 1, none⟩ = some (.int .u64 y) ∧ (w5.alloc (.cells #[.int .i64 n, .int .u64 a] 24)).cell? ⟨w5.heap.size, 0, none⟩ = some (.int .i64 n) ∧ (w5.alloc (.cells #[.int .i64 n, .int .u64 a] 24)).cell? ⟨w5.heap.size, 1, none⟩ = some (.int .u64 a) ∧ Below w.heap.size w (w5.alloc (.cells #[.int .i64 n, .int .u64 a] 24)) := ⟨in_alloc _ S5.1, in_alloc _ S5.2.1, in_alloc _ S5.2.2.1, in_alloc _ S5.2.2.2.1, in_alloc _ S5.2.2.2.2.1, in_alloc _ S5.2.2.2.2.2.1, in_alloc _ S5.2.2.2.2.2.2.1, in_alloc _ S5.2.2.2.2.2.2.2.1, new0 _ _ _ _, new1 _ _ _ _, S5.2.2.2.2.2.2.2.2.alloc S5.2.2.2.2.2.2.2.2.size _⟩
  clear S5
  go_wp2_with fail
  refine (binUse CA _).mono ?_
  rintro e w6 ⟨rfl, hb6⟩
  have S6 : w6.cell? ⟨w.heap.size, 0, none⟩ = some (.int .i64 n) ∧ w6.cell? ⟨w.heap.size, 1, none⟩ = some (.int .u64 a) ∧ w6.cell? ⟨w.heap.size + 1, 0, none⟩ = some (.int .i64 n) ∧ w6.cell? ⟨w.heap.size + 1, 1, none⟩ = some (.int .u64 b) ∧ w6.cell? ⟨w3.heap.size, 0, none⟩ = some (.int .i64 n) ∧ w6.cell? ⟨w3.heap.size, 1, none⟩ = some (.int .u64 x) ∧ w6.cell? ⟨w4.heap.size, 0, none⟩ = some (.int .i64 n) ∧ w6.cell? ⟨w4.heap.size, 1, none⟩ = some (.int .u64 y) ∧ w6.cell? ⟨w5.heap.size, 0, none⟩ = some (.int .i64 n) ∧ w6.cell? ⟨w5.heap.size, 1, none⟩ = some (.int .u64 a) ∧ Below w.heap.size w w6 := later10 hb6 S5a
  clear S5a hb6
  go_wp2_with fail
  refine (notUse NR _).mono ?_
  rintro e w7 ⟨rfl, hb7⟩
  have S7 : w7.cell? ⟨w.heap.size, 0, none⟩ = some (.int .i64 n) ∧ w7.cell? ⟨w.heap.size, 1, none⟩ = some (.int .u64 a) ∧ w7.cell? ⟨w.heap.size + 1, 0, none⟩ = some (.int .i64 n) ∧ w7.cell? ⟨w.heap.size + 1, 1, none⟩ = some (.int .u64 b) ∧ w7.cell? ⟨w3.heap.size, 0, none⟩ = some (.int .i64 n) ∧ w7.cell? ⟨w3.heap.size, 1, none⟩ = some (.int .u64 x) ∧ w7.cell? ⟨w4.heap.size, 0, none⟩ = some (.int .i64 n) ∧ w7.cell? ⟨w4.heap.size, 1, none⟩ = some (.int .u64 y) ∧ w7.cell? ⟨w5.heap.size, 0, none⟩ = some (.int .i64 n) ∧ w7.cell? ⟨w5.heap.size, 1, none⟩ = some (.int .u64 a) ∧ Below w.heap.size w w7 := later10 hb7 S6
  clear S6 hb7
  have S7a : (w7.alloc (.cells #[.int .i64 n, .int .u64 v] 24)).cell? ⟨w.heap.size, 0, none⟩ = some (.int .i64 n) ∧ (w7.alloc (.cells #[.int .i64 n, .int .u64 v] 24)).cell? ⟨w.heap.size, 1, none⟩ = some (.int .u64 a) ∧ (w7.alloc (.cells #[.int .i64 n, .int .u64 v] 24)).cell? ⟨w.heap.size + 1, 0, none⟩ = some (.int .i64 n) ∧ (w7.alloc (.cells #[.int .i64 n, .int .u64 v] 24)).cell? ⟨w.heap.size + 1, 1, none⟩ = some (.int .u64 b) ∧ (w7.alloc (.cells #[.int .i64 n, .int .u64 v] 24)).cell? ⟨w3.heap.size, 0, none⟩ = some (.int .i64 n) ∧ (w7.alloc (.cells #[.int .i64 n, .int .u64 v] 24)).cell? ⟨w3.heap.size, 1, none⟩ = some (.int .u64 x) ∧ (w7.alloc (.cells #[.int .i64 n, .int .u64 v] 24)).cell? ⟨w4.heap.size, 0, none⟩ = some (.int .i64 n) ∧ (w7.alloc (.cells #[.int .i64 n, .int .u64 v] 24)).cell? ⟨w4.heap.size, 1, none⟩ = some (.int .u64 y) ∧ (w7.alloc (.cells #[.int .i64 n, .int .u64 v] 24)).cell? ⟨w5.heap.size, 0, none⟩ = some (.int .i64 n) ∧ (w7.alloc (.cells #[.int .i64 n, .int .u64 v] 24)).cell? ⟨w5.heap.size, 1, none⟩ = some (.int .u64 a) ∧ (w7.alloc (.cells #[.int .i64 n, .int .u64 v] 24)).cell? ⟨w7.heap.size, 0, none⟩ = some (.int .i64 n) ∧ (w7.alloc (.cells #[.int .i64 n, .int .u64 v] 24)).cell? ⟨w7.heap.size, 1, none⟩ = some (.int .u64 v) ∧ Below w.heap.size w (w7.alloc (.cells #[.int .i64 n, .int .u64 v] 24)) := ⟨in_alloc _ S7.1, in_alloc _ S7.2.1, in_alloc _ S7.2.2.1, in_alloc _ S7.2.2.2.1, in_alloc _ S7.2.2.2.2.1, in_alloc _ S7.2.2.2.2.2.1, in_alloc _ S7.2.2.2.2.2.2.1, in_alloc _ S7.2.2.2.2.2.2.2.1, in_alloc _ S7.2.2.2.2.2.2.2.2.1, in_alloc _ S7.2.2.2.2.2.2.2.2.2.1, new0 _ _ _ _, new1 _ _ _ _, S7.2.2.2.2.2.2.2.2.2.2.alloc S7.2.2.2.2.2.2.2.2.2.2.size _⟩
  clear S7
  have S9 : ((w7.alloc (.cells #[.int .i64 n, .int .u64 v] 24)).alloc (.cells #[.int .i64 n, .int .u64 1] 24)).cell? ⟨w.heap.size, 0, none⟩ = some (.int .i64 n) ∧ ((w7.alloc (.cells #[.int .i64 n, .int .u64 v] 24)).alloc (.cells #[.int .i64 n, .int .u64 1] 24)).cell? ⟨w.heap.size, 1, none⟩ = some (.int .u64 a) ∧ ((w7.alloc (.cells #[.int .i64 n, .int .u64 v] 24)).alloc (.cells #[.int .i64 n, .int .u64 1] 24)).cell? ⟨w.heap.size + 1, 0, none⟩ = some (.int .i64 n) ∧ ((w7.alloc (.cells #[.int .i64 n, .int .u64 v] 24)).alloc (.cells #[.int .i64 n, .int .u64 1] 24)).cell? ⟨w.heap.size + 1, 1, none⟩ = some (.int .u64 b) ∧ ((w7.alloc (.cells #[.int .i64 n, .int .u64 v] 24)).alloc (.cells #[.int .i64 n, .int .u64 1] 24)).cell? ⟨w3.heap.size, 0, none⟩ = some (.int .i64 n) ∧ ((w7.alloc (.cells #[.int .i64 n, .int .u64 v] 24)).alloc (.cells #[.int .i64 n, .int .u64 1] 24)).cell? ⟨w3.heap.size, 1, none⟩ = some (.int .u64 x) ∧ ((w7.alloc (.cells #[.int .i64 n, .int .u64 v] 24)).alloc (.cells #[.int .i64 n, .int .u64 1] 24)).cell? ⟨w4.heap.size, 0, none⟩ = some (.int .i64 n) ∧ ((w7.alloc (.cells #[.int .i64 n, .int .u64 v] 24)).alloc (.cells #[.int .i64 n, .int .u64 1] 24)).cell? ⟨w4.heap.size, 1, none⟩ = some (.int .u64 y) ∧ ((w7.alloc (.cells #[.int .i64 n, .int .u64 v] 24)).alloc (.cells #[.int .i64 n, .int .u64 1] 24)).cell? ⟨w5.heap.size, 0, none⟩ = some (.int .i64 n) ∧ ((w7.alloc (.cells #[.int .i64 n, .int .u64 v] 24)).alloc (.cells #[.int .i64 n, .int .u64 1] 24)).cell? ⟨w5.heap.size, 1, none⟩ = some (.int .u64 a) ∧ ((w7.alloc (.cells #[.int .i64 n, .int .u64 v] 24)).alloc (.cells #[.int .i64 n, .int .u64 1] 24)).cell? ⟨w7.heap.size, 0, none⟩ = some (.int .i64 n) ∧ ((w7.alloc (.cells #[.int .i64 n, .int .u64 v] 24)).alloc (.cells #[.int .i64 n, .int .u64 1] 24)).cell? ⟨w7.heap.size, 1, none⟩ = some (.int .u64 v) ∧ ((w7.alloc (.cells #[.int .i64 n, .int .u64 v] 24)).alloc (.cells #[.int .i64 n, .int .u64 1] 24)).cell? ⟨w7.heap.size + 1, 0, none⟩ = some (.int .i64 n) ∧ ((w7.alloc (.cells #[.int .i64 n, .int .u64 v] 24)).alloc (.cells #[.int .i64 n, .int .u64 1] 24)).cell? ⟨w7.heap.size + 1, 1, none⟩ = some (.int .u64 1) ∧ Below w.heap.size w ((w7.alloc (.cells #[.int .i64 n, .int .u64 v] 24)).alloc (.cells #[.int .i64 n, .int .u64 1] 24)) := ⟨in_alloc _ S7a.1, in_alloc _ S7a.2.1, in_alloc _ S7a.2.2.1, in_alloc _ S7a.2.2.2.1, in_alloc _ S7a.2.2.2.2.1, in_alloc _ S7a.2.2.2.2.2.1, in_alloc _ S7a.2.2.2.2.2.2.1, in_alloc _ S7a.2.2.2.2.2.2.2.1, in_alloc _ S7a.2.2.2.2.2.2.2.2.1, in_alloc _ S7a.2.2.2.2.2.2.2.2.2.1, in_alloc _ S7a.2.2.2.2.2.2.2.2.2.2.1, in_alloc _ S7a.2.2.2.2.2.2.2.2.2.2.2.1, (by simp [go_sem]), (by simp [go_sem]), S7a.2.2.2.2.2.2.2.2.2.2.2.2.alloc S7a.2.2.2.2.2.2.2.2.2.2.2.2.size _⟩
  go_wp2_with fail
  clear S7a
  go_region_held3 (fun w' => w'.cell? ⟨w.heap.size, 0, none⟩ = some (.int .i64 n) ∧ w'.cell? ⟨w.heap.size, 1, none⟩ = some (.int .u64 a) ∧ w'.cell? ⟨w.heap.size + 1, 0, none⟩ = some (.int .i64 n) ∧ w'.cell? ⟨w.heap.size + 1, 1, none⟩ = some (.int .u64 b) ∧ w'.cell? ⟨w3.heap.size, 0, none⟩ = some (.int .i64 n) ∧ w'.cell? ⟨w3.heap.size, 1, none⟩ = some (.int .u64 x) ∧ w'.cell? ⟨w4.heap.size, 0, none⟩ = some (.int .i64 n) ∧ w'.cell? ⟨w4.heap.size, 1, none⟩ = some (.int .u64 y) ∧ w'.cell? ⟨w5.heap.size, 0, none⟩ = some (.int .i64 n) ∧ w'.cell? ⟨w5.heap.size, 1, none⟩ = some (.int .u64 a) ∧ w'.cell? ⟨w7.heap.size, 0, none⟩ = some (.int .i64 n) ∧ w'.cell? ⟨w7.heap.size, 1, none⟩ = some (.int .u64 v) ∧ w'.cell? ⟨w7.heap.size + 1, 0, none⟩ = some (.int .i64 n) ∧ w'.cell? ⟨w7.heap.size + 1, 1, none⟩ = some (.int .u64 1) ∧ Below w.heap.size w w') (first | assumption | exact later14 ‹_› ‹_› | exact drew14 ‹_›)
    (first
      | (go_at_call 26; ((with_reducible refine (binUse CO _).mono ?_); rintro e w9 ⟨rfl, hb9⟩)))
  go_wp2_with fail
  go_region_held3 (fun w' => w'.cell? ⟨w.heap.size, 0, none⟩ = some (.int .i64 n) ∧ w'.cell? ⟨w.heap.size, 1, none⟩ = some (.int .u64 a) ∧ w'.cell? ⟨w.heap.size + 1, 0, none⟩ = some (.int .i64 n) ∧ w'.cell? ⟨w.heap.size + 1, 1, none⟩ = some (.int .u64 b) ∧ w'.cell? ⟨w3.heap.size, 0, none⟩ = some (.int .i64 n) ∧ w'.cell? ⟨w3.heap.size, 1, none⟩ = some (.int .u64 x) ∧ w'.cell? ⟨w4.heap.size, 0, none⟩ = some (.int .i64 n) ∧ w'.cell? ⟨w4.heap.size, 1, none⟩ = some (.int .u64 y) ∧ w'.cell? ⟨w5.heap.size, 0, none⟩ = some (.int .i64 n) ∧ w'.cell? ⟨w5.heap.size, 1, none⟩ = some (.int .u64 a) ∧ w'.cell? ⟨w7.heap.size, 0, none⟩ = some (.int .i64 n) ∧ w'.cell? ⟨w7.heap.size, 1, none⟩ = some (.int .u64 v) ∧ w'.cell? ⟨w7.heap.size + 1, 0, none⟩ = some (.int .i64 n) ∧ w'.cell? ⟨w7.heap.size + 1, 1, none⟩ = some (.int .u64 1) ∧ Below w.heap.size w w') (first | assumption | exact later14 ‹_› ‹_› | exact drew14 ‹_›)
    (first
      | (go_at_call 26; ((with_reducible refine (binUse CX _).mono ?_); rintro e w9 ⟨rfl, hb9⟩))
      | (go_at_call 26; ((with_reducible refine (binUse COR _).mono ?_); rintro e w9 ⟨rfl, hb9⟩))
      | (go_at_call 26; ((with_reducible refine (binUse CA _).mono ?_); rintro e w9 ⟨rfl, hb9⟩))
      | (go_at_call 26; ((with_reducible refine (binUse CS _).mono ?_); rintro e w9 ⟨rfl, hb9⟩))
      | (go_at_call 26; ((with_reducible refine (binUse CD _).mono ?_); rintro e w9 ⟨rfl, hb9⟩))
      | (go_at_call 26; ((with_reducible refine (binUse CY _).mono ?_); rintro e w9 ⟨rfl, hb9⟩))
      | (go_at_call 26; ((with_reducible refine (binUse CT _).mono ?_); rintro e w9 ⟨rfl, hb9⟩))
      | (go_at_call 26; ((with_reducible refine (binUse CU _).mono ?_); rintro e w9 ⟨rfl, hb9⟩))
      | (go_at_call 26; ((with_reducible refine (binUse CV _).mono ?_); rintro e w9 ⟨rfl, hb9⟩)))
  go_wp2
  go_ret
  exact ⟨rfl, below14 ‹_›⟩

end Go.Proofs.Ytdnbpfhkbaojnaa
