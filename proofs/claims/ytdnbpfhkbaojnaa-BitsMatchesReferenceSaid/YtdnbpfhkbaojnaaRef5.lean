/- The reference's comparisons. -/
import Derived.Test.YtdnbpfhkbaojnaaRef4
namespace Go.Proofs.Ytdnbpfhkbaojnaa
open Go.RowKit

set_option maxRecDepth 100000 in
set_option maxHeartbeats 400000 in
theorem rbin_12_lt (n a b : Int) (w : World) (a0 : 0 ≤ a) (b0 : 0 ≤ b) (ha : vB n a = true) (hb : vB n b = true) (hs : b < 64)  :
    Calls Try.prog 12 #[.int .i64 12, .agg #[.int .i64 n, .int .u64 a], .agg #[.int .i64 n, .int .u64 b]] w fun e w' => e = .returned (.tuple #[.agg #[.int .i64 1, .int .u64 (bit (a == b))], .int .i64 0]) ∧ Below w.heap.size w w' := by
  obtain ⟨h1, h2, _⟩ := vB_true ha
  have A0 := Lib.hid a0
  have B0 := Lib.hid b0
  clear a0 b0
  have HA := Lib.hid ha
  have HB := Lib.hid hb
  clear ha hb
  go_enter Try.func12, Try.ntmps12
  go_wp2_with fail
  refine (ref_valid_yes n a _ HA.out A0.out).mono ?_
  rintro e w1 ⟨rfl, hb1⟩
  obtain ⟨hc1, hf1⟩ := bcell hb1
  have hz1 : w.heap.size < w1.heap.size ∧ w.heap.size + 1 < w1.heap.size ∧ w.heap.size + 1 + 1 < w1.heap.size := by have hs := hb1.size; simp at hs; omega
  go_wp2_with fail
  refine (ref_valid_yes n b _ HB.out B0.out).mono ?_
  rintro e w2 ⟨rfl, hb2⟩
  obtain ⟨hc2, hf2⟩ := bcell hb2
  have hz2 : w.heap.size < w2.heap.size ∧ w.heap.size + 1 < w2.heap.size ∧ w.heap.size + 1 + 1 < w2.heap.size := by have hs := hb2.size; omega
  go_wp2_with fail
  refine (oper_any 12 _ true (by decide)).mono ?_
  rintro e w0 ⟨rfl, hw0⟩
  rw [hw0]
  clear hw0 w0
  go_wp2_with fail
  refine (truth_any _ _).mono ?_
  rintro e w3 ⟨rfl, hb3⟩
  obtain ⟨hc3, hf3⟩ := bcell hb3
  have hz3 : w.heap.size < w3.heap.size ∧ w.heap.size + 1 < w3.heap.size ∧ w.heap.size + 1 + 1 < w3.heap.size := by have hs := hb3.size; omega
  go_wp2
  refine bodyPost_ret (v := .tuple #[.agg #[.int .i64 1, .int .u64 (bit (a == b))], .int .i64 0]) (by simp [results, Try.results12, go_sem, hc1, hc2, hc3, hz1, hz2]) rfl ⟨rfl, ?_⟩
  exact (((below3 hb1).trans ((hb2.mono (by omega)).trans (hb3.mono (by omega)))).setCell (by simp <;> omega) _).setCell (by simp <;> omega) _

set_option maxRecDepth 100000 in
set_option maxHeartbeats 400000 in
theorem rbin_13_lt (n a b : Int) (w : World) (a0 : 0 ≤ a) (b0 : 0 ≤ b) (ha : vB n a = true) (hb : vB n b = true) (hs : b < 64)  :
    Calls Try.prog 12 #[.int .i64 13, .agg #[.int .i64 n, .int .u64 a], .agg #[.int .i64 n, .int .u64 b]] w fun e w' => e = .returned (.tuple #[.agg #[.int .i64 1, .int .u64 (bit (decide (a < b)))], .int .i64 0]) ∧ Below w.heap.size w w' := by
  obtain ⟨h1, h2, _⟩ := vB_true ha
  have A0 := Lib.hid a0
  have B0 := Lib.hid b0
  clear a0 b0
  have HA := Lib.hid ha
  have HB := Lib.hid hb
  clear ha hb
  go_enter Try.func12, Try.ntmps12
  go_wp2_with fail
  refine (ref_valid_yes n a _ HA.out A0.out).mono ?_
  rintro e w1 ⟨rfl, hb1⟩
  obtain ⟨hc1, hf1⟩ := bcell hb1
  have hz1 : w.heap.size < w1.heap.size ∧ w.heap.size + 1 < w1.heap.size ∧ w.heap.size + 1 + 1 < w1.heap.size := by have hs := hb1.size; simp at hs; omega
  go_wp2_with fail
  refine (ref_valid_yes n b _ HB.out B0.out).mono ?_
  rintro e w2 ⟨rfl, hb2⟩
  obtain ⟨hc2, hf2⟩ := bcell hb2
  have hz2 : w.heap.size < w2.heap.size ∧ w.heap.size + 1 < w2.heap.size ∧ w.heap.size + 1 + 1 < w2.heap.size := by have hs := hb2.size; omega
  go_wp2_with fail
  refine (oper_any 13 _ true (by decide)).mono ?_
  rintro e w0 ⟨rfl, hw0⟩
  rw [hw0]
  clear hw0 w0
  go_wp2_with fail
  refine (truth_any _ _).mono ?_
  rintro e w3 ⟨rfl, hb3⟩
  obtain ⟨hc3, hf3⟩ := bcell hb3
  have hz3 : w.heap.size < w3.heap.size ∧ w.heap.size + 1 < w3.heap.size ∧ w.heap.size + 1 + 1 < w3.heap.size := by have hs := hb3.size; omega
  go_wp2
  refine bodyPost_ret (v := .tuple #[.agg #[.int .i64 1, .int .u64 (bit (decide (a < b)))], .int .i64 0]) (by simp [results, Try.results12, go_sem, hc1, hc2, hc3, hz1, hz2]) rfl ⟨rfl, ?_⟩
  exact (((below3 hb1).trans ((hb2.mono (by omega)).trans (hb3.mono (by omega)))).setCell (by simp <;> omega) _).setCell (by simp <;> omega) _

set_option maxRecDepth 100000 in
set_option maxHeartbeats 400000 in
theorem rbin_14_lt_same (n a b : Int) (w : World) (a0 : 0 ≤ a) (b0 : 0 ≤ b) (ha : vB n a = true) (hb : vB n b = true) (hs : b < 64) (h : (bitV a (n - 1) != bitV b (n - 1)) = false) :
    Calls Try.prog 12 #[.int .i64 14, .agg #[.int .i64 n, .int .u64 a], .agg #[.int .i64 n, .int .u64 b]] w fun e w' => e = .returned (.tuple #[.agg #[.int .i64 1, .int .u64 (bit (decide (a < b)))], .int .i64 0]) ∧ Below w.heap.size w w' := by
  obtain ⟨h1, h2, _⟩ := vB_true ha
  have H := Lib.hid h
  clear h
  have A0 := Lib.hid a0
  have B0 := Lib.hid b0
  clear a0 b0
  have HA := Lib.hid ha
  have HB := Lib.hid hb
  clear ha hb
  go_enter Try.func12, Try.ntmps12
  go_wp2_with fail
  refine (ref_valid_yes n a _ HA.out A0.out).mono ?_
  rintro e w1 ⟨rfl, hb1⟩
  obtain ⟨hc1, hf1⟩ := bcell hb1
  have hz1 : w.heap.size < w1.heap.size ∧ w.heap.size + 1 < w1.heap.size ∧ w.heap.size + 1 + 1 < w1.heap.size := by have hs := hb1.size; simp at hs; omega
  go_wp2_with fail
  refine (ref_valid_yes n b _ HB.out B0.out).mono ?_
  rintro e w2 ⟨rfl, hb2⟩
  obtain ⟨hc2, hf2⟩ := bcell hb2
  have hz2 : w.heap.size < w2.heap.size ∧ w.heap.size + 1 < w2.heap.size ∧ w.heap.size + 1 + 1 < w2.heap.size := by have hs := hb2.size; omega
  go_wp2_with fail
  refine (oper_any 14 _ true (by decide)).mono ?_
  rintro e w0 ⟨rfl, hw0⟩
  rw [hw0]
  clear hw0 w0
  go_wp2_with fail
  refine (less_same n a n b _ A0.out B0.out h1 h2 h1 h2 H.out).mono ?_
  rintro e w3 ⟨rfl, hb3⟩
  obtain ⟨hc3, hf3⟩ := bcell hb3
  have hz3 : w.heap.size < w3.heap.size ∧ w.heap.size + 1 < w3.heap.size ∧ w.heap.size + 1 + 1 < w3.heap.size := by have hs := hb3.size; omega
  go_wp2_with fail
  refine (truth_any _ _).mono ?_
  rintro e w4 ⟨rfl, hb4⟩
  obtain ⟨hc4, hf4⟩ := bcell hb4
  have hz4 : w.heap.size < w4.heap.size ∧ w.heap.size + 1 < w4.heap.size ∧ w.heap.size + 1 + 1 < w4.heap.size := by have hs := hb4.size; omega
  go_wp2
  refine bodyPost_ret (v := .tuple #[.agg #[.int .i64 1, .int .u64 (bit (decide (a < b)))], .int .i64 0]) (by simp [results, Try.results12, go_sem, hc1, hc2, hc3, hc4, hz1, hz2, hz3]) rfl ⟨rfl, ?_⟩
  exact (((below3 hb1).trans ((hb2.mono (by omega)).trans ((hb3.mono (by omega)).trans (hb4.mono (by omega))))).setCell (by simp <;> omega) _).setCell (by simp <;> omega) _

set_option maxRecDepth 100000 in
set_option maxHeartbeats 400000 in
theorem rbin_14_lt_other (n a b : Int) (w : World) (a0 : 0 ≤ a) (b0 : 0 ≤ b) (ha : vB n a = true) (hb : vB n b = true) (hs : b < 64) (h : (bitV a (n - 1) != bitV b (n - 1)) = true) :
    Calls Try.prog 12 #[.int .i64 14, .agg #[.int .i64 n, .int .u64 a], .agg #[.int .i64 n, .int .u64 b]] w fun e w' => e = .returned (.tuple #[.agg #[.int .i64 1, .int .u64 (bit (decide (bitV b (n - 1) < bitV a (n - 1))))], .int .i64 0]) ∧ Below w.heap.size w w' := by
  obtain ⟨h1, h2, _⟩ := vB_true ha
  have H := Lib.hid h
  clear h
  have A0 := Lib.hid a0
  have B0 := Lib.hid b0
  clear a0 b0
  have HA := Lib.hid ha
  have HB := Lib.hid hb
  clear ha hb
  go_enter Try.func12, Try.ntmps12
  go_wp2_with fail
  refine (ref_valid_yes n a _ HA.out A0.out).mono ?_
  rintro e w1 ⟨rfl, hb1⟩
  obtain ⟨hc1, hf1⟩ := bcell hb1
  have hz1 : w.heap.size < w1.heap.size ∧ w.heap.size + 1 < w1.heap.size ∧ w.heap.size + 1 + 1 < w1.heap.size := by have hs := hb1.size; simp at hs; omega
  go_wp2_with fail
  refine (ref_valid_yes n b _ HB.out B0.out).mono ?_
  rintro e w2 ⟨rfl, hb2⟩
  obtain ⟨hc2, hf2⟩ := bcell hb2
  have hz2 : w.heap.size < w2.heap.size ∧ w.heap.size + 1 < w2.heap.size ∧ w.heap.size + 1 + 1 < w2.heap.size := by have hs := hb2.size; omega
  go_wp2_with fail
  refine (oper_any 14 _ true (by decide)).mono ?_
  rintro e w0 ⟨rfl, hw0⟩
  rw [hw0]
  clear hw0 w0
  go_wp2_with fail
  refine (less_other n a n b _ A0.out B0.out h1 h2 h1 h2 H.out).mono ?_
  rintro e w3 ⟨rfl, hb3⟩
  obtain ⟨hc3, hf3⟩ := bcell hb3
  have hz3 : w.heap.size < w3.heap.size ∧ w.heap.size + 1 < w3.heap.size ∧ w.heap.size + 1 + 1 < w3.heap.size := by have hs := hb3.size; omega
  go_wp2_with fail
  refine (truth_any _ _).mono ?_
  rintro e w4 ⟨rfl, hb4⟩
  obtain ⟨hc4, hf4⟩ := bcell hb4
  have hz4 : w.heap.size < w4.heap.size ∧ w.heap.size + 1 < w4.heap.size ∧ w.heap.size + 1 + 1 < w4.heap.size := by have hs := hb4.size; omega
  go_wp2
  refine bodyPost_ret (v := .tuple #[.agg #[.int .i64 1, .int .u64 (bit (decide (bitV b (n - 1) < bitV a (n - 1))))], .int .i64 0]) (by simp [results, Try.results12, go_sem, hc1, hc2, hc3, hc4, hz1, hz2, hz3]) rfl ⟨rfl, ?_⟩
  exact (((below3 hb1).trans ((hb2.mono (by omega)).trans ((hb3.mono (by omega)).trans (hb4.mono (by omega))))).setCell (by simp <;> omega) _).setCell (by simp <;> omega) _

set_option maxRecDepth 100000 in
set_option maxHeartbeats 400000 in
theorem rbin_12_ge (n a b : Int) (w : World) (a0 : 0 ≤ a) (b0 : 0 ≤ b) (ha : vB n a = true) (hb : vB n b = true) (hs : ¬ b < 64)  :
    Calls Try.prog 12 #[.int .i64 12, .agg #[.int .i64 n, .int .u64 a], .agg #[.int .i64 n, .int .u64 b]] w fun e w' => e = .returned (.tuple #[.agg #[.int .i64 1, .int .u64 (bit (a == b))], .int .i64 0]) ∧ Below w.heap.size w w' := by
  obtain ⟨h1, h2, _⟩ := vB_true ha
  have A0 := Lib.hid a0
  have B0 := Lib.hid b0
  clear a0 b0
  have HA := Lib.hid ha
  have HB := Lib.hid hb
  clear ha hb
  go_enter Try.func12, Try.ntmps12
  go_wp2_with fail
  refine (ref_valid_yes n a _ HA.out A0.out).mono ?_
  rintro e w1 ⟨rfl, hb1⟩
  obtain ⟨hc1, hf1⟩ := bcell hb1
  have hz1 : w.heap.size < w1.heap.size ∧ w.heap.size + 1 < w1.heap.size ∧ w.heap.size + 1 + 1 < w1.heap.size := by have hs := hb1.size; simp at hs; omega
  go_wp2_with fail
  refine (ref_valid_yes n b _ HB.out B0.out).mono ?_
  rintro e w2 ⟨rfl, hb2⟩
  obtain ⟨hc2, hf2⟩ := bcell hb2
  have hz2 : w.heap.size < w2.heap.size ∧ w.heap.size + 1 < w2.heap.size ∧ w.heap.size + 1 + 1 < w2.heap.size := by have hs := hb2.size; omega
  go_wp2_with fail
  refine (oper_any 12 _ true (by decide)).mono ?_
  rintro e w0 ⟨rfl, hw0⟩
  rw [hw0]
  clear hw0 w0
  go_wp2_with fail
  refine (truth_any _ _).mono ?_
  rintro e w3 ⟨rfl, hb3⟩
  obtain ⟨hc3, hf3⟩ := bcell hb3
  have hz3 : w.heap.size < w3.heap.size ∧ w.heap.size + 1 < w3.heap.size ∧ w.heap.size + 1 + 1 < w3.heap.size := by have hs := hb3.size; omega
  go_wp2
  refine bodyPost_ret (v := .tuple #[.agg #[.int .i64 1, .int .u64 (bit (a == b))], .int .i64 0]) (by simp [results, Try.results12, go_sem, hc1, hc2, hc3, hz1, hz2]) rfl ⟨rfl, ?_⟩
  exact (((below3 hb1).trans ((hb2.mono (by omega)).trans (hb3.mono (by omega)))).setCell (by simp <;> omega) _).setCell (by simp <;> omega) _

set_option maxRecDepth 100000 in
set_option maxHeartbeats 400000 in
theorem rbin_13_ge (n a b : Int) (w : World) (a0 : 0 ≤ a) (b0 : 0 ≤ b) (ha : vB n a = true) (hb : vB n b = true) (hs : ¬ b < 64)  :
    Calls Try.prog 12 #[.int .i64 13, .agg #[.int .i64 n, .int .u64 a], .agg #[.int .i64 n, .int .u64 b]] w fun e w' => e = .returned (.tuple #[.agg #[.int .i64 1, .int .u64 (bit (decide (a < b)))], .int .i64 0]) ∧ Below w.heap.size w w' := by
  obtain ⟨h1, h2, _⟩ := vB_true ha
  have A0 := Lib.hid a0
  have B0 := Lib.hid b0
  clear a0 b0
  have HA := Lib.hid ha
  have HB := Lib.hid hb
  clear ha hb
  go_enter Try.func12, Try.ntmps12
  go_wp2_with fail
  refine (ref_valid_yes n a _ HA.out A0.out).mono ?_
  rintro e w1 ⟨rfl, hb1⟩
  obtain ⟨hc1, hf1⟩ := bcell hb1
  have hz1 : w.heap.size < w1.heap.size ∧ w.heap.size + 1 < w1.heap.size ∧ w.heap.size + 1 + 1 < w1.heap.size := by have hs := hb1.size; simp at hs; omega
  go_wp2_with fail
  refine (ref_valid_yes n b _ HB.out B0.out).mono ?_
  rintro e w2 ⟨rfl, hb2⟩
  obtain ⟨hc2, hf2⟩ := bcell hb2
  have hz2 : w.heap.size < w2.heap.size ∧ w.heap.size + 1 < w2.heap.size ∧ w.heap.size + 1 + 1 < w2.heap.size := by have hs := hb2.size; omega
  go_wp2_with fail
  refine (oper_any 13 _ true (by decide)).mono ?_
  rintro e w0 ⟨rfl, hw0⟩
  rw [hw0]
  clear hw0 w0
  go_wp2_with fail
  refine (truth_any _ _).mono ?_
  rintro e w3 ⟨rfl, hb3⟩
  obtain ⟨hc3, hf3⟩ := bcell hb3
  have hz3 : w.heap.size < w3.heap.size ∧ w.heap.size + 1 < w3.heap.size ∧ w.heap.size + 1 + 1 < w3.heap.size := by have hs := hb3.size; omega
  go_wp2
  refine bodyPost_ret (v := .tuple #[.agg #[.int .i64 1, .int .u64 (bit (decide (a < b)))], .int .i64 0]) (by simp [results, Try.results12, go_sem, hc1, hc2, hc3, hz1, hz2]) rfl ⟨rfl, ?_⟩
  exact (((below3 hb1).trans ((hb2.mono (by omega)).trans (hb3.mono (by omega)))).setCell (by simp <;> omega) _).setCell (by simp <;> omega) _

set_option maxRecDepth 100000 in
set_option maxHeartbeats 400000 in
theorem rbin_14_ge_same (n a b : Int) (w : World) (a0 : 0 ≤ a) (b0 : 0 ≤ b) (ha : vB n a = true) (hb : vB n b = true) (hs : ¬ b < 64) (h : (bitV a (n - 1) != bitV b (n - 1)) = false) :
    Calls Try.prog 12 #[.int .i64 14, .agg #[.int .i64 n, .int .u64 a], .agg #[.int .i64 n, .int .u64 b]] w fun e w' => e = .returned (.tuple #[.agg #[.int .i64 1, .int .u64 (bit (decide (a < b)))], .int .i64 0]) ∧ Below w.heap.size w w' := by
  obtain ⟨h1, h2, _⟩ := vB_true ha
  have H := Lib.hid h
  clear h
  have A0 := Lib.hid a0
  have B0 := Lib.hid b0
  clear a0 b0
  have HA := Lib.hid ha
  have HB := Lib.hid hb
  clear ha hb
  go_enter Try.func12, Try.ntmps12
  go_wp2_with fail
  refine (ref_valid_yes n a _ HA.out A0.out).mono ?_
  rintro e w1 ⟨rfl, hb1⟩
  obtain ⟨hc1, hf1⟩ := bcell hb1
  have hz1 : w.heap.size < w1.heap.size ∧ w.heap.size + 1 < w1.heap.size ∧ w.heap.size + 1 + 1 < w1.heap.size := by have hs := hb1.size; simp at hs; omega
  go_wp2_with fail
  refine (ref_valid_yes n b _ HB.out B0.out).mono ?_
  rintro e w2 ⟨rfl, hb2⟩
  obtain ⟨hc2, hf2⟩ := bcell hb2
  have hz2 : w.heap.size < w2.heap.size ∧ w.heap.size + 1 < w2.heap.size ∧ w.heap.size + 1 + 1 < w2.heap.size := by have hs := hb2.size; omega
  go_wp2_with fail
  refine (oper_any 14 _ true (by decide)).mono ?_
  rintro e w0 ⟨rfl, hw0⟩
  rw [hw0]
  clear hw0 w0
  go_wp2_with fail
  refine (less_same n a n b _ A0.out B0.out h1 h2 h1 h2 H.out).mono ?_
  rintro e w3 ⟨rfl, hb3⟩
  obtain ⟨hc3, hf3⟩ := bcell hb3
  have hz3 : w.heap.size < w3.heap.size ∧ w.heap.size + 1 < w3.heap.size ∧ w.heap.size + 1 + 1 < w3.heap.size := by have hs := hb3.size; omega
  go_wp2_with fail
  refine (truth_any _ _).mono ?_
  rintro e w4 ⟨rfl, hb4⟩
  obtain ⟨hc4, hf4⟩ := bcell hb4
  have hz4 : w.heap.size < w4.heap.size ∧ w.heap.size + 1 < w4.heap.size ∧ w.heap.size + 1 + 1 < w4.heap.size := by have hs := hb4.size; omega
  go_wp2
  refine bodyPost_ret (v := .tuple #[.agg #[.int .i64 1, .int .u64 (bit (decide (a < b)))], .int .i64 0]) (by simp [results, Try.results12, go_sem, hc1, hc2, hc3, hc4, hz1, hz2, hz3]) rfl ⟨rfl, ?_⟩
  exact (((below3 hb1).trans ((hb2.mono (by omega)).trans ((hb3.mono (by omega)).trans (hb4.mono (by omega))))).setCell (by simp <;> omega) _).setCell (by simp <;> omega) _

set_option maxRecDepth 100000 in
set_option maxHeartbeats 400000 in
theorem rbin_14_ge_other (n a b : Int) (w : World) (a0 : 0 ≤ a) (b0 : 0 ≤ b) (ha : vB n a = true) (hb : vB n b = true) (hs : ¬ b < 64) (h : (bitV a (n - 1) != bitV b (n - 1)) = true) :
    Calls Try.prog 12 #[.int .i64 14, .agg #[.int .i64 n, .int .u64 a], .agg #[.int .i64 n, .int .u64 b]] w fun e w' => e = .returned (.tuple #[.agg #[.int .i64 1, .int .u64 (bit (decide (bitV b (n - 1) < bitV a (n - 1))))], .int .i64 0]) ∧ Below w.heap.size w w' := by
  obtain ⟨h1, h2, _⟩ := vB_true ha
  have H := Lib.hid h
  clear h
  have A0 := Lib.hid a0
  have B0 := Lib.hid b0
  clear a0 b0
  have HA := Lib.hid ha
  have HB := Lib.hid hb
  clear ha hb
  go_enter Try.func12, Try.ntmps12
  go_wp2_with fail
  refine (ref_valid_yes n a _ HA.out A0.out).mono ?_
  rintro e w1 ⟨rfl, hb1⟩
  obtain ⟨hc1, hf1⟩ := bcell hb1
  have hz1 : w.heap.size < w1.heap.size ∧ w.heap.size + 1 < w1.heap.size ∧ w.heap.size + 1 + 1 < w1.heap.size := by have hs := hb1.size; simp at hs; omega
  go_wp2_with fail
  refine (ref_valid_yes n b _ HB.out B0.out).mono ?_
  rintro e w2 ⟨rfl, hb2⟩
  obtain ⟨hc2, hf2⟩ := bcell hb2
  have hz2 : w.heap.size < w2.heap.size ∧ w.heap.size + 1 < w2.heap.size ∧ w.heap.size + 1 + 1 < w2.heap.size := by have hs := hb2.size; omega
  go_wp2_with fail
  refine (oper_any 14 _ true (by decide)).mono ?_
  rintro e w0 ⟨rfl, hw0⟩
  rw [hw0]
  clear hw0 w0
  go_wp2_with fail
  refine (less_other n a n b _ A0.out B0.out h1 h2 h1 h2 H.out).mono ?_
  rintro e w3 ⟨rfl, hb3⟩
  obtain ⟨hc3, hf3⟩ := bcell hb3
  have hz3 : w.heap.size < w3.heap.size ∧ w.heap.size + 1 < w3.heap.size ∧ w.heap.size + 1 + 1 < w3.heap.size := by have hs := hb3.size; omega
  go_wp2_with fail
  refine (truth_any _ _).mono ?_
  rintro e w4 ⟨rfl, hb4⟩
  obtain ⟨hc4, hf4⟩ := bcell hb4
  have hz4 : w.heap.size < w4.heap.size ∧ w.heap.size + 1 < w4.heap.size ∧ w.heap.size + 1 + 1 < w4.heap.size := by have hs := hb4.size; omega
  go_wp2
  refine bodyPost_ret (v := .tuple #[.agg #[.int .i64 1, .int .u64 (bit (decide (bitV b (n - 1) < bitV a (n - 1))))], .int .i64 0]) (by simp [results, Try.results12, go_sem, hc1, hc2, hc3, hc4, hz1, hz2, hz3]) rfl ⟨rfl, ?_⟩
  exact (((below3 hb1).trans ((hb2.mono (by omega)).trans ((hb3.mono (by omega)).trans (hb4.mono (by omega))))).setCell (by simp <;> omega) _).setCell (by simp <;> omega) _

end Go.Proofs.Ytdnbpfhkbaojnaa
