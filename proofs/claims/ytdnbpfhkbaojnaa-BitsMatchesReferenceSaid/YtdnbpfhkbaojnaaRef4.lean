/- The contract of the reference's Bin. -/
import Derived.Test.YtdnbpfhkbaojnaaRef3
namespace Go.Proofs.Ytdnbpfhkbaojnaa
open Go.RowKit

theorem ref_valid_any (n v : Int) (w : World) (h0 : 0 ≤ v) : Calls Try.prog 14 #[.agg #[.int .i64 n, .int .u64 v]] w fun e w' => e = .returned (.bool (vB n v)) ∧ Below w.heap.size w w' := by
  cases h : vB n v
  · exact ref_valid_no n v w h h0
  · exact ref_valid_yes n v w h h0

set_option maxRecDepth 100000 in
set_option maxHeartbeats 400000 in
theorem rbin_op (op n a m b : Int) (w : World) (a0 : 0 ≤ a) (b0 : 0 ≤ b) (ho : ¬ (2 ≤ op ∧ op ≤ 14)) :
    Calls Try.prog 12 #[.int .i64 op, .agg #[.int .i64 n, .int .u64 a], .agg #[.int .i64 m, .int .u64 b]] w fun e w' => e = .returned (.tuple #[.agg #[.int .i64 0, .int .u64 0], .int .i64 1]) ∧ Below w.heap.size w w' := by
  have A0 := Lib.hid a0
  have B0 := Lib.hid b0
  clear a0 b0
  have HO := Lib.hid ho
  clear ho
  go_enter Try.func12, Try.ntmps12
  go_wp2_with fail
  refine (ref_valid_any n a _ A0.out).mono ?_
  rintro e w1 ⟨rfl, hb1⟩
  obtain ⟨hc1, hf1⟩ := bcell hb1
  have hz1 : w.heap.size < w1.heap.size ∧ w.heap.size + 1 < w1.heap.size ∧ w.heap.size + 1 + 1 < w1.heap.size := by have hs := hb1.size; simp at hs; omega
  go_wp2_with fail
  refine (ref_valid_any m b _ B0.out).mono ?_
  rintro e w2 ⟨rfl, hb2⟩
  obtain ⟨hc2, hf2⟩ := bcell hb2
  have hz2 : w.heap.size < w2.heap.size ∧ w.heap.size + 1 < w2.heap.size ∧ w.heap.size + 1 + 1 < w2.heap.size := by have hs := hb2.size; omega
  go_wp2_with fail
  refine (oper_any op _ false (decide_eq_false HO.out).symm).mono ?_
  rintro e w0 ⟨rfl, hw0⟩
  rw [hw0]
  clear hw0 w0
  go_wp2
  refine bodyPost_ret (v := .tuple #[.agg #[.int .i64 0, .int .u64 0], .int .i64 1]) (by simp [results, Try.results12, go_sem, hc1, hc2, hz1]) rfl ⟨rfl, ?_⟩
  exact (((below3 hb1).trans (hb2.mono (by omega))).setCell (by simp <;> omega) _).setCell (by simp <;> omega) _

set_option maxRecDepth 100000 in
set_option maxHeartbeats 400000 in
theorem rbin_a (op n a m b : Int) (w : World) (a0 : 0 ≤ a) (b0 : 0 ≤ b) (ho : 2 ≤ op ∧ op ≤ 14) (ha : vB n a = false) :
    Calls Try.prog 12 #[.int .i64 op, .agg #[.int .i64 n, .int .u64 a], .agg #[.int .i64 m, .int .u64 b]] w fun e w' => e = .returned (.tuple #[.agg #[.int .i64 0, .int .u64 0], .int .i64 1]) ∧ Below w.heap.size w w' := by
  have A0 := Lib.hid a0
  have B0 := Lib.hid b0
  clear a0 b0
  have HO := Lib.hid ho
  have HA := Lib.hid ha
  clear ho ha
  go_enter Try.func12, Try.ntmps12
  go_wp2_with fail
  refine (ref_valid_no n a _ HA.out A0.out).mono ?_
  rintro e w1 ⟨rfl, hb1⟩
  obtain ⟨hc1, hf1⟩ := bcell hb1
  have hz1 : w.heap.size < w1.heap.size ∧ w.heap.size + 1 < w1.heap.size ∧ w.heap.size + 1 + 1 < w1.heap.size := by have hs := hb1.size; simp at hs; omega
  go_wp2_with fail
  refine (ref_valid_any m b _ B0.out).mono ?_
  rintro e w2 ⟨rfl, hb2⟩
  obtain ⟨hc2, hf2⟩ := bcell hb2
  have hz2 : w.heap.size < w2.heap.size ∧ w.heap.size + 1 < w2.heap.size ∧ w.heap.size + 1 + 1 < w2.heap.size := by have hs := hb2.size; omega
  go_wp2_with fail
  refine (oper_any op _ true (decide_eq_true HO.out).symm).mono ?_
  rintro e w0 ⟨rfl, hw0⟩
  rw [hw0]
  clear hw0 w0
  go_wp2
  refine bodyPost_ret (v := .tuple #[.agg #[.int .i64 0, .int .u64 0], .int .i64 1]) (by simp [results, Try.results12, go_sem, hc1, hc2, hz1]) rfl ⟨rfl, ?_⟩
  exact (((below3 hb1).trans (hb2.mono (by omega))).setCell (by simp <;> omega) _).setCell (by simp <;> omega) _

set_option maxRecDepth 100000 in
set_option maxHeartbeats 400000 in
theorem rbin_b (op n a m b : Int) (w : World) (a0 : 0 ≤ a) (b0 : 0 ≤ b) (ho : 2 ≤ op ∧ op ≤ 14) (ha : vB n a = true) (hb : vB m b = false) :
    Calls Try.prog 12 #[.int .i64 op, .agg #[.int .i64 n, .int .u64 a], .agg #[.int .i64 m, .int .u64 b]] w fun e w' => e = .returned (.tuple #[.agg #[.int .i64 0, .int .u64 0], .int .i64 1]) ∧ Below w.heap.size w w' := by
  have A0 := Lib.hid a0
  have B0 := Lib.hid b0
  clear a0 b0
  have HO := Lib.hid ho
  have HA := Lib.hid ha
  have HB := Lib.hid hb
  clear ho ha hb
  go_enter Try.func12, Try.ntmps12
  go_wp2_with fail
  refine (ref_valid_yes n a _ HA.out A0.out).mono ?_
  rintro e w1 ⟨rfl, hb1⟩
  obtain ⟨hc1, hf1⟩ := bcell hb1
  have hz1 : w.heap.size < w1.heap.size ∧ w.heap.size + 1 < w1.heap.size ∧ w.heap.size + 1 + 1 < w1.heap.size := by have hs := hb1.size; simp at hs; omega
  go_wp2_with fail
  refine (ref_valid_no m b _ HB.out B0.out).mono ?_
  rintro e w2 ⟨rfl, hb2⟩
  obtain ⟨hc2, hf2⟩ := bcell hb2
  have hz2 : w.heap.size < w2.heap.size ∧ w.heap.size + 1 < w2.heap.size ∧ w.heap.size + 1 + 1 < w2.heap.size := by have hs := hb2.size; omega
  go_wp2_with fail
  refine (oper_any op _ true (decide_eq_true HO.out).symm).mono ?_
  rintro e w0 ⟨rfl, hw0⟩
  rw [hw0]
  clear hw0 w0
  go_wp2
  refine bodyPost_ret (v := .tuple #[.agg #[.int .i64 0, .int .u64 0], .int .i64 1]) (by simp [results, Try.results12, go_sem, hc1, hc2, hz1]) rfl ⟨rfl, ?_⟩
  exact (((below3 hb1).trans (hb2.mono (by omega))).setCell (by simp <;> omega) _).setCell (by simp <;> omega) _

set_option maxRecDepth 100000 in
set_option maxHeartbeats 400000 in
theorem rbin_w (op n a m b : Int) (w : World) (a0 : 0 ≤ a) (b0 : 0 ≤ b) (ho : 2 ≤ op ∧ op ≤ 14) (ha : vB n a = true) (hb : vB m b = true) (hn : ¬ n = m) :
    Calls Try.prog 12 #[.int .i64 op, .agg #[.int .i64 n, .int .u64 a], .agg #[.int .i64 m, .int .u64 b]] w fun e w' => e = .returned (.tuple #[.agg #[.int .i64 0, .int .u64 0], .int .i64 13]) ∧ Below w.heap.size w w' := by
  have hq : (n != m) = true := by simpa using hn
  clear hn
  have A0 := Lib.hid a0
  have B0 := Lib.hid b0
  clear a0 b0
  have HO := Lib.hid ho
  have HA := Lib.hid ha
  have HB := Lib.hid hb
  clear ho ha hb
  go_enter Try.func12, Try.ntmps12
  go_wp2_with fail
  refine (ref_valid_yes n a _ HA.out A0.out).mono ?_
  rintro e w1 ⟨rfl, hb1⟩
  obtain ⟨hc1, hf1⟩ := bcell hb1
  have hz1 : w.heap.size < w1.heap.size ∧ w.heap.size + 1 < w1.heap.size ∧ w.heap.size + 1 + 1 < w1.heap.size := by have hs := hb1.size; simp at hs; omega
  go_wp2_with fail
  refine (ref_valid_yes m b _ HB.out B0.out).mono ?_
  rintro e w2 ⟨rfl, hb2⟩
  obtain ⟨hc2, hf2⟩ := bcell hb2
  have hz2 : w.heap.size < w2.heap.size ∧ w.heap.size + 1 < w2.heap.size ∧ w.heap.size + 1 + 1 < w2.heap.size := by have hs := hb2.size; omega
  go_wp2_with fail
  refine (oper_any op _ true (decide_eq_true HO.out).symm).mono ?_
  rintro e w0 ⟨rfl, hw0⟩
  rw [hw0]
  clear hw0 w0
  go_wp2
  refine bodyPost_ret (v := .tuple #[.agg #[.int .i64 0, .int .u64 0], .int .i64 13]) (by simp [results, Try.results12, go_sem, hc1, hc2, hz1]) rfl ⟨rfl, ?_⟩
  exact (((below3 hb1).trans (hb2.mono (by omega))).setCell (by simp <;> omega) _).setCell (by simp <;> omega) _

set_option maxRecDepth 100000 in
set_option maxHeartbeats 400000 in
theorem rbin_2_lt (n a b : Int) (w : World) (a0 : 0 ≤ a) (b0 : 0 ≤ b) (ha : vB n a = true) (hb : vB n b = true) (hs : b < 64) :
    Calls Try.prog 12 #[.int .i64 2, .agg #[.int .i64 n, .int .u64 a], .agg #[.int .i64 n, .int .u64 b]] w fun e w' => e = .returned (.tuple #[.agg #[.int .i64 n, .int .u64 (low n (IntKind.u64.wrap (a + b)))], .int .i64 0]) ∧ Below w.heap.size w w' := by
  obtain ⟨h1, h2, _⟩ := vB_true ha
  have R0 := Lib.hid (wrap_range (a + b)).1
  have A0 := Lib.hid a0
  have B0 := Lib.hid b0
  clear a0 b0
  have HA := Lib.hid ha
  have HB := Lib.hid hb
  clear ha hb
  go_enter Try.func12, Try.ntmps12
  go_wp2_with fail
  refine (ref_valid_yes n a _ HA.out A0.out).mono ?_
  rintro e w1 ⟨rfl, hb1⟩
  obtain ⟨hc1, hf1⟩ := bcell hb1
  have hz1 : w.heap.size < w1.heap.size ∧ w.heap.size + 1 < w1.heap.size ∧ w.heap.size + 1 + 1 < w1.heap.size := by have hs := hb1.size; simp at hs; omega
  go_wp2_with fail
  refine (ref_valid_yes n b _ HB.out B0.out).mono ?_
  rintro e w2 ⟨rfl, hb2⟩
  obtain ⟨hc2, hf2⟩ := bcell hb2
  have hz2 : w.heap.size < w2.heap.size ∧ w.heap.size + 1 < w2.heap.size ∧ w.heap.size + 1 + 1 < w2.heap.size := by have hs := hb2.size; omega
  go_wp2_with fail
  refine (oper_any 2 _ true (by decide)).mono ?_
  rintro e w0 ⟨rfl, hw0⟩
  rw [hw0]
  clear hw0 w0
  go_wp2
  have q1 : w2.cell? ⟨w.heap.size, 0, none⟩ = some (.int .i64 n) := by simp [hc1, hc2, hz1, go_sem]
  have q5 : w2.cell? ⟨w.heap.size + 1 + 1, 0, none⟩ = some (.int .i64 0) := by simp [hc1, hc2, hz1, go_sem]
  have q6 : w2.cell? ⟨w.heap.size + 1 + 1, 1, none⟩ = some (.int .u64 0) := by simp [hc1, hc2, hz1, go_sem]
  have p5 : w2.frozen? ⟨w.heap.size + 1 + 1, 0, none⟩ = false := by simp [hf1, hf2, hz1, go_sem]
  have p6 : w2.frozen? ⟨w.heap.size + 1 + 1, 1, none⟩ = false := by simp [hf1, hf2, hz1, go_sem]
  have hb := (below3 hb1).trans (hb2.mono (by omega))
  clear hc1 hc2 hf1 hf2 hz1 hb1 hb2
  go_region_held3 (fun w' => w'.cell? ⟨w.heap.size, 0, none⟩ = some (.int .i64 n)) (first | (go_keep; done) | (simp [go_sem]; done) | (simp [go_sem, *]; done))
    ((go_at_call 35; refine (ref_low _ _ _ R0.out (by omega) h2).mono ?_; rintro e w' ⟨rfl, rfl⟩))
  go_wp2
  refine bodyPost_ret (v := .tuple #[.agg #[.int .i64 n, .int .u64 (low n (IntKind.u64.wrap (a + b)))], .int .i64 0]) (by simp [results, Try.results12, go_sem, q5, q6]) rfl ⟨rfl, ?_⟩
  exact (hb.drew.setCell (by simp; omega) _).setCell (by simp; omega) _

set_option maxRecDepth 100000 in
set_option maxHeartbeats 400000 in
theorem rbin_3_lt (n a b : Int) (w : World) (a0 : 0 ≤ a) (b0 : 0 ≤ b) (ha : vB n a = true) (hb : vB n b = true) (hs : b < 64) :
    Calls Try.prog 12 #[.int .i64 3, .agg #[.int .i64 n, .int .u64 a], .agg #[.int .i64 n, .int .u64 b]] w fun e w' => e = .returned (.tuple #[.agg #[.int .i64 n, .int .u64 (low n (IntKind.u64.wrap (a - b)))], .int .i64 0]) ∧ Below w.heap.size w w' := by
  obtain ⟨h1, h2, _⟩ := vB_true ha
  have R0 := Lib.hid (wrap_range (a - b)).1
  have A0 := Lib.hid a0
  have B0 := Lib.hid b0
  clear a0 b0
  have HA := Lib.hid ha
  have HB := Lib.hid hb
  clear ha hb
  go_enter Try.func12, Try.ntmps12
  go_wp2_with fail
  refine (ref_valid_yes n a _ HA.out A0.out).mono ?_
  rintro e w1 ⟨rfl, hb1⟩
  obtain ⟨hc1, hf1⟩ := bcell hb1
  have hz1 : w.heap.size < w1.heap.size ∧ w.heap.size + 1 < w1.heap.size ∧ w.heap.size + 1 + 1 < w1.heap.size := by have hs := hb1.size; simp at hs; omega
  go_wp2_with fail
  refine (ref_valid_yes n b _ HB.out B0.out).mono ?_
  rintro e w2 ⟨rfl, hb2⟩
  obtain ⟨hc2, hf2⟩ := bcell hb2
  have hz2 : w.heap.size < w2.heap.size ∧ w.heap.size + 1 < w2.heap.size ∧ w.heap.size + 1 + 1 < w2.heap.size := by have hs := hb2.size; omega
  go_wp2_with fail
  refine (oper_any 3 _ true (by decide)).mono ?_
  rintro e w0 ⟨rfl, hw0⟩
  rw [hw0]
  clear hw0 w0
  go_wp2
  have q1 : w2.cell? ⟨w.heap.size, 0, none⟩ = some (.int .i64 n) := by simp [hc1, hc2, hz1, go_sem]
  have q5 : w2.cell? ⟨w.heap.size + 1 + 1, 0, none⟩ = some (.int .i64 0) := by simp [hc1, hc2, hz1, go_sem]
  have q6 : w2.cell? ⟨w.heap.size + 1 + 1, 1, none⟩ = some (.int .u64 0) := by simp [hc1, hc2, hz1, go_sem]
  have p5 : w2.frozen? ⟨w.heap.size + 1 + 1, 0, none⟩ = false := by simp [hf1, hf2, hz1, go_sem]
  have p6 : w2.frozen? ⟨w.heap.size + 1 + 1, 1, none⟩ = false := by simp [hf1, hf2, hz1, go_sem]
  have hb := (below3 hb1).trans (hb2.mono (by omega))
  clear hc1 hc2 hf1 hf2 hz1 hb1 hb2
  go_region_held3 (fun w' => w'.cell? ⟨w.heap.size, 0, none⟩ = some (.int .i64 n)) (first | (go_keep; done) | (simp [go_sem]; done) | (simp [go_sem, *]; done))
    ((go_at_call 35; refine (ref_low _ _ _ R0.out (by omega) h2).mono ?_; rintro e w' ⟨rfl, rfl⟩))
  go_wp2
  refine bodyPost_ret (v := .tuple #[.agg #[.int .i64 n, .int .u64 (low n (IntKind.u64.wrap (a - b)))], .int .i64 0]) (by simp [results, Try.results12, go_sem, q5, q6]) rfl ⟨rfl, ?_⟩
  exact (hb.drew.setCell (by simp; omega) _).setCell (by simp; omega) _

set_option maxRecDepth 100000 in
set_option maxHeartbeats 400000 in
theorem rbin_4_lt (n a b : Int) (w : World) (a0 : 0 ≤ a) (b0 : 0 ≤ b) (ha : vB n a = true) (hb : vB n b = true) (hs : b < 64) :
    Calls Try.prog 12 #[.int .i64 4, .agg #[.int .i64 n, .int .u64 a], .agg #[.int .i64 n, .int .u64 b]] w fun e w' => e = .returned (.tuple #[.agg #[.int .i64 n, .int .u64 (low n (IntKind.u64.wrap (a * b)))], .int .i64 0]) ∧ Below w.heap.size w w' := by
  obtain ⟨h1, h2, _⟩ := vB_true ha
  have R0 := Lib.hid (wrap_range (a * b)).1
  have A0 := Lib.hid a0
  have B0 := Lib.hid b0
  clear a0 b0
  have HA := Lib.hid ha
  have HB := Lib.hid hb
  clear ha hb
  go_enter Try.func12, Try.ntmps12
  go_wp2_with fail
  refine (ref_valid_yes n a _ HA.out A0.out).mono ?_
  rintro e w1 ⟨rfl, hb1⟩
  obtain ⟨hc1, hf1⟩ := bcell hb1
  have hz1 : w.heap.size < w1.heap.size ∧ w.heap.size + 1 < w1.heap.size ∧ w.heap.size + 1 + 1 < w1.heap.size := by have hs := hb1.size; simp at hs; omega
  go_wp2_with fail
  refine (ref_valid_yes n b _ HB.out B0.out).mono ?_
  rintro e w2 ⟨rfl, hb2⟩
  obtain ⟨hc2, hf2⟩ := bcell hb2
  have hz2 : w.heap.size < w2.heap.size ∧ w.heap.size + 1 < w2.heap.size ∧ w.heap.size + 1 + 1 < w2.heap.size := by have hs := hb2.size; omega
  go_wp2_with fail
  refine (oper_any 4 _ true (by decide)).mono ?_
  rintro e w0 ⟨rfl, hw0⟩
  rw [hw0]
  clear hw0 w0
  go_wp2
  have q1 : w2.cell? ⟨w.heap.size, 0, none⟩ = some (.int .i64 n) := by simp [hc1, hc2, hz1, go_sem]
  have q5 : w2.cell? ⟨w.heap.size + 1 + 1, 0, none⟩ = some (.int .i64 0) := by simp [hc1, hc2, hz1, go_sem]
  have q6 : w2.cell? ⟨w.heap.size + 1 + 1, 1, none⟩ = some (.int .u64 0) := by simp [hc1, hc2, hz1, go_sem]
  have p5 : w2.frozen? ⟨w.heap.size + 1 + 1, 0, none⟩ = false := by simp [hf1, hf2, hz1, go_sem]
  have p6 : w2.frozen? ⟨w.heap.size + 1 + 1, 1, none⟩ = false := by simp [hf1, hf2, hz1, go_sem]
  have hb := (below3 hb1).trans (hb2.mono (by omega))
  clear hc1 hc2 hf1 hf2 hz1 hb1 hb2
  go_region_held3 (fun w' => w'.cell? ⟨w.heap.size, 0, none⟩ = some (.int .i64 n)) (first | (go_keep; done) | (simp [go_sem]; done) | (simp [go_sem, *]; done))
    ((go_at_call 35; refine (ref_low _ _ _ R0.out (by omega) h2).mono ?_; rintro e w' ⟨rfl, rfl⟩))
  go_wp2
  refine bodyPost_ret (v := .tuple #[.agg #[.int .i64 n, .int .u64 (low n (IntKind.u64.wrap (a * b)))], .int .i64 0]) (by simp [results, Try.results12, go_sem, q5, q6]) rfl ⟨rfl, ?_⟩
  exact (hb.drew.setCell (by simp; omega) _).setCell (by simp; omega) _

set_option maxRecDepth 100000 in
set_option maxHeartbeats 400000 in
theorem rbin_7_lt (n a b : Int) (w : World) (a0 : 0 ≤ a) (b0 : 0 ≤ b) (ha : vB n a = true) (hb : vB n b = true) (hs : b < 64) :
    Calls Try.prog 12 #[.int .i64 7, .agg #[.int .i64 n, .int .u64 a], .agg #[.int .i64 n, .int .u64 b]] w fun e w' => e = .returned (.tuple #[.agg #[.int .i64 n, .int .u64 (low n (bits .and .u64 a b))], .int .i64 0]) ∧ Below w.heap.size w w' := by
  obtain ⟨h1, h2, _⟩ := vB_true ha
  have R0 := Lib.hid (bits_range .and a b).1
  have A0 := Lib.hid a0
  have B0 := Lib.hid b0
  clear a0 b0
  have HA := Lib.hid ha
  have HB := Lib.hid hb
  clear ha hb
  go_enter Try.func12, Try.ntmps12
  go_wp2_with fail
  refine (ref_valid_yes n a _ HA.out A0.out).mono ?_
  rintro e w1 ⟨rfl, hb1⟩
  obtain ⟨hc1, hf1⟩ := bcell hb1
  have hz1 : w.heap.size < w1.heap.size ∧ w.heap.size + 1 < w1.heap.size ∧ w.heap.size + 1 + 1 < w1.heap.size := by have hs := hb1.size; simp at hs; omega
  go_wp2_with fail
  refine (ref_valid_yes n b _ HB.out B0.out).mono ?_
  rintro e w2 ⟨rfl, hb2⟩
  obtain ⟨hc2, hf2⟩ := bcell hb2
  have hz2 : w.heap.size < w2.heap.size ∧ w.heap.size + 1 < w2.heap.size ∧ w.heap.size + 1 + 1 < w2.heap.size := by have hs := hb2.size; omega
  go_wp2_with fail
  refine (oper_any 7 _ true (by decide)).mono ?_
  rintro e w0 ⟨rfl, hw0⟩
  rw [hw0]
  clear hw0 w0
  go_wp2
  have q1 : w2.cell? ⟨w.heap.size, 0, none⟩ = some (.int .i64 n) := by simp [hc1, hc2, hz1, go_sem]
  have q5 : w2.cell? ⟨w.heap.size + 1 + 1, 0, none⟩ = some (.int .i64 0) := by simp [hc1, hc2, hz1, go_sem]
  have q6 : w2.cell? ⟨w.heap.size + 1 + 1, 1, none⟩ = some (.int .u64 0) := by simp [hc1, hc2, hz1, go_sem]
  have p5 : w2.frozen? ⟨w.heap.size + 1 + 1, 0, none⟩ = false := by simp [hf1, hf2, hz1, go_sem]
  have p6 : w2.frozen? ⟨w.heap.size + 1 + 1, 1, none⟩ = false := by simp [hf1, hf2, hz1, go_sem]
  have hb := (below3 hb1).trans (hb2.mono (by omega))
  clear hc1 hc2 hf1 hf2 hz1 hb1 hb2
  go_region_held3 (fun w' => w'.cell? ⟨w.heap.size, 0, none⟩ = some (.int .i64 n)) (first | (go_keep; done) | (simp [go_sem]; done) | (simp [go_sem, *]; done))
    ((go_at_call 35; refine (ref_low _ _ _ R0.out (by omega) h2).mono ?_; rintro e w' ⟨rfl, rfl⟩))
  go_wp2
  refine bodyPost_ret (v := .tuple #[.agg #[.int .i64 n, .int .u64 (low n (bits .and .u64 a b))], .int .i64 0]) (by simp [results, Try.results12, go_sem, q5, q6]) rfl ⟨rfl, ?_⟩
  exact (hb.drew.setCell (by simp; omega) _).setCell (by simp; omega) _

set_option maxRecDepth 100000 in
set_option maxHeartbeats 400000 in
theorem rbin_8_lt (n a b : Int) (w : World) (a0 : 0 ≤ a) (b0 : 0 ≤ b) (ha : vB n a = true) (hb : vB n b = true) (hs : b < 64) :
    Calls Try.prog 12 #[.int .i64 8, .agg #[.int .i64 n, .int .u64 a], .agg #[.int .i64 n, .int .u64 b]] w fun e w' => e = .returned (.tuple #[.agg #[.int .i64 n, .int .u64 (low n (bits .or .u64 a b))], .int .i64 0]) ∧ Below w.heap.size w w' := by
  obtain ⟨h1, h2, _⟩ := vB_true ha
  have R0 := Lib.hid (bits_range .or a b).1
  have A0 := Lib.hid a0
  have B0 := Lib.hid b0
  clear a0 b0
  have HA := Lib.hid ha
  have HB := Lib.hid hb
  clear ha hb
  go_enter Try.func12, Try.ntmps12
  go_wp2_with fail
  refine (ref_valid_yes n a _ HA.out A0.out).mono ?_
  rintro e w1 ⟨rfl, hb1⟩
  obtain ⟨hc1, hf1⟩ := bcell hb1
  have hz1 : w.heap.size < w1.heap.size ∧ w.heap.size + 1 < w1.heap.size ∧ w.heap.size + 1 + 1 < w1.heap.size := by have hs := hb1.size; simp at hs; omega
  go_wp2_with fail
  refine (ref_valid_yes n b _ HB.out B0.out).mono ?_
  rintro e w2 ⟨rfl, hb2⟩
  obtain ⟨hc2, hf2⟩ := bcell hb2
  have hz2 : w.heap.size < w2.heap.size ∧ w.heap.size + 1 < w2.heap.size ∧ w.heap.size + 1 + 1 < w2.heap.size := by have hs := hb2.size; omega
  go_wp2_with fail
  refine (oper_any 8 _ true (by decide)).mono ?_
  rintro e w0 ⟨rfl, hw0⟩
  rw [hw0]
  clear hw0 w0
  go_wp2
  have q1 : w2.cell? ⟨w.heap.size, 0, none⟩ = some (.int .i64 n) := by simp [hc1, hc2, hz1, go_sem]
  have q5 : w2.cell? ⟨w.heap.size + 1 + 1, 0, none⟩ = some (.int .i64 0) := by simp [hc1, hc2, hz1, go_sem]
  have q6 : w2.cell? ⟨w.heap.size + 1 + 1, 1, none⟩ = some (.int .u64 0) := by simp [hc1, hc2, hz1, go_sem]
  have p5 : w2.frozen? ⟨w.heap.size + 1 + 1, 0, none⟩ = false := by simp [hf1, hf2, hz1, go_sem]
  have p6 : w2.frozen? ⟨w.heap.size + 1 + 1, 1, none⟩ = false := by simp [hf1, hf2, hz1, go_sem]
  have hb := (below3 hb1).trans (hb2.mono (by omega))
  clear hc1 hc2 hf1 hf2 hz1 hb1 hb2
  go_region_held3 (fun w' => w'.cell? ⟨w.heap.size, 0, none⟩ = some (.int .i64 n)) (first | (go_keep; done) | (simp [go_sem]; done) | (simp [go_sem, *]; done))
    ((go_at_call 35; refine (ref_low _ _ _ R0.out (by omega) h2).mono ?_; rintro e w' ⟨rfl, rfl⟩))
  go_wp2
  refine bodyPost_ret (v := .tuple #[.agg #[.int .i64 n, .int .u64 (low n (bits .or .u64 a b))], .int .i64 0]) (by simp [results, Try.results12, go_sem, q5, q6]) rfl ⟨rfl, ?_⟩
  exact (hb.drew.setCell (by simp; omega) _).setCell (by simp; omega) _

set_option maxRecDepth 100000 in
set_option maxHeartbeats 400000 in
theorem rbin_9_lt (n a b : Int) (w : World) (a0 : 0 ≤ a) (b0 : 0 ≤ b) (ha : vB n a = true) (hb : vB n b = true) (hs : b < 64) :
    Calls Try.prog 12 #[.int .i64 9, .agg #[.int .i64 n, .int .u64 a], .agg #[.int .i64 n, .int .u64 b]] w fun e w' => e = .returned (.tuple #[.agg #[.int .i64 n, .int .u64 (low n (bits .xor .u64 a b))], .int .i64 0]) ∧ Below w.heap.size w w' := by
  obtain ⟨h1, h2, _⟩ := vB_true ha
  have R0 := Lib.hid (bits_range .xor a b).1
  have A0 := Lib.hid a0
  have B0 := Lib.hid b0
  clear a0 b0
  have HA := Lib.hid ha
  have HB := Lib.hid hb
  clear ha hb
  go_enter Try.func12, Try.ntmps12
  go_wp2_with fail
  refine (ref_valid_yes n a _ HA.out A0.out).mono ?_
  rintro e w1 ⟨rfl, hb1⟩
  obtain ⟨hc1, hf1⟩ := bcell hb1
  have hz1 : w.heap.size < w1.heap.size ∧ w.heap.size + 1 < w1.heap.size ∧ w.heap.size + 1 + 1 < w1.heap.size := by have hs := hb1.size; simp at hs; omega
  go_wp2_with fail
  refine (ref_valid_yes n b _ HB.out B0.out).mono ?_
  rintro e w2 ⟨rfl, hb2⟩
  obtain ⟨hc2, hf2⟩ := bcell hb2
  have hz2 : w.heap.size < w2.heap.size ∧ w.heap.size + 1 < w2.heap.size ∧ w.heap.size + 1 + 1 < w2.heap.size := by have hs := hb2.size; omega
  go_wp2_with fail
  refine (oper_any 9 _ true (by decide)).mono ?_
  rintro e w0 ⟨rfl, hw0⟩
  rw [hw0]
  clear hw0 w0
  go_wp2
  have q1 : w2.cell? ⟨w.heap.size, 0, none⟩ = some (.int .i64 n) := by simp [hc1, hc2, hz1, go_sem]
  have q5 : w2.cell? ⟨w.heap.size + 1 + 1, 0, none⟩ = some (.int .i64 0) := by simp [hc1, hc2, hz1, go_sem]
  have q6 : w2.cell? ⟨w.heap.size + 1 + 1, 1, none⟩ = some (.int .u64 0) := by simp [hc1, hc2, hz1, go_sem]
  have p5 : w2.frozen? ⟨w.heap.size + 1 + 1, 0, none⟩ = false := by simp [hf1, hf2, hz1, go_sem]
  have p6 : w2.frozen? ⟨w.heap.size + 1 + 1, 1, none⟩ = false := by simp [hf1, hf2, hz1, go_sem]
  have hb := (below3 hb1).trans (hb2.mono (by omega))
  clear hc1 hc2 hf1 hf2 hz1 hb1 hb2
  go_region_held3 (fun w' => w'.cell? ⟨w.heap.size, 0, none⟩ = some (.int .i64 n)) (first | (go_keep; done) | (simp [go_sem]; done) | (simp [go_sem, *]; done))
    ((go_at_call 35; refine (ref_low _ _ _ R0.out (by omega) h2).mono ?_; rintro e w' ⟨rfl, rfl⟩))
  go_wp2
  refine bodyPost_ret (v := .tuple #[.agg #[.int .i64 n, .int .u64 (low n (bits .xor .u64 a b))], .int .i64 0]) (by simp [results, Try.results12, go_sem, q5, q6]) rfl ⟨rfl, ?_⟩
  exact (hb.drew.setCell (by simp; omega) _).setCell (by simp; omega) _

set_option maxRecDepth 100000 in
set_option maxHeartbeats 400000 in
theorem rbin_2_ge (n a b : Int) (w : World) (a0 : 0 ≤ a) (b0 : 0 ≤ b) (ha : vB n a = true) (hb : vB n b = true) (hs : ¬ b < 64) :
    Calls Try.prog 12 #[.int .i64 2, .agg #[.int .i64 n, .int .u64 a], .agg #[.int .i64 n, .int .u64 b]] w fun e w' => e = .returned (.tuple #[.agg #[.int .i64 n, .int .u64 (low n (IntKind.u64.wrap (a + b)))], .int .i64 0]) ∧ Below w.heap.size w w' := by
  obtain ⟨h1, h2, _⟩ := vB_true ha
  have R0 := Lib.hid (wrap_range (a + b)).1
  have A0 := Lib.hid a0
  have B0 := Lib.hid b0
  clear a0 b0
  have HA := Lib.hid ha
  have HB := Lib.hid hb
  clear ha hb
  go_enter Try.func12, Try.ntmps12
  go_wp2_with fail
  refine (ref_valid_yes n a _ HA.out A0.out).mono ?_
  rintro e w1 ⟨rfl, hb1⟩
  obtain ⟨hc1, hf1⟩ := bcell hb1
  have hz1 : w.heap.size < w1.heap.size ∧ w.heap.size + 1 < w1.heap.size ∧ w.heap.size + 1 + 1 < w1.heap.size := by have hs := hb1.size; simp at hs; omega
  go_wp2_with fail
  refine (ref_valid_yes n b _ HB.out B0.out).mono ?_
  rintro e w2 ⟨rfl, hb2⟩
  obtain ⟨hc2, hf2⟩ := bcell hb2
  have hz2 : w.heap.size < w2.heap.size ∧ w.heap.size + 1 < w2.heap.size ∧ w.heap.size + 1 + 1 < w2.heap.size := by have hs := hb2.size; omega
  go_wp2_with fail
  refine (oper_any 2 _ true (by decide)).mono ?_
  rintro e w0 ⟨rfl, hw0⟩
  rw [hw0]
  clear hw0 w0
  go_wp2
  have q1 : w2.cell? ⟨w.heap.size, 0, none⟩ = some (.int .i64 n) := by simp [hc1, hc2, hz1, go_sem]
  have q5 : w2.cell? ⟨w.heap.size + 1 + 1, 0, none⟩ = some (.int .i64 0) := by simp [hc1, hc2, hz1, go_sem]
  have q6 : w2.cell? ⟨w.heap.size + 1 + 1, 1, none⟩ = some (.int .u64 0) := by simp [hc1, hc2, hz1, go_sem]
  have p5 : w2.frozen? ⟨w.heap.size + 1 + 1, 0, none⟩ = false := by simp [hf1, hf2, hz1, go_sem]
  have p6 : w2.frozen? ⟨w.heap.size + 1 + 1, 1, none⟩ = false := by simp [hf1, hf2, hz1, go_sem]
  have hb := (below3 hb1).trans (hb2.mono (by omega))
  clear hc1 hc2 hf1 hf2 hz1 hb1 hb2
  go_region_held3 (fun w' => w'.cell? ⟨w.heap.size, 0, none⟩ = some (.int .i64 n)) (first | (go_keep; done) | (simp [go_sem]; done) | (simp [go_sem, *]; done))
    ((go_at_call 35; refine (ref_low _ _ _ R0.out (by omega) h2).mono ?_; rintro e w' ⟨rfl, rfl⟩))
  go_wp2
  refine bodyPost_ret (v := .tuple #[.agg #[.int .i64 n, .int .u64 (low n (IntKind.u64.wrap (a + b)))], .int .i64 0]) (by simp [results, Try.results12, go_sem, q5, q6]) rfl ⟨rfl, ?_⟩
  exact (hb.drew.setCell (by simp; omega) _).setCell (by simp; omega) _

set_option maxRecDepth 100000 in
set_option maxHeartbeats 400000 in
theorem rbin_3_ge (n a b : Int) (w : World) (a0 : 0 ≤ a) (b0 : 0 ≤ b) (ha : vB n a = true) (hb : vB n b = true) (hs : ¬ b < 64) :
    Calls Try.prog 12 #[.int .i64 3, .agg #[.int .i64 n, .int .u64 a], .agg #[.int .i64 n, .int .u64 b]] w fun e w' => e = .returned (.tuple #[.agg #[.int .i64 n, .int .u64 (low n (IntKind.u64.wrap (a - b)))], .int .i64 0]) ∧ Below w.heap.size w w' := by
  obtain ⟨h1, h2, _⟩ := vB_true ha
  have R0 := Lib.hid (wrap_range (a - b)).1
  have A0 := Lib.hid a0
  have B0 := Lib.hid b0
  clear a0 b0
  have HA := Lib.hid ha
  have HB := Lib.hid hb
  clear ha hb
  go_enter Try.func12, Try.ntmps12
  go_wp2_with fail
  refine (ref_valid_yes n a _ HA.out A0.out).mono ?_
  rintro e w1 ⟨rfl, hb1⟩
  obtain ⟨hc1, hf1⟩ := bcell hb1
  have hz1 : w.heap.size < w1.heap.size ∧ w.heap.size + 1 < w1.heap.size ∧ w.heap.size + 1 + 1 < w1.heap.size := by have hs := hb1.size; simp at hs; omega
  go_wp2_with fail
  refine (ref_valid_yes n b _ HB.out B0.out).mono ?_
  rintro e w2 ⟨rfl, hb2⟩
  obtain ⟨hc2, hf2⟩ := bcell hb2
  have hz2 : w.heap.size < w2.heap.size ∧ w.heap.size + 1 < w2.heap.size ∧ w.heap.size + 1 + 1 < w2.heap.size := by have hs := hb2.size; omega
  go_wp2_with fail
  refine (oper_any 3 _ true (by decide)).mono ?_
  rintro e w0 ⟨rfl, hw0⟩
  rw [hw0]
  clear hw0 w0
  go_wp2
  have q1 : w2.cell? ⟨w.heap.size, 0, none⟩ = some (.int .i64 n) := by simp [hc1, hc2, hz1, go_sem]
  have q5 : w2.cell? ⟨w.heap.size + 1 + 1, 0, none⟩ = some (.int .i64 0) := by simp [hc1, hc2, hz1, go_sem]
  have q6 : w2.cell? ⟨w.heap.size + 1 + 1, 1, none⟩ = some (.int .u64 0) := by simp [hc1, hc2, hz1, go_sem]
  have p5 : w2.frozen? ⟨w.heap.size + 1 + 1, 0, none⟩ = false := by simp [hf1, hf2, hz1, go_sem]
  have p6 : w2.frozen? ⟨w.heap.size + 1 + 1, 1, none⟩ = false := by simp [hf1, hf2, hz1, go_sem]
  have hb := (below3 hb1).trans (hb2.mono (by omega))
  clear hc1 hc2 hf1 hf2 hz1 hb1 hb2
  go_region_held3 (fun w' => w'.cell? ⟨w.heap.size, 0, none⟩ = some (.int .i64 n)) (first | (go_keep; done) | (simp [go_sem]; done) | (simp [go_sem, *]; done))
    ((go_at_call 35; refine (ref_low _ _ _ R0.out (by omega) h2).mono ?_; rintro e w' ⟨rfl, rfl⟩))
  go_wp2
  refine bodyPost_ret (v := .tuple #[.agg #[.int .i64 n, .int .u64 (low n (IntKind.u64.wrap (a - b)))], .int .i64 0]) (by simp [results, Try.results12, go_sem, q5, q6]) rfl ⟨rfl, ?_⟩
  exact (hb.drew.setCell (by simp; omega) _).setCell (by simp; omega) _

set_option maxRecDepth 100000 in
set_option maxHeartbeats 400000 in
theorem rbin_4_ge (n a b : Int) (w : World) (a0 : 0 ≤ a) (b0 : 0 ≤ b) (ha : vB n a = true) (hb : vB n b = true) (hs : ¬ b < 64) :
    Calls Try.prog 12 #[.int .i64 4, .agg #[.int .i64 n, .int .u64 a], .agg #[.int .i64 n, .int .u64 b]] w fun e w' => e = .returned (.tuple #[.agg #[.int .i64 n, .int .u64 (low n (IntKind.u64.wrap (a * b)))], .int .i64 0]) ∧ Below w.heap.size w w' := by
  obtain ⟨h1, h2, _⟩ := vB_true ha
  have R0 := Lib.hid (wrap_range (a * b)).1
  have A0 := Lib.hid a0
  have B0 := Lib.hid b0
  clear a0 b0
  have HA := Lib.hid ha
  have HB := Lib.hid hb
  clear ha hb
  go_enter Try.func12, Try.ntmps12
  go_wp2_with fail
  refine (ref_valid_yes n a _ HA.out A0.out).mono ?_
  rintro e w1 ⟨rfl, hb1⟩
  obtain ⟨hc1, hf1⟩ := bcell hb1
  have hz1 : w.heap.size < w1.heap.size ∧ w.heap.size + 1 < w1.heap.size ∧ w.heap.size + 1 + 1 < w1.heap.size := by have hs := hb1.size; simp at hs; omega
  go_wp2_with fail
  refine (ref_valid_yes n b _ HB.out B0.out).mono ?_
  rintro e w2 ⟨rfl, hb2⟩
  obtain ⟨hc2, hf2⟩ := bcell hb2
  have hz2 : w.heap.size < w2.heap.size ∧ w.heap.size + 1 < w2.heap.size ∧ w.heap.size + 1 + 1 < w2.heap.size := by have hs := hb2.size; omega
  go_wp2_with fail
  refine (oper_any 4 _ true (by decide)).mono ?_
  rintro e w0 ⟨rfl, hw0⟩
  rw [hw0]
  clear hw0 w0
  go_wp2
  have q1 : w2.cell? ⟨w.heap.size, 0, none⟩ = some (.int .i64 n) := by simp [hc1, hc2, hz1, go_sem]
  have q5 : w2.cell? ⟨w.heap.size + 1 + 1, 0, none⟩ = some (.int .i64 0) := by simp [hc1, hc2, hz1, go_sem]
  have q6 : w2.cell? ⟨w.heap.size + 1 + 1, 1, none⟩ = some (.int .u64 0) := by simp [hc1, hc2, hz1, go_sem]
  have p5 : w2.frozen? ⟨w.heap.size + 1 + 1, 0, none⟩ = false := by simp [hf1, hf2, hz1, go_sem]
  have p6 : w2.frozen? ⟨w.heap.size + 1 + 1, 1, none⟩ = false := by simp [hf1, hf2, hz1, go_sem]
  have hb := (below3 hb1).trans (hb2.mono (by omega))
  clear hc1 hc2 hf1 hf2 hz1 hb1 hb2
  go_region_held3 (fun w' => w'.cell? ⟨w.heap.size, 0, none⟩ = some (.int .i64 n)) (first | (go_keep; done) | (simp [go_sem]; done) | (simp [go_sem, *]; done))
    ((go_at_call 35; refine (ref_low _ _ _ R0.out (by omega) h2).mono ?_; rintro e w' ⟨rfl, rfl⟩))
  go_wp2
  refine bodyPost_ret (v := .tuple #[.agg #[.int .i64 n, .int .u64 (low n (IntKind.u64.wrap (a * b)))], .int .i64 0]) (by simp [results, Try.results12, go_sem, q5, q6]) rfl ⟨rfl, ?_⟩
  exact (hb.drew.setCell (by simp; omega) _).setCell (by simp; omega) _

set_option maxRecDepth 100000 in
set_option maxHeartbeats 400000 in
theorem rbin_7_ge (n a b : Int) (w : World) (a0 : 0 ≤ a) (b0 : 0 ≤ b) (ha : vB n a = true) (hb : vB n b = true) (hs : ¬ b < 64) :
    Calls Try.prog 12 #[.int .i64 7, .agg #[.int .i64 n, .int .u64 a], .agg #[.int .i64 n, .int .u64 b]] w fun e w' => e = .returned (.tuple #[.agg #[.int .i64 n, .int .u64 (low n (bits .and .u64 a b))], .int .i64 0]) ∧ Below w.heap.size w w' := by
  obtain ⟨h1, h2, _⟩ := vB_true ha
  have R0 := Lib.hid (bits_range .and a b).1
  have A0 := Lib.hid a0
  have B0 := Lib.hid b0
  clear a0 b0
  have HA := Lib.hid ha
  have HB := Lib.hid hb
  clear ha hb
  go_enter Try.func12, Try.ntmps12
  go_wp2_with fail
  refine (ref_valid_yes n a _ HA.out A0.out).mono ?_
  rintro e w1 ⟨rfl, hb1⟩
  obtain ⟨hc1, hf1⟩ := bcell hb1
  have hz1 : w.heap.size < w1.heap.size ∧ w.heap.size + 1 < w1.heap.size ∧ w.heap.size + 1 + 1 < w1.heap.size := by have hs := hb1.size; simp at hs; omega
  go_wp2_with fail
  refine (ref_valid_yes n b _ HB.out B0.out).mono ?_
  rintro e w2 ⟨rfl, hb2⟩
  obtain ⟨hc2, hf2⟩ := bcell hb2
  have hz2 : w.heap.size < w2.heap.size ∧ w.heap.size + 1 < w2.heap.size ∧ w.heap.size + 1 + 1 < w2.heap.size := by have hs := hb2.size; omega
  go_wp2_with fail
  refine (oper_any 7 _ true (by decide)).mono ?_
  rintro e w0 ⟨rfl, hw0⟩
  rw [hw0]
  clear hw0 w0
  go_wp2
  have q1 : w2.cell? ⟨w.heap.size, 0, none⟩ = some (.int .i64 n) := by simp [hc1, hc2, hz1, go_sem]
  have q5 : w2.cell? ⟨w.heap.size + 1 + 1, 0, none⟩ = some (.int .i64 0) := by simp [hc1, hc2, hz1, go_sem]
  have q6 : w2.cell? ⟨w.heap.size + 1 + 1, 1, none⟩ = some (.int .u64 0) := by simp [hc1, hc2, hz1, go_sem]
  have p5 : w2.frozen? ⟨w.heap.size + 1 + 1, 0, none⟩ = false := by simp [hf1, hf2, hz1, go_sem]
  have p6 : w2.frozen? ⟨w.heap.size + 1 + 1, 1, none⟩ = false := by simp [hf1, hf2, hz1, go_sem]
  have hb := (below3 hb1).trans (hb2.mono (by omega))
  clear hc1 hc2 hf1 hf2 hz1 hb1 hb2
  go_region_held3 (fun w' => w'.cell? ⟨w.heap.size, 0, none⟩ = some (.int .i64 n)) (first | (go_keep; done) | (simp [go_sem]; done) | (simp [go_sem, *]; done))
    ((go_at_call 35; refine (ref_low _ _ _ R0.out (by omega) h2).mono ?_; rintro e w' ⟨rfl, rfl⟩))
  go_wp2
  refine bodyPost_ret (v := .tuple #[.agg #[.int .i64 n, .int .u64 (low n (bits .and .u64 a b))], .int .i64 0]) (by simp [results, Try.results12, go_sem, q5, q6]) rfl ⟨rfl, ?_⟩
  exact (hb.drew.setCell (by simp; omega) _).setCell (by simp; omega) _

set_option maxRecDepth 100000 in
set_option maxHeartbeats 400000 in
theorem rbin_8_ge (n a b : Int) (w : World) (a0 : 0 ≤ a) (b0 : 0 ≤ b) (ha : vB n a = true) (hb : vB n b = true) (hs : ¬ b < 64) :
    Calls Try.prog 12 #[.int .i64 8, .agg #[.int .i64 n, .int .u64 a], .agg #[.int .i64 n, .int .u64 b]] w fun e w' => e = .returned (.tuple #[.agg #[.int .i64 n, .int .u64 (low n (bits .or .u64 a b))], .int .i64 0]) ∧ Below w.heap.size w w' := by
  obtain ⟨h1, h2, _⟩ := vB_true ha
  have R0 := Lib.hid (bits_range .or a b).1
  have A0 := Lib.hid a0
  have B0 := Lib.hid b0
  clear a0 b0
  have HA := Lib.hid ha
  have HB := Lib.hid hb
  clear ha hb
  go_enter Try.func12, Try.ntmps12
  go_wp2_with fail
  refine (ref_valid_yes n a _ HA.out A0.out).mono ?_
  rintro e w1 ⟨rfl, hb1⟩
  obtain ⟨hc1, hf1⟩ := bcell hb1
  have hz1 : w.heap.size < w1.heap.size ∧ w.heap.size + 1 < w1.heap.size ∧ w.heap.size + 1 + 1 < w1.heap.size := by have hs := hb1.size; simp at hs; omega
  go_wp2_with fail
  refine (ref_valid_yes n b _ HB.out B0.out).mono ?_
  rintro e w2 ⟨rfl, hb2⟩
  obtain ⟨hc2, hf2⟩ := bcell hb2
  have hz2 : w.heap.size < w2.heap.size ∧ w.heap.size + 1 < w2.heap.size ∧ w.heap.size + 1 + 1 < w2.heap.size := by have hs := hb2.size; omega
  go_wp2_with fail
  refine (oper_any 8 _ true (by decide)).mono ?_
  rintro e w0 ⟨rfl, hw0⟩
  rw [hw0]
  clear hw0 w0
  go_wp2
  have q1 : w2.cell? ⟨w.heap.size, 0, none⟩ = some (.int .i64 n) := by simp [hc1, hc2, hz1, go_sem]
  have q5 : w2.cell? ⟨w.heap.size + 1 + 1, 0, none⟩ = some (.int .i64 0) := by simp [hc1, hc2, hz1, go_sem]
  have q6 : w2.cell? ⟨w.heap.size + 1 + 1, 1, none⟩ = some (.int .u64 0) := by simp [hc1, hc2, hz1, go_sem]
  have p5 : w2.frozen? ⟨w.heap.size + 1 + 1, 0, none⟩ = false := by simp [hf1, hf2, hz1, go_sem]
  have p6 : w2.frozen? ⟨w.heap.size + 1 + 1, 1, none⟩ = false := by simp [hf1, hf2, hz1, go_sem]
  have hb := (below3 hb1).trans (hb2.mono (by omega))
  clear hc1 hc2 hf1 hf2 hz1 hb1 hb2
  go_region_held3 (fun w' => w'.cell? ⟨w.heap.size, 0, none⟩ = some (.int .i64 n)) (first | (go_keep; done) | (simp [go_sem]; done) | (simp [go_sem, *]; done))
    ((go_at_call 35; refine (ref_low _ _ _ R0.out (by omega) h2).mono ?_; rintro e w' ⟨rfl, rfl⟩))
  go_wp2
  refine bodyPost_ret (v := .tuple #[.agg #[.int .i64 n, .int .u64 (low n (bits .or .u64 a b))], .int .i64 0]) (by simp [results, Try.results12, go_sem, q5, q6]) rfl ⟨rfl, ?_⟩
  exact (hb.drew.setCell (by simp; omega) _).setCell (by simp; omega) _

set_option maxRecDepth 100000 in
set_option maxHeartbeats 400000 in
theorem rbin_9_ge (n a b : Int) (w : World) (a0 : 0 ≤ a) (b0 : 0 ≤ b) (ha : vB n a = true) (hb : vB n b = true) (hs : ¬ b < 64) :
    Calls Try.prog 12 #[.int .i64 9, .agg #[.int .i64 n, .int .u64 a], .agg #[.int .i64 n, .int .u64 b]] w fun e w' => e = .returned (.tuple #[.agg #[.int .i64 n, .int .u64 (low n (bits .xor .u64 a b))], .int .i64 0]) ∧ Below w.heap.size w w' := by
  obtain ⟨h1, h2, _⟩ := vB_true ha
  have R0 := Lib.hid (bits_range .xor a b).1
  have A0 := Lib.hid a0
  have B0 := Lib.hid b0
  clear a0 b0
  have HA := Lib.hid ha
  have HB := Lib.hid hb
  clear ha hb
  go_enter Try.func12, Try.ntmps12
  go_wp2_with fail
  refine (ref_valid_yes n a _ HA.out A0.out).mono ?_
  rintro e w1 ⟨rfl, hb1⟩
  obtain ⟨hc1, hf1⟩ := bcell hb1
  have hz1 : w.heap.size < w1.heap.size ∧ w.heap.size + 1 < w1.heap.size ∧ w.heap.size + 1 + 1 < w1.heap.size := by have hs := hb1.size; simp at hs; omega
  go_wp2_with fail
  refine (ref_valid_yes n b _ HB.out B0.out).mono ?_
  rintro e w2 ⟨rfl, hb2⟩
  obtain ⟨hc2, hf2⟩ := bcell hb2
  have hz2 : w.heap.size < w2.heap.size ∧ w.heap.size + 1 < w2.heap.size ∧ w.heap.size + 1 + 1 < w2.heap.size := by have hs := hb2.size; omega
  go_wp2_with fail
  refine (oper_any 9 _ true (by decide)).mono ?_
  rintro e w0 ⟨rfl, hw0⟩
  rw [hw0]
  clear hw0 w0
  go_wp2
  have q1 : w2.cell? ⟨w.heap.size, 0, none⟩ = some (.int .i64 n) := by simp [hc1, hc2, hz1, go_sem]
  have q5 : w2.cell? ⟨w.heap.size + 1 + 1, 0, none⟩ = some (.int .i64 0) := by simp [hc1, hc2, hz1, go_sem]
  have q6 : w2.cell? ⟨w.heap.size + 1 + 1, 1, none⟩ = some (.int .u64 0) := by simp [hc1, hc2, hz1, go_sem]
  have p5 : w2.frozen? ⟨w.heap.size + 1 + 1, 0, none⟩ = false := by simp [hf1, hf2, hz1, go_sem]
  have p6 : w2.frozen? ⟨w.heap.size + 1 + 1, 1, none⟩ = false := by simp [hf1, hf2, hz1, go_sem]
  have hb := (below3 hb1).trans (hb2.mono (by omega))
  clear hc1 hc2 hf1 hf2 hz1 hb1 hb2
  go_region_held3 (fun w' => w'.cell? ⟨w.heap.size, 0, none⟩ = some (.int .i64 n)) (first | (go_keep; done) | (simp [go_sem]; done) | (simp [go_sem, *]; done))
    ((go_at_call 35; refine (ref_low _ _ _ R0.out (by omega) h2).mono ?_; rintro e w' ⟨rfl, rfl⟩))
  go_wp2
  refine bodyPost_ret (v := .tuple #[.agg #[.int .i64 n, .int .u64 (low n (bits .xor .u64 a b))], .int .i64 0]) (by simp [results, Try.results12, go_sem, q5, q6]) rfl ⟨rfl, ?_⟩
  exact (hb.drew.setCell (by simp; omega) _).setCell (by simp; omega) _

set_option maxRecDepth 100000 in
set_option maxHeartbeats 400000 in
theorem rbin_5_lt (n a b : Int) (w : World) (a0 : 0 ≤ a) (b0 : 0 ≤ b) (ha : vB n a = true) (hb : vB n b = true) (hs : b < 64) (hb1 : 1 ≤ b) :
    Calls Try.prog 12 #[.int .i64 5, .agg #[.int .i64 n, .int .u64 a], .agg #[.int .i64 n, .int .u64 b]] w fun e w' => e = .returned (.tuple #[.agg #[.int .i64 n, .int .u64 (low n (a / b))], .int .i64 0]) ∧ Below w.heap.size w w' := by
  obtain ⟨h1, h2, _⟩ := vB_true ha
  have hz0 : ¬ b = 0 := by omega
  have hz1 : 0 < b := by omega
  have ht : IntKind.u64.wrap (a.tdiv b) = a / b := IntWalk.u64_quo a b ⟨a0, by have := val_lt ha; omega, hb1⟩
  have R0 := Lib.hid (show 0 ≤ a / b from Int.ediv_nonneg a0 b0)
  have A0 := Lib.hid a0
  have B0 := Lib.hid b0
  clear a0 b0
  have HA := Lib.hid ha
  have HB := Lib.hid hb
  clear ha hb
  go_enter Try.func12, Try.ntmps12
  go_wp2_with fail
  refine (ref_valid_yes n a _ HA.out A0.out).mono ?_
  rintro e w1 ⟨rfl, hb1⟩
  obtain ⟨hc1, hf1⟩ := bcell hb1
  have hz1 : w.heap.size < w1.heap.size ∧ w.heap.size + 1 < w1.heap.size ∧ w.heap.size + 1 + 1 < w1.heap.size := by have hs := hb1.size; simp at hs; omega
  go_wp2_with fail
  refine (ref_valid_yes n b _ HB.out B0.out).mono ?_
  rintro e w2 ⟨rfl, hb2⟩
  obtain ⟨hc2, hf2⟩ := bcell hb2
  have hz2 : w.heap.size < w2.heap.size ∧ w.heap.size + 1 < w2.heap.size ∧ w.heap.size + 1 + 1 < w2.heap.size := by have hs := hb2.size; omega
  go_wp2_with fail
  refine (oper_any 5 _ true (by decide)).mono ?_
  rintro e w0 ⟨rfl, hw0⟩
  rw [hw0]
  clear hw0 w0
  go_wp2
  have q1 : w2.cell? ⟨w.heap.size, 0, none⟩ = some (.int .i64 n) := by simp [hc1, hc2, hz1, go_sem]
  have q5 : w2.cell? ⟨w.heap.size + 1 + 1, 0, none⟩ = some (.int .i64 0) := by simp [hc1, hc2, hz1, go_sem]
  have q6 : w2.cell? ⟨w.heap.size + 1 + 1, 1, none⟩ = some (.int .u64 0) := by simp [hc1, hc2, hz1, go_sem]
  have p5 : w2.frozen? ⟨w.heap.size + 1 + 1, 0, none⟩ = false := by simp [hf1, hf2, hz1, go_sem]
  have p6 : w2.frozen? ⟨w.heap.size + 1 + 1, 1, none⟩ = false := by simp [hf1, hf2, hz1, go_sem]
  have hb := (below3 hb1).trans (hb2.mono (by omega))
  clear hc1 hc2 hf1 hf2 hz1 hb1 hb2
  go_region_held3 (fun w' => w'.cell? ⟨w.heap.size, 0, none⟩ = some (.int .i64 n)) (first | (go_keep; done) | (simp [go_sem]; done) | (simp [go_sem, *]; done))
    ((go_at_call 35; refine (ref_low _ _ _ R0.out (by omega) h2).mono ?_; rintro e w' ⟨rfl, rfl⟩))
  go_wp2
  refine bodyPost_ret (v := .tuple #[.agg #[.int .i64 n, .int .u64 (low n (a / b))], .int .i64 0]) (by simp [results, Try.results12, go_sem, q5, q6]) rfl ⟨rfl, ?_⟩
  exact (hb.drew.setCell (by simp; omega) _).setCell (by simp; omega) _

set_option maxRecDepth 100000 in
set_option maxHeartbeats 400000 in
theorem rbin_6_lt (n a b : Int) (w : World) (a0 : 0 ≤ a) (b0 : 0 ≤ b) (ha : vB n a = true) (hb : vB n b = true) (hs : b < 64) (hb1 : 1 ≤ b) :
    Calls Try.prog 12 #[.int .i64 6, .agg #[.int .i64 n, .int .u64 a], .agg #[.int .i64 n, .int .u64 b]] w fun e w' => e = .returned (.tuple #[.agg #[.int .i64 n, .int .u64 (low n (a % b))], .int .i64 0]) ∧ Below w.heap.size w w' := by
  obtain ⟨h1, h2, _⟩ := vB_true ha
  have hz0 : ¬ b = 0 := by omega
  have hz1 : 0 < b := by omega
  have ht : a.tmod b = a % b := Int.tmod_eq_emod_of_nonneg a0
  have R0 := Lib.hid (show 0 ≤ a % b from Int.emod_nonneg _ (by omega))
  have A0 := Lib.hid a0
  have B0 := Lib.hid b0
  clear a0 b0
  have HA := Lib.hid ha
  have HB := Lib.hid hb
  clear ha hb
  go_enter Try.func12, Try.ntmps12
  go_wp2_with fail
  refine (ref_valid_yes n a _ HA.out A0.out).mono ?_
  rintro e w1 ⟨rfl, hb1⟩
  obtain ⟨hc1, hf1⟩ := bcell hb1
  have hz1 : w.heap.size < w1.heap.size ∧ w.heap.size + 1 < w1.heap.size ∧ w.heap.size + 1 + 1 < w1.heap.size := by have hs := hb1.size; simp at hs; omega
  go_wp2_with fail
  refine (ref_valid_yes n b _ HB.out B0.out).mono ?_
  rintro e w2 ⟨rfl, hb2⟩
  obtain ⟨hc2, hf2⟩ := bcell hb2
  have hz2 : w.heap.size < w2.heap.size ∧ w.heap.size + 1 < w2.heap.size ∧ w.heap.size + 1 + 1 < w2.heap.size := by have hs := hb2.size; omega
  go_wp2_with fail
  refine (oper_any 6 _ true (by decide)).mono ?_
  rintro e w0 ⟨rfl, hw0⟩
  rw [hw0]
  clear hw0 w0
  go_wp2
  have q1 : w2.cell? ⟨w.heap.size, 0, none⟩ = some (.int .i64 n) := by simp [hc1, hc2, hz1, go_sem]
  have q5 : w2.cell? ⟨w.heap.size + 1 + 1, 0, none⟩ = some (.int .i64 0) := by simp [hc1, hc2, hz1, go_sem]
  have q6 : w2.cell? ⟨w.heap.size + 1 + 1, 1, none⟩ = some (.int .u64 0) := by simp [hc1, hc2, hz1, go_sem]
  have p5 : w2.frozen? ⟨w.heap.size + 1 + 1, 0, none⟩ = false := by simp [hf1, hf2, hz1, go_sem]
  have p6 : w2.frozen? ⟨w.heap.size + 1 + 1, 1, none⟩ = false := by simp [hf1, hf2, hz1, go_sem]
  have hb := (below3 hb1).trans (hb2.mono (by omega))
  clear hc1 hc2 hf1 hf2 hz1 hb1 hb2
  go_region_held3 (fun w' => w'.cell? ⟨w.heap.size, 0, none⟩ = some (.int .i64 n)) (first | (go_keep; done) | (simp [go_sem]; done) | (simp [go_sem, *]; done))
    ((go_at_call 35; refine (ref_low _ _ _ R0.out (by omega) h2).mono ?_; rintro e w' ⟨rfl, rfl⟩))
  go_wp2
  refine bodyPost_ret (v := .tuple #[.agg #[.int .i64 n, .int .u64 (low n (a % b))], .int .i64 0]) (by simp [results, Try.results12, go_sem, q5, q6]) rfl ⟨rfl, ?_⟩
  exact (hb.drew.setCell (by simp; omega) _).setCell (by simp; omega) _

set_option maxRecDepth 100000 in
set_option maxHeartbeats 400000 in
theorem rbin_5_ge (n a b : Int) (w : World) (a0 : 0 ≤ a) (b0 : 0 ≤ b) (ha : vB n a = true) (hb : vB n b = true) (hs : ¬ b < 64) (hb1 : 1 ≤ b) :
    Calls Try.prog 12 #[.int .i64 5, .agg #[.int .i64 n, .int .u64 a], .agg #[.int .i64 n, .int .u64 b]] w fun e w' => e = .returned (.tuple #[.agg #[.int .i64 n, .int .u64 (low n (a / b))], .int .i64 0]) ∧ Below w.heap.size w w' := by
  obtain ⟨h1, h2, _⟩ := vB_true ha
  have hz0 : ¬ b = 0 := by omega
  have hz1 : 0 < b := by omega
  have ht : IntKind.u64.wrap (a.tdiv b) = a / b := IntWalk.u64_quo a b ⟨a0, by have := val_lt ha; omega, hb1⟩
  have R0 := Lib.hid (show 0 ≤ a / b from Int.ediv_nonneg a0 b0)
  have A0 := Lib.hid a0
  have B0 := Lib.hid b0
  clear a0 b0
  have HA := Lib.hid ha
  have HB := Lib.hid hb
  clear ha hb
  go_enter Try.func12, Try.ntmps12
  go_wp2_with fail
  refine (ref_valid_yes n a _ HA.out A0.out).mono ?_
  rintro e w1 ⟨rfl, hb1⟩
  obtain ⟨hc1, hf1⟩ := bcell hb1
  have hz1 : w.heap.size < w1.heap.size ∧ w.heap.size + 1 < w1.heap.size ∧ w.heap.size + 1 + 1 < w1.heap.size := by have hs := hb1.size; simp at hs; omega
  go_wp2_with fail
  refine (ref_valid_yes n b _ HB.out B0.out).mono ?_
  rintro e w2 ⟨rfl, hb2⟩
  obtain ⟨hc2, hf2⟩ := bcell hb2
  have hz2 : w.heap.size < w2.heap.size ∧ w.heap.size + 1 < w2.heap.size ∧ w.heap.size + 1 + 1 < w2.heap.size := by have hs := hb2.size; omega
  go_wp2_with fail
  refine (oper_any 5 _ true (by decide)).mono ?_
  rintro e w0 ⟨rfl, hw0⟩
  rw [hw0]
  clear hw0 w0
  go_wp2
  have q1 : w2.cell? ⟨w.heap.size, 0, none⟩ = some (.int .i64 n) := by simp [hc1, hc2, hz1, go_sem]
  have q5 : w2.cell? ⟨w.heap.size + 1 + 1, 0, none⟩ = some (.int .i64 0) := by simp [hc1, hc2, hz1, go_sem]
  have q6 : w2.cell? ⟨w.heap.size + 1 + 1, 1, none⟩ = some (.int .u64 0) := by simp [hc1, hc2, hz1, go_sem]
  have p5 : w2.frozen? ⟨w.heap.size + 1 + 1, 0, none⟩ = false := by simp [hf1, hf2, hz1, go_sem]
  have p6 : w2.frozen? ⟨w.heap.size + 1 + 1, 1, none⟩ = false := by simp [hf1, hf2, hz1, go_sem]
  have hb := (below3 hb1).trans (hb2.mono (by omega))
  clear hc1 hc2 hf1 hf2 hz1 hb1 hb2
  go_region_held3 (fun w' => w'.cell? ⟨w.heap.size, 0, none⟩ = some (.int .i64 n)) (first | (go_keep; done) | (simp [go_sem]; done) | (simp [go_sem, *]; done))
    ((go_at_call 35; refine (ref_low _ _ _ R0.out (by omega) h2).mono ?_; rintro e w' ⟨rfl, rfl⟩))
  go_wp2
  refine bodyPost_ret (v := .tuple #[.agg #[.int .i64 n, .int .u64 (low n (a / b))], .int .i64 0]) (by simp [results, Try.results12, go_sem, q5, q6]) rfl ⟨rfl, ?_⟩
  exact (hb.drew.setCell (by simp; omega) _).setCell (by simp; omega) _

set_option maxRecDepth 100000 in
set_option maxHeartbeats 400000 in
theorem rbin_6_ge (n a b : Int) (w : World) (a0 : 0 ≤ a) (b0 : 0 ≤ b) (ha : vB n a = true) (hb : vB n b = true) (hs : ¬ b < 64) (_hb1 : 1 ≤ b) :
    Calls Try.prog 12 #[.int .i64 6, .agg #[.int .i64 n, .int .u64 a], .agg #[.int .i64 n, .int .u64 b]] w fun e w' => e = .returned (.tuple #[.agg #[.int .i64 n, .int .u64 (low n (a % b))], .int .i64 0]) ∧ Below w.heap.size w w' := by
  obtain ⟨h1, h2, _⟩ := vB_true ha
  have hz0 : ¬ b = 0 := by omega
  have hz1 : 0 < b := by omega
  have ht : a.tmod b = a % b := Int.tmod_eq_emod_of_nonneg a0
  have R0 := Lib.hid (show 0 ≤ a % b from Int.emod_nonneg _ (by omega))
  have A0 := Lib.hid a0
  have B0 := Lib.hid b0
  clear a0 b0
  have HA := Lib.hid ha
  have HB := Lib.hid hb
  clear ha hb
  go_enter Try.func12, Try.ntmps12
  go_wp2_with fail
  refine (ref_valid_yes n a _ HA.out A0.out).mono ?_
  rintro e w1 ⟨rfl, hb1⟩
  obtain ⟨hc1, hf1⟩ := bcell hb1
  have hz1 : w.heap.size < w1.heap.size ∧ w.heap.size + 1 < w1.heap.size ∧ w.heap.size + 1 + 1 < w1.heap.size := by have hs := hb1.size; simp at hs; omega
  go_wp2_with fail
  refine (ref_valid_yes n b _ HB.out B0.out).mono ?_
  rintro e w2 ⟨rfl, hb2⟩
  obtain ⟨hc2, hf2⟩ := bcell hb2
  have hz2 : w.heap.size < w2.heap.size ∧ w.heap.size + 1 < w2.heap.size ∧ w.heap.size + 1 + 1 < w2.heap.size := by have hs := hb2.size; omega
  go_wp2_with fail
  refine (oper_any 6 _ true (by decide)).mono ?_
  rintro e w0 ⟨rfl, hw0⟩
  rw [hw0]
  clear hw0 w0
  go_wp2
  have q1 : w2.cell? ⟨w.heap.size, 0, none⟩ = some (.int .i64 n) := by simp [hc1, hc2, hz1, go_sem]
  have q5 : w2.cell? ⟨w.heap.size + 1 + 1, 0, none⟩ = some (.int .i64 0) := by simp [hc1, hc2, hz1, go_sem]
  have q6 : w2.cell? ⟨w.heap.size + 1 + 1, 1, none⟩ = some (.int .u64 0) := by simp [hc1, hc2, hz1, go_sem]
  have p5 : w2.frozen? ⟨w.heap.size + 1 + 1, 0, none⟩ = false := by simp [hf1, hf2, hz1, go_sem]
  have p6 : w2.frozen? ⟨w.heap.size + 1 + 1, 1, none⟩ = false := by simp [hf1, hf2, hz1, go_sem]
  have hb := (below3 hb1).trans (hb2.mono (by omega))
  clear hc1 hc2 hf1 hf2 hz1 hb1 hb2
  go_region_held3 (fun w' => w'.cell? ⟨w.heap.size, 0, none⟩ = some (.int .i64 n)) (first | (go_keep; done) | (simp [go_sem]; done) | (simp [go_sem, *]; done))
    ((go_at_call 35; refine (ref_low _ _ _ R0.out (by omega) h2).mono ?_; rintro e w' ⟨rfl, rfl⟩))
  go_wp2
  refine bodyPost_ret (v := .tuple #[.agg #[.int .i64 n, .int .u64 (low n (a % b))], .int .i64 0]) (by simp [results, Try.results12, go_sem, q5, q6]) rfl ⟨rfl, ?_⟩
  exact (hb.drew.setCell (by simp; omega) _).setCell (by simp; omega) _

set_option maxRecDepth 100000 in
set_option maxHeartbeats 400000 in
theorem rbin_5_zero (n a : Int) (w : World) (a0 : 0 ≤ a) (ha : vB n a = true) (hb : vB n 0 = true)  :
    Calls Try.prog 12 #[.int .i64 5, .agg #[.int .i64 n, .int .u64 a], .agg #[.int .i64 n, .int .u64 0]] w fun e w' => e = .returned (.tuple #[.agg #[.int .i64 n, .int .u64 (low n 18446744073709551615)], .int .i64 0]) ∧ Below w.heap.size w w' := by
  obtain ⟨h1, h2, _⟩ := vB_true ha
  have R0 := Lib.hid (show (0 : Int) ≤ 18446744073709551615 by decide)
  have A0 := Lib.hid a0
  clear a0
  have HA := Lib.hid ha
  have HB := Lib.hid hb
  clear ha hb
  go_enter Try.func12, Try.ntmps12
  go_wp2_with fail
  refine (ref_valid_yes n a _ HA.out A0.out).mono ?_
  rintro e w1 ⟨rfl, hb1⟩
  obtain ⟨hc1, hf1⟩ := bcell hb1
  have hz1 : w.heap.size < w1.heap.size ∧ w.heap.size + 1 < w1.heap.size ∧ w.heap.size + 1 + 1 < w1.heap.size := by have hs := hb1.size; simp at hs; omega
  go_wp2_with fail
  refine (ref_valid_yes n 0 _ HB.out (by decide)).mono ?_
  rintro e w2 ⟨rfl, hb2⟩
  obtain ⟨hc2, hf2⟩ := bcell hb2
  have hz2 : w.heap.size < w2.heap.size ∧ w.heap.size + 1 < w2.heap.size ∧ w.heap.size + 1 + 1 < w2.heap.size := by have hs := hb2.size; omega
  go_wp2_with fail
  refine (oper_any 5 _ true (by decide)).mono ?_
  rintro e w0 ⟨rfl, hw0⟩
  rw [hw0]
  clear hw0 w0
  go_wp2
  have q1 : w2.cell? ⟨w.heap.size, 0, none⟩ = some (.int .i64 n) := by simp [hc1, hc2, hz1, go_sem]
  have q5 : w2.cell? ⟨w.heap.size + 1 + 1, 0, none⟩ = some (.int .i64 0) := by simp [hc1, hc2, hz1, go_sem]
  have q6 : w2.cell? ⟨w.heap.size + 1 + 1, 1, none⟩ = some (.int .u64 0) := by simp [hc1, hc2, hz1, go_sem]
  have p5 : w2.frozen? ⟨w.heap.size + 1 + 1, 0, none⟩ = false := by simp [hf1, hf2, hz1, go_sem]
  have p6 : w2.frozen? ⟨w.heap.size + 1 + 1, 1, none⟩ = false := by simp [hf1, hf2, hz1, go_sem]
  have hb := (below3 hb1).trans (hb2.mono (by omega))
  clear hc1 hc2 hf1 hf2 hz1 hb1 hb2
  go_region_held3 (fun w' => w'.cell? ⟨w.heap.size, 0, none⟩ = some (.int .i64 n)) (first | (go_keep; done) | (simp [go_sem]; done) | (simp [go_sem, *]; done))
    ((go_at_call 35; refine (ref_low _ _ _ R0.out (by omega) h2).mono ?_; rintro e w' ⟨rfl, rfl⟩))
  go_wp2
  refine bodyPost_ret (v := .tuple #[.agg #[.int .i64 n, .int .u64 (low n 18446744073709551615)], .int .i64 0]) (by simp [results, Try.results12, go_sem, q5, q6]) rfl ⟨rfl, ?_⟩
  exact (hb.drew.setCell (by simp; omega) _).setCell (by simp; omega) _

set_option maxRecDepth 100000 in
set_option maxHeartbeats 400000 in
theorem rbin_6_zero (n a : Int) (w : World) (a0 : 0 ≤ a) (ha : vB n a = true) (hb : vB n 0 = true)  :
    Calls Try.prog 12 #[.int .i64 6, .agg #[.int .i64 n, .int .u64 a], .agg #[.int .i64 n, .int .u64 0]] w fun e w' => e = .returned (.tuple #[.agg #[.int .i64 n, .int .u64 (low n a)], .int .i64 0]) ∧ Below w.heap.size w w' := by
  obtain ⟨h1, h2, _⟩ := vB_true ha
  have R0 := Lib.hid a0
  have A0 := Lib.hid a0
  clear a0
  have HA := Lib.hid ha
  have HB := Lib.hid hb
  clear ha hb
  go_enter Try.func12, Try.ntmps12
  go_wp2_with fail
  refine (ref_valid_yes n a _ HA.out A0.out).mono ?_
  rintro e w1 ⟨rfl, hb1⟩
  obtain ⟨hc1, hf1⟩ := bcell hb1
  have hz1 : w.heap.size < w1.heap.size ∧ w.heap.size + 1 < w1.heap.size ∧ w.heap.size + 1 + 1 < w1.heap.size := by have hs := hb1.size; simp at hs; omega
  go_wp2_with fail
  refine (ref_valid_yes n 0 _ HB.out (by decide)).mono ?_
  rintro e w2 ⟨rfl, hb2⟩
  obtain ⟨hc2, hf2⟩ := bcell hb2
  have hz2 : w.heap.size < w2.heap.size ∧ w.heap.size + 1 < w2.heap.size ∧ w.heap.size + 1 + 1 < w2.heap.size := by have hs := hb2.size; omega
  go_wp2_with fail
  refine (oper_any 6 _ true (by decide)).mono ?_
  rintro e w0 ⟨rfl, hw0⟩
  rw [hw0]
  clear hw0 w0
  go_wp2
  have q1 : w2.cell? ⟨w.heap.size, 0, none⟩ = some (.int .i64 n) := by simp [hc1, hc2, hz1, go_sem]
  have q5 : w2.cell? ⟨w.heap.size + 1 + 1, 0, none⟩ = some (.int .i64 0) := by simp [hc1, hc2, hz1, go_sem]
  have q6 : w2.cell? ⟨w.heap.size + 1 + 1, 1, none⟩ = some (.int .u64 0) := by simp [hc1, hc2, hz1, go_sem]
  have p5 : w2.frozen? ⟨w.heap.size + 1 + 1, 0, none⟩ = false := by simp [hf1, hf2, hz1, go_sem]
  have p6 : w2.frozen? ⟨w.heap.size + 1 + 1, 1, none⟩ = false := by simp [hf1, hf2, hz1, go_sem]
  have hb := (below3 hb1).trans (hb2.mono (by omega))
  clear hc1 hc2 hf1 hf2 hz1 hb1 hb2
  go_region_held3 (fun w' => w'.cell? ⟨w.heap.size, 0, none⟩ = some (.int .i64 n)) (first | (go_keep; done) | (simp [go_sem]; done) | (simp [go_sem, *]; done))
    ((go_at_call 35; refine (ref_low _ _ _ R0.out (by omega) h2).mono ?_; rintro e w' ⟨rfl, rfl⟩))
  go_wp2
  refine bodyPost_ret (v := .tuple #[.agg #[.int .i64 n, .int .u64 (low n a)], .int .i64 0]) (by simp [results, Try.results12, go_sem, q5, q6]) rfl ⟨rfl, ?_⟩
  exact (hb.drew.setCell (by simp; omega) _).setCell (by simp; omega) _

set_option maxRecDepth 100000 in
set_option maxHeartbeats 400000 in
theorem rbin_10_lt (n a b : Int) (w : World) (a0 : 0 ≤ a) (b0 : 0 ≤ b) (ha : vB n a = true) (hb : vB n b = true) (hs : b < 64) (T : Int) (T0 : 0 ≤ T) (T1 : low n T = T) (HT : Hid (∀ i : Int, 0 ≤ i → i < n → bitV T i = if 0 ≤ i - b ∧ i - b < n then bitV a (i - b) else 0)) :
    Calls Try.prog 12 #[.int .i64 10, .agg #[.int .i64 n, .int .u64 a], .agg #[.int .i64 n, .int .u64 b]] w fun e w' => e = .returned (.tuple #[.agg #[.int .i64 n, .int .u64 (low n T)], .int .i64 0]) ∧ Below w.heap.size w w' := by
  obtain ⟨h1, h2, _⟩ := vB_true ha
  have hbn : 0 ≤ b := b0
  have hbw : wrap64 b = b := IntWalk.wrap64_in b ⟨by omega, by omega⟩
  have hbv : wrap64 (-b) = -b := IntWalk.wrap64_in (-b) ⟨by omega, by omega⟩
  have HT1 := Lib.hid T1
  clear T1
  have R0 := Lib.hid T0
  have A0 := Lib.hid a0
  have B0 := Lib.hid b0
  clear a0 b0
  have HA := Lib.hid ha
  have HB := Lib.hid hb
  clear ha hb
  go_enter Try.func12, Try.ntmps12
  go_wp2_with fail
  refine (ref_valid_yes n a _ HA.out A0.out).mono ?_
  rintro e w1 ⟨rfl, hb1⟩
  obtain ⟨hc1, hf1⟩ := bcell hb1
  have hz1 : w.heap.size < w1.heap.size ∧ w.heap.size + 1 < w1.heap.size ∧ w.heap.size + 1 + 1 < w1.heap.size := by have hs := hb1.size; simp at hs; omega
  go_wp2_with fail
  refine (ref_valid_yes n b _ HB.out B0.out).mono ?_
  rintro e w2 ⟨rfl, hb2⟩
  obtain ⟨hc2, hf2⟩ := bcell hb2
  have hz2 : w.heap.size < w2.heap.size ∧ w.heap.size + 1 < w2.heap.size ∧ w.heap.size + 1 + 1 < w2.heap.size := by have hs := hb2.size; omega
  go_wp2_with fail
  refine (oper_any 10 _ true (by decide)).mono ?_
  rintro e w0 ⟨rfl, hw0⟩
  rw [hw0]
  clear hw0 w0
  go_wp2_with fail
  refine (move_any n a b T _ A0.out h1 h2 (by omega) (by omega) HT1.out HT.out).mono ?_
  rintro e w3 ⟨rfl, hb3⟩
  obtain ⟨hc3, hf3⟩ := bcell hb3
  have hz3 : w.heap.size < w3.heap.size ∧ w.heap.size + 1 < w3.heap.size ∧ w.heap.size + 1 + 1 < w3.heap.size := by have hs := hb3.size; omega
  go_wp2
  have q1 : w3.cell? ⟨w.heap.size, 0, none⟩ = some (.int .i64 n) := by simp [hc1, hc2, hc3, hz1, hz2, go_sem]
  have q5 : w3.cell? ⟨w.heap.size + 1 + 1, 0, none⟩ = some (.int .i64 0) := by simp [hc1, hc2, hc3, hz1, hz2, go_sem]
  have q6 : w3.cell? ⟨w.heap.size + 1 + 1, 1, none⟩ = some (.int .u64 0) := by simp [hc1, hc2, hc3, hz1, hz2, go_sem]
  have p5 : w3.frozen? ⟨w.heap.size + 1 + 1, 0, none⟩ = false := by simp [hf1, hf2, hf3, hz1, hz2, go_sem]
  have p6 : w3.frozen? ⟨w.heap.size + 1 + 1, 1, none⟩ = false := by simp [hf1, hf2, hf3, hz1, hz2, go_sem]
  have hb := ((below3 hb1).trans (hb2.mono (by omega))).trans (hb3.mono (by omega))
  clear hc1 hc2 hc3 hf1 hf2 hf3 hz1 hz2 hb1 hb2 hb3
  go_region_held3 (fun w' => w'.cell? ⟨w.heap.size, 0, none⟩ = some (.int .i64 n)) (first | (go_keep; done) | (simp [go_sem]; done) | (simp [go_sem, *]; done))
    ((go_at_call 35; refine (ref_low _ _ _ R0.out (by omega) h2).mono ?_; rintro e w' ⟨rfl, rfl⟩))
  go_wp2
  refine bodyPost_ret (v := .tuple #[.agg #[.int .i64 n, .int .u64 (low n T)], .int .i64 0]) (by simp [results, Try.results12, go_sem, q5, q6]) rfl ⟨rfl, ?_⟩
  exact (hb.drew.setCell (by simp; omega) _).setCell (by simp; omega) _

set_option maxRecDepth 100000 in
set_option maxHeartbeats 400000 in
theorem rbin_10_ge (n a b : Int) (w : World) (a0 : 0 ≤ a) (b0 : 0 ≤ b) (ha : vB n a = true) (hb : vB n b = true) (hs : ¬ b < 64) (T : Int) (T0 : 0 ≤ T) (T1 : low n T = T) (HT : Hid (∀ i : Int, 0 ≤ i → i < n → bitV T i = if 0 ≤ i - 64 ∧ i - 64 < n then bitV a (i - 64) else 0)) :
    Calls Try.prog 12 #[.int .i64 10, .agg #[.int .i64 n, .int .u64 a], .agg #[.int .i64 n, .int .u64 b]] w fun e w' => e = .returned (.tuple #[.agg #[.int .i64 n, .int .u64 (low n T)], .int .i64 0]) ∧ Below w.heap.size w w' := by
  obtain ⟨h1, h2, _⟩ := vB_true ha
  have HT1 := Lib.hid T1
  clear T1
  have R0 := Lib.hid T0
  have A0 := Lib.hid a0
  have B0 := Lib.hid b0
  clear a0 b0
  have HA := Lib.hid ha
  have HB := Lib.hid hb
  clear ha hb
  go_enter Try.func12, Try.ntmps12
  go_wp2_with fail
  refine (ref_valid_yes n a _ HA.out A0.out).mono ?_
  rintro e w1 ⟨rfl, hb1⟩
  obtain ⟨hc1, hf1⟩ := bcell hb1
  have hz1 : w.heap.size < w1.heap.size ∧ w.heap.size + 1 < w1.heap.size ∧ w.heap.size + 1 + 1 < w1.heap.size := by have hs := hb1.size; simp at hs; omega
  go_wp2_with fail
  refine (ref_valid_yes n b _ HB.out B0.out).mono ?_
  rintro e w2 ⟨rfl, hb2⟩
  obtain ⟨hc2, hf2⟩ := bcell hb2
  have hz2 : w.heap.size < w2.heap.size ∧ w.heap.size + 1 < w2.heap.size ∧ w.heap.size + 1 + 1 < w2.heap.size := by have hs := hb2.size; omega
  go_wp2_with fail
  refine (oper_any 10 _ true (by decide)).mono ?_
  rintro e w0 ⟨rfl, hw0⟩
  rw [hw0]
  clear hw0 w0
  go_wp2_with fail
  refine (move_any n a 64 T _ A0.out h1 h2 (by omega) (by omega) HT1.out HT.out).mono ?_
  rintro e w3 ⟨rfl, hb3⟩
  obtain ⟨hc3, hf3⟩ := bcell hb3
  have hz3 : w.heap.size < w3.heap.size ∧ w.heap.size + 1 < w3.heap.size ∧ w.heap.size + 1 + 1 < w3.heap.size := by have hs := hb3.size; omega
  go_wp2
  have q1 : w3.cell? ⟨w.heap.size, 0, none⟩ = some (.int .i64 n) := by simp [hc1, hc2, hc3, hz1, hz2, go_sem]
  have q5 : w3.cell? ⟨w.heap.size + 1 + 1, 0, none⟩ = some (.int .i64 0) := by simp [hc1, hc2, hc3, hz1, hz2, go_sem]
  have q6 : w3.cell? ⟨w.heap.size + 1 + 1, 1, none⟩ = some (.int .u64 0) := by simp [hc1, hc2, hc3, hz1, hz2, go_sem]
  have p5 : w3.frozen? ⟨w.heap.size + 1 + 1, 0, none⟩ = false := by simp [hf1, hf2, hf3, hz1, hz2, go_sem]
  have p6 : w3.frozen? ⟨w.heap.size + 1 + 1, 1, none⟩ = false := by simp [hf1, hf2, hf3, hz1, hz2, go_sem]
  have hb := ((below3 hb1).trans (hb2.mono (by omega))).trans (hb3.mono (by omega))
  clear hc1 hc2 hc3 hf1 hf2 hf3 hz1 hz2 hb1 hb2 hb3
  go_region_held3 (fun w' => w'.cell? ⟨w.heap.size, 0, none⟩ = some (.int .i64 n)) (first | (go_keep; done) | (simp [go_sem]; done) | (simp [go_sem, *]; done))
    ((go_at_call 35; refine (ref_low _ _ _ R0.out (by omega) h2).mono ?_; rintro e w' ⟨rfl, rfl⟩))
  go_wp2
  refine bodyPost_ret (v := .tuple #[.agg #[.int .i64 n, .int .u64 (low n T)], .int .i64 0]) (by simp [results, Try.results12, go_sem, q5, q6]) rfl ⟨rfl, ?_⟩
  exact (hb.drew.setCell (by simp; omega) _).setCell (by simp; omega) _

set_option maxRecDepth 100000 in
set_option maxHeartbeats 400000 in
theorem rbin_11_lt (n a b : Int) (w : World) (a0 : 0 ≤ a) (b0 : 0 ≤ b) (ha : vB n a = true) (hb : vB n b = true) (hs : b < 64) (T : Int) (T0 : 0 ≤ T) (T1 : low n T = T) (HT : Hid (∀ i : Int, 0 ≤ i → i < n → bitV T i = if 0 ≤ i - (-b) ∧ i - (-b) < n then bitV a (i - (-b)) else 0)) :
    Calls Try.prog 12 #[.int .i64 11, .agg #[.int .i64 n, .int .u64 a], .agg #[.int .i64 n, .int .u64 b]] w fun e w' => e = .returned (.tuple #[.agg #[.int .i64 n, .int .u64 (low n T)], .int .i64 0]) ∧ Below w.heap.size w w' := by
  obtain ⟨h1, h2, _⟩ := vB_true ha
  have hbn : 0 ≤ b := b0
  have hbw : wrap64 b = b := IntWalk.wrap64_in b ⟨by omega, by omega⟩
  have hbv : wrap64 (-b) = -b := IntWalk.wrap64_in (-b) ⟨by omega, by omega⟩
  have HT1 := Lib.hid T1
  clear T1
  have R0 := Lib.hid T0
  have A0 := Lib.hid a0
  have B0 := Lib.hid b0
  clear a0 b0
  have HA := Lib.hid ha
  have HB := Lib.hid hb
  clear ha hb
  go_enter Try.func12, Try.ntmps12
  go_wp2_with fail
  refine (ref_valid_yes n a _ HA.out A0.out).mono ?_
  rintro e w1 ⟨rfl, hb1⟩
  obtain ⟨hc1, hf1⟩ := bcell hb1
  have hz1 : w.heap.size < w1.heap.size ∧ w.heap.size + 1 < w1.heap.size ∧ w.heap.size + 1 + 1 < w1.heap.size := by have hs := hb1.size; simp at hs; omega
  go_wp2_with fail
  refine (ref_valid_yes n b _ HB.out B0.out).mono ?_
  rintro e w2 ⟨rfl, hb2⟩
  obtain ⟨hc2, hf2⟩ := bcell hb2
  have hz2 : w.heap.size < w2.heap.size ∧ w.heap.size + 1 < w2.heap.size ∧ w.heap.size + 1 + 1 < w2.heap.size := by have hs := hb2.size; omega
  go_wp2_with fail
  refine (oper_any 11 _ true (by decide)).mono ?_
  rintro e w0 ⟨rfl, hw0⟩
  rw [hw0]
  clear hw0 w0
  go_wp2_with fail
  refine (move_any n a (-b) T _ A0.out h1 h2 (by omega) (by omega) HT1.out HT.out).mono ?_
  rintro e w3 ⟨rfl, hb3⟩
  obtain ⟨hc3, hf3⟩ := bcell hb3
  have hz3 : w.heap.size < w3.heap.size ∧ w.heap.size + 1 < w3.heap.size ∧ w.heap.size + 1 + 1 < w3.heap.size := by have hs := hb3.size; omega
  go_wp2
  have q1 : w3.cell? ⟨w.heap.size, 0, none⟩ = some (.int .i64 n) := by simp [hc1, hc2, hc3, hz1, hz2, go_sem]
  have q5 : w3.cell? ⟨w.heap.size + 1 + 1, 0, none⟩ = some (.int .i64 0) := by simp [hc1, hc2, hc3, hz1, hz2, go_sem]
  have q6 : w3.cell? ⟨w.heap.size + 1 + 1, 1, none⟩ = some (.int .u64 0) := by simp [hc1, hc2, hc3, hz1, hz2, go_sem]
  have p5 : w3.frozen? ⟨w.heap.size + 1 + 1, 0, none⟩ = false := by simp [hf1, hf2, hf3, hz1, hz2, go_sem]
  have p6 : w3.frozen? ⟨w.heap.size + 1 + 1, 1, none⟩ = false := by simp [hf1, hf2, hf3, hz1, hz2, go_sem]
  have hb := ((below3 hb1).trans (hb2.mono (by omega))).trans (hb3.mono (by omega))
  clear hc1 hc2 hc3 hf1 hf2 hf3 hz1 hz2 hb1 hb2 hb3
  go_region_held3 (fun w' => w'.cell? ⟨w.heap.size, 0, none⟩ = some (.int .i64 n)) (first | (go_keep; done) | (simp [go_sem]; done) | (simp [go_sem, *]; done))
    ((go_at_call 35; refine (ref_low _ _ _ R0.out (by omega) h2).mono ?_; rintro e w' ⟨rfl, rfl⟩))
  go_wp2
  refine bodyPost_ret (v := .tuple #[.agg #[.int .i64 n, .int .u64 (low n T)], .int .i64 0]) (by simp [results, Try.results12, go_sem, q5, q6]) rfl ⟨rfl, ?_⟩
  exact (hb.drew.setCell (by simp; omega) _).setCell (by simp; omega) _

set_option maxRecDepth 100000 in
set_option maxHeartbeats 400000 in
theorem rbin_11_ge (n a b : Int) (w : World) (a0 : 0 ≤ a) (b0 : 0 ≤ b) (ha : vB n a = true) (hb : vB n b = true) (hs : ¬ b < 64) (T : Int) (T0 : 0 ≤ T) (T1 : low n T = T) (HT : Hid (∀ i : Int, 0 ≤ i → i < n → bitV T i = if 0 ≤ i - (-64) ∧ i - (-64) < n then bitV a (i - (-64)) else 0)) :
    Calls Try.prog 12 #[.int .i64 11, .agg #[.int .i64 n, .int .u64 a], .agg #[.int .i64 n, .int .u64 b]] w fun e w' => e = .returned (.tuple #[.agg #[.int .i64 n, .int .u64 (low n T)], .int .i64 0]) ∧ Below w.heap.size w w' := by
  obtain ⟨h1, h2, _⟩ := vB_true ha
  have HT1 := Lib.hid T1
  clear T1
  have R0 := Lib.hid T0
  have A0 := Lib.hid a0
  have B0 := Lib.hid b0
  clear a0 b0
  have HA := Lib.hid ha
  have HB := Lib.hid hb
  clear ha hb
  go_enter Try.func12, Try.ntmps12
  go_wp2_with fail
  refine (ref_valid_yes n a _ HA.out A0.out).mono ?_
  rintro e w1 ⟨rfl, hb1⟩
  obtain ⟨hc1, hf1⟩ := bcell hb1
  have hz1 : w.heap.size < w1.heap.size ∧ w.heap.size + 1 < w1.heap.size ∧ w.heap.size + 1 + 1 < w1.heap.size := by have hs := hb1.size; simp at hs; omega
  go_wp2_with fail
  refine (ref_valid_yes n b _ HB.out B0.out).mono ?_
  rintro e w2 ⟨rfl, hb2⟩
  obtain ⟨hc2, hf2⟩ := bcell hb2
  have hz2 : w.heap.size < w2.heap.size ∧ w.heap.size + 1 < w2.heap.size ∧ w.heap.size + 1 + 1 < w2.heap.size := by have hs := hb2.size; omega
  go_wp2_with fail
  refine (oper_any 11 _ true (by decide)).mono ?_
  rintro e w0 ⟨rfl, hw0⟩
  rw [hw0]
  clear hw0 w0
  go_wp2_with fail
  refine (move_any n a (-64) T _ A0.out h1 h2 (by omega) (by omega) HT1.out HT.out).mono ?_
  rintro e w3 ⟨rfl, hb3⟩
  obtain ⟨hc3, hf3⟩ := bcell hb3
  have hz3 : w.heap.size < w3.heap.size ∧ w.heap.size + 1 < w3.heap.size ∧ w.heap.size + 1 + 1 < w3.heap.size := by have hs := hb3.size; omega
  go_wp2
  have q1 : w3.cell? ⟨w.heap.size, 0, none⟩ = some (.int .i64 n) := by simp [hc1, hc2, hc3, hz1, hz2, go_sem]
  have q5 : w3.cell? ⟨w.heap.size + 1 + 1, 0, none⟩ = some (.int .i64 0) := by simp [hc1, hc2, hc3, hz1, hz2, go_sem]
  have q6 : w3.cell? ⟨w.heap.size + 1 + 1, 1, none⟩ = some (.int .u64 0) := by simp [hc1, hc2, hc3, hz1, hz2, go_sem]
  have p5 : w3.frozen? ⟨w.heap.size + 1 + 1, 0, none⟩ = false := by simp [hf1, hf2, hf3, hz1, hz2, go_sem]
  have p6 : w3.frozen? ⟨w.heap.size + 1 + 1, 1, none⟩ = false := by simp [hf1, hf2, hf3, hz1, hz2, go_sem]
  have hb := ((below3 hb1).trans (hb2.mono (by omega))).trans (hb3.mono (by omega))
  clear hc1 hc2 hc3 hf1 hf2 hf3 hz1 hz2 hb1 hb2 hb3
  go_region_held3 (fun w' => w'.cell? ⟨w.heap.size, 0, none⟩ = some (.int .i64 n)) (first | (go_keep; done) | (simp [go_sem]; done) | (simp [go_sem, *]; done))
    ((go_at_call 35; refine (ref_low _ _ _ R0.out (by omega) h2).mono ?_; rintro e w' ⟨rfl, rfl⟩))
  go_wp2
  refine bodyPost_ret (v := .tuple #[.agg #[.int .i64 n, .int .u64 (low n T)], .int .i64 0]) (by simp [results, Try.results12, go_sem, q5, q6]) rfl ⟨rfl, ?_⟩
  exact (hb.drew.setCell (by simp; omega) _).setCell (by simp; omega) _

end Go.Proofs.Ytdnbpfhkbaojnaa
