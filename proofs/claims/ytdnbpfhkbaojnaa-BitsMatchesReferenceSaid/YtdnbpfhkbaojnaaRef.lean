/- The contracts of the reference's functions. -/
import Derived.Test.YtdnbpfhkbaojnaaErr
namespace Go.Proofs.Ytdnbpfhkbaojnaa
open Go.RowKit

set_option maxHeartbeats 400000 in
theorem rzext_valid (n a m : Int) (w : World) (a0 : 0 ≤ a) (ha : vB n a = false) :
    Calls Try.prog 18 #[.agg #[.int .i64 n, .int .u64 a], .int .i64 m] w fun e w' => e = .returned (.tuple #[.agg #[.int .i64 0, .int .u64 0], .int .i64 1]) ∧ Below w.heap.size w w' := by
  have A0 := Lib.hid a0
  clear a0
  have HA := Lib.hid ha
  clear ha
  go_enter Try.func18, Try.ntmps18
  go_wp2_with fail
  refine (ref_valid_no n a _ HA.out A0.out).mono ?_
  rintro e w1 ⟨rfl, hb1⟩
  obtain ⟨hc1, hf1⟩ := bcell hb1
  have hz1 : w.heap.size < w1.heap.size ∧ w.heap.size + 1 < w1.heap.size := by have hs := hb1.size; simp at hs; omega
  go_wp2
  refine bodyPost_ret (v := .tuple #[.agg #[.int .i64 0, .int .u64 0], .int .i64 1]) (by simp [results, Try.results18, go_sem, hc1]) rfl ⟨rfl, ?_⟩
  exact ((below2 hb1).setCell (by simp <;> omega) _).setCell (by simp <;> omega) _

set_option maxHeartbeats 400000 in
theorem rzext_low (n a m : Int) (w : World) (a0 : 0 ≤ a) (ha : vB n a = true) (hm : m < 1) :
    Calls Try.prog 18 #[.agg #[.int .i64 n, .int .u64 a], .int .i64 m] w fun e w' => e = .returned (.tuple #[.agg #[.int .i64 0, .int .u64 0], .int .i64 1]) ∧ Below w.heap.size w w' := by
  have A0 := Lib.hid a0
  clear a0
  have HA := Lib.hid ha
  clear ha
  go_enter Try.func18, Try.ntmps18
  go_wp2_with fail
  refine (ref_valid_yes n a _ HA.out A0.out).mono ?_
  rintro e w1 ⟨rfl, hb1⟩
  obtain ⟨hc1, hf1⟩ := bcell hb1
  have hz1 : w.heap.size < w1.heap.size ∧ w.heap.size + 1 < w1.heap.size := by have hs := hb1.size; simp at hs; omega
  go_wp2
  refine bodyPost_ret (v := .tuple #[.agg #[.int .i64 0, .int .u64 0], .int .i64 1]) (by simp [results, Try.results18, go_sem, hc1]) rfl ⟨rfl, ?_⟩
  exact ((below2 hb1).setCell (by simp <;> omega) _).setCell (by simp <;> omega) _

set_option maxHeartbeats 400000 in
theorem rzext_high (n a m : Int) (w : World) (a0 : 0 ≤ a) (ha : vB n a = true) (hm1 : ¬ m < 1) (hm : 64 < m) :
    Calls Try.prog 18 #[.agg #[.int .i64 n, .int .u64 a], .int .i64 m] w fun e w' => e = .returned (.tuple #[.agg #[.int .i64 0, .int .u64 0], .int .i64 1]) ∧ Below w.heap.size w w' := by
  have A0 := Lib.hid a0
  clear a0
  have HA := Lib.hid ha
  clear ha
  go_enter Try.func18, Try.ntmps18
  go_wp2_with fail
  refine (ref_valid_yes n a _ HA.out A0.out).mono ?_
  rintro e w1 ⟨rfl, hb1⟩
  obtain ⟨hc1, hf1⟩ := bcell hb1
  have hz1 : w.heap.size < w1.heap.size ∧ w.heap.size + 1 < w1.heap.size := by have hs := hb1.size; simp at hs; omega
  go_wp2
  refine bodyPost_ret (v := .tuple #[.agg #[.int .i64 0, .int .u64 0], .int .i64 1]) (by simp [results, Try.results18, go_sem, hc1]) rfl ⟨rfl, ?_⟩
  exact ((below2 hb1).setCell (by simp <;> omega) _).setCell (by simp <;> omega) _

set_option maxHeartbeats 400000 in
theorem rzext_width (n a m : Int) (w : World) (a0 : 0 ≤ a) (ha : vB n a = true) (hm1 : ¬ m < 1) (hm : ¬ 64 < m) (hn : m < n) :
    Calls Try.prog 18 #[.agg #[.int .i64 n, .int .u64 a], .int .i64 m] w fun e w' => e = .returned (.tuple #[.agg #[.int .i64 0, .int .u64 0], .int .i64 13]) ∧ Below w.heap.size w w' := by
  have A0 := Lib.hid a0
  clear a0
  have HA := Lib.hid ha
  clear ha
  go_enter Try.func18, Try.ntmps18
  go_wp2_with fail
  refine (ref_valid_yes n a _ HA.out A0.out).mono ?_
  rintro e w1 ⟨rfl, hb1⟩
  obtain ⟨hc1, hf1⟩ := bcell hb1
  have hz1 : w.heap.size < w1.heap.size ∧ w.heap.size + 1 < w1.heap.size := by have hs := hb1.size; simp at hs; omega
  go_wp2
  refine bodyPost_ret (v := .tuple #[.agg #[.int .i64 0, .int .u64 0], .int .i64 13]) (by simp [results, Try.results18, go_sem, hc1]) rfl ⟨rfl, ?_⟩
  exact ((below2 hb1).setCell (by simp <;> omega) _).setCell (by simp <;> omega) _

set_option maxHeartbeats 400000 in
theorem rzext_ok (n a m : Int) (w : World) (a0 : 0 ≤ a) (ha : vB n a = true) (hm1 : ¬ m < 1) (hm : ¬ 64 < m) (hn : ¬ m < n) :
    Calls Try.prog 18 #[.agg #[.int .i64 n, .int .u64 a], .int .i64 m] w fun e w' => e = .returned (.tuple #[.agg #[.int .i64 m, .int .u64 a], .int .i64 0]) ∧ Below w.heap.size w w' := by
  have A0 := Lib.hid a0
  clear a0
  have HA := Lib.hid ha
  clear ha
  go_enter Try.func18, Try.ntmps18
  go_wp2_with fail
  refine (ref_valid_yes n a _ HA.out A0.out).mono ?_
  rintro e w1 ⟨rfl, hb1⟩
  obtain ⟨hc1, hf1⟩ := bcell hb1
  have hz1 : w.heap.size < w1.heap.size ∧ w.heap.size + 1 < w1.heap.size := by have hs := hb1.size; simp at hs; omega
  go_wp2
  refine bodyPost_ret (v := .tuple #[.agg #[.int .i64 m, .int .u64 a], .int .i64 0]) (by simp [results, Try.results18, go_sem, hc1]) rfl ⟨rfl, ?_⟩
  exact ((below2 hb1).setCell (by simp <;> omega) _).setCell (by simp <;> omega) _

set_option maxHeartbeats 400000 in
theorem rpart_valid (n a l m : Int) (w : World) (a0 : 0 ≤ a) (ha : vB n a = false) :
    Calls Try.prog 22 #[.agg #[.int .i64 n, .int .u64 a], .int .i64 l, .int .i64 m] w fun e w' => e = .returned (.tuple #[.agg #[.int .i64 0, .int .u64 0], .int .i64 1]) ∧ Below w.heap.size w w' := by
  have A0 := Lib.hid a0
  clear a0
  have HA := Lib.hid ha
  clear ha
  go_enter Try.func22, Try.ntmps22
  go_wp2_with fail
  refine (ref_valid_no n a _ HA.out A0.out).mono ?_
  rintro e w1 ⟨rfl, hb1⟩
  obtain ⟨hc1, hf1⟩ := bcell hb1
  have hz1 : w.heap.size < w1.heap.size ∧ w.heap.size + 1 < w1.heap.size := by have hs := hb1.size; simp at hs; omega
  go_wp2
  refine bodyPost_ret (v := .tuple #[.agg #[.int .i64 0, .int .u64 0], .int .i64 1]) (by simp [results, Try.results22, go_sem, hc1]) rfl ⟨rfl, ?_⟩
  exact ((below2 hb1).setCell (by simp <;> omega) _).setCell (by simp <;> omega) _

set_option maxHeartbeats 400000 in
theorem rpart_l (n a l m : Int) (w : World) (a0 : 0 ≤ a) (ha : vB n a = true) (hl : l < 0) :
    Calls Try.prog 22 #[.agg #[.int .i64 n, .int .u64 a], .int .i64 l, .int .i64 m] w fun e w' => e = .returned (.tuple #[.agg #[.int .i64 0, .int .u64 0], .int .i64 1]) ∧ Below w.heap.size w w' := by
  have A0 := Lib.hid a0
  clear a0
  have HA := Lib.hid ha
  clear ha
  go_enter Try.func22, Try.ntmps22
  go_wp2_with fail
  refine (ref_valid_yes n a _ HA.out A0.out).mono ?_
  rintro e w1 ⟨rfl, hb1⟩
  obtain ⟨hc1, hf1⟩ := bcell hb1
  have hz1 : w.heap.size < w1.heap.size ∧ w.heap.size + 1 < w1.heap.size := by have hs := hb1.size; simp at hs; omega
  go_wp2
  refine bodyPost_ret (v := .tuple #[.agg #[.int .i64 0, .int .u64 0], .int .i64 1]) (by simp [results, Try.results22, go_sem, hc1]) rfl ⟨rfl, ?_⟩
  exact ((below2 hb1).setCell (by simp <;> omega) _).setCell (by simp <;> omega) _

set_option maxHeartbeats 400000 in
theorem rpart_low (n a l m : Int) (w : World) (a0 : 0 ≤ a) (ha : vB n a = true) (hl : ¬ l < 0) (hm : m < 1) :
    Calls Try.prog 22 #[.agg #[.int .i64 n, .int .u64 a], .int .i64 l, .int .i64 m] w fun e w' => e = .returned (.tuple #[.agg #[.int .i64 0, .int .u64 0], .int .i64 1]) ∧ Below w.heap.size w w' := by
  have A0 := Lib.hid a0
  clear a0
  have HA := Lib.hid ha
  clear ha
  go_enter Try.func22, Try.ntmps22
  go_wp2_with fail
  refine (ref_valid_yes n a _ HA.out A0.out).mono ?_
  rintro e w1 ⟨rfl, hb1⟩
  obtain ⟨hc1, hf1⟩ := bcell hb1
  have hz1 : w.heap.size < w1.heap.size ∧ w.heap.size + 1 < w1.heap.size := by have hs := hb1.size; simp at hs; omega
  go_wp2
  refine bodyPost_ret (v := .tuple #[.agg #[.int .i64 0, .int .u64 0], .int .i64 1]) (by simp [results, Try.results22, go_sem, hc1]) rfl ⟨rfl, ?_⟩
  exact ((below2 hb1).setCell (by simp <;> omega) _).setCell (by simp <;> omega) _

set_option maxHeartbeats 400000 in
theorem rpart_high (n a l m : Int) (w : World) (a0 : 0 ≤ a) (ha : vB n a = true) (hl : ¬ l < 0) (hm1 : ¬ m < 1) (hm : 64 < m) :
    Calls Try.prog 22 #[.agg #[.int .i64 n, .int .u64 a], .int .i64 l, .int .i64 m] w fun e w' => e = .returned (.tuple #[.agg #[.int .i64 0, .int .u64 0], .int .i64 1]) ∧ Below w.heap.size w w' := by
  have A0 := Lib.hid a0
  clear a0
  have HA := Lib.hid ha
  clear ha
  go_enter Try.func22, Try.ntmps22
  go_wp2_with fail
  refine (ref_valid_yes n a _ HA.out A0.out).mono ?_
  rintro e w1 ⟨rfl, hb1⟩
  obtain ⟨hc1, hf1⟩ := bcell hb1
  have hz1 : w.heap.size < w1.heap.size ∧ w.heap.size + 1 < w1.heap.size := by have hs := hb1.size; simp at hs; omega
  go_wp2
  refine bodyPost_ret (v := .tuple #[.agg #[.int .i64 0, .int .u64 0], .int .i64 1]) (by simp [results, Try.results22, go_sem, hc1]) rfl ⟨rfl, ?_⟩
  exact ((below2 hb1).setCell (by simp <;> omega) _).setCell (by simp <;> omega) _

set_option maxHeartbeats 400000 in
theorem rpart_w1 (n a l m : Int) (w : World) (a0 : 0 ≤ a) (ha : vB n a = true) (hl : ¬ l < 0) (hm1 : ¬ m < 1) (hm : ¬ 64 < m) (hw : n < m) :
    Calls Try.prog 22 #[.agg #[.int .i64 n, .int .u64 a], .int .i64 l, .int .i64 m] w fun e w' => e = .returned (.tuple #[.agg #[.int .i64 0, .int .u64 0], .int .i64 13]) ∧ Below w.heap.size w w' := by
  have A0 := Lib.hid a0
  clear a0
  have HA := Lib.hid ha
  clear ha
  go_enter Try.func22, Try.ntmps22
  go_wp2_with fail
  refine (ref_valid_yes n a _ HA.out A0.out).mono ?_
  rintro e w1 ⟨rfl, hb1⟩
  obtain ⟨hc1, hf1⟩ := bcell hb1
  have hz1 : w.heap.size < w1.heap.size ∧ w.heap.size + 1 < w1.heap.size := by have hs := hb1.size; simp at hs; omega
  go_wp2
  refine bodyPost_ret (v := .tuple #[.agg #[.int .i64 0, .int .u64 0], .int .i64 13]) (by simp [results, Try.results22, go_sem, hc1]) rfl ⟨rfl, ?_⟩
  exact ((below2 hb1).setCell (by simp <;> omega) _).setCell (by simp <;> omega) _

set_option maxHeartbeats 400000 in
theorem rpart_w2 (n a l m : Int) (w : World) (a0 : 0 ≤ a) (ha : vB n a = true) (hl : ¬ l < 0) (hm1 : ¬ m < 1) (hm : ¬ 64 < m) (hw : ¬ n < m) (hw2 : n - m < l) :
    Calls Try.prog 22 #[.agg #[.int .i64 n, .int .u64 a], .int .i64 l, .int .i64 m] w fun e w' => e = .returned (.tuple #[.agg #[.int .i64 0, .int .u64 0], .int .i64 13]) ∧ Below w.heap.size w w' := by
  have n2 := (vB_true ha).2.1
  have hw1 : IntKind.i64.wrap (n - m) = n - m := IntWalk.i64_in _ (by omega)
  have A0 := Lib.hid a0
  clear a0
  have HA := Lib.hid ha
  clear ha
  go_enter Try.func22, Try.ntmps22
  go_wp2_with fail
  refine (ref_valid_yes n a _ HA.out A0.out).mono ?_
  rintro e w1 ⟨rfl, hb1⟩
  obtain ⟨hc1, hf1⟩ := bcell hb1
  have hz1 : w.heap.size < w1.heap.size ∧ w.heap.size + 1 < w1.heap.size := by have hs := hb1.size; simp at hs; omega
  go_wp2
  refine bodyPost_ret (v := .tuple #[.agg #[.int .i64 0, .int .u64 0], .int .i64 13]) (by simp [results, Try.results22, go_sem, hc1]) rfl ⟨rfl, ?_⟩
  exact ((below2 hb1).setCell (by simp <;> omega) _).setCell (by simp <;> omega) _

set_option maxHeartbeats 400000 in
theorem rjoin_a (n a m b : Int) (w : World) (a0 : 0 ≤ a) (b0 : 0 ≤ b) (ha : vB n a = false) (hb : vB m b = true) :
    Calls Try.prog 24 #[.agg #[.int .i64 n, .int .u64 a], .agg #[.int .i64 m, .int .u64 b]] w fun e w' => e = .returned (.tuple #[.agg #[.int .i64 0, .int .u64 0], .int .i64 1]) ∧ Below w.heap.size w w' := by
  have A0 := Lib.hid a0
  have B0 := Lib.hid b0
  clear a0 b0
  have HA := Lib.hid ha
  have HB := Lib.hid hb
  clear ha hb
  go_enter Try.func24, Try.ntmps24
  go_wp2_with fail
  refine (ref_valid_no n a _ HA.out A0.out).mono ?_
  rintro e w1 ⟨rfl, hb1⟩
  obtain ⟨hc1, hf1⟩ := bcell hb1
  have hz1 : w.heap.size < w1.heap.size ∧ w.heap.size + 1 < w1.heap.size ∧ w.heap.size + 1 + 1 < w1.heap.size := by have hs := hb1.size; simp at hs; omega
  go_wp2_with fail
  refine (ref_valid_yes m b _ HB.out B0.out).mono ?_
  rintro e w2 ⟨rfl, hb2⟩
  obtain ⟨hc2, hf2⟩ := bcell hb2
  have hz2 : w.heap.size < w2.heap.size ∧ w.heap.size + 1 < w2.heap.size ∧ w.heap.size + 1 + 1 < w2.heap.size := by have hs := hb2.size; omega
  go_wp2
  refine bodyPost_ret (v := .tuple #[.agg #[.int .i64 0, .int .u64 0], .int .i64 1]) (by simp [results, Try.results24, go_sem, hc1, hc2, hz1]) rfl ⟨rfl, ?_⟩
  exact (((below3 hb1).trans (hb2.mono (by omega))).setCell (by simp <;> omega) _).setCell (by simp <;> omega) _

set_option maxHeartbeats 400000 in
theorem rjoin_ab (n a m b : Int) (w : World) (a0 : 0 ≤ a) (b0 : 0 ≤ b) (ha : vB n a = false) (hb : vB m b = false) :
    Calls Try.prog 24 #[.agg #[.int .i64 n, .int .u64 a], .agg #[.int .i64 m, .int .u64 b]] w fun e w' => e = .returned (.tuple #[.agg #[.int .i64 0, .int .u64 0], .int .i64 1]) ∧ Below w.heap.size w w' := by
  have A0 := Lib.hid a0
  have B0 := Lib.hid b0
  clear a0 b0
  have HA := Lib.hid ha
  have HB := Lib.hid hb
  clear ha hb
  go_enter Try.func24, Try.ntmps24
  go_wp2_with fail
  refine (ref_valid_no n a _ HA.out A0.out).mono ?_
  rintro e w1 ⟨rfl, hb1⟩
  obtain ⟨hc1, hf1⟩ := bcell hb1
  have hz1 : w.heap.size < w1.heap.size ∧ w.heap.size + 1 < w1.heap.size ∧ w.heap.size + 1 + 1 < w1.heap.size := by have hs := hb1.size; simp at hs; omega
  go_wp2_with fail
  refine (ref_valid_no m b _ HB.out B0.out).mono ?_
  rintro e w2 ⟨rfl, hb2⟩
  obtain ⟨hc2, hf2⟩ := bcell hb2
  have hz2 : w.heap.size < w2.heap.size ∧ w.heap.size + 1 < w2.heap.size ∧ w.heap.size + 1 + 1 < w2.heap.size := by have hs := hb2.size; omega
  go_wp2
  refine bodyPost_ret (v := .tuple #[.agg #[.int .i64 0, .int .u64 0], .int .i64 1]) (by simp [results, Try.results24, go_sem, hc1, hc2, hz1]) rfl ⟨rfl, ?_⟩
  exact (((below3 hb1).trans (hb2.mono (by omega))).setCell (by simp <;> omega) _).setCell (by simp <;> omega) _

set_option maxHeartbeats 400000 in
theorem rjoin_b (n a m b : Int) (w : World) (a0 : 0 ≤ a) (b0 : 0 ≤ b) (ha : vB n a = true) (hb : vB m b = false) :
    Calls Try.prog 24 #[.agg #[.int .i64 n, .int .u64 a], .agg #[.int .i64 m, .int .u64 b]] w fun e w' => e = .returned (.tuple #[.agg #[.int .i64 0, .int .u64 0], .int .i64 1]) ∧ Below w.heap.size w w' := by
  have A0 := Lib.hid a0
  have B0 := Lib.hid b0
  clear a0 b0
  have HA := Lib.hid ha
  have HB := Lib.hid hb
  clear ha hb
  go_enter Try.func24, Try.ntmps24
  go_wp2_with fail
  refine (ref_valid_yes n a _ HA.out A0.out).mono ?_
  rintro e w1 ⟨rfl, hb1⟩
  obtain ⟨hc1, hf1⟩ := bcell hb1
  have hz1 : w.heap.size < w1.heap.size ∧ w.heap.size + 1 < w1.heap.size ∧ w.heap.size + 1 + 1 < w1.heap.size := by have hs := hb1.size; simp at hs; omega
  go_wp2_with fail
  refine (ref_valid_no m b _ HB.out B0.out).mono ?_
  rintro e w2 ⟨rfl, hb2⟩
  obtain ⟨hc2, hf2⟩ := bcell hb2
  have hz2 : w.heap.size < w2.heap.size ∧ w.heap.size + 1 < w2.heap.size ∧ w.heap.size + 1 + 1 < w2.heap.size := by have hs := hb2.size; omega
  go_wp2
  refine bodyPost_ret (v := .tuple #[.agg #[.int .i64 0, .int .u64 0], .int .i64 1]) (by simp [results, Try.results24, go_sem, hc1, hc2, hz1]) rfl ⟨rfl, ?_⟩
  exact (((below3 hb1).trans (hb2.mono (by omega))).setCell (by simp <;> omega) _).setCell (by simp <;> omega) _

set_option maxHeartbeats 400000 in
theorem rjoin_w (n a m b : Int) (w : World) (a0 : 0 ≤ a) (b0 : 0 ≤ b) (ha : vB n a = true) (hb : vB m b = true) (hn : 64 < n + m) :
    Calls Try.prog 24 #[.agg #[.int .i64 n, .int .u64 a], .agg #[.int .i64 m, .int .u64 b]] w fun e w' => e = .returned (.tuple #[.agg #[.int .i64 0, .int .u64 0], .int .i64 13]) ∧ Below w.heap.size w w' := by
  obtain ⟨n1, n2, _⟩ := vB_true ha
  obtain ⟨m1, m2, _⟩ := vB_true hb
  have A0 := Lib.hid a0
  have B0 := Lib.hid b0
  clear a0 b0
  have HA := Lib.hid ha
  have HB := Lib.hid hb
  clear ha hb
  go_enter Try.func24, Try.ntmps24
  go_wp2_with fail
  refine (ref_valid_yes n a _ HA.out A0.out).mono ?_
  rintro e w1 ⟨rfl, hb1⟩
  obtain ⟨hc1, hf1⟩ := bcell hb1
  have hz1 : w.heap.size < w1.heap.size ∧ w.heap.size + 1 < w1.heap.size ∧ w.heap.size + 1 + 1 < w1.heap.size := by have hs := hb1.size; simp at hs; omega
  go_wp2_with fail
  refine (ref_valid_yes m b _ HB.out B0.out).mono ?_
  rintro e w2 ⟨rfl, hb2⟩
  obtain ⟨hc2, hf2⟩ := bcell hb2
  have hz2 : w.heap.size < w2.heap.size ∧ w.heap.size + 1 < w2.heap.size ∧ w.heap.size + 1 + 1 < w2.heap.size := by have hs := hb2.size; omega
  go_wp2
  refine bodyPost_ret (v := .tuple #[.agg #[.int .i64 0, .int .u64 0], .int .i64 13]) (by simp [results, Try.results24, go_sem, hc1, hc2, hz1]) rfl ⟨rfl, ?_⟩
  exact (((below3 hb1).trans (hb2.mono (by omega))).setCell (by simp <;> omega) _).setCell (by simp <;> omega) _

end Go.Proofs.Ytdnbpfhkbaojnaa
