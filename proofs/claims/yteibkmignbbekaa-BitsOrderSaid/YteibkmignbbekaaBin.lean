/- The contract of Bin: every operator, every error. -/
import Derived.Test.YteibkmignbbekaaFind
namespace Go.Proofs.Yteibkmignbbekaa
open Go.RowKit

theorem val_lt {n v : Int} (h : vB n v = true) : v < 18446744073709551616 := by
  obtain ⟨h1, h2, h3⟩ := vB_true h
  have := pw_le n h2
  rw [hiw_pw] at h3; omega

set_option maxHeartbeats 400000 in
theorem bin_2 (n a b : Int) (w : World) (ha : vB n a = true) (hb : vB n b = true) :
    Calls Try.prog 11 #[.int .i64 2, .agg #[.int .i64 n, .int .u64 a], .agg #[.int .i64 n, .int .u64 b]] w fun e w' => e = .returned (.tuple #[.agg #[.int .i64 n, .int .u64 (low n (a + b))], .int .i64 0]) ∧ Below w.heap.size w w' := by
  obtain ⟨h1, h2, _⟩ := vB_true ha
  have HA := Lib.hid ha; have HB := Lib.hid hb; clear ha hb
  go_enter Try.func11, Try.ntmps11
  go_wp2_with fail
  refine (find_2 _).mono ?_
  rintro e w1 ⟨rfl, hb1⟩
  obtain ⟨hc1, hf1⟩ := bcell hb1
  have hz1 := size3 hb1.size
  go_wp2_with fail
  refine (valid_yes n a _ HA.out).mono ?_
  rintro e w2 ⟨rfl, hb2⟩
  obtain ⟨hc2, hf2⟩ := bcell hb2
  have hz2 := size3' hb2.size hz1
  go_wp2_with fail
  refine (valid_yes n b _ HB.out).mono ?_
  rintro e w3 ⟨rfl, hb3⟩
  obtain ⟨hc3, hf3⟩ := bcell hb3
  have hz3 := size3' hb3.size hz2
  go_wp2_with fail
  refine (sum_any n a b _ h1 h2).mono ?_
  rintro e w4 ⟨rfl, hb4⟩
  obtain ⟨hc4, hf4⟩ := bcell hb4
  have hz4 := size3' hb4.size hz3
  go_wp2
  refine bodyPost_ret (v := .tuple #[.agg #[.int .i64 n, .int .u64 (low n (a + b))], .int .i64 0]) (by simp [results, Try.results11, go_sem, hc1, hc2, hc3, hc4, hz1, hz2, hz3]) rfl ⟨rfl, ?_⟩
  have hb5 := (below3 hb1).trans ((hb2.mono (by omega)).trans ((hb3.mono (by omega)).trans (hb4.mono (by omega))))
  exact (hb5.setCell (by simp; omega) _).setCell (by simp; omega) _

set_option maxHeartbeats 400000 in
theorem bin_3 (n a b : Int) (w : World) (ha : vB n a = true) (hb : vB n b = true) :
    Calls Try.prog 11 #[.int .i64 3, .agg #[.int .i64 n, .int .u64 a], .agg #[.int .i64 n, .int .u64 b]] w fun e w' => e = .returned (.tuple #[.agg #[.int .i64 n, .int .u64 (low n (a - b))], .int .i64 0]) ∧ Below w.heap.size w w' := by
  obtain ⟨h1, h2, _⟩ := vB_true ha
  have HA := Lib.hid ha; have HB := Lib.hid hb; clear ha hb
  go_enter Try.func11, Try.ntmps11
  go_wp2_with fail
  refine (find_3 _).mono ?_
  rintro e w1 ⟨rfl, hb1⟩
  obtain ⟨hc1, hf1⟩ := bcell hb1
  have hz1 := size3 hb1.size
  go_wp2_with fail
  refine (valid_yes n a _ HA.out).mono ?_
  rintro e w2 ⟨rfl, hb2⟩
  obtain ⟨hc2, hf2⟩ := bcell hb2
  have hz2 := size3' hb2.size hz1
  go_wp2_with fail
  refine (valid_yes n b _ HB.out).mono ?_
  rintro e w3 ⟨rfl, hb3⟩
  obtain ⟨hc3, hf3⟩ := bcell hb3
  have hz3 := size3' hb3.size hz2
  go_wp2_with fail
  refine (difference_any n a b _ h1 h2).mono ?_
  rintro e w4 ⟨rfl, hb4⟩
  obtain ⟨hc4, hf4⟩ := bcell hb4
  have hz4 := size3' hb4.size hz3
  go_wp2
  refine bodyPost_ret (v := .tuple #[.agg #[.int .i64 n, .int .u64 (low n (a - b))], .int .i64 0]) (by simp [results, Try.results11, go_sem, hc1, hc2, hc3, hc4, hz1, hz2, hz3]) rfl ⟨rfl, ?_⟩
  have hb5 := (below3 hb1).trans ((hb2.mono (by omega)).trans ((hb3.mono (by omega)).trans (hb4.mono (by omega))))
  exact (hb5.setCell (by simp; omega) _).setCell (by simp; omega) _

set_option maxHeartbeats 400000 in
theorem bin_4 (n a b : Int) (w : World) (ha : vB n a = true) (hb : vB n b = true) :
    Calls Try.prog 11 #[.int .i64 4, .agg #[.int .i64 n, .int .u64 a], .agg #[.int .i64 n, .int .u64 b]] w fun e w' => e = .returned (.tuple #[.agg #[.int .i64 n, .int .u64 (low n (a * b))], .int .i64 0]) ∧ Below w.heap.size w w' := by
  obtain ⟨h1, h2, _⟩ := vB_true ha
  have HA := Lib.hid ha; have HB := Lib.hid hb; clear ha hb
  go_enter Try.func11, Try.ntmps11
  go_wp2_with fail
  refine (find_4 _).mono ?_
  rintro e w1 ⟨rfl, hb1⟩
  obtain ⟨hc1, hf1⟩ := bcell hb1
  have hz1 := size3 hb1.size
  go_wp2_with fail
  refine (valid_yes n a _ HA.out).mono ?_
  rintro e w2 ⟨rfl, hb2⟩
  obtain ⟨hc2, hf2⟩ := bcell hb2
  have hz2 := size3' hb2.size hz1
  go_wp2_with fail
  refine (valid_yes n b _ HB.out).mono ?_
  rintro e w3 ⟨rfl, hb3⟩
  obtain ⟨hc3, hf3⟩ := bcell hb3
  have hz3 := size3' hb3.size hz2
  go_wp2_with fail
  refine (product_any n a b _ h1 h2).mono ?_
  rintro e w4 ⟨rfl, hb4⟩
  obtain ⟨hc4, hf4⟩ := bcell hb4
  have hz4 := size3' hb4.size hz3
  go_wp2
  refine bodyPost_ret (v := .tuple #[.agg #[.int .i64 n, .int .u64 (low n (a * b))], .int .i64 0]) (by simp [results, Try.results11, go_sem, hc1, hc2, hc3, hc4, hz1, hz2, hz3]) rfl ⟨rfl, ?_⟩
  have hb5 := (below3 hb1).trans ((hb2.mono (by omega)).trans ((hb3.mono (by omega)).trans (hb4.mono (by omega))))
  exact (hb5.setCell (by simp; omega) _).setCell (by simp; omega) _

set_option maxHeartbeats 400000 in
theorem bin_7 (n a b : Int) (w : World) (ha : vB n a = true) (hb : vB n b = true) :
    Calls Try.prog 11 #[.int .i64 7, .agg #[.int .i64 n, .int .u64 a], .agg #[.int .i64 n, .int .u64 b]] w fun e w' => e = .returned (.tuple #[.agg #[.int .i64 n, .int .u64 (low n (bits .and .u64 a b))], .int .i64 0]) ∧ Below w.heap.size w w' := by
  obtain ⟨h1, h2, _⟩ := vB_true ha
  have HA := Lib.hid ha; have HB := Lib.hid hb; clear ha hb
  go_enter Try.func11, Try.ntmps11
  go_wp2_with fail
  refine (find_7 _).mono ?_
  rintro e w1 ⟨rfl, hb1⟩
  obtain ⟨hc1, hf1⟩ := bcell hb1
  have hz1 := size3 hb1.size
  go_wp2_with fail
  refine (valid_yes n a _ HA.out).mono ?_
  rintro e w2 ⟨rfl, hb2⟩
  obtain ⟨hc2, hf2⟩ := bcell hb2
  have hz2 := size3' hb2.size hz1
  go_wp2_with fail
  refine (valid_yes n b _ HB.out).mono ?_
  rintro e w3 ⟨rfl, hb3⟩
  obtain ⟨hc3, hf3⟩ := bcell hb3
  have hz3 := size3' hb3.size hz2
  go_wp2_with fail
  refine (and_any n a b _ h1 h2).mono ?_
  rintro e w4 ⟨rfl, hb4⟩
  obtain ⟨hc4, hf4⟩ := bcell hb4
  have hz4 := size3' hb4.size hz3
  go_wp2
  refine bodyPost_ret (v := .tuple #[.agg #[.int .i64 n, .int .u64 (low n (bits .and .u64 a b))], .int .i64 0]) (by simp [results, Try.results11, go_sem, hc1, hc2, hc3, hc4, hz1, hz2, hz3]) rfl ⟨rfl, ?_⟩
  have hb5 := (below3 hb1).trans ((hb2.mono (by omega)).trans ((hb3.mono (by omega)).trans (hb4.mono (by omega))))
  exact (hb5.setCell (by simp; omega) _).setCell (by simp; omega) _

set_option maxHeartbeats 400000 in
theorem bin_8 (n a b : Int) (w : World) (ha : vB n a = true) (hb : vB n b = true) :
    Calls Try.prog 11 #[.int .i64 8, .agg #[.int .i64 n, .int .u64 a], .agg #[.int .i64 n, .int .u64 b]] w fun e w' => e = .returned (.tuple #[.agg #[.int .i64 n, .int .u64 (low n (bits .or .u64 a b))], .int .i64 0]) ∧ Below w.heap.size w w' := by
  obtain ⟨h1, h2, _⟩ := vB_true ha
  have HA := Lib.hid ha; have HB := Lib.hid hb; clear ha hb
  go_enter Try.func11, Try.ntmps11
  go_wp2_with fail
  refine (find_8 _).mono ?_
  rintro e w1 ⟨rfl, hb1⟩
  obtain ⟨hc1, hf1⟩ := bcell hb1
  have hz1 := size3 hb1.size
  go_wp2_with fail
  refine (valid_yes n a _ HA.out).mono ?_
  rintro e w2 ⟨rfl, hb2⟩
  obtain ⟨hc2, hf2⟩ := bcell hb2
  have hz2 := size3' hb2.size hz1
  go_wp2_with fail
  refine (valid_yes n b _ HB.out).mono ?_
  rintro e w3 ⟨rfl, hb3⟩
  obtain ⟨hc3, hf3⟩ := bcell hb3
  have hz3 := size3' hb3.size hz2
  go_wp2_with fail
  refine (or_any n a b _ h1 h2).mono ?_
  rintro e w4 ⟨rfl, hb4⟩
  obtain ⟨hc4, hf4⟩ := bcell hb4
  have hz4 := size3' hb4.size hz3
  go_wp2
  refine bodyPost_ret (v := .tuple #[.agg #[.int .i64 n, .int .u64 (low n (bits .or .u64 a b))], .int .i64 0]) (by simp [results, Try.results11, go_sem, hc1, hc2, hc3, hc4, hz1, hz2, hz3]) rfl ⟨rfl, ?_⟩
  have hb5 := (below3 hb1).trans ((hb2.mono (by omega)).trans ((hb3.mono (by omega)).trans (hb4.mono (by omega))))
  exact (hb5.setCell (by simp; omega) _).setCell (by simp; omega) _

set_option maxHeartbeats 400000 in
theorem bin_9 (n a b : Int) (w : World) (ha : vB n a = true) (hb : vB n b = true) :
    Calls Try.prog 11 #[.int .i64 9, .agg #[.int .i64 n, .int .u64 a], .agg #[.int .i64 n, .int .u64 b]] w fun e w' => e = .returned (.tuple #[.agg #[.int .i64 n, .int .u64 (low n (bits .xor .u64 a b))], .int .i64 0]) ∧ Below w.heap.size w w' := by
  obtain ⟨h1, h2, _⟩ := vB_true ha
  have HA := Lib.hid ha; have HB := Lib.hid hb; clear ha hb
  go_enter Try.func11, Try.ntmps11
  go_wp2_with fail
  refine (find_9 _).mono ?_
  rintro e w1 ⟨rfl, hb1⟩
  obtain ⟨hc1, hf1⟩ := bcell hb1
  have hz1 := size3 hb1.size
  go_wp2_with fail
  refine (valid_yes n a _ HA.out).mono ?_
  rintro e w2 ⟨rfl, hb2⟩
  obtain ⟨hc2, hf2⟩ := bcell hb2
  have hz2 := size3' hb2.size hz1
  go_wp2_with fail
  refine (valid_yes n b _ HB.out).mono ?_
  rintro e w3 ⟨rfl, hb3⟩
  obtain ⟨hc3, hf3⟩ := bcell hb3
  have hz3 := size3' hb3.size hz2
  go_wp2_with fail
  refine (xor_any n a b _ h1 h2).mono ?_
  rintro e w4 ⟨rfl, hb4⟩
  obtain ⟨hc4, hf4⟩ := bcell hb4
  have hz4 := size3' hb4.size hz3
  go_wp2
  refine bodyPost_ret (v := .tuple #[.agg #[.int .i64 n, .int .u64 (low n (bits .xor .u64 a b))], .int .i64 0]) (by simp [results, Try.results11, go_sem, hc1, hc2, hc3, hc4, hz1, hz2, hz3]) rfl ⟨rfl, ?_⟩
  have hb5 := (below3 hb1).trans ((hb2.mono (by omega)).trans ((hb3.mono (by omega)).trans (hb4.mono (by omega))))
  exact (hb5.setCell (by simp; omega) _).setCell (by simp; omega) _

set_option maxHeartbeats 400000 in
theorem bin_10 (n a b : Int) (w : World) (ha : vB n a = true) (hb : vB n b = true) (_ : 0 ≤ a) (hb0 : 0 ≤ b) :
    Calls Try.prog 11 #[.int .i64 10, .agg #[.int .i64 n, .int .u64 a], .agg #[.int .i64 n, .int .u64 b]] w fun e w' => e = .returned (.tuple #[.agg #[.int .i64 n, .int .u64 (low n (a * 2 ^ min b.toNat 64))], .int .i64 0]) ∧ Below w.heap.size w w' := by
  obtain ⟨h1, h2, _⟩ := vB_true ha
  have R := Lib.hid (show 0 ≤ a ∧ 0 ≤ b ∧ a < 18446744073709551616 ∧ True from ⟨‹_›, hb0, val_lt ha, trivial⟩)
  clear hb0
  have HA := Lib.hid ha; have HB := Lib.hid hb; clear ha hb
  go_enter Try.func11, Try.ntmps11
  go_wp2_with fail
  refine (find_10 _).mono ?_
  rintro e w1 ⟨rfl, hb1⟩
  obtain ⟨hc1, hf1⟩ := bcell hb1
  have hz1 := size3 hb1.size
  go_wp2_with fail
  refine (valid_yes n a _ HA.out).mono ?_
  rintro e w2 ⟨rfl, hb2⟩
  obtain ⟨hc2, hf2⟩ := bcell hb2
  have hz2 := size3' hb2.size hz1
  go_wp2_with fail
  refine (valid_yes n b _ HB.out).mono ?_
  rintro e w3 ⟨rfl, hb3⟩
  obtain ⟨hc3, hf3⟩ := bcell hb3
  have hz3 := size3' hb3.size hz2
  go_wp2_with fail
  refine (shiftedUp_any n a b _ h1 h2 R.out.2.1).mono ?_
  rintro e w4 ⟨rfl, hb4⟩
  obtain ⟨hc4, hf4⟩ := bcell hb4
  have hz4 := size3' hb4.size hz3
  go_wp2
  refine bodyPost_ret (v := .tuple #[.agg #[.int .i64 n, .int .u64 (low n (a * 2 ^ min b.toNat 64))], .int .i64 0]) (by simp [results, Try.results11, go_sem, hc1, hc2, hc3, hc4, hz1, hz2, hz3]) rfl ⟨rfl, ?_⟩
  have hb5 := (below3 hb1).trans ((hb2.mono (by omega)).trans ((hb3.mono (by omega)).trans (hb4.mono (by omega))))
  exact (hb5.setCell (by simp; omega) _).setCell (by simp; omega) _

set_option maxHeartbeats 400000 in
theorem bin_11 (n a b : Int) (w : World) (ha : vB n a = true) (hb : vB n b = true) (ha0 : 0 ≤ a) (hb0 : 0 ≤ b) :
    Calls Try.prog 11 #[.int .i64 11, .agg #[.int .i64 n, .int .u64 a], .agg #[.int .i64 n, .int .u64 b]] w fun e w' => e = .returned (.tuple #[.agg #[.int .i64 n, .int .u64 (low n (a / 2 ^ min b.toNat 64))], .int .i64 0]) ∧ Below w.heap.size w w' := by
  obtain ⟨h1, h2, _⟩ := vB_true ha
  have R := Lib.hid (show 0 ≤ a ∧ 0 ≤ b ∧ a < 18446744073709551616 ∧ True from ⟨ha0, hb0, val_lt ha, trivial⟩)
  clear ha0 hb0
  have HA := Lib.hid ha; have HB := Lib.hid hb; clear ha hb
  go_enter Try.func11, Try.ntmps11
  go_wp2_with fail
  refine (find_11 _).mono ?_
  rintro e w1 ⟨rfl, hb1⟩
  obtain ⟨hc1, hf1⟩ := bcell hb1
  have hz1 := size3 hb1.size
  go_wp2_with fail
  refine (valid_yes n a _ HA.out).mono ?_
  rintro e w2 ⟨rfl, hb2⟩
  obtain ⟨hc2, hf2⟩ := bcell hb2
  have hz2 := size3' hb2.size hz1
  go_wp2_with fail
  refine (valid_yes n b _ HB.out).mono ?_
  rintro e w3 ⟨rfl, hb3⟩
  obtain ⟨hc3, hf3⟩ := bcell hb3
  have hz3 := size3' hb3.size hz2
  go_wp2_with fail
  refine (shiftedDown_any n a b _ h1 h2 R.out.2.1 R.out.1 R.out.2.2.1).mono ?_
  rintro e w4 ⟨rfl, hb4⟩
  obtain ⟨hc4, hf4⟩ := bcell hb4
  have hz4 := size3' hb4.size hz3
  go_wp2
  refine bodyPost_ret (v := .tuple #[.agg #[.int .i64 n, .int .u64 (low n (a / 2 ^ min b.toNat 64))], .int .i64 0]) (by simp [results, Try.results11, go_sem, hc1, hc2, hc3, hc4, hz1, hz2, hz3]) rfl ⟨rfl, ?_⟩
  have hb5 := (below3 hb1).trans ((hb2.mono (by omega)).trans ((hb3.mono (by omega)).trans (hb4.mono (by omega))))
  exact (hb5.setCell (by simp; omega) _).setCell (by simp; omega) _

set_option maxHeartbeats 400000 in
theorem bin_12 (n a b : Int) (w : World) (ha : vB n a = true) (hb : vB n b = true) :
    Calls Try.prog 11 #[.int .i64 12, .agg #[.int .i64 n, .int .u64 a], .agg #[.int .i64 n, .int .u64 b]] w fun e w' => e = .returned (.tuple #[.agg #[.int .i64 1, .int .u64 (bit (cmpI a b == 0))], .int .i64 0]) ∧ Below w.heap.size w w' := by
  obtain ⟨h1, h2, _⟩ := vB_true ha
  have HA := Lib.hid ha; have HB := Lib.hid hb; clear ha hb
  go_enter Try.func11, Try.ntmps11
  go_wp2_with fail
  refine (find_12 _).mono ?_
  rintro e w1 ⟨rfl, hb1⟩
  obtain ⟨hc1, hf1⟩ := bcell hb1
  have hz1 := size3 hb1.size
  go_wp2_with fail
  refine (valid_yes n a _ HA.out).mono ?_
  rintro e w2 ⟨rfl, hb2⟩
  obtain ⟨hc2, hf2⟩ := bcell hb2
  have hz2 := size3' hb2.size hz1
  go_wp2_with fail
  refine (valid_yes n b _ HB.out).mono ?_
  rintro e w3 ⟨rfl, hb3⟩
  obtain ⟨hc3, hf3⟩ := bcell hb3
  have hz3 := size3' hb3.size hz2
  go_wp2_with fail
  refine (equal_any n a b _).mono ?_
  rintro e w4 ⟨rfl, hb4⟩
  obtain ⟨hc4, hf4⟩ := bcell hb4
  have hz4 := size3' hb4.size hz3
  go_wp2
  refine bodyPost_ret (v := .tuple #[.agg #[.int .i64 1, .int .u64 (bit (cmpI a b == 0))], .int .i64 0]) (by simp [results, Try.results11, go_sem, hc1, hc2, hc3, hc4, hz1, hz2, hz3]) rfl ⟨rfl, ?_⟩
  have hb5 := (below3 hb1).trans ((hb2.mono (by omega)).trans ((hb3.mono (by omega)).trans (hb4.mono (by omega))))
  exact (hb5.setCell (by simp; omega) _).setCell (by simp; omega) _

set_option maxHeartbeats 400000 in
theorem bin_13 (n a b : Int) (w : World) (ha : vB n a = true) (hb : vB n b = true) :
    Calls Try.prog 11 #[.int .i64 13, .agg #[.int .i64 n, .int .u64 a], .agg #[.int .i64 n, .int .u64 b]] w fun e w' => e = .returned (.tuple #[.agg #[.int .i64 1, .int .u64 (bit (cmpI a b == (-1)))], .int .i64 0]) ∧ Below w.heap.size w w' := by
  obtain ⟨h1, h2, _⟩ := vB_true ha
  have HA := Lib.hid ha; have HB := Lib.hid hb; clear ha hb
  go_enter Try.func11, Try.ntmps11
  go_wp2_with fail
  refine (find_13 _).mono ?_
  rintro e w1 ⟨rfl, hb1⟩
  obtain ⟨hc1, hf1⟩ := bcell hb1
  have hz1 := size3 hb1.size
  go_wp2_with fail
  refine (valid_yes n a _ HA.out).mono ?_
  rintro e w2 ⟨rfl, hb2⟩
  obtain ⟨hc2, hf2⟩ := bcell hb2
  have hz2 := size3' hb2.size hz1
  go_wp2_with fail
  refine (valid_yes n b _ HB.out).mono ?_
  rintro e w3 ⟨rfl, hb3⟩
  obtain ⟨hc3, hf3⟩ := bcell hb3
  have hz3 := size3' hb3.size hz2
  go_wp2_with fail
  refine (less_any n a b _).mono ?_
  rintro e w4 ⟨rfl, hb4⟩
  obtain ⟨hc4, hf4⟩ := bcell hb4
  have hz4 := size3' hb4.size hz3
  go_wp2
  refine bodyPost_ret (v := .tuple #[.agg #[.int .i64 1, .int .u64 (bit (cmpI a b == (-1)))], .int .i64 0]) (by simp [results, Try.results11, go_sem, hc1, hc2, hc3, hc4, hz1, hz2, hz3]) rfl ⟨rfl, ?_⟩
  have hb5 := (below3 hb1).trans ((hb2.mono (by omega)).trans ((hb3.mono (by omega)).trans (hb4.mono (by omega))))
  exact (hb5.setCell (by simp; omega) _).setCell (by simp; omega) _

set_option maxHeartbeats 400000 in
theorem bin_14 (n a b : Int) (w : World) (ha : vB n a = true) (hb : vB n b = true) :
    Calls Try.prog 11 #[.int .i64 14, .agg #[.int .i64 n, .int .u64 a], .agg #[.int .i64 n, .int .u64 b]] w fun e w' => e = .returned (.tuple #[.agg #[.int .i64 1, .int .u64 (bit (cmpI (sgn n a) (sgn n b) == (-1)))], .int .i64 0]) ∧ Below w.heap.size w w' := by
  obtain ⟨h1, h2, _⟩ := vB_true ha
  have HA := Lib.hid ha; have HB := Lib.hid hb; clear ha hb
  go_enter Try.func11, Try.ntmps11
  go_wp2_with fail
  refine (find_14 _).mono ?_
  rintro e w1 ⟨rfl, hb1⟩
  obtain ⟨hc1, hf1⟩ := bcell hb1
  have hz1 := size3 hb1.size
  go_wp2_with fail
  refine (valid_yes n a _ HA.out).mono ?_
  rintro e w2 ⟨rfl, hb2⟩
  obtain ⟨hc2, hf2⟩ := bcell hb2
  have hz2 := size3' hb2.size hz1
  go_wp2_with fail
  refine (valid_yes n b _ HB.out).mono ?_
  rintro e w3 ⟨rfl, hb3⟩
  obtain ⟨hc3, hf3⟩ := bcell hb3
  have hz3 := size3' hb3.size hz2
  go_wp2_with fail
  refine (signedLess_any n a b _ h1 h2).mono ?_
  rintro e w4 ⟨rfl, hb4⟩
  obtain ⟨hc4, hf4⟩ := bcell hb4
  have hz4 := size3' hb4.size hz3
  go_wp2
  refine bodyPost_ret (v := .tuple #[.agg #[.int .i64 1, .int .u64 (bit (cmpI (sgn n a) (sgn n b) == (-1)))], .int .i64 0]) (by simp [results, Try.results11, go_sem, hc1, hc2, hc3, hc4, hz1, hz2, hz3]) rfl ⟨rfl, ?_⟩
  have hb5 := (below3 hb1).trans ((hb2.mono (by omega)).trans ((hb3.mono (by omega)).trans (hb4.mono (by omega))))
  exact (hb5.setCell (by simp; omega) _).setCell (by simp; omega) _

set_option maxHeartbeats 400000 in
theorem bin_5_zero (n a : Int) (w : World) (ha : vB n a = true) (hb : vB n 0 = true) :
    Calls Try.prog 11 #[.int .i64 5, .agg #[.int .i64 n, .int .u64 a], .agg #[.int .i64 n, .int .u64 0]] w fun e w' => e = .returned (.tuple #[.agg #[.int .i64 n, .int .u64 (low n (hiw n))], .int .i64 0]) ∧ Below w.heap.size w w' := by
  obtain ⟨h1, h2, _⟩ := vB_true ha
  have HA := Lib.hid ha; have HB := Lib.hid hb; clear ha hb
  go_enter Try.func11, Try.ntmps11
  go_wp2_with fail
  refine (find_5 _).mono ?_
  rintro e w1 ⟨rfl, hb1⟩
  obtain ⟨hc1, hf1⟩ := bcell hb1
  have hz1 := size3 hb1.size
  go_wp2_with fail
  refine (valid_yes n a _ HA.out).mono ?_
  rintro e w2 ⟨rfl, hb2⟩
  obtain ⟨hc2, hf2⟩ := bcell hb2
  have hz2 := size3' hb2.size hz1
  go_wp2_with fail
  refine (valid_yes n 0 _ HB.out).mono ?_
  rintro e w3 ⟨rfl, hb3⟩
  obtain ⟨hc3, hf3⟩ := bcell hb3
  have hz3 := size3' hb3.size hz2
  go_wp2_with fail
  refine (quotient_zero n a _ h1 h2).mono ?_
  rintro e w4 ⟨rfl, hb4⟩
  obtain ⟨hc4, hf4⟩ := bcell hb4
  have hz4 := size3' hb4.size hz3
  go_wp2
  refine bodyPost_ret (v := .tuple #[.agg #[.int .i64 n, .int .u64 (low n (hiw n))], .int .i64 0]) (by simp [results, Try.results11, go_sem, hc1, hc2, hc3, hc4, hz1, hz2, hz3]) rfl ⟨rfl, ?_⟩
  have hb5 := (below3 hb1).trans ((hb2.mono (by omega)).trans ((hb3.mono (by omega)).trans (hb4.mono (by omega))))
  exact (hb5.setCell (by simp; omega) _).setCell (by simp; omega) _

set_option maxHeartbeats 400000 in
theorem bin_6_zero (n a : Int) (w : World) (ha : vB n a = true) (hb : vB n 0 = true) :
    Calls Try.prog 11 #[.int .i64 6, .agg #[.int .i64 n, .int .u64 a], .agg #[.int .i64 n, .int .u64 0]] w fun e w' => e = .returned (.tuple #[.agg #[.int .i64 n, .int .u64 a], .int .i64 0]) ∧ Below w.heap.size w w' := by
  obtain ⟨h1, h2, _⟩ := vB_true ha
  have HA := Lib.hid ha; have HB := Lib.hid hb; clear ha hb
  go_enter Try.func11, Try.ntmps11
  go_wp2_with fail
  refine (find_6 _).mono ?_
  rintro e w1 ⟨rfl, hb1⟩
  obtain ⟨hc1, hf1⟩ := bcell hb1
  have hz1 := size3 hb1.size
  go_wp2_with fail
  refine (valid_yes n a _ HA.out).mono ?_
  rintro e w2 ⟨rfl, hb2⟩
  obtain ⟨hc2, hf2⟩ := bcell hb2
  have hz2 := size3' hb2.size hz1
  go_wp2_with fail
  refine (valid_yes n 0 _ HB.out).mono ?_
  rintro e w3 ⟨rfl, hb3⟩
  obtain ⟨hc3, hf3⟩ := bcell hb3
  have hz3 := size3' hb3.size hz2
  go_wp2_with fail
  refine (remainder_zero n a _).mono ?_
  rintro e w4 ⟨rfl, hb4⟩
  obtain ⟨hc4, hf4⟩ := bcell hb4
  have hz4 := size3' hb4.size hz3
  go_wp2
  refine bodyPost_ret (v := .tuple #[.agg #[.int .i64 n, .int .u64 a], .int .i64 0]) (by simp [results, Try.results11, go_sem, hc1, hc2, hc3, hc4, hz1, hz2, hz3]) rfl ⟨rfl, ?_⟩
  have hb5 := (below3 hb1).trans ((hb2.mono (by omega)).trans ((hb3.mono (by omega)).trans (hb4.mono (by omega))))
  exact (hb5.setCell (by simp; omega) _).setCell (by simp; omega) _

set_option maxHeartbeats 400000 in
theorem bin_5_some (n a b : Int) (w : World) (ha : vB n a = true) (hb : vB n b = true) (ha0 : 0 ≤ a) (hb0 : 1 ≤ b) :
    Calls Try.prog 11 #[.int .i64 5, .agg #[.int .i64 n, .int .u64 a], .agg #[.int .i64 n, .int .u64 b]] w fun e w' => e = .returned (.tuple #[.agg #[.int .i64 n, .int .u64 (low n (a / b))], .int .i64 0]) ∧ Below w.heap.size w w' := by
  obtain ⟨h1, h2, _⟩ := vB_true ha
  have R := Lib.hid (show 0 ≤ a ∧ 1 ≤ b ∧ a < 18446744073709551616 ∧ b < 18446744073709551616 from ⟨ha0, hb0, val_lt ha, val_lt hb⟩)
  clear ha0 hb0
  have HA := Lib.hid ha; have HB := Lib.hid hb; clear ha hb
  go_enter Try.func11, Try.ntmps11
  go_wp2_with fail
  refine (find_5 _).mono ?_
  rintro e w1 ⟨rfl, hb1⟩
  obtain ⟨hc1, hf1⟩ := bcell hb1
  have hz1 := size3 hb1.size
  go_wp2_with fail
  refine (valid_yes n a _ HA.out).mono ?_
  rintro e w2 ⟨rfl, hb2⟩
  obtain ⟨hc2, hf2⟩ := bcell hb2
  have hz2 := size3' hb2.size hz1
  go_wp2_with fail
  refine (valid_yes n b _ HB.out).mono ?_
  rintro e w3 ⟨rfl, hb3⟩
  obtain ⟨hc3, hf3⟩ := bcell hb3
  have hz3 := size3' hb3.size hz2
  go_wp2_with fail
  refine (quotient_some n a b _ h1 h2 R.out.1 R.out.2.2.1 R.out.2.1).mono ?_
  rintro e w4 ⟨rfl, hb4⟩
  obtain ⟨hc4, hf4⟩ := bcell hb4
  have hz4 := size3' hb4.size hz3
  go_wp2
  refine bodyPost_ret (v := .tuple #[.agg #[.int .i64 n, .int .u64 (low n (a / b))], .int .i64 0]) (by simp [results, Try.results11, go_sem, hc1, hc2, hc3, hc4, hz1, hz2, hz3]) rfl ⟨rfl, ?_⟩
  have hb5 := (below3 hb1).trans ((hb2.mono (by omega)).trans ((hb3.mono (by omega)).trans (hb4.mono (by omega))))
  exact (hb5.setCell (by simp; omega) _).setCell (by simp; omega) _

set_option maxHeartbeats 400000 in
theorem bin_6_some (n a b : Int) (w : World) (ha : vB n a = true) (hb : vB n b = true) (ha0 : 0 ≤ a) (hb0 : 1 ≤ b) :
    Calls Try.prog 11 #[.int .i64 6, .agg #[.int .i64 n, .int .u64 a], .agg #[.int .i64 n, .int .u64 b]] w fun e w' => e = .returned (.tuple #[.agg #[.int .i64 n, .int .u64 (low n (a % b))], .int .i64 0]) ∧ Below w.heap.size w w' := by
  obtain ⟨h1, h2, _⟩ := vB_true ha
  have R := Lib.hid (show 0 ≤ a ∧ 1 ≤ b ∧ a < 18446744073709551616 ∧ b < 18446744073709551616 from ⟨ha0, hb0, val_lt ha, val_lt hb⟩)
  clear ha0 hb0
  have HA := Lib.hid ha; have HB := Lib.hid hb; clear ha hb
  go_enter Try.func11, Try.ntmps11
  go_wp2_with fail
  refine (find_6 _).mono ?_
  rintro e w1 ⟨rfl, hb1⟩
  obtain ⟨hc1, hf1⟩ := bcell hb1
  have hz1 := size3 hb1.size
  go_wp2_with fail
  refine (valid_yes n a _ HA.out).mono ?_
  rintro e w2 ⟨rfl, hb2⟩
  obtain ⟨hc2, hf2⟩ := bcell hb2
  have hz2 := size3' hb2.size hz1
  go_wp2_with fail
  refine (valid_yes n b _ HB.out).mono ?_
  rintro e w3 ⟨rfl, hb3⟩
  obtain ⟨hc3, hf3⟩ := bcell hb3
  have hz3 := size3' hb3.size hz2
  go_wp2_with fail
  refine (remainder_some n a b _ h1 h2 R.out.1 R.out.2.2.1 R.out.2.1 R.out.2.2.2).mono ?_
  rintro e w4 ⟨rfl, hb4⟩
  obtain ⟨hc4, hf4⟩ := bcell hb4
  have hz4 := size3' hb4.size hz3
  go_wp2
  refine bodyPost_ret (v := .tuple #[.agg #[.int .i64 n, .int .u64 (low n (a % b))], .int .i64 0]) (by simp [results, Try.results11, go_sem, hc1, hc2, hc3, hc4, hz1, hz2, hz3]) rfl ⟨rfl, ?_⟩
  have hb5 := (below3 hb1).trans ((hb2.mono (by omega)).trans ((hb3.mono (by omega)).trans (hb4.mono (by omega))))
  exact (hb5.setCell (by simp; omega) _).setCell (by simp; omega) _

/-- the quotient, the remainder, with what a division by 0 gives. -/
def quoV (n a b : Int) : Int := if b = 0 then low n (hiw n) else low n (a / b)
def remV (n a b : Int) : Int := if b = 0 then a else low n (a % b)
theorem bin_5 (n a b : Int) (w : World) (ha : vB n a = true) (hb : vB n b = true) (ha0 : 0 ≤ a) (hb0 : 0 ≤ b) :
    Calls Try.prog 11 #[.int .i64 5, .agg #[.int .i64 n, .int .u64 a], .agg #[.int .i64 n, .int .u64 b]] w fun e w' => e = .returned (.tuple #[.agg #[.int .i64 n, .int .u64 (quoV n a b)], .int .i64 0]) ∧ Below w.heap.size w w' := by
  by_cases h : b = 0
  · subst h; simpa only [quoV, if_pos] using bin_5_zero n a w ha hb
  · simpa only [quoV, if_neg h] using bin_5_some n a b w ha hb ha0 (by omega)
theorem bin_6 (n a b : Int) (w : World) (ha : vB n a = true) (hb : vB n b = true) (ha0 : 0 ≤ a) (hb0 : 0 ≤ b) :
    Calls Try.prog 11 #[.int .i64 6, .agg #[.int .i64 n, .int .u64 a], .agg #[.int .i64 n, .int .u64 b]] w fun e w' => e = .returned (.tuple #[.agg #[.int .i64 n, .int .u64 (remV n a b)], .int .i64 0]) ∧ Below w.heap.size w w' := by
  by_cases h : b = 0
  · subst h; simpa only [remV, if_pos] using bin_6_zero n a w ha hb
  · simpa only [remV, if_neg h] using bin_6_some n a b w ha hb ha0 (by omega)

end Go.Proofs.Yteibkmignbbekaa
