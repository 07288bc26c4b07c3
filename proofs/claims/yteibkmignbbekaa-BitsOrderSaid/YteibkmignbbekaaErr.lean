/- The errors of Bin. -/
import Derived.Test.YteibkmignbbekaaLaw
namespace Go.Proofs.Yteibkmignbbekaa
open Go.RowKit

theorem find_any (op : Int) (w : World) (h1 : 2 ≤ op) (h2 : op ≤ 14) :
    Calls Try.prog 30 #[.int .i64 op] w fun e w' => (∃ f : Value, e = .returned (.tuple #[f, .bool true])) ∧ Below w.heap.size w w' := by
  have hop : op = 2 ∨ op = 3 ∨ op = 4 ∨ op = 5 ∨ op = 6 ∨ op = 7 ∨ op = 8 ∨ op = 9 ∨ op = 10 ∨ op = 11 ∨ op = 12 ∨ op = 13 ∨ op = 14 := by omega
  rcases hop with rfl | rfl | rfl | rfl | rfl | rfl | rfl | rfl | rfl | rfl | rfl | rfl | rfl
  · exact (find_2 w).mono fun _ _ ⟨he, hb⟩ => ⟨⟨_, he⟩, hb⟩
  · exact (find_3 w).mono fun _ _ ⟨he, hb⟩ => ⟨⟨_, he⟩, hb⟩
  · exact (find_4 w).mono fun _ _ ⟨he, hb⟩ => ⟨⟨_, he⟩, hb⟩
  · exact (find_5 w).mono fun _ _ ⟨he, hb⟩ => ⟨⟨_, he⟩, hb⟩
  · exact (find_6 w).mono fun _ _ ⟨he, hb⟩ => ⟨⟨_, he⟩, hb⟩
  · exact (find_7 w).mono fun _ _ ⟨he, hb⟩ => ⟨⟨_, he⟩, hb⟩
  · exact (find_8 w).mono fun _ _ ⟨he, hb⟩ => ⟨⟨_, he⟩, hb⟩
  · exact (find_9 w).mono fun _ _ ⟨he, hb⟩ => ⟨⟨_, he⟩, hb⟩
  · exact (find_10 w).mono fun _ _ ⟨he, hb⟩ => ⟨⟨_, he⟩, hb⟩
  · exact (find_11 w).mono fun _ _ ⟨he, hb⟩ => ⟨⟨_, he⟩, hb⟩
  · exact (find_12 w).mono fun _ _ ⟨he, hb⟩ => ⟨⟨_, he⟩, hb⟩
  · exact (find_13 w).mono fun _ _ ⟨he, hb⟩ => ⟨⟨_, he⟩, hb⟩
  · exact (find_14 w).mono fun _ _ ⟨he, hb⟩ => ⟨⟨_, he⟩, hb⟩
theorem find_none (op : Int) (w : World) (h : ¬ (2 ≤ op ∧ op ≤ 14)) :
    Calls Try.prog 30 #[.int .i64 op] w fun e w' => e = .returned (.tuple #[.nilFunc, .bool false]) ∧ Below w.heap.size w w' := by
  by_cases h1 : op < 2
  · exact find_low op w h1
  · exact find_high op w (by omega)

set_option maxHeartbeats 400000 in
theorem binE_op (op n a m b : Int) (w : World) (ho : ¬ (2 ≤ op ∧ op ≤ 14)) :
    Calls Try.prog 11 #[.int .i64 op, .agg #[.int .i64 n, .int .u64 a], .agg #[.int .i64 m, .int .u64 b]] w fun e w' => e = .returned (.tuple #[.agg #[.int .i64 0, .int .u64 0], .int .i64 1]) ∧ Below w.heap.size w w' := by
  have HO := Lib.hid ho
  clear ho
  go_enter Try.func11, Try.ntmps11
  go_wp2_with fail
  refine (find_none op _ HO.out).mono ?_
  rintro e w1 ⟨rfl, hb1⟩
  obtain ⟨hc1, hf1⟩ := bcell hb1
  have hz1 : w.heap.size < w1.heap.size ∧ w.heap.size + 1 < w1.heap.size ∧ w.heap.size + 1 + 1 < w1.heap.size := by have hs := hb1.size; simp at hs; omega
  go_wp2
  refine bodyPost_ret (v := .tuple #[.agg #[.int .i64 0, .int .u64 0], .int .i64 1]) (by simp [results, Try.results11, go_sem, hc1]) rfl ⟨rfl, ?_⟩
  exact ((below3 hb1).setCell (by simp <;> omega) _).setCell (by simp <;> omega) _

set_option maxHeartbeats 400000 in
theorem binE_a (op n a m b : Int) (w : World) (ho : 2 ≤ op ∧ op ≤ 14) (ha : vB n a = false) :
    Calls Try.prog 11 #[.int .i64 op, .agg #[.int .i64 n, .int .u64 a], .agg #[.int .i64 m, .int .u64 b]] w fun e w' => e = .returned (.tuple #[.agg #[.int .i64 0, .int .u64 0], .int .i64 1]) ∧ Below w.heap.size w w' := by
  have HO := Lib.hid ho
  have HA := Lib.hid ha
  clear ho ha
  go_enter Try.func11, Try.ntmps11
  go_wp2_with fail
  refine (find_any op _ HO.out.1 HO.out.2).mono ?_
  rintro e w1 ⟨⟨fv, rfl⟩, hb1⟩
  obtain ⟨hc1, hf1⟩ := bcell hb1
  have hz1 : w.heap.size < w1.heap.size ∧ w.heap.size + 1 < w1.heap.size ∧ w.heap.size + 1 + 1 < w1.heap.size := by have hs := hb1.size; simp at hs; omega
  go_wp2_with fail
  refine (valid_no n a _ HA.out).mono ?_
  rintro e w2 ⟨rfl, hb2⟩
  obtain ⟨hc2, hf2⟩ := bcell hb2
  have hz2 : w.heap.size < w2.heap.size ∧ w.heap.size + 1 < w2.heap.size ∧ w.heap.size + 1 + 1 < w2.heap.size := by have hs := hb2.size; omega
  go_wp2
  refine bodyPost_ret (v := .tuple #[.agg #[.int .i64 0, .int .u64 0], .int .i64 1]) (by simp [results, Try.results11, go_sem, hc1, hc2, hz1]) rfl ⟨rfl, ?_⟩
  exact (((below3 hb1).trans (hb2.mono (by omega))).setCell (by simp <;> omega) _).setCell (by simp <;> omega) _

set_option maxHeartbeats 400000 in
theorem binE_b (op n a m b : Int) (w : World) (ho : 2 ≤ op ∧ op ≤ 14) (ha : vB n a = true) (hb : vB m b = false) :
    Calls Try.prog 11 #[.int .i64 op, .agg #[.int .i64 n, .int .u64 a], .agg #[.int .i64 m, .int .u64 b]] w fun e w' => e = .returned (.tuple #[.agg #[.int .i64 0, .int .u64 0], .int .i64 1]) ∧ Below w.heap.size w w' := by
  have HO := Lib.hid ho
  have HA := Lib.hid ha
  have HB := Lib.hid hb
  clear ho ha hb
  go_enter Try.func11, Try.ntmps11
  go_wp2_with fail
  refine (find_any op _ HO.out.1 HO.out.2).mono ?_
  rintro e w1 ⟨⟨fv, rfl⟩, hb1⟩
  obtain ⟨hc1, hf1⟩ := bcell hb1
  have hz1 : w.heap.size < w1.heap.size ∧ w.heap.size + 1 < w1.heap.size ∧ w.heap.size + 1 + 1 < w1.heap.size := by have hs := hb1.size; simp at hs; omega
  go_wp2_with fail
  refine (valid_yes n a _ HA.out).mono ?_
  rintro e w2 ⟨rfl, hb2⟩
  obtain ⟨hc2, hf2⟩ := bcell hb2
  have hz2 : w.heap.size < w2.heap.size ∧ w.heap.size + 1 < w2.heap.size ∧ w.heap.size + 1 + 1 < w2.heap.size := by have hs := hb2.size; omega
  go_wp2_with fail
  refine (valid_no m b _ HB.out).mono ?_
  rintro e w3 ⟨rfl, hb3⟩
  obtain ⟨hc3, hf3⟩ := bcell hb3
  have hz3 : w.heap.size < w3.heap.size ∧ w.heap.size + 1 < w3.heap.size ∧ w.heap.size + 1 + 1 < w3.heap.size := by have hs := hb3.size; omega
  go_wp2
  refine bodyPost_ret (v := .tuple #[.agg #[.int .i64 0, .int .u64 0], .int .i64 1]) (by simp [results, Try.results11, go_sem, hc1, hc2, hc3, hz1, hz2]) rfl ⟨rfl, ?_⟩
  exact (((below3 hb1).trans ((hb2.mono (by omega)).trans (hb3.mono (by omega)))).setCell (by simp <;> omega) _).setCell (by simp <;> omega) _

set_option maxHeartbeats 400000 in
theorem binE_w (op n a m b : Int) (w : World) (ho : 2 ≤ op ∧ op ≤ 14) (ha : vB n a = true) (hb : vB m b = true) (hn : ¬ n = m) :
    Calls Try.prog 11 #[.int .i64 op, .agg #[.int .i64 n, .int .u64 a], .agg #[.int .i64 m, .int .u64 b]] w fun e w' => e = .returned (.tuple #[.agg #[.int .i64 0, .int .u64 0], .int .i64 13]) ∧ Below w.heap.size w w' := by
  have hq : (n != m) = true := by simpa using hn
  clear hn
  have HO := Lib.hid ho
  have HA := Lib.hid ha
  have HB := Lib.hid hb
  clear ho ha hb
  go_enter Try.func11, Try.ntmps11
  go_wp2_with fail
  refine (find_any op _ HO.out.1 HO.out.2).mono ?_
  rintro e w1 ⟨⟨fv, rfl⟩, hb1⟩
  obtain ⟨hc1, hf1⟩ := bcell hb1
  have hz1 : w.heap.size < w1.heap.size ∧ w.heap.size + 1 < w1.heap.size ∧ w.heap.size + 1 + 1 < w1.heap.size := by have hs := hb1.size; simp at hs; omega
  go_wp2_with fail
  refine (valid_yes n a _ HA.out).mono ?_
  rintro e w2 ⟨rfl, hb2⟩
  obtain ⟨hc2, hf2⟩ := bcell hb2
  have hz2 : w.heap.size < w2.heap.size ∧ w.heap.size + 1 < w2.heap.size ∧ w.heap.size + 1 + 1 < w2.heap.size := by have hs := hb2.size; omega
  go_wp2_with fail
  refine (valid_yes m b _ HB.out).mono ?_
  rintro e w3 ⟨rfl, hb3⟩
  obtain ⟨hc3, hf3⟩ := bcell hb3
  have hz3 : w.heap.size < w3.heap.size ∧ w.heap.size + 1 < w3.heap.size ∧ w.heap.size + 1 + 1 < w3.heap.size := by have hs := hb3.size; omega
  go_wp2
  refine bodyPost_ret (v := .tuple #[.agg #[.int .i64 0, .int .u64 0], .int .i64 13]) (by simp [results, Try.results11, go_sem, hc1, hc2, hc3, hz1, hz2]) rfl ⟨rfl, ?_⟩
  exact (((below3 hb1).trans ((hb2.mono (by omega)).trans (hb3.mono (by omega)))).setCell (by simp <;> omega) _).setCell (by simp <;> omega) _

end Go.Proofs.Yteibkmignbbekaa
