/- The contract of Join without an error. -/
import Derived.Test.YteibkmignbbekaaRest
namespace Go.Proofs.Yteibkmignbbekaa
open Go.RowKit

set_option maxHeartbeats 400000 in
theorem join_ok (n a m b : Int) (w : World) (ha : vB n a = true) (hb : vB m b = true) (hn : n + m ≤ 64) :
    Calls Try.prog 23 #[.agg #[.int .i64 n, .int .u64 a], .agg #[.int .i64 m, .int .u64 b]] w fun e w' => e = .returned (.tuple #[.agg #[.int .i64 (n + m), .int .u64 (joinV n a m b)], .int .i64 0]) ∧ Below w.heap.size w w' := by
  obtain ⟨n1, n2, _⟩ := vB_true ha
  obtain ⟨m1, m2, _⟩ := vB_true hb
  have hw1 : IntKind.i64.wrap (n + m) = n + m := IntWalk.i64_in _ (by omega)
  have hm0 : 0 ≤ m := by omega
  have NM := Lib.hid (show 1 ≤ n + m ∧ n + m ≤ 64 from ⟨by omega, hn⟩)
  have HA := Lib.hid ha
  have HB := Lib.hid hb
  clear ha hb
  go_enter Try.func23, Try.ntmps23
  go_wp2_with fail
  refine (valid_yes n a _ HA.out).mono ?_
  rintro e w1 ⟨rfl, hb1⟩
  obtain ⟨hc1, hf1⟩ := bcell hb1
  have hz1 : w.heap.size < w1.heap.size ∧ w.heap.size + 1 < w1.heap.size ∧ w.heap.size + 1 + 1 < w1.heap.size := by have hs := hb1.size; simp at hs; omega
  go_wp2_with fail
  refine (valid_yes m b _ HB.out).mono ?_
  rintro e w2 ⟨rfl, hb2⟩
  obtain ⟨hc2, hf2⟩ := bcell hb2
  have hz2 : w.heap.size < w2.heap.size ∧ w.heap.size + 1 < w2.heap.size ∧ w.heap.size + 1 + 1 < w2.heap.size := by have hs := hb2.size; omega
  go_wp2
  have q1 : w2.cell? ⟨w.heap.size, 0, none⟩ = some (.int .i64 n) := by simp [hc1, hc2, hz1, go_sem]
  have q2 : w2.cell? ⟨w.heap.size, 1, none⟩ = some (.int .u64 a) := by simp [hc1, hc2, hz1, go_sem]
  have q3 : w2.cell? ⟨w.heap.size + 1, 0, none⟩ = some (.int .i64 m) := by simp [hc1, hc2, hz1, go_sem]
  have q4 : w2.cell? ⟨w.heap.size + 1, 1, none⟩ = some (.int .u64 b) := by simp [hc1, hc2, hz1, go_sem]
  have q5 : w2.cell? ⟨w.heap.size + 1 + 1, 0, none⟩ = some (.int .i64 0) := by simp [hc1, hc2, hz1, go_sem]
  have q6 : w2.cell? ⟨w.heap.size + 1 + 1, 1, none⟩ = some (.int .u64 0) := by simp [hc1, hc2, hz1, go_sem]
  have p5 : w2.frozen? ⟨w.heap.size + 1 + 1, 0, none⟩ = false := by simp [hf1, hf2, hz1, go_sem]
  have p6 : w2.frozen? ⟨w.heap.size + 1 + 1, 1, none⟩ = false := by simp [hf1, hf2, hz1, go_sem]
  have hb12 := (below3 hb1).trans (hb2.mono (by omega))
  clear hc1 hc2 hz1 hf1 hf2
  go_region_held3 (fun w' => w'.cell? ⟨w.heap.size, 0, none⟩ = some (.int .i64 n) ∧ w'.cell? ⟨w.heap.size, 1, none⟩ = some (.int .u64 a) ∧ w'.cell? ⟨w.heap.size + 1, 0, none⟩ = some (.int .i64 m) ∧ w'.cell? ⟨w.heap.size + 1, 1, none⟩ = some (.int .u64 b)) (first | (go_keep; done) | (simp [go_sem]; done) | (simp [go_sem, *]; done))
    ((go_at_call 38; refine (keep_any _ _ _ NM.out.1 NM.out.2 (bits_range .or _ b).1 (bits_range .or _ b).2).mono ?_; rintro e w3 ⟨rfl, hb3⟩; obtain ⟨hc3, hf3⟩ := bcell hb3; have s1 := (hc3 _ _ hz2.1).trans q1; have s2 := (hc3 _ _ hz2.1).trans q2; have s3 := (hc3 _ _ hz2.2.1).trans q3; have s4 := (hc3 _ _ hz2.2.1).trans q4; have s5 := (hc3 _ _ hz2.2.2).trans q5; have s6 := (hc3 _ _ hz2.2.2).trans q6; have s7 := (hf3 _ _ hz2.2.2).trans p5; have s8 := (hf3 _ _ hz2.2.2).trans p6; clear hc3 hf3))
  go_wp2
  refine bodyPost_ret (v := .tuple #[.agg #[.int .i64 (n + m), .int .u64 (joinV n a m b)], .int .i64 0]) (by simp [results, Try.results23, go_sem, s5, s6, joinV]) rfl ⟨rfl, ?_⟩
  have hb4 := undrew hb3
  exact ((hb12.trans (hb4.mono (by omega))).setCell (by simp <;> omega) _).setCell (by simp <;> omega) _

end Go.Proofs.Yteibkmignbbekaa
