/- The contracts of the reference's functions without an error. -/
import Derived.Test.YtdnbpfhkbaojnaaRef
import Derived.Test.YtdnbpfhkbaojnaaTwo
namespace Go.Proofs.Ytdnbpfhkbaojnaa
open Go.RowKit

theorem div_range (a l : Int) (a0 : 0 ≤ a) : 0 ≤ a / 2 ^ l.toNat := Int.ediv_nonneg a0 (Int.le_of_lt (Int.pow_pos (by decide)))
theorem truth_true (w : World) :
    Calls Try.prog 32 #[.bool true] w fun e w' => e = .returned (.agg #[.int .i64 1, .int .u64 1]) ∧ Below w.heap.size w w' := by
  go_enter Try.func32, Try.ntmps32
  go_wp2
  refine bodyPost_ret (v := .agg #[.int .i64 1, .int .u64 1]) (by simp [results, Try.results32, go_sem]) rfl ⟨rfl, ?_⟩
  exact (Below.refl _ _).alloc (Nat.le_refl _) _

theorem truth_false (w : World) :
    Calls Try.prog 32 #[.bool false] w fun e w' => e = .returned (.agg #[.int .i64 1, .int .u64 0]) ∧ Below w.heap.size w w' := by
  go_enter Try.func32, Try.ntmps32
  go_wp2
  refine bodyPost_ret (v := .agg #[.int .i64 1, .int .u64 0]) (by simp [results, Try.results32, go_sem]) rfl ⟨rfl, ?_⟩
  exact (Below.refl _ _).alloc (Nat.le_refl _) _

theorem truth_any (c : Bool) (w : World) : Calls Try.prog 32 #[.bool c] w fun e w' => e = .returned (.agg #[.int .i64 1, .int .u64 (bit c)]) ∧ Below w.heap.size w w' := by
  cases c
  · exact truth_false w
  · exact truth_true w

theorem oper_any (op : Int) (w : World) (b : Bool) (h : b = decide (2 ≤ op ∧ op ≤ 14)) :
    Calls Try.prog 31 #[.int .i64 op] w fun e w' => e = .returned (.bool b) ∧ w' = w := by
  subst h
  by_cases h1 : 2 ≤ op
  · by_cases h2 : op ≤ 14
    · rw [decide_eq_true (show 2 ≤ op ∧ op ≤ 14 from ⟨h1, h2⟩)]
      go_enter Try.func31, Try.ntmps31
      go_wp2
      go_ret
      exact ⟨rfl, rfl⟩
    · rw [decide_eq_false (show ¬ (2 ≤ op ∧ op ≤ 14) by omega)]
      have hd : decide (op ≤ 14) = false := by simpa using h2
      go_enter Try.func31, Try.ntmps31
      go_wp2
      go_ret
      exact ⟨rfl, rfl⟩
  · rw [decide_eq_false (show ¬ (2 ≤ op ∧ op ≤ 14) by omega)]
    have hd : decide (2 ≤ op) = false := by simpa using h1
    go_enter Try.func31, Try.ntmps31
    go_wp2
    go_ret
    exact ⟨rfl, rfl⟩

set_option maxHeartbeats 400000 in
theorem rpart_ok (n a l m : Int) (w : World) (a0 : 0 ≤ a) (ha : vB n a = true) (hl : ¬ l < 0) (hm1 : ¬ m < 1) (hm : ¬ 64 < m) (hw : ¬ n < m) (hw2 : ¬ n - m < l) :
    Calls Try.prog 22 #[.agg #[.int .i64 n, .int .u64 a], .int .i64 l, .int .i64 m] w fun e w' => e = .returned (.tuple #[.agg #[.int .i64 m, .int .u64 (low m (a / 2 ^ l.toNat))], .int .i64 0]) ∧ Below w.heap.size w w' := by
  have n2 := (vB_true ha).2.1
  have hw1 : IntKind.i64.wrap (n - m) = n - m := IntWalk.i64_in _ (by omega)
  have D0 := Lib.hid (div_range a l a0)
  have l64 : l ≤ 64 := by omega
  have hlw : IntKind.u64.wrap l = l := by rw [IntKind.wrap_u64]; omega
  have A0 := Lib.hid a0
  clear a0
  have HA := Lib.hid ha
  clear ha
  go_enter Try.func22, Try.ntmps22
  go_wp2_with fail
  refine (ref_valid_yes n a _ HA.out A0.out).mono ?_
  rintro e w1 ⟨rfl, hb1⟩
  obtain ⟨hc1, hf1⟩ := bcell hb1
  have hz1 : w.heap.size < w1.heap.size ∧ w.heap.size + 1 < w1.heap.size := by have hs := hb1.size; simp at hs; omega
  go_wp2_with fail
  refine (ref_low _ m _ D0.out (by omega) (by omega)).mono ?_
  rintro e w0 ⟨rfl, rfl⟩
  go_wp2
  refine bodyPost_ret (v := .tuple #[.agg #[.int .i64 m, .int .u64 (low m (a / 2 ^ l.toNat))], .int .i64 0]) (by simp [results, Try.results22, go_sem, hc1]) rfl ⟨rfl, ?_⟩
  exact ((below2 hb1).setCell (by simp <;> omega) _).setCell (by simp <;> omega) _

set_option maxHeartbeats 400000 in
theorem rjoin_ok (n a m b : Int) (w : World) (a0 : 0 ≤ a) (b0 : 0 ≤ b) (ha : vB n a = true) (hb : vB m b = true) (hn : ¬ 64 < n + m) :
    Calls Try.prog 24 #[.agg #[.int .i64 n, .int .u64 a], .agg #[.int .i64 m, .int .u64 b]] w fun e w' => e = .returned (.tuple #[.agg #[.int .i64 (n + m), .int .u64 (IntKind.u64.wrap (IntKind.u64.wrap (a * 2 ^ m.toNat) + b))], .int .i64 0]) ∧ Below w.heap.size w w' := by
  obtain ⟨n1, n2, _⟩ := vB_true ha
  obtain ⟨m1, m2, _⟩ := vB_true hb
  have hmw : IntKind.u64.wrap m = m := by rw [IntKind.wrap_u64]; omega
  have A0 := Lib.hid a0
  have B0 := Lib.hid b0
  clear a0 b0
  have HA := Lib.hid ha
  have HB := Lib.hid hb
  clear ha hb
  go_enter Try.func24, Try.ntmps24
  go_wp2_with fail
  refine (ref_valid_yes n a _ HA.out A0.out).mono ?_
  rintro e w1 ⟨rfl, hb1⟩
  obtain ⟨hc1, hf1⟩ := bcell hb1
  have hz1 : w.heap.size < w1.heap.size ∧ w.heap.size + 1 < w1.heap.size ∧ w.heap.size + 1 + 1 < w1.heap.size := by have hs := hb1.size; simp at hs; omega
  go_wp2_with fail
  refine (ref_valid_yes m b _ HB.out B0.out).mono ?_
  rintro e w2 ⟨rfl, hb2⟩
  obtain ⟨hc2, hf2⟩ := bcell hb2
  have hz2 : w.heap.size < w2.heap.size ∧ w.heap.size + 1 < w2.heap.size ∧ w.heap.size + 1 + 1 < w2.heap.size := by have hs := hb2.size; omega
  go_wp2
  refine bodyPost_ret (v := .tuple #[.agg #[.int .i64 (n + m), .int .u64 (IntKind.u64.wrap (IntKind.u64.wrap (a * 2 ^ m.toNat) + b))], .int .i64 0]) (by simp [results, Try.results24, go_sem, hc1, hc2, hz1]) rfl ⟨rfl, ?_⟩
  exact (((below3 hb1).trans (hb2.mono (by omega))).setCell (by simp <;> omega) _).setCell (by simp <;> omega) _

set_option maxHeartbeats 400000 in
theorem less_same (n a m b : Int) (w : World) (a0 : 0 ≤ a) (b0 : 0 ≤ b) (n1 : 1 ≤ n) (n2 : n ≤ 64) (m1 : 1 ≤ m) (m2 : m ≤ 64) (h : (bitV a (n - 1) != bitV b (m - 1)) = false) :
    Calls Try.prog 33 #[.agg #[.int .i64 n, .int .u64 a], .agg #[.int .i64 m, .int .u64 b]] w fun e w' => e = .returned (.bool (decide (a < b))) ∧ Below w.heap.size w w' := by
  have A0 := Lib.hid a0
  have B0 := Lib.hid b0
  clear a0 b0
  go_enter Try.func33, Try.ntmps33
  go_wp2_with fail
  refine (bit_any a (n - 1) _ A0.out (by omega) (by omega)).mono ?_
  rintro e w0 ⟨rfl, rfl⟩
  go_wp2_with fail
  refine (bit_any b (m - 1) _ B0.out (by omega) (by omega)).mono ?_
  rintro e w0 ⟨rfl, rfl⟩
  go_wp2
  go_ret
  exact ⟨rfl, ((Below.refl _ _).alloc (Nat.le_refl _) _).alloc (by simp) _⟩

set_option maxHeartbeats 400000 in
theorem less_other (n a m b : Int) (w : World) (a0 : 0 ≤ a) (b0 : 0 ≤ b) (n1 : 1 ≤ n) (n2 : n ≤ 64) (m1 : 1 ≤ m) (m2 : m ≤ 64) (h : (bitV a (n - 1) != bitV b (m - 1)) = true) :
    Calls Try.prog 33 #[.agg #[.int .i64 n, .int .u64 a], .agg #[.int .i64 m, .int .u64 b]] w fun e w' => e = .returned (.bool (decide (bitV b (m - 1) < bitV a (n - 1)))) ∧ Below w.heap.size w w' := by
  have A0 := Lib.hid a0
  have B0 := Lib.hid b0
  clear a0 b0
  go_enter Try.func33, Try.ntmps33
  go_wp2_with fail
  refine (bit_any a (n - 1) _ A0.out (by omega) (by omega)).mono ?_
  rintro e w0 ⟨rfl, rfl⟩
  go_wp2_with fail
  refine (bit_any b (m - 1) _ B0.out (by omega) (by omega)).mono ?_
  rintro e w0 ⟨rfl, rfl⟩
  go_wp2
  go_ret
  exact ⟨rfl, ((Below.refl _ _).alloc (Nat.le_refl _) _).alloc (by simp) _⟩

end Go.Proofs.Ytdnbpfhkbaojnaa
