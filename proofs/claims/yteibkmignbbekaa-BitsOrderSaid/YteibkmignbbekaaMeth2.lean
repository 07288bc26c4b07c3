/- The contracts of quotient, remainder, and the comparisons. -/
import Derived.Test.YteibkmignbbekaaMeth1
namespace Go.Proofs.Yteibkmignbbekaa
open Go.RowKit

theorem undrew {W w1 : World} (hb : Below W.drew.heap.size W.drew w1) : Below W.heap.size W w1 := ((Below.refl _ _).drew).trans hb

set_option maxHeartbeats 400000 in
theorem quotient_zero (n a : Int) (w : World) (h1 : 1 ≤ n) (h2 : n ≤ 64) :
    Calls Try.prog 47 #[.agg #[.int .i64 n, .int .u64 a], .agg #[.int .i64 n, .int .u64 0]] w fun e w' => e = .returned (.agg #[.int .i64 n, .int .u64 (low n (hiw n))]) ∧ Below w.heap.size w w' := by
  have hr : 0 ≤ hiw n ∧ hiw n < 18446744073709551616 := by
    have p1 := pw_pos n; have p2 := pw_le n h2; rw [hiw_pw]; omega
  have H := Lib.hid hr; clear hr
  go_enter Try.func47, Try.ntmps47
  go_wp2
  go_region_held3 (fun w' => w'.cell? ⟨w.heap.size, 0, none⟩ = some (.int .i64 n)) (first | (go_keep; done) | (simp [go_sem]; done) | (simp [go_sem, *]; done))
    (first
      | (go_at_call 37; refine (highest_any _ _ h1 h2).mono ?_; rintro e w' ⟨rfl, rfl⟩)
      | (go_at_call 38; refine (keep_any _ _ _ h1 h2 H.out.1 H.out.2).mono ?_; rintro e w1 ⟨rfl, hb⟩; obtain ⟨hc, hf⟩ := bcell hb))
  go_wp2
  refine bodyPost_ret (v := .agg #[.int .i64 n, .int .u64 (low n (hiw n))]) (by simp [results, Try.results47, go_sem, hc]) rfl ⟨rfl, ?_⟩
  exact ((below3 (undrew hb)).setCell (by simp; omega) _).setCell (by simp; omega) _

set_option maxHeartbeats 400000 in
theorem quotient_some (n a b : Int) (w : World) (h1 : 1 ≤ n) (h2 : n ≤ 64) (h3 : 0 ≤ a) (h4 : a < 18446744073709551616) (h5 : 1 ≤ b) :
    Calls Try.prog 47 #[.agg #[.int .i64 n, .int .u64 a], .agg #[.int .i64 n, .int .u64 b]] w fun e w' => e = .returned (.agg #[.int .i64 n, .int .u64 (low n (a / b))]) ∧ Below w.heap.size w w' := by
  have hr : 0 ≤ a / b ∧ a / b < 18446744073709551616 := ⟨Int.ediv_nonneg h3 (by omega), Int.lt_of_le_of_lt (Int.ediv_le_self _ h3) h4⟩
  have hz : (b == 0) = false := by simp; omega
  have hz0 : ¬ b = 0 := by omega
  have ht : IntKind.u64.wrap (a.tdiv b) = a / b := IntWalk.u64_quo a b ⟨h3, by omega, h5⟩
  have H := Lib.hid hr; clear hr h4 h3 h5
  go_enter Try.func47, Try.ntmps47
  go_wp2
  go_region_held3 (fun w' => w'.cell? ⟨w.heap.size, 0, none⟩ = some (.int .i64 n) ∧ w'.cell? ⟨w.heap.size, 1, none⟩ = some (.int .u64 a) ∧ w'.cell? ⟨w.heap.size + 1, 1, none⟩ = some (.int .u64 b)) (first | (go_keep; done) | (simp [go_sem]; done) | (simp [go_sem, *]; done))
    (first
      | (go_at_call 38; refine (keep_any _ _ _ h1 h2 H.out.1 H.out.2).mono ?_; rintro e w1 ⟨rfl, hb⟩; obtain ⟨hc, hf⟩ := bcell hb))
  go_wp2
  refine bodyPost_ret (v := .agg #[.int .i64 n, .int .u64 (low n (a / b))]) (by simp [results, Try.results47, go_sem, hc]) rfl ⟨rfl, ?_⟩
  exact ((below3 (undrew hb)).setCell (by simp; omega) _).setCell (by simp; omega) _

set_option maxHeartbeats 400000 in
theorem remainder_some (n a b : Int) (w : World) (h1 : 1 ≤ n) (h2 : n ≤ 64) (h3 : 0 ≤ a) (_h4 : a < 18446744073709551616) (h5 : 1 ≤ b) (h6 : b < 18446744073709551616) :
    Calls Try.prog 48 #[.agg #[.int .i64 n, .int .u64 a], .agg #[.int .i64 n, .int .u64 b]] w fun e w' => e = .returned (.agg #[.int .i64 n, .int .u64 (low n (a % b))]) ∧ Below w.heap.size w w' := by
  have hr : 0 ≤ a % b ∧ a % b < 18446744073709551616 := ⟨Int.emod_nonneg _ (by omega), by have := Int.emod_lt_of_pos a (show 0 < b by omega); omega⟩
  have hz : (b == 0) = false := by simp; omega
  have hz0 : ¬ b = 0 := by omega
  have ht : a.tmod b = a % b := Int.tmod_eq_emod_of_nonneg h3
  have H := Lib.hid hr; clear hr _h4 h3 h5
  go_enter Try.func48, Try.ntmps48
  go_wp2
  go_region_held3 (fun w' => w'.cell? ⟨w.heap.size, 0, none⟩ = some (.int .i64 n) ∧ w'.cell? ⟨w.heap.size, 1, none⟩ = some (.int .u64 a) ∧ w'.cell? ⟨w.heap.size + 1, 1, none⟩ = some (.int .u64 b)) (first | (go_keep; done) | (simp [go_sem]; done) | (simp [go_sem, *]; done))
    (first
      | (go_at_call 38; refine (keep_any _ _ _ h1 h2 H.out.1 H.out.2).mono ?_; rintro e w1 ⟨rfl, hb⟩; obtain ⟨hc, hf⟩ := bcell hb))
  go_wp2
  refine bodyPost_ret (v := .agg #[.int .i64 n, .int .u64 (low n (a % b))]) (by simp [results, Try.results48, go_sem, hc]) rfl ⟨rfl, ?_⟩
  exact ((below3 (undrew hb)).setCell (by simp; omega) _).setCell (by simp; omega) _

set_option maxHeartbeats 400000 in
theorem remainder_zero (n a : Int) (w : World) :
    Calls Try.prog 48 #[.agg #[.int .i64 n, .int .u64 a], .agg #[.int .i64 n, .int .u64 0]] w fun e w' => e = .returned (.agg #[.int .i64 n, .int .u64 a]) ∧ Below w.heap.size w w' := by
  go_enter Try.func48, Try.ntmps48
  go_wp2
  refine bodyPost_ret (v := .agg #[.int .i64 n, .int .u64 a]) (by simp [results, Try.results48, go_sem]) rfl ⟨rfl, ?_⟩
  exact (((Below.refl _ _).alloc (Nat.le_refl _) _).alloc (by simp) _).alloc (by simp; omega) _

set_option maxHeartbeats 400000 in
theorem cmp_u64 (a b : Int) (w : World) :
    Calls Try.prog 59 #[.int .u64 a, .int .u64 b] w fun e w' => e = .returned (.int .i64 (if a < b then -1 else if b < a then 1 else 0)) ∧ w' = w := by
  by_cases h1 : a < b
  · go_enter Try.func59, Try.ntmps59
    go_wp2
    go_ret
    exact ⟨rfl, rfl⟩
  · by_cases h2 : b < a
    · go_enter Try.func59, Try.ntmps59
      go_wp2
      go_ret
      exact ⟨rfl, rfl⟩
    · go_enter Try.func59, Try.ntmps59
      go_wp2
      go_ret
      exact ⟨rfl, rfl⟩

set_option maxHeartbeats 400000 in
theorem cmp_i64 (a b : Int) (w : World) :
    Calls Try.prog 60 #[.int .i64 a, .int .i64 b] w fun e w' => e = .returned (.int .i64 (if a < b then -1 else if b < a then 1 else 0)) ∧ w' = w := by
  by_cases h1 : a < b
  · go_enter Try.func60, Try.ntmps60
    go_wp2
    go_ret
    exact ⟨rfl, rfl⟩
  · by_cases h2 : b < a
    · go_enter Try.func60, Try.ntmps60
      go_wp2
      go_ret
      exact ⟨rfl, rfl⟩
    · go_enter Try.func60, Try.ntmps60
      go_wp2
      go_ret
      exact ⟨rfl, rfl⟩

end Go.Proofs.Yteibkmignbbekaa
