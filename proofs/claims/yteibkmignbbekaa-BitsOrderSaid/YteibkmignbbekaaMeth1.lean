/- The contracts of the operators' methods of package bits. -/
import Derived.Test.YteibkmignbbekaaLeaf
import Derived.Laws.Shifts
namespace Go.Proofs.Yteibkmignbbekaa
open Go.RowKit

theorem wrap_range (x : Int) : 0 ≤ IntKind.u64.wrap x ∧ IntKind.u64.wrap x < 18446744073709551616 := by
  rw [IntKind.wrap_u64]; omega

theorem low_wrap (n x : Int) (h2 : n ≤ 64) : low n (IntKind.u64.wrap x) = low n x := by
  rw [IntKind.wrap_u64]; unfold low
  have e : (18446744073709551616 : Int) = 2 ^ 64 := by decide
  rw [e]
  exact Int.emod_emod_of_dvd _ (by
    have : (2 : Int) ^ 64 = 2 ^ n.toNat * 2 ^ (64 - n.toNat) := by rw [← Int.pow_add]; congr 1; omega
    exact ⟨_, this⟩)

theorem keep_wrap (n x : Int) (w : World) (h1 : 1 ≤ n) (h2 : n ≤ 64) :
    Calls Try.prog 38 #[.int .i64 n, .int .u64 (IntKind.u64.wrap x)] w fun e w' => e = .returned (.agg #[.int .i64 n, .int .u64 (low n x)]) ∧ Below w.heap.size w w' := by
  rw [← low_wrap n x h2]
  exact keep_any n _ w h1 h2 (wrap_range x).1 (wrap_range x).2

theorem bits_range (op : BinOp) (a b : Int) : 0 ≤ bits op .u64 a b ∧ bits op .u64 a b < 18446744073709551616 := wrap_range _

/-- One, two, three new blocks, and what a call made behind them. -/
theorem below1 {w w1 : World} {o1 : Obj} (hb : Below (w.alloc o1).heap.size (w.alloc o1) w1) : Below w.heap.size w w1 :=
  ((Below.refl _ _).alloc (Nat.le_refl _) o1).trans (hb.mono (by simp))
theorem below2 {w w1 : World} {o1 o2 : Obj} (hb : Below ((w.alloc o1).alloc o2).heap.size ((w.alloc o1).alloc o2) w1) : Below w.heap.size w w1 :=
  (((Below.refl _ _).alloc (Nat.le_refl _) o1).alloc (by simp) o2).trans (hb.mono (by simp; omega))
theorem below3 {w w1 : World} {o1 o2 o3 : Obj} (hb : Below (((w.alloc o1).alloc o2).alloc o3).heap.size (((w.alloc o1).alloc o2).alloc o3) w1) : Below w.heap.size w w1 :=
  ((((Below.refl _ _).alloc (Nat.le_refl _) o1).alloc (by simp) o2).alloc (by simp; omega) o3).trans (hb.mono (by simp; omega))

set_option maxHeartbeats 400000 in
theorem sum_any (n a b : Int) (w : World) (h1 : 1 ≤ n) (h2 : n ≤ 64) :
    Calls Try.prog 44 #[.agg #[.int .i64 n, .int .u64 a], .agg #[.int .i64 n, .int .u64 b]] w fun e w' => e = .returned (.agg #[.int .i64 n, .int .u64 (low n (a + b))]) ∧ Below w.heap.size w w' := by
  go_enter Try.func44, Try.ntmps44
  go_wp2_with fail
  refine (keep_wrap _ _ _ h1 h2).mono ?_
  rintro e w1 ⟨rfl, hb⟩
  obtain ⟨hc, hf⟩ := bcell hb
  go_wp2
  refine bodyPost_ret (v := .agg #[.int .i64 n, .int .u64 (low n (a + b))]) (by simp [results, Try.results44, go_sem, hc]) rfl ⟨rfl, ?_⟩
  exact ((below3 hb).setCell (by simp; omega) _).setCell (by simp; omega) _

set_option maxHeartbeats 400000 in
theorem difference_any (n a b : Int) (w : World) (h1 : 1 ≤ n) (h2 : n ≤ 64) :
    Calls Try.prog 45 #[.agg #[.int .i64 n, .int .u64 a], .agg #[.int .i64 n, .int .u64 b]] w fun e w' => e = .returned (.agg #[.int .i64 n, .int .u64 (low n (a - b))]) ∧ Below w.heap.size w w' := by
  go_enter Try.func45, Try.ntmps45
  go_wp2_with fail
  refine (keep_wrap _ _ _ h1 h2).mono ?_
  rintro e w1 ⟨rfl, hb⟩
  obtain ⟨hc, hf⟩ := bcell hb
  go_wp2
  refine bodyPost_ret (v := .agg #[.int .i64 n, .int .u64 (low n (a - b))]) (by simp [results, Try.results45, go_sem, hc]) rfl ⟨rfl, ?_⟩
  exact ((below3 hb).setCell (by simp; omega) _).setCell (by simp; omega) _

set_option maxHeartbeats 400000 in
theorem product_any (n a b : Int) (w : World) (h1 : 1 ≤ n) (h2 : n ≤ 64) :
    Calls Try.prog 46 #[.agg #[.int .i64 n, .int .u64 a], .agg #[.int .i64 n, .int .u64 b]] w fun e w' => e = .returned (.agg #[.int .i64 n, .int .u64 (low n (a * b))]) ∧ Below w.heap.size w w' := by
  go_enter Try.func46, Try.ntmps46
  go_wp2_with fail
  refine (keep_wrap _ _ _ h1 h2).mono ?_
  rintro e w1 ⟨rfl, hb⟩
  obtain ⟨hc, hf⟩ := bcell hb
  go_wp2
  refine bodyPost_ret (v := .agg #[.int .i64 n, .int .u64 (low n (a * b))]) (by simp [results, Try.results46, go_sem, hc]) rfl ⟨rfl, ?_⟩
  exact ((below3 hb).setCell (by simp; omega) _).setCell (by simp; omega) _

set_option maxHeartbeats 400000 in
theorem and_any (n a b : Int) (w : World) (h1 : 1 ≤ n) (h2 : n ≤ 64) :
    Calls Try.prog 49 #[.agg #[.int .i64 n, .int .u64 a], .agg #[.int .i64 n, .int .u64 b]] w fun e w' => e = .returned (.agg #[.int .i64 n, .int .u64 (low n (bits .and .u64 a b))]) ∧ Below w.heap.size w w' := by
  go_enter Try.func49, Try.ntmps49
  go_wp2_with fail
  refine (keep_any _ _ _ h1 h2 (bits_range .and a b).1 (bits_range .and a b).2).mono ?_
  rintro e w1 ⟨rfl, hb⟩
  obtain ⟨hc, hf⟩ := bcell hb
  go_wp2
  refine bodyPost_ret (v := .agg #[.int .i64 n, .int .u64 (low n (bits .and .u64 a b))]) (by simp [results, Try.results49, go_sem, hc]) rfl ⟨rfl, ?_⟩
  exact ((below3 hb).setCell (by simp; omega) _).setCell (by simp; omega) _

set_option maxHeartbeats 400000 in
theorem or_any (n a b : Int) (w : World) (h1 : 1 ≤ n) (h2 : n ≤ 64) :
    Calls Try.prog 50 #[.agg #[.int .i64 n, .int .u64 a], .agg #[.int .i64 n, .int .u64 b]] w fun e w' => e = .returned (.agg #[.int .i64 n, .int .u64 (low n (bits .or .u64 a b))]) ∧ Below w.heap.size w w' := by
  go_enter Try.func50, Try.ntmps50
  go_wp2_with fail
  refine (keep_any _ _ _ h1 h2 (bits_range .or a b).1 (bits_range .or a b).2).mono ?_
  rintro e w1 ⟨rfl, hb⟩
  obtain ⟨hc, hf⟩ := bcell hb
  go_wp2
  refine bodyPost_ret (v := .agg #[.int .i64 n, .int .u64 (low n (bits .or .u64 a b))]) (by simp [results, Try.results50, go_sem, hc]) rfl ⟨rfl, ?_⟩
  exact ((below3 hb).setCell (by simp; omega) _).setCell (by simp; omega) _

set_option maxHeartbeats 400000 in
theorem xor_any (n a b : Int) (w : World) (h1 : 1 ≤ n) (h2 : n ≤ 64) :
    Calls Try.prog 51 #[.agg #[.int .i64 n, .int .u64 a], .agg #[.int .i64 n, .int .u64 b]] w fun e w' => e = .returned (.agg #[.int .i64 n, .int .u64 (low n (bits .xor .u64 a b))]) ∧ Below w.heap.size w w' := by
  go_enter Try.func51, Try.ntmps51
  go_wp2_with fail
  refine (keep_any _ _ _ h1 h2 (bits_range .xor a b).1 (bits_range .xor a b).2).mono ?_
  rintro e w1 ⟨rfl, hb⟩
  obtain ⟨hc, hf⟩ := bcell hb
  go_wp2
  refine bodyPost_ret (v := .agg #[.int .i64 n, .int .u64 (low n (bits .xor .u64 a b))]) (by simp [results, Try.results51, go_sem, hc]) rfl ⟨rfl, ?_⟩
  exact ((below3 hb).setCell (by simp; omega) _).setCell (by simp; omega) _

set_option maxHeartbeats 400000 in
theorem shiftedUp_any (n a b : Int) (w : World) (h1 : 1 ≤ n) (h2 : n ≤ 64) (hb0 : 0 ≤ b) :
    Calls Try.prog 52 #[.agg #[.int .i64 n, .int .u64 a], .agg #[.int .i64 n, .int .u64 b]] w fun e w' => e = .returned (.agg #[.int .i64 n, .int .u64 (low n (a * 2 ^ min b.toNat 64))]) ∧ Below w.heap.size w w' := by
  go_enter Try.func52, Try.ntmps52
  go_wp2_with fail
  refine (keep_wrap _ _ _ h1 h2).mono ?_
  rintro e w1 ⟨rfl, hb⟩
  obtain ⟨hc, hf⟩ := bcell hb
  go_wp2
  refine bodyPost_ret (v := .agg #[.int .i64 n, .int .u64 (low n (a * 2 ^ min b.toNat 64))]) (by simp [results, Try.results52, go_sem, hc]) rfl ⟨rfl, ?_⟩
  exact ((below3 hb).setCell (by simp; omega) _).setCell (by simp; omega) _

theorem shr_range (a b : Int) (h3 : 0 ≤ a) (h4 : a < 18446744073709551616) : 0 ≤ a / 2 ^ min b.toNat 64 ∧ a / 2 ^ min b.toNat 64 < 18446744073709551616 := by
  have p : (0 : Int) < 2 ^ min b.toNat 64 := Int.pow_pos (by decide)
  refine ⟨Int.ediv_nonneg h3 (by omega), ?_⟩
  exact Int.lt_of_le_of_lt (Int.ediv_le_self _ h3) h4

set_option maxHeartbeats 400000 in
theorem shiftedDown_any (n a b : Int) (w : World) (h1 : 1 ≤ n) (h2 : n ≤ 64) (hb0 : 0 ≤ b) (h3 : 0 ≤ a) (h4 : a < 18446744073709551616) :
    Calls Try.prog 53 #[.agg #[.int .i64 n, .int .u64 a], .agg #[.int .i64 n, .int .u64 b]] w fun e w' => e = .returned (.agg #[.int .i64 n, .int .u64 (low n (a / 2 ^ min b.toNat 64))]) ∧ Below w.heap.size w w' := by
  have H := Lib.hid (shr_range a b h3 h4)
  clear h3 h4
  go_enter Try.func53, Try.ntmps53
  go_wp2_with fail
  refine (keep_any _ _ _ h1 h2 H.out.1 H.out.2).mono ?_
  rintro e w1 ⟨rfl, hb⟩
  obtain ⟨hc, hf⟩ := bcell hb
  go_wp2
  refine bodyPost_ret (v := .agg #[.int .i64 n, .int .u64 (low n (a / 2 ^ min b.toNat 64))]) (by simp [results, Try.results53, go_sem, hc]) rfl ⟨rfl, ?_⟩
  exact ((below3 hb).setCell (by simp; omega) _).setCell (by simp; omega) _

end Go.Proofs.Yteibkmignbbekaa
