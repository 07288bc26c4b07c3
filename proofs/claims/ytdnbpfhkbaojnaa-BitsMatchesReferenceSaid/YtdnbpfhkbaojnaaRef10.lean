/- Pairs: bits and the reference answer the same. -/
import Derived.Test.YtdnbpfhkbaojnaaRef9
import Derived.Test.YtdnbpfhkbaojnaaRef4
import Derived.Test.YtdnbpfhkbaojnaaRef5
import Derived.Test.YtdnbpfhkbaojnaaRef6
import Derived.Test.YtdnbpfhkbaojnaaBin
import Derived.Test.YtdnbpfhkbaojnaaErr
import Derived.Test.YtdnbpfhkbaojnaaJoin
namespace Go.Proofs.Ytdnbpfhkbaojnaa
open Go.RowKit

theorem low2 (n x : Int) : low n (low n x) = low n x := by unfold low; exact Int.emod_emod_of_dvd _ (Int.dvd_refl _)
theorem low0 (n x : Int) : 0 ≤ low n x := Int.emod_nonneg _ (by have := p2 n.toNat; omega)
def BB (op n a m b x y e : Int) : Prop := ∀ w : World, Calls Try.prog 11 #[.int .i64 op, .agg #[.int .i64 n, .int .u64 a], .agg #[.int .i64 m, .int .u64 b]] w fun r w' => r = .returned (.tuple #[.agg #[.int .i64 x, .int .u64 y], .int .i64 e]) ∧ Below w.heap.size w w'
def RB (op n a m b x y e : Int) : Prop := ∀ w : World, Calls Try.prog 12 #[.int .i64 op, .agg #[.int .i64 n, .int .u64 a], .agg #[.int .i64 m, .int .u64 b]] w fun r w' => r = .returned (.tuple #[.agg #[.int .i64 x, .int .u64 y], .int .i64 e]) ∧ Below w.heap.size w w'
theorem RB_of {op n a m b x y e z : Int} (h : y = z) (r : RB op n a m b x z e) : RB op n a m b x y e := h ▸ r
theorem bin_same (op n a b : Int) (a0 : 0 ≤ a) (b0 : 0 ≤ b) (ho : 2 ≤ op ∧ op ≤ 14) (ha : vB n a = true) (hb : vB n b = true) :
    ∃ x y e : Int, BB op n a n b x y e ∧ RB op n a n b x y e := by
  obtain ⟨n1, n2, a1⟩ := (vB_iff n a).1 ha
  obtain ⟨_, _, b1⟩ := (vB_iff n b).1 hb
  by_cases hs : b < 64
  · obtain rfl | rfl | rfl | rfl | rfl | rfl | rfl | rfl | rfl | rfl | rfl | rfl | rfl : op = 2 ∨ op = 3 ∨ op = 4 ∨ op = 5 ∨ op = 6 ∨ op = 7 ∨ op = 8 ∨ op = 9 ∨ op = 10 ∨ op = 11 ∨ op = 12 ∨ op = 13 ∨ op = 14 := by omega
    · exact ⟨n, _, 0, fun w => bin_2 n a b w ha hb, RB_of (low_wrap n _ n2).symm (fun w => rbin_2_lt n a b w a0 b0 ha hb hs)⟩
    · exact ⟨n, _, 0, fun w => bin_3 n a b w ha hb, RB_of (low_wrap n _ n2).symm (fun w => rbin_3_lt n a b w a0 b0 ha hb hs)⟩
    · exact ⟨n, _, 0, fun w => bin_4 n a b w ha hb, RB_of (low_wrap n _ n2).symm (fun w => rbin_4_lt n a b w a0 b0 ha hb hs)⟩
    · by_cases hz : b = 0
      · subst hz
        exact ⟨n, _, 0, fun w => bin_5_zero n a w ha hb, RB_of (hi_low n n2).symm (fun w => rbin_5_zero n a w a0 ha hb)⟩
      · exact ⟨n, _, 0, fun w => bin_5_some n a b w ha hb a0 (by omega), RB_of rfl (fun w => rbin_5_lt n a b w a0 b0 ha hb hs (by omega))⟩
    · by_cases hz : b = 0
      · subst hz
        exact ⟨n, _, 0, fun w => bin_6_zero n a w ha hb, RB_of (low_id ha a0).symm (fun w => rbin_6_zero n a w a0 ha hb)⟩
      · exact ⟨n, _, 0, fun w => bin_6_some n a b w ha hb a0 (by omega), RB_of rfl (fun w => rbin_6_lt n a b w a0 b0 ha hb hs (by omega))⟩
    · exact ⟨n, _, 0, fun w => bin_7 n a b w ha hb, RB_of rfl (fun w => rbin_7_lt n a b w a0 b0 ha hb hs)⟩
    · exact ⟨n, _, 0, fun w => bin_8 n a b w ha hb, RB_of rfl (fun w => rbin_8_lt n a b w a0 b0 ha hb hs)⟩
    · exact ⟨n, _, 0, fun w => bin_9 n a b w ha hb, RB_of rfl (fun w => rbin_9_lt n a b w a0 b0 ha hb hs)⟩
    · exact ⟨n, _, 0, fun w => bin_10 n a b w ha hb a0 b0, RB_of (low2 n _).symm (fun w => rbin_10_lt n a b w a0 b0 ha hb hs (low n (a * 2 ^ min b.toNat 64)) (low0 n _) (low2 n _) (Lib.hid (fun i i0 hi => shl_near n a b i b0 hs i0 hi a0 a1)))⟩
    · exact ⟨n, _, 0, fun w => bin_11 n a b w ha hb a0 b0, RB_of (low2 n _).symm (fun w => rbin_11_lt n a b w a0 b0 ha hb hs (low n (a / 2 ^ min b.toNat 64)) (low0 n _) (low2 n _) (Lib.hid (fun i i0 hi => shr_near n a b i b0 hs i0 hi (by omega) a0 a1)))⟩
    · exact ⟨1, _, 0, fun w => bin_12 n a b w ha hb, RB_of (eq_bit a b).symm (fun w => rbin_12_lt n a b w a0 b0 ha hb hs)⟩
    · exact ⟨1, _, 0, fun w => bin_13 n a b w ha hb, RB_of (lt_bit a b).symm (fun w => rbin_13_lt n a b w a0 b0 ha hb hs)⟩
    · refine ⟨1, _, 0, fun w => bin_14 n a b w ha hb, ?_⟩
      cases h : (bitV a (n - 1) != bitV b (n - 1)) with
      | false => exact RB_of (slt_same n a b n1 n2 a0 a1 b0 b1 h).symm (fun w => rbin_14_lt_same n a b w a0 b0 ha hb hs h)
      | true => exact RB_of (slt_other n a b n1 n2 a0 a1 b0 b1 h).symm (fun w => rbin_14_lt_other n a b w a0 b0 ha hb hs h)
  · obtain rfl | rfl | rfl | rfl | rfl | rfl | rfl | rfl | rfl | rfl | rfl | rfl | rfl : op = 2 ∨ op = 3 ∨ op = 4 ∨ op = 5 ∨ op = 6 ∨ op = 7 ∨ op = 8 ∨ op = 9 ∨ op = 10 ∨ op = 11 ∨ op = 12 ∨ op = 13 ∨ op = 14 := by omega
    · exact ⟨n, _, 0, fun w => bin_2 n a b w ha hb, RB_of (low_wrap n _ n2).symm (fun w => rbin_2_ge n a b w a0 b0 ha hb hs)⟩
    · exact ⟨n, _, 0, fun w => bin_3 n a b w ha hb, RB_of (low_wrap n _ n2).symm (fun w => rbin_3_ge n a b w a0 b0 ha hb hs)⟩
    · exact ⟨n, _, 0, fun w => bin_4 n a b w ha hb, RB_of (low_wrap n _ n2).symm (fun w => rbin_4_ge n a b w a0 b0 ha hb hs)⟩
    · by_cases hz : b = 0
      · subst hz
        exact ⟨n, _, 0, fun w => bin_5_zero n a w ha hb, RB_of (hi_low n n2).symm (fun w => rbin_5_zero n a w a0 ha hb)⟩
      · exact ⟨n, _, 0, fun w => bin_5_some n a b w ha hb a0 (by omega), RB_of rfl (fun w => rbin_5_ge n a b w a0 b0 ha hb hs (by omega))⟩
    · by_cases hz : b = 0
      · subst hz
        exact ⟨n, _, 0, fun w => bin_6_zero n a w ha hb, RB_of (low_id ha a0).symm (fun w => rbin_6_zero n a w a0 ha hb)⟩
      · exact ⟨n, _, 0, fun w => bin_6_some n a b w ha hb a0 (by omega), RB_of rfl (fun w => rbin_6_ge n a b w a0 b0 ha hb hs (by omega))⟩
    · exact ⟨n, _, 0, fun w => bin_7 n a b w ha hb, RB_of rfl (fun w => rbin_7_ge n a b w a0 b0 ha hb hs)⟩
    · exact ⟨n, _, 0, fun w => bin_8 n a b w ha hb, RB_of rfl (fun w => rbin_8_ge n a b w a0 b0 ha hb hs)⟩
    · exact ⟨n, _, 0, fun w => bin_9 n a b w ha hb, RB_of rfl (fun w => rbin_9_ge n a b w a0 b0 ha hb hs)⟩
    · exact ⟨n, _, 0, fun w => bin_10 n a b w ha hb a0 b0, RB_of (low2 n _).symm (fun w => rbin_10_ge n a b w a0 b0 ha hb hs (low n (a * 2 ^ min b.toNat 64)) (low0 n _) (low2 n _) (Lib.hid (fun i i0 hi => shl_far n a b i (by omega) i0 hi a0 a1)))⟩
    · exact ⟨n, _, 0, fun w => bin_11 n a b w ha hb a0 b0, RB_of (low2 n _).symm (fun w => rbin_11_ge n a b w a0 b0 ha hb hs (low n (a / 2 ^ min b.toNat 64)) (low0 n _) (low2 n _) (Lib.hid (fun i i0 hi => shr_far n a b i (by omega) i0 hi (by omega) a0 a1)))⟩
    · exact ⟨1, _, 0, fun w => bin_12 n a b w ha hb, RB_of (eq_bit a b).symm (fun w => rbin_12_ge n a b w a0 b0 ha hb hs)⟩
    · exact ⟨1, _, 0, fun w => bin_13 n a b w ha hb, RB_of (lt_bit a b).symm (fun w => rbin_13_ge n a b w a0 b0 ha hb hs)⟩
    · refine ⟨1, _, 0, fun w => bin_14 n a b w ha hb, ?_⟩
      cases h : (bitV a (n - 1) != bitV b (n - 1)) with
      | false => exact RB_of (slt_same n a b n1 n2 a0 a1 b0 b1 h).symm (fun w => rbin_14_ge_same n a b w a0 b0 ha hb hs h)
      | true => exact RB_of (slt_other n a b n1 n2 a0 a1 b0 b1 h).symm (fun w => rbin_14_ge_other n a b w a0 b0 ha hb hs h)
theorem bin_pair (op n a m b : Int) (a0 : 0 ≤ a) (b0 : 0 ≤ b) : ∃ x y e : Int, BB op n a m b x y e ∧ RB op n a m b x y e := by
  by_cases ho : 2 ≤ op ∧ op ≤ 14
  · cases ha : vB n a with
    | false => exact ⟨0, 0, 1, fun w => binE_a op n a m b w ho ha, fun w => rbin_a op n a m b w a0 b0 ho ha⟩
    | true =>
      cases hb : vB m b with
      | false => exact ⟨0, 0, 1, fun w => binE_b op n a m b w ho ha hb, fun w => rbin_b op n a m b w a0 b0 ho ha hb⟩
      | true =>
        by_cases hn : n = m
        · subst hn; exact bin_same op n a b a0 b0 ho ha hb
        · exact ⟨0, 0, 13, fun w => binE_w op n a m b w ho ha hb hn, fun w => rbin_w op n a m b w a0 b0 ho ha hb hn⟩
  · exact ⟨0, 0, 1, fun w => binE_op op n a m b w ho, fun w => rbin_op op n a m b w a0 b0 ho⟩
end Go.Proofs.Ytdnbpfhkbaojnaa
