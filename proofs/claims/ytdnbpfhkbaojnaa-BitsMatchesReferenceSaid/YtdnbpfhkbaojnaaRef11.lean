/- Pairs: bits and the reference answer the same, the rest of the operations. -/
import Derived.Test.YtdnbpfhkbaojnaaRef10
namespace Go.Proofs.Ytdnbpfhkbaojnaa
open Go.RowKit

def BNot (n a x y e : Int) : Prop := ∀ w : World, Calls Try.prog 15 #[.agg #[.int .i64 n, .int .u64 a]] w fun r w' => r = .returned (.tuple #[.agg #[.int .i64 x, .int .u64 y], .int .i64 e]) ∧ Below w.heap.size w w'
def RNot (n a x y e : Int) : Prop := ∀ w : World, Calls Try.prog 16 #[.agg #[.int .i64 n, .int .u64 a]] w fun r w' => r = .returned (.tuple #[.agg #[.int .i64 x, .int .u64 y], .int .i64 e]) ∧ Below w.heap.size w w'
theorem RNot_of {n a x y e z : Int} (h : y = z) (r : RNot n a x z e) : RNot n a x y e := h ▸ r
def BZext (n a m x y e : Int) : Prop := ∀ w : World, Calls Try.prog 17 #[.agg #[.int .i64 n, .int .u64 a], .int .i64 m] w fun r w' => r = .returned (.tuple #[.agg #[.int .i64 x, .int .u64 y], .int .i64 e]) ∧ Below w.heap.size w w'
def RZext (n a m x y e : Int) : Prop := ∀ w : World, Calls Try.prog 18 #[.agg #[.int .i64 n, .int .u64 a], .int .i64 m] w fun r w' => r = .returned (.tuple #[.agg #[.int .i64 x, .int .u64 y], .int .i64 e]) ∧ Below w.heap.size w w'
theorem RZext_of {n a m x y e z : Int} (h : y = z) (r : RZext n a m x z e) : RZext n a m x y e := h ▸ r
def BSext (n a m x y e : Int) : Prop := ∀ w : World, Calls Try.prog 19 #[.agg #[.int .i64 n, .int .u64 a], .int .i64 m] w fun r w' => r = .returned (.tuple #[.agg #[.int .i64 x, .int .u64 y], .int .i64 e]) ∧ Below w.heap.size w w'
def RSext (n a m x y e : Int) : Prop := ∀ w : World, Calls Try.prog 20 #[.agg #[.int .i64 n, .int .u64 a], .int .i64 m] w fun r w' => r = .returned (.tuple #[.agg #[.int .i64 x, .int .u64 y], .int .i64 e]) ∧ Below w.heap.size w w'
theorem RSext_of {n a m x y e z : Int} (h : y = z) (r : RSext n a m x z e) : RSext n a m x y e := h ▸ r
def BPart (n a l m x y e : Int) : Prop := ∀ w : World, Calls Try.prog 21 #[.agg #[.int .i64 n, .int .u64 a], .int .i64 l, .int .i64 m] w fun r w' => r = .returned (.tuple #[.agg #[.int .i64 x, .int .u64 y], .int .i64 e]) ∧ Below w.heap.size w w'
def RPart (n a l m x y e : Int) : Prop := ∀ w : World, Calls Try.prog 22 #[.agg #[.int .i64 n, .int .u64 a], .int .i64 l, .int .i64 m] w fun r w' => r = .returned (.tuple #[.agg #[.int .i64 x, .int .u64 y], .int .i64 e]) ∧ Below w.heap.size w w'
theorem RPart_of {n a l m x y e z : Int} (h : y = z) (r : RPart n a l m x z e) : RPart n a l m x y e := h ▸ r
def BJoin (n a m b x y e : Int) : Prop := ∀ w : World, Calls Try.prog 23 #[.agg #[.int .i64 n, .int .u64 a], .agg #[.int .i64 m, .int .u64 b]] w fun r w' => r = .returned (.tuple #[.agg #[.int .i64 x, .int .u64 y], .int .i64 e]) ∧ Below w.heap.size w w'
def RJoin (n a m b x y e : Int) : Prop := ∀ w : World, Calls Try.prog 24 #[.agg #[.int .i64 n, .int .u64 a], .agg #[.int .i64 m, .int .u64 b]] w fun r w' => r = .returned (.tuple #[.agg #[.int .i64 x, .int .u64 y], .int .i64 e]) ∧ Below w.heap.size w w'
theorem RJoin_of {n a m b x y e z : Int} (h : y = z) (r : RJoin n a m b x z e) : RJoin n a m b x y e := h ▸ r
theorem not_pair (n a : Int) (a0 : 0 ≤ a) : ∃ x y e : Int, BNot n a x y e ∧ RNot n a x y e := by
  cases ha : vB n a with
  | false => exact ⟨0, 0, 1, fun w => not_no n a w ha, fun w => rnot_no n a w a0 ha⟩
  | true =>
    obtain ⟨n1, n2, a1⟩ := (vB_iff n a).1 ha
    exact ⟨n, _, 0, fun w => not_yes n a w ha, RNot_of (not_low n a n2 (by omega) a0 a1).symm (fun w => rnot_yes n a w a0 ha)⟩
theorem zext_pair (n a m : Int) (a0 : 0 ≤ a) : ∃ x y e : Int, BZext n a m x y e ∧ RZext n a m x y e := by
  cases ha : vB n a with
  | false => exact ⟨0, 0, 1, fun w => zext_valid n a m w ha, fun w => rzext_valid n a m w a0 ha⟩
  | true =>
    obtain ⟨n1, n2, a1⟩ := (vB_iff n a).1 ha
    by_cases m1 : m < 1
    · exact ⟨0, 0, 1, fun w => zext_range n a m w ha (by omega), fun w => rzext_low n a m w a0 ha m1⟩
    · by_cases m2 : 64 < m
      · exact ⟨0, 0, 1, fun w => zext_range n a m w ha (by omega), fun w => rzext_high n a m w a0 ha m1 m2⟩
      · by_cases hn : m < n
        · exact ⟨0, 0, 13, fun w => zext_width n a m w ha (by omega) hn, fun w => rzext_width n a m w a0 ha m1 m2 hn⟩
        · have hk := pow_le n.toNat m.toNat (by omega)
          have e : low m a = a := Int.emod_eq_of_lt a0 (by omega)
          exact ⟨m, _, 0, fun w => zext_ok n a m w ha a0 (by omega) (by omega), RZext_of e (fun w => rzext_ok n a m w a0 ha m1 m2 hn)⟩
theorem sext_pair (n a m : Int) (a0 : 0 ≤ a) : ∃ x y e : Int, BSext n a m x y e ∧ RSext n a m x y e := by
  cases ha : vB n a with
  | false => exact ⟨0, 0, 1, fun w => sext_valid n a m w ha, fun w => rsext_valid n a m w a0 ha⟩
  | true =>
    obtain ⟨n1, n2, a1⟩ := (vB_iff n a).1 ha
    by_cases m1 : m < 1
    · exact ⟨0, 0, 1, fun w => sext_range n a m w ha (by omega), fun w => rsext_low n a m w a0 ha m1⟩
    · by_cases m2 : 64 < m
      · exact ⟨0, 0, 1, fun w => sext_range n a m w ha (by omega), fun w => rsext_high n a m w a0 ha m1 m2⟩
      · by_cases hn : m < n
        · exact ⟨0, 0, 13, fun w => sext_width n a m w ha (by omega) hn, fun w => rsext_width n a m w a0 ha m1 m2 hn⟩
        · exact ⟨m, _, 0, fun w => sext_ok n a m w ha (by omega) (by omega), fun w => rsext_walk n a m w a0 ha m1 m2 hn (Lib.hid (sext_start n a n1 n2 a0 a1)) (Lib.hid (fun k k1 k2 => sext_step n a k n1 n2 k1 (by omega) a0 a1))⟩
theorem part_pair (n a l m : Int) (a0 : 0 ≤ a) : ∃ x y e : Int, BPart n a l m x y e ∧ RPart n a l m x y e := by
  cases ha : vB n a with
  | false => exact ⟨0, 0, 1, fun w => part_valid n a l m w ha, fun w => rpart_valid n a l m w a0 ha⟩
  | true =>
    obtain ⟨n1, n2, a1⟩ := (vB_iff n a).1 ha
    by_cases hl : l < 0
    · exact ⟨0, 0, 1, fun w => part_low n a l m w ha hl, fun w => rpart_l n a l m w a0 ha hl⟩
    · by_cases m1 : m < 1
      · exact ⟨0, 0, 1, fun w => part_range n a l m w ha hl (by omega), fun w => rpart_low n a l m w a0 ha hl m1⟩
      · by_cases m2 : 64 < m
        · exact ⟨0, 0, 1, fun w => part_range n a l m w ha hl (by omega), fun w => rpart_high n a l m w a0 ha hl m1 m2⟩
        · by_cases hw : n < m
          · exact ⟨0, 0, 13, fun w => part_width n a l m w ha hl (by omega) (by omega) (by omega), fun w => rpart_w1 n a l m w a0 ha hl m1 m2 hw⟩
          · by_cases hw2 : n - m < l
            · exact ⟨0, 0, 13, fun w => part_width n a l m w ha hl (by omega) (by omega) (by omega), fun w => rpart_w2 n a l m w a0 ha hl m1 m2 hw hw2⟩
            · exact ⟨m, _, 0, fun w => part_ok n a l m w ha a0 (by omega) (by omega) (by omega), fun w => rpart_ok n a l m w a0 ha hl m1 m2 hw hw2⟩
theorem join_pair (n a m b : Int) (a0 : 0 ≤ a) (b0 : 0 ≤ b) : ∃ x y e : Int, BJoin n a m b x y e ∧ RJoin n a m b x y e := by
  cases ha : vB n a with
  | false =>
    cases hb : vB m b with
    | false => exact ⟨0, 0, 1, fun w => join_valid1 n a m b w ha, fun w => rjoin_ab n a m b w a0 b0 ha hb⟩
    | true => exact ⟨0, 0, 1, fun w => join_valid1 n a m b w ha, fun w => rjoin_a n a m b w a0 b0 ha hb⟩
  | true =>
    cases hb : vB m b with
    | false => exact ⟨0, 0, 1, fun w => join_valid2 n a m b w ha hb, fun w => rjoin_b n a m b w a0 b0 ha hb⟩
    | true =>
      obtain ⟨n1, n2, a1⟩ := (vB_iff n a).1 ha
      obtain ⟨m1, m2, b1⟩ := (vB_iff m b).1 hb
      by_cases hn : 64 < n + m
      · exact ⟨0, 0, 13, fun w => join_width n a m b w ha hb hn, fun w => rjoin_w n a m b w a0 b0 ha hb hn⟩
      · exact ⟨n + m, _, 0, fun w => join_ok n a m b w ha hb (by omega), RJoin_of (join_bits n a m b (by omega) (by omega) (by omega) a0 a1 b0 b1).symm (fun w => rjoin_ok n a m b w a0 b0 ha hb hn)⟩
end Go.Proofs.Ytdnbpfhkbaojnaa
