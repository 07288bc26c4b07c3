/- The equalities between the answers of bits and the answers of the reference. -/
import Derived.Test.YtdnbpfhkbaojnaaRef7
import Derived.Test.YtdnbpfhkbaojnaaRef8
import Derived.Test.YtdnbpfhkbaojnaaOrderM
import Derived.Test.YtdnbpfhkbaojnaaLogicP
import Derived.Test.YtdnbpfhkbaojnaaRest
import Derived.Test.YtdnbpfhkbaojnaaMeth3
namespace Go.Proofs.Ytdnbpfhkbaojnaa
open Go.RowKit

theorem eq_bit (a b : Int) : bit (a == b) = bit (cmpI a b == 0) := by
  rw [cmp_eq]; congr 1
theorem lt_bit (a b : Int) : bit (decide (a < b)) = bit (cmpI a b == (-1)) := by rw [cmp_lt]
theorem slt_same (n a b : Int) (n1 : 1 ≤ n) (n2 : n ≤ 64) (a0 : 0 ≤ a) (a1 : a < 2 ^ n.toNat) (b0 : 0 ≤ b) (b1 : b < 2 ^ n.toNat)
    (h : (bitV a (n - 1) != bitV b (n - 1)) = false) : bit (decide (a < b)) = bit (cmpI (sgn n a) (sgn n b) == (-1)) := by
  rw [cmp_lt, sgn_eq n a n1 n2 a0 a1, sgn_eq n b n1 n2 b0 b1]
  rw [top_bit n a n1 a0 a1, top_bit n b n1 b0 b1] at h
  by_cases ha : a < 2 ^ (n - 1).toNat
  · by_cases hb : b < 2 ^ (n - 1).toNat
    · rw [if_pos ha, if_pos hb]
    · rw [if_pos ha, if_neg hb] at h; exact absurd h (by decide)
  · by_cases hb : b < 2 ^ (n - 1).toNat
    · rw [if_neg ha, if_pos hb] at h; exact absurd h (by decide)
    · rw [if_neg ha, if_neg hb]; congr 1; exact decide_eq_decide.2 (by omega)
theorem slt_other (n a b : Int) (n1 : 1 ≤ n) (n2 : n ≤ 64) (a0 : 0 ≤ a) (a1 : a < 2 ^ n.toNat) (b0 : 0 ≤ b) (b1 : b < 2 ^ n.toNat)
    (h : (bitV a (n - 1) != bitV b (n - 1)) = true) : bit (decide (bitV b (n - 1) < bitV a (n - 1))) = bit (cmpI (sgn n a) (sgn n b) == (-1)) := by
  rw [cmp_lt, sgn_eq n a n1 n2 a0 a1, sgn_eq n b n1 n2 b0 b1]
  rw [top_bit n a n1 a0 a1, top_bit n b n1 b0 b1] at h ⊢
  by_cases ha : a < 2 ^ (n - 1).toNat
  · by_cases hb : b < 2 ^ (n - 1).toNat
    · rw [if_pos ha, if_pos hb] at h; exact absurd h (by decide)
    · rw [if_pos ha, if_neg hb, if_pos ha, if_neg hb]; congr 1; exact decide_eq_decide.2 (by omega)
  · by_cases hb : b < 2 ^ (n - 1).toNat
    · rw [if_neg ha, if_pos hb, if_neg ha, if_pos hb]; congr 1; exact decide_eq_decide.2 (by omega)
    · rw [if_neg ha, if_neg hb] at h; exact absurd h (by decide)
theorem hi_low (n : Int) (n2 : n ≤ 64) : low n 18446744073709551615 = low n (hiw n) := by
  unfold low hiw
  have s := pow_split n.toNat 64 (by omega)
  have e64 : (2 : Int) ^ 64 = 18446744073709551616 := by decide
  have e : (18446744073709551615 : Int) = (2 ^ n.toNat - 1) + 2 ^ n.toNat * (2 ^ (64 - n.toNat) - 1) := by
    rw [Int.mul_sub, ← s, e64]; omega
  rw [e, Int.add_mul_emod_self_left]
theorem join_bits (n a m b : Int) (n0 : 0 ≤ n) (m0 : 0 ≤ m) (h : n + m ≤ 64) (a0 : 0 ≤ a) (a1 : a < 2 ^ n.toNat) (b0 : 0 ≤ b) (b1 : b < 2 ^ m.toNat) :
    IntKind.u64.wrap (IntKind.u64.wrap (a * 2 ^ m.toNat) + b) = joinV n a m b := by
  obtain ⟨e, l⟩ := joinV_eq n a m b n0 m0 h a0 a1 b0 b1
  have e64 : (2 : Int) ^ 64 = 18446744073709551616 := by decide
  have hk := pow_le (n + m).toNat 64 (by omega)
  have hm := Int.mul_nonneg a0 (Int.le_of_lt (p2 m.toNat))
  rw [e, wrap_small _ hm (by omega), wrap_small _ (by omega) (by omega)]
theorem not_low (n a : Int) (n2 : n ≤ 64) (n0 : 0 ≤ n) (a0 : 0 ≤ a) (a1 : a < 2 ^ n.toNat) :
    low n (18446744073709551615 - a) = low n (bits .xor .u64 IntKind.u64.max a) := by
  obtain ⟨A, rfl⟩ := Int.eq_ofNat_of_zero_le a0
  have e64 : (2 : Int) ^ 64 = 18446744073709551616 := by decide
  have hk := pow_le n.toNat 64 (by omega)
  have aN : A < 2 ^ n.toNat := by have := pow_cast' n.toNat; omega
  rw [not_nat n A (by omega)]
  have hx := nx_add n.toNat A (by omega) aN
  have hp := p2 n.toNat
  have hc := pow_cast' n.toNat
  have hn : (nx n.toNat A : Int) = 2 ^ n.toNat - 1 - (A : Int) := by omega
  have s := pow_split n.toNat 64 (by omega)
  have e : (18446744073709551615 : Int) - (A : Int) = (2 ^ n.toNat - 1 - (A : Int)) + 2 ^ n.toNat * (2 ^ (64 - n.toNat) - 1) := by
    rw [Int.mul_sub, ← s, e64]; omega
  unfold low
  rw [hn, e, Int.add_mul_emod_self_left]
  exact Int.emod_eq_of_lt (by omega) (by omega)
theorem shl_far (n a y i : Int) (y0 : 64 ≤ y) (i0 : 0 ≤ i) (hi : i < n) (a0 : 0 ≤ a) (a1 : a < 2 ^ n.toNat) :
    bitV (low n (a * 2 ^ min y.toNat 64)) i = if 0 ≤ i - 64 ∧ i - 64 < n then bitV a (i - 64) else 0 := by
  rw [show min y.toNat 64 = ((64 : Int)).toNat by simp; omega]
  exact shl_bit n a 64 i a0 a1 (by decide) i0 hi
theorem shl_near (n a y i : Int) (y0 : 0 ≤ y) (y1 : y < 64) (i0 : 0 ≤ i) (hi : i < n) (a0 : 0 ≤ a) (a1 : a < 2 ^ n.toNat) :
    bitV (low n (a * 2 ^ min y.toNat 64)) i = if 0 ≤ i - y ∧ i - y < n then bitV a (i - y) else 0 := by
  rw [show min y.toNat 64 = y.toNat by omega]
  exact shl_bit n a y i a0 a1 y0 i0 hi
theorem shr_far (n a y i : Int) (y0 : 64 ≤ y) (i0 : 0 ≤ i) (hi : i < n) (n0 : 0 ≤ n) (a0 : 0 ≤ a) (a1 : a < 2 ^ n.toNat) :
    bitV (low n (a / 2 ^ min y.toNat 64)) i = if 0 ≤ i - -64 ∧ i - -64 < n then bitV a (i - -64) else 0 := by
  rw [show min y.toNat 64 = ((64 : Int)).toNat by simp; omega]
  exact shr_bit n a 64 i n0 a0 a1 (by decide) i0 hi
theorem shr_near (n a y i : Int) (y0 : 0 ≤ y) (y1 : y < 64) (i0 : 0 ≤ i) (hi : i < n) (n0 : 0 ≤ n) (a0 : 0 ≤ a) (a1 : a < 2 ^ n.toNat) :
    bitV (low n (a / 2 ^ min y.toNat 64)) i = if 0 ≤ i - -y ∧ i - -y < n then bitV a (i - -y) else 0 := by
  rw [show min y.toNat 64 = y.toNat by omega]
  exact shr_bit n a y i n0 a0 a1 y0 i0 hi
end Go.Proofs.Ytdnbpfhkbaojnaa
