/- The arithmetic of the reference's shifts, comparisons and complement. -/
import Derived.Test.YtdnbpfhkbaojnaaPartsM
import Derived.Test.YtdnbpfhkbaojnaaLogicM
namespace Go.Proofs.Ytdnbpfhkbaojnaa
open Go.RowKit

theorem low_bit (n x i : Int) (i0 : 0 ≤ i) (hi : i < n) : bitV (low n x) i = bitV x i := by
  unfold bitV low
  have s1 := pow_split (i.toNat + 1) n.toNat (by omega)
  have s3 : (2 : Int) ^ (i.toNat + 1) = 2 ^ i.toNat * 2 := Int.pow_succ _ _
  have hp := p2 i.toNat
  have e : x % 2 ^ n.toNat = x + 2 ^ i.toNat * (2 * (-(2 ^ (n.toNat - (i.toNat + 1)) * (x / 2 ^ n.toNat)))) := by
    have := Int.mul_ediv_add_emod x (2 ^ n.toNat)
    have h2 : 2 ^ i.toNat * (2 * (-(2 ^ (n.toNat - (i.toNat + 1)) * (x / 2 ^ n.toNat)))) = -(2 ^ n.toNat * (x / 2 ^ n.toNat)) := by
      rw [s1, s3, Int.mul_neg, Int.mul_neg]; simp only [Int.mul_assoc]
    rw [h2]; omega
  rw [e, Int.add_mul_ediv_left _ _ (by omega)]
  omega
theorem shl_bit (n a y i : Int) (_a0 : 0 ≤ a) (_a1 : a < 2 ^ n.toNat) (y0 : 0 ≤ y) (i0 : 0 ≤ i) (hi : i < n) :
    bitV (low n (a * 2 ^ y.toNat)) i = if 0 ≤ i - y ∧ i - y < n then bitV a (i - y) else 0 := by
  rw [low_bit n _ i i0 hi]
  by_cases h : 0 ≤ i - y
  · rw [if_pos ⟨h, by omega⟩]
    have s1 := pow_split y.toNat i.toNat (by omega)
    have hp := p2 y.toNat
    unfold bitV
    rw [s1, ← Int.ediv_ediv_of_nonneg (Int.le_of_lt hp), Int.mul_ediv_cancel _ (by omega), show (i - y).toNat = i.toNat - y.toNat by omega]
  · rw [if_neg (fun hh => h hh.1)]
    have s1 := pow_split (i.toNat + 1) y.toNat (by omega)
    have s3 : (2 : Int) ^ (i.toNat + 1) = 2 ^ i.toNat * 2 := Int.pow_succ _ _
    have hp := p2 i.toNat
    unfold bitV
    rw [s1, s3, show a * (2 ^ i.toNat * 2 * 2 ^ (y.toNat - (i.toNat + 1))) = a * 2 ^ (y.toNat - (i.toNat + 1)) * 2 * 2 ^ i.toNat by
      simp only [Int.mul_assoc, Int.mul_comm, Int.mul_left_comm], Int.mul_ediv_cancel _ (by omega)]
    omega
theorem shr_bit (n a y i : Int) (n0 : 0 ≤ n) (a0 : 0 ≤ a) (a1 : a < 2 ^ n.toNat) (y0 : 0 ≤ y) (i0 : 0 ≤ i) (hi : i < n) :
    bitV (low n (a / 2 ^ y.toNat)) i = if 0 ≤ i - -y ∧ i - -y < n then bitV a (i - -y) else 0 := by
  rw [low_bit n _ i i0 hi]
  have hp := p2 y.toNat
  have e : a / 2 ^ y.toNat / 2 ^ i.toNat = a / 2 ^ (i - -y).toNat := by
    rw [Int.ediv_ediv_of_nonneg (Int.le_of_lt hp), ← Int.pow_add, show y.toNat + i.toNat = (i - -y).toNat by omega]
  unfold bitV
  rw [e]
  split
  · rfl
  · rw [bit_above n a (i - -y) (by omega) n0 a0 a1]; rfl
end Go.Proofs.Ytdnbpfhkbaojnaa
