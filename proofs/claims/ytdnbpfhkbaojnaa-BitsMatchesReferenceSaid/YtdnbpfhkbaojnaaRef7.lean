/- The arithmetic of the reference's Sext. -/
import Derived.Test.YtdnbpfhkbaojnaaPartsM
namespace Go.Proofs.Ytdnbpfhkbaojnaa
open Go.RowKit

theorem low_sgn (n a k : Int) (n1 : 1 ≤ n) (n2 : n ≤ 64) (nk : n ≤ k) (a0 : 0 ≤ a) (a1 : a < 2 ^ n.toNat) :
    low k (sgn n a) = if a < 2 ^ (n - 1).toNat then a else a - 2 ^ n.toNat + 2 ^ k.toNat := by
  have hk := pow_le n.toNat k.toNat (by omega)
  have hn1 := p2 (n - 1).toNat
  rw [sgn_eq n a n1 n2 a0 a1]
  by_cases ha : a < 2 ^ (n - 1).toNat
  · rw [if_pos ha, if_pos ha]
    exact Int.emod_eq_of_lt a0 (by omega)
  · rw [if_neg ha, if_neg ha]
    unfold low
    have h := Int.add_mul_emod_self_left (a - 2 ^ n.toNat + 2 ^ k.toNat) (2 ^ k.toNat) (-1)
    rw [show a - 2 ^ n.toNat + 2 ^ k.toNat + 2 ^ k.toNat * -1 = a - 2 ^ n.toNat by omega] at h
    rw [h]
    exact Int.emod_eq_of_lt (by omega) (by omega)
theorem sext_start (n a : Int) (n1 : 1 ≤ n) (n2 : n ≤ 64) (a0 : 0 ≤ a) (a1 : a < 2 ^ n.toNat) : low n (sgn n a) = a := by
  rw [low_sgn n a n n1 n2 (Int.le_refl _) a0 a1]
  split <;> omega
theorem top_bit (n a : Int) (n1 : 1 ≤ n) (a0 : 0 ≤ a) (a1 : a < 2 ^ n.toNat) : bitV a (n - 1) = if a < 2 ^ (n - 1).toNat then 0 else 1 := by
  have hn1 := p2 (n - 1).toNat
  have q : (2 : Int) ^ n.toNat = 2 * 2 ^ (n - 1).toNat := by rw [show n.toNat = (n - 1).toNat + 1 by omega, Int.pow_succ]; omega
  unfold bitV
  by_cases ha : a < 2 ^ (n - 1).toNat
  · rw [if_pos ha, Int.ediv_eq_zero_of_lt a0 ha]; rfl
  · rw [if_neg ha]
    have : a / 2 ^ (n - 1).toNat = 1 := by
      have e : a = (a - 2 ^ (n - 1).toNat) + 2 ^ (n - 1).toNat * 1 := by omega
      rw [e, Int.add_mul_ediv_left _ _ (by omega), Int.ediv_eq_zero_of_lt (by omega) (by omega)]; rfl
    rw [this]; rfl
theorem sext_step (n a k : Int) (n1 : 1 ≤ n) (n2 : n ≤ 64) (nk : n ≤ k) (k64 : k < 64) (a0 : 0 ≤ a) (a1 : a < 2 ^ n.toNat) :
    IntKind.u64.wrap (low k (sgn n a) + IntKind.u64.wrap (bitV a (n - 1) * 2 ^ k.toNat)) = low (k + 1) (sgn n a) := by
  have hk := pow_le n.toNat k.toNat (by omega)
  have hk2 := pow_lt k.toNat 64 (by omega)
  have hk3 := pow_le (k + 1).toNat 64 (by omega)
  have hp := p2 k.toNat
  have e1 : (2 : Int) ^ (k + 1).toNat = 2 * 2 ^ k.toNat := by rw [show (k + 1).toNat = k.toNat + 1 by omega, Int.pow_succ]; omega
  have e64 : (2 : Int) ^ 64 = 18446744073709551616 := by decide
  rw [low_sgn n a k n1 n2 nk a0 a1, low_sgn n a (k + 1) n1 n2 (by omega) a0 a1, top_bit n a n1 a0 a1]
  by_cases ha : a < 2 ^ (n - 1).toNat
  · rw [if_pos ha, if_pos ha, if_pos ha, Int.zero_mul]
    rw [wrap_small 0 (by decide) (by decide), Int.add_zero, wrap_small _ a0 (by omega)]
  · rw [if_neg ha, if_neg ha, if_neg ha, Int.one_mul]
    rw [wrap_small (2 ^ k.toNat) (by omega) (by omega), wrap_small _ (by omega) (by omega), e1]
    omega
end Go.Proofs.Ytdnbpfhkbaojnaa
