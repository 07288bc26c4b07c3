/- Powers of two, and shifting out. -/
import Derived.Test.YteibkmignbbekaaShare
namespace Go.Proofs.Yteibkmignbbekaa
theorem pow_split (n k : Nat) (h : n ≤ k) : (2 : Int) ^ k = 2 ^ n * 2 ^ (k - n) := by rw [← Int.pow_add]; congr 1; omega
theorem wrap_small (n : Int) (h1 : 0 ≤ n) (h2 : n < 18446744073709551616) : IntKind.u64.wrap n = n := by rw [IntKind.wrap_u64]; exact Int.emod_eq_of_lt h1 h2
theorem pow_lt (b n : Nat) (h : b < n) : (2 : Int) ^ b < 2 ^ n := by
  have h' : (2 : Nat) ^ b < 2 ^ n := Nat.pow_lt_pow_right (by decide) h
  have e1 : ((2 ^ b : Nat) : Int) = (2 : Int) ^ b := by simp
  have e2 : ((2 ^ n : Nat) : Int) = (2 : Int) ^ n := by simp
  rw [← e1, ← e2]; exact Int.ofNat_lt.2 h'
theorem pow_le (b n : Nat) (h : b ≤ n) : (2 : Int) ^ b ≤ 2 ^ n := by
  rcases Nat.lt_or_eq_of_le h with h | h
  · exact Int.le_of_lt (pow_lt b n h)
  · rw [h]; exact Int.le_refl _
theorem shl_out (n a : Int) (k : Nat) (h : n.toNat ≤ k) : low n (a * 2 ^ k) = 0 := by
  unfold low; rw [pow_split n.toNat k h]
  exact Int.emod_eq_zero_of_dvd ⟨a * 2 ^ (k - n.toNat), by rw [Int.mul_left_comm]⟩
theorem shr_out (n a : Int) (k : Nat) (h : n.toNat ≤ k) (h0 : 0 ≤ a) (h1 : a < 2 ^ n.toNat) : low n (a / 2 ^ k) = 0 := by
  have := pow_le _ _ h
  rw [Int.ediv_eq_zero_of_lt h0 (by omega)]; unfold low; simp
end Go.Proofs.Yteibkmignbbekaa
