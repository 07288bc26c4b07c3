/- BitsParts: the arithmetic of parts. -/
import Derived.Test.YteibkmignbbekaaShiftM
import Derived.Test.YteibkmignbbekaaRing
namespace Go.Proofs.Yteibkmignbbekaa
open Go.RowKit

theorem p2 (k : Nat) : (0 : Int) < 2 ^ k := Int.pow_pos (by decide)
theorem pow_cast' (k : Nat) : ((2 ^ k : Nat) : Int) = 2 ^ k := by simp

theorem wrap64_of (y : Int) (h0 : 0 ≤ y) (h1 : y < 18446744073709551616) : wrap64 y = if y < 9223372036854775808 then y else y - 18446744073709551616 := by
  unfold wrap64; split <;> omega

theorem sgn_eq (n a : Int) (h1 : 1 ≤ n) (h2 : n ≤ 64) (a0 : 0 ≤ a) (a1 : a < 2 ^ n.toNat) : sgn n a = if a < 2 ^ (n - 1).toNat then a else a - 2 ^ n.toNat := by
  obtain ⟨N, rfl⟩ := Int.eq_ofNat_of_zero_le (show 0 ≤ n by omega)
  have e1 : (64 - (N : Int)).toNat = 64 - N := by omega
  have e2 : ((N : Int) - 1).toNat = N - 1 := by omega
  have e3 : ((N : Int)).toNat = N := by omega
  unfold sgn
  rw [e1, e2]
  rw [e3] at a1 ⊢
  have q : (2 : Int) ^ N = 2 * 2 ^ (N - 1) := by rw [show N = (N - 1) + 1 by omega, Int.pow_succ]; simp; omega
  have hP := p2 (64 - N)
  have hQ := p2 (N - 1)
  have qp : (2 : Int) ^ (N - 1) * 2 ^ (64 - N) = 9223372036854775808 := by rw [← Int.pow_add, show N - 1 + (64 - N) = 63 by omega]; decide
  rw [q] at a1 ⊢
  generalize (2 : Int) ^ (64 - N) = P at *
  generalize (2 : Int) ^ (N - 1) = Q at *
  have hlt : a * P < 18446744073709551616 := by
    have : a * P < 2 * Q * P := Int.mul_lt_mul_of_pos_right a1 hP
    rw [Int.mul_assoc, qp] at this; omega
  have h0 : 0 ≤ a * P := Int.mul_nonneg a0 (by omega)
  rw [wrap_small _ h0 hlt, wrap64_of _ h0 hlt]
  by_cases ha : a < Q
  · have : a * P < Q * P := Int.mul_lt_mul_of_pos_right ha hP
    rw [if_pos ha, if_pos (by omega), Int.mul_ediv_cancel _ (by omega)]
  · have : Q * P ≤ a * P := Int.mul_le_mul_of_nonneg_right (by omega) (by omega)
    rw [if_neg ha, if_neg (by omega), show a * P - 18446744073709551616 = (a - 2 * Q) * P by rw [Int.sub_mul, Int.mul_assoc, qp]; omega, Int.mul_ediv_cancel _ (by omega)]

theorem joinV_eq (n a m b : Int) (n0 : 0 ≤ n) (m0 : 0 ≤ m) (h : n + m ≤ 64) (a0 : 0 ≤ a) (a1 : a < 2 ^ n.toNat) (b0 : 0 ≤ b) (b1 : b < 2 ^ m.toNat) :
    joinV n a m b = a * 2 ^ m.toNat + b ∧ a * 2 ^ m.toNat + b < 2 ^ (n + m).toNat := by
  obtain ⟨N, rfl⟩ := Int.eq_ofNat_of_zero_le n0
  obtain ⟨M, rfl⟩ := Int.eq_ofNat_of_zero_le m0
  obtain ⟨A, rfl⟩ := Int.eq_ofNat_of_zero_le a0
  obtain ⟨B, rfl⟩ := Int.eq_ofNat_of_zero_le b0
  have e1 : ((N : Int) + M).toNat = N + M := by omega
  have e2 : ((N : Int)).toNat = N := by omega
  have e3 : ((M : Int)).toNat = M := by omega
  unfold joinV low
  rw [e1, e3]
  rw [e2] at a1
  rw [e3] at b1
  rw [← pow_cast'] at a1 b1
  have hA : A < 2 ^ N := by omega
  have hB : B < 2 ^ M := by omega
  have hp := Nat.two_pow_pos M
  have s1 : A * 2 ^ M + B < 2 ^ (N + M) := by
    have : A * 2 ^ M + 2 ^ M ≤ 2 ^ N * 2 ^ M := by
      have := Nat.mul_le_mul_right (2 ^ M) (show A + 1 ≤ 2 ^ N by omega)
      rw [Nat.add_mul, Nat.one_mul] at this; exact this
    rw [Nat.pow_add]; omega
  have s2 : (2 : Nat) ^ (N + M) ≤ 2 ^ 64 := Nat.pow_le_pow_right (by decide) (by omega)
  have s3 : (A : Int) * 2 ^ M = ((A * 2 ^ M : Nat) : Int) := by rw [Int.natCast_mul, pow_cast']
  have s4 : A * 2 ^ M ||| B = A * 2 ^ M + B := nat_join M _ _ (Nat.mul_mod_left _ _) hB
  rw [s3, wrap_small _ (by omega) (by omega), u64_or_nat _ _ (by omega) (by omega), s4, ← pow_cast']
  constructor
  · rw [Int.emod_eq_of_lt (by omega) (by omega)]; omega
  · omega

theorem jpart_low (m a b : Int) (b0 : 0 ≤ b) (b1 : b < 2 ^ m.toNat) : low m ((a * 2 ^ m.toNat + b) / 2 ^ (0 : Int).toNat) = b := by
  unfold low
  rw [show ((0 : Int)).toNat = 0 by rfl, Int.pow_zero, Int.ediv_one, Int.add_comm, Int.add_mul_emod_self_right]
  exact Int.emod_eq_of_lt b0 b1
theorem jpart_high (n m a b : Int) (a0 : 0 ≤ a) (a1 : a < 2 ^ n.toNat) (b0 : 0 ≤ b) (b1 : b < 2 ^ m.toNat) : low n ((a * 2 ^ m.toNat + b) / 2 ^ m.toNat) = a := by
  unfold low
  have := p2 m.toNat
  rw [Int.add_comm, Int.add_mul_ediv_right _ _ (by omega), Int.ediv_eq_zero_of_lt b0 b1, Int.zero_add]
  exact Int.emod_eq_of_lt a0 a1

theorem cut_join (n a k : Int) (k1 : 1 ≤ k) (k2 : k < n) (h : n ≤ 64) (a0 : 0 ≤ a) (a1 : a < 2 ^ n.toNat) :
    joinV (n - k) (low (n - k) (a / 2 ^ k.toNat)) k (low k (a / 2 ^ (0 : Int).toNat)) = a := by
  have hk := p2 k.toNat
  have hs := pow_split k.toNat n.toNat (by omega)
  have e1 : (n - k).toNat = n.toNat - k.toNat := by omega
  have hhi : a / 2 ^ k.toNat < 2 ^ (n - k).toNat := by
    rw [e1]; exact Int.ediv_lt_of_lt_mul hk (by rw [Int.mul_comm, ← hs]; exact a1)
  have h0 : 0 ≤ a / 2 ^ k.toNat := Int.ediv_nonneg a0 (by omega)
  have l1 : low (n - k) (a / 2 ^ k.toNat) = a / 2 ^ k.toNat := Int.emod_eq_of_lt h0 hhi
  have l2 : low k (a / 2 ^ (0 : Int).toNat) = a % 2 ^ k.toNat := by unfold low; simp
  rw [l1, l2]
  have hm0 := Int.emod_nonneg a (show (2 : Int) ^ k.toNat ≠ 0 by omega)
  have hm1 := Int.emod_lt_of_pos a hk
  rw [(joinV_eq (n - k) _ k _ (by omega) (by omega) (by omega) h0 hhi hm0 hm1).1]
  have := Int.mul_ediv_add_emod a (2 ^ k.toNat)
  rw [Int.mul_comm] at this; exact this

theorem bit_above (n a i : Int) (h : n ≤ i) (_n0 : 0 ≤ n) (a0 : 0 ≤ a) (a1 : a < 2 ^ n.toNat) : a / 2 ^ i.toNat = 0 := by
  have := pow_le n.toNat i.toNat (by omega)
  exact Int.ediv_eq_zero_of_lt a0 (by omega)
theorem zext_bit (n a i k : Int) (n0 : 0 ≤ n) (nk : n ≤ k) (a0 : 0 ≤ a) (a1 : a < 2 ^ n.toNat) : low 1 (low k a / 2 ^ i.toNat) = if i < n then bitV a i else 0 := by
  have hk := pow_le n.toNat k.toNat (by omega)
  have l1 : low k a = a := Int.emod_eq_of_lt a0 (by omega)
  rw [l1]
  split
  · rfl
  · rw [bit_above n a i (by omega) n0 a0 a1]; rfl
theorem sext_bit (n a i k : Int) (n1 : 1 ≤ n) (n2 : n ≤ 64) (nk : n ≤ k) (i0 : 0 ≤ i) (ik : i < k) (a0 : 0 ≤ a) (a1 : a < 2 ^ n.toNat) :
    low 1 (low k (sgn n a) / 2 ^ i.toNat) = if i < n then bitV a i else bitV a (n - 1) := by
  rw [sgn_eq n a n1 n2 a0 a1]
  have hk := pow_le n.toNat k.toNat (by omega)
  have hn := p2 n.toNat
  have hi := p2 i.toNat
  have hn1 := p2 (n - 1).toNat
  have q : (2 : Int) ^ n.toNat = 2 * 2 ^ (n - 1).toNat := by rw [show n.toNat = (n - 1).toNat + 1 by omega, Int.pow_succ]; omega
  by_cases ha : a < 2 ^ (n - 1).toNat
  · rw [if_pos ha]
    have l1 : low k a = a := Int.emod_eq_of_lt a0 (by omega)
    rw [l1]
    split
    · rfl
    · rw [bit_above n a i (by omega) (by omega) a0 a1]
      unfold bitV
      rw [Int.ediv_eq_zero_of_lt a0 ha]; rfl
  · rw [if_neg ha]
    have l1 : low k (a - 2 ^ n.toNat) = a - 2 ^ n.toNat + 2 ^ k.toNat := by
      unfold low
      have h := Int.add_mul_emod_self_left (a - 2 ^ n.toNat + 2 ^ k.toNat) (2 ^ k.toNat) (-1)
      rw [show a - 2 ^ n.toNat + 2 ^ k.toNat + 2 ^ k.toNat * -1 = a - 2 ^ n.toNat by omega] at h
      rw [h]
      exact Int.emod_eq_of_lt (by omega) (by omega)
    rw [l1]
    split
    · rename_i hin
      -- the powers above i are even multiples
      have s1 := pow_split (i.toNat + 1) n.toNat (by omega)
      have s2 := pow_split (i.toNat + 1) k.toNat (by omega)
      have s3 : (2 : Int) ^ (i.toNat + 1) = 2 ^ i.toNat * 2 := Int.pow_succ _ _
      have e : a - 2 ^ n.toNat + 2 ^ k.toNat = a + 2 ^ i.toNat * (2 * (2 ^ (k.toNat - (i.toNat + 1)) - 2 ^ (n.toNat - (i.toNat + 1)))) := by
        rw [s1, s2, s3, ← Int.mul_assoc, Int.mul_sub]; omega
      rw [e, Int.add_mul_ediv_left _ _ (by omega)]
      unfold low bitV
      rw [show (2 : Int) ^ (1 : Int).toNat = 2 by rfl]
      omega
    · rename_i hin
      have s2 := pow_split (i.toNat + 1) k.toNat (by omega)
      have s3 : (2 : Int) ^ (i.toNat + 1) = 2 ^ i.toNat * 2 := Int.pow_succ _ _
      have h1 := pow_le n.toNat i.toNat (by omega)
      have d : (a - 2 ^ n.toNat + 2 ^ k.toNat) = (a - 2 ^ n.toNat + 2 ^ i.toNat) + 2 ^ i.toNat * (2 * 2 ^ (k.toNat - (i.toNat + 1)) - 1) := by
        rw [s2, s3, Int.mul_sub, ← Int.mul_assoc]; omega
      rw [d, Int.add_mul_ediv_left _ _ (by omega), Int.ediv_eq_zero_of_lt (by omega) (by omega)]
      have b1 : bitV a (n - 1) = 1 := by
        unfold bitV
        have : a / 2 ^ (n - 1).toNat = 1 := by
          have e : a = (a - 2 ^ (n - 1).toNat) + 2 ^ (n - 1).toNat * 1 := by omega
          rw [e, Int.add_mul_ediv_left _ _ (by omega), Int.ediv_eq_zero_of_lt (by omega) (by omega)]; rfl
        rw [this]; rfl
      rw [b1]
      unfold low
      rw [show (2 : Int) ^ (1 : Int).toNat = 2 by rfl]
      omega
end Go.Proofs.Yteibkmignbbekaa
