/- BitsOrder: the arithmetic of the two orders. -/
import Derived.Test.YteibkmignbbekaaPartsM
import Derived.Test.YteibkmignbbekaaLogicM
namespace Go.Proofs.Yteibkmignbbekaa
open Go.RowKit

theorem cmp_lt (a b : Int) : (cmpI a b == -1) = decide (a < b) := by
  unfold cmpI
  by_cases h1 : a < b
  · simp [h1]
  · by_cases h2 : b < a <;> simp [h1, h2]
theorem cmp_eq (a b : Int) : (cmpI a b == 0) = decide (a = b) := by
  unfold cmpI
  by_cases h1 : a < b
  · simp [h1, show a ≠ b by omega]
  · by_cases h2 : b < a
    · simp [h1, h2, show a ≠ b by omega]
    · simp [show a = b by omega]
theorem bit_of (c : Bool) : bit c = if c = true then 1 else 0 := rfl

/-- Turning the highest bit. -/
theorem flip_hi (n a : Int) (h1 : 1 ≤ n) (h2 : n ≤ 64) (a0 : 0 ≤ a) (a1 : a < 2 ^ n.toNat) :
    low n (bits .xor .u64 a (2 ^ (n.toNat - 1))) = if a < 2 ^ (n.toNat - 1) then a + 2 ^ (n.toNat - 1) else a - 2 ^ (n.toNat - 1) := by
  obtain ⟨A, rfl⟩ := Int.eq_ofNat_of_zero_le a0
  obtain ⟨K, hK⟩ : ∃ K, n.toNat = K + 1 := ⟨n.toNat - 1, by omega⟩
  have hk : K ≤ 63 := by omega
  unfold low
  rw [hK] at a1 ⊢
  rw [show K + 1 - 1 = K by omega]
  rw [← pow_cast'] at a1
  rw [← pow_cast', ← pow_cast' (K + 1)]
  have hp : (2 : Nat) ^ (K + 1) = 2 * 2 ^ K := by rw [Nat.pow_succ]; omega
  have hle : (2 : Nat) ^ K ≤ 2 ^ 63 := Nat.pow_le_pow_right (by decide) hk
  have hA : A < 2 * 2 ^ K := by omega
  rw [u64_xor_nat _ _ (by omega) (by omega)]
  by_cases h : A < 2 ^ K
  · have hx := xor_add_and A (2 ^ K) (by omega) (by omega)
    have hand : A &&& 2 ^ K = 0 := by
      rw [nat_bit, Nat.div_eq_of_lt h]; simp
    have hor : 2 ^ K ||| A = 2 ^ K + A := nat_join K _ _ (Nat.mod_self _) h
    rw [Nat.or_comm] at hor
    rw [if_pos (by omega), Int.emod_eq_of_lt (by omega) (by omega)]
    omega
  · obtain ⟨B, rfl⟩ : ∃ B, A = 2 ^ K + B := ⟨A - 2 ^ K, by omega⟩
    have hB : B < 2 ^ K := by omega
    have hx := xor_add_and B (2 ^ K) (by omega) (by omega)
    have hand : B &&& 2 ^ K = 0 := by
      rw [nat_bit, Nat.div_eq_of_lt hB]; simp
    have hor : 2 ^ K ||| B = 2 ^ K + B := nat_join K _ _ (Nat.mod_self _) hB
    rw [Nat.or_comm] at hor
    have e : B ^^^ 2 ^ K = 2 ^ K + B := by omega
    have e2 : (2 ^ K + B) ^^^ 2 ^ K = B := by rw [← e, Nat.xor_assoc, Nat.xor_self, Nat.xor_zero]
    rw [e2, if_neg (by omega), Int.emod_eq_of_lt (by omega) (by omega)]
    omega
theorem flip_order (n a b : Int) (h1 : 1 ≤ n) (h2 : n ≤ 64) (a0 : 0 ≤ a) (a1 : a < 2 ^ n.toNat) (b0 : 0 ≤ b) (b1 : b < 2 ^ n.toNat) :
    decide (low n (bits .xor .u64 a (2 ^ (n.toNat - 1))) < low n (bits .xor .u64 b (2 ^ (n.toNat - 1)))) = decide (sgn n a < sgn n b) := by
  rw [flip_hi n a h1 h2 a0 a1, flip_hi n b h1 h2 b0 b1, sgn_eq n a h1 h2 a0 a1, sgn_eq n b h1 h2 b0 b1]
  have e : (n - 1).toNat = n.toNat - 1 := by omega
  have q : (2 : Int) ^ n.toNat = 2 * 2 ^ (n.toNat - 1) := by rw [show n.toNat = (n.toNat - 1) + 1 by omega, Int.pow_succ]; simp; omega
  have p := p2 (n.toNat - 1)
  rw [e]
  rw [q] at a1 b1 ⊢
  generalize (2 : Int) ^ (n.toNat - 1) = P at *
  by_cases ha : a < P <;> by_cases hb : b < P <;> simp only [ha, hb, if_true, if_false] <;> rw [decide_eq_decide] <;> omega
theorem sgn_inj (n a b : Int) (h1 : 1 ≤ n) (h2 : n ≤ 64) (a0 : 0 ≤ a) (a1 : a < 2 ^ n.toNat) (b0 : 0 ≤ b) (b1 : b < 2 ^ n.toNat) (h : sgn n a = sgn n b) : a = b := by
  rw [sgn_eq n a h1 h2 a0 a1, sgn_eq n b h1 h2 b0 b1] at h
  split at h <;> split at h <;> omega
end Go.Proofs.Yteibkmignbbekaa
