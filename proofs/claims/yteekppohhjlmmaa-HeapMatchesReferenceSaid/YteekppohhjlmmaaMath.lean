/- The plain arithmetic of bit vectors: powers of two, lowest bits, the operators' results; nothing of the program stands here. -/
import Derived.Laws.BitsAllLaws
import Derived.Laws.Shifts
namespace Go.Proofs.Yteekppohhjlmmaa
open Go

/-- 2 to the power of a width. -/
def pw (n : Int) : Int := 2 ^ n.toNat
/-- the greatest value of a width. -/
def hiw (n : Int) : Int := 2 ^ n.toNat - 1
/-- the lowest bits of a value. -/
def low (n v : Int) : Int := v % 2 ^ n.toNat
/-- whether a bit vector is valid. -/
def vB (n v : Int) : Bool := decide (1 ≤ n ∧ n ≤ 64 ∧ v < 2 ^ n.toNat)

theorem vB_iff (n v : Int) : vB n v = true ↔ 1 ≤ n ∧ n ≤ 64 ∧ v < 2 ^ n.toNat := by simp [vB]

theorem hi_of (n : Int) (h1 : 0 ≤ n) (h2 : n ≤ 64) : (18446744073709551615 : Int) / 2 ^ (64 - n).toNat = hiw n := by
  have key : ∀ k : Fin 65, (18446744073709551615 : Int) / 2 ^ (64 - k.val) = 2 ^ k.val - 1 := by decide +kernel
  have := key ⟨n.toNat, by omega⟩
  have e : (64 - n).toNat = 64 - n.toNat := by omega
  unfold hiw
  rw [e]; exact this

theorem pw_pos (n : Int) : 0 < pw n := by unfold pw; exact Int.pow_pos (by decide)

theorem pw_le (n : Int) (h : n ≤ 64) : pw n ≤ 18446744073709551616 := by
  unfold pw
  have h' : (2 : Nat) ^ n.toNat ≤ 2 ^ 64 := Nat.pow_le_pow_right (by decide) (by omega)
  have e : ((2 ^ n.toNat : Nat) : Int) = (2 : Int) ^ n.toNat := by simp
  rw [← e]; exact Int.ofNat_le.2 h'

theorem hiw_pw (n : Int) : hiw n = pw n - 1 := rfl
theorem low_pw (n v : Int) : low n v = v % pw n := rfl

theorem low_nonneg (n v : Int) : 0 ≤ low n v := Int.emod_nonneg _ (by have := pw_pos n; unfold pw at this; omega)
theorem low_lt (n v : Int) : low n v < pw n := Int.emod_lt_of_pos _ (pw_pos n)

theorem and_hi (n v : Int) (h2 : n ≤ 64) (h3 : 0 ≤ v) (h4 : v < 18446744073709551616) : bits .and .u64 v (hiw n) = low n v := by
  have p1 := pw_pos n
  have p2 := pw_le n h2
  rw [u64_and v (hiw n) h3 h4 (by rw [hiw_pw]; omega) (by rw [hiw_pw]; omega)]
  have e : (hiw n).toNat = 2 ^ n.toNat - 1 := by
    unfold hiw
    have : ((2 ^ n.toNat : Nat) : Int) = (2 : Int) ^ n.toNat := by simp
    rw [← this]; omega
  rw [e, Nat.and_two_pow_sub_one_eq_mod]
  unfold low
  rw [Int.natCast_emod, Int.toNat_of_nonneg h3]
  simp
end Go.Proofs.Yteekppohhjlmmaa
