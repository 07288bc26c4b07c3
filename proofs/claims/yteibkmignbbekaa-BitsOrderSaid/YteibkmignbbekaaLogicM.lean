/- BitsLogic: the arithmetic of bits. -/
import Derived.Test.YteibkmignbbekaaRing
namespace Go.Proofs.Yteibkmignbbekaa

theorem nat_add_or (x y : Nat) (hx : x < 2 ^ 64) (hy : y < 2 ^ 64) (h : x &&& y = 0) (hs : x + y < 2 ^ 64) : x + y = x ||| y := by
  have e := BitVec.add_eq_or_of_and_eq_zero (BitVec.ofNat 64 x) (BitVec.ofNat 64 y) (by
    apply BitVec.eq_of_toNat_eq
    rw [BitVec.toNat_and, BitVec.toNat_ofNat, BitVec.toNat_ofNat, Nat.mod_eq_of_lt hx, Nat.mod_eq_of_lt hy, h]; rfl)
  have e2 := congrArg BitVec.toNat e
  rw [BitVec.toNat_add, BitVec.toNat_or, BitVec.toNat_ofNat, BitVec.toNat_ofNat, Nat.mod_eq_of_lt hx, Nat.mod_eq_of_lt hy, Nat.mod_eq_of_lt hs] at e2
  exact e2

/-- the opposite of each of the lowest N bits. -/
def nx (N A : Nat) : Nat := ((2 ^ 64 - 1) ^^^ A) % 2 ^ N

theorem nx_bit (N A i : Nat) (hN : N ≤ 64) : (nx N A).testBit i = (decide (i < N) && !A.testBit i) := by
  unfold nx
  rw [Nat.testBit_mod_two_pow, Nat.testBit_xor, Nat.testBit_two_pow_sub_one]
  by_cases h : i < N
  · simp [h, show i < 64 by omega]
  · simp [h]

theorem nx_nx (N A : Nat) (hN : N ≤ 64) (hA : A < 2 ^ N) : nx N (nx N A) = A := by
  apply Nat.eq_of_testBit_eq
  intro i
  rw [nx_bit _ _ _ hN, nx_bit _ _ _ hN]
  by_cases h : i < N
  · simp [h]
  · have : A.testBit i = false := Nat.testBit_lt_two_pow (Nat.lt_of_lt_of_le hA (Nat.pow_le_pow_right (by decide) (by omega)))
    simp [h, this]

theorem nx_and (N A B : Nat) (hN : N ≤ 64) : (nx N A ||| nx N B) % 2 ^ N = nx N ((A &&& B) % 2 ^ N) := by
  apply Nat.eq_of_testBit_eq
  intro i
  rw [Nat.testBit_mod_two_pow, Nat.testBit_or, nx_bit _ _ _ hN, nx_bit _ _ _ hN, nx_bit _ _ _ hN, Nat.testBit_mod_two_pow, Nat.testBit_and]
  by_cases h : i < N
  · simp [h]
  · simp [h]

theorem nx_or (N A : Nat) (hN : N ≤ 64) : (A ||| nx N A) % 2 ^ N = (A ^^^ nx N A) % 2 ^ N := by
  apply Nat.eq_of_testBit_eq
  intro i
  rw [Nat.testBit_mod_two_pow, Nat.testBit_mod_two_pow, Nat.testBit_or, Nat.testBit_xor, nx_bit _ _ _ hN]
  cases A.testBit i <;> simp

theorem nx_add (N A : Nat) (hN : N ≤ 64) (hA : A < 2 ^ N) : A + nx N A = 2 ^ N - 1 := by
  have hp : (2 : Nat) ^ N ≤ 2 ^ 64 := Nat.pow_le_pow_right (by decide) hN
  have hx : nx N A < 2 ^ N := Nat.mod_lt _ (Nat.two_pow_pos N)
  have hand : A &&& nx N A = 0 := by
    apply Nat.eq_of_testBit_eq
    intro i
    rw [Nat.testBit_and, nx_bit _ _ _ hN]
    cases A.testBit i <;> simp
  have hor : A ||| nx N A = 2 ^ N - 1 := by
    apply Nat.eq_of_testBit_eq
    intro i
    rw [Nat.testBit_or, nx_bit _ _ _ hN, Nat.testBit_two_pow_sub_one]
    by_cases h : i < N
    · cases A.testBit i <;> simp [h]
    · have : A.testBit i = false := Nat.testBit_lt_two_pow (Nat.lt_of_lt_of_le hA (Nat.pow_le_pow_right (by decide) (by omega)))
      simp [h, this]
  by_cases h64 : N = 64
  · -- the sum itself must be bounded
    subst h64
    have hle : nx 64 A ≤ 2 ^ 64 - 1 - A := by
      have key : nx 64 A &&& A = 0 := by rw [Nat.and_comm]; exact hand
      have e := BitVec.add_eq_or_of_and_eq_zero (BitVec.ofNat 65 A) (BitVec.ofNat 65 (nx 64 A)) (by
        apply BitVec.eq_of_toNat_eq
        rw [BitVec.toNat_and, BitVec.toNat_ofNat, BitVec.toNat_ofNat, Nat.mod_eq_of_lt (by omega), Nat.mod_eq_of_lt (by omega), hand]; rfl)
      have e2 := congrArg BitVec.toNat e
      rw [BitVec.toNat_add, BitVec.toNat_or, BitVec.toNat_ofNat, BitVec.toNat_ofNat, Nat.mod_eq_of_lt (by omega), Nat.mod_eq_of_lt (by omega), Nat.mod_eq_of_lt (by omega), hor] at e2
      omega
    have := nat_add_or A (nx 64 A) hA hx hand (by omega)
    rw [this, hor]
  · have h63 : (2 : Nat) ^ N ≤ 2 ^ 63 := Nat.pow_le_pow_right (by decide) (by omega)
    have := nat_add_or A (nx N A) (by omega) (by omega) hand (by omega)
    rw [this, hor]

theorem xor_add_and (A B : Nat) (hA : A < 2 ^ 64) (hB : B < 2 ^ 64) : (A ^^^ B) + (A &&& B) = A ||| B := by
  have hand : (A ^^^ B) &&& (A &&& B) = 0 := by
    apply Nat.eq_of_testBit_eq
    intro i
    rw [Nat.testBit_and, Nat.testBit_xor, Nat.testBit_and]
    cases A.testBit i <;> cases B.testBit i <;> simp
  have hor : (A ^^^ B) ||| (A &&& B) = A ||| B := by
    apply Nat.eq_of_testBit_eq
    intro i
    rw [Nat.testBit_or, Nat.testBit_xor, Nat.testBit_and, Nat.testBit_or]
    cases A.testBit i <;> cases B.testBit i <;> rfl
  have hx := Nat.xor_lt_two_pow hA hB
  have ha := Nat.and_lt_two_pow A hB
  have e := BitVec.add_eq_or_of_and_eq_zero (BitVec.ofNat 65 (A ^^^ B)) (BitVec.ofNat 65 (A &&& B)) (by
    apply BitVec.eq_of_toNat_eq
    rw [BitVec.toNat_and, BitVec.toNat_ofNat, BitVec.toNat_ofNat, Nat.mod_eq_of_lt (by omega), Nat.mod_eq_of_lt (by omega), hand]; rfl)
  have e2 := congrArg BitVec.toNat e
  rw [BitVec.toNat_add, BitVec.toNat_or, BitVec.toNat_ofNat, BitVec.toNat_ofNat, Nat.mod_eq_of_lt (by omega), Nat.mod_eq_of_lt (by omega), Nat.mod_eq_of_lt (by omega), hor] at e2
  exact e2
end Go.Proofs.Yteibkmignbbekaa
