/- The contracts of the statements' own small functions. -/
import Derived.Test.YteibkmignbbekaaJoin
namespace Go.Proofs.Yteibkmignbbekaa
open Go.RowKit

theorem byt_any (v : Int) (w : World) :
    Calls Try.prog 29 #[.int .u64 v] w fun e w' => e = .returned (.agg #[.int .i64 8, .int .u64 v]) ∧ Below w.heap.size w w' := by
  go_enter Try.func29, Try.ntmps29
  go_wp2
  refine bodyPost_ret (v := .agg #[.int .i64 8, .int .u64 v]) (by simp [results, Try.results29, go_sem]) rfl ⟨rfl, ?_⟩
  exact (Below.refl _ _).alloc (Nat.le_refl _) _

/-- What Bin answers at three values, whatever the world. -/
def BinIs (op n a m b x y e : Int) : Prop := ∀ w : World, Calls Try.prog 11 #[.int .i64 op, .agg #[.int .i64 n, .int .u64 a], .agg #[.int .i64 m, .int .u64 b]] w fun en w' => en = .returned (.tuple #[.agg #[.int .i64 x, .int .u64 y], .int .i64 e]) ∧ Below w.heap.size w w'

set_option maxHeartbeats 400000 in
theorem is_yes (op n a m b x y : Int) (w : World) (H : BinIs op n a m b x y 0) :
    Calls Try.prog 28 #[.int .i64 op, .agg #[.int .i64 n, .int .u64 a], .agg #[.int .i64 m, .int .u64 b], .agg #[.int .i64 x, .int .u64 y]] w fun e w' => e = .returned (.bool true) ∧ Below w.heap.size w w' := by
  go_enter Try.func28, Try.ntmps28
  go_wp2_with fail
  refine (H _).mono ?_
  rintro e w1 ⟨rfl, hb1⟩
  obtain ⟨hc1, hf1⟩ := bcell hb1
  have hz1 : w.heap.size < w1.heap.size ∧ w.heap.size + 1 < w1.heap.size ∧ w.heap.size + 1 + 1 < w1.heap.size := by have hs := hb1.size; simp at hs; omega
  go_wp2
  go_ret
  exact ⟨rfl, (below3 hb1).trans (((Below.refl _ _).alloc (Nat.le_refl _) _).mono (by omega))⟩

set_option maxHeartbeats 400000 in
theorem bin_is (op n a m b x y : Int) (w : World) (H : BinIs op n a m b x y 0) :
    Calls Try.prog 26 #[.int .i64 op, .agg #[.int .i64 n, .int .u64 a], .agg #[.int .i64 m, .int .u64 b]] w fun e w' => e = .returned (.agg #[.int .i64 x, .int .u64 y]) ∧ Below w.heap.size w w' := by
  go_enter Try.func26, Try.ntmps26
  go_wp2_with fail
  refine (H _).mono ?_
  rintro e w1 ⟨rfl, hb1⟩
  obtain ⟨hc1, hf1⟩ := bcell hb1
  have hz1 : w.heap.size < w1.heap.size ∧ w.heap.size + 1 < w1.heap.size ∧ w.heap.size + 1 + 1 < w1.heap.size := by have hs := hb1.size; simp at hs; omega
  go_wp2
  refine bodyPost_ret (v := .agg #[.int .i64 x, .int .u64 y]) (by simp [results, Try.results26, go_sem, hc1, hz1]) rfl ⟨rfl, ?_⟩
  exact ((((below3 hb1).setCell (by simp <;> omega) _).setCell (by simp <;> omega) _).alloc (by simp <;> omega) _)

/-- one bit of a value. -/
def bitV (v i : Int) : Int := v / 2 ^ i.toNat % 2
theorem bit_any (v i : Int) (w : World) (h0 : 0 ≤ v) (h1 : 0 ≤ i) (h2 : i ≤ 63) :
    Calls Try.prog 27 #[.int .u64 v, .int .i64 i] w fun e w' => e = .returned (.int .u64 (bitV v i)) ∧ w' = w := by
  have e1 : ¬ i < 0 := by omega
  have e2 : ¬ 63 < i := by omega
  have ht : (v / 2 ^ i.toNat).tmod 2 = v / 2 ^ i.toNat % 2 := Int.tmod_eq_emod_of_nonneg (Int.ediv_nonneg h0 (Int.le_of_lt (Int.pow_pos (by decide))))
  clear h0
  go_enter Try.func27, Try.ntmps27
  go_wp2
  go_ret
  exact ⟨rfl, rfl⟩

/-- the bits of a value above one of them, of its lowest ones. -/
def upV (n v i : Int) : Int := low n v / 2 ^ (i + 1).toNat
theorem up_step (n v i : Int) (h0 : 0 ≤ i) (h1 : i < n) : 2 * upV n v i + bitV v i = upV n v (i - 1) := by
  obtain ⟨k, rfl⟩ := Int.eq_ofNat_of_zero_le h0
  obtain ⟨m, rfl⟩ := Int.eq_ofNat_of_zero_le (show 0 ≤ n by omega)
  unfold upV bitV low
  have e1 : ((k : Int) + 1).toNat = k + 1 := by omega
  have e2 : ((k : Int) - 1 + 1).toNat = k := by omega
  have e3 : ((k : Int)).toNat = k := by omega
  have e4 : ((m : Int)).toNat = m := by omega
  rw [e1, e2, e3, e4]
  obtain ⟨j, rfl⟩ : ∃ j, m = k + 1 + j := ⟨m - (k + 1), by omega⟩
  have p1 : (2 : Int) ^ (k + 1) = 2 ^ k * 2 := Int.pow_succ _ _
  have p2 : (2 : Int) ^ (k + 1 + j) = 2 ^ k * (2 * 2 ^ j) := by rw [Int.pow_add, p1, Int.mul_assoc]
  have hk : (0 : Int) < 2 ^ k := Int.pow_pos (by decide)
  rw [p1, p2, ← Int.ediv_ediv_of_nonneg (Int.le_of_lt hk)]
  have q : v % (2 ^ k * (2 * 2 ^ j)) / 2 ^ k = v / 2 ^ k % (2 * 2 ^ j) := by
    rw [Int.emod_def, Int.emod_def, ← Int.ediv_ediv_of_nonneg (Int.le_of_lt hk), Int.mul_assoc]
    rw [show v - 2 ^ k * (2 * 2 ^ j * (v / 2 ^ k / (2 * 2 ^ j))) = v + 2 ^ k * (-(2 * 2 ^ j * (v / 2 ^ k / (2 * 2 ^ j)))) by rw [Int.mul_neg]; omega]
    rw [Int.add_mul_ediv_left _ _ (by omega)]
    omega
  rw [q]
  have hd : v / 2 ^ k % 2 = v / 2 ^ k % (2 * 2 ^ j) % 2 := (Int.emod_emod_of_dvd _ ⟨_, rfl⟩).symm
  rw [hd]; omega
theorem up_range (n v i : Int) (h0 : 0 ≤ i) (h1 : i < n) (h2 : n ≤ 64) : 0 ≤ upV n v i ∧ 2 * upV n v i + bitV v i ≤ 18446744073709551615 ∧ 0 ≤ bitV v i := by
  have a0 := low_nonneg n v
  have a1 := low_lt n v
  have a2 := pw_le n h2
  have hb : 0 ≤ bitV v i ∧ bitV v i ≤ 1 := by unfold bitV; omega
  have hu : 0 ≤ upV n v i := Int.ediv_nonneg a0 (Int.le_of_lt (Int.pow_pos (by decide)))
  have hle : ∀ j, upV n v j ≤ low n v := fun j => Int.ediv_le_self _ a0
  have := up_step n v i h0 h1
  have := hle (i - 1)
  omega
theorem up_start (n v : Int) : upV n v (n - 1) = 0 := by
  unfold upV
  rw [show n - 1 + 1 = n by omega]
  exact Int.ediv_eq_zero_of_lt (low_nonneg n v) (low_lt n v)
theorem up_end (n v k : Int) (h1 : -1 ≤ k) (h2 : ¬ 0 ≤ k) : upV n v k = low n v := by
  unfold upV
  rw [show (k + 1).toNat = 0 by omega]; simp
set_option maxHeartbeats 400000 in
theorem ref_low (v n : Int) (w : World) (h0 : 0 ≤ v) (h1 : 0 ≤ n) (h2 : n ≤ 64) :
    Calls Try.prog 35 #[.int .u64 v, .int .i64 n] w fun e w' => e = .returned (.int .u64 (low n v)) ∧ w' = w := by
  go_enter Try.func35, Try.ntmps35
  go_wp2
  go_loop [5, 6] (fun s i => ∃ k : Int, -1 ≤ k ∧ k < n ∧ i = .int .i64 k ∧ s = .int .u64 (upV n v k)) (fun _ i => (intOf i + 1).toNat)
  case atStart => exact ⟨n - 1, by omega, by omega, rfl, by rw [up_start]⟩
  case round =>
    obtain ⟨k, k1, k2, rfl, rfl⟩ := hrel
    by_cases hk : 0 ≤ k
    · obtain ⟨r1, r2, r3⟩ := up_range n v k hk k2 h2
      have r4 : 2 * upV n v k ≤ 18446744073709551615 := by omega
      have HS := Lib.hid (up_step n v k hk k2)
      go_wp2_with (go_at_call 27; refine (bit_any _ _ _ h0 hk (by omega)).mono ?_; rintro e w1 ⟨rfl, rfl⟩)
      go_round
      case rel => exact ⟨k - 1, by omega, by omega, by go_num, by rw [← HS.out]⟩
      case measure => simp [intOf]; omega
    · have HE := Lib.hid (up_end n v k k1 hk)
      go_wp2
      go_ret
      exact ⟨by rw [← HE.out]; rfl, rfl⟩

theorem vB_false {n v : Int} (h : vB n v = false) (h1 : 1 ≤ n) (h2 : n ≤ 64) : (low n v == v) = false := by
  have hx : ¬ v < 2 ^ n.toNat := fun hv => by
    have := (vB_iff n v).2 ⟨h1, h2, hv⟩; rw [h] at this; exact absurd this (by decide)
  have := low_lt n v
  simp only [beq_eq_false_iff_ne, ne_eq]
  unfold pw at this
  omega
theorem vB_low {n v : Int} (h : vB n v = true) (h0 : 0 ≤ v) : (low n v == v) = true := by
  have := ((vB_iff n v).1 h).2.2
  simp only [beq_iff_eq]
  exact Int.emod_eq_of_lt h0 this

set_option maxHeartbeats 400000 in
theorem ref_valid_yes (n v : Int) (w : World) (h : vB n v = true) (h0 : 0 ≤ v) :
    Calls Try.prog 14 #[.agg #[.int .i64 n, .int .u64 v]] w fun e w' => e = .returned (.bool true) ∧ Below w.heap.size w w' := by
  obtain ⟨h1, h2, _⟩ := vB_true h
  have hq := vB_low h h0
  have H := Lib.hid h; clear h
  go_enter Try.func14, Try.ntmps14
  go_wp2
  go_quiet ((go_at_call 35; exact Calls.quiet_of_same (ref_low _ _ _ h0 (by omega) h2)))
  go_wp2
  go_ret
  exact ⟨rfl, below_drewN ((Below.refl _ _).alloc (Nat.le_refl _) _) _⟩

set_option maxHeartbeats 400000 in
theorem ref_valid_no (n v : Int) (w : World) (h : vB n v = false) (h0 : 0 ≤ v) :
    Calls Try.prog 14 #[.agg #[.int .i64 n, .int .u64 v]] w fun e w' => e = .returned (.bool false) ∧ Below w.heap.size w w' := by
  by_cases h1 : 1 ≤ n
  · by_cases h2 : n ≤ 64
    · have hq := vB_false h h1 h2
      clear h
      go_enter Try.func14, Try.ntmps14
      go_wp2
      go_quiet ((go_at_call 35; exact Calls.quiet_of_same (ref_low _ _ _ h0 (by omega) h2)))
      go_wp2
      go_ret
      exact ⟨rfl, below_drewN ((Below.refl _ _).alloc (Nat.le_refl _) _) _⟩
    · clear h
      have hd : decide (n ≤ 64) = false := by simpa using h2
      go_enter Try.func14, Try.ntmps14
      go_wp2
      go_quiet (fail)
      go_wp2
      go_ret
      exact ⟨rfl, below_drewN ((Below.refl _ _).alloc (Nat.le_refl _) _) _⟩
  · clear h
    have hd : decide (1 ≤ n) = false := by simpa using h1
    go_enter Try.func14, Try.ntmps14
    go_wp2
    go_quiet (fail)
    go_wp2
    go_ret
    exact ⟨rfl, below_drewN ((Below.refl _ _).alloc (Nat.le_refl _) _) _⟩

set_option maxHeartbeats 400000 in
theorem same_yes (n a m b : Int) (w : World) (h0 : 0 ≤ a) (k0 : 0 ≤ b) (ha : vB n a = true) (hb : vB m b = true) (hn : n = m) :
    Calls Try.prog 25 #[.agg #[.int .i64 n, .int .u64 a], .agg #[.int .i64 m, .int .u64 b]] w fun e w' => e = .returned (.bool true) ∧ Below w.heap.size w w' := by
  subst hn
  have HA := Lib.hid ha
  have HB := Lib.hid hb
  clear ha hb
  go_enter Try.func25, Try.ntmps25
  go_wp2_with fail
  refine (ref_valid_yes n a _ HA.out h0).mono ?_
  rintro e w1 ⟨rfl, hb1⟩
  obtain ⟨hc1, hf1⟩ := bcell hb1
  have hz1 : w.heap.size < w1.heap.size ∧ w.heap.size + 1 < w1.heap.size := by have hs := hb1.size; simp at hs; omega
  go_wp2_with fail
  refine (ref_valid_yes n b _ HB.out k0).mono ?_
  rintro e w2 ⟨rfl, hb2⟩
  obtain ⟨hc2, hf2⟩ := bcell hb2
  have hz2 : w.heap.size < w2.heap.size ∧ w.heap.size + 1 < w2.heap.size := by have hs := hb2.size; omega
  go_wp2
  go_ret
  exact ⟨rfl, ((below2 hb1).trans (hb2.mono (by omega)))⟩

set_option maxHeartbeats 400000 in
theorem same_width (n a m b : Int) (w : World) (h0 : 0 ≤ a) (k0 : 0 ≤ b) (ha : vB n a = true) (hb : vB m b = true) (hn : ¬ n = m) :
    Calls Try.prog 25 #[.agg #[.int .i64 n, .int .u64 a], .agg #[.int .i64 m, .int .u64 b]] w fun e w' => e = .returned (.bool false) ∧ Below w.heap.size w w' := by
  have hq : (n == m) = false := by simpa using hn
  clear hn
  have HA := Lib.hid ha
  have HB := Lib.hid hb
  clear ha hb
  go_enter Try.func25, Try.ntmps25
  go_wp2_with fail
  refine (ref_valid_yes n a _ HA.out h0).mono ?_
  rintro e w1 ⟨rfl, hb1⟩
  obtain ⟨hc1, hf1⟩ := bcell hb1
  have hz1 : w.heap.size < w1.heap.size ∧ w.heap.size + 1 < w1.heap.size := by have hs := hb1.size; simp at hs; omega
  go_wp2_with fail
  refine (ref_valid_yes m b _ HB.out k0).mono ?_
  rintro e w2 ⟨rfl, hb2⟩
  obtain ⟨hc2, hf2⟩ := bcell hb2
  have hz2 : w.heap.size < w2.heap.size ∧ w.heap.size + 1 < w2.heap.size := by have hs := hb2.size; omega
  go_wp2
  go_ret
  exact ⟨rfl, ((below2 hb1).trans (hb2.mono (by omega)))⟩

set_option maxHeartbeats 400000 in
theorem same_no1 (n a m b : Int) (w : World) (h0 : 0 ≤ a) (_k0 : 0 ≤ b) (ha : vB n a = false) :
    Calls Try.prog 25 #[.agg #[.int .i64 n, .int .u64 a], .agg #[.int .i64 m, .int .u64 b]] w fun e w' => e = .returned (.bool false) ∧ Below w.heap.size w w' := by
  have HA := Lib.hid ha
  clear ha
  go_enter Try.func25, Try.ntmps25
  go_wp2_with fail
  refine (ref_valid_no n a _ HA.out h0).mono ?_
  rintro e w1 ⟨rfl, hb1⟩
  obtain ⟨hc1, hf1⟩ := bcell hb1
  have hz1 : w.heap.size < w1.heap.size ∧ w.heap.size + 1 < w1.heap.size := by have hs := hb1.size; simp at hs; omega
  go_wp2
  go_ret
  exact ⟨rfl, (below2 hb1)⟩

set_option maxHeartbeats 400000 in
theorem same_no2 (n a m b : Int) (w : World) (h0 : 0 ≤ a) (k0 : 0 ≤ b) (ha : vB n a = true) (hb : vB m b = false) :
    Calls Try.prog 25 #[.agg #[.int .i64 n, .int .u64 a], .agg #[.int .i64 m, .int .u64 b]] w fun e w' => e = .returned (.bool false) ∧ Below w.heap.size w w' := by
  have HA := Lib.hid ha
  have HB := Lib.hid hb
  clear ha hb
  go_enter Try.func25, Try.ntmps25
  go_wp2_with fail
  refine (ref_valid_yes n a _ HA.out h0).mono ?_
  rintro e w1 ⟨rfl, hb1⟩
  obtain ⟨hc1, hf1⟩ := bcell hb1
  have hz1 : w.heap.size < w1.heap.size ∧ w.heap.size + 1 < w1.heap.size := by have hs := hb1.size; simp at hs; omega
  go_wp2_with fail
  refine (ref_valid_no m b _ HB.out k0).mono ?_
  rintro e w2 ⟨rfl, hb2⟩
  obtain ⟨hc2, hf2⟩ := bcell hb2
  have hz2 : w.heap.size < w2.heap.size ∧ w.heap.size + 1 < w2.heap.size := by have hs := hb2.size; omega
  go_wp2
  go_ret
  exact ⟨rfl, ((below2 hb1).trans (hb2.mono (by omega)))⟩

end Go.Proofs.Yteibkmignbbekaa
