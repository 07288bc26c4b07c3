/- What layer 9 calls of bits, and of the reference of layer 1. -/
import Derived.Test.YteekppohhjlmmaaHpOwn
import Derived.Laws.Shifts
namespace Go.Proofs.Yteekppohhjlmmaa
open Go.RowKit
set_option maxHeartbeats 400000 in
theorem highest_any (n : Int) (w : World) (h1 : 1 ≤ n) (h2 : n ≤ 64) :
    Calls Try.prog 63 #[.int .i64 n] w fun e w' => e = .returned (.int .u64 (hiw n)) ∧ w' = w := by
  have hh := Lib.hid (hi_of n (by omega) h2)
  go_enter Try.func63, Try.ntmps63
  go_wp2
  go_ret
  exact ⟨by rw [← hh.out]; rfl, rfl⟩

set_option maxHeartbeats 400000 in
theorem validWidth_yes (n : Int) (w : World) (h1 : 1 ≤ n) (h2 : n ≤ 64) :
    Calls Try.prog 61 #[.int .i64 n] w fun e w' => e = .returned (.bool true) ∧ w' = w := by
  go_enter Try.func61, Try.ntmps61
  go_wp2
  go_ret
  exact ⟨rfl, rfl⟩

set_option maxHeartbeats 400000 in
theorem validWidth_no (n : Int) (w : World) (h : ¬ (1 ≤ n ∧ n ≤ 64)) :
    Calls Try.prog 61 #[.int .i64 n] w fun e w' => e = .returned (.bool false) ∧ w' = w := by
  by_cases h1 : 1 ≤ n
  · have h2 : decide (n ≤ 64) = false := by simp; omega
    clear h
    go_enter Try.func61, Try.ntmps61
    go_wp2
    go_ret
    exact ⟨rfl, rfl⟩
  · clear h
    go_enter Try.func61, Try.ntmps61
    go_wp2
    go_ret
    exact ⟨rfl, rfl⟩

set_option maxHeartbeats 400000 in
theorem keep_any (n v : Int) (w : World) (h1 : 1 ≤ n) (h2 : n ≤ 64) (h3 : 0 ≤ v) (h4 : v < 18446744073709551616) :
    Calls Try.prog 62 #[.int .i64 n, .int .u64 v] w fun e w' => e = .returned (.agg #[.int .i64 n, .int .u64 (low n v)]) ∧ Below w.heap.size w w' := by
  have hh := Lib.hid (and_hi n v h2 h3 h4)
  clear h3 h4
  go_enter Try.func62, Try.ntmps62
  go_wp2_with (go_at_call 63; refine (highest_any _ _ h1 h2).mono ?_; rintro e w' ⟨rfl, rfl⟩)
  refine bodyPost_ret (v := .agg #[.int .i64 n, .int .u64 (low n v)]) (by simp [results, Try.results62, go_sem, hh.out]) rfl ⟨rfl, ?_⟩
  exact (Below.refl _ _).alloc (Nat.le_refl _) _

/-- Behind what a call has made, all that was there is as it was. -/
theorem bcell {W w1 : World} (hb : Below W.heap.size W w1) : (∀ b o, b < W.heap.size → w1.cell? ⟨b, o, none⟩ = W.cell? ⟨b, o, none⟩) ∧ (∀ b o, b < W.heap.size → w1.frozen? ⟨b, o, none⟩ = W.frozen? ⟨b, o, none⟩) :=
  ⟨fun b o h => hb.cell (p := ⟨b, o, none⟩) h, fun b o h => hb.frozen (p := ⟨b, o, none⟩) h⟩

theorem vB_true {n v : Int} (h : vB n v = true) : 1 ≤ n ∧ n ≤ 64 ∧ v ≤ hiw n := by
  have := (vB_iff n v).1 h; unfold hiw; omega

set_option maxHeartbeats 400000 in
theorem valid_yes (n v : Int) (w : World) (h : vB n v = true) :
    Calls Try.prog 57 #[.agg #[.int .i64 n, .int .u64 v]] w fun e w' => e = .returned (.bool true) ∧ Below w.heap.size w w' := by
  obtain ⟨h1, h2, h3⟩ := vB_true h
  have H := Lib.hid h; clear h
  go_enter Try.func57, Try.ntmps57
  go_wp2
  go_quiet (first | (go_at_call 61; exact Calls.quiet_of_same (validWidth_yes _ _ h1 h2)) | (go_at_call 63; exact Calls.quiet_of_same (highest_any _ _ h1 h2)))
  go_wp2
  go_ret
  exact ⟨rfl, below_drewN ((Below.refl _ _).alloc (Nat.le_refl _) _) _⟩

set_option maxHeartbeats 400000 in
theorem valid_no (n v : Int) (w : World) (h : vB n v = false) :
    Calls Try.prog 57 #[.agg #[.int .i64 n, .int .u64 v]] w fun e w' => e = .returned (.bool false) ∧ Below w.heap.size w w' := by
  by_cases h1 : 1 ≤ n ∧ n ≤ 64
  · obtain ⟨h1, h2⟩ := h1
    have h3 : decide (v ≤ hiw n) = false := by
      simp only [decide_eq_false_iff_not]; intro h3
      have : vB n v = true := (vB_iff n v).2 ⟨h1, h2, by unfold hiw at h3; omega⟩
      rw [h] at this; exact absurd this (by decide)
    clear h
    go_enter Try.func57, Try.ntmps57
    go_wp2
    go_quiet (first | (go_at_call 61; exact Calls.quiet_of_same (validWidth_yes _ _ h1 h2)) | (go_at_call 63; exact Calls.quiet_of_same (highest_any _ _ h1 h2)))
    go_wp2
    go_ret
    exact ⟨rfl, below_drewN ((Below.refl _ _).alloc (Nat.le_refl _) _) _⟩
  · clear h
    go_enter Try.func57, Try.ntmps57
    go_wp2
    go_quiet ((go_at_call 61; exact Calls.quiet_of_same (validWidth_no _ _ h1)))
    go_wp2
    go_ret
    exact ⟨rfl, below_drewN ((Below.refl _ _).alloc (Nat.le_refl _) _) _⟩

theorem below2 {w w1 : World} {o1 o2 : Obj} (hb : Below ((w.alloc o1).alloc o2).heap.size ((w.alloc o1).alloc o2) w1) : Below w.heap.size w w1 :=
  (((Below.refl _ _).alloc (Nat.le_refl _) o1).alloc (by simp) o2).trans (hb.mono (by simp; omega))
theorem val_lt {n v : Int} (h : vB n v = true) : v < 18446744073709551616 := by
  obtain ⟨h1, h2, h3⟩ := vB_true h
  have := pw_le n h2
  rw [hiw_pw] at h3; omega
set_option maxHeartbeats 400000 in
theorem part_ok (n a l m : Int) (w : World) (ha : vB n a = true) (ha0 : 0 ≤ a) (l0 : 0 ≤ l) (m1 : 1 ≤ m) (hl : l + m ≤ n) :
    Calls Try.prog 53 #[.agg #[.int .i64 n, .int .u64 a], .int .i64 l, .int .i64 m] w fun e w' => e = .returned (.tuple #[.agg #[.int .i64 m, .int .u64 (low m (a / 2 ^ l.toNat))], .int .i64 0]) ∧ Below w.heap.size w w' := by
  have n2 := (vB_true ha).2.1
  have hr : 0 ≤ a / 2 ^ l.toNat ∧ a / 2 ^ l.toNat < 18446744073709551616 := by
    have p : (0 : Int) < 2 ^ l.toNat := Int.pow_pos (by decide)
    exact ⟨Int.ediv_nonneg ha0 (by omega), Int.lt_of_le_of_lt (Int.ediv_le_self _ ha0) (val_lt ha)⟩
  have M1 := Lib.hid (show 1 ≤ m ∧ m ≤ 64 from ⟨m1, by omega⟩)
  have hq : ¬ n - m < l := by omega
  have l1 : ¬ l < 0 := by omega
  have l2 : l ≤ 64 := by omega
  have hw1 : IntKind.i64.wrap (n - m) = n - m := IntWalk.i64_in _ (by omega)
  have HR := Lib.hid hr
  clear hr ha0 hl m1 n2
  have HA := Lib.hid ha
  clear ha
  go_enter Try.func53, Try.ntmps53
  go_wp2_with fail
  refine (valid_yes n a _ HA.out).mono ?_
  rintro e w1 ⟨rfl, hb1⟩
  obtain ⟨hc1, hf1⟩ := bcell hb1
  have hz1 : w.heap.size < w1.heap.size ∧ w.heap.size + 1 < w1.heap.size := by have hs := hb1.size; simp at hs; omega
  go_wp2_with fail
  refine (validWidth_yes m _ M1.out.1 M1.out.2).mono ?_
  rintro e w2 ⟨rfl, rfl⟩
  go_wp2_with fail
  refine (keep_any m _ _ M1.out.1 M1.out.2 HR.out.1 HR.out.2).mono ?_
  rintro e w3 ⟨rfl, hb3⟩
  obtain ⟨hc3, hf3⟩ := bcell hb3
  have hz3 : w.heap.size < w3.heap.size ∧ w.heap.size + 1 < w3.heap.size := by have hs := hb3.size; omega
  go_wp2
  refine bodyPost_ret (v := .tuple #[.agg #[.int .i64 m, .int .u64 (low m (a / 2 ^ l.toNat))], .int .i64 0]) (by simp [results, Try.results53, go_sem, hc1, hc3, hz1]) rfl ⟨rfl, ?_⟩
  exact (((below2 hb1).trans (hb3.mono (by omega))).setCell (by simp) _).setCell (by simp) _

/-- one bit of a value. -/
def bitV (v i : Int) : Int := v / 2 ^ i.toNat % 2
theorem bit_any (v i : Int) (w : World) (h0 : 0 ≤ v) (h1 : 0 ≤ i) (h2 : i ≤ 63) :
    Calls Try.prog 54 #[.int .u64 v, .int .i64 i] w fun e w' => e = .returned (.int .u64 (bitV v i)) ∧ w' = w := by
  have e1 : ¬ i < 0 := by omega
  have e2 : ¬ 63 < i := by omega
  have ht : (v / 2 ^ i.toNat).tmod 2 = v / 2 ^ i.toNat % 2 := Int.tmod_eq_emod_of_nonneg (Int.ediv_nonneg h0 (Int.le_of_lt (Int.pow_pos (by decide))))
  clear h0
  go_enter Try.func54, Try.ntmps54
  go_wp2
  go_ret
  exact ⟨rfl, rfl⟩

/-- the bits of a value above one of them, of its lowest ones. -/
def upV (n v i : Int) : Int := low n v / 2 ^ (i + 1).toNat
theorem up_step (n v i : Int) (h0 : 0 ≤ i) (h1 : i < n) : 2 * upV n v i + bitV v i = upV n v (i - 1) := by
  obtain ⟨k, rfl⟩ := Int.eq_ofNat_of_zero_le h0
  obtain ⟨m, rfl⟩ := Int.eq_ofNat_of_zero_le (show 0 ≤ n by omega)
  unfold upV bitV low
  have e1 : ((k : Int) + 1).toNat = k + 1 := by omega
  have e2 : ((k : Int) - 1 + 1).toNat = k := by omega
  have e3 : ((k : Int)).toNat = k := by omega
  have e4 : ((m : Int)).toNat = m := by omega
  rw [e1, e2, e3, e4]
  obtain ⟨j, rfl⟩ : ∃ j, m = k + 1 + j := ⟨m - (k + 1), by omega⟩
  have p1 : (2 : Int) ^ (k + 1) = 2 ^ k * 2 := Int.pow_succ _ _
  have p2 : (2 : Int) ^ (k + 1 + j) = 2 ^ k * (2 * 2 ^ j) := by rw [Int.pow_add, p1, Int.mul_assoc]
  have hk : (0 : Int) < 2 ^ k := Int.pow_pos (by decide)
  rw [p1, p2, ← Int.ediv_ediv_of_nonneg (Int.le_of_lt hk)]
  have q : v % (2 ^ k * (2 * 2 ^ j)) / 2 ^ k = v / 2 ^ k % (2 * 2 ^ j) := by
    rw [Int.emod_def, Int.emod_def, ← Int.ediv_ediv_of_nonneg (Int.le_of_lt hk), Int.mul_assoc]
    rw [show v - 2 ^ k * (2 * 2 ^ j * (v / 2 ^ k / (2 * 2 ^ j))) = v + 2 ^ k * (-(2 * 2 ^ j * (v / 2 ^ k / (2 * 2 ^ j)))) by rw [Int.mul_neg]; omega]
    rw [Int.add_mul_ediv_left _ _ (by omega)]
    omega
  rw [q]
  have hd : v / 2 ^ k % 2 = v / 2 ^ k % (2 * 2 ^ j) % 2 := (Int.emod_emod_of_dvd _ ⟨_, rfl⟩).symm
  rw [hd]; omega
theorem up_range (n v i : Int) (h0 : 0 ≤ i) (h1 : i < n) (h2 : n ≤ 64) : 0 ≤ upV n v i ∧ 2 * upV n v i + bitV v i ≤ 18446744073709551615 ∧ 0 ≤ bitV v i := by
  have a0 := low_nonneg n v
  have a1 := low_lt n v
  have a2 := pw_le n h2
  have hb : 0 ≤ bitV v i ∧ bitV v i ≤ 1 := by unfold bitV; omega
  have hu : 0 ≤ upV n v i := Int.ediv_nonneg a0 (Int.le_of_lt (Int.pow_pos (by decide)))
  have hle : ∀ j, upV n v j ≤ low n v := fun j => Int.ediv_le_self _ a0
  have := up_step n v i h0 h1
  have := hle (i - 1)
  omega
theorem up_start (n v : Int) : upV n v (n - 1) = 0 := by
  unfold upV
  rw [show n - 1 + 1 = n by omega]
  exact Int.ediv_eq_zero_of_lt (low_nonneg n v) (low_lt n v)
theorem up_end (n v k : Int) (h1 : -1 ≤ k) (h2 : ¬ 0 ≤ k) : upV n v k = low n v := by
  unfold upV
  rw [show (k + 1).toNat = 0 by omega]; simp
set_option maxHeartbeats 400000 in
theorem ref_low (v n : Int) (w : World) (h0 : 0 ≤ v) (h1 : 0 ≤ n) (h2 : n ≤ 64) :
    Calls Try.prog 42 #[.int .u64 v, .int .i64 n] w fun e w' => e = .returned (.int .u64 (low n v)) ∧ w' = w := by
  go_enter Try.func42, Try.ntmps42
  go_wp2
  go_loop [5, 6] (fun s i => ∃ k : Int, -1 ≤ k ∧ k < n ∧ i = .int .i64 k ∧ s = .int .u64 (upV n v k)) (fun _ i => (intOf i + 1).toNat)
  case atStart => exact ⟨n - 1, by omega, by omega, rfl, by rw [up_start]⟩
  case round =>
    obtain ⟨k, k1, k2, rfl, rfl⟩ := hrel
    by_cases hk : 0 ≤ k
    · obtain ⟨r1, r2, r3⟩ := up_range n v k hk k2 h2
      have r4 : 2 * upV n v k ≤ 18446744073709551615 := by omega
      have HS := Lib.hid (up_step n v k hk k2)
      go_wp2_with (go_at_call 54; refine (bit_any _ _ _ h0 hk (by omega)).mono ?_; rintro e w1 ⟨rfl, rfl⟩)
      go_round
      case rel => exact ⟨k - 1, by omega, by omega, by go_num, by rw [← HS.out]⟩
      case measure => simp [intOf]; omega
    · have HE := Lib.hid (up_end n v k k1 hk)
      go_wp2
      go_ret
      exact ⟨by rw [← HE.out]; rfl, rfl⟩

theorem vB_false {n v : Int} (h : vB n v = false) (h1 : 1 ≤ n) (h2 : n ≤ 64) : (low n v == v) = false := by
  have hx : ¬ v < 2 ^ n.toNat := fun hv => by
    have := (vB_iff n v).2 ⟨h1, h2, hv⟩; rw [h] at this; exact absurd this (by decide)
  have := low_lt n v
  simp only [beq_eq_false_iff_ne, ne_eq]
  unfold pw at this
  omega
theorem vB_low {n v : Int} (h : vB n v = true) (h0 : 0 ≤ v) : (low n v == v) = true := by
  have := ((vB_iff n v).1 h).2.2
  simp only [beq_iff_eq]
  exact Int.emod_eq_of_lt h0 this

set_option maxHeartbeats 400000 in
theorem ref_valid_yes (n v : Int) (w : World) (h : vB n v = true) (h0 : 0 ≤ v) :
    Calls Try.prog 34 #[.agg #[.int .i64 n, .int .u64 v]] w fun e w' => e = .returned (.bool true) ∧ Below w.heap.size w w' := by
  obtain ⟨h1, h2, _⟩ := vB_true h
  have hq := vB_low h h0
  have H := Lib.hid h; clear h
  go_enter Try.func34, Try.ntmps34
  go_wp2
  go_quiet ((go_at_call 42; exact Calls.quiet_of_same (ref_low _ _ _ h0 (by omega) h2)))
  go_wp2
  go_ret
  exact ⟨rfl, below_drewN ((Below.refl _ _).alloc (Nat.le_refl _) _) _⟩

set_option maxHeartbeats 400000 in
theorem ref_valid_no (n v : Int) (w : World) (h : vB n v = false) (h0 : 0 ≤ v) :
    Calls Try.prog 34 #[.agg #[.int .i64 n, .int .u64 v]] w fun e w' => e = .returned (.bool false) ∧ Below w.heap.size w w' := by
  by_cases h1 : 1 ≤ n
  · by_cases h2 : n ≤ 64
    · have hq := vB_false h h1 h2
      clear h
      go_enter Try.func34, Try.ntmps34
      go_wp2
      go_quiet ((go_at_call 42; exact Calls.quiet_of_same (ref_low _ _ _ h0 (by omega) h2)))
      go_wp2
      go_ret
      exact ⟨rfl, below_drewN ((Below.refl _ _).alloc (Nat.le_refl _) _) _⟩
    · clear h
      have hd : decide (n ≤ 64) = false := by simpa using h2
      go_enter Try.func34, Try.ntmps34
      go_wp2
      go_quiet (fail)
      go_wp2
      go_ret
      exact ⟨rfl, below_drewN ((Below.refl _ _).alloc (Nat.le_refl _) _) _⟩
  · clear h
    have hd : decide (1 ≤ n) = false := by simpa using h1
    go_enter Try.func34, Try.ntmps34
    go_wp2
    go_quiet (fail)
    go_wp2
    go_ret
    exact ⟨rfl, below_drewN ((Below.refl _ _).alloc (Nat.le_refl _) _) _⟩

theorem ref_valid_any (n v : Int) (w : World) (h0 : 0 ≤ v) : Calls Try.prog 34 #[.agg #[.int .i64 n, .int .u64 v]] w fun e w' => e = .returned (.bool (vB n v)) ∧ Below w.heap.size w w' := by
  cases h : vB n v
  · exact ref_valid_no n v w h h0
  · exact ref_valid_yes n v w h h0
theorem valid_any (n v : Int) (w : World) : Calls Try.prog 57 #[.agg #[.int .i64 n, .int .u64 v]] w fun e w' => e = .returned (.bool (vB n v)) ∧ Below w.heap.size w w' := by
  cases h : vB n v
  · exact valid_no n v w h
  · exact valid_yes n v w h
end Go.Proofs.Yteekppohhjlmmaa
