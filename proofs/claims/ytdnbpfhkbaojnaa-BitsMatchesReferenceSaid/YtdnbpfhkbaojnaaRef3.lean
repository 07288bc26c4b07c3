/- The contracts of the reference's Not and Move. -/
import Derived.Test.YtdnbpfhkbaojnaaRef2
namespace Go.Proofs.Ytdnbpfhkbaojnaa
open Go.RowKit

set_option maxHeartbeats 400000 in
theorem rnot_no (n a : Int) (w : World) (a0 : 0 ≤ a) (ha : vB n a = false) :
    Calls Try.prog 16 #[.agg #[.int .i64 n, .int .u64 a]] w fun e w' => e = .returned (.tuple #[.agg #[.int .i64 0, .int .u64 0], .int .i64 1]) ∧ Below w.heap.size w w' := by
  have A0 := Lib.hid a0
  clear a0
  have HA := Lib.hid ha
  clear ha
  go_enter Try.func16, Try.ntmps16
  go_wp2_with fail
  refine (ref_valid_no n a _ HA.out A0.out).mono ?_
  rintro e w1 ⟨rfl, hb1⟩
  obtain ⟨hc1, hf1⟩ := bcell hb1
  have hz1 : w.heap.size < w1.heap.size ∧ w.heap.size + 1 < w1.heap.size := by have hs := hb1.size; simp at hs; omega
  go_wp2
  refine bodyPost_ret (v := .tuple #[.agg #[.int .i64 0, .int .u64 0], .int .i64 1]) (by simp [results, Try.results16, go_sem, hc1]) rfl ⟨rfl, ?_⟩
  exact ((below2 hb1).setCell (by simp <;> omega) _).setCell (by simp <;> omega) _

set_option maxHeartbeats 400000 in
theorem rnot_yes (n a : Int) (w : World) (a0 : 0 ≤ a) (ha : vB n a = true) :
    Calls Try.prog 16 #[.agg #[.int .i64 n, .int .u64 a]] w fun e w' => e = .returned (.tuple #[.agg #[.int .i64 n, .int .u64 (low n (18446744073709551615 - a))], .int .i64 0]) ∧ Below w.heap.size w w' := by
  obtain ⟨h1, h2, _⟩ := vB_true ha
  have a64 := val_lt ha
  have hs : IntKind.u64.wrap (18446744073709551615 - a) = 18446744073709551615 - a := by rw [IntKind.wrap_u64]; omega
  have R0 := Lib.hid (show 0 ≤ 18446744073709551615 - a by omega)
  clear a64
  have A0 := Lib.hid a0
  clear a0
  have HA := Lib.hid ha
  clear ha
  go_enter Try.func16, Try.ntmps16
  go_wp2_with fail
  refine (ref_valid_yes n a _ HA.out A0.out).mono ?_
  rintro e w1 ⟨rfl, hb1⟩
  obtain ⟨hc1, hf1⟩ := bcell hb1
  have hz1 : w.heap.size < w1.heap.size ∧ w.heap.size + 1 < w1.heap.size := by have hs := hb1.size; simp at hs; omega
  go_wp2
  have S1 : w1.cell? ⟨w.heap.size, 0, none⟩ = some (.int .i64 n) ∧ w1.cell? ⟨w.heap.size, 1, none⟩ = some (.int .u64 a) := by
    refine ⟨?_, ?_⟩ <;> simp [hc1, go_sem]
  have p5 : w1.frozen? ⟨w.heap.size + 1, 0, none⟩ = false := by simp [hf1, go_sem]
  have p6 : w1.frozen? ⟨w.heap.size + 1, 1, none⟩ = false := by simp [hf1, go_sem]
  have q5 : w1.cell? ⟨w.heap.size + 1, 0, none⟩ = some (.int .i64 0) := by simp [hc1, go_sem]
  have q6 : w1.cell? ⟨w.heap.size + 1, 1, none⟩ = some (.int .u64 0) := by simp [hc1, go_sem]
  have hb := below2 hb1
  obtain ⟨s1, s2⟩ := S1
  clear hc1 hf1 hb1
  go_region_held3 (fun w' => w'.cell? ⟨w.heap.size, 0, none⟩ = some (.int .i64 n) ∧ w'.cell? ⟨w.heap.size, 1, none⟩ = some (.int .u64 a)) (go_keep)
    ((go_at_call 35; refine (ref_low _ _ _ R0.out (by omega) h2).mono ?_; rintro e w' ⟨rfl, rfl⟩))
  go_wp2
  refine bodyPost_ret (v := .tuple #[.agg #[.int .i64 n, .int .u64 (low n (18446744073709551615 - a))], .int .i64 0]) (by simp [results, Try.results16, go_sem, q5, q6]) rfl ⟨rfl, ?_⟩
  exact (hb.drew.setCell (by simp) _).setCell (by simp) _

set_option maxHeartbeats 1000000 in
theorem move_any (n a y T : Int) (w : World) (a0 : 0 ≤ a) (n1 : 1 ≤ n) (n2 : n ≤ 64) (y1 : -64 ≤ y) (y2 : y ≤ 64) (T1 : low n T = T)
    (HT : ∀ i : Int, 0 ≤ i → i < n → bitV T i = if 0 ≤ i - y ∧ i - y < n then bitV a (i - y) else 0) :
    Calls Try.prog 34 #[.agg #[.int .i64 n, .int .u64 a], .int .i64 y] w fun e w' => e = .returned (.int .u64 T) ∧ Below w.heap.size w w' := by
  have HH := Lib.hid HT
  have HL := Lib.hid T1
  clear HT T1
  go_enter Try.func34, Try.ntmps34
  go_wp2
  go_loop [5, 6] (fun s i => ∃ k : Int, -1 ≤ k ∧ k < n ∧ i = .int .i64 k ∧ s = .int .u64 (upV n T k)) (fun _ i => (intOf i + 1).toNat)
  case atStart => exact ⟨n - 1, by omega, by omega, rfl, by rw [up_start]⟩
  case round =>
    obtain ⟨k, k1, k2, rfl, rfl⟩ := hrel
    by_cases hk : 0 ≤ k
    · obtain ⟨r1, r2, r3⟩ := up_range n T k hk k2 n2
      have r4 : 2 * upV n T k ≤ 18446744073709551615 := by omega
      have HS := Lib.hid (up_step n T k hk k2)
      have HB := Lib.hid (HH.out k hk k2)
      by_cases c1 : 0 ≤ k - y
      · by_cases c2 : k - y < n
        · have HB2 := HB.out
          rw [if_pos ⟨c1, c2⟩] at HB2
          have HB3 := Lib.hid HB2
          rw [HB2] at r2 r3
          clear HB2 HB
          go_wp2_with (go_at_call 27; refine (bit_any _ _ _ a0 c1 (by omega)).mono ?_; rintro e w1 ⟨rfl, rfl⟩)
          go_round
          case rel => exact ⟨k - 1, by omega, by omega, by go_num, by rw [← HS.out, HB3.out]⟩
          case measure => simp [intOf]; omega
        · have HB2 := HB.out
          rw [if_neg (fun h => c2 h.2)] at HB2
          have HB3 := Lib.hid HB2
          clear HB2 HB r2 r3
          have c2' : decide (k - y < n) = false := by simpa using c2
          go_wp2
          go_round
          case rel => exact ⟨k - 1, by omega, by omega, by go_num, by rw [← HS.out, HB3.out, Int.add_zero]⟩
          case measure => simp [intOf]; omega
      · have HB2 := HB.out
        rw [if_neg (fun h => c1 h.1)] at HB2
        have HB3 := Lib.hid HB2
        clear HB2 HB r2 r3
        have c1' : decide (0 ≤ k - y) = false := by simpa using c1
        go_wp2
        go_round
        case rel => exact ⟨k - 1, by omega, by omega, by go_num, by rw [← HS.out, HB3.out, Int.add_zero]⟩
        case measure => simp [intOf]; omega
    · have HE := Lib.hid (up_end n T k k1 hk)
      go_wp2
      go_ret
      exact ⟨congrArg (fun z => Ending.returned (Value.int .u64 z)) (HE.out.trans HL.out), (Below.refl _ _).alloc (Nat.le_refl _) _⟩

end Go.Proofs.Ytdnbpfhkbaojnaa
