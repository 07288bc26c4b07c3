/- The contract of the reference's Sext. -/
import Derived.Test.YtdnbpfhkbaojnaaRef3
import Derived.Test.YtdnbpfhkbaojnaaPartsM
namespace Go.Proofs.Ytdnbpfhkbaojnaa
open Go.RowKit

set_option maxHeartbeats 400000 in
theorem rsext_valid (n a m : Int) (w : World) (a0 : 0 ≤ a) (ha : vB n a = false) :
    Calls Try.prog 20 #[.agg #[.int .i64 n, .int .u64 a], .int .i64 m] w fun e w' => e = .returned (.tuple #[.agg #[.int .i64 0, .int .u64 0], .int .i64 1]) ∧ Below w.heap.size w w' := by
  have A0 := Lib.hid a0
  clear a0
  have HA := Lib.hid ha
  clear ha
  go_enter Try.func20, Try.ntmps20
  go_wp2_with fail
  refine (rzext_valid n a m _ A0.out HA.out).mono ?_
  rintro e w1 ⟨rfl, hb1⟩
  obtain ⟨hc1, hf1⟩ := bcell hb1
  have hz1 : w.heap.size < w1.heap.size ∧ w.heap.size + 1 < w1.heap.size := by have hs := hb1.size; simp at hs; omega
  go_wp2
  refine bodyPost_ret (v := .tuple #[.agg #[.int .i64 0, .int .u64 0], .int .i64 1]) (by simp [results, Try.results20, go_sem, hc1, hz1]) rfl ⟨rfl, ?_⟩
  exact ((((below2 hb1).setCell (by simp <;> omega) _).setCell (by simp <;> omega) _).alloc (by simp <;> omega) _)

set_option maxHeartbeats 400000 in
theorem rsext_low (n a m : Int) (w : World) (a0 : 0 ≤ a) (ha : vB n a = true) (hm : m < 1) :
    Calls Try.prog 20 #[.agg #[.int .i64 n, .int .u64 a], .int .i64 m] w fun e w' => e = .returned (.tuple #[.agg #[.int .i64 0, .int .u64 0], .int .i64 1]) ∧ Below w.heap.size w w' := by
  have A0 := Lib.hid a0
  clear a0
  have HA := Lib.hid ha
  clear ha
  go_enter Try.func20, Try.ntmps20
  go_wp2_with fail
  refine (rzext_low n a m _ A0.out HA.out hm).mono ?_
  rintro e w1 ⟨rfl, hb1⟩
  obtain ⟨hc1, hf1⟩ := bcell hb1
  have hz1 : w.heap.size < w1.heap.size ∧ w.heap.size + 1 < w1.heap.size := by have hs := hb1.size; simp at hs; omega
  go_wp2
  refine bodyPost_ret (v := .tuple #[.agg #[.int .i64 0, .int .u64 0], .int .i64 1]) (by simp [results, Try.results20, go_sem, hc1, hz1]) rfl ⟨rfl, ?_⟩
  exact ((((below2 hb1).setCell (by simp <;> omega) _).setCell (by simp <;> omega) _).alloc (by simp <;> omega) _)

set_option maxHeartbeats 400000 in
theorem rsext_high (n a m : Int) (w : World) (a0 : 0 ≤ a) (ha : vB n a = true) (_hm1 : ¬ m < 1) (hm : 64 < m) :
    Calls Try.prog 20 #[.agg #[.int .i64 n, .int .u64 a], .int .i64 m] w fun e w' => e = .returned (.tuple #[.agg #[.int .i64 0, .int .u64 0], .int .i64 1]) ∧ Below w.heap.size w w' := by
  have A0 := Lib.hid a0
  clear a0
  have HA := Lib.hid ha
  clear ha
  go_enter Try.func20, Try.ntmps20
  go_wp2_with fail
  refine (rzext_high n a m _ A0.out HA.out (by omega) hm).mono ?_
  rintro e w1 ⟨rfl, hb1⟩
  obtain ⟨hc1, hf1⟩ := bcell hb1
  have hz1 : w.heap.size < w1.heap.size ∧ w.heap.size + 1 < w1.heap.size := by have hs := hb1.size; simp at hs; omega
  go_wp2
  refine bodyPost_ret (v := .tuple #[.agg #[.int .i64 0, .int .u64 0], .int .i64 1]) (by simp [results, Try.results20, go_sem, hc1, hz1]) rfl ⟨rfl, ?_⟩
  exact ((((below2 hb1).setCell (by simp <;> omega) _).setCell (by simp <;> omega) _).alloc (by simp <;> omega) _)

set_option maxHeartbeats 400000 in
theorem rsext_width (n a m : Int) (w : World) (a0 : 0 ≤ a) (ha : vB n a = true) (hm1 : ¬ m < 1) (hm : ¬ 64 < m) (hn : m < n) :
    Calls Try.prog 20 #[.agg #[.int .i64 n, .int .u64 a], .int .i64 m] w fun e w' => e = .returned (.tuple #[.agg #[.int .i64 0, .int .u64 0], .int .i64 13]) ∧ Below w.heap.size w w' := by
  have A0 := Lib.hid a0
  clear a0
  have HA := Lib.hid ha
  clear ha
  go_enter Try.func20, Try.ntmps20
  go_wp2_with fail
  refine (rzext_width n a m _ A0.out HA.out (by omega) (by omega) hn).mono ?_
  rintro e w1 ⟨rfl, hb1⟩
  obtain ⟨hc1, hf1⟩ := bcell hb1
  have hz1 : w.heap.size < w1.heap.size ∧ w.heap.size + 1 < w1.heap.size := by have hs := hb1.size; simp at hs; omega
  go_wp2
  refine bodyPost_ret (v := .tuple #[.agg #[.int .i64 0, .int .u64 0], .int .i64 13]) (by simp [results, Try.results20, go_sem, hc1, hz1]) rfl ⟨rfl, ?_⟩
  exact ((((below2 hb1).setCell (by simp <;> omega) _).setCell (by simp <;> omega) _).alloc (by simp <;> omega) _)

/-- What the loop over the bits above leaves. -/
def SextRel (w w1 : World) (n a m : Int) (s : Value) (wr : World) : Prop :=
  ∃ k : Int, n ≤ k ∧ k ≤ m ∧ s = .int .i64 k ∧ wr.cell? ⟨w1.heap.size, 0, none⟩ = some (.int .i64 m) ∧ wr.cell? ⟨w1.heap.size, 1, none⟩ = some (.int .u64 (low k (sgn n a))) ∧ wr.frozen? ⟨w1.heap.size, 1, none⟩ = false ∧
    wr.cell? ⟨w.heap.size + 1, 0, none⟩ = some (.int .i64 0) ∧ wr.cell? ⟨w.heap.size + 1, 1, none⟩ = some (.int .u64 0) ∧ wr.frozen? ⟨w.heap.size + 1, 0, none⟩ = false ∧ wr.frozen? ⟨w.heap.size + 1, 1, none⟩ = false ∧ Below w.heap.size w wr

set_option maxHeartbeats 1000000 in
theorem rsext_walk (n a m : Int) (w : World) (a0 : 0 ≤ a) (ha : vB n a = true) (hm1 : ¬ m < 1) (hm : ¬ 64 < m) (hn : ¬ m < n) (hst : Hid (low n (sgn n a) = a))
    (hstep : Hid (∀ k : Int, n ≤ k → k < m → IntKind.u64.wrap (low k (sgn n a) + IntKind.u64.wrap (bitV a (n - 1) * 2 ^ k.toNat)) = low (k + 1) (sgn n a))) :
    Calls Try.prog 20 #[.agg #[.int .i64 n, .int .u64 a], .int .i64 m] w fun e w' => e = .returned (.tuple #[.agg #[.int .i64 m, .int .u64 (low m (sgn n a))], .int .i64 0]) ∧ Below w.heap.size w w' := by
  obtain ⟨n1, n2, _⟩ := vB_true ha
  have A0 := Lib.hid (And.intro a0 ha)
  clear a0 ha
  go_enter Try.func20, Try.ntmps20
  go_wp2_with fail
  refine (rzext_ok n a m _ A0.out.1 A0.out.2 (by omega) (by omega) (by omega)).mono ?_
  rintro e w1 ⟨rfl, hb1⟩
  obtain ⟨hc1, hf1⟩ := bcell hb1
  have hz1 : w.heap.size < w1.heap.size ∧ w.heap.size + 1 < w1.heap.size := by have hs := hb1.size; simp at hs; omega
  go_wp2_with fail
  refine (bit_any a (n - 1) _ A0.out.1 (by omega) (by omega)).mono ?_
  rintro e w0 ⟨rfl, hw0⟩
  rw [hw0]
  clear hw0 w0
  go_wp2_with fail
  have hB := (below2 hb1).alloc (by omega) (.cells #[.int .i64 m, .int .u64 a] 24)
  have R1 : (w1.alloc (.cells #[.int .i64 m, .int .u64 a] 24)).cell? ⟨w.heap.size + 1, 0, none⟩ = some (.int .i64 0) := in_alloc _ (by simp [hc1, go_sem])
  have R2 : (w1.alloc (.cells #[.int .i64 m, .int .u64 a] 24)).cell? ⟨w.heap.size + 1, 1, none⟩ = some (.int .u64 0) := in_alloc _ (by simp [hc1, go_sem])
  have R3 : (w1.alloc (.cells #[.int .i64 m, .int .u64 a] 24)).frozen? ⟨w.heap.size + 1, 0, none⟩ = false := by simp [hf1, hz1, go_sem]
  have R4 : (w1.alloc (.cells #[.int .i64 m, .int .u64 a] 24)).frozen? ⟨w.heap.size + 1, 1, none⟩ = false := by simp [hf1, hz1, go_sem]
  clear hc1 hf1 hb1
  go_loopw [9] (fun s wr => SextRel w w1 n a m s wr) (fun s _ => (m - intOf s).toNat)
  case atStart => exact ⟨n, by omega, by omega, rfl, new0 _ _ _ _, by rw [hst.out]; exact new1 _ _ _ _, by simp [go_sem], R1, R2, R3, R4, hB⟩
  case round =>
    clear R1 R2 R3 R4 hB
    obtain ⟨k, k1, k2, rfl, D0, D1, D2, D3, D4, D5, D6, DB⟩ := hrel
    by_cases hk : k < m
    · have HS := Lib.hid (hstep.out k k1 hk)
      have hkw : IntKind.u64.wrap k = k := by rw [IntKind.wrap_u64]; omega
      have ne1 : ¬ w1.heap.size = w.heap.size + 1 := by omega
      have ne2 : ¬ w.heap.size + 1 = w1.heap.size := by omega
      go_wp2
      go_roundw
      case rel => exact ⟨k + 1, by omega, by omega, by go_num, by simp [go_sem, D0], by rw [← HS.out]; simp [go_sem, D1], by simp [go_sem, D2], by simp [go_sem, D3], by simp [go_sem, D4], by simp [go_sem, D5], by simp [go_sem, D6], DB.setCell (by simp; omega) _⟩
      case measure => simp [intOf]; omega
    · obtain rfl : k = m := by omega
      have ne1 : ¬ w1.heap.size = w.heap.size + 1 := by omega
      have ne2 : ¬ w.heap.size + 1 = w1.heap.size := by omega
      go_wp2
      refine bodyPost_ret (v := .tuple #[.agg #[.int .i64 k, .int .u64 (low k (sgn n a))], .int .i64 0]) (by simp [results, Try.results20, go_sem, D3, D4]) rfl ⟨rfl, ?_⟩
      exact (DB.setCell (by simp) _).setCell (by simp) _

end Go.Proofs.Ytdnbpfhkbaojnaa
