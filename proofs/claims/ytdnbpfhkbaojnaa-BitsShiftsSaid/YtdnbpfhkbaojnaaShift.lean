/- BitsShifts: the arithmetic, and the walk. -/
import Derived.Test.YtdnbpfhkbaojnaaLater
namespace Go.Proofs.Ytdnbpfhkbaojnaa
open Go.RowKit

set_option maxHeartbeats 400000 in
theorem shifts_no (n a m b : Int) (w : World) (a0 : 0 ≤ a) (b0 : 0 ≤ b) (h : sameV n a m b = false) :
    Calls Try.prog 7 #[.agg #[.int .i64 n, .int .u64 a], .agg #[.int .i64 m, .int .u64 b]] w fun e w' => e = .returned (.bool true) ∧ Below w.heap.size w w' := by
  go_enter Try.func7, Try.ntmps7
  go_wp2_with fail
  refine (head_any _).mono ?_
  rintro e w1 ⟨rfl, hb1⟩
  obtain ⟨hc1, hf1⟩ := bcell hb1
  have hz1 : w.heap.size < w1.heap.size ∧ w.heap.size + 1 < w1.heap.size := by have hs := hb1.size; simp at hs; omega
  go_wp2_with fail
  refine (same_any n a m b _ a0 b0).mono ?_
  rintro e w2 ⟨rfl, hb2⟩
  obtain ⟨hc2, hf2⟩ := bcell hb2
  have hz2 : w.heap.size < w2.heap.size ∧ w.heap.size + 1 < w2.heap.size := by have hs := hb2.size; omega
  go_wp2
  go_ret
  exact ⟨rfl, ((below2 hb1).trans (hb2.mono (by omega)))⟩

set_option maxRecDepth 100000 in
set_option maxHeartbeats 2000000 in
theorem shifts_big (n a b : Int) (w : World) (a0 : 0 ≤ a) (b0 : 0 ≤ b) (h : sameV n a n b = true) (hw : IntKind.u64.wrap n = n) (hn : n ≤ b)
    (C1 : Hid (BinC 10 n a b n 0)) (C2 : Hid (BinC 11 n a b n 0)) :
    Calls Try.prog 7 #[.agg #[.int .i64 n, .int .u64 a], .agg #[.int .i64 n, .int .u64 b]] w fun e w' => e = .returned (.bool true) ∧ Below w.heap.size w w' := by
  have SA := Lib.hid (And.intro a0 b0)
  clear a0
  go_enter Try.func7, Try.ntmps7
  go_wp2_with fail
  refine (head_any _).mono ?_
  rintro e w1 ⟨rfl, hb1⟩
  obtain ⟨hc1, hf1⟩ := bcell hb1
  have hz1 : w.heap.size < w1.heap.size ∧ w.heap.size + 1 < w1.heap.size := by have hs := hb1.size; simp at hs; omega
  go_wp2_with fail
  refine (same_any n a n b _ SA.out.1 SA.out.2).mono ?_
  rintro e w2 ⟨rfl, hb2⟩
  obtain ⟨hc2, hf2⟩ := bcell hb2
  have hz2 : w.heap.size < w2.heap.size ∧ w.heap.size + 1 < w2.heap.size := by have hs := hb2.size; omega
  go_wp2_with fail
  have S0 : w2.cell? ⟨w.heap.size, 0, none⟩ = some (.int .i64 n) ∧ w2.cell? ⟨w.heap.size, 1, none⟩ = some (.int .u64 a) ∧ w2.cell? ⟨w.heap.size + 1, 0, none⟩ = some (.int .i64 n) ∧ w2.cell? ⟨w.heap.size + 1, 1, none⟩ = some (.int .u64 b) ∧ Below w.heap.size w w2 := by
    refine ⟨?_, ?_, ?_, ?_, ((below2 hb1).trans (hb2.mono (by omega)))⟩ <;> simp [hc1, hc2, hz1, go_sem]
  clear hc1 hf1 hz1 hb1 hc2 hf2 hz2 hb2
  have S1 : (w2.alloc (.cells #[.int .i64 n, .int .u64 0] 24)).cell? ⟨w.heap.size, 0, none⟩ = some (.int .i64 n) ∧ (w2.alloc (.cells #[.int .i64 n, .int .u64 0] 24)).cell? ⟨w.heap.size, 1, none⟩ = some (.int .u64 a) ∧ (w2.alloc (.cells #[.int .i64 n, .int .u64 0] 24)).cell? ⟨w.heap.size + 1, 0, none⟩ = some (.int .i64 n) ∧ (w2.alloc (.cells #[.int .i64 n, .int .u64 0] 24)).cell? ⟨w.heap.size + 1, 1, none⟩ = some (.int .u64 b) ∧ (w2.alloc (.cells #[.int .i64 n, .int .u64 0] 24)).cell? ⟨w2.heap.size, 0, none⟩ = some (.int .i64 n) ∧ (w2.alloc (.cells #[.int .i64 n, .int .u64 0] 24)).cell? ⟨w2.heap.size, 1, none⟩ = some (.int .u64 0) ∧ Below w.heap.size w (w2.alloc (.cells #[.int .i64 n, .int .u64 0] 24)) := by
    refine ⟨in_alloc _ S0.1, in_alloc _ S0.2.1, in_alloc _ S0.2.2.1, in_alloc _ S0.2.2.2.1, new0 _ _ _ _, new1 _ _ _ _, S0.2.2.2.2.alloc S0.2.2.2.2.size _⟩
  clear S0 h
  go_region_held3 (fun w' => w'.cell? ⟨w.heap.size, 0, none⟩ = some (.int .i64 n) ∧ w'.cell? ⟨w.heap.size, 1, none⟩ = some (.int .u64 a) ∧ w'.cell? ⟨w.heap.size + 1, 0, none⟩ = some (.int .i64 n) ∧ w'.cell? ⟨w.heap.size + 1, 1, none⟩ = some (.int .u64 b) ∧ w'.cell? ⟨w2.heap.size, 0, none⟩ = some (.int .i64 n) ∧ w'.cell? ⟨w2.heap.size, 1, none⟩ = some (.int .u64 0) ∧ Below w.heap.size w w') (first | assumption | exact later6 ‹_› ‹_› | exact drew6 ‹_›)
    (first
      | (go_at_call 26; ((with_reducible refine (binUse C1 _).mono ?_); rintro e w9 ⟨rfl, hb9⟩))
      | (go_at_call 26; ((with_reducible refine (binUse C2 _).mono ?_); rintro e w9 ⟨rfl, hb9⟩)))
  go_wp2
  go_ret
  exact ⟨rfl, below6 ‹_›⟩

set_option maxRecDepth 100000 in
set_option maxHeartbeats 2000000 in
theorem shifts_small (n a b p x y : Int) (w : World) (a0 : 0 ≤ a) (b0 : 0 ≤ b) (h : sameV n a n b = true) (hw : IntKind.u64.wrap n = n) (hn : ¬ n ≤ b) (hb63 : b ≤ 64) (hp : IntKind.u64.wrap (2 ^ b.toNat) = p)
    (C1 : Hid (BinC 10 n a b n x)) (C2 : Hid (BinC 4 n a p n x)) (C3 : Hid (BinC 11 n a b n y)) (C4 : Hid (BinC 5 n a p n y)) :
    Calls Try.prog 7 #[.agg #[.int .i64 n, .int .u64 a], .agg #[.int .i64 n, .int .u64 b]] w fun e w' => e = .returned (.bool true) ∧ Below w.heap.size w w' := by
  have SA := Lib.hid (And.intro a0 b0)
  clear a0
  go_enter Try.func7, Try.ntmps7
  go_wp2_with fail
  refine (head_any _).mono ?_
  rintro e w1 ⟨rfl, hb1⟩
  obtain ⟨hc1, hf1⟩ := bcell hb1
  have hz1 : w.heap.size < w1.heap.size ∧ w.heap.size + 1 < w1.heap.size := by have hs := hb1.size; simp at hs; omega
  go_wp2_with fail
  refine (same_any n a n b _ SA.out.1 SA.out.2).mono ?_
  rintro e w2 ⟨rfl, hb2⟩
  obtain ⟨hc2, hf2⟩ := bcell hb2
  have hz2 : w.heap.size < w2.heap.size ∧ w.heap.size + 1 < w2.heap.size := by have hs := hb2.size; omega
  go_wp2_with fail
  have S0 : w2.cell? ⟨w.heap.size, 0, none⟩ = some (.int .i64 n) ∧ w2.cell? ⟨w.heap.size, 1, none⟩ = some (.int .u64 a) ∧ w2.cell? ⟨w.heap.size + 1, 0, none⟩ = some (.int .i64 n) ∧ w2.cell? ⟨w.heap.size + 1, 1, none⟩ = some (.int .u64 b) ∧ Below w.heap.size w w2 := by
    refine ⟨?_, ?_, ?_, ?_, ((below2 hb1).trans (hb2.mono (by omega)))⟩ <;> simp [hc1, hc2, hz1, go_sem]
  clear hc1 hf1 hz1 hb1 hc2 hf2 hz2 hb2
  have S1 : (w2.alloc (.cells #[.int .i64 n, .int .u64 p] 24)).cell? ⟨w.heap.size, 0, none⟩ = some (.int .i64 n) ∧ (w2.alloc (.cells #[.int .i64 n, .int .u64 p] 24)).cell? ⟨w.heap.size, 1, none⟩ = some (.int .u64 a) ∧ (w2.alloc (.cells #[.int .i64 n, .int .u64 p] 24)).cell? ⟨w.heap.size + 1, 0, none⟩ = some (.int .i64 n) ∧ (w2.alloc (.cells #[.int .i64 n, .int .u64 p] 24)).cell? ⟨w.heap.size + 1, 1, none⟩ = some (.int .u64 b) ∧ (w2.alloc (.cells #[.int .i64 n, .int .u64 p] 24)).cell? ⟨w2.heap.size, 0, none⟩ = some (.int .i64 n) ∧ (w2.alloc (.cells #[.int .i64 n, .int .u64 p] 24)).cell? ⟨w2.heap.size, 1, none⟩ = some (.int .u64 p) ∧ Below w.heap.size w (w2.alloc (.cells #[.int .i64 n, .int .u64 p] 24)) := by
    refine ⟨in_alloc _ S0.1, in_alloc _ S0.2.1, in_alloc _ S0.2.2.1, in_alloc _ S0.2.2.2.1, new0 _ _ _ _, new1 _ _ _ _, S0.2.2.2.2.alloc S0.2.2.2.2.size _⟩
  clear S0 h
  go_region_held3 (fun w' => w'.cell? ⟨w.heap.size, 0, none⟩ = some (.int .i64 n) ∧ w'.cell? ⟨w.heap.size, 1, none⟩ = some (.int .u64 a) ∧ w'.cell? ⟨w.heap.size + 1, 0, none⟩ = some (.int .i64 n) ∧ w'.cell? ⟨w.heap.size + 1, 1, none⟩ = some (.int .u64 b) ∧ w'.cell? ⟨w2.heap.size, 0, none⟩ = some (.int .i64 n) ∧ w'.cell? ⟨w2.heap.size, 1, none⟩ = some (.int .u64 p) ∧ Below w.heap.size w w') (first | assumption | exact later6 ‹_› ‹_› | exact drew6 ‹_›)
    (first
      | (go_at_call 26; ((with_reducible refine (binUse C1 _).mono ?_); rintro e w9 ⟨rfl, hb9⟩))
      | (go_at_call 26; ((with_reducible refine (binUse C2 _).mono ?_); rintro e w9 ⟨rfl, hb9⟩))
      | (go_at_call 26; ((with_reducible refine (binUse C3 _).mono ?_); rintro e w9 ⟨rfl, hb9⟩))
      | (go_at_call 26; ((with_reducible refine (binUse C4 _).mono ?_); rintro e w9 ⟨rfl, hb9⟩)))
  go_wp2
  go_ret
  exact ⟨rfl, below6 ‹_›⟩

end Go.Proofs.Ytdnbpfhkbaojnaa
