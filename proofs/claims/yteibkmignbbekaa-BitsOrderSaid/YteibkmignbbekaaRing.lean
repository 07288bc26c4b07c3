/- BitsRing: the arithmetic, and the walk. -/
import Derived.Test.YteibkmignbbekaaShare
namespace Go.Proofs.Yteibkmignbbekaa
open Go.RowKit

theorem low_low (n x : Int) : low n (low n x) = low n x := Int.emod_emod_of_dvd _ (Int.dvd_refl _)
theorem low_add_l (n x y : Int) : low n (low n x + y) = low n (x + y) := by unfold low; exact Int.emod_add_emod _ _ _
theorem low_add_r (n x y : Int) : low n (x + low n y) = low n (x + y) := by unfold low; exact Int.add_emod_emod _ _ _
theorem low_mul_l (n x y : Int) : low n (low n x * y) = low n (x * y) := by unfold low; rw [Int.mul_emod, Int.emod_emod_of_dvd _ (Int.dvd_refl _), ← Int.mul_emod]
theorem low_mul_r (n x y : Int) : low n (x * low n y) = low n (x * y) := by rw [Int.mul_comm, low_mul_l, Int.mul_comm]
theorem low_sub_l (n x y : Int) : low n (low n x - y) = low n (x - y) := by
  rw [Int.sub_eq_add_neg, low_add_l, ← Int.sub_eq_add_neg]
theorem low_id {n a : Int} (h : vB n a = true) (h0 : 0 ≤ a) : low n a = a := Int.emod_eq_of_lt h0 ((vB_iff n a).1 h).2.2

set_option maxHeartbeats 400000 in
theorem ring_no1 (n a m b k c : Int) (w : World) (a0 : 0 ≤ a) (b0 : 0 ≤ b) (_c0 : 0 ≤ c) (h : sameV n a m b = false) :
    Calls Try.prog 4 #[.agg #[.int .i64 n, .int .u64 a], .agg #[.int .i64 m, .int .u64 b], .agg #[.int .i64 k, .int .u64 c]] w fun e w' => e = .returned (.bool true) ∧ Below w.heap.size w w' := by
  go_enter Try.func4, Try.ntmps4
  go_wp2_with fail
  refine (head_any _).mono ?_
  rintro e w1 ⟨rfl, hb1⟩
  obtain ⟨hc1, hf1⟩ := bcell hb1
  have hz1 : w.heap.size < w1.heap.size ∧ w.heap.size + 1 < w1.heap.size ∧ w.heap.size + 1 + 1 < w1.heap.size := by have hs := hb1.size; simp at hs; omega
  go_wp2_with fail
  refine (same_any n a m b _ a0 b0).mono ?_
  rintro e w2 ⟨rfl, hb2⟩
  obtain ⟨hc2, hf2⟩ := bcell hb2
  have hz2 : w.heap.size < w2.heap.size ∧ w.heap.size + 1 < w2.heap.size ∧ w.heap.size + 1 + 1 < w2.heap.size := by have hs := hb2.size; omega
  go_wp2
  go_ret
  exact ⟨rfl, ((below3 hb1).trans (hb2.mono (by omega)))⟩

set_option maxHeartbeats 400000 in
theorem ring_no2 (n a m b k c : Int) (w : World) (a0 : 0 ≤ a) (b0 : 0 ≤ b) (c0 : 0 ≤ c) (h : sameV n a m b = true) (h2 : sameV m b k c = false) :
    Calls Try.prog 4 #[.agg #[.int .i64 n, .int .u64 a], .agg #[.int .i64 m, .int .u64 b], .agg #[.int .i64 k, .int .u64 c]] w fun e w' => e = .returned (.bool true) ∧ Below w.heap.size w w' := by
  go_enter Try.func4, Try.ntmps4
  go_wp2_with fail
  refine (head_any _).mono ?_
  rintro e w1 ⟨rfl, hb1⟩
  obtain ⟨hc1, hf1⟩ := bcell hb1
  have hz1 : w.heap.size < w1.heap.size ∧ w.heap.size + 1 < w1.heap.size ∧ w.heap.size + 1 + 1 < w1.heap.size := by have hs := hb1.size; simp at hs; omega
  go_wp2_with fail
  refine (same_any n a m b _ a0 b0).mono ?_
  rintro e w2 ⟨rfl, hb2⟩
  obtain ⟨hc2, hf2⟩ := bcell hb2
  have hz2 : w.heap.size < w2.heap.size ∧ w.heap.size + 1 < w2.heap.size ∧ w.heap.size + 1 + 1 < w2.heap.size := by have hs := hb2.size; omega
  go_wp2_with fail
  refine (same_any m b k c _ b0 c0).mono ?_
  rintro e w3 ⟨rfl, hb3⟩
  obtain ⟨hc3, hf3⟩ := bcell hb3
  have hz3 : w.heap.size < w3.heap.size ∧ w.heap.size + 1 < w3.heap.size ∧ w.heap.size + 1 + 1 < w3.heap.size := by have hs := hb3.size; omega
  go_wp2
  go_ret
  exact ⟨rfl, ((below3 hb1).trans ((hb2.mono (by omega)).trans (hb3.mono (by omega))))⟩

set_option maxRecDepth 100000 in
set_option maxHeartbeats 4000000 in
theorem ring_walk (n a b c s1 s2 p1 p2 p3 t u q : Int) (w : World) (a0 : 0 ≤ a) (b0 : 0 ≤ b) (c0 : 0 ≤ c) (h : sameV n a n b = true) (h2 : sameV n b n c = true) (hs : vB n s1 = true) (hs0 : 0 ≤ s1)
    (C_AB : Hid (BinC 2 n a b n s1)) (C_BA : Hid (BinC 2 n b a n s1)) (M_AB : Hid (BinC 4 n a b n p1)) (M_BA : Hid (BinC 4 n b a n p1)) (C_BC : Hid (BinC 2 n b c n s2)) (T1 : Hid (BinC 2 n s1 c n t)) (T2 : Hid (BinC 2 n a s2 n t)) (M_BC : Hid (BinC 4 n b c n p2)) (U1 : Hid (BinC 4 n p1 c n u)) (U2 : Hid (BinC 4 n a p2 n u)) (Q1 : Hid (BinC 4 n a s2 n q)) (M_AC : Hid (BinC 4 n a c n p3)) (Q2 : Hid (BinC 2 n p1 p3 n q)) (R1 : Hid (BinC 3 n s1 b n a)) :
    Calls Try.prog 4 #[.agg #[.int .i64 n, .int .u64 a], .agg #[.int .i64 n, .int .u64 b], .agg #[.int .i64 n, .int .u64 c]] w fun e w' => e = .returned (.bool true) ∧ Below w.heap.size w w' := by
  have SA := Lib.hid (And.intro a0 (And.intro b0 c0))
  have HS := Lib.hid (And.intro hs hs0)
  clear a0 b0 c0 hs hs0
  go_enter Try.func4, Try.ntmps4
  go_wp2_with fail
  refine (head_any _).mono ?_
  rintro e w1 ⟨rfl, hb1⟩
  obtain ⟨hc1, hf1⟩ := bcell hb1
  have hz1 : w.heap.size < w1.heap.size ∧ w.heap.size + 1 < w1.heap.size ∧ w.heap.size + 1 + 1 < w1.heap.size := by have hs := hb1.size; simp at hs; omega
  go_wp2_with fail
  refine (same_any n a n b _ SA.out.1 SA.out.2.1).mono ?_
  rintro e w2 ⟨rfl, hb2⟩
  obtain ⟨hc2, hf2⟩ := bcell hb2
  have hz2 : w.heap.size < w2.heap.size ∧ w.heap.size + 1 < w2.heap.size ∧ w.heap.size + 1 + 1 < w2.heap.size := by have hs := hb2.size; omega
  go_wp2_with fail
  refine (same_any n b n c _ SA.out.2.1 SA.out.2.2).mono ?_
  rintro e w3 ⟨rfl, hb3⟩
  obtain ⟨hc3, hf3⟩ := bcell hb3
  have hz3 : w.heap.size < w3.heap.size ∧ w.heap.size + 1 < w3.heap.size ∧ w.heap.size + 1 + 1 < w3.heap.size := by have hs := hb3.size; omega
  go_wp2_with fail
  have S0 : w3.cell? ⟨w.heap.size, 0, none⟩ = some (.int .i64 n) ∧ w3.cell? ⟨w.heap.size, 1, none⟩ = some (.int .u64 a) ∧ w3.cell? ⟨w.heap.size + 1, 0, none⟩ = some (.int .i64 n) ∧ w3.cell? ⟨w.heap.size + 1, 1, none⟩ = some (.int .u64 b) ∧ w3.cell? ⟨w.heap.size + 1 + 1, 0, none⟩ = some (.int .i64 n) ∧ w3.cell? ⟨w.heap.size + 1 + 1, 1, none⟩ = some (.int .u64 c) ∧ Below w.heap.size w w3 := by
    refine ⟨?_, ?_, ?_, ?_, ?_, ?_, ((below3 hb1).trans ((hb2.mono (by omega)).trans (hb3.mono (by omega))))⟩ <;> simp [hc1, hc2, hc3, hz1, hz2, go_sem]
  clear hc1 hc2 hc3 hf1 hf2 hf3 hz1 hz2 hz3 hb1 hb2 hb3 h h2
  go_region_held3 (fun w' => w'.cell? ⟨w.heap.size, 0, none⟩ = some (.int .i64 n) ∧ w'.cell? ⟨w.heap.size, 1, none⟩ = some (.int .u64 a) ∧ w'.cell? ⟨w.heap.size + 1, 0, none⟩ = some (.int .i64 n) ∧ w'.cell? ⟨w.heap.size + 1, 1, none⟩ = some (.int .u64 b) ∧ w'.cell? ⟨w.heap.size + 1 + 1, 0, none⟩ = some (.int .i64 n) ∧ w'.cell? ⟨w.heap.size + 1 + 1, 1, none⟩ = some (.int .u64 c) ∧ Below w.heap.size w w') (first | assumption | exact later6 ‹_› ‹_› | exact drew6 ‹_›)
    (first
      | (go_at_call 26; ((with_reducible refine (binUse C_AB _).mono ?_); rintro e w9 ⟨rfl, hb9⟩))
      | (go_at_call 26; ((with_reducible refine (binUse C_BA _).mono ?_); rintro e w9 ⟨rfl, hb9⟩))
      | (go_at_call 26; ((with_reducible refine (binUse M_AB _).mono ?_); rintro e w9 ⟨rfl, hb9⟩))
      | (go_at_call 26; ((with_reducible refine (binUse M_BA _).mono ?_); rintro e w9 ⟨rfl, hb9⟩))
      | (go_at_call 26; ((with_reducible refine (binUse C_BC _).mono ?_); rintro e w9 ⟨rfl, hb9⟩))
      | (go_at_call 26; ((with_reducible refine (binUse T1 _).mono ?_); rintro e w9 ⟨rfl, hb9⟩))
      | (go_at_call 26; ((with_reducible refine (binUse T2 _).mono ?_); rintro e w9 ⟨rfl, hb9⟩))
      | (go_at_call 26; ((with_reducible refine (binUse M_BC _).mono ?_); rintro e w9 ⟨rfl, hb9⟩))
      | (go_at_call 26; ((with_reducible refine (binUse U1 _).mono ?_); rintro e w9 ⟨rfl, hb9⟩))
      | (go_at_call 26; ((with_reducible refine (binUse U2 _).mono ?_); rintro e w9 ⟨rfl, hb9⟩)))
  go_wp2_with fail
  go_region_held3 (fun w' => w'.cell? ⟨w.heap.size, 0, none⟩ = some (.int .i64 n) ∧ w'.cell? ⟨w.heap.size, 1, none⟩ = some (.int .u64 a) ∧ w'.cell? ⟨w.heap.size + 1, 0, none⟩ = some (.int .i64 n) ∧ w'.cell? ⟨w.heap.size + 1, 1, none⟩ = some (.int .u64 b) ∧ w'.cell? ⟨w.heap.size + 1 + 1, 0, none⟩ = some (.int .i64 n) ∧ w'.cell? ⟨w.heap.size + 1 + 1, 1, none⟩ = some (.int .u64 c) ∧ Below w.heap.size w w') (first | assumption | exact later6 ‹_› ‹_› | exact drew6 ‹_›)
    (first
      | (go_at_call 26; ((with_reducible refine (binUse C_BC _).mono ?_); rintro e w9 ⟨rfl, hb9⟩))
      | (go_at_call 26; ((with_reducible refine (binUse Q1 _).mono ?_); rintro e w9 ⟨rfl, hb9⟩))
      | (go_at_call 26; ((with_reducible refine (binUse M_AB _).mono ?_); rintro e w9 ⟨rfl, hb9⟩))
      | (go_at_call 26; ((with_reducible refine (binUse M_AC _).mono ?_); rintro e w9 ⟨rfl, hb9⟩))
      | (go_at_call 26; ((with_reducible refine (binUse Q2 _).mono ?_); rintro e w9 ⟨rfl, hb9⟩))
      | (go_at_call 26; ((with_reducible refine (binUse C_AB _).mono ?_); rintro e w9 ⟨rfl, hb9⟩))
      | (go_at_call 26; ((with_reducible refine (binUse R1 _).mono ?_); rintro e w9 ⟨rfl, hb9⟩))
      | (go_at_call 14; ((with_reducible refine (ref_valid_yes n s1 _ HS.out.1 HS.out.2).mono ?_); rintro e w9 ⟨rfl, hb9⟩)))
  go_wp2
  go_ret
  exact ⟨rfl, below6 ‹_›⟩

end Go.Proofs.Yteibkmignbbekaa
