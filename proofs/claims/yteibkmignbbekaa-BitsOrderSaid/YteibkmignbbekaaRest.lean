/- The contracts of the other functions of package bits, with their errors. -/
import Derived.Test.YteibkmignbbekaaBin
namespace Go.Proofs.Yteibkmignbbekaa
open Go.RowKit

/-- what two bit vectors make together. -/
def joinV (n a m b : Int) : Int := low (n + m) (bits .or .u64 (IntKind.u64.wrap (a * 2 ^ m.toNat)) b)

set_option maxHeartbeats 400000 in
theorem not_yes (n a : Int) (w : World) (ha : vB n a = true) :
    Calls Try.prog 15 #[.agg #[.int .i64 n, .int .u64 a]] w fun e w' => e = .returned (.tuple #[.agg #[.int .i64 n, .int .u64 (low n (bits .xor .u64 IntKind.u64.max a))], .int .i64 0]) ∧ Below w.heap.size w w' := by
  obtain ⟨h1, h2, _⟩ := vB_true ha
  have hsg : IntKind.u64.signed = false := rfl
  have HA := Lib.hid ha
  clear ha
  go_enter Try.func15, Try.ntmps15
  go_wp2_with fail
  refine (valid_yes n a _ HA.out).mono ?_
  rintro e w1 ⟨rfl, hb1⟩
  obtain ⟨hc1, hf1⟩ := bcell hb1
  have hz1 : w.heap.size < w1.heap.size ∧ w.heap.size + 1 < w1.heap.size := by have hs := hb1.size; simp at hs; omega
  go_wp2_with fail
  refine (keep_any _ _ _ h1 h2 (bits_range .xor _ a).1 (bits_range .xor _ a).2).mono ?_
  rintro e w2 ⟨rfl, hb2⟩
  obtain ⟨hc2, hf2⟩ := bcell hb2
  have hz2 : w.heap.size < w2.heap.size ∧ w.heap.size + 1 < w2.heap.size := by have hs := hb2.size; omega
  go_wp2
  refine bodyPost_ret (v := .tuple #[.agg #[.int .i64 n, .int .u64 (low n (bits .xor .u64 IntKind.u64.max a))], .int .i64 0]) (by simp [results, Try.results15, go_sem, hc1, hc2, hz1]) rfl ⟨rfl, ?_⟩
  exact (((below2 hb1).trans (hb2.mono (by omega))).setCell (by simp <;> omega) _).setCell (by simp <;> omega) _

set_option maxHeartbeats 400000 in
theorem not_no (n a : Int) (w : World) (ha : vB n a = false) :
    Calls Try.prog 15 #[.agg #[.int .i64 n, .int .u64 a]] w fun e w' => e = .returned (.tuple #[.agg #[.int .i64 0, .int .u64 0], .int .i64 1]) ∧ Below w.heap.size w w' := by
  have HA := Lib.hid ha
  clear ha
  go_enter Try.func15, Try.ntmps15
  go_wp2_with fail
  refine (valid_no n a _ HA.out).mono ?_
  rintro e w1 ⟨rfl, hb1⟩
  obtain ⟨hc1, hf1⟩ := bcell hb1
  have hz1 : w.heap.size < w1.heap.size ∧ w.heap.size + 1 < w1.heap.size := by have hs := hb1.size; simp at hs; omega
  go_wp2
  refine bodyPost_ret (v := .tuple #[.agg #[.int .i64 0, .int .u64 0], .int .i64 1]) (by simp [results, Try.results15, go_sem, hc1]) rfl ⟨rfl, ?_⟩
  exact ((below2 hb1).setCell (by simp <;> omega) _).setCell (by simp <;> omega) _

set_option maxHeartbeats 400000 in
theorem ce_ok (n a m : Int) (w : World) (ha : vB n a = true) (h1 : n ≤ m) (h2 : m ≤ 64) :
    Calls Try.prog 39 #[.agg #[.int .i64 n, .int .u64 a], .int .i64 m] w fun e w' => e = .returned (.int .i64 0) ∧ Below w.heap.size w w' := by
  have h0 := (vB_true ha).1
  have h0' : 1 ≤ m := by omega
  clear h0
  have hlt : ¬ m < n := by omega
  have H1 := Lib.hid h0'
  clear h0'
  have HA := Lib.hid ha
  clear ha
  go_enter Try.func39, Try.ntmps39
  go_wp2_with fail
  refine (valid_yes n a _ HA.out).mono ?_
  rintro e w1 ⟨rfl, hb1⟩
  obtain ⟨hc1, hf1⟩ := bcell hb1
  have hz1 : w.heap.size < w1.heap.size := by have hs := hb1.size; simp at hs; omega
  go_wp2_with fail
  refine (validWidth_yes m _ H1.out h2).mono ?_
  rintro e w2 ⟨rfl, rfl⟩
  go_wp2
  go_ret
  exact ⟨rfl, (below1 hb1)⟩

set_option maxHeartbeats 400000 in
theorem ce_valid (n a m : Int) (w : World) (ha : vB n a = false) :
    Calls Try.prog 39 #[.agg #[.int .i64 n, .int .u64 a], .int .i64 m] w fun e w' => e = .returned (.int .i64 1) ∧ Below w.heap.size w w' := by
  have HA := Lib.hid ha
  clear ha
  go_enter Try.func39, Try.ntmps39
  go_wp2_with fail
  refine (valid_no n a _ HA.out).mono ?_
  rintro e w1 ⟨rfl, hb1⟩
  obtain ⟨hc1, hf1⟩ := bcell hb1
  have hz1 : w.heap.size < w1.heap.size := by have hs := hb1.size; simp at hs; omega
  go_wp2
  go_ret
  exact ⟨rfl, (below1 hb1)⟩

set_option maxHeartbeats 400000 in
theorem ce_range (n a m : Int) (w : World) (ha : vB n a = true) (hm : ¬ (1 ≤ m ∧ m ≤ 64)) :
    Calls Try.prog 39 #[.agg #[.int .i64 n, .int .u64 a], .int .i64 m] w fun e w' => e = .returned (.int .i64 1) ∧ Below w.heap.size w w' := by
  have HA := Lib.hid ha
  have HM := Lib.hid hm
  clear ha hm
  go_enter Try.func39, Try.ntmps39
  go_wp2_with fail
  refine (valid_yes n a _ HA.out).mono ?_
  rintro e w1 ⟨rfl, hb1⟩
  obtain ⟨hc1, hf1⟩ := bcell hb1
  have hz1 : w.heap.size < w1.heap.size := by have hs := hb1.size; simp at hs; omega
  go_wp2_with fail
  refine (validWidth_no m _ HM.out).mono ?_
  rintro e w2 ⟨rfl, rfl⟩
  go_wp2
  go_ret
  exact ⟨rfl, (below1 hb1)⟩

set_option maxHeartbeats 400000 in
theorem ce_width (n a m : Int) (w : World) (ha : vB n a = true) (h1 : 1 ≤ m) (hlt : m < n) :
    Calls Try.prog 39 #[.agg #[.int .i64 n, .int .u64 a], .int .i64 m] w fun e w' => e = .returned (.int .i64 13) ∧ Below w.heap.size w w' := by
  have h2 : m ≤ 64 := by have := (vB_true ha).2.1; omega
  have H1 := Lib.hid h1
  have H2 := Lib.hid h2
  clear h1 h2
  have HA := Lib.hid ha
  clear ha
  go_enter Try.func39, Try.ntmps39
  go_wp2_with fail
  refine (valid_yes n a _ HA.out).mono ?_
  rintro e w1 ⟨rfl, hb1⟩
  obtain ⟨hc1, hf1⟩ := bcell hb1
  have hz1 : w.heap.size < w1.heap.size := by have hs := hb1.size; simp at hs; omega
  go_wp2_with fail
  refine (validWidth_yes m _ H1.out H2.out).mono ?_
  rintro e w2 ⟨rfl, rfl⟩
  go_wp2
  go_ret
  exact ⟨rfl, (below1 hb1)⟩

set_option maxHeartbeats 400000 in
theorem zext_ok (n a m : Int) (w : World) (ha : vB n a = true) (ha0 : 0 ≤ a) (h1 : n ≤ m) (h2 : m ≤ 64) :
    Calls Try.prog 17 #[.agg #[.int .i64 n, .int .u64 a], .int .i64 m] w fun e w' => e = .returned (.tuple #[.agg #[.int .i64 m, .int .u64 (low m a)], .int .i64 0]) ∧ Below w.heap.size w w' := by
  obtain ⟨n1, n2, _⟩ := vB_true ha
  have h0 : 1 ≤ m := by omega
  have H1 := Lib.hid h0
  have N1 := Lib.hid n1
  have N2 := Lib.hid n2
  have hr : 0 ≤ a ∧ a < 18446744073709551616 := ⟨ha0, val_lt ha⟩
  have HR := Lib.hid hr
  clear hr ha0
  clear h0 n1 n2
  have HA := Lib.hid ha
  clear ha
  go_enter Try.func17, Try.ntmps17
  go_wp2_with fail
  refine (ce_ok n a m _ HA.out h1 h2).mono ?_
  rintro e w1 ⟨rfl, hb1⟩
  obtain ⟨hc1, hf1⟩ := bcell hb1
  have hz1 : w.heap.size < w1.heap.size ∧ w.heap.size + 1 < w1.heap.size := by have hs := hb1.size; simp at hs; omega
  go_wp2_with fail
  refine (keep_any m a _ H1.out h2 HR.out.1 HR.out.2).mono ?_
  rintro e w2 ⟨rfl, hb2⟩
  obtain ⟨hc2, hf2⟩ := bcell hb2
  have hz2 : w.heap.size < w2.heap.size ∧ w.heap.size + 1 < w2.heap.size := by have hs := hb2.size; omega
  go_wp2
  refine bodyPost_ret (v := .tuple #[.agg #[.int .i64 m, .int .u64 (low m a)], .int .i64 0]) (by simp [results, Try.results17, go_sem, hc1, hc2, hz1]) rfl ⟨rfl, ?_⟩
  exact (((below2 hb1).trans (hb2.mono (by omega))).setCell (by simp <;> omega) _).setCell (by simp <;> omega) _

set_option maxHeartbeats 400000 in
theorem zext_valid (n a m : Int) (w : World) (ha : vB n a = false) :
    Calls Try.prog 17 #[.agg #[.int .i64 n, .int .u64 a], .int .i64 m] w fun e w' => e = .returned (.tuple #[.agg #[.int .i64 0, .int .u64 0], .int .i64 1]) ∧ Below w.heap.size w w' := by
  have HA := Lib.hid ha
  clear ha
  go_enter Try.func17, Try.ntmps17
  go_wp2_with fail
  refine (ce_valid n a m _ HA.out).mono ?_
  rintro e w1 ⟨rfl, hb1⟩
  obtain ⟨hc1, hf1⟩ := bcell hb1
  have hz1 : w.heap.size < w1.heap.size ∧ w.heap.size + 1 < w1.heap.size := by have hs := hb1.size; simp at hs; omega
  go_wp2
  refine bodyPost_ret (v := .tuple #[.agg #[.int .i64 0, .int .u64 0], .int .i64 1]) (by simp [results, Try.results17, go_sem, hc1]) rfl ⟨rfl, ?_⟩
  exact ((below2 hb1).setCell (by simp <;> omega) _).setCell (by simp <;> omega) _

set_option maxHeartbeats 400000 in
theorem zext_range (n a m : Int) (w : World) (ha : vB n a = true) (hm : ¬ (1 ≤ m ∧ m ≤ 64)) :
    Calls Try.prog 17 #[.agg #[.int .i64 n, .int .u64 a], .int .i64 m] w fun e w' => e = .returned (.tuple #[.agg #[.int .i64 0, .int .u64 0], .int .i64 1]) ∧ Below w.heap.size w w' := by
  have HA := Lib.hid ha
  have HM := Lib.hid hm
  clear ha hm
  go_enter Try.func17, Try.ntmps17
  go_wp2_with fail
  refine (ce_range n a m _ HA.out HM.out).mono ?_
  rintro e w1 ⟨rfl, hb1⟩
  obtain ⟨hc1, hf1⟩ := bcell hb1
  have hz1 : w.heap.size < w1.heap.size ∧ w.heap.size + 1 < w1.heap.size := by have hs := hb1.size; simp at hs; omega
  go_wp2
  refine bodyPost_ret (v := .tuple #[.agg #[.int .i64 0, .int .u64 0], .int .i64 1]) (by simp [results, Try.results17, go_sem, hc1]) rfl ⟨rfl, ?_⟩
  exact ((below2 hb1).setCell (by simp <;> omega) _).setCell (by simp <;> omega) _

set_option maxHeartbeats 400000 in
theorem zext_width (n a m : Int) (w : World) (ha : vB n a = true) (h1 : 1 ≤ m) (hlt : m < n) :
    Calls Try.prog 17 #[.agg #[.int .i64 n, .int .u64 a], .int .i64 m] w fun e w' => e = .returned (.tuple #[.agg #[.int .i64 0, .int .u64 0], .int .i64 13]) ∧ Below w.heap.size w w' := by
  have HA := Lib.hid ha
  clear ha
  go_enter Try.func17, Try.ntmps17
  go_wp2_with fail
  refine (ce_width n a m _ HA.out h1 hlt).mono ?_
  rintro e w1 ⟨rfl, hb1⟩
  obtain ⟨hc1, hf1⟩ := bcell hb1
  have hz1 : w.heap.size < w1.heap.size ∧ w.heap.size + 1 < w1.heap.size := by have hs := hb1.size; simp at hs; omega
  go_wp2
  refine bodyPost_ret (v := .tuple #[.agg #[.int .i64 0, .int .u64 0], .int .i64 13]) (by simp [results, Try.results17, go_sem, hc1]) rfl ⟨rfl, ?_⟩
  exact ((below2 hb1).setCell (by simp <;> omega) _).setCell (by simp <;> omega) _

set_option maxHeartbeats 400000 in
theorem sext_ok (n a m : Int) (w : World) (ha : vB n a = true) (h1 : n ≤ m) (h2 : m ≤ 64) :
    Calls Try.prog 19 #[.agg #[.int .i64 n, .int .u64 a], .int .i64 m] w fun e w' => e = .returned (.tuple #[.agg #[.int .i64 m, .int .u64 (low m (sgn n a))], .int .i64 0]) ∧ Below w.heap.size w w' := by
  obtain ⟨n1, n2, _⟩ := vB_true ha
  have h0 : 1 ≤ m := by omega
  have H1 := Lib.hid h0
  have N1 := Lib.hid n1
  have N2 := Lib.hid n2
  clear h0 n1 n2
  have HA := Lib.hid ha
  clear ha
  go_enter Try.func19, Try.ntmps19
  go_wp2_with fail
  refine (ce_ok n a m _ HA.out h1 h2).mono ?_
  rintro e w1 ⟨rfl, hb1⟩
  obtain ⟨hc1, hf1⟩ := bcell hb1
  have hz1 : w.heap.size < w1.heap.size ∧ w.heap.size + 1 < w1.heap.size := by have hs := hb1.size; simp at hs; omega
  go_wp2_with fail
  refine (signed_any n a _ N1.out N2.out).mono ?_
  rintro e w2 ⟨rfl, hb2⟩
  obtain ⟨hc2, hf2⟩ := bcell hb2
  have hz2 : w.heap.size < w2.heap.size ∧ w.heap.size + 1 < w2.heap.size := by have hs := hb2.size; omega
  go_wp2_with fail
  refine (keep_wrap m _ _ H1.out h2).mono ?_
  rintro e w3 ⟨rfl, hb3⟩
  obtain ⟨hc3, hf3⟩ := bcell hb3
  have hz3 : w.heap.size < w3.heap.size ∧ w.heap.size + 1 < w3.heap.size := by have hs := hb3.size; omega
  go_wp2
  refine bodyPost_ret (v := .tuple #[.agg #[.int .i64 m, .int .u64 (low m (sgn n a))], .int .i64 0]) (by simp [results, Try.results19, go_sem, hc1, hc2, hc3, hz1, hz2]) rfl ⟨rfl, ?_⟩
  exact (((below2 hb1).trans ((hb2.mono (by omega)).trans (hb3.mono (by omega)))).setCell (by simp <;> omega) _).setCell (by simp <;> omega) _

set_option maxHeartbeats 400000 in
theorem sext_valid (n a m : Int) (w : World) (ha : vB n a = false) :
    Calls Try.prog 19 #[.agg #[.int .i64 n, .int .u64 a], .int .i64 m] w fun e w' => e = .returned (.tuple #[.agg #[.int .i64 0, .int .u64 0], .int .i64 1]) ∧ Below w.heap.size w w' := by
  have HA := Lib.hid ha
  clear ha
  go_enter Try.func19, Try.ntmps19
  go_wp2_with fail
  refine (ce_valid n a m _ HA.out).mono ?_
  rintro e w1 ⟨rfl, hb1⟩
  obtain ⟨hc1, hf1⟩ := bcell hb1
  have hz1 : w.heap.size < w1.heap.size ∧ w.heap.size + 1 < w1.heap.size := by have hs := hb1.size; simp at hs; omega
  go_wp2
  refine bodyPost_ret (v := .tuple #[.agg #[.int .i64 0, .int .u64 0], .int .i64 1]) (by simp [results, Try.results19, go_sem, hc1]) rfl ⟨rfl, ?_⟩
  exact ((below2 hb1).setCell (by simp <;> omega) _).setCell (by simp <;> omega) _

set_option maxHeartbeats 400000 in
theorem sext_range (n a m : Int) (w : World) (ha : vB n a = true) (hm : ¬ (1 ≤ m ∧ m ≤ 64)) :
    Calls Try.prog 19 #[.agg #[.int .i64 n, .int .u64 a], .int .i64 m] w fun e w' => e = .returned (.tuple #[.agg #[.int .i64 0, .int .u64 0], .int .i64 1]) ∧ Below w.heap.size w w' := by
  have HA := Lib.hid ha
  have HM := Lib.hid hm
  clear ha hm
  go_enter Try.func19, Try.ntmps19
  go_wp2_with fail
  refine (ce_range n a m _ HA.out HM.out).mono ?_
  rintro e w1 ⟨rfl, hb1⟩
  obtain ⟨hc1, hf1⟩ := bcell hb1
  have hz1 : w.heap.size < w1.heap.size ∧ w.heap.size + 1 < w1.heap.size := by have hs := hb1.size; simp at hs; omega
  go_wp2
  refine bodyPost_ret (v := .tuple #[.agg #[.int .i64 0, .int .u64 0], .int .i64 1]) (by simp [results, Try.results19, go_sem, hc1]) rfl ⟨rfl, ?_⟩
  exact ((below2 hb1).setCell (by simp <;> omega) _).setCell (by simp <;> omega) _

set_option maxHeartbeats 400000 in
theorem sext_width (n a m : Int) (w : World) (ha : vB n a = true) (h1 : 1 ≤ m) (hlt : m < n) :
    Calls Try.prog 19 #[.agg #[.int .i64 n, .int .u64 a], .int .i64 m] w fun e w' => e = .returned (.tuple #[.agg #[.int .i64 0, .int .u64 0], .int .i64 13]) ∧ Below w.heap.size w w' := by
  have HA := Lib.hid ha
  clear ha
  go_enter Try.func19, Try.ntmps19
  go_wp2_with fail
  refine (ce_width n a m _ HA.out h1 hlt).mono ?_
  rintro e w1 ⟨rfl, hb1⟩
  obtain ⟨hc1, hf1⟩ := bcell hb1
  have hz1 : w.heap.size < w1.heap.size ∧ w.heap.size + 1 < w1.heap.size := by have hs := hb1.size; simp at hs; omega
  go_wp2
  refine bodyPost_ret (v := .tuple #[.agg #[.int .i64 0, .int .u64 0], .int .i64 13]) (by simp [results, Try.results19, go_sem, hc1]) rfl ⟨rfl, ?_⟩
  exact ((below2 hb1).setCell (by simp <;> omega) _).setCell (by simp <;> omega) _

set_option maxHeartbeats 400000 in
theorem part_ok (n a l m : Int) (w : World) (ha : vB n a = true) (ha0 : 0 ≤ a) (l0 : 0 ≤ l) (m1 : 1 ≤ m) (hl : l + m ≤ n) :
    Calls Try.prog 21 #[.agg #[.int .i64 n, .int .u64 a], .int .i64 l, .int .i64 m] w fun e w' => e = .returned (.tuple #[.agg #[.int .i64 m, .int .u64 (low m (a / 2 ^ l.toNat))], .int .i64 0]) ∧ Below w.heap.size w w' := by
  have n2 := (vB_true ha).2.1
  have hr : 0 ≤ a / 2 ^ l.toNat ∧ a / 2 ^ l.toNat < 18446744073709551616 := by
    have p : (0 : Int) < 2 ^ l.toNat := Int.pow_pos (by decide)
    exact ⟨Int.ediv_nonneg ha0 (by omega), Int.lt_of_le_of_lt (Int.ediv_le_self _ ha0) (val_lt ha)⟩
  have M1 := Lib.hid (show 1 ≤ m ∧ m ≤ 64 from ⟨m1, by omega⟩)
  have hq : ¬ n - m < l := by omega
  have l1 : ¬ l < 0 := by omega
  have l2 : l ≤ 64 := by omega
  have hw1 : IntKind.i64.wrap (n - m) = n - m := IntWalk.i64_in _ (by omega)
  have HR := Lib.hid hr
  clear hr ha0 hl m1 n2
  have HA := Lib.hid ha
  clear ha
  go_enter Try.func21, Try.ntmps21
  go_wp2_with fail
  refine (valid_yes n a _ HA.out).mono ?_
  rintro e w1 ⟨rfl, hb1⟩
  obtain ⟨hc1, hf1⟩ := bcell hb1
  have hz1 : w.heap.size < w1.heap.size ∧ w.heap.size + 1 < w1.heap.size := by have hs := hb1.size; simp at hs; omega
  go_wp2_with fail
  refine (validWidth_yes m _ M1.out.1 M1.out.2).mono ?_
  rintro e w2 ⟨rfl, rfl⟩
  go_wp2_with fail
  refine (keep_any m _ _ M1.out.1 M1.out.2 HR.out.1 HR.out.2).mono ?_
  rintro e w3 ⟨rfl, hb3⟩
  obtain ⟨hc3, hf3⟩ := bcell hb3
  have hz3 : w.heap.size < w3.heap.size ∧ w.heap.size + 1 < w3.heap.size := by have hs := hb3.size; omega
  go_wp2
  refine bodyPost_ret (v := .tuple #[.agg #[.int .i64 m, .int .u64 (low m (a / 2 ^ l.toNat))], .int .i64 0]) (by simp [results, Try.results21, go_sem, hc1, hc3, hz1]) rfl ⟨rfl, ?_⟩
  exact (((below2 hb1).trans (hb3.mono (by omega))).setCell (by simp) _).setCell (by simp) _

set_option maxHeartbeats 400000 in
theorem part_valid (n a l m : Int) (w : World) (ha : vB n a = false) :
    Calls Try.prog 21 #[.agg #[.int .i64 n, .int .u64 a], .int .i64 l, .int .i64 m] w fun e w' => e = .returned (.tuple #[.agg #[.int .i64 0, .int .u64 0], .int .i64 1]) ∧ Below w.heap.size w w' := by
  have HA := Lib.hid ha
  clear ha
  go_enter Try.func21, Try.ntmps21
  go_wp2_with fail
  refine (valid_no n a _ HA.out).mono ?_
  rintro e w1 ⟨rfl, hb1⟩
  obtain ⟨hc1, hf1⟩ := bcell hb1
  have hz1 : w.heap.size < w1.heap.size ∧ w.heap.size + 1 < w1.heap.size := by have hs := hb1.size; simp at hs; omega
  go_wp2
  refine bodyPost_ret (v := .tuple #[.agg #[.int .i64 0, .int .u64 0], .int .i64 1]) (by simp [results, Try.results21, go_sem, hc1]) rfl ⟨rfl, ?_⟩
  exact ((below2 hb1).setCell (by simp <;> omega) _).setCell (by simp <;> omega) _

set_option maxHeartbeats 400000 in
theorem part_low (n a l m : Int) (w : World) (ha : vB n a = true) (l0 : l < 0) :
    Calls Try.prog 21 #[.agg #[.int .i64 n, .int .u64 a], .int .i64 l, .int .i64 m] w fun e w' => e = .returned (.tuple #[.agg #[.int .i64 0, .int .u64 0], .int .i64 1]) ∧ Below w.heap.size w w' := by
  have HA := Lib.hid ha
  clear ha
  go_enter Try.func21, Try.ntmps21
  go_wp2_with fail
  refine (valid_yes n a _ HA.out).mono ?_
  rintro e w1 ⟨rfl, hb1⟩
  obtain ⟨hc1, hf1⟩ := bcell hb1
  have hz1 : w.heap.size < w1.heap.size ∧ w.heap.size + 1 < w1.heap.size := by have hs := hb1.size; simp at hs; omega
  go_wp2
  refine bodyPost_ret (v := .tuple #[.agg #[.int .i64 0, .int .u64 0], .int .i64 1]) (by simp [results, Try.results21, go_sem, hc1]) rfl ⟨rfl, ?_⟩
  exact ((below2 hb1).setCell (by simp <;> omega) _).setCell (by simp <;> omega) _

set_option maxHeartbeats 400000 in
theorem part_range (n a l m : Int) (w : World) (ha : vB n a = true) (l0 : ¬ l < 0) (hm : ¬ (1 ≤ m ∧ m ≤ 64)) :
    Calls Try.prog 21 #[.agg #[.int .i64 n, .int .u64 a], .int .i64 l, .int .i64 m] w fun e w' => e = .returned (.tuple #[.agg #[.int .i64 0, .int .u64 0], .int .i64 1]) ∧ Below w.heap.size w w' := by
  have HM := Lib.hid hm
  clear hm
  have HA := Lib.hid ha
  clear ha
  go_enter Try.func21, Try.ntmps21
  go_wp2_with fail
  refine (valid_yes n a _ HA.out).mono ?_
  rintro e w1 ⟨rfl, hb1⟩
  obtain ⟨hc1, hf1⟩ := bcell hb1
  have hz1 : w.heap.size < w1.heap.size ∧ w.heap.size + 1 < w1.heap.size := by have hs := hb1.size; simp at hs; omega
  go_wp2_with fail
  refine (validWidth_no m _ HM.out).mono ?_
  rintro e w2 ⟨rfl, rfl⟩
  go_wp2
  refine bodyPost_ret (v := .tuple #[.agg #[.int .i64 0, .int .u64 0], .int .i64 1]) (by simp [results, Try.results21, go_sem, hc1]) rfl ⟨rfl, ?_⟩
  exact ((below2 hb1).setCell (by simp) _).setCell (by simp) _

set_option maxHeartbeats 400000 in
theorem part_width (n a l m : Int) (w : World) (ha : vB n a = true) (l0 : ¬ l < 0) (m1 : 1 ≤ m) (m2 : m ≤ 64) (hl : n < l + m) :
    Calls Try.prog 21 #[.agg #[.int .i64 n, .int .u64 a], .int .i64 l, .int .i64 m] w fun e w' => e = .returned (.tuple #[.agg #[.int .i64 0, .int .u64 0], .int .i64 13]) ∧ Below w.heap.size w w' := by
  obtain ⟨n1, n2, _⟩ := vB_true ha
  have hq : n - m < l := by omega
  have hw1 : IntKind.i64.wrap (n - m) = n - m := IntWalk.i64_in _ (by omega)
  have M1 := Lib.hid (And.intro m1 m2)
  clear m1 m2 hl n1 n2
  have HA := Lib.hid ha
  clear ha
  go_enter Try.func21, Try.ntmps21
  go_wp2_with fail
  refine (valid_yes n a _ HA.out).mono ?_
  rintro e w1 ⟨rfl, hb1⟩
  obtain ⟨hc1, hf1⟩ := bcell hb1
  have hz1 : w.heap.size < w1.heap.size ∧ w.heap.size + 1 < w1.heap.size := by have hs := hb1.size; simp at hs; omega
  go_wp2_with fail
  refine (validWidth_yes m _ M1.out.1 M1.out.2).mono ?_
  rintro e w2 ⟨rfl, rfl⟩
  go_wp2
  refine bodyPost_ret (v := .tuple #[.agg #[.int .i64 0, .int .u64 0], .int .i64 13]) (by simp [results, Try.results21, go_sem, hc1]) rfl ⟨rfl, ?_⟩
  exact ((below2 hb1).setCell (by simp) _).setCell (by simp) _

set_option maxHeartbeats 400000 in
theorem join_valid1 (n a m b : Int) (w : World) (ha : vB n a = false) :
    Calls Try.prog 23 #[.agg #[.int .i64 n, .int .u64 a], .agg #[.int .i64 m, .int .u64 b]] w fun e w' => e = .returned (.tuple #[.agg #[.int .i64 0, .int .u64 0], .int .i64 1]) ∧ Below w.heap.size w w' := by
  have HA := Lib.hid ha
  clear ha
  go_enter Try.func23, Try.ntmps23
  go_wp2_with fail
  refine (valid_no n a _ HA.out).mono ?_
  rintro e w1 ⟨rfl, hb1⟩
  obtain ⟨hc1, hf1⟩ := bcell hb1
  have hz1 : w.heap.size < w1.heap.size ∧ w.heap.size + 1 < w1.heap.size ∧ w.heap.size + 1 + 1 < w1.heap.size := by have hs := hb1.size; simp at hs; omega
  go_wp2
  refine bodyPost_ret (v := .tuple #[.agg #[.int .i64 0, .int .u64 0], .int .i64 1]) (by simp [results, Try.results23, go_sem, hc1]) rfl ⟨rfl, ?_⟩
  exact ((below3 hb1).setCell (by simp <;> omega) _).setCell (by simp <;> omega) _

set_option maxHeartbeats 400000 in
theorem join_valid2 (n a m b : Int) (w : World) (ha : vB n a = true) (hb : vB m b = false) :
    Calls Try.prog 23 #[.agg #[.int .i64 n, .int .u64 a], .agg #[.int .i64 m, .int .u64 b]] w fun e w' => e = .returned (.tuple #[.agg #[.int .i64 0, .int .u64 0], .int .i64 1]) ∧ Below w.heap.size w w' := by
  have HA := Lib.hid ha
  have HB := Lib.hid hb
  clear ha hb
  go_enter Try.func23, Try.ntmps23
  go_wp2_with fail
  refine (valid_yes n a _ HA.out).mono ?_
  rintro e w1 ⟨rfl, hb1⟩
  obtain ⟨hc1, hf1⟩ := bcell hb1
  have hz1 : w.heap.size < w1.heap.size ∧ w.heap.size + 1 < w1.heap.size ∧ w.heap.size + 1 + 1 < w1.heap.size := by have hs := hb1.size; simp at hs; omega
  go_wp2_with fail
  refine (valid_no m b _ HB.out).mono ?_
  rintro e w2 ⟨rfl, hb2⟩
  obtain ⟨hc2, hf2⟩ := bcell hb2
  have hz2 : w.heap.size < w2.heap.size ∧ w.heap.size + 1 < w2.heap.size ∧ w.heap.size + 1 + 1 < w2.heap.size := by have hs := hb2.size; omega
  go_wp2
  refine bodyPost_ret (v := .tuple #[.agg #[.int .i64 0, .int .u64 0], .int .i64 1]) (by simp [results, Try.results23, go_sem, hc1, hc2, hz1]) rfl ⟨rfl, ?_⟩
  exact (((below3 hb1).trans (hb2.mono (by omega))).setCell (by simp <;> omega) _).setCell (by simp <;> omega) _

set_option maxHeartbeats 400000 in
theorem join_width (n a m b : Int) (w : World) (ha : vB n a = true) (hb : vB m b = true) (hn : 64 < n + m) :
    Calls Try.prog 23 #[.agg #[.int .i64 n, .int .u64 a], .agg #[.int .i64 m, .int .u64 b]] w fun e w' => e = .returned (.tuple #[.agg #[.int .i64 0, .int .u64 0], .int .i64 13]) ∧ Below w.heap.size w w' := by
  obtain ⟨n1, n2, _⟩ := vB_true ha
  obtain ⟨m1, m2, _⟩ := vB_true hb
  have HA := Lib.hid ha
  have HB := Lib.hid hb
  clear ha hb
  go_enter Try.func23, Try.ntmps23
  go_wp2_with fail
  refine (valid_yes n a _ HA.out).mono ?_
  rintro e w1 ⟨rfl, hb1⟩
  obtain ⟨hc1, hf1⟩ := bcell hb1
  have hz1 : w.heap.size < w1.heap.size ∧ w.heap.size + 1 < w1.heap.size ∧ w.heap.size + 1 + 1 < w1.heap.size := by have hs := hb1.size; simp at hs; omega
  go_wp2_with fail
  refine (valid_yes m b _ HB.out).mono ?_
  rintro e w2 ⟨rfl, hb2⟩
  obtain ⟨hc2, hf2⟩ := bcell hb2
  have hz2 : w.heap.size < w2.heap.size ∧ w.heap.size + 1 < w2.heap.size ∧ w.heap.size + 1 + 1 < w2.heap.size := by have hs := hb2.size; omega
  go_wp2
  refine bodyPost_ret (v := .tuple #[.agg #[.int .i64 0, .int .u64 0], .int .i64 13]) (by simp [results, Try.results23, go_sem, hc1, hc2, hz1]) rfl ⟨rfl, ?_⟩
  exact (((below3 hb1).trans (hb2.mono (by omega))).setCell (by simp <;> omega) _).setCell (by simp <;> omega) _

end Go.Proofs.Yteibkmignbbekaa
