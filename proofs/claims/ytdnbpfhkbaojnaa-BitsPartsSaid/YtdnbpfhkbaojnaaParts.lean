/- BitsParts: the walk. -/
import Derived.Test.YtdnbpfhkbaojnaaLater
namespace Go.Proofs.Ytdnbpfhkbaojnaa
open Go.RowKit

def PartC (n a l m v : Int) : Prop := ∀ w : World, Calls Try.prog 21 #[.agg #[.int .i64 n, .int .u64 a], .int .i64 l, .int .i64 m] w fun e w' => e = .returned (.tuple #[.agg #[.int .i64 m, .int .u64 v], .int .i64 0]) ∧ Below w.heap.size w w'
theorem partUse {n a l m v : Int} (h : Hid (PartC n a l m v)) (w : World) : Calls Try.prog 21 #[.agg #[.int .i64 n, .int .u64 a], .int .i64 l, .int .i64 m] w fun e w' => e = .returned (.tuple #[.agg #[.int .i64 m, .int .u64 v], .int .i64 0]) ∧ Below w.heap.size w w' := h.out w
def JoinC (n a m b x y c : Int) : Prop := ∀ w : World, Calls Try.prog 23 #[.agg #[.int .i64 n, .int .u64 a], .agg #[.int .i64 m, .int .u64 b]] w fun e w' => e = .returned (.tuple #[.agg #[.int .i64 x, .int .u64 y], .int .i64 c]) ∧ Below w.heap.size w w'
theorem joinUse {n a m b x y c : Int} (h : Hid (JoinC n a m b x y c)) (w : World) : Calls Try.prog 23 #[.agg #[.int .i64 n, .int .u64 a], .agg #[.int .i64 m, .int .u64 b]] w fun e w' => e = .returned (.tuple #[.agg #[.int .i64 x, .int .u64 y], .int .i64 c]) ∧ Below w.heap.size w w' := h.out w
def ZextC (n a m v : Int) : Prop := ∀ w : World, Calls Try.prog 17 #[.agg #[.int .i64 n, .int .u64 a], .int .i64 m] w fun e w' => e = .returned (.tuple #[.agg #[.int .i64 m, .int .u64 v], .int .i64 0]) ∧ Below w.heap.size w w'
theorem zextUse {n a m v : Int} (h : Hid (ZextC n a m v)) (w : World) : Calls Try.prog 17 #[.agg #[.int .i64 n, .int .u64 a], .int .i64 m] w fun e w' => e = .returned (.tuple #[.agg #[.int .i64 m, .int .u64 v], .int .i64 0]) ∧ Below w.heap.size w w' := h.out w
def SextC (n a m v : Int) : Prop := ∀ w : World, Calls Try.prog 19 #[.agg #[.int .i64 n, .int .u64 a], .int .i64 m] w fun e w' => e = .returned (.tuple #[.agg #[.int .i64 m, .int .u64 v], .int .i64 0]) ∧ Below w.heap.size w w'
theorem sextUse {n a m v : Int} (h : Hid (SextC n a m v)) (w : World) : Calls Try.prog 19 #[.agg #[.int .i64 n, .int .u64 a], .int .i64 m] w fun e w' => e = .returned (.tuple #[.agg #[.int .i64 m, .int .u64 v], .int .i64 0]) ∧ Below w.heap.size w w' := h.out w

/-- What the loop over the bits keeps. -/
def PartsRel (w w20 w21 : World) (n a k zv sv : Int) (i : Value) (wr : World) : Prop :=
  ∃ t : Int, 0 ≤ t ∧ t ≤ k ∧ i = .int .i64 t ∧ wr.cell? ⟨w.heap.size, 0, none⟩ = some (.int .i64 n) ∧ wr.cell? ⟨w.heap.size, 1, none⟩ = some (.int .u64 a) ∧ wr.cell? ⟨w20.heap.size, 0, none⟩ = some (.int .i64 k) ∧ wr.cell? ⟨w20.heap.size, 1, none⟩ = some (.int .u64 zv) ∧ wr.cell? ⟨w21.heap.size, 0, none⟩ = some (.int .i64 k) ∧ wr.cell? ⟨w21.heap.size, 1, none⟩ = some (.int .u64 sv) ∧ Below w.heap.size w wr

set_option maxRecDepth 100000 in
set_option maxHeartbeats 400000 in
theorem parts_no1 (n a m b c d : Int) (w : World) (a0 : 0 ≤ a) (_b0 : 0 ≤ b) (ha : vB n a = false) :
    Calls Try.prog 9 #[.agg #[.int .i64 n, .int .u64 a], .agg #[.int .i64 m, .int .u64 b], .int .u8 c, .int .u8 d] w fun e w' => e = .returned (.bool true) ∧ Below w.heap.size w w' := by
  go_enter Try.func9, Try.ntmps9
  go_wp2_with fail
  refine (head_any _).mono ?_
  rintro e w1 ⟨rfl, hb1⟩
  obtain ⟨hc1, hf1⟩ := bcell hb1
  have hz1 : w.heap.size < w1.heap.size ∧ w.heap.size + 1 < w1.heap.size := by have hs := hb1.size; simp at hs; omega
  go_wp2_with fail
  refine (ref_valid_no n a _ ha a0).mono ?_
  rintro e w2 ⟨rfl, hb2⟩
  obtain ⟨hc2, hf2⟩ := bcell hb2
  have hz2 : w.heap.size < w2.heap.size ∧ w.heap.size + 1 < w2.heap.size := by have hs := hb2.size; omega
  go_wp2
  go_ret
  exact ⟨rfl, ((below2 hb1).trans (hb2.mono (by omega)))⟩

set_option maxRecDepth 100000 in
set_option maxHeartbeats 400000 in
theorem parts_no2 (n a m b c d : Int) (w : World) (a0 : 0 ≤ a) (b0 : 0 ≤ b) (ha : vB n a = true) (hb : vB m b = false) :
    Calls Try.prog 9 #[.agg #[.int .i64 n, .int .u64 a], .agg #[.int .i64 m, .int .u64 b], .int .u8 c, .int .u8 d] w fun e w' => e = .returned (.bool true) ∧ Below w.heap.size w w' := by
  go_enter Try.func9, Try.ntmps9
  go_wp2_with fail
  refine (head_any _).mono ?_
  rintro e w1 ⟨rfl, hb1⟩
  obtain ⟨hc1, hf1⟩ := bcell hb1
  have hz1 : w.heap.size < w1.heap.size ∧ w.heap.size + 1 < w1.heap.size := by have hs := hb1.size; simp at hs; omega
  go_wp2_with fail
  refine (ref_valid_yes n a _ ha a0).mono ?_
  rintro e w2 ⟨rfl, hb2⟩
  obtain ⟨hc2, hf2⟩ := bcell hb2
  have hz2 : w.heap.size < w2.heap.size ∧ w.heap.size + 1 < w2.heap.size := by have hs := hb2.size; omega
  go_wp2_with fail
  refine (ref_valid_no m b _ hb b0).mono ?_
  rintro e w3 ⟨rfl, hb3⟩
  obtain ⟨hc3, hf3⟩ := bcell hb3
  have hz3 : w.heap.size < w3.heap.size ∧ w.heap.size + 1 < w3.heap.size := by have hs := hb3.size; omega
  go_wp2
  go_ret
  exact ⟨rfl, ((below2 hb1).trans ((hb2.mono (by omega)).trans (hb3.mono (by omega))))⟩

set_option maxRecDepth 100000 in
set_option maxHeartbeats 4000000 in
theorem parts_jk (n a m b c d r zv sv jv t lo hi : Int) (w : World) (a0 : 0 ≤ a) (b0 : 0 ≤ b) (ha : vB n a = true) (hb : vB m b = true)
    (hn : n ≤ 64) (h1 : 1 ≤ n) (m1 : 1 ≤ m) (m2 : m ≤ 64) (hj : n + m ≤ 64) (CJ : Hid (JoinC n a m b (n + m) jv 0)) (CX : Hid (PartC (n + m) jv 0 m b)) (CY : Hid (PartC (n + m) jv m n a)) (hk : 1 < n) (hcw : wrap64 c = c) (hkt : c.tmod (n - 1) = t) (ht0 : 0 ≤ t) (ht1 : t < n - 1) (CL : Hid (PartC n a 0 (1 + t) lo)) (CH : Hid (PartC n a (1 + t) (n - (1 + t)) hi)) (CA : Hid (JoinC (n - (1 + t)) hi (1 + t) lo n a 0)) (hdw : wrap64 d = d) (hdt : d.tmod (64 - n + 1) = r) (hr0 : 0 ≤ r) (hr1 : r < 64 - n + 1) (CZ : Hid (ZextC n a (n + r) zv)) (CS : Hid (SextC n a (n + r) sv)) (HB : Hid (∀ i : Int, 0 ≤ i → i < n + r → Hid (PartC (n + r) zv i 1 (if i < n then bitV a i else 0)) ∧ Hid (PartC (n + r) sv i 1 (if i < n then bitV a i else bitV a (n - 1))))) :
    Calls Try.prog 9 #[.agg #[.int .i64 n, .int .u64 a], .agg #[.int .i64 m, .int .u64 b], .int .u8 c, .int .u8 d] w fun e w' => e = .returned (.bool true) ∧ Below w.heap.size w w' := by
  have HA := Lib.hid (And.intro ha a0)
  have HBV := Lib.hid (And.intro hb b0)
  clear ha a0 hb b0
  go_enter Try.func9, Try.ntmps9
  go_wp2_with fail
  refine (head_any _).mono ?_
  rintro e w1 ⟨rfl, hb1⟩
  obtain ⟨hc1, hf1⟩ := bcell hb1
  have hz1 : w.heap.size < w1.heap.size ∧ w.heap.size + 1 < w1.heap.size := by have hs := hb1.size; simp at hs; omega
  go_wp2_with fail
  refine (ref_valid_yes n a _ HA.out.1 HA.out.2).mono ?_
  rintro e w2 ⟨rfl, hb2⟩
  obtain ⟨hc2, hf2⟩ := bcell hb2
  have hz2 : w.heap.size < w2.heap.size ∧ w.heap.size + 1 < w2.heap.size := by have hs := hb2.size; omega
  go_wp2_with fail
  refine (ref_valid_yes m b _ HBV.out.1 HBV.out.2).mono ?_
  rintro e w3 ⟨rfl, hb3⟩
  obtain ⟨hc3, hf3⟩ := bcell hb3
  have hz3 : w.heap.size < w3.heap.size ∧ w.heap.size + 1 < w3.heap.size := by have hs := hb3.size; omega
  go_wp2_with fail
  have S0 : w3.cell? ⟨w.heap.size, 0, none⟩ = some (.int .i64 n) ∧ w3.cell? ⟨w.heap.size, 1, none⟩ = some (.int .u64 a) ∧ w3.cell? ⟨w.heap.size + 1, 0, none⟩ = some (.int .i64 m) ∧ w3.cell? ⟨w.heap.size + 1, 1, none⟩ = some (.int .u64 b) ∧ Below w.heap.size w w3 := by
    refine ⟨?_, ?_, ?_, ?_, ((below2 hb1).trans ((hb2.mono (by omega)).trans (hb3.mono (by omega))))⟩ <;> simp [hc1, hc2, hc3, hz1, hz2, go_sem]
  clear hc1 hf1 hz1 hb1 hc2 hf2 hz2 hb2 hc3 hf3 hz3 hb3
  refine (joinUse CJ _).mono ?_
  rintro e w4 ⟨rfl, hb4⟩
  have S4 : w4.cell? ⟨w.heap.size, 0, none⟩ = some (.int .i64 n) ∧ w4.cell? ⟨w.heap.size, 1, none⟩ = some (.int .u64 a) ∧ w4.cell? ⟨w.heap.size + 1, 0, none⟩ = some (.int .i64 m) ∧ w4.cell? ⟨w.heap.size + 1, 1, none⟩ = some (.int .u64 b) ∧ Below w.heap.size w w4 := later4 hb4 S0
  clear S0 hb4
  have S4a : (w4.alloc (.cells #[.int .i64 (n + m), .int .u64 jv] 24)).cell? ⟨w.heap.size, 0, none⟩ = some (.int .i64 n) ∧ (w4.alloc (.cells #[.int .i64 (n + m), .int .u64 jv] 24)).cell? ⟨w.heap.size, 1, none⟩ = some (.int .u64 a) ∧ (w4.alloc (.cells #[.int .i64 (n + m), .int .u64 jv] 24)).cell? ⟨w.heap.size + 1, 0, none⟩ = some (.int .i64 m) ∧ (w4.alloc (.cells #[.int .i64 (n + m), .int .u64 jv] 24)).cell? ⟨w.heap.size + 1, 1, none⟩ = some (.int .u64 b) ∧ (w4.alloc (.cells #[.int .i64 (n + m), .int .u64 jv] 24)).cell? ⟨w4.heap.size, 0, none⟩ = some (.int .i64 (n + m)) ∧ (w4.alloc (.cells #[.int .i64 (n + m), .int .u64 jv] 24)).cell? ⟨w4.heap.size, 1, none⟩ = some (.int .u64 jv) ∧ Below w.heap.size w (w4.alloc (.cells #[.int .i64 (n + m), .int .u64 jv] 24)) := ⟨in_alloc _ S4.1, in_alloc _ S4.2.1, in_alloc _ S4.2.2.1, in_alloc _ S4.2.2.2.1, new0 _ _ _ _, new1 _ _ _ _, S4.2.2.2.2.alloc S4.2.2.2.2.size _⟩
  clear S4
  go_wp2_with fail
  refine (partUse CX _).mono ?_
  rintro e w5 ⟨rfl, hb5⟩
  have S5 : w5.cell? ⟨w.heap.size, 0, none⟩ = some (.int .i64 n) ∧ w5.cell? ⟨w.heap.size, 1, none⟩ = some (.int .u64 a) ∧ w5.cell? ⟨w.heap.size + 1, 0, none⟩ = some (.int .i64 m) ∧ w5.cell? ⟨w.heap.size + 1, 1, none⟩ = some (.int .u64 b) ∧ w5.cell? ⟨w4.heap.size, 0, none⟩ = some (.int .i64 (n + m)) ∧ w5.cell? ⟨w4.heap.size, 1, none⟩ = some (.int .u64 jv) ∧ Below w.heap.size w w5 := later6 hb5 S4a
  clear S4a hb5
  have S5a : (w5.alloc (.cells #[.int .i64 m, .int .u64 b] 24)).cell? ⟨w.heap.size, 0, none⟩ = some (.int .i64 n) ∧ (w5.alloc (.cells #[.int .i64 m, .int .u64 b] 24)).cell? ⟨w.heap.size, 1, none⟩ = some (.int .u64 a) ∧ (w5.alloc (.cells #[.int .i64 m, .int .u64 b] 24)).cell? ⟨w.heap.size + 1, 0, none⟩ = some (.int .i64 m) ∧ (w5.alloc (.cells #[.int .i64 m, .int .u64 b] 24)).cell? ⟨w.heap.size + 1, 1, none⟩ = some (.int .u64 b) ∧ (w5.alloc (.cells #[.int .i64 m, .int .u64 b] 24)).cell? ⟨w4.heap.size, 0, none⟩ = some (.int .i64 (n + m)) ∧ (w5.alloc (.cells #[.int .i64 m, .int .u64 b] 24)).cell? ⟨w4.heap.size, 1, none⟩ = some (.int .u64 jv) ∧ (w5.alloc (.cells #[.int .i64 m, .int .u64 b] 24)).cell? ⟨w5.heap.size, 0, none⟩ = some (.int .i64 m) ∧ (w5.alloc (.cells #[.int .i64 m, .int .u64 b] 24)).cell? ⟨w5.heap.size, 1, none⟩ = some (.int .u64 b) ∧ Below w.heap.size w (w5.alloc (.cells #[.int .i64 m, .int .u64 b] 24)) := ⟨in_alloc _ S5.1, in_alloc _ S5.2.1, in_alloc _ S5.2.2.1, in_alloc _ S5.2.2.2.1, in_alloc _ S5.2.2.2.2.1, in_alloc _ S5.2.2.2.2.2.1, new0 _ _ _ _, new1 _ _ _ _, S5.2.2.2.2.2.2.alloc S5.2.2.2.2.2.2.size _⟩
  clear S5
  go_wp2_with fail
  refine (partUse CY _).mono ?_
  rintro e w6 ⟨rfl, hb6⟩
  have S6 : w6.cell? ⟨w.heap.size, 0, none⟩ = some (.int .i64 n) ∧ w6.cell? ⟨w.heap.size, 1, none⟩ = some (.int .u64 a) ∧ w6.cell? ⟨w.heap.size + 1, 0, none⟩ = some (.int .i64 m) ∧ w6.cell? ⟨w.heap.size + 1, 1, none⟩ = some (.int .u64 b) ∧ w6.cell? ⟨w4.heap.size, 0, none⟩ = some (.int .i64 (n + m)) ∧ w6.cell? ⟨w4.heap.size, 1, none⟩ = some (.int .u64 jv) ∧ w6.cell? ⟨w5.heap.size, 0, none⟩ = some (.int .i64 m) ∧ w6.cell? ⟨w5.heap.size, 1, none⟩ = some (.int .u64 b) ∧ Below w.heap.size w w6 := later8 hb6 S5a
  clear S5a hb6
  have S6a : (w6.alloc (.cells #[.int .i64 n, .int .u64 a] 24)).cell? ⟨w.heap.size, 0, none⟩ = some (.int .i64 n) ∧ (w6.alloc (.cells #[.int .i64 n, .int .u64 a] 24)).cell? ⟨w.heap.size, 1, none⟩ = some (.int .u64 a) ∧ (w6.alloc (.cells #[.int .i64 n, .int .u64 a] 24)).cell? ⟨w.heap.size + 1, 0, none⟩ = some (.int .i64 m) ∧ (w6.alloc (.cells #[.int .i64 n, .int .u64 a] 24)).cell? ⟨w.heap.size + 1, 1, none⟩ = some (.int .u64 b) ∧ (w6.alloc (.cells #[.int .i64 n, .int .u64 a] 24)).cell? ⟨w4.heap.size, 0, none⟩ = some (.int .i64 (n + m)) ∧ (w6.alloc (.cells #[.int .i64 n, .int .u64 a] 24)).cell? ⟨w4.heap.size, 1, none⟩ = some (.int .u64 jv) ∧ (w6.alloc (.cells #[.int .i64 n, .int .u64 a] 24)).cell? ⟨w5.heap.size, 0, none⟩ = some (.int .i64 m) ∧ (w6.alloc (.cells #[.int .i64 n, .int .u64 a] 24)).cell? ⟨w5.heap.size, 1, none⟩ = some (.int .u64 b) ∧ (w6.alloc (.cells #[.int .i64 n, .int .u64 a] 24)).cell? ⟨w6.heap.size, 0, none⟩ = some (.int .i64 n) ∧ (w6.alloc (.cells #[.int .i64 n, .int .u64 a] 24)).cell? ⟨w6.heap.size, 1, none⟩ = some (.int .u64 a) ∧ Below w.heap.size w (w6.alloc (.cells #[.int .i64 n, .int .u64 a] 24)) := ⟨in_alloc _ S6.1, in_alloc _ S6.2.1, in_alloc _ S6.2.2.1, in_alloc _ S6.2.2.2.1, in_alloc _ S6.2.2.2.2.1, in_alloc _ S6.2.2.2.2.2.1, in_alloc _ S6.2.2.2.2.2.2.1, in_alloc _ S6.2.2.2.2.2.2.2.1, new0 _ _ _ _, new1 _ _ _ _, S6.2.2.2.2.2.2.2.2.alloc S6.2.2.2.2.2.2.2.2.size _⟩
  clear S6
  go_wp2_with fail
  have K6 : (w6.alloc (.cells #[.int .i64 n, .int .u64 a] 24)).cell? ⟨w.heap.size, 0, none⟩ = some (.int .i64 n) ∧ (w6.alloc (.cells #[.int .i64 n, .int .u64 a] 24)).cell? ⟨w.heap.size, 1, none⟩ = some (.int .u64 a) ∧ (w6.alloc (.cells #[.int .i64 n, .int .u64 a] 24)).cell? ⟨w.heap.size + 1, 0, none⟩ = some (.int .i64 m) ∧ (w6.alloc (.cells #[.int .i64 n, .int .u64 a] 24)).cell? ⟨w.heap.size + 1, 1, none⟩ = some (.int .u64 b) ∧ Below w.heap.size w (w6.alloc (.cells #[.int .i64 n, .int .u64 a] 24)) := ⟨S6a.1, S6a.2.1, S6a.2.2.1, S6a.2.2.2.1, S6a.2.2.2.2.2.2.2.2.2.2⟩
  clear S6a
  refine (partUse CL _).mono ?_
  rintro e w7 ⟨rfl, hb7⟩
  have S7 : w7.cell? ⟨w.heap.size, 0, none⟩ = some (.int .i64 n) ∧ w7.cell? ⟨w.heap.size, 1, none⟩ = some (.int .u64 a) ∧ w7.cell? ⟨w.heap.size + 1, 0, none⟩ = some (.int .i64 m) ∧ w7.cell? ⟨w.heap.size + 1, 1, none⟩ = some (.int .u64 b) ∧ Below w.heap.size w w7 := later4 hb7 K6
  clear K6 hb7
  have S7a : (w7.alloc (.cells #[.int .i64 (1 + t), .int .u64 lo] 24)).cell? ⟨w.heap.size, 0, none⟩ = some (.int .i64 n) ∧ (w7.alloc (.cells #[.int .i64 (1 + t), .int .u64 lo] 24)).cell? ⟨w.heap.size, 1, none⟩ = some (.int .u64 a) ∧ (w7.alloc (.cells #[.int .i64 (1 + t), .int .u64 lo] 24)).cell? ⟨w.heap.size + 1, 0, none⟩ = some (.int .i64 m) ∧ (w7.alloc (.cells #[.int .i64 (1 + t), .int .u64 lo] 24)).cell? ⟨w.heap.size + 1, 1, none⟩ = some (.int .u64 b) ∧ (w7.alloc (.cells #[.int .i64 (1 + t), .int .u64 lo] 24)).cell? ⟨w7.heap.size, 0, none⟩ = some (.int .i64 (1 + t)) ∧ (w7.alloc (.cells #[.int .i64 (1 + t), .int .u64 lo] 24)).cell? ⟨w7.heap.size, 1, none⟩ = some (.int .u64 lo) ∧ Below w.heap.size w (w7.alloc (.cells #[.int .i64 (1 + t), .int .u64 lo] 24)) := ⟨in_alloc _ S7.1, in_alloc _ S7.2.1, in_alloc _ S7.2.2.1, in_alloc _ S7.2.2.2.1, new0 _ _ _ _, new1 _ _ _ _, S7.2.2.2.2.alloc S7.2.2.2.2.size _⟩
  clear S7
  go_wp2_with fail
  refine (partUse CH _).mono ?_
  rintro e w8 ⟨rfl, hb8⟩
  have S8 : w8.cell? ⟨w.heap.size, 0, none⟩ = some (.int .i64 n) ∧ w8.cell? ⟨w.heap.size, 1, none⟩ = some (.int .u64 a) ∧ w8.cell? ⟨w.heap.size + 1, 0, none⟩ = some (.int .i64 m) ∧ w8.cell? ⟨w.heap.size + 1, 1, none⟩ = some (.int .u64 b) ∧ w8.cell? ⟨w7.heap.size, 0, none⟩ = some (.int .i64 (1 + t)) ∧ w8.cell? ⟨w7.heap.size, 1, none⟩ = some (.int .u64 lo) ∧ Below w.heap.size w w8 := later6 hb8 S7a
  clear S7a hb8
  have S8a : (w8.alloc (.cells #[.int .i64 (n - (1 + t)), .int .u64 hi] 24)).cell? ⟨w.heap.size, 0, none⟩ = some (.int .i64 n) ∧ (w8.alloc (.cells #[.int .i64 (n - (1 + t)), .int .u64 hi] 24)).cell? ⟨w.heap.size, 1, none⟩ = some (.int .u64 a) ∧ (w8.alloc (.cells #[.int .i64 (n - (1 + t)), .int .u64 hi] 24)).cell? ⟨w.heap.size + 1, 0, none⟩ = some (.int .i64 m) ∧ (w8.alloc (.cells #[.int .i64 (n - (1 + t)), .int .u64 hi] 24)).cell? ⟨w.heap.size + 1, 1, none⟩ = some (.int .u64 b) ∧ (w8.alloc (.cells #[.int .i64 (n - (1 + t)), .int .u64 hi] 24)).cell? ⟨w7.heap.size, 0, none⟩ = some (.int .i64 (1 + t)) ∧ (w8.alloc (.cells #[.int .i64 (n - (1 + t)), .int .u64 hi] 24)).cell? ⟨w7.heap.size, 1, none⟩ = some (.int .u64 lo) ∧ (w8.alloc (.cells #[.int .i64 (n - (1 + t)), .int .u64 hi] 24)).cell? ⟨w8.heap.size, 0, none⟩ = some (.int .i64 (n - (1 + t))) ∧ (w8.alloc (.cells #[.int .i64 (n - (1 + t)), .int .u64 hi] 24)).cell? ⟨w8.heap.size, 1, none⟩ = some (.int .u64 hi) ∧ Below w.heap.size w (w8.alloc (.cells #[.int .i64 (n - (1 + t)), .int .u64 hi] 24)) := ⟨in_alloc _ S8.1, in_alloc _ S8.2.1, in_alloc _ S8.2.2.1, in_alloc _ S8.2.2.2.1, in_alloc _ S8.2.2.2.2.1, in_alloc _ S8.2.2.2.2.2.1, new0 _ _ _ _, new1 _ _ _ _, S8.2.2.2.2.2.2.alloc S8.2.2.2.2.2.2.size _⟩
  clear S8
  go_wp2_with fail
  refine (joinUse CA _).mono ?_
  rintro e w9 ⟨rfl, hb9⟩
  have S9 : w9.cell? ⟨w.heap.size, 0, none⟩ = some (.int .i64 n) ∧ w9.cell? ⟨w.heap.size, 1, none⟩ = some (.int .u64 a) ∧ w9.cell? ⟨w.heap.size + 1, 0, none⟩ = some (.int .i64 m) ∧ w9.cell? ⟨w.heap.size + 1, 1, none⟩ = some (.int .u64 b) ∧ w9.cell? ⟨w7.heap.size, 0, none⟩ = some (.int .i64 (1 + t)) ∧ w9.cell? ⟨w7.heap.size, 1, none⟩ = some (.int .u64 lo) ∧ w9.cell? ⟨w8.heap.size, 0, none⟩ = some (.int .i64 (n - (1 + t))) ∧ w9.cell? ⟨w8.heap.size, 1, none⟩ = some (.int .u64 hi) ∧ Below w.heap.size w w9 := later8 hb9 S8a
  clear S8a hb9
  have S9a : (w9.alloc (.cells #[.int .i64 n, .int .u64 a] 24)).cell? ⟨w.heap.size, 0, none⟩ = some (.int .i64 n) ∧ (w9.alloc (.cells #[.int .i64 n, .int .u64 a] 24)).cell? ⟨w.heap.size, 1, none⟩ = some (.int .u64 a) ∧ (w9.alloc (.cells #[.int .i64 n, .int .u64 a] 24)).cell? ⟨w.heap.size + 1, 0, none⟩ = some (.int .i64 m) ∧ (w9.alloc (.cells #[.int .i64 n, .int .u64 a] 24)).cell? ⟨w.heap.size + 1, 1, none⟩ = some (.int .u64 b) ∧ (w9.alloc (.cells #[.int .i64 n, .int .u64 a] 24)).cell? ⟨w7.heap.size, 0, none⟩ = some (.int .i64 (1 + t)) ∧ (w9.alloc (.cells #[.int .i64 n, .int .u64 a] 24)).cell? ⟨w7.heap.size, 1, none⟩ = some (.int .u64 lo) ∧ (w9.alloc (.cells #[.int .i64 n, .int .u64 a] 24)).cell? ⟨w8.heap.size, 0, none⟩ = some (.int .i64 (n - (1 + t))) ∧ (w9.alloc (.cells #[.int .i64 n, .int .u64 a] 24)).cell? ⟨w8.heap.size, 1, none⟩ = some (.int .u64 hi) ∧ (w9.alloc (.cells #[.int .i64 n, .int .u64 a] 24)).cell? ⟨w9.heap.size, 0, none⟩ = some (.int .i64 n) ∧ (w9.alloc (.cells #[.int .i64 n, .int .u64 a] 24)).cell? ⟨w9.heap.size, 1, none⟩ = some (.int .u64 a) ∧ Below w.heap.size w (w9.alloc (.cells #[.int .i64 n, .int .u64 a] 24)) := ⟨in_alloc _ S9.1, in_alloc _ S9.2.1, in_alloc _ S9.2.2.1, in_alloc _ S9.2.2.2.1, in_alloc _ S9.2.2.2.2.1, in_alloc _ S9.2.2.2.2.2.1, in_alloc _ S9.2.2.2.2.2.2.1, in_alloc _ S9.2.2.2.2.2.2.2.1, new0 _ _ _ _, new1 _ _ _ _, S9.2.2.2.2.2.2.2.2.alloc S9.2.2.2.2.2.2.2.2.size _⟩
  clear S9
  go_wp2_with fail
  have K9 : (w9.alloc (.cells #[.int .i64 n, .int .u64 a] 24)).cell? ⟨w.heap.size, 0, none⟩ = some (.int .i64 n) ∧ (w9.alloc (.cells #[.int .i64 n, .int .u64 a] 24)).cell? ⟨w.heap.size, 1, none⟩ = some (.int .u64 a) ∧ (w9.alloc (.cells #[.int .i64 n, .int .u64 a] 24)).cell? ⟨w.heap.size + 1, 0, none⟩ = some (.int .i64 m) ∧ (w9.alloc (.cells #[.int .i64 n, .int .u64 a] 24)).cell? ⟨w.heap.size + 1, 1, none⟩ = some (.int .u64 b) ∧ Below w.heap.size w (w9.alloc (.cells #[.int .i64 n, .int .u64 a] 24)) := ⟨S9a.1, S9a.2.1, S9a.2.2.1, S9a.2.2.2.1, S9a.2.2.2.2.2.2.2.2.2.2⟩
  clear S9a
  go_quiet (fail)
  have Q0 : ((w9.alloc (.cells #[.int .i64 n, .int .u64 a] 24)).drewN nq).cell? ⟨w.heap.size, 0, none⟩ = some (.int .i64 n) ∧ ((w9.alloc (.cells #[.int .i64 n, .int .u64 a] 24)).drewN nq).cell? ⟨w.heap.size, 1, none⟩ = some (.int .u64 a) ∧ ((w9.alloc (.cells #[.int .i64 n, .int .u64 a] 24)).drewN nq).cell? ⟨w.heap.size + 1, 0, none⟩ = some (.int .i64 m) ∧ ((w9.alloc (.cells #[.int .i64 n, .int .u64 a] 24)).drewN nq).cell? ⟨w.heap.size + 1, 1, none⟩ = some (.int .u64 b) ∧ Below w.heap.size w ((w9.alloc (.cells #[.int .i64 n, .int .u64 a] 24)).drewN nq) := ⟨K9.1, K9.2.1, K9.2.2.1, K9.2.2.2.1, below_drewN K9.2.2.2.2 _⟩
  clear K9
  generalize (w9.alloc (.cells #[.int .i64 n, .int .u64 a] 24)).drewN nq = V at *
  go_wp2_with fail
  refine (zextUse CZ _).mono ?_
  rintro e w20 ⟨rfl, hb20⟩
  have S20 : w20.cell? ⟨w.heap.size, 0, none⟩ = some (.int .i64 n) ∧ w20.cell? ⟨w.heap.size, 1, none⟩ = some (.int .u64 a) ∧ w20.cell? ⟨w.heap.size + 1, 0, none⟩ = some (.int .i64 m) ∧ w20.cell? ⟨w.heap.size + 1, 1, none⟩ = some (.int .u64 b) ∧ Below w.heap.size w w20 := later4 hb20 Q0
  clear Q0 hb20
  have S20a : (w20.alloc (.cells #[.int .i64 (n + r), .int .u64 zv] 24)).cell? ⟨w.heap.size, 0, none⟩ = some (.int .i64 n) ∧ (w20.alloc (.cells #[.int .i64 (n + r), .int .u64 zv] 24)).cell? ⟨w.heap.size, 1, none⟩ = some (.int .u64 a) ∧ (w20.alloc (.cells #[.int .i64 (n + r), .int .u64 zv] 24)).cell? ⟨w.heap.size + 1, 0, none⟩ = some (.int .i64 m) ∧ (w20.alloc (.cells #[.int .i64 (n + r), .int .u64 zv] 24)).cell? ⟨w.heap.size + 1, 1, none⟩ = some (.int .u64 b) ∧ (w20.alloc (.cells #[.int .i64 (n + r), .int .u64 zv] 24)).cell? ⟨w20.heap.size, 0, none⟩ = some (.int .i64 (n + r)) ∧ (w20.alloc (.cells #[.int .i64 (n + r), .int .u64 zv] 24)).cell? ⟨w20.heap.size, 1, none⟩ = some (.int .u64 zv) ∧ Below w.heap.size w (w20.alloc (.cells #[.int .i64 (n + r), .int .u64 zv] 24)) := ⟨in_alloc _ S20.1, in_alloc _ S20.2.1, in_alloc _ S20.2.2.1, in_alloc _ S20.2.2.2.1, new0 _ _ _ _, new1 _ _ _ _, S20.2.2.2.2.alloc S20.2.2.2.2.size _⟩
  clear S20
  go_wp2_with fail
  refine (sextUse CS _).mono ?_
  rintro e w21 ⟨rfl, hb21⟩
  have S21 : w21.cell? ⟨w.heap.size, 0, none⟩ = some (.int .i64 n) ∧ w21.cell? ⟨w.heap.size, 1, none⟩ = some (.int .u64 a) ∧ w21.cell? ⟨w.heap.size + 1, 0, none⟩ = some (.int .i64 m) ∧ w21.cell? ⟨w.heap.size + 1, 1, none⟩ = some (.int .u64 b) ∧ w21.cell? ⟨w20.heap.size, 0, none⟩ = some (.int .i64 (n + r)) ∧ w21.cell? ⟨w20.heap.size, 1, none⟩ = some (.int .u64 zv) ∧ Below w.heap.size w w21 := later6 hb21 S20a
  clear S20a hb21
  have S21a : (w21.alloc (.cells #[.int .i64 (n + r), .int .u64 sv] 24)).cell? ⟨w.heap.size, 0, none⟩ = some (.int .i64 n) ∧ (w21.alloc (.cells #[.int .i64 (n + r), .int .u64 sv] 24)).cell? ⟨w.heap.size, 1, none⟩ = some (.int .u64 a) ∧ (w21.alloc (.cells #[.int .i64 (n + r), .int .u64 sv] 24)).cell? ⟨w.heap.size + 1, 0, none⟩ = some (.int .i64 m) ∧ (w21.alloc (.cells #[.int .i64 (n + r), .int .u64 sv] 24)).cell? ⟨w.heap.size + 1, 1, none⟩ = some (.int .u64 b) ∧ (w21.alloc (.cells #[.int .i64 (n + r), .int .u64 sv] 24)).cell? ⟨w20.heap.size, 0, none⟩ = some (.int .i64 (n + r)) ∧ (w21.alloc (.cells #[.int .i64 (n + r), .int .u64 sv] 24)).cell? ⟨w20.heap.size, 1, none⟩ = some (.int .u64 zv) ∧ (w21.alloc (.cells #[.int .i64 (n + r), .int .u64 sv] 24)).cell? ⟨w21.heap.size, 0, none⟩ = some (.int .i64 (n + r)) ∧ (w21.alloc (.cells #[.int .i64 (n + r), .int .u64 sv] 24)).cell? ⟨w21.heap.size, 1, none⟩ = some (.int .u64 sv) ∧ Below w.heap.size w (w21.alloc (.cells #[.int .i64 (n + r), .int .u64 sv] 24)) := ⟨in_alloc _ S21.1, in_alloc _ S21.2.1, in_alloc _ S21.2.2.1, in_alloc _ S21.2.2.2.1, in_alloc _ S21.2.2.2.2.1, in_alloc _ S21.2.2.2.2.2.1, new0 _ _ _ _, new1 _ _ _ _, S21.2.2.2.2.2.2.alloc S21.2.2.2.2.2.2.size _⟩
  clear S21
  go_wp2_with fail
  have HK : Hid (0 ≤ n + r ∧ n + r ≤ 64) := ⟨by omega, by omega⟩
  go_loopw [179] (fun i wr => PartsRel w w20 w21 n a (n + r) zv sv i wr) (fun i _ => (n + r - intOf i).toNat)
  case atStart => exact ⟨0, by omega, by omega, rfl, S21a.1, S21a.2.1, S21a.2.2.2.2.1, S21a.2.2.2.2.2.1, S21a.2.2.2.2.2.2.1, S21a.2.2.2.2.2.2.2.1, S21a.2.2.2.2.2.2.2.2⟩
  case round =>
    rename_i wr
    obtain ⟨k, k0, k1, rfl, D0, D1, D2, D3, D4, D5, D6⟩ := hrel
    have U0 : wr.cell? ⟨w.heap.size, 0, none⟩ = some (.int .i64 n) ∧ wr.cell? ⟨w.heap.size, 1, none⟩ = some (.int .u64 a) ∧ wr.cell? ⟨w20.heap.size, 0, none⟩ = some (.int .i64 (n + r)) ∧ wr.cell? ⟨w20.heap.size, 1, none⟩ = some (.int .u64 zv) ∧ wr.cell? ⟨w21.heap.size, 0, none⟩ = some (.int .i64 (n + r)) ∧ wr.cell? ⟨w21.heap.size, 1, none⟩ = some (.int .u64 sv) ∧ Below w.heap.size w wr := ⟨D0, D1, D2, D3, D4, D5, D6⟩
    clear D0 D1 D2 D3 D4 D5 D6
    by_cases hlt : k < n + r
    · have HP := HB.out k k0 hlt
      by_cases kn : k < n
      · rw [if_pos kn, if_pos kn] at HP
        obtain ⟨P1, P2⟩ := HP
        have kz : ¬ n ≤ k := by omega
        go_wp2_with fail
        refine (partUse P1 _).mono ?_
        rintro e w30 ⟨rfl, hb30⟩
        have S30 : w30.cell? ⟨w.heap.size, 0, none⟩ = some (.int .i64 n) ∧ w30.cell? ⟨w.heap.size, 1, none⟩ = some (.int .u64 a) ∧ w30.cell? ⟨w20.heap.size, 0, none⟩ = some (.int .i64 (n + r)) ∧ w30.cell? ⟨w20.heap.size, 1, none⟩ = some (.int .u64 zv) ∧ w30.cell? ⟨w21.heap.size, 0, none⟩ = some (.int .i64 (n + r)) ∧ w30.cell? ⟨w21.heap.size, 1, none⟩ = some (.int .u64 sv) ∧ Below w.heap.size w w30 := later6 hb30 U0
        clear U0 hb30
        have S30a : (w30.alloc (.cells #[.int .i64 1, .int .u64 (bitV a k)] 24)).cell? ⟨w.heap.size, 0, none⟩ = some (.int .i64 n) ∧ (w30.alloc (.cells #[.int .i64 1, .int .u64 (bitV a k)] 24)).cell? ⟨w.heap.size, 1, none⟩ = some (.int .u64 a) ∧ (w30.alloc (.cells #[.int .i64 1, .int .u64 (bitV a k)] 24)).cell? ⟨w20.heap.size, 0, none⟩ = some (.int .i64 (n + r)) ∧ (w30.alloc (.cells #[.int .i64 1, .int .u64 (bitV a k)] 24)).cell? ⟨w20.heap.size, 1, none⟩ = some (.int .u64 zv) ∧ (w30.alloc (.cells #[.int .i64 1, .int .u64 (bitV a k)] 24)).cell? ⟨w21.heap.size, 0, none⟩ = some (.int .i64 (n + r)) ∧ (w30.alloc (.cells #[.int .i64 1, .int .u64 (bitV a k)] 24)).cell? ⟨w21.heap.size, 1, none⟩ = some (.int .u64 sv) ∧ (w30.alloc (.cells #[.int .i64 1, .int .u64 (bitV a k)] 24)).cell? ⟨w30.heap.size, 0, none⟩ = some (.int .i64 1) ∧ (w30.alloc (.cells #[.int .i64 1, .int .u64 (bitV a k)] 24)).cell? ⟨w30.heap.size, 1, none⟩ = some (.int .u64 (bitV a k)) ∧ Below w.heap.size w (w30.alloc (.cells #[.int .i64 1, .int .u64 (bitV a k)] 24)) := ⟨in_alloc _ S30.1, in_alloc _ S30.2.1, in_alloc _ S30.2.2.1, in_alloc _ S30.2.2.2.1, in_alloc _ S30.2.2.2.2.1, in_alloc _ S30.2.2.2.2.2.1, new0 _ _ _ _, new1 _ _ _ _, S30.2.2.2.2.2.2.alloc S30.2.2.2.2.2.2.size _⟩
        clear S30
        go_wp2_with fail
        refine (partUse P2 _).mono ?_
        rintro e w31 ⟨rfl, hb31⟩
        have S31 : w31.cell? ⟨w.heap.size, 0, none⟩ = some (.int .i64 n) ∧ w31.cell? ⟨w.heap.size, 1, none⟩ = some (.int .u64 a) ∧ w31.cell? ⟨w20.heap.size, 0, none⟩ = some (.int .i64 (n + r)) ∧ w31.cell? ⟨w20.heap.size, 1, none⟩ = some (.int .u64 zv) ∧ w31.cell? ⟨w21.heap.size, 0, none⟩ = some (.int .i64 (n + r)) ∧ w31.cell? ⟨w21.heap.size, 1, none⟩ = some (.int .u64 sv) ∧ w31.cell? ⟨w30.heap.size, 0, none⟩ = some (.int .i64 1) ∧ w31.cell? ⟨w30.heap.size, 1, none⟩ = some (.int .u64 (bitV a k)) ∧ Below w.heap.size w w31 := later8 hb31 S30a
        clear S30a hb31
        have S31a : (w31.alloc (.cells #[.int .i64 1, .int .u64 (bitV a k)] 24)).cell? ⟨w.heap.size, 0, none⟩ = some (.int .i64 n) ∧ (w31.alloc (.cells #[.int .i64 1, .int .u64 (bitV a k)] 24)).cell? ⟨w.heap.size, 1, none⟩ = some (.int .u64 a) ∧ (w31.alloc (.cells #[.int .i64 1, .int .u64 (bitV a k)] 24)).cell? ⟨w20.heap.size, 0, none⟩ = some (.int .i64 (n + r)) ∧ (w31.alloc (.cells #[.int .i64 1, .int .u64 (bitV a k)] 24)).cell? ⟨w20.heap.size, 1, none⟩ = some (.int .u64 zv) ∧ (w31.alloc (.cells #[.int .i64 1, .int .u64 (bitV a k)] 24)).cell? ⟨w21.heap.size, 0, none⟩ = some (.int .i64 (n + r)) ∧ (w31.alloc (.cells #[.int .i64 1, .int .u64 (bitV a k)] 24)).cell? ⟨w21.heap.size, 1, none⟩ = some (.int .u64 sv) ∧ (w31.alloc (.cells #[.int .i64 1, .int .u64 (bitV a k)] 24)).cell? ⟨w30.heap.size, 0, none⟩ = some (.int .i64 1) ∧ (w31.alloc (.cells #[.int .i64 1, .int .u64 (bitV a k)] 24)).cell? ⟨w30.heap.size, 1, none⟩ = some (.int .u64 (bitV a k)) ∧ (w31.alloc (.cells #[.int .i64 1, .int .u64 (bitV a k)] 24)).cell? ⟨w31.heap.size, 0, none⟩ = some (.int .i64 1) ∧ (w31.alloc (.cells #[.int .i64 1, .int .u64 (bitV a k)] 24)).cell? ⟨w31.heap.size, 1, none⟩ = some (.int .u64 (bitV a k)) ∧ Below w.heap.size w (w31.alloc (.cells #[.int .i64 1, .int .u64 (bitV a k)] 24)) := ⟨in_alloc _ S31.1, in_alloc _ S31.2.1, in_alloc _ S31.2.2.1, in_alloc _ S31.2.2.2.1, in_alloc _ S31.2.2.2.2.1, in_alloc _ S31.2.2.2.2.2.1, in_alloc _ S31.2.2.2.2.2.2.1, in_alloc _ S31.2.2.2.2.2.2.2.1, new0 _ _ _ _, new1 _ _ _ _, S31.2.2.2.2.2.2.2.2.alloc S31.2.2.2.2.2.2.2.2.size _⟩
        clear S31
        go_wp2_with fail
        refine (bit_any a k _ HA.out.2 k0 (by have := HK.out.2; omega)).mono ?_
        rintro e w40 ⟨rfl, rfl⟩
        go_wp2_with fail
        refine (bit_any a k _ HA.out.2 k0 (by have := HK.out.2; omega)).mono ?_
        rintro e w41 ⟨rfl, rfl⟩
        go_wp2
        go_roundw
        case rel => exact ⟨k + 1, by omega, by omega, by go_num, S31a.1, S31a.2.1, S31a.2.2.1, S31a.2.2.2.1, S31a.2.2.2.2.1, S31a.2.2.2.2.2.1, S31a.2.2.2.2.2.2.2.2.2.2⟩
        case measure => simp [intOf]; omega
      · rw [if_neg kn, if_neg kn] at HP
        obtain ⟨P1, P2⟩ := HP
        have kz : n ≤ k := by omega
        go_wp2_with fail
        refine (partUse P1 _).mono ?_
        rintro e w30 ⟨rfl, hb30⟩
        have S30 : w30.cell? ⟨w.heap.size, 0, none⟩ = some (.int .i64 n) ∧ w30.cell? ⟨w.heap.size, 1, none⟩ = some (.int .u64 a) ∧ w30.cell? ⟨w20.heap.size, 0, none⟩ = some (.int .i64 (n + r)) ∧ w30.cell? ⟨w20.heap.size, 1, none⟩ = some (.int .u64 zv) ∧ w30.cell? ⟨w21.heap.size, 0, none⟩ = some (.int .i64 (n + r)) ∧ w30.cell? ⟨w21.heap.size, 1, none⟩ = some (.int .u64 sv) ∧ Below w.heap.size w w30 := later6 hb30 U0
        clear U0 hb30
        have S30a : (w30.alloc (.cells #[.int .i64 1, .int .u64 0] 24)).cell? ⟨w.heap.size, 0, none⟩ = some (.int .i64 n) ∧ (w30.alloc (.cells #[.int .i64 1, .int .u64 0] 24)).cell? ⟨w.heap.size, 1, none⟩ = some (.int .u64 a) ∧ (w30.alloc (.cells #[.int .i64 1, .int .u64 0] 24)).cell? ⟨w20.heap.size, 0, none⟩ = some (.int .i64 (n + r)) ∧ (w30.alloc (.cells #[.int .i64 1, .int .u64 0] 24)).cell? ⟨w20.heap.size, 1, none⟩ = some (.int .u64 zv) ∧ (w30.alloc (.cells #[.int .i64 1, .int .u64 0] 24)).cell? ⟨w21.heap.size, 0, none⟩ = some (.int .i64 (n + r)) ∧ (w30.alloc (.cells #[.int .i64 1, .int .u64 0] 24)).cell? ⟨w21.heap.size, 1, none⟩ = some (.int .u64 sv) ∧ (w30.alloc (.cells #[.int .i64 1, .int .u64 0] 24)).cell? ⟨w30.heap.size, 0, none⟩ = some (.int .i64 1) ∧ (w30.alloc (.cells #[.int .i64 1, .int .u64 0] 24)).cell? ⟨w30.heap.size, 1, none⟩ = some (.int .u64 0) ∧ Below w.heap.size w (w30.alloc (.cells #[.int .i64 1, .int .u64 0] 24)) := ⟨in_alloc _ S30.1, in_alloc _ S30.2.1, in_alloc _ S30.2.2.1, in_alloc _ S30.2.2.2.1, in_alloc _ S30.2.2.2.2.1, in_alloc _ S30.2.2.2.2.2.1, new0 _ _ _ _, new1 _ _ _ _, S30.2.2.2.2.2.2.alloc S30.2.2.2.2.2.2.size _⟩
        clear S30
        go_wp2_with fail
        refine (partUse P2 _).mono ?_
        rintro e w31 ⟨rfl, hb31⟩
        have S31 : w31.cell? ⟨w.heap.size, 0, none⟩ = some (.int .i64 n) ∧ w31.cell? ⟨w.heap.size, 1, none⟩ = some (.int .u64 a) ∧ w31.cell? ⟨w20.heap.size, 0, none⟩ = some (.int .i64 (n + r)) ∧ w31.cell? ⟨w20.heap.size, 1, none⟩ = some (.int .u64 zv) ∧ w31.cell? ⟨w21.heap.size, 0, none⟩ = some (.int .i64 (n + r)) ∧ w31.cell? ⟨w21.heap.size, 1, none⟩ = some (.int .u64 sv) ∧ w31.cell? ⟨w30.heap.size, 0, none⟩ = some (.int .i64 1) ∧ w31.cell? ⟨w30.heap.size, 1, none⟩ = some (.int .u64 0) ∧ Below w.heap.size w w31 := later8 hb31 S30a
        clear S30a hb31
        have S31a : (w31.alloc (.cells #[.int .i64 1, .int .u64 (bitV a (n - 1))] 24)).cell? ⟨w.heap.size, 0, none⟩ = some (.int .i64 n) ∧ (w31.alloc (.cells #[.int .i64 1, .int .u64 (bitV a (n - 1))] 24)).cell? ⟨w.heap.size, 1, none⟩ = some (.int .u64 a) ∧ (w31.alloc (.cells #[.int .i64 1, .int .u64 (bitV a (n - 1))] 24)).cell? ⟨w20.heap.size, 0, none⟩ = some (.int .i64 (n + r)) ∧ (w31.alloc (.cells #[.int .i64 1, .int .u64 (bitV a (n - 1))] 24)).cell? ⟨w20.heap.size, 1, none⟩ = some (.int .u64 zv) ∧ (w31.alloc (.cells #[.int .i64 1, .int .u64 (bitV a (n - 1))] 24)).cell? ⟨w21.heap.size, 0, none⟩ = some (.int .i64 (n + r)) ∧ (w31.alloc (.cells #[.int .i64 1, .int .u64 (bitV a (n - 1))] 24)).cell? ⟨w21.heap.size, 1, none⟩ = some (.int .u64 sv) ∧ (w31.alloc (.cells #[.int .i64 1, .int .u64 (bitV a (n - 1))] 24)).cell? ⟨w30.heap.size, 0, none⟩ = some (.int .i64 1) ∧ (w31.alloc (.cells #[.int .i64 1, .int .u64 (bitV a (n - 1))] 24)).cell? ⟨w30.heap.size, 1, none⟩ = some (.int .u64 0) ∧ (w31.alloc (.cells #[.int .i64 1, .int .u64 (bitV a (n - 1))] 24)).cell? ⟨w31.heap.size, 0, none⟩ = some (.int .i64 1) ∧ (w31.alloc (.cells #[.int .i64 1, .int .u64 (bitV a (n - 1))] 24)).cell? ⟨w31.heap.size, 1, none⟩ = some (.int .u64 (bitV a (n - 1))) ∧ Below w.heap.size w (w31.alloc (.cells #[.int .i64 1, .int .u64 (bitV a (n - 1))] 24)) := ⟨in_alloc _ S31.1, in_alloc _ S31.2.1, in_alloc _ S31.2.2.1, in_alloc _ S31.2.2.2.1, in_alloc _ S31.2.2.2.2.1, in_alloc _ S31.2.2.2.2.2.1, in_alloc _ S31.2.2.2.2.2.2.1, in_alloc _ S31.2.2.2.2.2.2.2.1, new0 _ _ _ _, new1 _ _ _ _, S31.2.2.2.2.2.2.2.2.alloc S31.2.2.2.2.2.2.2.2.size _⟩
        clear S31
        go_wp2_with fail
        refine (bit_any a k _ HA.out.2 k0 (by have := HK.out.2; omega)).mono ?_
        rintro e w40 ⟨rfl, rfl⟩
        go_wp2_with fail
        refine (bit_any a (n - 1) _ HA.out.2 (by omega) (by omega)).mono ?_
        rintro e w41 ⟨rfl, rfl⟩
        go_wp2
        go_roundw
        case rel => exact ⟨k + 1, by omega, by omega, by go_num, S31a.1, S31a.2.1, S31a.2.2.1, S31a.2.2.2.1, S31a.2.2.2.2.1, S31a.2.2.2.2.2.1, S31a.2.2.2.2.2.2.2.2.2.2⟩
        case measure => simp [intOf]; omega
    · go_wp2
      go_ret
      exact ⟨rfl, U0.2.2.2.2.2.2⟩

set_option maxRecDepth 100000 in
set_option maxHeartbeats 4000000 in
theorem parts_jo (n a m b c d r zv sv jv : Int) (w : World) (a0 : 0 ≤ a) (b0 : 0 ≤ b) (ha : vB n a = true) (hb : vB m b = true)
    (hn : n ≤ 64) (h1 : 1 ≤ n) (m1 : 1 ≤ m) (m2 : m ≤ 64) (hj : n + m ≤ 64) (CJ : Hid (JoinC n a m b (n + m) jv 0)) (CX : Hid (PartC (n + m) jv 0 m b)) (CY : Hid (PartC (n + m) jv m n a)) (hk : ¬ 1 < n) (hdw : wrap64 d = d) (hdt : d.tmod (64 - n + 1) = r) (hr0 : 0 ≤ r) (hr1 : r < 64 - n + 1) (CZ : Hid (ZextC n a (n + r) zv)) (CS : Hid (SextC n a (n + r) sv)) (HB : Hid (∀ i : Int, 0 ≤ i → i < n + r → Hid (PartC (n + r) zv i 1 (if i < n then bitV a i else 0)) ∧ Hid (PartC (n + r) sv i 1 (if i < n then bitV a i else bitV a (n - 1))))) :
    Calls Try.prog 9 #[.agg #[.int .i64 n, .int .u64 a], .agg #[.int .i64 m, .int .u64 b], .int .u8 c, .int .u8 d] w fun e w' => e = .returned (.bool true) ∧ Below w.heap.size w w' := by
  have HA := Lib.hid (And.intro ha a0)
  have HBV := Lib.hid (And.intro hb b0)
  clear ha a0 hb b0
  go_enter Try.func9, Try.ntmps9
  go_wp2_with fail
  refine (head_any _).mono ?_
  rintro e w1 ⟨rfl, hb1⟩
  obtain ⟨hc1, hf1⟩ := bcell hb1
  have hz1 : w.heap.size < w1.heap.size ∧ w.heap.size + 1 < w1.heap.size := by have hs := hb1.size; simp at hs; omega
  go_wp2_with fail
  refine (ref_valid_yes n a _ HA.out.1 HA.out.2).mono ?_
  rintro e w2 ⟨rfl, hb2⟩
  obtain ⟨hc2, hf2⟩ := bcell hb2
  have hz2 : w.heap.size < w2.heap.size ∧ w.heap.size + 1 < w2.heap.size := by have hs := hb2.size; omega
  go_wp2_with fail
  refine (ref_valid_yes m b _ HBV.out.1 HBV.out.2).mono ?_
  rintro e w3 ⟨rfl, hb3⟩
  obtain ⟨hc3, hf3⟩ := bcell hb3
  have hz3 : w.heap.size < w3.heap.size ∧ w.heap.size + 1 < w3.heap.size := by have hs := hb3.size; omega
  go_wp2_with fail
  have S0 : w3.cell? ⟨w.heap.size, 0, none⟩ = some (.int .i64 n) ∧ w3.cell? ⟨w.heap.size, 1, none⟩ = some (.int .u64 a) ∧ w3.cell? ⟨w.heap.size + 1, 0, none⟩ = some (.int .i64 m) ∧ w3.cell? ⟨w.heap.size + 1, 1, none⟩ = some (.int .u64 b) ∧ Below w.heap.size w w3 := by
    refine ⟨?_, ?_, ?_, ?_, ((below2 hb1).trans ((hb2.mono (by omega)).trans (hb3.mono (by omega))))⟩ <;> simp [hc1, hc2, hc3, hz1, hz2, go_sem]
  clear hc1 hf1 hz1 hb1 hc2 hf2 hz2 hb2 hc3 hf3 hz3 hb3
  refine (joinUse CJ _).mono ?_
  rintro e w4 ⟨rfl, hb4⟩
  have S4 : w4.cell? ⟨w.heap.size, 0, none⟩ = some (.int .i64 n) ∧ w4.cell? ⟨w.heap.size, 1, none⟩ = some (.int .u64 a) ∧ w4.cell? ⟨w.heap.size + 1, 0, none⟩ = some (.int .i64 m) ∧ w4.cell? ⟨w.heap.size + 1, 1, none⟩ = some (.int .u64 b) ∧ Below w.heap.size w w4 := later4 hb4 S0
  clear S0 hb4
  have S4a : (w4.alloc (.cells #[.int .i64 (n + m), .int .u64 jv] 24)).cell? ⟨w.heap.size, 0, none⟩ = some (.int .i64 n) ∧ (w4.alloc (.cells #[.int .i64 (n + m), .int .u64 jv] 24)).cell? ⟨w.heap.size, 1, none⟩ = some (.int .u64 a) ∧ (w4.alloc (.cells #[.int .i64 (n + m), .int .u64 jv] 24)).cell? ⟨w.heap.size + 1, 0, none⟩ = some (.int .i64 m) ∧ (w4.alloc (.cells #[.int .i64 (n + m), .int .u64 jv] 24)).cell? ⟨w.heap.size + 1, 1, none⟩ = some (.int .u64 b) ∧ (w4.alloc (.cells #[.int .i64 (n + m), .int .u64 jv] 24)).cell? ⟨w4.heap.size, 0, none⟩ = some (.int .i64 (n + m)) ∧ (w4.alloc (.cells #[.int .i64 (n + m), .int .u64 jv] 24)).cell? ⟨w4.heap.size, 1, none⟩ = some (.int .u64 jv) ∧ Below w.heap.size w (w4.alloc (.cells #[.int .i64 (n + m), .int .u64 jv] 24)) := ⟨in_alloc _ S4.1, in_alloc _ S4.2.1, in_alloc _ S4.2.2.1, in_alloc _ S4.2.2.2.1, new0 _ _ _ _, new1 _ _ _ _, S4.2.2.2.2.alloc S4.2.2.2.2.size _⟩
  clear S4
  go_wp2_with fail
  refine (partUse CX _).mono ?_
  rintro e w5 ⟨rfl, hb5⟩
  have S5 : w5.cell? ⟨w.heap.size, 0, none⟩ = some (.int .i64 n) ∧ w5.cell? ⟨w.heap.size, 1, none⟩ = some (.int .u64 a) ∧ w5.cell? ⟨w.heap.size + 1, 0, none⟩ = some (.int .i64 m) ∧ w5.cell? ⟨w.heap.size + 1, 1, none⟩ = some (.int .u64 b) ∧ w5.cell? ⟨w4.heap.size, 0, none⟩ = some (.int .i64 (n + m)) ∧ w5.cell? ⟨w4.heap.size, 1, none⟩ = some (.int .u64 jv) ∧ Below w.heap.size w w5 := later6 hb5 S4a
  clear S4a hb5
  have S5a : (w5.alloc (.cells #[.int .i64 m, .int .u64 b] 24)).cell? ⟨w.heap.size, 0, none⟩ = some (.int .i64 n) ∧ (w5.alloc (.cells #[.int .i64 m, .int .u64 b] 24)).cell? ⟨w.heap.size, 1, none⟩ = some (.int .u64 a) ∧ (w5.alloc (.cells #[.int .i64 m, .int .u64 b] 24)).cell? ⟨w.heap.size + 1, 0, none⟩ = some (.int .i64 m) ∧ (w5.alloc (.cells #[.int .i64 m, .int .u64 b] 24)).cell? ⟨w.heap.size + 1, 1, none⟩ = some (.int .u64 b) ∧ (w5.alloc (.cells #[.int .i64 m, .int .u64 b] 24)).cell? ⟨w4.heap.size, 0, none⟩ = some (.int .i64 (n + m)) ∧ (w5.alloc (.cells #[.int .i64 m, .int .u64 b] 24)).cell? ⟨w4.heap.size, 1, none⟩ = some (.int .u64 jv) ∧ (w5.alloc (.cells #[.int .i64 m, .int .u64 b] 24)).cell? ⟨w5.heap.size, 0, none⟩ = some (.int .i64 m) ∧ (w5.alloc (.cells #[.int .i64 m, .int .u64 b] 24)).cell? ⟨w5.heap.size, 1, none⟩ = some (.int .u64 b) ∧ Below w.heap.size w (w5.alloc (.cells #[.int .i64 m, .int .u64 b] 24)) := ⟨in_alloc _ S5.1, in_alloc _ S5.2.1, in_alloc _ S5.2.2.1, in_alloc _ S5.2.2.2.1, in_alloc _ S5.2.2.2.2.1, in_alloc _ S5.2.2.2.2.2.1, new0 _ _ _ _, new1 _ _ _ _, S5.2.2.2.2.2.2.alloc S5.2.2.2.2.2.2.size _⟩
  clear S5
  go_wp2_with fail
  refine (partUse CY _).mono ?_
  rintro e w6 ⟨rfl, hb6⟩
  have S6 : w6.cell? ⟨w.heap.size, 0, none⟩ = some (.int .i64 n) ∧ w6.cell? ⟨w.heap.size, 1, none⟩ = some (.int .u64 a) ∧ w6.cell? ⟨w.heap.size + 1, 0, none⟩ = some (.int .i64 m) ∧ w6.cell? ⟨w.heap.size + 1, 1, none⟩ = some (.int .u64 b) ∧ w6.cell? ⟨w4.heap.size, 0, none⟩ = some (.int .i64 (n + m)) ∧ w6.cell? ⟨w4.heap.size, 1, none⟩ = some (.int .u64 jv) ∧ w6.cell? ⟨w5.heap.size, 0, none⟩ = some (.int .i64 m) ∧ w6.cell? ⟨w5.heap.size, 1, none⟩ = some (.int .u64 b) ∧ Below w.heap.size w w6 := later8 hb6 S5a
  clear S5a hb6
  have S6a : (w6.alloc (.cells #[.int .i64 n, .int .u64 a] 24)).cell? ⟨w.heap.size, 0, none⟩ = some (.int .i64 n) ∧ (w6.alloc (.cells #[.int .i64 n, .int .u64 a] 24)).cell? ⟨w.heap.size, 1, none⟩ = some (.int .u64 a) ∧ (w6.alloc (.cells #[.int .i64 n, .int .u64 a] 24)).cell? ⟨w.heap.size + 1, 0, none⟩ = some (.int .i64 m) ∧ (w6.alloc (.cells #[.int .i64 n, .int .u64 a] 24)).cell? ⟨w.heap.size + 1, 1, none⟩ = some (.int .u64 b) ∧ (w6.alloc (.cells #[.int .i64 n, .int .u64 a] 24)).cell? ⟨w4.heap.size, 0, none⟩ = some (.int .i64 (n + m)) ∧ (w6.alloc (.cells #[.int .i64 n, .int .u64 a] 24)).cell? ⟨w4.heap.size, 1, none⟩ = some (.int .u64 jv) ∧ (w6.alloc (.cells #[.int .i64 n, .int .u64 a] 24)).cell? ⟨w5.heap.size, 0, none⟩ = some (.int .i64 m) ∧ (w6.alloc (.cells #[.int .i64 n, .int .u64 a] 24)).cell? ⟨w5.heap.size, 1, none⟩ = some (.int .u64 b) ∧ (w6.alloc (.cells #[.int .i64 n, .int .u64 a] 24)).cell? ⟨w6.heap.size, 0, none⟩ = some (.int .i64 n) ∧ (w6.alloc (.cells #[.int .i64 n, .int .u64 a] 24)).cell? ⟨w6.heap.size, 1, none⟩ = some (.int .u64 a) ∧ Below w.heap.size w (w6.alloc (.cells #[.int .i64 n, .int .u64 a] 24)) := ⟨in_alloc _ S6.1, in_alloc _ S6.2.1, in_alloc _ S6.2.2.1, in_alloc _ S6.2.2.2.1, in_alloc _ S6.2.2.2.2.1, in_alloc _ S6.2.2.2.2.2.1, in_alloc _ S6.2.2.2.2.2.2.1, in_alloc _ S6.2.2.2.2.2.2.2.1, new0 _ _ _ _, new1 _ _ _ _, S6.2.2.2.2.2.2.2.2.alloc S6.2.2.2.2.2.2.2.2.size _⟩
  clear S6
  go_wp2_with fail
  have K6 : (w6.alloc (.cells #[.int .i64 n, .int .u64 a] 24)).cell? ⟨w.heap.size, 0, none⟩ = some (.int .i64 n) ∧ (w6.alloc (.cells #[.int .i64 n, .int .u64 a] 24)).cell? ⟨w.heap.size, 1, none⟩ = some (.int .u64 a) ∧ (w6.alloc (.cells #[.int .i64 n, .int .u64 a] 24)).cell? ⟨w.heap.size + 1, 0, none⟩ = some (.int .i64 m) ∧ (w6.alloc (.cells #[.int .i64 n, .int .u64 a] 24)).cell? ⟨w.heap.size + 1, 1, none⟩ = some (.int .u64 b) ∧ Below w.heap.size w (w6.alloc (.cells #[.int .i64 n, .int .u64 a] 24)) := ⟨S6a.1, S6a.2.1, S6a.2.2.1, S6a.2.2.2.1, S6a.2.2.2.2.2.2.2.2.2.2⟩
  clear S6a
  go_quiet (fail)
  have Q0 : ((w6.alloc (.cells #[.int .i64 n, .int .u64 a] 24)).drewN nq).cell? ⟨w.heap.size, 0, none⟩ = some (.int .i64 n) ∧ ((w6.alloc (.cells #[.int .i64 n, .int .u64 a] 24)).drewN nq).cell? ⟨w.heap.size, 1, none⟩ = some (.int .u64 a) ∧ ((w6.alloc (.cells #[.int .i64 n, .int .u64 a] 24)).drewN nq).cell? ⟨w.heap.size + 1, 0, none⟩ = some (.int .i64 m) ∧ ((w6.alloc (.cells #[.int .i64 n, .int .u64 a] 24)).drewN nq).cell? ⟨w.heap.size + 1, 1, none⟩ = some (.int .u64 b) ∧ Below w.heap.size w ((w6.alloc (.cells #[.int .i64 n, .int .u64 a] 24)).drewN nq) := ⟨K6.1, K6.2.1, K6.2.2.1, K6.2.2.2.1, below_drewN K6.2.2.2.2 _⟩
  clear K6
  generalize (w6.alloc (.cells #[.int .i64 n, .int .u64 a] 24)).drewN nq = V at *
  go_wp2_with fail
  refine (zextUse CZ _).mono ?_
  rintro e w20 ⟨rfl, hb20⟩
  have S20 : w20.cell? ⟨w.heap.size, 0, none⟩ = some (.int .i64 n) ∧ w20.cell? ⟨w.heap.size, 1, none⟩ = some (.int .u64 a) ∧ w20.cell? ⟨w.heap.size + 1, 0, none⟩ = some (.int .i64 m) ∧ w20.cell? ⟨w.heap.size + 1, 1, none⟩ = some (.int .u64 b) ∧ Below w.heap.size w w20 := later4 hb20 Q0
  clear Q0 hb20
  have S20a : (w20.alloc (.cells #[.int .i64 (n + r), .int .u64 zv] 24)).cell? ⟨w.heap.size, 0, none⟩ = some (.int .i64 n) ∧ (w20.alloc (.cells #[.int .i64 (n + r), .int .u64 zv] 24)).cell? ⟨w.heap.size, 1, none⟩ = some (.int .u64 a) ∧ (w20.alloc (.cells #[.int .i64 (n + r), .int .u64 zv] 24)).cell? ⟨w.heap.size + 1, 0, none⟩ = some (.int .i64 m) ∧ (w20.alloc (.cells #[.int .i64 (n + r), .int .u64 zv] 24)).cell? ⟨w.heap.size + 1, 1, none⟩ = some (.int .u64 b) ∧ (w20.alloc (.cells #[.int .i64 (n + r), .int .u64 zv] 24)).cell? ⟨w20.heap.size, 0, none⟩ = some (.int .i64 (n + r)) ∧ (w20.alloc (.cells #[.int .i64 (n + r), .int .u64 zv] 24)).cell? ⟨w20.heap.size, 1, none⟩ = some (.int .u64 zv) ∧ Below w.heap.size w (w20.alloc (.cells #[.int .i64 (n + r), .int .u64 zv] 24)) := ⟨in_alloc _ S20.1, in_alloc _ S20.2.1, in_alloc _ S20.2.2.1, in_alloc _ S20.2.2.2.1, new0 _ _ _ _, new1 _ _ _ _, S20.2.2.2.2.alloc S20.2.2.2.2.size _⟩
  clear S20
  go_wp2_with fail
  refine (sextUse CS _).mono ?_
  rintro e w21 ⟨rfl, hb21⟩
  have S21 : w21.cell? ⟨w.heap.size, 0, none⟩ = some (.int .i64 n) ∧ w21.cell? ⟨w.heap.size, 1, none⟩ = some (.int .u64 a) ∧ w21.cell? ⟨w.heap.size + 1, 0, none⟩ = some (.int .i64 m) ∧ w21.cell? ⟨w.heap.size + 1, 1, none⟩ = some (.int .u64 b) ∧ w21.cell? ⟨w20.heap.size, 0, none⟩ = some (.int .i64 (n + r)) ∧ w21.cell? ⟨w20.heap.size, 1, none⟩ = some (.int .u64 zv) ∧ Below w.heap.size w w21 := later6 hb21 S20a
  clear S20a hb21
  have S21a : (w21.alloc (.cells #[.int .i64 (n + r), .int .u64 sv] 24)).cell? ⟨w.heap.size, 0, none⟩ = some (.int .i64 n) ∧ (w21.alloc (.cells #[.int .i64 (n + r), .int .u64 sv] 24)).cell? ⟨w.heap.size, 1, none⟩ = some (.int .u64 a) ∧ (w21.alloc (.cells #[.int .i64 (n + r), .int .u64 sv] 24)).cell? ⟨w.heap.size + 1, 0, none⟩ = some (.int .i64 m) ∧ (w21.alloc (.cells #[.int .i64 (n + r), .int .u64 sv] 24)).cell? ⟨w.heap.size + 1, 1, none⟩ = some (.int .u64 b) ∧ (w21.alloc (.cells #[.int .i64 (n + r), .int .u64 sv] 24)).cell? ⟨w20.heap.size, 0, none⟩ = some (.int .i64 (n + r)) ∧ (w21.alloc (.cells #[.int .i64 (n + r), .int .u64 sv] 24)).cell? ⟨w20.heap.size, 1, none⟩ = some (.int .u64 zv) ∧ (w21.alloc (.cells #[.int .i64 (n + r), .int .u64 sv] 24)).cell? ⟨w21.heap.size, 0, none⟩ = some (.int .i64 (n + r)) ∧ (w21.alloc (.cells #[.int .i64 (n + r), .int .u64 sv] 24)).cell? ⟨w21.heap.size, 1, none⟩ = some (.int .u64 sv) ∧ Below w.heap.size w (w21.alloc (.cells #[.int .i64 (n + r), .int .u64 sv] 24)) := ⟨in_alloc _ S21.1, in_alloc _ S21.2.1, in_alloc _ S21.2.2.1, in_alloc _ S21.2.2.2.1, in_alloc _ S21.2.2.2.2.1, in_alloc _ S21.2.2.2.2.2.1, new0 _ _ _ _, new1 _ _ _ _, S21.2.2.2.2.2.2.alloc S21.2.2.2.2.2.2.size _⟩
  clear S21
  go_wp2_with fail
  have HK : Hid (0 ≤ n + r ∧ n + r ≤ 64) := ⟨by omega, by omega⟩
  go_loopw [179] (fun i wr => PartsRel w w20 w21 n a (n + r) zv sv i wr) (fun i _ => (n + r - intOf i).toNat)
  case atStart => exact ⟨0, by omega, by omega, rfl, S21a.1, S21a.2.1, S21a.2.2.2.2.1, S21a.2.2.2.2.2.1, S21a.2.2.2.2.2.2.1, S21a.2.2.2.2.2.2.2.1, S21a.2.2.2.2.2.2.2.2⟩
  case round =>
    rename_i wr
    obtain ⟨k, k0, k1, rfl, D0, D1, D2, D3, D4, D5, D6⟩ := hrel
    have U0 : wr.cell? ⟨w.heap.size, 0, none⟩ = some (.int .i64 n) ∧ wr.cell? ⟨w.heap.size, 1, none⟩ = some (.int .u64 a) ∧ wr.cell? ⟨w20.heap.size, 0, none⟩ = some (.int .i64 (n + r)) ∧ wr.cell? ⟨w20.heap.size, 1, none⟩ = some (.int .u64 zv) ∧ wr.cell? ⟨w21.heap.size, 0, none⟩ = some (.int .i64 (n + r)) ∧ wr.cell? ⟨w21.heap.size, 1, none⟩ = some (.int .u64 sv) ∧ Below w.heap.size w wr := ⟨D0, D1, D2, D3, D4, D5, D6⟩
    clear D0 D1 D2 D3 D4 D5 D6
    by_cases hlt : k < n + r
    · have HP := HB.out k k0 hlt
      by_cases kn : k < n
      · rw [if_pos kn, if_pos kn] at HP
        obtain ⟨P1, P2⟩ := HP
        have kz : ¬ n ≤ k := by omega
        go_wp2_with fail
        refine (partUse P1 _).mono ?_
        rintro e w30 ⟨rfl, hb30⟩
        have S30 : w30.cell? ⟨w.heap.size, 0, none⟩ = some (.int .i64 n) ∧ w30.cell? ⟨w.heap.size, 1, none⟩ = some (.int .u64 a) ∧ w30.cell? ⟨w20.heap.size, 0, none⟩ = some (.int .i64 (n + r)) ∧ w30.cell? ⟨w20.heap.size, 1, none⟩ = some (.int .u64 zv) ∧ w30.cell? ⟨w21.heap.size, 0, none⟩ = some (.int .i64 (n + r)) ∧ w30.cell? ⟨w21.heap.size, 1, none⟩ = some (.int .u64 sv) ∧ Below w.heap.size w w30 := later6 hb30 U0
        clear U0 hb30
        have S30a : (w30.alloc (.cells #[.int .i64 1, .int .u64 (bitV a k)] 24)).cell? ⟨w.heap.size, 0, none⟩ = some (.int .i64 n) ∧ (w30.alloc (.cells #[.int .i64 1, .int .u64 (bitV a k)] 24)).cell? ⟨w.heap.size, 1, none⟩ = some (.int .u64 a) ∧ (w30.alloc (.cells #[.int .i64 1, .int .u64 (bitV a k)] 24)).cell? ⟨w20.heap.size, 0, none⟩ = some (.int .i64 (n + r)) ∧ (w30.alloc (.cells #[.int .i64 1, .int .u64 (bitV a k)] 24)).cell? ⟨w20.heap.size, 1, none⟩ = some (.int .u64 zv) ∧ (w30.alloc (.cells #[.int .i64 1, .int .u64 (bitV a k)] 24)).cell? ⟨w21.heap.size, 0, none⟩ = some (.int .i64 (n + r)) ∧ (w30.alloc (.cells #[.int .i64 1, .int .u64 (bitV a k)] 24)).cell? ⟨w21.heap.size, 1, none⟩ = some (.int .u64 sv) ∧ (w30.alloc (.cells #[.int .i64 1, .int .u64 (bitV a k)] 24)).cell? ⟨w30.heap.size, 0, none⟩ = some (.int .i64 1) ∧ (w30.alloc (.cells #[.int .i64 1, .int .u64 (bitV a k)] 24)).cell? ⟨w30.heap.size, 1, none⟩ = some (.int .u64 (bitV a k)) ∧ Below w.heap.size w (w30.alloc (.cells #[.int .i64 1, .int .u64 (bitV a k)] 24)) := ⟨in_alloc _ S30.1, in_alloc _ S30.2.1, in_alloc _ S30.2.2.1, in_alloc _ S30.2.2.2.1, in_alloc _ S30.2.2.2.2.1, in_alloc _ S30.2.2.2.2.2.1, new0 _ _ _ _, new1 _ _ _ _, S30.2.2.2.2.2.2.alloc S30.2.2.2.2.2.2.size _⟩
        clear S30
        go_wp2_with fail
        refine (partUse P2 _).mono ?_
        rintro e w31 ⟨rfl, hb31⟩
        have S31 : w31.cell? ⟨w.heap.size, 0, none⟩ = some (.int .i64 n) ∧ w31.cell? ⟨w.heap.size, 1, none⟩ = some (.int .u64 a) ∧ w31.cell? ⟨w20.heap.size, 0, none⟩ = some (.int .i64 (n + r)) ∧ w31.cell? ⟨w20.heap.size, 1, none⟩ = some (.int .u64 zv) ∧ w31.cell? ⟨w21.heap.size, 0, none⟩ = some (.int .i64 (n + r)) ∧ w31.cell? ⟨w21.heap.size, 1, none⟩ = some (.int .u64 sv) ∧ w31.cell? ⟨w30.heap.size, 0, none⟩ = some (.int .i64 1) ∧ w31.cell? ⟨w30.heap.size, 1, none⟩ = some (.int .u64 (bitV a k)) ∧ Below w.heap.size w w31 := later8 hb31 S30a
        clear S30a hb31
        have S31a : (w31.alloc (.cells #[.int .i64 1, .int .u64 (bitV a k)] 24)).cell? ⟨w.heap.size, 0, none⟩ = some (.int .i64 n) ∧ (w31.alloc (.cells #[.int .i64 1, .int .u64 (bitV a k)] 24)).cell? ⟨w.heap.size, 1, none⟩ = some (.int .u64 a) ∧ (w31.alloc (.cells #[.int .i64 1, .int .u64 (bitV a k)] 24)).cell? ⟨w20.heap.size, 0, none⟩ = some (.int .i64 (n + r)) ∧ (w31.alloc (.cells #[.int .i64 1, .int .u64 (bitV a k)] 24)).cell? ⟨w20.heap.size, 1, none⟩ = some (.int .u64 zv) ∧ (w31.alloc (.cells #[.int .i64 1, .int .u64 (bitV a k)] 24)).cell? ⟨w21.heap.size, 0, none⟩ = some (.int .i64 (n + r)) ∧ (w31.alloc (.cells #[.int .i64 1, .int .u64 (bitV a k)] 24)).cell? ⟨w21.heap.size, 1, none⟩ = some (.int .u64 sv) ∧ (w31.alloc (.cells #[.int .i64 1, .int .u64 (bitV a k)] 24)).cell? ⟨w30.heap.size, 0, none⟩ = some (.int .i64 1) ∧ (w31.alloc (.cells #[.int .i64 1, .int .u64 (bitV a k)] 24)).cell? ⟨w30.heap.size, 1, none⟩ = some (.int .u64 (bitV a k)) ∧ (w31.alloc (.cells #[.int .i64 1, .int .u64 (bitV a k)] 24)).cell? ⟨w31.heap.size, 0, none⟩ = some (.int .i64 1) ∧ (w31.alloc (.cells #[.int .i64 1, .int .u64 (bitV a k)] 24)).cell? ⟨w31.heap.size, 1, none⟩ = some (.int .u64 (bitV a k)) ∧ Below w.heap.size w (w31.alloc (.cells #[.int .i64 1, .int .u64 (bitV a k)] 24)) := ⟨in_alloc _ S31.1, in_alloc _ S31.2.1, in_alloc _ S31.2.2.1, in_alloc _ S31.2.2.2.1, in_alloc _ S31.2.2.2.2.1, in_alloc _ S31.2.2.2.2.2.1, in_alloc _ S31.2.2.2.2.2.2.1, in_alloc _ S31.2.2.2.2.2.2.2.1, new0 _ _ _ _, new1 _ _ _ _, S31.2.2.2.2.2.2.2.2.alloc S31.2.2.2.2.2.2.2.2.size _⟩
        clear S31
        go_wp2_with fail
        refine (bit_any a k _ HA.out.2 k0 (by have := HK.out.2; omega)).mono ?_
        rintro e w40 ⟨rfl, rfl⟩
        go_wp2_with fail
        refine (bit_any a k _ HA.out.2 k0 (by have := HK.out.2; omega)).mono ?_
        rintro e w41 ⟨rfl, rfl⟩
        go_wp2
        go_roundw
        case rel => exact ⟨k + 1, by omega, by omega, by go_num, S31a.1, S31a.2.1, S31a.2.2.1, S31a.2.2.2.1, S31a.2.2.2.2.1, S31a.2.2.2.2.2.1, S31a.2.2.2.2.2.2.2.2.2.2⟩
        case measure => simp [intOf]; omega
      · rw [if_neg kn, if_neg kn] at HP
        obtain ⟨P1, P2⟩ := HP
        have kz : n ≤ k := by omega
        go_wp2_with fail
        refine (partUse P1 _).mono ?_
        rintro e w30 ⟨rfl, hb30⟩
        have S30 : w30.cell? ⟨w.heap.size, 0, none⟩ = some (.int .i64 n) ∧ w30.cell? ⟨w.heap.size, 1, none⟩ = some (.int .u64 a) ∧ w30.cell? ⟨w20.heap.size, 0, none⟩ = some (.int .i64 (n + r)) ∧ w30.cell? ⟨w20.heap.size, 1, none⟩ = some (.int .u64 zv) ∧ w30.cell? ⟨w21.heap.size, 0, none⟩ = some (.int .i64 (n + r)) ∧ w30.cell? ⟨w21.heap.size, 1, none⟩ = some (.int .u64 sv) ∧ Below w.heap.size w w30 := later6 hb30 U0
        clear U0 hb30
        have S30a : (w30.alloc (.cells #[.int .i64 1, .int .u64 0] 24)).cell? ⟨w.heap.size, 0, none⟩ = some (.int .i64 n) ∧ (w30.alloc (.cells #[.int .i64 1, .int .u64 0] 24)).cell? ⟨w.heap.size, 1, none⟩ = some (.int .u64 a) ∧ (w30.alloc (.cells #[.int .i64 1, .int .u64 0] 24)).cell? ⟨w20.heap.size, 0, none⟩ = some (.int .i64 (n + r)) ∧ (w30.alloc (.cells #[.int .i64 1, .int .u64 0] 24)).cell? ⟨w20.heap.size, 1, none⟩ = some (.int .u64 zv) ∧ (w30.alloc (.cells #[.int .i64 1, .int .u64 0] 24)).cell? ⟨w21.heap.size, 0, none⟩ = some (.int .i64 (n + r)) ∧ (w30.alloc (.cells #[.int .i64 1, .int .u64 0] 24)).cell? ⟨w21.heap.size, 1, none⟩ = some (.int .u64 sv) ∧ (w30.alloc (.cells #[.int .i64 1, .int .u64 0] 24)).cell? ⟨w30.heap.size, 0, none⟩ = some (.int .i64 1) ∧ (w30.alloc (.cells #[.int .i64 1, .int .u64 0] 24)).cell? ⟨w30.heap.size, 1, none⟩ = some (.int .u64 0) ∧ Below w.heap.size w (w30.alloc (.cells #[.int .i64 1, .int .u64 0] 24)) := ⟨in_alloc _ S30.1, in_alloc _ S30.2.1, in_alloc _ S30.2.2.1, in_alloc _ S30.2.2.2.1, in_alloc _ S30.2.2.2.2.1, in_alloc _ S30.2.2.2.2.2.1, new0 _ _ _ _, new1 _ _ _ _, S30.2.2.2.2.2.2.alloc S30.2.2.2.2.2.2.size _⟩
        clear S30
        go_wp2_with fail
        refine (partUse P2 _).mono ?_
        rintro e w31 ⟨rfl, hb31⟩
        have S31 : w31.cell? ⟨w.heap.size, 0, none⟩ = some (.int .i64 n) ∧ w31.cell? ⟨w.heap.size, 1, none⟩ = some (.int .u64 a) ∧ w31.cell? ⟨w20.heap.size, 0, none⟩ = some (.int .i64 (n + r)) ∧ w31.cell? ⟨w20.heap.size, 1, none⟩ = some (.int .u64 zv) ∧ w31.cell? ⟨w21.heap.size, 0, none⟩ = some (.int .i64 (n + r)) ∧ w31.cell? ⟨w21.heap.size, 1, none⟩ = some (.int .u64 sv) ∧ w31.cell? ⟨w30.heap.size, 0, none⟩ = some (.int .i64 1) ∧ w31.cell? ⟨w30.heap.size, 1, none⟩ = some (.int .u64 0) ∧ Below w.heap.size w w31 := later8 hb31 S30a
        clear S30a hb31
        have S31a : (w31.alloc (.cells #[.int .i64 1, .int .u64 (bitV a (n - 1))] 24)).cell? ⟨w.heap.size, 0, none⟩ = some (.int .i64 n) ∧ (w31.alloc (.cells #[.int .i64 1, .int .u64 (bitV a (n - 1))] 24)).cell? ⟨w.heap.size, 1, none⟩ = some (.int .u64 a) ∧ (w31.alloc (.cells #[.int .i64 1, .int .u64 (bitV a (n - 1))] 24)).cell? ⟨w20.heap.size, 0, none⟩ = some (.int .i64 (n + r)) ∧ (w31.alloc (.cells #[.int .i64 1, .int .u64 (bitV a (n - 1))] 24)).cell? ⟨w20.heap.size, 1, none⟩ = some (.int .u64 zv) ∧ (w31.alloc (.cells #[.int .i64 1, .int .u64 (bitV a (n - 1))] 24)).cell? ⟨w21.heap.size, 0, none⟩ = some (.int .i64 (n + r)) ∧ (w31.alloc (.cells #[.int .i64 1, .int .u64 (bitV a (n - 1))] 24)).cell? ⟨w21.heap.size, 1, none⟩ = some (.int .u64 sv) ∧ (w31.alloc (.cells #[.int .i64 1, .int .u64 (bitV a (n - 1))] 24)).cell? ⟨w30.heap.size, 0, none⟩ = some (.int .i64 1) ∧ (w31.alloc (.cells #[.int .i64 1, .int .u64 (bitV a (n - 1))] 24)).cell? ⟨w30.heap.size, 1, none⟩ = some (.int .u64 0) ∧ (w31.alloc (.cells #[.int .i64 1, .int .u64 (bitV a (n - 1))] 24)).cell? ⟨w31.heap.size, 0, none⟩ = some (.int .i64 1) ∧ (w31.alloc (.cells #[.int .i64 1, .int .u64 (bitV a (n - 1))] 24)).cell? ⟨w31.heap.size, 1, none⟩ = some (.int .u64 (bitV a (n - 1))) ∧ Below w.heap.size w (w31.alloc (.cells #[.int .i64 1, .int .u64 (bitV a (n - 1))] 24)) := ⟨in_alloc _ S31.1, in_alloc _ S31.2.1, in_alloc _ S31.2.2.1, in_alloc _ S31.2.2.2.1, in_alloc _ S31.2.2.2.2.1, in_alloc _ S31.2.2.2.2.2.1, in_alloc _ S31.2.2.2.2.2.2.1, in_alloc _ S31.2.2.2.2.2.2.2.1, new0 _ _ _ _, new1 _ _ _ _, S31.2.2.2.2.2.2.2.2.alloc S31.2.2.2.2.2.2.2.2.size _⟩
        clear S31
        go_wp2_with fail
        refine (bit_any a k _ HA.out.2 k0 (by have := HK.out.2; omega)).mono ?_
        rintro e w40 ⟨rfl, rfl⟩
        go_wp2_with fail
        refine (bit_any a (n - 1) _ HA.out.2 (by omega) (by omega)).mono ?_
        rintro e w41 ⟨rfl, rfl⟩
        go_wp2
        go_roundw
        case rel => exact ⟨k + 1, by omega, by omega, by go_num, S31a.1, S31a.2.1, S31a.2.2.1, S31a.2.2.2.1, S31a.2.2.2.2.1, S31a.2.2.2.2.2.1, S31a.2.2.2.2.2.2.2.2.2.2⟩
        case measure => simp [intOf]; omega
    · go_wp2
      go_ret
      exact ⟨rfl, U0.2.2.2.2.2.2⟩

set_option maxRecDepth 100000 in
set_option maxHeartbeats 4000000 in
theorem parts_wk (n a m b c d r zv sv t lo hi : Int) (w : World) (a0 : 0 ≤ a) (b0 : 0 ≤ b) (ha : vB n a = true) (hb : vB m b = true)
    (hn : n ≤ 64) (h1 : 1 ≤ n) (m1 : 1 ≤ m) (m2 : m ≤ 64) (hj : decide (n + m ≤ 64) = false) (CJ : Hid (JoinC n a m b 0 0 13)) (hk : 1 < n) (hcw : wrap64 c = c) (hkt : c.tmod (n - 1) = t) (ht0 : 0 ≤ t) (ht1 : t < n - 1) (CL : Hid (PartC n a 0 (1 + t) lo)) (CH : Hid (PartC n a (1 + t) (n - (1 + t)) hi)) (CA : Hid (JoinC (n - (1 + t)) hi (1 + t) lo n a 0)) (hdw : wrap64 d = d) (hdt : d.tmod (64 - n + 1) = r) (hr0 : 0 ≤ r) (hr1 : r < 64 - n + 1) (CZ : Hid (ZextC n a (n + r) zv)) (CS : Hid (SextC n a (n + r) sv)) (HB : Hid (∀ i : Int, 0 ≤ i → i < n + r → Hid (PartC (n + r) zv i 1 (if i < n then bitV a i else 0)) ∧ Hid (PartC (n + r) sv i 1 (if i < n then bitV a i else bitV a (n - 1))))) :
    Calls Try.prog 9 #[.agg #[.int .i64 n, .int .u64 a], .agg #[.int .i64 m, .int .u64 b], .int .u8 c, .int .u8 d] w fun e w' => e = .returned (.bool true) ∧ Below w.heap.size w w' := by
  have HA := Lib.hid (And.intro ha a0)
  have HBV := Lib.hid (And.intro hb b0)
  clear ha a0 hb b0
  go_enter Try.func9, Try.ntmps9
  go_wp2_with fail
  refine (head_any _).mono ?_
  rintro e w1 ⟨rfl, hb1⟩
  obtain ⟨hc1, hf1⟩ := bcell hb1
  have hz1 : w.heap.size < w1.heap.size ∧ w.heap.size + 1 < w1.heap.size := by have hs := hb1.size; simp at hs; omega
  go_wp2_with fail
  refine (ref_valid_yes n a _ HA.out.1 HA.out.2).mono ?_
  rintro e w2 ⟨rfl, hb2⟩
  obtain ⟨hc2, hf2⟩ := bcell hb2
  have hz2 : w.heap.size < w2.heap.size ∧ w.heap.size + 1 < w2.heap.size := by have hs := hb2.size; omega
  go_wp2_with fail
  refine (ref_valid_yes m b _ HBV.out.1 HBV.out.2).mono ?_
  rintro e w3 ⟨rfl, hb3⟩
  obtain ⟨hc3, hf3⟩ := bcell hb3
  have hz3 : w.heap.size < w3.heap.size ∧ w.heap.size + 1 < w3.heap.size := by have hs := hb3.size; omega
  go_wp2_with fail
  have S0 : w3.cell? ⟨w.heap.size, 0, none⟩ = some (.int .i64 n) ∧ w3.cell? ⟨w.heap.size, 1, none⟩ = some (.int .u64 a) ∧ w3.cell? ⟨w.heap.size + 1, 0, none⟩ = some (.int .i64 m) ∧ w3.cell? ⟨w.heap.size + 1, 1, none⟩ = some (.int .u64 b) ∧ Below w.heap.size w w3 := by
    refine ⟨?_, ?_, ?_, ?_, ((below2 hb1).trans ((hb2.mono (by omega)).trans (hb3.mono (by omega))))⟩ <;> simp [hc1, hc2, hc3, hz1, hz2, go_sem]
  clear hc1 hf1 hz1 hb1 hc2 hf2 hz2 hb2 hc3 hf3 hz3 hb3
  refine (joinUse CJ _).mono ?_
  rintro e w4 ⟨rfl, hb4⟩
  have S4 : w4.cell? ⟨w.heap.size, 0, none⟩ = some (.int .i64 n) ∧ w4.cell? ⟨w.heap.size, 1, none⟩ = some (.int .u64 a) ∧ w4.cell? ⟨w.heap.size + 1, 0, none⟩ = some (.int .i64 m) ∧ w4.cell? ⟨w.heap.size + 1, 1, none⟩ = some (.int .u64 b) ∧ Below w.heap.size w w4 := later4 hb4 S0
  clear S0 hb4
  have S4a : (w4.alloc (.cells #[.int .i64 0, .int .u64 0] 24)).cell? ⟨w.heap.size, 0, none⟩ = some (.int .i64 n) ∧ (w4.alloc (.cells #[.int .i64 0, .int .u64 0] 24)).cell? ⟨w.heap.size, 1, none⟩ = some (.int .u64 a) ∧ (w4.alloc (.cells #[.int .i64 0, .int .u64 0] 24)).cell? ⟨w.heap.size + 1, 0, none⟩ = some (.int .i64 m) ∧ (w4.alloc (.cells #[.int .i64 0, .int .u64 0] 24)).cell? ⟨w.heap.size + 1, 1, none⟩ = some (.int .u64 b) ∧ (w4.alloc (.cells #[.int .i64 0, .int .u64 0] 24)).cell? ⟨w4.heap.size, 0, none⟩ = some (.int .i64 0) ∧ (w4.alloc (.cells #[.int .i64 0, .int .u64 0] 24)).cell? ⟨w4.heap.size, 1, none⟩ = some (.int .u64 0) ∧ Below w.heap.size w (w4.alloc (.cells #[.int .i64 0, .int .u64 0] 24)) := ⟨in_alloc _ S4.1, in_alloc _ S4.2.1, in_alloc _ S4.2.2.1, in_alloc _ S4.2.2.2.1, new0 _ _ _ _, new1 _ _ _ _, S4.2.2.2.2.alloc S4.2.2.2.2.size _⟩
  clear S4
  go_wp2_with fail
  have K4 : (w4.alloc (.cells #[.int .i64 0, .int .u64 0] 24)).cell? ⟨w.heap.size, 0, none⟩ = some (.int .i64 n) ∧ (w4.alloc (.cells #[.int .i64 0, .int .u64 0] 24)).cell? ⟨w.heap.size, 1, none⟩ = some (.int .u64 a) ∧ (w4.alloc (.cells #[.int .i64 0, .int .u64 0] 24)).cell? ⟨w.heap.size + 1, 0, none⟩ = some (.int .i64 m) ∧ (w4.alloc (.cells #[.int .i64 0, .int .u64 0] 24)).cell? ⟨w.heap.size + 1, 1, none⟩ = some (.int .u64 b) ∧ Below w.heap.size w (w4.alloc (.cells #[.int .i64 0, .int .u64 0] 24)) := ⟨S4a.1, S4a.2.1, S4a.2.2.1, S4a.2.2.2.1, S4a.2.2.2.2.2.2⟩
  clear S4a
  refine (partUse CL _).mono ?_
  rintro e w5 ⟨rfl, hb5⟩
  have S5 : w5.cell? ⟨w.heap.size, 0, none⟩ = some (.int .i64 n) ∧ w5.cell? ⟨w.heap.size, 1, none⟩ = some (.int .u64 a) ∧ w5.cell? ⟨w.heap.size + 1, 0, none⟩ = some (.int .i64 m) ∧ w5.cell? ⟨w.heap.size + 1, 1, none⟩ = some (.int .u64 b) ∧ Below w.heap.size w w5 := later4 hb5 K4
  clear K4 hb5
  have S5a : (w5.alloc (.cells #[.int .i64 (1 + t), .int .u64 lo] 24)).cell? ⟨w.heap.size, 0, none⟩ = some (.int .i64 n) ∧ (w5.alloc (.cells #[.int .i64 (1 + t), .int .u64 lo] 24)).cell? ⟨w.heap.size, 1, none⟩ = some (.int .u64 a) ∧ (w5.alloc (.cells #[.int .i64 (1 + t), .int .u64 lo] 24)).cell? ⟨w.heap.size + 1, 0, none⟩ = some (.int .i64 m) ∧ (w5.alloc (.cells #[.int .i64 (1 + t), .int .u64 lo] 24)).cell? ⟨w.heap.size + 1, 1, none⟩ = some (.int .u64 b) ∧ (w5.alloc (.cells #[.int .i64 (1 + t), .int .u64 lo] 24)).cell? ⟨w5.heap.size, 0, none⟩ = some (.int .i64 (1 + t)) ∧ (w5.alloc (.cells #[.int .i64 (1 + t), .int .u64 lo] 24)).cell? ⟨w5.heap.size, 1, none⟩ = some (.int .u64 lo) ∧ Below w.heap.size w (w5.alloc (.cells #[.int .i64 (1 + t), .int .u64 lo] 24)) := ⟨in_alloc _ S5.1, in_alloc _ S5.2.1, in_alloc _ S5.2.2.1, in_alloc _ S5.2.2.2.1, new0 _ _ _ _, new1 _ _ _ _, S5.2.2.2.2.alloc S5.2.2.2.2.size _⟩
  clear S5
  go_wp2_with fail
  refine (partUse CH _).mono ?_
  rintro e w6 ⟨rfl, hb6⟩
  have S6 : w6.cell? ⟨w.heap.size, 0, none⟩ = some (.int .i64 n) ∧ w6.cell? ⟨w.heap.size, 1, none⟩ = some (.int .u64 a) ∧ w6.cell? ⟨w.heap.size + 1, 0, none⟩ = some (.int .i64 m) ∧ w6.cell? ⟨w.heap.size + 1, 1, none⟩ = some (.int .u64 b) ∧ w6.cell? ⟨w5.heap.size, 0, none⟩ = some (.int .i64 (1 + t)) ∧ w6.cell? ⟨w5.heap.size, 1, none⟩ = some (.int .u64 lo) ∧ Below w.heap.size w w6 := later6 hb6 S5a
  clear S5a hb6
  have S6a : (w6.alloc (.cells #[.int .i64 (n - (1 + t)), .int .u64 hi] 24)).cell? ⟨w.heap.size, 0, none⟩ = some (.int .i64 n) ∧ (w6.alloc (.cells #[.int .i64 (n - (1 + t)), .int .u64 hi] 24)).cell? ⟨w.heap.size, 1, none⟩ = some (.int .u64 a) ∧ (w6.alloc (.cells #[.int .i64 (n - (1 + t)), .int .u64 hi] 24)).cell? ⟨w.heap.size + 1, 0, none⟩ = some (.int .i64 m) ∧ (w6.alloc (.cells #[.int .i64 (n - (1 + t)), .int .u64 hi] 24)).cell? ⟨w.heap.size + 1, 1, none⟩ = some (.int .u64 b) ∧ (w6.alloc (.cells #[.int .i64 (n - (1 + t)), .int .u64 hi] 24)).cell? ⟨w5.heap.size, 0, none⟩ = some (.int .i64 (1 + t)) ∧ (w6.alloc (.cells #[.int .i64 (n - (1 + t)), .int .u64 hi] 24)).cell? ⟨w5.heap.size, 1, none⟩ = some (.int .u64 lo) ∧ (w6.alloc (.cells #[.int .i64 (n - (1 + t)), .int .u64 hi] 24)).cell? ⟨w6.heap.size, 0, none⟩ = some (.int .i64 (n - (1 + t))) ∧ (w6.alloc (.cells #[.int .i64 (n - (1 + t)), .int .u64 hi] 24)).cell? ⟨w6.heap.size, 1, none⟩ = some (.int .u64 hi) ∧ Below w.heap.size w (w6.alloc (.cells #[.int .i64 (n - (1 + t)), .int .u64 hi] 24)) := ⟨in_alloc _ S6.1, in_alloc _ S6.2.1, in_alloc _ S6.2.2.1, in_alloc _ S6.2.2.2.1, in_alloc _ S6.2.2.2.2.1, in_alloc _ S6.2.2.2.2.2.1, new0 _ _ _ _, new1 _ _ _ _, S6.2.2.2.2.2.2.alloc S6.2.2.2.2.2.2.size _⟩
  clear S6
  go_wp2_with fail
  refine (joinUse CA _).mono ?_
  rintro e w7 ⟨rfl, hb7⟩
  have S7 : w7.cell? ⟨w.heap.size, 0, none⟩ = some (.int .i64 n) ∧ w7.cell? ⟨w.heap.size, 1, none⟩ = some (.int .u64 a) ∧ w7.cell? ⟨w.heap.size + 1, 0, none⟩ = some (.int .i64 m) ∧ w7.cell? ⟨w.heap.size + 1, 1, none⟩ = some (.int .u64 b) ∧ w7.cell? ⟨w5.heap.size, 0, none⟩ = some (.int .i64 (1 + t)) ∧ w7.cell? ⟨w5.heap.size, 1, none⟩ = some (.int .u64 lo) ∧ w7.cell? ⟨w6.heap.size, 0, none⟩ = some (.int .i64 (n - (1 + t))) ∧ w7.cell? ⟨w6.heap.size, 1, none⟩ = some (.int .u64 hi) ∧ Below w.heap.size w w7 := later8 hb7 S6a
  clear S6a hb7
  have S7a : (w7.alloc (.cells #[.int .i64 n, .int .u64 a] 24)).cell? ⟨w.heap.size, 0, none⟩ = some (.int .i64 n) ∧ (w7.alloc (.cells #[.int .i64 n, .int .u64 a] 24)).cell? ⟨w.heap.size, 1, none⟩ = some (.int .u64 a) ∧ (w7.alloc (.cells #[.int .i64 n, .int .u64 a] 24)).cell? ⟨w.heap.size + 1, 0, none⟩ = some (.int .i64 m) ∧ (w7.alloc (.cells #[.int .i64 n, .int .u64 a] 24)).cell? ⟨w.heap.size + 1, 1, none⟩ = some (.int .u64 b) ∧ (w7.alloc (.cells #[.int .i64 n, .int .u64 a] 24)).cell? ⟨w5.heap.size, 0, none⟩ = some (.int .i64 (1 + t)) ∧ (w7.alloc (.cells #[.int .i64 n, .int .u64 a] 24)).cell? ⟨w5.heap.size, 1, none⟩ = some (.int .u64 lo) ∧ (w7.alloc (.cells #[.int .i64 n, .int .u64 a] 24)).cell? ⟨w6.heap.size, 0, none⟩ = some (.int .i64 (n - (1 + t))) ∧ (w7.alloc (.cells #[.int .i64 n, .int .u64 a] 24)).cell? ⟨w6.heap.size, 1, none⟩ = some (.int .u64 hi) ∧ (w7.alloc (.cells #[.int .i64 n, .int .u64 a] 24)).cell? ⟨w7.heap.size, 0, none⟩ = some (.int .i64 n) ∧ (w7.alloc (.cells #[.int .i64 n, .int .u64 a] 24)).cell? ⟨w7.heap.size, 1, none⟩ = some (.int .u64 a) ∧ Below w.heap.size w (w7.alloc (.cells #[.int .i64 n, .int .u64 a] 24)) := ⟨in_alloc _ S7.1, in_alloc _ S7.2.1, in_alloc _ S7.2.2.1, in_alloc _ S7.2.2.2.1, in_alloc _ S7.2.2.2.2.1, in_alloc _ S7.2.2.2.2.2.1, in_alloc _ S7.2.2.2.2.2.2.1, in_alloc _ S7.2.2.2.2.2.2.2.1, new0 _ _ _ _, new1 _ _ _ _, S7.2.2.2.2.2.2.2.2.alloc S7.2.2.2.2.2.2.2.2.size _⟩
  clear S7
  go_wp2_with fail
  have K7 : (w7.alloc (.cells #[.int .i64 n, .int .u64 a] 24)).cell? ⟨w.heap.size, 0, none⟩ = some (.int .i64 n) ∧ (w7.alloc (.cells #[.int .i64 n, .int .u64 a] 24)).cell? ⟨w.heap.size, 1, none⟩ = some (.int .u64 a) ∧ (w7.alloc (.cells #[.int .i64 n, .int .u64 a] 24)).cell? ⟨w.heap.size + 1, 0, none⟩ = some (.int .i64 m) ∧ (w7.alloc (.cells #[.int .i64 n, .int .u64 a] 24)).cell? ⟨w.heap.size + 1, 1, none⟩ = some (.int .u64 b) ∧ Below w.heap.size w (w7.alloc (.cells #[.int .i64 n, .int .u64 a] 24)) := ⟨S7a.1, S7a.2.1, S7a.2.2.1, S7a.2.2.2.1, S7a.2.2.2.2.2.2.2.2.2.2⟩
  clear S7a
  go_quiet (fail)
  have Q0 : ((w7.alloc (.cells #[.int .i64 n, .int .u64 a] 24)).drewN nq).cell? ⟨w.heap.size, 0, none⟩ = some (.int .i64 n) ∧ ((w7.alloc (.cells #[.int .i64 n, .int .u64 a] 24)).drewN nq).cell? ⟨w.heap.size, 1, none⟩ = some (.int .u64 a) ∧ ((w7.alloc (.cells #[.int .i64 n, .int .u64 a] 24)).drewN nq).cell? ⟨w.heap.size + 1, 0, none⟩ = some (.int .i64 m) ∧ ((w7.alloc (.cells #[.int .i64 n, .int .u64 a] 24)).drewN nq).cell? ⟨w.heap.size + 1, 1, none⟩ = some (.int .u64 b) ∧ Below w.heap.size w ((w7.alloc (.cells #[.int .i64 n, .int .u64 a] 24)).drewN nq) := ⟨K7.1, K7.2.1, K7.2.2.1, K7.2.2.2.1, below_drewN K7.2.2.2.2 _⟩
  clear K7
  generalize (w7.alloc (.cells #[.int .i64 n, .int .u64 a] 24)).drewN nq = V at *
  go_wp2_with fail
  refine (zextUse CZ _).mono ?_
  rintro e w20 ⟨rfl, hb20⟩
  have S20 : w20.cell? ⟨w.heap.size, 0, none⟩ = some (.int .i64 n) ∧ w20.cell? ⟨w.heap.size, 1, none⟩ = some (.int .u64 a) ∧ w20.cell? ⟨w.heap.size + 1, 0, none⟩ = some (.int .i64 m) ∧ w20.cell? ⟨w.heap.size + 1, 1, none⟩ = some (.int .u64 b) ∧ Below w.heap.size w w20 := later4 hb20 Q0
  clear Q0 hb20
  have S20a : (w20.alloc (.cells #[.int .i64 (n + r), .int .u64 zv] 24)).cell? ⟨w.heap.size, 0, none⟩ = some (.int .i64 n) ∧ (w20.alloc (.cells #[.int .i64 (n + r), .int .u64 zv] 24)).cell? ⟨w.heap.size, 1, none⟩ = some (.int .u64 a) ∧ (w20.alloc (.cells #[.int .i64 (n + r), .int .u64 zv] 24)).cell? ⟨w.heap.size + 1, 0, none⟩ = some (.int .i64 m) ∧ (w20.alloc (.cells #[.int .i64 (n + r), .int .u64 zv] 24)).cell? ⟨w.heap.size + 1, 1, none⟩ = some (.int .u64 b) ∧ (w20.alloc (.cells #[.int .i64 (n + r), .int .u64 zv] 24)).cell? ⟨w20.heap.size, 0, none⟩ = some (.int .i64 (n + r)) ∧ (w20.alloc (.cells #[.int .i64 (n + r), .int .u64 zv] 24)).cell? ⟨w20.heap.size, 1, none⟩ = some (.int .u64 zv) ∧ Below w.heap.size w (w20.alloc (.cells #[.int .i64 (n + r), .int .u64 zv] 24)) := ⟨in_alloc _ S20.1, in_alloc _ S20.2.1, in_alloc _ S20.2.2.1, in_alloc _ S20.2.2.2.1, new0 _ _ _ _, new1 _ _ _ _, S20.2.2.2.2.alloc S20.2.2.2.2.size _⟩
  clear S20
  go_wp2_with fail
  refine (sextUse CS _).mono ?_
  rintro e w21 ⟨rfl, hb21⟩
  have S21 : w21.cell? ⟨w.heap.size, 0, none⟩ = some (.int .i64 n) ∧ w21.cell? ⟨w.heap.size, 1, none⟩ = some (.int .u64 a) ∧ w21.cell? ⟨w.heap.size + 1, 0, none⟩ = some (.int .i64 m) ∧ w21.cell? ⟨w.heap.size + 1, 1, none⟩ = some (.int .u64 b) ∧ w21.cell? ⟨w20.heap.size, 0, none⟩ = some (.int .i64 (n + r)) ∧ w21.cell? ⟨w20.heap.size, 1, none⟩ = some (.int .u64 zv) ∧ Below w.heap.size w w21 := later6 hb21 S20a
  clear S20a hb21
  have S21a : (w21.alloc (.cells #[.int .i64 (n + r), .int .u64 sv] 24)).cell? ⟨w.heap.size, 0, none⟩ = some (.int .i64 n) ∧ (w21.alloc (.cells #[.int .i64 (n + r), .int .u64 sv] 24)).cell? ⟨w.heap.size, 1, none⟩ = some (.int .u64 a) ∧ (w21.alloc (.cells #[.int .i64 (n + r), .int .u64 sv] 24)).cell? ⟨w.heap.size + 1, 0, none⟩ = some (.int .i64 m) ∧ (w21.alloc (.cells #[.int .i64 (n + r), .int .u64 sv] 24)).cell? ⟨w.heap.size + 1, 1, none⟩ = some (.int .u64 b) ∧ (w21.alloc (.cells #[.int .i64 (n + r), .int .u64 sv] 24)).cell? ⟨w20.heap.size, 0, none⟩ = some (.int .i64 (n + r)) ∧ (w21.alloc (.cells #[.int .i64 (n + r), .int .u64 sv] 24)).cell? ⟨w20.heap.size, 1, none⟩ = some (.int .u64 zv) ∧ (w21.alloc (.cells #[.int .i64 (n + r), .int .u64 sv] 24)).cell? ⟨w21.heap.size, 0, none⟩ = some (.int .i64 (n + r)) ∧ (w21.alloc (.cells #[.int .i64 (n + r), .int .u64 sv] 24)).cell? ⟨w21.heap.size, 1, none⟩ = some (.int .u64 sv) ∧ Below w.heap.size w (w21.alloc (.cells #[.int .i64 (n + r), .int .u64 sv] 24)) := ⟨in_alloc _ S21.1, in_alloc _ S21.2.1, in_alloc _ S21.2.2.1, in_alloc _ S21.2.2.2.1, in_alloc _ S21.2.2.2.2.1, in_alloc _ S21.2.2.2.2.2.1, new0 _ _ _ _, new1 _ _ _ _, S21.2.2.2.2.2.2.alloc S21.2.2.2.2.2.2.size _⟩
  clear S21
  go_wp2_with fail
  have HK : Hid (0 ≤ n + r ∧ n + r ≤ 64) := ⟨by omega, by omega⟩
  go_loopw [179] (fun i wr => PartsRel w w20 w21 n a (n + r) zv sv i wr) (fun i _ => (n + r - intOf i).toNat)
  case atStart => exact ⟨0, by omega, by omega, rfl, S21a.1, S21a.2.1, S21a.2.2.2.2.1, S21a.2.2.2.2.2.1, S21a.2.2.2.2.2.2.1, S21a.2.2.2.2.2.2.2.1, S21a.2.2.2.2.2.2.2.2⟩
  case round =>
    rename_i wr
    obtain ⟨k, k0, k1, rfl, D0, D1, D2, D3, D4, D5, D6⟩ := hrel
    have U0 : wr.cell? ⟨w.heap.size, 0, none⟩ = some (.int .i64 n) ∧ wr.cell? ⟨w.heap.size, 1, none⟩ = some (.int .u64 a) ∧ wr.cell? ⟨w20.heap.size, 0, none⟩ = some (.int .i64 (n + r)) ∧ wr.cell? ⟨w20.heap.size, 1, none⟩ = some (.int .u64 zv) ∧ wr.cell? ⟨w21.heap.size, 0, none⟩ = some (.int .i64 (n + r)) ∧ wr.cell? ⟨w21.heap.size, 1, none⟩ = some (.int .u64 sv) ∧ Below w.heap.size w wr := ⟨D0, D1, D2, D3, D4, D5, D6⟩
    clear D0 D1 D2 D3 D4 D5 D6
    by_cases hlt : k < n + r
    · have HP := HB.out k k0 hlt
      by_cases kn : k < n
      · rw [if_pos kn, if_pos kn] at HP
        obtain ⟨P1, P2⟩ := HP
        have kz : ¬ n ≤ k := by omega
        go_wp2_with fail
        refine (partUse P1 _).mono ?_
        rintro e w30 ⟨rfl, hb30⟩
        have S30 : w30.cell? ⟨w.heap.size, 0, none⟩ = some (.int .i64 n) ∧ w30.cell? ⟨w.heap.size, 1, none⟩ = some (.int .u64 a) ∧ w30.cell? ⟨w20.heap.size, 0, none⟩ = some (.int .i64 (n + r)) ∧ w30.cell? ⟨w20.heap.size, 1, none⟩ = some (.int .u64 zv) ∧ w30.cell? ⟨w21.heap.size, 0, none⟩ = some (.int .i64 (n + r)) ∧ w30.cell? ⟨w21.heap.size, 1, none⟩ = some (.int .u64 sv) ∧ Below w.heap.size w w30 := later6 hb30 U0
        clear U0 hb30
        have S30a : (w30.alloc (.cells #[.int .i64 1, .int .u64 (bitV a k)] 24)).cell? ⟨w.heap.size, 0, none⟩ = some (.int .i64 n) ∧ (w30.alloc (.cells #[.int .i64 1, .int .u64 (bitV a k)] 24)).cell? ⟨w.heap.size, 1, none⟩ = some (.int .u64 a) ∧ (w30.alloc (.cells #[.int .i64 1, .int .u64 (bitV a k)] 24)).cell? ⟨w20.heap.size, 0, none⟩ = some (.int .i64 (n + r)) ∧ (w30.alloc (.cells #[.int .i64 1, .int .u64 (bitV a k)] 24)).cell? ⟨w20.heap.size, 1, none⟩ = some (.int .u64 zv) ∧ (w30.alloc (.cells #[.int .i64 1, .int .u64 (bitV a k)] 24)).cell? ⟨w21.heap.size, 0, none⟩ = some (.int .i64 (n + r)) ∧ (w30.alloc (.cells #[.int .i64 1, .int .u64 (bitV a k)] 24)).cell? ⟨w21.heap.size, 1, none⟩ = some (.int .u64 sv) ∧ (w30.alloc (.cells #[.int .i64 1, .int .u64 (bitV a k)] 24)).cell? ⟨w30.heap.size, 0, none⟩ = some (.int .i64 1) ∧ (w30.alloc (.cells #[.int .i64 1, .int .u64 (bitV a k)] 24)).cell? ⟨w30.heap.size, 1, none⟩ = some (.int .u64 (bitV a k)) ∧ Below w.heap.size w (w30.alloc (.cells #[.int .i64 1, .int .u64 (bitV a k)] 24)) := ⟨in_alloc _ S30.1, in_alloc _ S30.2.1, in_alloc _ S30.2.2.1, in_alloc _ S30.2.2.2.1, in_alloc _ S30.2.2.2.2.1, in_alloc _ S30.2.2.2.2.2.1, new0 _ _ _ _, new1 _ _ _ _, S30.2.2.2.2.2.2.alloc S30.2.2.2.2.2.2.size _⟩
        clear S30
        go_wp2_with fail
        refine (partUse P2 _).mono ?_
        rintro e w31 ⟨rfl, hb31⟩
        have S31 : w31.cell? ⟨w.heap.size, 0, none⟩ = some (.int .i64 n) ∧ w31.cell? ⟨w.heap.size, 1, none⟩ = some (.int .u64 a) ∧ w31.cell? ⟨w20.heap.size, 0, none⟩ = some (.int .i64 (n + r)) ∧ w31.cell? ⟨w20.heap.size, 1, none⟩ = some (.int .u64 zv) ∧ w31.cell? ⟨w21.heap.size, 0, none⟩ = some (.int .i64 (n + r)) ∧ w31.cell? ⟨w21.heap.size, 1, none⟩ = some (.int .u64 sv) ∧ w31.cell? ⟨w30.heap.size, 0, none⟩ = some (.int .i64 1) ∧ w31.cell? ⟨w30.heap.size, 1, none⟩ = some (.int .u64 (bitV a k)) ∧ Below w.heap.size w w31 := later8 hb31 S30a
        clear S30a hb31
        have S31a : (w31.alloc (.cells #[.int .i64 1, .int .u64 (bitV a k)] 24)).cell? ⟨w.heap.size, 0, none⟩ = some (.int .i64 n) ∧ (w31.alloc (.cells #[.int .i64 1, .int .u64 (bitV a k)] 24)).cell? ⟨w.heap.size, 1, none⟩ = some (.int .u64 a) ∧ (w31.alloc (.cells #[.int .i64 1, .int .u64 (bitV a k)] 24)).cell? ⟨w20.heap.size, 0, none⟩ = some (.int .i64 (n + r)) ∧ (w31.alloc (.cells #[.int .i64 1, .int .u64 (bitV a k)] 24)).cell? ⟨w20.heap.size, 1, none⟩ = some (.int .u64 zv) ∧ (w31.alloc (.cells #[.int .i64 1, .int .u64 (bitV a k)] 24)).cell? ⟨w21.heap.size, 0, none⟩ = some (.int .i64 (n + r)) ∧ (w31.alloc (.cells #[.int .i64 1, .int .u64 (bitV a k)] 24)).cell? ⟨w21.heap.size, 1, none⟩ = some (.int .u64 sv) ∧ (w31.alloc (.cells #[.int .i64 1, .int .u64 (bitV a k)] 24)).cell? ⟨w30.heap.size, 0, none⟩ = some (.int .i64 1) ∧ (w31.alloc (.cells #[.int .i64 1, .int .u64 (bitV a k)] 24)).cell? ⟨w30.heap.size, 1, none⟩ = some (.int .u64 (bitV a k)) ∧ (w31.alloc (.cells #[.int .i64 1, .int .u64 (bitV a k)] 24)).cell? ⟨w31.heap.size, 0, none⟩ = some (.int .i64 1) ∧ (w31.alloc (.cells #[.int .i64 1, .int .u64 (bitV a k)] 24)).cell? ⟨w31.heap.size, 1, none⟩ = some (.int .u64 (bitV a k)) ∧ Below w.heap.size w (w31.alloc (.cells #[.int .i64 1, .int .u64 (bitV a k)] 24)) := ⟨in_alloc _ S31.1, in_alloc _ S31.2.1, in_alloc _ S31.2.2.1, in_alloc _ S31.2.2.2.1, in_alloc _ S31.2.2.2.2.1, in_alloc _ S31.2.2.2.2.2.1, in_alloc _ S31.2.2.2.2.2.2.1, in_alloc _ S31.2.2.2.2.2.2.2.1, new0 _ _ _ _, new1 _ _ _ _, S31.2.2.2.2.2.2.2.2.alloc S31.2.2.2.2.2.2.2.2.size _⟩
        clear S31
        go_wp2_with fail
        refine (bit_any a k _ HA.out.2 k0 (by have := HK.out.2; omega)).mono ?_
        rintro e w40 ⟨rfl, rfl⟩
        go_wp2_with fail
        refine (bit_any a k _ HA.out.2 k0 (by have := HK.out.2; omega)).mono ?_
        rintro e w41 ⟨rfl, rfl⟩
        go_wp2
        go_roundw
        case rel => exact ⟨k + 1, by omega, by omega, by go_num, S31a.1, S31a.2.1, S31a.2.2.1, S31a.2.2.2.1, S31a.2.2.2.2.1, S31a.2.2.2.2.2.1, S31a.2.2.2.2.2.2.2.2.2.2⟩
        case measure => simp [intOf]; omega
      · rw [if_neg kn, if_neg kn] at HP
        obtain ⟨P1, P2⟩ := HP
        have kz : n ≤ k := by omega
        go_wp2_with fail
        refine (partUse P1 _).mono ?_
        rintro e w30 ⟨rfl, hb30⟩
        have S30 : w30.cell? ⟨w.heap.size, 0, none⟩ = some (.int .i64 n) ∧ w30.cell? ⟨w.heap.size, 1, none⟩ = some (.int .u64 a) ∧ w30.cell? ⟨w20.heap.size, 0, none⟩ = some (.int .i64 (n + r)) ∧ w30.cell? ⟨w20.heap.size, 1, none⟩ = some (.int .u64 zv) ∧ w30.cell? ⟨w21.heap.size, 0, none⟩ = some (.int .i64 (n + r)) ∧ w30.cell? ⟨w21.heap.size, 1, none⟩ = some (.int .u64 sv) ∧ Below w.heap.size w w30 := later6 hb30 U0
        clear U0 hb30
        have S30a : (w30.alloc (.cells #[.int .i64 1, .int .u64 0] 24)).cell? ⟨w.heap.size, 0, none⟩ = some (.int .i64 n) ∧ (w30.alloc (.cells #[.int .i64 1, .int .u64 0] 24)).cell? ⟨w.heap.size, 1, none⟩ = some (.int .u64 a) ∧ (w30.alloc (.cells #[.int .i64 1, .int .u64 0] 24)).cell? ⟨w20.heap.size, 0, none⟩ = some (.int .i64 (n + r)) ∧ (w30.alloc (.cells #[.int .i64 1, .int .u64 0] 24)).cell? ⟨w20.heap.size, 1, none⟩ = some (.int .u64 zv) ∧ (w30.alloc (.cells #[.int .i64 1, .int .u64 0] 24)).cell? ⟨w21.heap.size, 0, none⟩ = some (.int .i64 (n + r)) ∧ (w30.alloc (.cells #[.int .i64 1, .int .u64 0] 24)).cell? ⟨w21.heap.size, 1, none⟩ = some (.int .u64 sv) ∧ (w30.alloc (.cells #[.int .i64 1, .int .u64 0] 24)).cell? ⟨w30.heap.size, 0, none⟩ = some (.int .i64 1) ∧ (w30.alloc (.cells #[.int .i64 1, .int .u64 0] 24)).cell? ⟨w30.heap.size, 1, none⟩ = some (.int .u64 0) ∧ Below w.heap.size w (w30.alloc (.cells #[.int .i64 1, .int .u64 0] 24)) := ⟨in_alloc _ S30.1, in_alloc _ S30.2.1, in_alloc _ S30.2.2.1, in_alloc _ S30.2.2.2.1, in_alloc _ S30.2.2.2.2.1, in_alloc _ S30.2.2.2.2.2.1, new0 _ _ _ _, new1 _ _ _ _, S30.2.2.2.2.2.2.alloc S30.2.2.2.2.2.2.size _⟩
        clear S30
        go_wp2_with fail
        refine (partUse P2 _).mono ?_
        rintro e w31 ⟨rfl, hb31⟩
        have S31 : w31.cell? ⟨w.heap.size, 0, none⟩ = some (.int .i64 n) ∧ w31.cell? ⟨w.heap.size, 1, none⟩ = some (.int .u64 a) ∧ w31.cell? ⟨w20.heap.size, 0, none⟩ = some (.int .i64 (n + r)) ∧ w31.cell? ⟨w20.heap.size, 1, none⟩ = some (.int .u64 zv) ∧ w31.cell? ⟨w21.heap.size, 0, none⟩ = some (.int .i64 (n + r)) ∧ w31.cell? ⟨w21.heap.size, 1, none⟩ = some (.int .u64 sv) ∧ w31.cell? ⟨w30.heap.size, 0, none⟩ = some (.int .i64 1) ∧ w31.cell? ⟨w30.heap.size, 1, none⟩ = some (.int .u64 0) ∧ Below w.heap.size w w31 := later8 hb31 S30a
        clear S30a hb31
        have S31a : (w31.alloc (.cells #[.int .i64 1, .int .u64 (bitV a (n - 1))] 24)).cell? ⟨w.heap.size, 0, none⟩ = some (.int .i64 n) ∧ (w31.alloc (.cells #[.int .i64 1, .int .u64 (bitV a (n - 1))] 24)).cell? ⟨w.heap.size, 1, none⟩ = some (.int .u64 a) ∧ (w31.alloc (.cells #[.int .i64 1, .int .u64 (bitV a (n - 1))] 24)).cell? ⟨w20.heap.size, 0, none⟩ = some (.int .i64 (n + r)) ∧ (w31.alloc (.cells #[.int .i64 1, .int .u64 (bitV a (n - 1))] 24)).cell? ⟨w20.heap.size, 1, none⟩ = some (.int .u64 zv) ∧ (w31.alloc (.cells #[.int .i64 1, .int .u64 (bitV a (n - 1))] 24)).cell? ⟨w21.heap.size, 0, none⟩ = some (.int .i64 (n + r)) ∧ (w31.alloc (.cells #[.int .i64 1, .int .u64 (bitV a (n - 1))] 24)).cell? ⟨w21.heap.size, 1, none⟩ = some (.int .u64 sv) ∧ (w31.alloc (.cells #[.int .i64 1, .int .u64 (bitV a (n - 1))] 24)).cell? ⟨w30.heap.size, 0, none⟩ = some (.int .i64 1) ∧ (w31.alloc (.cells #[.int .i64 1, .int .u64 (bitV a (n - 1))] 24)).cell? ⟨w30.heap.size, 1, none⟩ = some (.int .u64 0) ∧ (w31.alloc (.cells #[.int .i64 1, .int .u64 (bitV a (n - 1))] 24)).cell? ⟨w31.heap.size, 0, none⟩ = some (.int .i64 1) ∧ (w31.alloc (.cells #[.int .i64 1, .int .u64 (bitV a (n - 1))] 24)).cell? ⟨w31.heap.size, 1, none⟩ = some (.int .u64 (bitV a (n - 1))) ∧ Below w.heap.size w (w31.alloc (.cells #[.int .i64 1, .int .u64 (bitV a (n - 1))] 24)) := ⟨in_alloc _ S31.1, in_alloc _ S31.2.1, in_alloc _ S31.2.2.1, in_alloc _ S31.2.2.2.1, in_alloc _ S31.2.2.2.2.1, in_alloc _ S31.2.2.2.2.2.1, in_alloc _ S31.2.2.2.2.2.2.1, in_alloc _ S31.2.2.2.2.2.2.2.1, new0 _ _ _ _, new1 _ _ _ _, S31.2.2.2.2.2.2.2.2.alloc S31.2.2.2.2.2.2.2.2.size _⟩
        clear S31
        go_wp2_with fail
        refine (bit_any a k _ HA.out.2 k0 (by have := HK.out.2; omega)).mono ?_
        rintro e w40 ⟨rfl, rfl⟩
        go_wp2_with fail
        refine (bit_any a (n - 1) _ HA.out.2 (by omega) (by omega)).mono ?_
        rintro e w41 ⟨rfl, rfl⟩
        go_wp2
        go_roundw
        case rel => exact ⟨k + 1, by omega, by omega, by go_num, S31a.1, S31a.2.1, S31a.2.2.1, S31a.2.2.2.1, S31a.2.2.2.2.1, S31a.2.2.2.2.2.1, S31a.2.2.2.2.2.2.2.2.2.2⟩
        case measure => simp [intOf]; omega
    · go_wp2
      go_ret
      exact ⟨rfl, U0.2.2.2.2.2.2⟩

set_option maxRecDepth 100000 in
set_option maxHeartbeats 4000000 in
theorem parts_wo (n a m b c d r zv sv : Int) (w : World) (a0 : 0 ≤ a) (b0 : 0 ≤ b) (ha : vB n a = true) (hb : vB m b = true)
    (hn : n ≤ 64) (h1 : 1 ≤ n) (m1 : 1 ≤ m) (m2 : m ≤ 64) (hj : decide (n + m ≤ 64) = false) (CJ : Hid (JoinC n a m b 0 0 13)) (hk : ¬ 1 < n) (hdw : wrap64 d = d) (hdt : d.tmod (64 - n + 1) = r) (hr0 : 0 ≤ r) (hr1 : r < 64 - n + 1) (CZ : Hid (ZextC n a (n + r) zv)) (CS : Hid (SextC n a (n + r) sv)) (HB : Hid (∀ i : Int, 0 ≤ i → i < n + r → Hid (PartC (n + r) zv i 1 (if i < n then bitV a i else 0)) ∧ Hid (PartC (n + r) sv i 1 (if i < n then bitV a i else bitV a (n - 1))))) :
    Calls Try.prog 9 #[.agg #[.int .i64 n, .int .u64 a], .agg #[.int .i64 m, .int .u64 b], .int .u8 c, .int .u8 d] w fun e w' => e = .returned (.bool true) ∧ Below w.heap.size w w' := by
  have HA := Lib.hid (And.intro ha a0)
  have HBV := Lib.hid (And.intro hb b0)
  clear ha a0 hb b0
  go_enter Try.func9, Try.ntmps9
  go_wp2_with fail
  refine (head_any _).mono ?_
  rintro e w1 ⟨rfl, hb1⟩
  obtain ⟨hc1, hf1⟩ := bcell hb1
  have hz1 : w.heap.size < w1.heap.size ∧ w.heap.size + 1 < w1.heap.size := by have hs := hb1.size; simp at hs; omega
  go_wp2_with fail
  refine (ref_valid_yes n a _ HA.out.1 HA.out.2).mono ?_
  rintro e w2 ⟨rfl, hb2⟩
  obtain ⟨hc2, hf2⟩ := bcell hb2
  have hz2 : w.heap.size < w2.heap.size ∧ w.heap.size + 1 < w2.heap.size := by have hs := hb2.size; omega
  go_wp2_with fail
  refine (ref_valid_yes m b _ HBV.out.1 HBV.out.2).mono ?_
  rintro e w3 ⟨rfl, hb3⟩
  obtain ⟨hc3, hf3⟩ := bcell hb3
  have hz3 : w.heap.size < w3.heap.size ∧ w.heap.size + 1 < w3.heap.size := by have hs := hb3.size; omega
  go_wp2_with fail
  have S0 : w3.cell? ⟨w.heap.size, 0, none⟩ = some (.int .i64 n) ∧ w3.cell? ⟨w.heap.size, 1, none⟩ = some (.int .u64 a) ∧ w3.cell? ⟨w.heap.size + 1, 0, none⟩ = some (.int .i64 m) ∧ w3.cell? ⟨w.heap.size + 1, 1, none⟩ = some (.int .u64 b) ∧ Below w.heap.size w w3 := by
    refine ⟨?_, ?_, ?_, ?_, ((below2 hb1).trans ((hb2.mono (by omega)).trans (hb3.mono (by omega))))⟩ <;> simp [hc1, hc2, hc3, hz1, hz2, go_sem]
  clear hc1 hf1 hz1 hb1 hc2 hf2 hz2 hb2 hc3 hf3 hz3 hb3
  refine (joinUse CJ _).mono ?_
  rintro e w4 ⟨rfl, hb4⟩
  have S4 : w4.cell? ⟨w.heap.size, 0, none⟩ = some (.int .i64 n) ∧ w4.cell? ⟨w.heap.size, 1, none⟩ = some (.int .u64 a) ∧ w4.cell? ⟨w.heap.size + 1, 0, none⟩ = some (.int .i64 m) ∧ w4.cell? ⟨w.heap.size + 1, 1, none⟩ = some (.int .u64 b) ∧ Below w.heap.size w w4 := later4 hb4 S0
  clear S0 hb4
  have S4a : (w4.alloc (.cells #[.int .i64 0, .int .u64 0] 24)).cell? ⟨w.heap.size, 0, none⟩ = some (.int .i64 n) ∧ (w4.alloc (.cells #[.int .i64 0, .int .u64 0] 24)).cell? ⟨w.heap.size, 1, none⟩ = some (.int .u64 a) ∧ (w4.alloc (.cells #[.int .i64 0, .int .u64 0] 24)).cell? ⟨w.heap.size + 1, 0, none⟩ = some (.int .i64 m) ∧ (w4.alloc (.cells #[.int .i64 0, .int .u64 0] 24)).cell? ⟨w.heap.size + 1, 1, none⟩ = some (.int .u64 b) ∧ (w4.alloc (.cells #[.int .i64 0, .int .u64 0] 24)).cell? ⟨w4.heap.size, 0, none⟩ = some (.int .i64 0) ∧ (w4.alloc (.cells #[.int .i64 0, .int .u64 0] 24)).cell? ⟨w4.heap.size, 1, none⟩ = some (.int .u64 0) ∧ Below w.heap.size w (w4.alloc (.cells #[.int .i64 0, .int .u64 0] 24)) := ⟨in_alloc _ S4.1, in_alloc _ S4.2.1, in_alloc _ S4.2.2.1, in_alloc _ S4.2.2.2.1, new0 _ _ _ _, new1 _ _ _ _, S4.2.2.2.2.alloc S4.2.2.2.2.size _⟩
  clear S4
  go_wp2_with fail
  have K4 : (w4.alloc (.cells #[.int .i64 0, .int .u64 0] 24)).cell? ⟨w.heap.size, 0, none⟩ = some (.int .i64 n) ∧ (w4.alloc (.cells #[.int .i64 0, .int .u64 0] 24)).cell? ⟨w.heap.size, 1, none⟩ = some (.int .u64 a) ∧ (w4.alloc (.cells #[.int .i64 0, .int .u64 0] 24)).cell? ⟨w.heap.size + 1, 0, none⟩ = some (.int .i64 m) ∧ (w4.alloc (.cells #[.int .i64 0, .int .u64 0] 24)).cell? ⟨w.heap.size + 1, 1, none⟩ = some (.int .u64 b) ∧ Below w.heap.size w (w4.alloc (.cells #[.int .i64 0, .int .u64 0] 24)) := ⟨S4a.1, S4a.2.1, S4a.2.2.1, S4a.2.2.2.1, S4a.2.2.2.2.2.2⟩
  clear S4a
  go_quiet (fail)
  have Q0 : ((w4.alloc (.cells #[.int .i64 0, .int .u64 0] 24)).drewN nq).cell? ⟨w.heap.size, 0, none⟩ = some (.int .i64 n) ∧ ((w4.alloc (.cells #[.int .i64 0, .int .u64 0] 24)).drewN nq).cell? ⟨w.heap.size, 1, none⟩ = some (.int .u64 a) ∧ ((w4.alloc (.cells #[.int .i64 0, .int .u64 0] 24)).drewN nq).cell? ⟨w.heap.size + 1, 0, none⟩ = some (.int .i64 m) ∧ ((w4.alloc (.cells #[.int .i64 0, .int .u64 0] 24)).drewN nq).cell? ⟨w.heap.size + 1, 1, none⟩ = some (.int .u64 b) ∧ Below w.heap.size w ((w4.alloc (.cells #[.int .i64 0, .int .u64 0] 24)).drewN nq) := ⟨K4.1, K4.2.1, K4.2.2.1, K4.2.2.2.1, below_drewN K4.2.2.2.2 _⟩
  clear K4
  generalize (w4.alloc (.cells #[.int .i64 0, .int .u64 0] 24)).drewN nq = V at *
  go_wp2_with fail
  refine (zextUse CZ _).mono ?_
  rintro e w20 ⟨rfl, hb20⟩
  have S20 : w20.cell? ⟨w.heap.size, 0, none⟩ = some (.int .i64 n) ∧ w20.cell? ⟨w.heap.size, 1, none⟩ = some (.int .u64 a) ∧ w20.cell? ⟨w.heap.size + 1, 0, none⟩ = some (.int .i64 m) ∧ w20.cell? ⟨w.heap.size + 1, 1, none⟩ = some (.int .u64 b) ∧ Below w.heap.size w w20 := later4 hb20 Q0
  clear Q0 hb20
  have S20a : (w20.alloc (.cells #[.int .i64 (n + r), .int .u64 zv] 24)).cell? ⟨w.heap.size, 0, none⟩ = some (.int .i64 n) ∧ (w20.alloc (.cells #[.int .i64 (n + r), .int .u64 zv] 24)).cell? ⟨w.heap.size, 1, none⟩ = some (.int .u64 a) ∧ (w20.alloc (.cells #[.int .i64 (n + r), .int .u64 zv] 24)).cell? ⟨w.heap.size + 1, 0, none⟩ = some (.int .i64 m) ∧ (w20.alloc (.cells #[.int .i64 (n + r), .int .u64 zv] 24)).cell? ⟨w.heap.size + 1, 1, none⟩ = some (.int .u64 b) ∧ (w20.alloc (.cells #[.int .i64 (n + r), .int .u64 zv] 24)).cell? ⟨w20.heap.size, 0, none⟩ = some (.int .i64 (n + r)) ∧ (w20.alloc (.cells #[.int .i64 (n + r), .int .u64 zv] 24)).cell? ⟨w20.heap.size, 1, none⟩ = some (.int .u64 zv) ∧ Below w.heap.size w (w20.alloc (.cells #[.int .i64 (n + r), .int .u64 zv] 24)) := ⟨in_alloc _ S20.1, in_alloc _ S20.2.1, in_alloc _ S20.2.2.1, in_alloc _ S20.2.2.2.1, new0 _ _ _ _, new1 _ _ _ _, S20.2.2.2.2.alloc S20.2.2.2.2.size _⟩
  clear S20
  go_wp2_with fail
  refine (sextUse CS _).mono ?_
  rintro e w21 ⟨rfl, hb21⟩
  have S21 : w21.cell? ⟨w.heap.size, 0, none⟩ = some (.int .i64 n) ∧ w21.cell? ⟨w.heap.size, 1, none⟩ = some (.int .u64 a) ∧ w21.cell? ⟨w.heap.size + 1, 0, none⟩ = some (.int .i64 m) ∧ w21.cell? ⟨w.heap.size + 1, 1, none⟩ = some (.int .u64 b) ∧ w21.cell? ⟨w20.heap.size, 0, none⟩ = some (.int .i64 (n + r)) ∧ w21.cell? ⟨w20.heap.size, 1, none⟩ = some (.int .u64 zv) ∧ Below w.heap.size w w21 := later6 hb21 S20a
  clear S20a hb21
  have S21a : (w21.alloc (.cells #[.int .i64 (n + r), .int .u64 sv] 24)).cell? ⟨w.heap.size, 0, none⟩ = some (.int .i64 n) ∧ (w21.alloc (.cells #[.int .i64 (n + r), .int .u64 sv] 24)).cell? ⟨w.heap.size, 1, none⟩ = some (.int .u64 a) ∧ (w21.alloc (.cells #[.int .i64 (n + r), .int .u64 sv] 24)).cell? ⟨w.heap.size + 1, 0, none⟩ = some (.int .i64 m) ∧ (w21.alloc (.cells #[.int .i64 (n + r), .int .u64 sv] 24)).cell? ⟨w.heap.size + 1, 1, none⟩ = some (.int .u64 b) ∧ (w21.alloc (.cells #[.int .i64 (n + r), .int .u64 sv] 24)).cell? ⟨w20.heap.size, 0, none⟩ = some (.int .i64 (n + r)) ∧ (w21.alloc (.cells #[.int .i64 (n + r), .int .u64 sv] 24)).cell? ⟨w20.heap.size, 1, none⟩ = some (.int .u64 zv) ∧ (w21.alloc (.cells #[.int .i64 (n + r), .int .u64 sv] 24)).cell? ⟨w21.heap.size, 0, none⟩ = some (.int .i64 (n + r)) ∧ (w21.alloc (.cells #[.int .i64 (n + r), .int .u64 sv] 24)).cell? ⟨w21.heap.size, 1, none⟩ = some (.int .u64 sv) ∧ Below w.heap.size w (w21.alloc (.cells #[.int .i64 (n + r), .int .u64 sv] 24)) := ⟨in_alloc _ S21.1, in_alloc _ S21.2.1, in_alloc _ S21.2.2.1, in_alloc _ S21.2.2.2.1, in_alloc _ S21.2.2.2.2.1, in_alloc _ S21.2.2.2.2.2.1, new0 _ _ _ _, new1 _ _ _ _, S21.2.2.2.2.2.2.alloc S21.2.2.2.2.2.2.size _⟩
  clear S21
  go_wp2_with fail
  have HK : Hid (0 ≤ n + r ∧ n + r ≤ 64) := ⟨by omega, by omega⟩
  go_loopw [179] (fun i wr => PartsRel w w20 w21 n a (n + r) zv sv i wr) (fun i _ => (n + r - intOf i).toNat)
  case atStart => exact ⟨0, by omega, by omega, rfl, S21a.1, S21a.2.1, S21a.2.2.2.2.1, S21a.2.2.2.2.2.1, S21a.2.2.2.2.2.2.1, S21a.2.2.2.2.2.2.2.1, S21a.2.2.2.2.2.2.2.2⟩
  case round =>
    rename_i wr
    obtain ⟨k, k0, k1, rfl, D0, D1, D2, D3, D4, D5, D6⟩ := hrel
    have U0 : wr.cell? ⟨w.heap.size, 0, none⟩ = some (.int .i64 n) ∧ wr.cell? ⟨w.heap.size, 1, none⟩ = some (.int .u64 a) ∧ wr.cell? ⟨w20.heap.size, 0, none⟩ = some (.int .i64 (n + r)) ∧ wr.cell? ⟨w20.heap.size, 1, none⟩ = some (.int .u64 zv) ∧ wr.cell? ⟨w21.heap.size, 0, none⟩ = some (.int .i64 (n + r)) ∧ wr.cell? ⟨w21.heap.size, 1, none⟩ = some (.int .u64 sv) ∧ Below w.heap.size w wr := ⟨D0, D1, D2, D3, D4, D5, D6⟩
    clear D0 D1 D2 D3 D4 D5 D6
    by_cases hlt : k < n + r
    · have HP := HB.out k k0 hlt
      by_cases kn : k < n
      · rw [if_pos kn, if_pos kn] at HP
        obtain ⟨P1, P2⟩ := HP
        have kz : ¬ n ≤ k := by omega
        go_wp2_with fail
        refine (partUse P1 _).mono ?_
        rintro e w30 ⟨rfl, hb30⟩
        have S30 : w30.cell? ⟨w.heap.size, 0, none⟩ = some (.int .i64 n) ∧ w30.cell? ⟨w.heap.size, 1, none⟩ = some (.int .u64 a) ∧ w30.cell? ⟨w20.heap.size, 0, none⟩ = some (.int .i64 (n + r)) ∧ w30.cell? ⟨w20.heap.size, 1, none⟩ = some (.int .u64 zv) ∧ w30.cell? ⟨w21.heap.size, 0, none⟩ = some (.int .i64 (n + r)) ∧ w30.cell? ⟨w21.heap.size, 1, none⟩ = some (.int .u64 sv) ∧ Below w.heap.size w w30 := later6 hb30 U0
        clear U0 hb30
        have S30a : (w30.alloc (.cells #[.int .i64 1, .int .u64 (bitV a k)] 24)).cell? ⟨w.heap.size, 0, none⟩ = some (.int .i64 n) ∧ (w30.alloc (.cells #[.int .i64 1, .int .u64 (bitV a k)] 24)).cell? ⟨w.heap.size, 1, none⟩ = some (.int .u64 a) ∧ (w30.alloc (.cells #[.int .i64 1, .int .u64 (bitV a k)] 24)).cell? ⟨w20.heap.size, 0, none⟩ = some (.int .i64 (n + r)) ∧ (w30.alloc (.cells #[.int .i64 1, .int .u64 (bitV a k)] 24)).cell? ⟨w20.heap.size, 1, none⟩ = some (.int .u64 zv) ∧ (w30.alloc (.cells #[.int .i64 1, .int .u64 (bitV a k)] 24)).cell? ⟨w21.heap.size, 0, none⟩ = some (.int .i64 (n + r)) ∧ (w30.alloc (.cells #[.int .i64 1, .int .u64 (bitV a k)] 24)).cell? ⟨w21.heap.size, 1, none⟩ = some (.int .u64 sv) ∧ (w30.alloc (.cells #[.int .i64 1, .int .u64 (bitV a k)] 24)).cell? ⟨w30.heap.size, 0, none⟩ = some (.int .i64 1) ∧ (w30.alloc (.cells #[.int .i64 1, .int .u64 (bitV a k)] 24)).cell? ⟨w30.heap.size, 1, none⟩ = some (.int .u64 (bitV a k)) ∧ Below w.heap.size w (w30.alloc (.cells #[.int .i64 1, .int .u64 (bitV a k)] 24)) := ⟨in_alloc _ S30.1, in_alloc _ S30.2.1, in_alloc _ S30.2.2.1, in_alloc _ S30.2.2.2.1, in_alloc _ S30.2.2.2.2.1, in_alloc _ S30.2.2.2.2.2.1, new0 _ _ _ _, new1 _ _ _ _, S30.2.2.2.2.2.2.alloc S30.2.2.2.2.2.2.size _⟩
        clear S30
        go_wp2_with fail
        refine (partUse P2 _).mono ?_
        rintro e w31 ⟨rfl, hb31⟩
        have S31 : w31.cell? ⟨w.heap.size, 0, none⟩ = some (.int .i64 n) ∧ w31.cell? ⟨w.heap.size, 1, none⟩ = some (.int .u64 a) ∧ w31.cell? ⟨w20.heap.size, 0, none⟩ = some (.int .i64 (n + r)) ∧ w31.cell? ⟨w20.heap.size, 1, none⟩ = some (.int .u64 zv) ∧ w31.cell? ⟨w21.heap.size, 0, none⟩ = some (.int .i64 (n + r)) ∧ w31.cell? ⟨w21.heap.size, 1, none⟩ = some (.int .u64 sv) ∧ w31.cell? ⟨w30.heap.size, 0, none⟩ = some (.int .i64 1) ∧ w31.cell? ⟨w30.heap.size, 1, none⟩ = some (.int .u64 (bitV a k)) ∧ Below w.heap.size w w31 := later8 hb31 S30a
        clear S30a hb31
        have S31a : (w31.alloc (.cells #[.int .i64 1, .int .u64 (bitV a k)] 24)).cell? ⟨w.heap.size, 0, none⟩ = some (.int .i64 n) ∧ (w31.alloc (.cells #[.int .i64 1, .int .u64 (bitV a k)] 24)).cell? ⟨w.heap.size, 1, none⟩ = some (.int .u64 a) ∧ (w31.alloc (.cells #[.int .i64 1, .int .u64 (bitV a k)] 24)).cell? ⟨w20.heap.size, 0, none⟩ = some (.int .i64 (n + r)) ∧ (w31.alloc (.cells #[.int .i64 1, .int .u64 (bitV a k)] 24)).cell? ⟨w20.heap.size, 1, none⟩ = some (.int .u64 zv) ∧ (w31.alloc (.cells #[.int .i64 1, .int .u64 (bitV a k)] 24)).cell? ⟨w21.heap.size, 0, none⟩ = some (.int .i64 (n + r)) ∧ (w31.alloc (.cells #[.int .i64 1, .int .u64 (bitV a k)] 24)).cell? ⟨w21.heap.size, 1, none⟩ = some (.int .u64 sv) ∧ (w31.alloc (.cells #[.int .i64 1, .int .u64 (bitV a k)] 24)).cell? ⟨w30.heap.size, 0, none⟩ = some (.int .i64 1) ∧ (w31.alloc (.cells #[.int .i64 1, .int .u64 (bitV a k)] 24)).cell? ⟨w30.heap.size, 1, none⟩ = some (.int .u64 (bitV a k)) ∧ (w31.alloc (.cells #[.int .i64 1, .int .u64 (bitV a k)] 24)).cell? ⟨w31.heap.size, 0, none⟩ = some (.int .i64 1) ∧ (w31.alloc (.cells #[.int .i64 1, .int .u64 (bitV a k)] 24)).cell? ⟨w31.heap.size, 1, none⟩ = some (.int .u64 (bitV a k)) ∧ Below w.heap.size w (w31.alloc (.cells #[.int .i64 1, .int .u64 (bitV a k)] 24)) := ⟨in_alloc _ S31.1, in_alloc _ S31.2.1, in_alloc _ S31.2.2.1, in_alloc _ S31.2.2.2.1, in_alloc _ S31.2.2.2.2.1, in_alloc _ S31.2.2.2.2.2.1, in_alloc _ S31.2.2.2.2.2.2.1, in_alloc _ S31.2.2.2.2.2.2.2.1, new0 _ _ _ _, new1 _ _ _ _, S31.2.2.2.2.2.2.2.2.alloc S31.2.2.2.2.2.2.2.2.size _⟩
        clear S31
        go_wp2_with fail
        refine (bit_any a k _ HA.out.2 k0 (by have := HK.out.2; omega)).mono ?_
        rintro e w40 ⟨rfl, rfl⟩
        go_wp2_with fail
        refine (bit_any a k _ HA.out.2 k0 (by have := HK.out.2; omega)).mono ?_
        rintro e w41 ⟨rfl, rfl⟩
        go_wp2
        go_roundw
        case rel => exact ⟨k + 1, by omega, by omega, by go_num, S31a.1, S31a.2.1, S31a.2.2.1, S31a.2.2.2.1, S31a.2.2.2.2.1, S31a.2.2.2.2.2.1, S31a.2.2.2.2.2.2.2.2.2.2⟩
        case measure => simp [intOf]; omega
      · rw [if_neg kn, if_neg kn] at HP
        obtain ⟨P1, P2⟩ := HP
        have kz : n ≤ k := by omega
        go_wp2_with fail
        refine (partUse P1 _).mono ?_
        rintro e w30 ⟨rfl, hb30⟩
        have S30 : w30.cell? ⟨w.heap.size, 0, none⟩ = some (.int .i64 n) ∧ w30.cell? ⟨w.heap.size, 1, none⟩ = some (.int .u64 a) ∧ w30.cell? ⟨w20.heap.size, 0, none⟩ = some (.int .i64 (n + r)) ∧ w30.cell? ⟨w20.heap.size, 1, none⟩ = some (.int .u64 zv) ∧ w30.cell? ⟨w21.heap.size, 0, none⟩ = some (.int .i64 (n + r)) ∧ w30.cell? ⟨w21.heap.size, 1, none⟩ = some (.int .u64 sv) ∧ Below w.heap.size w w30 := later6 hb30 U0
        clear U0 hb30
        have S30a : (w30.alloc (.cells #[.int .i64 1, .int .u64 0] 24)).cell? ⟨w.heap.size, 0, none⟩ = some (.int .i64 n) ∧ (w30.alloc (.cells #[.int .i64 1, .int .u64 0] 24)).cell? ⟨w.heap.size, 1, none⟩ = some (.int .u64 a) ∧ (w30.alloc (.cells #[.int .i64 1, .int .u64 0] 24)).cell? ⟨w20.heap.size, 0, none⟩ = some (.int .i64 (n + r)) ∧ (w30.alloc (.cells #[.int .i64 1, .int .u64 0] 24)).cell? ⟨w20.heap.size, 1, none⟩ = some (.int .u64 zv) ∧ (w30.alloc (.cells #[.int .i64 1, .int .u64 0] 24)).cell? ⟨w21.heap.size, 0, none⟩ = some (.int .i64 (n + r)) ∧ (w30.alloc (.cells #[.int .i64 1, .int .u64 0] 24)).cell? ⟨w21.heap.size, 1, none⟩ = some (.int .u64 sv) ∧ (w30.alloc (.cells #[.int .i64 1, .int .u64 0] 24)).cell? ⟨w30.heap.size, 0, none⟩ = some (.int .i64 1) ∧ (w30.alloc (.cells #[.int .i64 1, .int .u64 0] 24)).cell? ⟨w30.heap.size, 1, none⟩ = some (.int .u64 0) ∧ Below w.heap.size w (w30.alloc (.cells #[.int .i64 1, .int .u64 0] 24)) := ⟨in_alloc _ S30.1, in_alloc _ S30.2.1, in_alloc _ S30.2.2.1, in_alloc _ S30.2.2.2.1, in_alloc _ S30.2.2.2.2.1, in_alloc _ S30.2.2.2.2.2.1, new0 _ _ _ _, new1 _ _ _ _, S30.2.2.2.2.2.2.alloc S30.2.2.2.2.2.2.size _⟩
        clear S30
        go_wp2_with fail
        refine (partUse P2 _).mono ?_
        rintro e w31 ⟨rfl, hb31⟩
        have S31 : w31.cell? ⟨w.heap.size, 0, none⟩ = some (.int .i64 n) ∧ w31.cell? ⟨w.heap.size, 1, none⟩ = some (.int .u64 a) ∧ w31.cell? ⟨w20.heap.size, 0, none⟩ = some (.int .i64 (n + r)) ∧ w31.cell? ⟨w20.heap.size, 1, none⟩ = some (.int .u64 zv) ∧ w31.cell? ⟨w21.heap.size, 0, none⟩ = some (.int .i64 (n + r)) ∧ w31.cell? ⟨w21.heap.size, 1, none⟩ = some (.int .u64 sv) ∧ w31.cell? ⟨w30.heap.size, 0, none⟩ = some (.int .i64 1) ∧ w31.cell? ⟨w30.heap.size, 1, none⟩ = some (.int .u64 0) ∧ Below w.heap.size w w31 := later8 hb31 S30a
        clear S30a hb31
        have S31a : (w31.alloc (.cells #[.int .i64 1, .int .u64 (bitV a (n - 1))] 24)).cell? ⟨w.heap.size, 0, none⟩ = some (.int .i64 n) ∧ (w31.alloc (.cells #[.int .i64 1, .int .u64 (bitV a (n - 1))] 24)).cell? ⟨w.heap.size, 1, none⟩ = some (.int .u64 a) ∧ (w31.alloc (.cells #[.int .i64 1, .int .u64 (bitV a (n - 1))] 24)).cell? ⟨w20.heap.size, 0, none⟩ = some (.int .i64 (n + r)) ∧ (w31.alloc (.cells #[.int .i64 1, .int .u64 (bitV a (n - 1))] 24)).cell? ⟨w20.heap.size, 1, none⟩ = some (.int .u64 zv) ∧ (w31.alloc (.cells #[.int .i64 1, .int .u64 (bitV a (n - 1))] 24)).cell? ⟨w21.heap.size, 0, none⟩ = some (.int .i64 (n + r)) ∧ (w31.alloc (.cells #[.int .i64 1, .int .u64 (bitV a (n - 1))] 24)).cell? ⟨w21.heap.size, 1, none⟩ = some (.int .u64 sv) ∧ (w31.alloc (.cells #[.int .i64 1, .int .u64 (bitV a (n - 1))] 24)).cell? ⟨w30.heap.size, 0, none⟩ = some (.int .i64 1) ∧ (w31.alloc (.cells #[.int .i64 1, .int .u64 (bitV a (n - 1))] 24)).cell? ⟨w30.heap.size, 1, none⟩ = some (.int .u64 0) ∧ (w31.alloc (.cells #[.int .i64 1, .int .u64 (bitV a (n - 1))] 24)).cell? ⟨w31.heap.size, 0, none⟩ = some (.int .i64 1) ∧ (w31.alloc (.cells #[.int .i64 1, .int .u64 (bitV a (n - 1))] 24)).cell? ⟨w31.heap.size, 1, none⟩ = some (.int .u64 (bitV a (n - 1))) ∧ Below w.heap.size w (w31.alloc (.cells #[.int .i64 1, .int .u64 (bitV a (n - 1))] 24)) := ⟨in_alloc _ S31.1, in_alloc _ S31.2.1, in_alloc _ S31.2.2.1, in_alloc _ S31.2.2.2.1, in_alloc _ S31.2.2.2.2.1, in_alloc _ S31.2.2.2.2.2.1, in_alloc _ S31.2.2.2.2.2.2.1, in_alloc _ S31.2.2.2.2.2.2.2.1, new0 _ _ _ _, new1 _ _ _ _, S31.2.2.2.2.2.2.2.2.alloc S31.2.2.2.2.2.2.2.2.size _⟩
        clear S31
        go_wp2_with fail
        refine (bit_any a k _ HA.out.2 k0 (by have := HK.out.2; omega)).mono ?_
        rintro e w40 ⟨rfl, rfl⟩
        go_wp2_with fail
        refine (bit_any a (n - 1) _ HA.out.2 (by omega) (by omega)).mono ?_
        rintro e w41 ⟨rfl, rfl⟩
        go_wp2
        go_roundw
        case rel => exact ⟨k + 1, by omega, by omega, by go_num, S31a.1, S31a.2.1, S31a.2.2.1, S31a.2.2.2.1, S31a.2.2.2.2.1, S31a.2.2.2.2.2.1, S31a.2.2.2.2.2.2.2.2.2.2⟩
        case measure => simp [intOf]; omega
    · go_wp2
      go_ret
      exact ⟨rfl, U0.2.2.2.2.2.2⟩

end Go.Proofs.Ytdnbpfhkbaojnaa
