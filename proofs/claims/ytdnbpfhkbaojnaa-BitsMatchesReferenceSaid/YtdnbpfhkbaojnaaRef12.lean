/- BitsMatchesReference: the walk. -/
import Derived.Test.YtdnbpfhkbaojnaaRef11
import Derived.Test.YtdnbpfhkbaojnaaLater
import Derived.Test.YtdnbpfhkbaojnaaTwo
namespace Go.Proofs.Ytdnbpfhkbaojnaa
open Go.RowKit

theorem keepF {w W w1 : World} {n a m b x y x2 y2 : Int} {p q : Nat} (hb : Below W.heap.size W w1) (h : W.cell? ⟨w.heap.size, 0, none⟩ = some (.int .i64 n) ∧ W.cell? ⟨w.heap.size, 1, none⟩ = some (.int .u64 a) ∧ W.cell? ⟨w.heap.size + 1, 0, none⟩ = some (.int .i64 m) ∧ W.cell? ⟨w.heap.size + 1, 1, none⟩ = some (.int .u64 b) ∧ W.cell? ⟨p, 0, none⟩ = some (.int .i64 x) ∧ W.cell? ⟨p, 1, none⟩ = some (.int .u64 y) ∧ W.cell? ⟨q, 0, none⟩ = some (.int .i64 x2) ∧ W.cell? ⟨q, 1, none⟩ = some (.int .u64 y2) ∧ W.frozen? ⟨p, 0, none⟩ = false ∧ W.frozen? ⟨p, 1, none⟩ = false ∧ W.frozen? ⟨q, 0, none⟩ = false ∧ W.frozen? ⟨q, 1, none⟩ = false ∧ Below w.heap.size w W) :
    w1.cell? ⟨w.heap.size, 0, none⟩ = some (.int .i64 n) ∧ w1.cell? ⟨w.heap.size, 1, none⟩ = some (.int .u64 a) ∧ w1.cell? ⟨w.heap.size + 1, 0, none⟩ = some (.int .i64 m) ∧ w1.cell? ⟨w.heap.size + 1, 1, none⟩ = some (.int .u64 b) ∧ w1.cell? ⟨p, 0, none⟩ = some (.int .i64 x) ∧ w1.cell? ⟨p, 1, none⟩ = some (.int .u64 y) ∧ w1.cell? ⟨q, 0, none⟩ = some (.int .i64 x2) ∧ w1.cell? ⟨q, 1, none⟩ = some (.int .u64 y2) ∧ w1.frozen? ⟨p, 0, none⟩ = false ∧ w1.frozen? ⟨p, 1, none⟩ = false ∧ w1.frozen? ⟨q, 0, none⟩ = false ∧ w1.frozen? ⟨q, 1, none⟩ = false ∧ Below w.heap.size w w1 :=
  ⟨cell_later hb h.1, cell_later hb h.2.1, cell_later hb h.2.2.1, cell_later hb h.2.2.2.1, cell_later hb h.2.2.2.2.1, cell_later hb h.2.2.2.2.2.1, cell_later hb h.2.2.2.2.2.2.1, cell_later hb h.2.2.2.2.2.2.2.1, frozen_later hb h.2.2.2.2.1 h.2.2.2.2.2.2.2.2.1, frozen_later hb h.2.2.2.2.2.1 h.2.2.2.2.2.2.2.2.2.1, frozen_later hb h.2.2.2.2.2.2.1 h.2.2.2.2.2.2.2.2.2.2.1, frozen_later hb h.2.2.2.2.2.2.2.1 h.2.2.2.2.2.2.2.2.2.2.2.1, h.2.2.2.2.2.2.2.2.2.2.2.2.trans (hb.mono h.2.2.2.2.2.2.2.2.2.2.2.2.size)⟩
theorem drewF {w W : World} {n a m b x y x2 y2 : Int} {p q : Nat} (h : W.cell? ⟨w.heap.size, 0, none⟩ = some (.int .i64 n) ∧ W.cell? ⟨w.heap.size, 1, none⟩ = some (.int .u64 a) ∧ W.cell? ⟨w.heap.size + 1, 0, none⟩ = some (.int .i64 m) ∧ W.cell? ⟨w.heap.size + 1, 1, none⟩ = some (.int .u64 b) ∧ W.cell? ⟨p, 0, none⟩ = some (.int .i64 x) ∧ W.cell? ⟨p, 1, none⟩ = some (.int .u64 y) ∧ W.cell? ⟨q, 0, none⟩ = some (.int .i64 x2) ∧ W.cell? ⟨q, 1, none⟩ = some (.int .u64 y2) ∧ W.frozen? ⟨p, 0, none⟩ = false ∧ W.frozen? ⟨p, 1, none⟩ = false ∧ W.frozen? ⟨q, 0, none⟩ = false ∧ W.frozen? ⟨q, 1, none⟩ = false ∧ Below w.heap.size w W) :
    W.drew.cell? ⟨w.heap.size, 0, none⟩ = some (.int .i64 n) ∧ W.drew.cell? ⟨w.heap.size, 1, none⟩ = some (.int .u64 a) ∧ W.drew.cell? ⟨w.heap.size + 1, 0, none⟩ = some (.int .i64 m) ∧ W.drew.cell? ⟨w.heap.size + 1, 1, none⟩ = some (.int .u64 b) ∧ W.drew.cell? ⟨p, 0, none⟩ = some (.int .i64 x) ∧ W.drew.cell? ⟨p, 1, none⟩ = some (.int .u64 y) ∧ W.drew.cell? ⟨q, 0, none⟩ = some (.int .i64 x2) ∧ W.drew.cell? ⟨q, 1, none⟩ = some (.int .u64 y2) ∧ W.drew.frozen? ⟨p, 0, none⟩ = false ∧ W.drew.frozen? ⟨p, 1, none⟩ = false ∧ W.drew.frozen? ⟨q, 0, none⟩ = false ∧ W.drew.frozen? ⟨q, 1, none⟩ = false ∧ Below w.heap.size w W.drew :=
  ⟨h.1, h.2.1, h.2.2.1, h.2.2.2.1, h.2.2.2.2.1, h.2.2.2.2.2.1, h.2.2.2.2.2.2.1, h.2.2.2.2.2.2.2.1, h.2.2.2.2.2.2.2.2.1, h.2.2.2.2.2.2.2.2.2.1, h.2.2.2.2.2.2.2.2.2.2.1, h.2.2.2.2.2.2.2.2.2.2.2.1, h.2.2.2.2.2.2.2.2.2.2.2.2.drew⟩
theorem storeP {w W : World} {n a m b x y x2 y2 : Int} {p q : Nat} (u v : Int) (hp : w.heap.size + 1 < p) (hq : p < q) (h : W.cell? ⟨w.heap.size, 0, none⟩ = some (.int .i64 n) ∧ W.cell? ⟨w.heap.size, 1, none⟩ = some (.int .u64 a) ∧ W.cell? ⟨w.heap.size + 1, 0, none⟩ = some (.int .i64 m) ∧ W.cell? ⟨w.heap.size + 1, 1, none⟩ = some (.int .u64 b) ∧ W.cell? ⟨p, 0, none⟩ = some (.int .i64 x) ∧ W.cell? ⟨p, 1, none⟩ = some (.int .u64 y) ∧ W.cell? ⟨q, 0, none⟩ = some (.int .i64 x2) ∧ W.cell? ⟨q, 1, none⟩ = some (.int .u64 y2) ∧ W.frozen? ⟨p, 0, none⟩ = false ∧ W.frozen? ⟨p, 1, none⟩ = false ∧ W.frozen? ⟨q, 0, none⟩ = false ∧ W.frozen? ⟨q, 1, none⟩ = false ∧ Below w.heap.size w W) :
    ((W.setCell ⟨p, 0, none⟩ (.int .i64 u)).setCell ⟨p, 1, none⟩ (.int .u64 v)).cell? ⟨w.heap.size, 0, none⟩ = some (.int .i64 n) ∧ ((W.setCell ⟨p, 0, none⟩ (.int .i64 u)).setCell ⟨p, 1, none⟩ (.int .u64 v)).cell? ⟨w.heap.size, 1, none⟩ = some (.int .u64 a) ∧ ((W.setCell ⟨p, 0, none⟩ (.int .i64 u)).setCell ⟨p, 1, none⟩ (.int .u64 v)).cell? ⟨w.heap.size + 1, 0, none⟩ = some (.int .i64 m) ∧ ((W.setCell ⟨p, 0, none⟩ (.int .i64 u)).setCell ⟨p, 1, none⟩ (.int .u64 v)).cell? ⟨w.heap.size + 1, 1, none⟩ = some (.int .u64 b) ∧ ((W.setCell ⟨p, 0, none⟩ (.int .i64 u)).setCell ⟨p, 1, none⟩ (.int .u64 v)).cell? ⟨p, 0, none⟩ = some (.int .i64 u) ∧ ((W.setCell ⟨p, 0, none⟩ (.int .i64 u)).setCell ⟨p, 1, none⟩ (.int .u64 v)).cell? ⟨p, 1, none⟩ = some (.int .u64 v) ∧ ((W.setCell ⟨p, 0, none⟩ (.int .i64 u)).setCell ⟨p, 1, none⟩ (.int .u64 v)).cell? ⟨q, 0, none⟩ = some (.int .i64 x2) ∧ ((W.setCell ⟨p, 0, none⟩ (.int .i64 u)).setCell ⟨p, 1, none⟩ (.int .u64 v)).cell? ⟨q, 1, none⟩ = some (.int .u64 y2) ∧ ((W.setCell ⟨p, 0, none⟩ (.int .i64 u)).setCell ⟨p, 1, none⟩ (.int .u64 v)).frozen? ⟨p, 0, none⟩ = false ∧ ((W.setCell ⟨p, 0, none⟩ (.int .i64 u)).setCell ⟨p, 1, none⟩ (.int .u64 v)).frozen? ⟨p, 1, none⟩ = false ∧ ((W.setCell ⟨p, 0, none⟩ (.int .i64 u)).setCell ⟨p, 1, none⟩ (.int .u64 v)).frozen? ⟨q, 0, none⟩ = false ∧ ((W.setCell ⟨p, 0, none⟩ (.int .i64 u)).setCell ⟨p, 1, none⟩ (.int .u64 v)).frozen? ⟨q, 1, none⟩ = false ∧ Below w.heap.size w ((W.setCell ⟨p, 0, none⟩ (.int .i64 u)).setCell ⟨p, 1, none⟩ (.int .u64 v)) := by
  obtain ⟨h1, h2, h3, h4, h5, h6, h7, h8, h9, h10, h11, h12, h13⟩ := h
  have d1 : p ≠ q := by omega
  have d2 : q ≠ p := by omega
  have d3 : w.heap.size ≠ p := by omega
  have d4 : w.heap.size + 1 ≠ p := by omega
  have d5 : w.heap.size ≠ q := by omega
  have d6 : w.heap.size + 1 ≠ q := by omega
  refine ⟨?_, ?_, ?_, ?_, ?_, ?_, ?_, ?_, ?_, ?_, ?_, ?_, (h13.setCell (p := ⟨p, 0, none⟩) (by simp <;> omega) _).setCell (p := ⟨p, 1, none⟩) (by simp <;> omega) _⟩ <;> simp [go_sem, *]
theorem storeQ {w W : World} {n a m b x y x2 y2 : Int} {p q : Nat} (u v : Int) (hp : w.heap.size + 1 < p) (hq : p < q) (h : W.cell? ⟨w.heap.size, 0, none⟩ = some (.int .i64 n) ∧ W.cell? ⟨w.heap.size, 1, none⟩ = some (.int .u64 a) ∧ W.cell? ⟨w.heap.size + 1, 0, none⟩ = some (.int .i64 m) ∧ W.cell? ⟨w.heap.size + 1, 1, none⟩ = some (.int .u64 b) ∧ W.cell? ⟨p, 0, none⟩ = some (.int .i64 x) ∧ W.cell? ⟨p, 1, none⟩ = some (.int .u64 y) ∧ W.cell? ⟨q, 0, none⟩ = some (.int .i64 x2) ∧ W.cell? ⟨q, 1, none⟩ = some (.int .u64 y2) ∧ W.frozen? ⟨p, 0, none⟩ = false ∧ W.frozen? ⟨p, 1, none⟩ = false ∧ W.frozen? ⟨q, 0, none⟩ = false ∧ W.frozen? ⟨q, 1, none⟩ = false ∧ Below w.heap.size w W) :
    ((W.setCell ⟨q, 0, none⟩ (.int .i64 u)).setCell ⟨q, 1, none⟩ (.int .u64 v)).cell? ⟨w.heap.size, 0, none⟩ = some (.int .i64 n) ∧ ((W.setCell ⟨q, 0, none⟩ (.int .i64 u)).setCell ⟨q, 1, none⟩ (.int .u64 v)).cell? ⟨w.heap.size, 1, none⟩ = some (.int .u64 a) ∧ ((W.setCell ⟨q, 0, none⟩ (.int .i64 u)).setCell ⟨q, 1, none⟩ (.int .u64 v)).cell? ⟨w.heap.size + 1, 0, none⟩ = some (.int .i64 m) ∧ ((W.setCell ⟨q, 0, none⟩ (.int .i64 u)).setCell ⟨q, 1, none⟩ (.int .u64 v)).cell? ⟨w.heap.size + 1, 1, none⟩ = some (.int .u64 b) ∧ ((W.setCell ⟨q, 0, none⟩ (.int .i64 u)).setCell ⟨q, 1, none⟩ (.int .u64 v)).cell? ⟨p, 0, none⟩ = some (.int .i64 x) ∧ ((W.setCell ⟨q, 0, none⟩ (.int .i64 u)).setCell ⟨q, 1, none⟩ (.int .u64 v)).cell? ⟨p, 1, none⟩ = some (.int .u64 y) ∧ ((W.setCell ⟨q, 0, none⟩ (.int .i64 u)).setCell ⟨q, 1, none⟩ (.int .u64 v)).cell? ⟨q, 0, none⟩ = some (.int .i64 u) ∧ ((W.setCell ⟨q, 0, none⟩ (.int .i64 u)).setCell ⟨q, 1, none⟩ (.int .u64 v)).cell? ⟨q, 1, none⟩ = some (.int .u64 v) ∧ ((W.setCell ⟨q, 0, none⟩ (.int .i64 u)).setCell ⟨q, 1, none⟩ (.int .u64 v)).frozen? ⟨p, 0, none⟩ = false ∧ ((W.setCell ⟨q, 0, none⟩ (.int .i64 u)).setCell ⟨q, 1, none⟩ (.int .u64 v)).frozen? ⟨p, 1, none⟩ = false ∧ ((W.setCell ⟨q, 0, none⟩ (.int .i64 u)).setCell ⟨q, 1, none⟩ (.int .u64 v)).frozen? ⟨q, 0, none⟩ = false ∧ ((W.setCell ⟨q, 0, none⟩ (.int .i64 u)).setCell ⟨q, 1, none⟩ (.int .u64 v)).frozen? ⟨q, 1, none⟩ = false ∧ Below w.heap.size w ((W.setCell ⟨q, 0, none⟩ (.int .i64 u)).setCell ⟨q, 1, none⟩ (.int .u64 v)) := by
  obtain ⟨h1, h2, h3, h4, h5, h6, h7, h8, h9, h10, h11, h12, h13⟩ := h
  have d1 : p ≠ q := by omega
  have d2 : q ≠ p := by omega
  have d3 : w.heap.size ≠ p := by omega
  have d4 : w.heap.size + 1 ≠ p := by omega
  have d5 : w.heap.size ≠ q := by omega
  have d6 : w.heap.size + 1 ≠ q := by omega
  refine ⟨?_, ?_, ?_, ?_, ?_, ?_, ?_, ?_, ?_, ?_, ?_, ?_, (h13.setCell (p := ⟨q, 0, none⟩) (by simp <;> omega) _).setCell (p := ⟨q, 1, none⟩) (by simp <;> omega) _⟩ <;> simp [go_sem, *]
set_option maxRecDepth 100000 in
set_option maxHeartbeats 4000000 in
theorem ref_walk (c : Bool) (op n a m b l k x1 y1 e1 x2 y2 e2 x3 y3 e3 x4 y4 e4 x5 y5 e5 x6 y6 e6 : Int) (w : World)
    (VA : Hid (∀ w : World, Calls Try.prog 13 #[.agg #[.int .i64 n, .int .u64 a]] w fun e w' => e = .returned (.bool c) ∧ Below w.heap.size w w'))
    (VR : Hid (∀ w : World, Calls Try.prog 14 #[.agg #[.int .i64 n, .int .u64 a]] w fun e w' => e = .returned (.bool c) ∧ Below w.heap.size w w'))
    (B1 : Hid (BB op n a m b x1 y1 e1)) (R1 : Hid (RB op n a m b x1 y1 e1))
    (B2 : Hid (BNot n a x2 y2 e2)) (R2 : Hid (RNot n a x2 y2 e2)) (B3 : Hid (BZext n a k x3 y3 e3)) (R3 : Hid (RZext n a k x3 y3 e3))
    (B4 : Hid (BSext n a k x4 y4 e4)) (R4 : Hid (RSext n a k x4 y4 e4)) (B5 : Hid (BPart n a l k x5 y5 e5)) (R5 : Hid (RPart n a l k x5 y5 e5))
    (B6 : Hid (BJoin n a m b x6 y6 e6)) (R6 : Hid (RJoin n a m b x6 y6 e6)) :
    Calls Try.prog 3 #[.int .i64 op, .agg #[.int .i64 n, .int .u64 a], .agg #[.int .i64 m, .int .u64 b], .int .i64 l, .int .i64 k] w fun e w' => e = .returned (.bool true) ∧ Below w.heap.size w w' := by
  go_enter Try.func3, Try.ntmps3
  go_wp2_with fail
  refine (head_any _).mono ?_
  rintro e w1 ⟨rfl, hb1⟩
  obtain ⟨hc1, hf1⟩ := bcell hb1
  have hz1 : w.heap.size < w1.heap.size ∧ w.heap.size + 1 < w1.heap.size := by have hs := hb1.size; simp at hs; omega
  have S1 : w1.cell? ⟨w.heap.size, 0, none⟩ = some (.int .i64 n) ∧ w1.cell? ⟨w.heap.size, 1, none⟩ = some (.int .u64 a) ∧ w1.cell? ⟨w.heap.size + 1, 0, none⟩ = some (.int .i64 m) ∧ w1.cell? ⟨w.heap.size + 1, 1, none⟩ = some (.int .u64 b) ∧ Below w.heap.size w w1 := by
    refine ⟨?_, ?_, ?_, ?_, (below2 hb1)⟩ <;> simp [hc1, go_sem]
  have z1 := hz1.2
  clear hc1 hf1 hz1 hb1
  go_wp2_with fail
  refine (B1.out _).mono ?_
  rintro e w2 ⟨rfl, hb2⟩
  have S2 := later4 hb2 S1
  have z2 : w.heap.size + 1 < w2.heap.size := Nat.lt_of_lt_of_le z1 hb2.size
  clear S1 hb2 z1
  have S2a := more4 (.cells #[.int .i64 x1, .int .u64 y1] 24) S2
  clear S2
  go_wp2_with fail
  refine (R1.out _).mono ?_
  rintro e w3 ⟨rfl, hb3⟩
  have N3 := one_new hb3
  have S3 := later4 hb3 S2a
  have z3 : w2.heap.size < w3.heap.size := N3.2.2.2.2.1
  clear S2a
  have hb4 : Below w3.heap.size w3 (w3.alloc (.cells #[.int .i64 x1, .int .u64 y1] 24)) := (Below.refl _ _).alloc (Nat.le_refl _) _
  have S4 : (w3.alloc (.cells #[.int .i64 x1, .int .u64 y1] 24)).cell? ⟨w.heap.size, 0, none⟩ = some (.int .i64 n) ∧ (w3.alloc (.cells #[.int .i64 x1, .int .u64 y1] 24)).cell? ⟨w.heap.size, 1, none⟩ = some (.int .u64 a) ∧ (w3.alloc (.cells #[.int .i64 x1, .int .u64 y1] 24)).cell? ⟨w.heap.size + 1, 0, none⟩ = some (.int .i64 m) ∧ (w3.alloc (.cells #[.int .i64 x1, .int .u64 y1] 24)).cell? ⟨w.heap.size + 1, 1, none⟩ = some (.int .u64 b) ∧ (w3.alloc (.cells #[.int .i64 x1, .int .u64 y1] 24)).cell? ⟨w2.heap.size, 0, none⟩ = some (.int .i64 x1) ∧ (w3.alloc (.cells #[.int .i64 x1, .int .u64 y1] 24)).cell? ⟨w2.heap.size, 1, none⟩ = some (.int .u64 y1) ∧ (w3.alloc (.cells #[.int .i64 x1, .int .u64 y1] 24)).cell? ⟨w3.heap.size, 0, none⟩ = some (.int .i64 x1) ∧ (w3.alloc (.cells #[.int .i64 x1, .int .u64 y1] 24)).cell? ⟨w3.heap.size, 1, none⟩ = some (.int .u64 y1) ∧ (w3.alloc (.cells #[.int .i64 x1, .int .u64 y1] 24)).frozen? ⟨w2.heap.size, 0, none⟩ = false ∧ (w3.alloc (.cells #[.int .i64 x1, .int .u64 y1] 24)).frozen? ⟨w2.heap.size, 1, none⟩ = false ∧ (w3.alloc (.cells #[.int .i64 x1, .int .u64 y1] 24)).frozen? ⟨w3.heap.size, 0, none⟩ = false ∧ (w3.alloc (.cells #[.int .i64 x1, .int .u64 y1] 24)).frozen? ⟨w3.heap.size, 1, none⟩ = false ∧ Below w.heap.size w (w3.alloc (.cells #[.int .i64 x1, .int .u64 y1] 24)) := ⟨cell_later hb4 S3.1, cell_later hb4 S3.2.1, cell_later hb4 S3.2.2.1, cell_later hb4 S3.2.2.2.1, cell_later hb4 N3.1, cell_later hb4 N3.2.1, new0 _ _ _ _, new1 _ _ _ _, frozen_later hb4 N3.1 N3.2.2.1, frozen_later hb4 N3.2.1 N3.2.2.2.1, by simp [go_sem], by simp [go_sem], S3.2.2.2.2.alloc S3.2.2.2.2.size _⟩
  clear S3 N3 hb3 hb4
  go_wp2_with fail
  have D4 := drewF S4
  clear S4
  cases c
  · go_region_held3 (fun w' => w'.cell? ⟨w.heap.size, 0, none⟩ = some (.int .i64 n) ∧ w'.cell? ⟨w.heap.size, 1, none⟩ = some (.int .u64 a) ∧ w'.cell? ⟨w.heap.size + 1, 0, none⟩ = some (.int .i64 m) ∧ w'.cell? ⟨w.heap.size + 1, 1, none⟩ = some (.int .u64 b) ∧ w'.cell? ⟨w2.heap.size, 0, none⟩ = some (.int .i64 x1) ∧ w'.cell? ⟨w2.heap.size, 1, none⟩ = some (.int .u64 y1) ∧ w'.cell? ⟨w3.heap.size, 0, none⟩ = some (.int .i64 x1) ∧ w'.cell? ⟨w3.heap.size, 1, none⟩ = some (.int .u64 y1) ∧ w'.frozen? ⟨w2.heap.size, 0, none⟩ = false ∧ w'.frozen? ⟨w2.heap.size, 1, none⟩ = false ∧ w'.frozen? ⟨w3.heap.size, 0, none⟩ = false ∧ w'.frozen? ⟨w3.heap.size, 1, none⟩ = false ∧ Below w.heap.size w w') (first | assumption | exact keepF ‹_› ‹_› | exact drewF ‹_›)
      (first
        | (go_at_call 13; ((with_reducible refine (VA.out _).mono ?_); rintro e w9 ⟨rfl, hb9⟩))
        | (go_at_call 14; ((with_reducible refine (VR.out _).mono ?_); rintro e w9 ⟨rfl, hb9⟩)))
    go_wp2_with fail
    refine (B2.out _).mono ?_
    rintro e wb2 ⟨rfl, hb2⟩
    have P2 := keepF hb2 ‹_›
    have Q2 := storeP x2 y2 z2 z3 P2
    clear hb2
    go_wp2_with fail
    refine (R2.out _).mono ?_
    rintro e wr2 ⟨rfl, hc2⟩
    have P2r := keepF hc2 Q2
    have Q2r := storeQ x2 y2 z2 z3 P2r
    clear hc2 P2 Q2
    go_wp2_with fail
    clear P2r
    refine (B3.out _).mono ?_
    rintro e wb3 ⟨rfl, hb3⟩
    have P3 := keepF hb3 Q2r
    have Q3 := storeP x3 y3 z2 z3 P3
    clear hb3
    go_wp2_with fail
    refine (R3.out _).mono ?_
    rintro e wr3 ⟨rfl, hc3⟩
    have P3r := keepF hc3 Q3
    have Q3r := storeQ x3 y3 z2 z3 P3r
    clear hc3 P3 Q3
    go_wp2_with fail
    clear P3r
    refine (B4.out _).mono ?_
    rintro e wb4 ⟨rfl, hb4⟩
    have P4 := keepF hb4 Q3r
    have Q4 := storeP x4 y4 z2 z3 P4
    clear hb4
    go_wp2_with fail
    refine (R4.out _).mono ?_
    rintro e wr4 ⟨rfl, hc4⟩
    have P4r := keepF hc4 Q4
    have Q4r := storeQ x4 y4 z2 z3 P4r
    clear hc4 P4 Q4
    go_wp2_with fail
    clear P4r
    refine (B5.out _).mono ?_
    rintro e wb5 ⟨rfl, hb5⟩
    have P5 := keepF hb5 Q4r
    have Q5 := storeP x5 y5 z2 z3 P5
    clear hb5
    go_wp2_with fail
    refine (R5.out _).mono ?_
    rintro e wr5 ⟨rfl, hc5⟩
    have P5r := keepF hc5 Q5
    have Q5r := storeQ x5 y5 z2 z3 P5r
    clear hc5 P5 Q5
    go_wp2_with fail
    clear P5r
    refine (B6.out _).mono ?_
    rintro e wb6 ⟨rfl, hb6⟩
    have P6 := keepF hb6 Q5r
    have Q6 := storeP x6 y6 z2 z3 P6
    clear hb6
    go_wp2_with fail
    refine (R6.out _).mono ?_
    rintro e wr6 ⟨rfl, hc6⟩
    have P6r := keepF hc6 Q6
    have Q6r := storeQ x6 y6 z2 z3 P6r
    clear hc6 P6 Q6
    go_wp2
    go_ret
    exact ⟨rfl, Q6r.2.2.2.2.2.2.2.2.2.2.2.2⟩
  · go_region_held3 (fun w' => w'.cell? ⟨w.heap.size, 0, none⟩ = some (.int .i64 n) ∧ w'.cell? ⟨w.heap.size, 1, none⟩ = some (.int .u64 a) ∧ w'.cell? ⟨w.heap.size + 1, 0, none⟩ = some (.int .i64 m) ∧ w'.cell? ⟨w.heap.size + 1, 1, none⟩ = some (.int .u64 b) ∧ w'.cell? ⟨w2.heap.size, 0, none⟩ = some (.int .i64 x1) ∧ w'.cell? ⟨w2.heap.size, 1, none⟩ = some (.int .u64 y1) ∧ w'.cell? ⟨w3.heap.size, 0, none⟩ = some (.int .i64 x1) ∧ w'.cell? ⟨w3.heap.size, 1, none⟩ = some (.int .u64 y1) ∧ w'.frozen? ⟨w2.heap.size, 0, none⟩ = false ∧ w'.frozen? ⟨w2.heap.size, 1, none⟩ = false ∧ w'.frozen? ⟨w3.heap.size, 0, none⟩ = false ∧ w'.frozen? ⟨w3.heap.size, 1, none⟩ = false ∧ Below w.heap.size w w') (first | assumption | exact keepF ‹_› ‹_› | exact drewF ‹_›)
      (first
        | (go_at_call 13; ((with_reducible refine (VA.out _).mono ?_); rintro e w9 ⟨rfl, hb9⟩))
        | (go_at_call 14; ((with_reducible refine (VR.out _).mono ?_); rintro e w9 ⟨rfl, hb9⟩)))
    go_wp2_with fail
    refine (B2.out _).mono ?_
    rintro e wb2 ⟨rfl, hb2⟩
    have P2 := keepF hb2 ‹_›
    have Q2 := storeP x2 y2 z2 z3 P2
    clear hb2
    go_wp2_with fail
    refine (R2.out _).mono ?_
    rintro e wr2 ⟨rfl, hc2⟩
    have P2r := keepF hc2 Q2
    have Q2r := storeQ x2 y2 z2 z3 P2r
    clear hc2 P2 Q2
    go_wp2_with fail
    clear P2r
    refine (B3.out _).mono ?_
    rintro e wb3 ⟨rfl, hb3⟩
    have P3 := keepF hb3 Q2r
    have Q3 := storeP x3 y3 z2 z3 P3
    clear hb3
    go_wp2_with fail
    refine (R3.out _).mono ?_
    rintro e wr3 ⟨rfl, hc3⟩
    have P3r := keepF hc3 Q3
    have Q3r := storeQ x3 y3 z2 z3 P3r
    clear hc3 P3 Q3
    go_wp2_with fail
    clear P3r
    refine (B4.out _).mono ?_
    rintro e wb4 ⟨rfl, hb4⟩
    have P4 := keepF hb4 Q3r
    have Q4 := storeP x4 y4 z2 z3 P4
    clear hb4
    go_wp2_with fail
    refine (R4.out _).mono ?_
    rintro e wr4 ⟨rfl, hc4⟩
    have P4r := keepF hc4 Q4
    have Q4r := storeQ x4 y4 z2 z3 P4r
    clear hc4 P4 Q4
    go_wp2_with fail
    clear P4r
    refine (B5.out _).mono ?_
    rintro e wb5 ⟨rfl, hb5⟩
    have P5 := keepF hb5 Q4r
    have Q5 := storeP x5 y5 z2 z3 P5
    clear hb5
    go_wp2_with fail
    refine (R5.out _).mono ?_
    rintro e wr5 ⟨rfl, hc5⟩
    have P5r := keepF hc5 Q5
    have Q5r := storeQ x5 y5 z2 z3 P5r
    clear hc5 P5 Q5
    go_wp2_with fail
    clear P5r
    refine (B6.out _).mono ?_
    rintro e wb6 ⟨rfl, hb6⟩
    have P6 := keepF hb6 Q5r
    have Q6 := storeP x6 y6 z2 z3 P6
    clear hb6
    go_wp2_with fail
    refine (R6.out _).mono ?_
    rintro e wr6 ⟨rfl, hc6⟩
    have P6r := keepF hc6 Q6
    have Q6r := storeQ x6 y6 z2 z3 P6r
    clear hc6 P6 Q6
    go_wp2
    go_ret
    exact ⟨rfl, Q6r.2.2.2.2.2.2.2.2.2.2.2.2⟩
end Go.Proofs.Ytdnbpfhkbaojnaa
