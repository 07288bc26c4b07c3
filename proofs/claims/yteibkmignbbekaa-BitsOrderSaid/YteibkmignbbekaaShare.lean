/- Shared facts for the statements' walks: what two bit vectors of one width are, what bin answers, and what the variables' cells hold in every later world. -/
import Derived.Test.YteibkmignbbekaaHead
namespace Go.Proofs.Yteibkmignbbekaa
open Go.RowKit

/-- whether two bit vectors are valid and of one width. -/
def sameV (n a m b : Int) : Bool := vB n a && vB m b && decide (n = m)
theorem same_any (n a m b : Int) (w : World) (h0 : 0 ≤ a) (k0 : 0 ≤ b) :
    Calls Try.prog 25 #[.agg #[.int .i64 n, .int .u64 a], .agg #[.int .i64 m, .int .u64 b]] w fun e w' => e = .returned (.bool (sameV n a m b)) ∧ Below w.heap.size w w' := by
  unfold sameV
  cases ha : vB n a
  · simpa using same_no1 n a m b w h0 k0 ha
  · cases hb : vB m b
    · simpa using same_no2 n a m b w h0 k0 ha hb
    · by_cases hn : n = m
      · simpa [hn] using same_yes n a m b w h0 k0 ha hb hn
      · simpa [hn] using same_width n a m b w h0 k0 ha hb hn
theorem sameV_true {n a m b : Int} (h : sameV n a m b = true) : vB n a = true ∧ vB m b = true ∧ n = m := by
  unfold sameV at h; simp only [Bool.and_eq_true, decide_eq_true_eq] at h; exact ⟨h.1.1, h.1.2, h.2⟩

/-- What bin answers at two bit vectors, whatever the world. -/
def BinC (op n a b m y : Int) : Prop := ∀ w : World, Calls Try.prog 26 #[.int .i64 op, .agg #[.int .i64 n, .int .u64 a], .agg #[.int .i64 n, .int .u64 b]] w fun e w' => e = .returned (.agg #[.int .i64 m, .int .u64 y]) ∧ Below w.heap.size w w'
theorem binC_of {op n a b m y : Int} (h : BinIs op n a n b m y 0) : BinC op n a b m y := fun w => bin_is op n a n b m y w h

theorem binUse {op n a b m y : Int} (h : Hid (BinC op n a b m y)) (w : World) : Calls Try.prog 26 #[.int .i64 op, .agg #[.int .i64 n, .int .u64 a], .agg #[.int .i64 n, .int .u64 b]] w fun e w' => e = .returned (.agg #[.int .i64 m, .int .u64 y]) ∧ Below w.heap.size w w' := h.out w

theorem low_ok (n x : Int) (h1 : 1 ≤ n) (h2 : n ≤ 64) : vB n (low n x) = true := (vB_iff _ _).2 ⟨h1, h2, low_lt n x⟩

/-- The cells of two, of three variables in a later world. -/
theorem later4 {w W w1 : World} {a0 a1 a2 a3 : Addr} {v0 v1 v2 v3 : Value} (hb : Below W.heap.size W w1)
    (h : W.cell? a0 = some v0 ∧ W.cell? a1 = some v1 ∧ W.cell? a2 = some v2 ∧ W.cell? a3 = some v3 ∧ Below w.heap.size w W) :
    w1.cell? a0 = some v0 ∧ w1.cell? a1 = some v1 ∧ w1.cell? a2 = some v2 ∧ w1.cell? a3 = some v3 ∧ Below w.heap.size w w1 :=
  ⟨cell_later hb h.1, cell_later hb h.2.1, cell_later hb h.2.2.1, cell_later hb h.2.2.2.1, h.2.2.2.2.trans (hb.mono h.2.2.2.2.size)⟩
theorem drew4 {w W : World} {a0 a1 a2 a3 : Addr} {v0 v1 v2 v3 : Value}
    (h : W.cell? a0 = some v0 ∧ W.cell? a1 = some v1 ∧ W.cell? a2 = some v2 ∧ W.cell? a3 = some v3 ∧ Below w.heap.size w W) :
    W.drew.cell? a0 = some v0 ∧ W.drew.cell? a1 = some v1 ∧ W.drew.cell? a2 = some v2 ∧ W.drew.cell? a3 = some v3 ∧ Below w.heap.size w W.drew :=
  ⟨h.1, h.2.1, h.2.2.1, h.2.2.2.1, h.2.2.2.2.drew⟩
theorem below4 {w W : World} {a0 a1 a2 a3 : Addr} {v0 v1 v2 v3 : Value}
    (h : W.cell? a0 = some v0 ∧ W.cell? a1 = some v1 ∧ W.cell? a2 = some v2 ∧ W.cell? a3 = some v3 ∧ Below w.heap.size w W) : Below w.heap.size w W := h.2.2.2.2
theorem later6 {w W w1 : World} {a0 a1 a2 a3 a4 a5 : Addr} {v0 v1 v2 v3 v4 v5 : Value} (hb : Below W.heap.size W w1)
    (h : W.cell? a0 = some v0 ∧ W.cell? a1 = some v1 ∧ W.cell? a2 = some v2 ∧ W.cell? a3 = some v3 ∧ W.cell? a4 = some v4 ∧ W.cell? a5 = some v5 ∧ Below w.heap.size w W) :
    w1.cell? a0 = some v0 ∧ w1.cell? a1 = some v1 ∧ w1.cell? a2 = some v2 ∧ w1.cell? a3 = some v3 ∧ w1.cell? a4 = some v4 ∧ w1.cell? a5 = some v5 ∧ Below w.heap.size w w1 :=
  ⟨cell_later hb h.1, cell_later hb h.2.1, cell_later hb h.2.2.1, cell_later hb h.2.2.2.1, cell_later hb h.2.2.2.2.1, cell_later hb h.2.2.2.2.2.1, h.2.2.2.2.2.2.trans (hb.mono h.2.2.2.2.2.2.size)⟩
theorem drew6 {w W : World} {a0 a1 a2 a3 a4 a5 : Addr} {v0 v1 v2 v3 v4 v5 : Value}
    (h : W.cell? a0 = some v0 ∧ W.cell? a1 = some v1 ∧ W.cell? a2 = some v2 ∧ W.cell? a3 = some v3 ∧ W.cell? a4 = some v4 ∧ W.cell? a5 = some v5 ∧ Below w.heap.size w W) :
    W.drew.cell? a0 = some v0 ∧ W.drew.cell? a1 = some v1 ∧ W.drew.cell? a2 = some v2 ∧ W.drew.cell? a3 = some v3 ∧ W.drew.cell? a4 = some v4 ∧ W.drew.cell? a5 = some v5 ∧ Below w.heap.size w W.drew :=
  ⟨h.1, h.2.1, h.2.2.1, h.2.2.2.1, h.2.2.2.2.1, h.2.2.2.2.2.1, h.2.2.2.2.2.2.drew⟩
theorem below6 {w W : World} {a0 a1 a2 a3 a4 a5 : Addr} {v0 v1 v2 v3 v4 v5 : Value}
    (h : W.cell? a0 = some v0 ∧ W.cell? a1 = some v1 ∧ W.cell? a2 = some v2 ∧ W.cell? a3 = some v3 ∧ W.cell? a4 = some v4 ∧ W.cell? a5 = some v5 ∧ Below w.heap.size w W) : Below w.heap.size w W := h.2.2.2.2.2.2
end Go.Proofs.Yteibkmignbbekaa
