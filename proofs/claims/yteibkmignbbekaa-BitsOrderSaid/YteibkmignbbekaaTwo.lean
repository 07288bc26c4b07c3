/- New variables that a statement makes before, between and behind its calls: what their cells hold, in every order. -/
import Derived.Test.YteibkmignbbekaaLater
namespace Go.Proofs.Yteibkmignbbekaa
open Go.RowKit

theorem one_new {V w1 : World} {x y : Value} {t : TypeId} (hb : Below (V.alloc (.cells #[x, y] t)).heap.size (V.alloc (.cells #[x, y] t)) w1) :
    w1.cell? ⟨V.heap.size, 0, none⟩ = some x ∧ w1.cell? ⟨V.heap.size, 1, none⟩ = some y ∧ w1.frozen? ⟨V.heap.size, 0, none⟩ = false ∧ w1.frozen? ⟨V.heap.size, 1, none⟩ = false ∧ V.heap.size < w1.heap.size ∧ V.heap.size ≠ w1.heap.size ∧ w1.heap.size ≠ V.heap.size := by
  have hs := hb.size
  simp at hs
  exact ⟨cell_later hb (new0 _ _ _ _), cell_later hb (new1 _ _ _ _), frozen_new hb, frozen_new hb, by omega, by omega, by omega⟩
theorem two_new {V w1 : World} {x y x' y' : Value} {t t' : TypeId} (hb : Below ((V.alloc (.cells #[x, y] t)).alloc (.cells #[x', y'] t')).heap.size ((V.alloc (.cells #[x, y] t)).alloc (.cells #[x', y'] t')) w1) :
    (w1.cell? ⟨V.heap.size, 0, none⟩ = some x ∧ w1.cell? ⟨V.heap.size, 1, none⟩ = some y ∧ w1.frozen? ⟨V.heap.size, 0, none⟩ = false ∧ w1.frozen? ⟨V.heap.size, 1, none⟩ = false ∧ V.heap.size < w1.heap.size ∧ V.heap.size ≠ w1.heap.size ∧ w1.heap.size ≠ V.heap.size) ∧
    (w1.cell? ⟨V.heap.size + 1, 0, none⟩ = some x' ∧ w1.cell? ⟨V.heap.size + 1, 1, none⟩ = some y' ∧ w1.frozen? ⟨V.heap.size + 1, 0, none⟩ = false ∧ w1.frozen? ⟨V.heap.size + 1, 1, none⟩ = false ∧ V.heap.size + 1 < w1.heap.size ∧ V.heap.size + 1 ≠ w1.heap.size ∧ w1.heap.size ≠ V.heap.size + 1) := by
  have hs := hb.size
  simp at hs
  have h1 := one_new (below1 (w := V.alloc (.cells #[x, y] t)) hb |> fun h => h)
  have h2 := one_new (V := V.alloc (.cells #[x, y] t)) hb
  simp at h2
  exact ⟨h1, by simpa using h2⟩
theorem carryZ {W w1 : World} {p : Nat} {x y : Value} {A B : Prop} (hb : Below W.heap.size W w1)
    (n : W.cell? ⟨p, 0, none⟩ = some x ∧ W.cell? ⟨p, 1, none⟩ = some y ∧ W.frozen? ⟨p, 0, none⟩ = false ∧ W.frozen? ⟨p, 1, none⟩ = false ∧ p < W.heap.size ∧ A ∧ B) :
    w1.cell? ⟨p, 0, none⟩ = some x ∧ w1.cell? ⟨p, 1, none⟩ = some y ∧ w1.frozen? ⟨p, 0, none⟩ = false ∧ w1.frozen? ⟨p, 1, none⟩ = false ∧ p < w1.heap.size ∧ p ≠ w1.heap.size ∧ w1.heap.size ≠ p := by
  have hs := hb.size
  exact ⟨cell_later hb n.1, cell_later hb n.2.1, frozen_later hb n.1 n.2.2.1, frozen_later hb n.2.1 n.2.2.2.1, by omega, by omega, by omega⟩
theorem alloc_then2 {V w1 : World} {o o' : Obj} (hb : Below ((V.alloc o).alloc o').heap.size ((V.alloc o).alloc o') w1) : Below V.heap.size V w1 := below2 hb

theorem more4 {w W : World} {a0 a1 a2 a3 : Addr} {v0 v1 v2 v3 : Value} (o : Obj) (h : W.cell? a0 = some v0 ∧ W.cell? a1 = some v1 ∧ W.cell? a2 = some v2 ∧ W.cell? a3 = some v3 ∧ Below w.heap.size w W) :
    (W.alloc o).cell? a0 = some v0 ∧ (W.alloc o).cell? a1 = some v1 ∧ (W.alloc o).cell? a2 = some v2 ∧ (W.alloc o).cell? a3 = some v3 ∧ Below w.heap.size w (W.alloc o) :=
  ⟨in_alloc o h.1, in_alloc o h.2.1, in_alloc o h.2.2.1, in_alloc o h.2.2.2.1, h.2.2.2.2.alloc h.2.2.2.2.size o⟩
theorem more6 {w W : World} {a0 a1 a2 a3 a4 a5 : Addr} {v0 v1 v2 v3 v4 v5 : Value} (o : Obj) (h : W.cell? a0 = some v0 ∧ W.cell? a1 = some v1 ∧ W.cell? a2 = some v2 ∧ W.cell? a3 = some v3 ∧ W.cell? a4 = some v4 ∧ W.cell? a5 = some v5 ∧ Below w.heap.size w W) :
    (W.alloc o).cell? a0 = some v0 ∧ (W.alloc o).cell? a1 = some v1 ∧ (W.alloc o).cell? a2 = some v2 ∧ (W.alloc o).cell? a3 = some v3 ∧ (W.alloc o).cell? a4 = some v4 ∧ (W.alloc o).cell? a5 = some v5 ∧ Below w.heap.size w (W.alloc o) :=
  ⟨in_alloc o h.1, in_alloc o h.2.1, in_alloc o h.2.2.1, in_alloc o h.2.2.2.1, in_alloc o h.2.2.2.2.1, in_alloc o h.2.2.2.2.2.1, h.2.2.2.2.2.2.alloc h.2.2.2.2.2.2.size o⟩

theorem store4 {V W : World} {a0 a1 a2 a3 : Addr} {v0 v1 v2 v3 : Value} {p : Nat} {x y : Value}
    (S0 : V.cell? a0 = some v0 ∧ V.cell? a1 = some v1 ∧ V.cell? a2 = some v2 ∧ V.cell? a3 = some v3 ∧ Below V.heap.size V V)
    (h : W.cell? a0 = some v0 ∧ W.cell? a1 = some v1 ∧ W.cell? a2 = some v2 ∧ W.cell? a3 = some v3 ∧ Below V.heap.size V W) (hp : V.heap.size ≤ p) :
    ((W.setCell ⟨p, 0, none⟩ x).setCell ⟨p, 1, none⟩ y).cell? a0 = some v0 ∧ ((W.setCell ⟨p, 0, none⟩ x).setCell ⟨p, 1, none⟩ y).cell? a1 = some v1 ∧ ((W.setCell ⟨p, 0, none⟩ x).setCell ⟨p, 1, none⟩ y).cell? a2 = some v2 ∧ ((W.setCell ⟨p, 0, none⟩ x).setCell ⟨p, 1, none⟩ y).cell? a3 = some v3 ∧ Below V.heap.size V ((W.setCell ⟨p, 0, none⟩ x).setCell ⟨p, 1, none⟩ y) := by
  have hb := (h.2.2.2.2.setCell (p := ⟨p, 0, none⟩) hp x).setCell (p := ⟨p, 1, none⟩) hp y
  exact ⟨cell_later hb S0.1, cell_later hb S0.2.1, cell_later hb S0.2.2.1, cell_later hb S0.2.2.2.1, hb⟩
end Go.Proofs.Yteibkmignbbekaa
