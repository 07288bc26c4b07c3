/- What the listed errors hold. -/
import Derived.Test.YtnanfedggmkboaaDoorLLeaf
namespace Go.Proofs.YtnanfedggmkboaaDoor
open Go.RowKit
/-- The two errors that package strconv keeps are there. -/
def Errs (w : World) : Prop := (∃ te pe, w.cell? ⟨5, 0, none⟩ = some (.iface te pe)) ∧ (∃ te pe, w.cell? ⟨6, 0, none⟩ = some (.iface te pe))
theorem Errs.later {w w' : World} (hb : Below w.heap.size w w') (h : Errs w) : Errs w' := by
  obtain ⟨⟨a, b, h1⟩, c, d, h2⟩ := h
  exact ⟨⟨a, b, cell_later hb h1⟩, c, d, cell_later hb h2⟩

end Go.Proofs.YtnanfedggmkboaaDoor
