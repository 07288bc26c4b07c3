/- The tokens in memory. -/
import Derived.Test.YtnanfedggmkboaaDoorLMath
import Derived.Test.YtnanfedggmkboaaDoorRows
import Derived.WalkKit
import Derived.Laws.OwnMore
namespace Go.Proofs.YtnanfedggmkboaaDoor
open Go.RowKit

def tokVals (t : Tok) : List Value := [.int .i64 t.kind, .string ⟨t.text.toArray⟩, .int .u64 t.num, .int .i64 t.off]
def toksV : List Tok → List Value
  | [] => []
  | t :: r => tokVals t ++ toksV r
theorem toksV_append : ∀ a b, toksV (a ++ b) = toksV a ++ toksV b
  | [], b => rfl
  | t :: r, b => by simp [toksV, toksV_append r b]
theorem toksV_length : ∀ a, (toksV a).length = a.length * 4
  | [] => rfl
  | t :: r => by simp [toksV, toksV_length r, tokVals]; omega
theorem toksV_at : ∀ (l : List Tok) (i : Nat) (h : i < l.length) (j : Nat), j < 4 → (toksV l)[i * 4 + j]? = (tokVals l[i])[j]?
  | t :: r, 0, _, j, hj => by
    simp only [toksV, Nat.zero_mul, Nat.zero_add, List.getElem_cons_zero]
    rw [List.getElem?_append_left (by simp [tokVals]; omega)]
  | t :: r, i + 1, h, j, hj => by
    have := toksV_at r i (by simpa using h) j hj
    simp only [toksV, List.getElem_cons_succ]
    rw [List.getElem?_append_right (by simp [tokVals]; omega), ← this]
    congr 1
    simp [tokVals]; omega

/-- The tokens lie as a slice of the call's own. -/
def Toks (w : World) (base : Nat) (v : Value) (ts : List Tok) : Prop := w.ownsRow base 31 4 v ts.length (toksV ts)

theorem Tryd.infoTok : (Tryd.prog.info? 31).map (fun i => (i.zero, i.size, i.bytes)) = some (some (.agg #[.int .i64 0, .string ⟨#[]⟩, .int .u64 0, .int .i64 0]), 4, 40) := by kernel_rfl

theorem only_of_below {a w : World} (h : Below a.heap.size a w) (row : Option Nat) : a.grownBy w row := ⟨h.os, h.tape, h.output, h.size, fun i hi _ => h.block i hi⟩
theorem Toks.later {w w' : World} {base : Nat} {v : Value} {ts : List Tok} (h : Toks w base v ts) (hb : Below w.heap.size w w') : Toks w' base v ts := by
  refine World.ownsRow.kept h (only_of_below hb none) ?_
  cases v.ownBlock with
  | none => exact Or.inl rfl
  | some k => exact Or.inr (by simp)
theorem Toks.form {w : World} {base : Nat} {v : Value} {ts : List Tok} (h : Toks w base v ts) : ∃ A c, v = .slice A ts.length c := by
  rcases h.2 with ⟨rfl, h2⟩ | ⟨g, cap, cur, rfl, _⟩
  · have := toksV_length ts
    rw [h2] at this
    have e : ts.length = 0 := by simp at this; omega
    exact ⟨none, 0, by rw [e]⟩
  · exact ⟨_, _, rfl⟩
theorem Toks.lower {w : World} {base base' : Nat} {v : Value} {ts : List Tok} (h : Toks w base v ts) (hb : base' ≤ base) : Toks w base' v ts := by
  refine ⟨h.1, ?_⟩
  rcases h.2 with h2 | ⟨g, cap, cur, h3, h4, h5⟩
  · exact Or.inl h2
  · exact Or.inr ⟨g, cap, cur, h3, by omega, h5⟩
end Go.Proofs.YtnanfedggmkboaaDoor
