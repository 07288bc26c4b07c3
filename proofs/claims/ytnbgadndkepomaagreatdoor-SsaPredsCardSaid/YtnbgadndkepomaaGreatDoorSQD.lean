/- Joined texts: SaTab, SaPreM. -/
import Derived.Test.YtnbgadndkepomaaGreatDoorSaUse
import Derived.Deep.AppendLies
import Derived.Test.YtnbgadndkepomaaGreatDoorSQA

/- ssa: a table of rows of numbers, each one the call's own. -/
namespace Go.Proofs.YtnbgadndkepomaaGreatDoor
open Go.RowKit

theorem But.grownBy {p : Nat} {w w' : World} (h : But p w w') : w.grownBy w' (some p) := ⟨h.os, h.tape, h.output, h.size, fun i hi hn => h.block i hi (fun e => hn (by rw [e]))⟩
theorem But.of_grown {p : Nat} {w w' : World} (h : w.grownBy w' (some p)) : But p w w' := ⟨h.os, h.tape, h.output, h.size, fun i hi hn => h.block i hi (fun e => hn (Option.some.inj e))⟩
/-- The cells of a table, by their places. -/
def vals (V : Nat → Value) (n : Nat) : Array Value := ((List.range n).map V).toArray
theorem vals_get (V : Nat → Value) {n i : Nat} (h : i < n) : (vals V n)[i]? = some (V i) := by simp [vals, h]
theorem vals_size (V : Nat → Value) (n : Nat) : (vals V n).size = n := by simp [vals]
def updV (V : Nat → Value) (t : Nat) (v : Value) : Nat → Value := fun j => if j = t then v else V j
theorem vals_set (V : Nat → Value) (n t : Nat) (v : Value) : (vals V n).setIfInBounds t v = vals (updV V t v) n := by
  apply Array.ext
  · simp [vals]
  · intro i h1 h2
    simp only [vals_size, Array.size_setIfInBounds] at h1 h2
    apply Option.some.inj
    rw [← Array.getElem?_eq_getElem (by simpa [vals_size] using h1), ← Array.getElem?_eq_getElem (by simpa [vals_size] using h2), vals_get _ h2]
    unfold updV
    by_cases e : t = i
    · subst e
      rw [Array.getElem?_setIfInBounds_self_of_lt (by simpa [vals_size] using h1), if_pos rfl]
    · rw [Array.getElem?_setIfInBounds_ne e, vals_get _ h2, if_neg (fun q => e q.symm)]
theorem vals_congr {V V' : Nat → Value} {n : Nat} (h : ∀ i, i < n → V i = V' i) : vals V n = vals V' n := by
  unfold vals
  congr 1
  exact List.map_congr_left (fun i hi => h i (List.mem_range.1 hi))
theorem IOwn.but {w w' : World} {B p : Nat} {v : Value} {l : List Int} (h : IOwn w B v l) (hb : But p w w') (hne : some p ≠ v.ownBlock) : IOwn w' B v l :=
  World.ownsRow.kept h hb.grownBy (Or.inr (fun e => hne e.symm))
theorem IOwn.lt {w : World} {B : Nat} {v : Value} {l : List Int} (h : IOwn w B v l) : ∀ g, v.ownBlock = some g → B ≤ g ∧ g < w.heap.size := fun g hg => World.ownsRow.lt h g hg

/-- A table of rows of numbers: its block, and rows that lie apart. -/
structure PTab (w : World) (B bp n : Nat) (V : Nat → Value) (R : Nat → List Int) : Prop where
  box : Box w bp 30 (vals V n)
  own : ∀ t, t < n → IOwn w B (V t) (R t)
  far : ∀ t u, t < n → u < n → t ≠ u → (V t).ownBlock = none ∨ (V t).ownBlock ≠ (V u).ownBlock
section
variable {w w' : World} {B bp n : Nat} {V : Nat → Value} {R : Nat → List Int}
theorem PTab.later (h : PTab w B bp n V R) (hb : Below w.heap.size w w') : PTab w' B bp n V R :=
  ⟨h.box.below hb, fun t ht => (h.own t ht).later hb, h.far⟩
theorem PTab.congr (h : PTab w B bp n V R) {R' : Nat → List Int} (e : ∀ t, t < n → R t = R' t) : PTab w B bp n V R' :=
  ⟨h.box, fun t ht => by rw [← e t ht]; exact h.own t ht, h.far⟩
/-- A new row for the place t, behind an append. -/
theorem PTab.step (h : PTab w B bp n V R) {t : Nat} (ht : t < n) {g : Nat} {m c : Nat} {l : List Int} (ho : IOwn w' B (.slice (some ⟨g, 0, none⟩) m c) l) (hg : w.grownBy w' (V t).ownBlock) (hat : (V t).ownBlock = some g ∨ g = w.heap.size) :
    PTab (w'.setCell ⟨bp, t, none⟩ (.slice (some ⟨g, 0, none⟩) m c)) B bp n (updV V t (.slice (some ⟨g, 0, none⟩) m c)) (fun u => if u = t then l else R u) := by
  have hB1 : Box w' bp 30 (vals V n) := h.box.grown hg ((h.own t ht).ne h.box (by decide))
  have hB2 := hB1.set t (.slice (some ⟨g, 0, none⟩) m c)
  rw [vals_set] at hB2
  have hset : But bp w' (w'.setCell ⟨bp, t, none⟩ (.slice (some ⟨g, 0, none⟩) m c)) := But.set _
  have hlt : ∀ u, u < n → u ≠ t → (V u).ownBlock ≠ some g := fun u hu hne e => by
    rcases hat with hat | hat
    · rcases h.far u t hu ht hne with h1 | h1
      · rw [h1] at e; cases e
      · exact h1 (e.trans hat.symm)
    · have := ((h.own u hu).lt g e).2
      omega
  refine ⟨hB2, fun u hu => ?_, fun u v hu hv hne => ?_⟩
  · by_cases e : u = t
    · subst e
      simp only [updV, if_pos]
      exact ho.but hset (ho.ne hB1 (by decide))
    · simp only [updV, if_neg e]
      have h1 : IOwn w' B (V u) (R u) := World.ownsRow.kept (h.own u hu) hg (by
        rcases h.far u t hu ht e with h1 | h1
        · exact Or.inl h1
        · exact Or.inr h1)
      exact h1.but hset (h1.ne hB1 (by decide))
  · unfold updV
    by_cases e1 : u = t
    · subst e1
      rw [if_pos rfl, if_neg (fun e => hne e.symm)]
      exact Or.inr (fun e => hlt v hv (fun q => hne q.symm) e.symm)
    · rw [if_neg e1]
      by_cases e2 : v = t
      · subst e2
        rw [if_pos rfl]
        exact Or.inr (hlt u hu e1)
      · rw [if_neg e2]
        exact h.far u v hu hv hne
/-- A table that can be read. -/
theorem PTab.lrow (h : PTab w B bp n V R) {l : List (List Int)} (hl : l.length = n) (e : ∀ (t : Nat) (ht : t < l.length), l[t] = R t) : LRow w (some ⟨bp, 0, none⟩) l := fun i hi => by
  obtain ⟨A, c, h1, h2, h3, h4⟩ := (h.own i (by omega)).read
  rw [← e i hi] at h1 h2 h4
  exact ⟨bp, 0, A, c, rfl, by rw [Nat.zero_add, h.box.cell, vals_get _ (by omega), h1], h2, h3, h4⟩
end
theorem PTab.new {w : World} {B bp n : Nat} (h : Box w bp 30 (vals (fun _ => .slice none 0 0) n)) : PTab w B bp n (fun _ => .slice none 0 0) (fun _ => []) :=
  ⟨h, fun _ _ => World.ownsRow_nil _ _ _ _, fun _ _ _ _ _ => Or.inl rfl⟩
theorem mk_rows (n : Nat) (hn : n ≤ 100000) (w : World) : (Instr.makeSlice 22 (.int .i64 n) (.int .i64 n)).run Tryz.prog w = .ok (.slice (some ⟨w.heap.size, 0, none⟩) n n) (w.alloc (.cells (vals (fun _ => .slice none 0 0) n) 30)) := by
  have h := run_makeSlice (P := Tryz.prog) (w := w) 22 30 Tryz.t30 (.slice none 0 0) Tryz.underlying22 (by kernel_rfl) (by kernel_rfl) .i64 .i64 (n : Int) (n : Int) (by omega) (Int.le_refl _) (by show (n : Int).toNat * 1 ≤ _; omega) (by show ((24 : Nat) : Int) * (n : Int) ≤ _; omega) (by omega)
  rw [h]
  have e : madeCells (Value.cells (.slice none 0 0)) ((n : Int).toNat * Tryz.t30.size) = vals (fun _ => .slice none 0 0) n := by
    show madeCells #[Value.slice none 0 0] ((n : Int).toNat * 1) = _
    rw [Int.toNat_natCast, Nat.mul_one]
    apply Array.ext
    · simp [madeCells, vals]
    · intro i h1 h2
      simp [madeCells, vals, Nat.mod_one]
  rw [e]
  simp
end Go.Proofs.YtnbgadndkepomaaGreatDoor

/- ssa: the predecessors, plainly: how they are found, block after block and edge after edge. -/
namespace Go.Proofs.YtnbgadndkepomaaGreatDoor

/-- The predecessors of a block, in order. -/
def predsOf (s : Nat → List Nat) (n t : Nat) : List Nat := (List.range n).filter fun i => decide (t ∈ s i)
theorem mem_predsOf {s : Nat → List Nat} {n t p : Nat} : p ∈ predsOf s n t ↔ p < n ∧ t ∈ s p := by
  unfold predsOf
  rw [List.mem_filter, List.mem_range, decide_eq_true_eq]
/-- What is found before the edge k of the block i. -/
def preAt (s : Nat → List Nat) (i k t : Nat) : List Nat := predsOf s i t ++ if t ∈ (s i).take k then [i] else []
section
variable {s : Nat → List Nat} {i k t : Nat}
theorem preAt_zero : preAt s 0 0 t = [] := by unfold preAt predsOf; simp
theorem preAt_start : preAt s i 0 t = predsOf s i t := by unfold preAt; simp
theorem preAt_end (h : (s i).length ≤ k) : preAt s i k t = preAt s (i + 1) 0 t := by
  rw [preAt_start]
  unfold preAt predsOf
  rw [List.take_of_length_le h, List.range_succ, List.filter_append]
  congr 1
  by_cases e : t ∈ s i <;> simp [e]
theorem preAt_lt {p : Nat} (h : p ∈ predsOf s i t) : p < i := (mem_predsOf.1 h).1
theorem take_next (h : k < (s i).length) : t ∈ (s i).take (k + 1) ↔ t ∈ (s i).take k ∨ t = (s i)[k] := by
  rw [List.take_succ_eq_append_getElem h, List.mem_append, List.mem_singleton]
/-- The last one found for this block is the block at hand, exactly if an edge before led there. -/
theorem preAt_last : (preAt s i k t).getLast? = some i ↔ t ∈ (s i).take k := by
  unfold preAt
  by_cases e : t ∈ (s i).take k
  · simp [e]
  · rw [if_neg e, List.append_nil]
    refine ⟨fun h => ?_, fun h => absurd h e⟩
    have := preAt_lt (List.mem_of_getLast? h)
    omega
theorem preAt_same (h : k < (s i).length) (hl : (preAt s i k (s i)[k]).getLast? = some i) (t : Nat) : preAt s i (k + 1) t = preAt s i k t := by
  unfold preAt
  congr 1
  have h1 := preAt_last.1 hl
  by_cases e : t ∈ (s i).take k
  · rw [if_pos e, if_pos ((take_next h).2 (.inl e))]
  · rw [if_neg e, if_neg]
    intro h2
    rcases (take_next h).1 h2 with h2 | h2
    · exact e h2
    · rw [h2] at e; exact e h1
theorem preAt_new (h : k < (s i).length) (hl : (preAt s i k (s i)[k]).getLast? ≠ some i) : preAt s i (k + 1) (s i)[k] = preAt s i k (s i)[k] ++ [i] := by
  have h1 : ¬ (s i)[k] ∈ (s i).take k := fun e => hl (preAt_last.2 e)
  unfold preAt
  rw [if_neg h1, if_pos ((take_next h).2 (.inr rfl)), List.append_nil]
theorem preAt_other (h : k < (s i).length) (ht : t ≠ (s i)[k]) : preAt s i (k + 1) t = preAt s i k t := by
  unfold preAt
  congr 1
  have : t ∈ (s i).take (k + 1) ↔ t ∈ (s i).take k := by
    rw [take_next h]
    exact ⟨fun q => q.resolve_right ht, .inl⟩
  simp only [this]
theorem predsOf_len : (predsOf s i t).length ≤ i := by
  unfold predsOf
  exact Nat.le_trans (List.length_filter_le _ _) (by simp)
theorem preAt_len : (preAt s i k t).length ≤ i + 1 := by
  unfold preAt
  rw [List.length_append]
  have := predsOf_len (s := s) (i := i) (t := t)
  by_cases e : t ∈ (s i).take k
  · rw [if_pos e]; simp; omega
  · rw [if_neg e]; simp; omega
end
end Go.Proofs.YtnbgadndkepomaaGreatDoor
