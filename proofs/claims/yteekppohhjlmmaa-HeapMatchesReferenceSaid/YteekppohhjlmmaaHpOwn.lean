/- Objects in memory; boxes, worlds that have only drawn; rows that a call owns. -/
import Derived.Test.YteekppohhjlmmaaRows
import Derived.Test.YteekppohhjlmmaaHpMath
import Derived.WalkKit
import Derived.Lib.Hide
import Derived.WalkSpells
import Derived.WalkLawsBesides
import Derived.StillTactics
import Derived.Laws.Pointers
import Derived.Laws.Rows
import Derived.Laws.OwnMore
import Derived.OwnWalk
import Derived.Deep.RegionHeld3
import Derived.Deep.RegionWith
import Derived.Deep.RegionLaw
import Derived.Deep.AppendLies
import Derived.Deep.QuietTactic
import Derived.BigQuiet
import Derived.RowKit3
import Derived.RegionTactic
import Derived.WalkMore
import Derived.IntWalk
import Derived.Deep.Cut
import Derived.Deep.CutBlock
import Derived.BigRegion
namespace Go.Proofs.Yteekppohhjlmmaa
open Go.RowKit

/-- A world that has only drawn. -/
def Drew (w w' : World) : Prop := ∃ n, w' = w.drewN n
theorem Drew.refl (w : World) : Drew w w := ⟨0, rfl⟩
theorem Drew.trans {a b c : World} (h : Drew a b) (k : Drew b c) : Drew a c := by
  obtain ⟨n, rfl⟩ := h; obtain ⟨m, rfl⟩ := k; exact ⟨n + m, by rw [World.drewN_drewN]⟩
theorem Drew.cell {a b : World} (h : Drew a b) (p : Addr) : b.cell? p = a.cell? p := by
  obtain ⟨n, rfl⟩ := h; rfl
theorem Drew.below {a b : World} (h : Drew a b) : Below a.heap.size a b := by
  obtain ⟨n, rfl⟩ := h; exact ⟨rfl, rfl, rfl, Nat.le_refl _, fun _ _ => rfl⟩
theorem Drew.size {a b : World} (h : Drew a b) : b.heap.size = a.heap.size := by
  obtain ⟨n, rfl⟩ := h; rfl
theorem cell_lt {w : World} {p : Addr} {v : Value} (h : w.cell? p = some v) : p.block < w.heap.size := by
  apply Classical.byContradiction; intro hn
  unfold World.cell? at h
  rw [Array.getElem?_eq_none (by omega)] at h
  cases h
theorem cell_later {w w' : World} {p : Addr} {v : Value} (hb : Below w.heap.size w w') (h : w.cell? p = some v) : w'.cell? p = some v :=
  (hb.cell (cell_lt h)).trans h
def iOf : Value → Nat
  | .int _ k => k.toNat
  | _ => 0

/-- A block of the call's own that is known whole. -/
def Box (w : World) (b : Nat) (T : TypeId) (cs : Array Value) : Prop := w.heap[b]? = some (.cells cs T (0, 0))
section
variable {w w' : World} {b : Nat} {T : TypeId} {cs : Array Value}
theorem Box.lt (h : Box w b T cs) : b < w.heap.size := (Array.getElem?_eq_some_iff.1 h).1
theorem Box.cell (h : Box w b T cs) (i : Nat) : w.cell? ⟨b, i, none⟩ = cs[i]? := cell_of_row w b i cs T (0, 0) h
theorem Box.free (h : Box w b T cs) (i : Nat) : w.frozen? ⟨b, i, none⟩ = false := by unfold World.frozen?; rw [h]; simp
theorem Box.new (w : World) (T : TypeId) (cs : Array Value) : Box (w.alloc (.cells cs T)) w.heap.size T cs := heap_alloc_new w _
theorem Box.newAt {X : World} {n : Nat} (hn : X.heap.size = n) (T : TypeId) (cs : Array Value) : Box (X.alloc (.cells cs T)) n T cs := hn ▸ heap_alloc_new X _
theorem Box.below (h : Box w b T cs) (hb : Below w.heap.size w w') : Box w' b T cs := (hb.block b h.lt).trans h
theorem Box.alloc (h : Box w b T cs) (o : Obj) : Box (w.alloc o) b T cs := h.below ((Below.refl _ _).alloc (Nat.le_refl _) o)
theorem Box.drewN (h : Box w b T cs) (n : Nat) : Box (w.drewN n) b T cs := h
theorem Box.set (h : Box w b T cs) (i : Nat) (v : Value) : Box (w.setCell ⟨b, i, none⟩ v) b T (cs.setIfInBounds i v) := by
  unfold Box at *
  simp [World.setCell, Array.getElem?_modify, h]
theorem Box.far (h : Box w b T cs) {b' i : Nat} (hne : b ≠ b') (v : Value) : Box (w.setCell ⟨b', i, none⟩ v) b T cs := (Below.heap_setCell w ⟨b', i, none⟩ v b hne).trans h
end

/-- All but one block is as it was. -/
structure But (p : Nat) (w w' : World) : Prop where
  os : w'.os = w.os
  tape : w'.tape = w.tape
  output : w'.output = w.output
  size : w.heap.size ≤ w'.heap.size
  block : ∀ k, k < w.heap.size → k ≠ p → w'.heap[k]? = w.heap[k]?
theorem But.refl (p : Nat) (w : World) : But p w w := ⟨rfl, rfl, rfl, Nat.le_refl _, fun _ _ _ => rfl⟩
theorem But.trans {p : Nat} {a b c : World} (h : But p a b) (k : But p b c) : But p a c :=
  ⟨k.os.trans h.os, k.tape.trans h.tape, k.output.trans h.output, Nat.le_trans h.size k.size, fun i hi hn => (k.block i (Nat.lt_of_lt_of_le hi h.size) hn).trans (h.block i hi hn)⟩
theorem But.of {p : Nat} {w w' : World} (h : Below w.heap.size w w') : But p w w' := ⟨h.os, h.tape, h.output, h.size, fun k hk _ => h.block k hk⟩
theorem But.set {w : World} {p i : Nat} (v : Value) : But p w (w.setCell ⟨p, i, none⟩ v) :=
  ⟨rfl, rfl, rfl, by simp [World.setCell], fun k _ hn => Below.heap_setCell w ⟨p, i, none⟩ v k hn⟩
theorem But.below {p : Nat} {w w' : World} (h : But p w w') {B : Nat} (hB : B ≤ p) (hw : B ≤ w.heap.size) : Below B w w' := ⟨h.os, h.tape, h.output, h.size, fun k hk => h.block k (by omega) (by omega)⟩
theorem But.cell {p : Nat} {w w' : World} (h : But p w w') {a : Addr} {v : Value} (hc : w.cell? a = some v) (hn : a.block ≠ p) : w'.cell? a = some v := by
  have hl := cell_lt hc
  unfold World.cell? at hc ⊢
  rw [h.block _ hl hn]; exact hc

/-- A world that was reached without a change of what was there; hidden from the walk. -/
def Bel (W X : World) : Prop := Below W.heap.size W X
theorem Bel.refl (W : World) : Bel W W := Below.refl _ _
theorem Bel.alloc {W X : World} (h : Bel W X) (o : Obj) : Bel W (X.alloc o) := Below.alloc h h.size o
theorem Bel.drew {W X : World} (h : Bel W X) : Bel W X.drew := Below.trans h ((Drew.below ⟨1, rfl⟩).mono h.size)
theorem Bel.set {W X : World} (h : Bel W X) {b i : Nat} (hb : W.heap.size ≤ b) (v : Value) : Bel W (X.setCell ⟨b, i, none⟩ v) := Below.setCell h hb v
theorem Bel.below {W X Y : World} (h : Bel W X) (b : Below X.heap.size X Y) : Bel W Y := Below.trans h (Below.mono b h.size)
theorem Bel.cell {W X : World} (h : Bel W X) {a : Addr} {v : Value} (hc : W.cell? a = some v) : X.cell? a = some v := cell_later h hc

/-! ### What can be read -/
/-- A row of numbers. -/
def IRow (w : World) (A : Option Addr) (l : List Int) : Prop := ∀ (i : Nat) (h : i < l.length), ∃ g o, A = some ⟨g, o, none⟩ ∧ w.cell? ⟨g, o + i, none⟩ = some (.int .i64 l[i])

/-- The cells of a cell, of cells, of objects. -/
def CeAt (w : World) (g o : Nat) (x : Ce) : Prop := w.cell? ⟨g, o, none⟩ = some (.int .i64 x.w) ∧ w.cell? ⟨g, o + 1, none⟩ = some (.bool x.s) ∧ w.cell? ⟨g, o + 2, none⟩ = some (.int .u64 x.v)
def CeRow (w : World) (A : Option Addr) (l : List Ce) : Prop := ∀ (i : Nat) (h : i < l.length), ∃ g o, A = some ⟨g, o, none⟩ ∧ CeAt w g (o + i * 3) l[i]
/-- A list of cells, as a slice: what is known of its value. -/
def CeSl (w : World) (A : Option Addr) (c : Nat) (l : List Ce) : Prop := l.length ≤ c ∧ c ≤ maxLen ∧ (A = none → c = 0) ∧ CeRow w A l
def ObRow (w : World) (A : Option Addr) (l : List Ob) : Prop := ∀ (i : Nat) (h : i < l.length), ∃ g o A' c', A = some ⟨g, o, none⟩ ∧ w.cell? ⟨g, o + i * 2, none⟩ = some (.slice A' l[i].c.length c') ∧ w.cell? ⟨g, o + i * 2 + 1, none⟩ = some (.bool l[i].g) ∧ CeSl w A' c' l[i].c
def ObSl (w : World) (A : Option Addr) (c : Nat) (l : List Ob) : Prop := l.length ≤ c ∧ c ≤ maxLen ∧ (A = none → c = 0) ∧ ObRow w A l
section
variable {w w' : World}
theorem IRow.later (hb : Below w.heap.size w w') {A : Option Addr} {l : List Int} (h : IRow w A l) : IRow w' A l := fun i hi => by
  obtain ⟨g, o, e, h⟩ := h i hi
  exact ⟨g, o, e, cell_later hb h⟩
theorem CeAt.later (hb : Below w.heap.size w w') {g o : Nat} {x : Ce} (h : CeAt w g o x) : CeAt w' g o x := ⟨cell_later hb h.1, cell_later hb h.2.1, cell_later hb h.2.2⟩
theorem CeRow.later (hb : Below w.heap.size w w') {A : Option Addr} {l : List Ce} (h : CeRow w A l) : CeRow w' A l := fun i hi => by
  obtain ⟨g, o, e, h⟩ := h i hi
  exact ⟨g, o, e, h.later hb⟩
theorem CeSl.later (hb : Below w.heap.size w w') {A : Option Addr} {c : Nat} {l : List Ce} (h : CeSl w A c l) : CeSl w' A c l := ⟨h.1, h.2.1, h.2.2.1, h.2.2.2.later hb⟩
theorem ObRow.later (hb : Below w.heap.size w w') {A : Option Addr} {l : List Ob} (h : ObRow w A l) : ObRow w' A l := fun i hi => by
  obtain ⟨g, o, A', c', e, h1, h2, h3⟩ := h i hi
  exact ⟨g, o, A', c', e, cell_later hb h1, cell_later hb h2, h3.later hb⟩
theorem ObSl.later (hb : Below w.heap.size w w') {A : Option Addr} {c : Nat} {l : List Ob} (h : ObSl w A c l) : ObSl w' A c l := ⟨h.1, h.2.1, h.2.2.1, h.2.2.2.later hb⟩
theorem CeSl.nil (w : World) : CeSl w none 0 [] := ⟨Nat.le_refl _, by unfold maxLen; omega, fun _ => rfl, fun i h => by simp at h⟩
theorem ObSl.nil (w : World) : ObSl w none 0 [] := ⟨Nat.le_refl _, by unfold maxLen; omega, fun _ => rfl, fun i h => by simp at h⟩
theorem ObSl.at_ {A : Option Addr} {c : Nat} {l : List Ob} (h : ObSl w A c l) {t : Nat} (ht : t < l.length) : ∃ g o A' c', A = some ⟨g, o, none⟩ ∧ w.cell? ⟨g, o + t * 2, none⟩ = some (.slice A' (obAt l t).c.length c') ∧ w.cell? ⟨g, o + t * 2 + 1, none⟩ = some (.bool (obAt l t).g) ∧ CeSl w A' c' (obAt l t).c := by
  rw [obAt_eq ht]; exact h.2.2.2 t ht
theorem CeSl.at_ {A : Option Addr} {c : Nat} {l : List Ce} (h : CeSl w A c l) {t : Nat} (ht : t < l.length) : ∃ g o, A = some ⟨g, o, none⟩ ∧ CeAt w g (o + t * 3) (ceAt l t) := by
  rw [ceAt_eq ht]; exact h.2.2.2 t ht
end

/-! ### Rows that a call owns -/
theorem add_z (g j : Nat) : (⟨g, 0, none⟩ : Addr).add j = ⟨g, j, none⟩ := by unfold Addr.add; split <;> simp_all
theorem add_o (g o j : Nat) : (⟨g, o, none⟩ : Addr).add j = ⟨g, o + j, none⟩ := by unfold Addr.add; split <;> simp_all
/-- Cells, and objects, that a call owns. -/
def COwn (w : World) (B : Nat) (v : Value) (l : List Ce) : Prop := w.ownsRow B 45 3 v l.length (flat l)
structure OTab (w : World) (B : Nat) (v : Value) (V : Nat → Value) (l : List Ob) : Prop where
  row : w.ownsRow B 42 2 v l.length (oflat V l)
  own : ∀ (t : Nat), t < l.length → COwn w B (V t) (obAt l t).c
  far : ∀ (t u : Nat), t < l.length → u < l.length → t ≠ u → (V t).ownBlock = none ∨ (V t).ownBlock ≠ (V u).ownBlock
theorem own_ne {w : World} {B B' : Nat} {e e' : TypeId} {s s' n n' : Nat} {v v' : Value} {xs xs' : List Value} (h : w.ownsRow B e s v n xs) (h' : w.ownsRow B' e' s' v' n' xs') (hne : e ≠ e') : v.ownBlock = none ∨ v.ownBlock ≠ v'.ownBlock := by
  rcases h.2 with ⟨rfl, _⟩ | ⟨g, cap, cur, rfl, _, hg, _⟩
  · exact Or.inl rfl
  · refine Or.inr (fun e => ?_)
    rcases h'.2 with ⟨rfl, _⟩ | ⟨g', cap', cur', rfl, _, hg', _⟩
    · simp [Value.ownBlock] at e
    · simp [Value.ownBlock] at e
      subst e
      rw [hg] at hg'
      simp at hg'
      exact hne hg'.2
theorem own_box {w : World} {B : Nat} {e : TypeId} {s n : Nat} {v : Value} {xs : List Value} {b : Nat} {T : TypeId} {cs : Array Value} (h : w.ownsRow B e s v n xs) (h' : Box w b T cs) (hne : e ≠ T) : v.ownBlock = none ∨ v.ownBlock ≠ some b := by
  rcases h.2 with ⟨rfl, _⟩ | ⟨g, cap, cur, rfl, _, hg, _⟩
  · exact Or.inl rfl
  · refine Or.inr (fun q => ?_)
    simp [Value.ownBlock] at q
    subst q
    unfold Box at h'
    rw [hg] at h'
    simp at h'
    exact hne h'.2
theorem But.grownBy {p : Nat} {w w' : World} (h : But p w w') : w.grownBy w' (some p) := ⟨h.os, h.tape, h.output, h.size, fun i hi hn => h.block i hi (fun e => hn (by rw [e]))⟩
theorem But.of_grown {p : Nat} {w w' : World} (h : w.grownBy w' (some p)) : But p w w' := ⟨h.os, h.tape, h.output, h.size, fun i hi hn => h.block i hi (fun e => hn (Option.some.inj e))⟩
theorem below_grown {w w' : World} (h : Below w.heap.size w w') (row : Option Nat) : w.grownBy w' row := ⟨h.os, h.tape, h.output, h.size, fun k hk _ => h.block k hk⟩
theorem own_later {w w' : World} {B : Nat} {e : TypeId} {s n : Nat} {v : Value} {xs : List Value} (h : w.ownsRow B e s v n xs) (hb : Below w.heap.size w w') : w'.ownsRow B e s v n xs :=
  h.kept (below_grown hb none) (by cases hv : v.ownBlock <;> simp)
theorem OTab.later {w w' : World} {B : Nat} {v : Value} {V : Nat → Value} {l : List Ob} (h : OTab w B v V l) (hb : Below w.heap.size w w') : OTab w' B v V l :=
  ⟨own_later h.row hb, fun t ht => own_later (h.own t ht) hb, h.far⟩
theorem COwn.sl {w : World} {B : Nat} {v : Value} {l : List Ce} (h : COwn w B v l) : ∃ A c, v = .slice A l.length c ∧ CeSl w A c l := by
  have hc := fun g hg => World.ownsRow.cells (g := g) h hg
  rcases h.2 with ⟨rfl, h0⟩ | ⟨g, cap, cur, rfl, _, hg, h1, h2, _⟩
  · have : l = [] := List.eq_nil_of_length_eq_zero h0
    subst this
    exact ⟨none, 0, rfl, CeSl.nil w⟩
  · refine ⟨some ⟨g, 0, none⟩, cap, rfl, h1, h2, fun e => by simp at e, fun i hi => ⟨g, 0, rfl, ?_⟩⟩
    have k0 := hc g rfl (i * 3) _ (tab_get (cev l) (by omega))
    have k1 := hc g rfl (i * 3 + 1) _ (tab_get (cev l) (by omega))
    have k2 := hc g rfl (i * 3 + 2) _ (tab_get (cev l) (by omega))
    rw [add_z, cev0, ceAt_eq hi] at k0
    rw [add_z, cev1, ceAt_eq hi] at k1
    rw [add_z, cev2, ceAt_eq hi] at k2
    rw [Nat.zero_add]
    exact ⟨k0, k1, k2⟩
theorem OTab.sl {w : World} {B : Nat} {v : Value} {V : Nat → Value} {l : List Ob} (h : OTab w B v V l) : ∃ A c, v = .slice A l.length c ∧ ObSl w A c l := by
  have hc := fun g hg => World.ownsRow.cells (g := g) h.row hg
  rcases h.row.2 with ⟨rfl, h0⟩ | ⟨g, cap, cur, rfl, _, hg, h1, h2, _⟩
  · have : l = [] := List.eq_nil_of_length_eq_zero h0
    subst this
    exact ⟨none, 0, rfl, ObSl.nil w⟩
  · refine ⟨some ⟨g, 0, none⟩, cap, rfl, h1, h2, fun e => by simp at e, fun i hi => ?_⟩
    have k0 := hc g rfl (i * 2) _ (tab_get (obv V l) (by omega))
    have k1 := hc g rfl (i * 2 + 1) _ (tab_get (obv V l) (by omega))
    rw [add_z, obv0] at k0
    rw [add_z, obv1, obAt_eq hi] at k1
    obtain ⟨A', c', e, hs⟩ := (h.own i hi).sl
    rw [obAt_eq hi] at e hs
    rw [e] at k0
    refine ⟨g, 0, A', c', rfl, ?_, ?_, hs⟩
    · rw [Nat.zero_add]; exact k0
    · rw [Nat.zero_add]; exact k1
/-- An object is released. -/
theorem OTab.free {w : World} {B g n cap : Nat} {V : Nat → Value} {l : List Ob} (h : OTab w B (.slice (some ⟨g, 0, none⟩) n cap) V l) {k : Nat} (hk : k < l.length) :
    OTab (w.setCell ⟨g, k * 2 + 1, none⟩ (.bool true)) B (.slice (some ⟨g, 0, none⟩) n cap) V (l.set k ⟨(obAt l k).c, true⟩) := by
  have hn : n = l.length := by
    rcases h.row.2 with ⟨e, _⟩ | ⟨_, _, _, e, _⟩ <;> simp at e
    exact e.2.1
  subst hn
  obtain ⟨h1, h2⟩ := World.ownsRow.stored h.row (k * 2 + 1) (.bool true)
  rw [oflat_free V l hk (obAt l k).c] at h1
  refine ⟨by rw [List.length_set]; exact h1, fun t ht => ?_, fun t u ht hu => ?_⟩
  · rw [List.length_set] at ht
    have h3 : COwn (w.setCell ⟨g, k * 2 + 1, none⟩ (.bool true)) B (V t) (obAt l t).c := World.ownsRow.kept (h.own t ht) h2 (own_ne (h.own t ht) h.row (by decide))
    rw [obAt_set l hk]
    by_cases e : t = k
    · subst e; rw [if_pos rfl]; exact h3
    · rw [if_neg e]; exact h3
  · rw [List.length_set] at ht hu
    exact h.far t u ht hu
/-- A cell is set. -/
theorem OTab.put {w : World} {B g n cap : Nat} {v : Value} {V : Nat → Value} {l : List Ob} (h : OTab w B v V l) {t : Nat} (ht : t < l.length) (hV : V t = .slice (some ⟨g, 0, none⟩) n cap) {k : Nat} (hk : k < (obAt l t).c.length) (x : Int) :
    OTab ((w.setCell ⟨g, k * 3 + 1, none⟩ (.bool true)).setCell ⟨g, k * 3 + 2, none⟩ (.int .u64 x)) B v V (l.set t ⟨(obAt l t).c.set k ⟨(ceAt (obAt l t).c k).w, true, x⟩, (obAt l t).g⟩) := by
  have h0 := h.own t ht
  unfold COwn at h0
  rw [hV] at h0
  have hn : n = (obAt l t).c.length := by
    rcases h0.2 with ⟨e, _⟩ | ⟨_, _, _, e, _⟩ <;> simp at e
    exact e.2.1
  subst hn
  obtain ⟨h1, h2⟩ := World.ownsRow.stored h0 (k * 3 + 1) (.bool true)
  obtain ⟨h3, h4⟩ := World.ownsRow.stored h1 (k * 3 + 2) (.int .u64 x)
  rw [flat_put _ hk] at h3
  refine ⟨?_, fun u hu => ?_, fun u u2 hu hu2 => ?_⟩
  · rw [List.length_set, oflat_same V l ht (⟨(obAt l t).c.set k ⟨(ceAt (obAt l t).c k).w, true, x⟩, (obAt l t).g⟩ : Ob) rfl]
    have hne : ∀ {w2 : World}, w2.ownsRow B 42 2 v l.length (oflat V l) → w2.ownsRow B 45 3 (.slice (some ⟨g, 0, none⟩) (obAt l t).c.length cap) (obAt l t).c.length (flat (obAt l t).c) → v.ownBlock = none ∨ v.ownBlock ≠ some g := fun a b => own_ne a b (by decide)
    have q := hne h.row h0
    exact (h.row.kept h2 q).kept h4 q
  · rw [List.length_set] at hu
    rw [obAt_set l ht]
    by_cases e : u = t
    · subst e
      rw [if_pos rfl, hV]
      show World.ownsRow _ _ _ _ _ _ _
      rw [List.length_set]
      exact h3
    · rw [if_neg e]
      have q : (V u).ownBlock = none ∨ (V u).ownBlock ≠ some g := by
        rcases h.far u t hu ht e with q | q
        · exact Or.inl q
        · rw [hV] at q; exact Or.inr q
      exact World.ownsRow.kept (World.ownsRow.kept (h.own u hu) h2 q) h4 q
  · rw [List.length_set] at hu hu2
    exact h.far u u2 hu hu2
end Go.Proofs.Yteekppohhjlmmaa
