/- Joined texts: SaOwn, SaLeaf, SaVal. -/
import Derived.Test.YtnbgadndkepomaaGreatDoorRows
import Derived.Test.YtnbgadndkepomaaGreatDoorSQA
import Derived.WalkKit
import Derived.Lib.Hide
import Derived.WalkSpells
import Derived.WalkLawsBesides
import Derived.StillTactics
import Derived.Laws.Pointers
import Derived.Laws.Rows
import Derived.Laws.OwnMore
import Derived.OwnWalk
import Derived.Deep.RegionHeld3
import Derived.Deep.RegionWith
import Derived.Deep.RegionLaw
import Derived.Deep.AppendLies
import Derived.Deep.QuietTactic
import Derived.BigQuiet
import Derived.RowKit3
import Derived.RegionTactic
import Derived.WalkMore
import Derived.IntWalk
import Derived.Deep.Cut
import Derived.Deep.CutBlock
import Derived.BigRegion

/- Codes in memory; boxes, worlds that have only drawn. -/
namespace Go.Proofs.YtnbgadndkepomaaGreatDoor
open Go.RowKit

/-- A world that has only drawn. -/
def Drew (w w' : World) : Prop := ∃ n, w' = w.drewN n
theorem Drew.refl (w : World) : Drew w w := ⟨0, rfl⟩
theorem Drew.trans {a b c : World} (h : Drew a b) (k : Drew b c) : Drew a c := by
  obtain ⟨n, rfl⟩ := h; obtain ⟨m, rfl⟩ := k; exact ⟨n + m, by rw [World.drewN_drewN]⟩
theorem Drew.cell {a b : World} (h : Drew a b) (p : Addr) : b.cell? p = a.cell? p := by
  obtain ⟨n, rfl⟩ := h; rfl
theorem Drew.below {a b : World} (h : Drew a b) : Below a.heap.size a b := by
  obtain ⟨n, rfl⟩ := h; exact ⟨rfl, rfl, rfl, Nat.le_refl _, fun _ _ => rfl⟩
theorem Drew.size {a b : World} (h : Drew a b) : b.heap.size = a.heap.size := by
  obtain ⟨n, rfl⟩ := h; rfl
theorem cell_lt {w : World} {p : Addr} {v : Value} (h : w.cell? p = some v) : p.block < w.heap.size := by
  apply Classical.byContradiction; intro hn
  unfold World.cell? at h
  rw [Array.getElem?_eq_none (by omega)] at h
  cases h
theorem cell_later {w w' : World} {p : Addr} {v : Value} (hb : Below w.heap.size w w') (h : w.cell? p = some v) : w'.cell? p = some v :=
  (hb.cell (cell_lt h)).trans h
def iOf : Value → Nat
  | .int _ k => k.toNat
  | _ => 0

/-- A block of the call's own that is known whole. -/
def Box (w : World) (b : Nat) (T : TypeId) (cs : Array Value) : Prop := w.heap[b]? = some (.cells cs T (0, 0))
section
variable {w w' : World} {b : Nat} {T : TypeId} {cs : Array Value}
theorem Box.lt (h : Box w b T cs) : b < w.heap.size := (Array.getElem?_eq_some_iff.1 h).1
theorem Box.cell (h : Box w b T cs) (i : Nat) : w.cell? ⟨b, i, none⟩ = cs[i]? := cell_of_row w b i cs T (0, 0) h
theorem Box.free (h : Box w b T cs) (i : Nat) : w.frozen? ⟨b, i, none⟩ = false := by unfold World.frozen?; rw [h]; simp
theorem Box.new (w : World) (T : TypeId) (cs : Array Value) : Box (w.alloc (.cells cs T)) w.heap.size T cs := heap_alloc_new w _
theorem Box.newAt {X : World} {n : Nat} (hn : X.heap.size = n) (T : TypeId) (cs : Array Value) : Box (X.alloc (.cells cs T)) n T cs := hn ▸ heap_alloc_new X _
theorem Box.below (h : Box w b T cs) (hb : Below w.heap.size w w') : Box w' b T cs := (hb.block b h.lt).trans h
theorem Box.alloc (h : Box w b T cs) (o : Obj) : Box (w.alloc o) b T cs := h.below ((Below.refl _ _).alloc (Nat.le_refl _) o)
theorem Box.drewN (h : Box w b T cs) (n : Nat) : Box (w.drewN n) b T cs := h
theorem Box.set (h : Box w b T cs) (i : Nat) (v : Value) : Box (w.setCell ⟨b, i, none⟩ v) b T (cs.setIfInBounds i v) := by
  unfold Box at *
  simp [World.setCell, Array.getElem?_modify, h]
theorem Box.far (h : Box w b T cs) {b' i : Nat} (hne : b ≠ b') (v : Value) : Box (w.setCell ⟨b', i, none⟩ v) b T cs := (Below.heap_setCell w ⟨b', i, none⟩ v b hne).trans h
end

/-- All but one block is as it was. -/
structure But (p : Nat) (w w' : World) : Prop where
  os : w'.os = w.os
  tape : w'.tape = w.tape
  output : w'.output = w.output
  size : w.heap.size ≤ w'.heap.size
  block : ∀ k, k < w.heap.size → k ≠ p → w'.heap[k]? = w.heap[k]?
theorem But.refl (p : Nat) (w : World) : But p w w := ⟨rfl, rfl, rfl, Nat.le_refl _, fun _ _ _ => rfl⟩
theorem But.trans {p : Nat} {a b c : World} (h : But p a b) (k : But p b c) : But p a c :=
  ⟨k.os.trans h.os, k.tape.trans h.tape, k.output.trans h.output, Nat.le_trans h.size k.size, fun i hi hn => (k.block i (Nat.lt_of_lt_of_le hi h.size) hn).trans (h.block i hi hn)⟩
theorem But.of {p : Nat} {w w' : World} (h : Below w.heap.size w w') : But p w w' := ⟨h.os, h.tape, h.output, h.size, fun k hk _ => h.block k hk⟩
theorem But.set {w : World} {p i : Nat} (v : Value) : But p w (w.setCell ⟨p, i, none⟩ v) :=
  ⟨rfl, rfl, rfl, by simp [World.setCell], fun k _ hn => Below.heap_setCell w ⟨p, i, none⟩ v k hn⟩
theorem But.below {p : Nat} {w w' : World} (h : But p w w') {B : Nat} (hB : B ≤ p) (hw : B ≤ w.heap.size) : Below B w w' := ⟨h.os, h.tape, h.output, h.size, fun k hk => h.block k (by omega) (by omega)⟩
theorem But.cell {p : Nat} {w w' : World} (h : But p w w') {a : Addr} {v : Value} (hc : w.cell? a = some v) (hn : a.block ≠ p) : w'.cell? a = some v := by
  have hl := cell_lt hc
  unfold World.cell? at hc ⊢
  rw [h.block _ hl hn]; exact hc

/-- A world that was reached without a change of what was there; hidden from the walk. -/
def Bel (W X : World) : Prop := Below W.heap.size W X
theorem Bel.refl (W : World) : Bel W W := Below.refl _ _
theorem Bel.alloc {W X : World} (h : Bel W X) (o : Obj) : Bel W (X.alloc o) := Below.alloc h h.size o
theorem Bel.drew {W X : World} (h : Bel W X) : Bel W X.drew := Below.trans h ((Drew.below ⟨1, rfl⟩).mono h.size)
theorem Bel.set {W X : World} (h : Bel W X) {b i : Nat} (hb : W.heap.size ≤ b) (v : Value) : Bel W (X.setCell ⟨b, i, none⟩ v) := Below.setCell h hb v
theorem Bel.below {W X Y : World} (h : Bel W X) (b : Below X.heap.size X Y) : Bel W Y := Below.trans h (Below.mono b h.size)
theorem Bel.cell {W X : World} (h : Bel W X) {a : Addr} {v : Value} (hc : W.cell? a = some v) : X.cell? a = some v := cell_later h hc

/-! ### What can be read -/
/-- A row of numbers. -/
def IRow (w : World) (A : Option Addr) (l : List Int) : Prop := ∀ (i : Nat) (h : i < l.length), ∃ g o, A = some ⟨g, o, none⟩ ∧ w.cell? ⟨g, o + i, none⟩ = some (.int .i64 l[i])
/-- A row of texts. -/
def SRow (w : World) (A : Option Addr) (l : List Str) : Prop := ∀ (i : Nat) (h : i < l.length), ∃ g o, A = some ⟨g, o, none⟩ ∧ w.cell? ⟨g, o + i, none⟩ = some (.string ⟨l[i].toArray⟩)
/-- A row of rows of numbers. -/
def LRow (w : World) (A : Option Addr) (l : List (List Int)) : Prop := ∀ (i : Nat) (h : i < l.length), ∃ g o A' c', A = some ⟨g, o, none⟩ ∧ w.cell? ⟨g, o + i, none⟩ = some (.slice A' l[i].length c') ∧ l[i].length ≤ c' ∧ c' ≤ maxLen ∧ IRow w A' l[i]
def InsAt (w : World) (g o : Nat) (x : CIn) : Prop :=
  w.cell? ⟨g, o, none⟩ = some (.int .i64 x.op) ∧ w.cell? ⟨g, o + 1, none⟩ = some (.int .i64 x.w) ∧ w.cell? ⟨g, o + 2, none⟩ = some (.int .i64 x.p) ∧ w.cell? ⟨g, o + 3, none⟩ = some (.int .i64 x.a) ∧
  w.cell? ⟨g, o + 4, none⟩ = some (.int .i64 x.b) ∧ w.cell? ⟨g, o + 5, none⟩ = some (.int .i64 x.c) ∧ w.cell? ⟨g, o + 6, none⟩ = some (.int .u64 x.n) ∧ w.cell? ⟨g, o + 7, none⟩ = some (.int .i64 x.at_)
def InsRow (w : World) (A : Option Addr) (l : List CIn) : Prop := ∀ (i : Nat) (h : i < l.length), ∃ g o, A = some ⟨g, o, none⟩ ∧ InsAt w g (o + i * 8) l[i]
/-- The cells of an end, with the lists' values. -/
def EndAt (w : World) (g o : Nat) (x : CEn) (TA EA : Option Addr) (tc ec : Nat) : Prop :=
  w.cell? ⟨g, o, none⟩ = some (.int .i64 x.kind) ∧ w.cell? ⟨g, o + 1, none⟩ = some (.int .i64 x.a) ∧ w.cell? ⟨g, o + 2, none⟩ = some (.int .i64 x.to) ∧ w.cell? ⟨g, o + 3, none⟩ = some (.int .i64 x.els) ∧
  w.cell? ⟨g, o + 4, none⟩ = some (.slice TA x.ta.length tc) ∧ w.cell? ⟨g, o + 5, none⟩ = some (.slice EA x.ea.length ec) ∧ w.cell? ⟨g, o + 6, none⟩ = some (.int .i64 x.n) ∧ w.cell? ⟨g, o + 7, none⟩ = some (.int .i64 x.at_)
/-- The lists of an end. -/
def EndL (w : World) (x : CEn) (TA EA : Option Addr) (tc ec : Nat) : Prop :=
  IRow w TA x.ta ∧ IRow w EA x.ea ∧ (x.ta.length ≤ tc ∧ tc ≤ maxLen) ∧ (x.ea.length ≤ ec ∧ ec ≤ maxLen) ∧ (TA = none → tc = 0) ∧ (EA = none → ec = 0)
def BkAt (w : World) (g o : Nat) (x : CBk) (TA EA : Option Addr) (tc ec : Nat) : Prop :=
  w.cell? ⟨g, o, none⟩ = some (.int .i64 x.frm) ∧ w.cell? ⟨g, o + 1, none⟩ = some (.int .i64 x.til) ∧ EndAt w g (o + 2) x.en TA EA tc ec
def BkRow (w : World) (A : Option Addr) (l : List CBk) : Prop := ∀ (i : Nat) (h : i < l.length), ∃ g o TA EA tc ec, A = some ⟨g, o, none⟩ ∧ BkAt w g (o + i * 10) l[i] TA EA tc ec ∧ EndL w l[i].en TA EA tc ec

section
variable {w w' : World}
theorem IRow.later (hb : Below w.heap.size w w') {A : Option Addr} {l : List Int} (h : IRow w A l) : IRow w' A l := fun i hi => by
  obtain ⟨g, o, e, h⟩ := h i hi
  exact ⟨g, o, e, cell_later hb h⟩
theorem SRow.later (hb : Below w.heap.size w w') {A : Option Addr} {l : List Str} (h : SRow w A l) : SRow w' A l := fun i hi => by
  obtain ⟨g, o, e, h⟩ := h i hi
  exact ⟨g, o, e, cell_later hb h⟩
theorem LRow.later (hb : Below w.heap.size w w') {A : Option Addr} {l : List (List Int)} (h : LRow w A l) : LRow w' A l := fun i hi => by
  obtain ⟨g, o, A', c', e, h, h2, h3, h4⟩ := h i hi
  exact ⟨g, o, A', c', e, cell_later hb h, h2, h3, h4.later hb⟩
theorem InsAt.later (hb : Below w.heap.size w w') {g o : Nat} {x : CIn} (h : InsAt w g o x) : InsAt w' g o x :=
  ⟨cell_later hb h.1, cell_later hb h.2.1, cell_later hb h.2.2.1, cell_later hb h.2.2.2.1, cell_later hb h.2.2.2.2.1, cell_later hb h.2.2.2.2.2.1, cell_later hb h.2.2.2.2.2.2.1, cell_later hb h.2.2.2.2.2.2.2⟩
theorem InsRow.later (hb : Below w.heap.size w w') {A : Option Addr} {l : List CIn} (h : InsRow w A l) : InsRow w' A l := fun i hi => by
  obtain ⟨g, o, e, h⟩ := h i hi
  exact ⟨g, o, e, h.later hb⟩
theorem EndAt.later (hb : Below w.heap.size w w') {g o : Nat} {x : CEn} {TA EA : Option Addr} {tc ec : Nat} (h : EndAt w g o x TA EA tc ec) : EndAt w' g o x TA EA tc ec :=
  ⟨cell_later hb h.1, cell_later hb h.2.1, cell_later hb h.2.2.1, cell_later hb h.2.2.2.1, cell_later hb h.2.2.2.2.1, cell_later hb h.2.2.2.2.2.1, cell_later hb h.2.2.2.2.2.2.1, cell_later hb h.2.2.2.2.2.2.2⟩
theorem EndL.later (hb : Below w.heap.size w w') {x : CEn} {TA EA : Option Addr} {tc ec : Nat} (h : EndL w x TA EA tc ec) : EndL w' x TA EA tc ec :=
  ⟨h.1.later hb, h.2.1.later hb, h.2.2⟩
theorem BkAt.later (hb : Below w.heap.size w w') {g o : Nat} {x : CBk} {TA EA : Option Addr} {tc ec : Nat} (h : BkAt w g o x TA EA tc ec) : BkAt w' g o x TA EA tc ec :=
  ⟨cell_later hb h.1, cell_later hb h.2.1, h.2.2.later hb⟩
theorem BkRow.later (hb : Below w.heap.size w w') {A : Option Addr} {l : List CBk} (h : BkRow w A l) : BkRow w' A l := fun i hi => by
  obtain ⟨g, o, TA, EA, tc, ec, e, h, h2⟩ := h i hi
  exact ⟨g, o, TA, EA, tc, ec, e, h.later hb, h2.later hb⟩
end
/-- Numbers of 64 bits. -/
def I64 (x : Int) : Prop := -9223372036854775808 ≤ x ∧ x ≤ 9223372036854775807
def CIn.ok (x : CIn) : Prop := I64 x.op ∧ I64 x.w ∧ I64 x.p ∧ I64 x.a ∧ I64 x.b ∧ I64 x.c ∧ x.n < 18446744073709551616 ∧ I64 x.at_
def CEn.ok (x : CEn) : Prop := I64 x.kind ∧ I64 x.a ∧ I64 x.to ∧ I64 x.els ∧ (∀ v ∈ x.ta, I64 v) ∧ (∀ v ∈ x.ea, I64 v) ∧ I64 x.n ∧ I64 x.at_
def CBk.ok (x : CBk) : Prop := I64 x.frm ∧ I64 x.til ∧ x.en.ok
structure Cd.ok (c : Cd) : Prop where
  st : ∀ l ∈ c.st, ∀ v ∈ l, I64 v
  nm : ∀ s ∈ c.nm, s.length ≤ 9223372036854775807
  ins : ∀ x ∈ c.ins, x.ok
  bk : ∀ x ∈ c.bk, x.ok
  lst : c.st.length ≤ 9223372036854775807
  lnm : c.nm.length ≤ 9223372036854775807
  lin : c.ins.length ≤ 9223372036854775807
  lbk : c.bk.length ≤ 9223372036854775807
/-- The four slices of a code. -/
structure Sl where
  S : Option Addr
  sc : Nat
  N : Option Addr
  nc : Nat
  I : Option Addr
  ic : Nat
  K : Option Addr
  kc : Nat
/-- A code that can be read. -/
structure CdAt (w : World) (c : Cd) (x : Sl) : Prop where
  s : LRow w x.S c.st
  n : SRow w x.N c.nm
  i : InsRow w x.I c.ins
  k : BkRow w x.K c.bk
  hs : c.st.length ≤ x.sc ∧ x.sc ≤ maxLen
  hn : c.nm.length ≤ x.nc ∧ x.nc ≤ maxLen
  hi : c.ins.length ≤ x.ic ∧ x.ic ≤ maxLen
  hk : c.bk.length ≤ x.kc ∧ x.kc ≤ maxLen
theorem CdAt.later {w w' : World} (hb : Below w.heap.size w w') {c : Cd} {x : Sl} (h : CdAt w c x) : CdAt w' c x :=
  ⟨h.s.later hb, h.n.later hb, h.i.later hb, h.k.later hb, h.hs, h.hn, h.hi, h.hk⟩
/-- The code's own copy of the four slices. -/
structure PtAt (w : World) (p : Nat) (c : Cd) (x : Sl) : Prop where
  s0 : w.cell? ⟨p, 0, none⟩ = some (.slice x.S c.st.length x.sc)
  s1 : w.cell? ⟨p, 1, none⟩ = some (.slice x.N c.nm.length x.nc)
  s2 : w.cell? ⟨p, 2, none⟩ = some (.slice x.I c.ins.length x.ic)
  s3 : w.cell? ⟨p, 3, none⟩ = some (.slice x.K c.bk.length x.kc)
  at_ : CdAt w c x
theorem PtAt.later {w w' : World} (hb : Below w.heap.size w w') {p : Nat} {c : Cd} {x : Sl} (h : PtAt w p c x) : PtAt w' p c x :=
  ⟨cell_later hb h.s0, cell_later hb h.s1, cell_later hb h.s2, cell_later hb h.s3, h.at_.later hb⟩
theorem PtAt.inst {w : World} {p : Nat} {c : Cd} {x : Sl} (h : PtAt w p c x) (k : Nat) (hk : k < c.ins.length) : ∃ g o, w.cell? ⟨p, 2, none⟩ = some (.slice (some ⟨g, o, none⟩) c.ins.length x.ic) ∧ InsAt w g (o + k * 8) c.ins[k] := by
  obtain ⟨g, o, e, h2⟩ := h.at_.i k hk
  exact ⟨g, o, by rw [← e]; exact h.s2, h2⟩
end Go.Proofs.YtnbgadndkepomaaGreatDoor

/- ssa's smallest functions: ranges, places in lists. -/
namespace Go.Proofs.YtnbgadndkepomaaGreatDoor
open Go.RowKit

set_option maxRecDepth 100000 in
theorem within_any (n lo hi : Int) (w : World) : Calls Tryz.prog 82 #[.int .i64 n, .int .i64 lo, .int .i64 hi] w fun e w' => e = .returned (.bool (B (lo ≤ n ∧ n ≤ hi))) ∧ w = w' := by
  by_cases h1 : lo ≤ n
  · have b1 : decide (lo ≤ n) = true := by simpa using h1
    by_cases h2 : n ≤ hi
    · have b2 : decide (n ≤ hi) = true := by simpa using h2
      rw [B_of ⟨h1, h2⟩]
      go_enter Tryz.func82, Tryz.ntmps82
      go_wp2
      go_ret
      exact ⟨rfl, rfl⟩
    · have b2 : decide (n ≤ hi) = false := by simpa using h2
      rw [B_not (fun h => h2 h.2)]
      go_enter Tryz.func82, Tryz.ntmps82
      go_wp2
      go_ret
      exact ⟨rfl, rfl⟩
  · have b1 : decide (lo ≤ n) = false := by simpa using h1
    rw [B_not (fun h => h1 h.1)]
    go_enter Tryz.func82, Tryz.ntmps82
    go_wp2
    go_ret
    exact ⟨rfl, rfl⟩
set_option maxRecDepth 100000 in
theorem isWidth_any (n : Int) (w : World) : Calls Tryz.prog 112 #[.int .i64 n] w fun e w' => e = .returned (.bool (B (Wid n))) ∧ w = w' := by
  go_enter Tryz.func112, Tryz.ntmps112
  go_wp2_with fail
  refine (within_any n 1 64 w).mono ?_
  rintro e w' ⟨rfl, rfl⟩
  have h : B (1 ≤ n ∧ n ≤ 64) = B (Wid n) := rfl
  rw [h]
  clear h
  go_wp2
  go_ret
  exact ⟨rfl, rfl⟩
set_option maxRecDepth 100000 in
theorem isPlace_any (n : Int) (w : World) : Calls Tryz.prog 86 #[.int .i64 n] w fun e w' => e = .returned (.bool (B (Plc n))) ∧ w = w' := by
  go_enter Tryz.func86, Tryz.ntmps86
  go_wp2_with fail
  refine (within_any n 0 4000 w).mono ?_
  rintro e w' ⟨rfl, rfl⟩
  have h : B (0 ≤ n ∧ n ≤ 4000) = B (Plc n) := rfl
  rw [h]
  clear h
  go_wp2
  go_ret
  exact ⟨rfl, rfl⟩
set_option maxRecDepth 100000 in
theorem isIndex_row (n : Int) (hn : I64 n) (A : Option Addr) (L c : Nat) (hL : L ≤ 9223372036854775807) (w : World) : Calls Tryz.prog 87 #[.int .i64 n, .slice A L c] w fun e w' => e = .returned (.bool (B (0 ≤ n ∧ n < L))) ∧ w = w' := by
  obtain ⟨q1, q2⟩ := hn
  by_cases h1 : 0 ≤ n
  · have b1 : decide (0 ≤ n) = true := by simpa using h1
    by_cases h2 : n < L
    · have b2 : decide (n < L) = true := by simpa using h2
      rw [B_of ⟨h1, h2⟩]
      go_enter Tryz.func87, Tryz.ntmps87
      go_wp2
      go_ret
      exact ⟨rfl, rfl⟩
    · have b2 : decide (n < L) = false := by simpa using h2
      rw [B_not (fun h => h2 h.2)]
      go_enter Tryz.func87, Tryz.ntmps87
      go_wp2
      go_ret
      exact ⟨rfl, rfl⟩
  · have b1 : decide (0 ≤ n) = false := by simpa using h1
    rw [B_not (fun h => h1 h.1)]
    go_enter Tryz.func87, Tryz.ntmps87
    go_wp2
    go_ret
    exact ⟨rfl, rfl⟩
set_option maxRecDepth 100000 in
theorem isIndex_inst (n : Int) (hn : I64 n) (A : Option Addr) (L c : Nat) (hL : L ≤ 9223372036854775807) (w : World) : Calls Tryz.prog 103 #[.int .i64 n, .slice A L c] w fun e w' => e = .returned (.bool (B (0 ≤ n ∧ n < L))) ∧ w = w' := by
  obtain ⟨q1, q2⟩ := hn
  by_cases h1 : 0 ≤ n
  · have b1 : decide (0 ≤ n) = true := by simpa using h1
    by_cases h2 : n < L
    · have b2 : decide (n < L) = true := by simpa using h2
      rw [B_of ⟨h1, h2⟩]
      go_enter Tryz.func103, Tryz.ntmps103
      go_wp2
      go_ret
      exact ⟨rfl, rfl⟩
    · have b2 : decide (n < L) = false := by simpa using h2
      rw [B_not (fun h => h2 h.2)]
      go_enter Tryz.func103, Tryz.ntmps103
      go_wp2
      go_ret
      exact ⟨rfl, rfl⟩
  · have b1 : decide (0 ≤ n) = false := by simpa using h1
    rw [B_not (fun h => h1 h.1)]
    go_enter Tryz.func103, Tryz.ntmps103
    go_wp2
    go_ret
    exact ⟨rfl, rfl⟩
set_option maxRecDepth 100000 in
theorem isIndex_block (n : Int) (hn : I64 n) (A : Option Addr) (L c : Nat) (hL : L ≤ 9223372036854775807) (w : World) : Calls Tryz.prog 125 #[.int .i64 n, .slice A L c] w fun e w' => e = .returned (.bool (B (0 ≤ n ∧ n < L))) ∧ w = w' := by
  obtain ⟨q1, q2⟩ := hn
  by_cases h1 : 0 ≤ n
  · have b1 : decide (0 ≤ n) = true := by simpa using h1
    by_cases h2 : n < L
    · have b2 : decide (n < L) = true := by simpa using h2
      rw [B_of ⟨h1, h2⟩]
      go_enter Tryz.func125, Tryz.ntmps125
      go_wp2
      go_ret
      exact ⟨rfl, rfl⟩
    · have b2 : decide (n < L) = false := by simpa using h2
      rw [B_not (fun h => h2 h.2)]
      go_enter Tryz.func125, Tryz.ntmps125
      go_wp2
      go_ret
      exact ⟨rfl, rfl⟩
  · have b1 : decide (0 ≤ n) = false := by simpa using h1
    rw [B_not (fun h => h1 h.1)]
    go_enter Tryz.func125, Tryz.ntmps125
    go_wp2
    go_ret
    exact ⟨rfl, rfl⟩
set_option maxRecDepth 100000 in
theorem isIndex_ints (n : Int) (hn : I64 n) (A : Option Addr) (L c : Nat) (hL : L ≤ 9223372036854775807) (w : World) : Calls Tryz.prog 127 #[.int .i64 n, .slice A L c] w fun e w' => e = .returned (.bool (B (0 ≤ n ∧ n < L))) ∧ w = w' := by
  obtain ⟨q1, q2⟩ := hn
  by_cases h1 : 0 ≤ n
  · have b1 : decide (0 ≤ n) = true := by simpa using h1
    by_cases h2 : n < L
    · have b2 : decide (n < L) = true := by simpa using h2
      rw [B_of ⟨h1, h2⟩]
      go_enter Tryz.func127, Tryz.ntmps127
      go_wp2
      go_ret
      exact ⟨rfl, rfl⟩
    · have b2 : decide (n < L) = false := by simpa using h2
      rw [B_not (fun h => h2 h.2)]
      go_enter Tryz.func127, Tryz.ntmps127
      go_wp2
      go_ret
      exact ⟨rfl, rfl⟩
  · have b1 : decide (0 ≤ n) = false := by simpa using h1
    rw [B_not (fun h => h1 h.1)]
    go_enter Tryz.func127, Tryz.ntmps127
    go_wp2
    go_ret
    exact ⟨rfl, rfl⟩
set_option maxRecDepth 100000 in
theorem isIndexU_ints (n : Nat) (A : Option Addr) (L c : Nat) (hL : L ≤ 9223372036854775807) (w : World) : Calls Tryz.prog 114 #[.int .u64 n, .slice A L c] w fun e w' => e = .returned (.bool (B (n < L))) ∧ w = w' := by
  by_cases h2 : n < L
  · have b2 : decide (n < L) = true := by simpa using h2
    rw [B_of h2]
    go_enter Tryz.func114, Tryz.ntmps114
    go_wp2
    go_ret
    exact ⟨rfl, rfl⟩
  · have b2 : decide (n < L) = false := by simpa using h2
    rw [B_not h2]
    go_enter Tryz.func114, Tryz.ntmps114
    go_wp2
    go_ret
    exact ⟨rfl, rfl⟩
set_option maxRecDepth 100000 in
theorem isIndexU_str (n : Nat) (A : Option Addr) (L c : Nat) (hL : L ≤ 9223372036854775807) (w : World) : Calls Tryz.prog 116 #[.int .u64 n, .slice A L c] w fun e w' => e = .returned (.bool (B (n < L))) ∧ w = w' := by
  by_cases h2 : n < L
  · have b2 : decide (n < L) = true := by simpa using h2
    rw [B_of h2]
    go_enter Tryz.func116, Tryz.ntmps116
    go_wp2
    go_ret
    exact ⟨rfl, rfl⟩
  · have b2 : decide (n < L) = false := by simpa using h2
    rw [B_not h2]
    go_enter Tryz.func116, Tryz.ntmps116
    go_wp2
    go_ret
    exact ⟨rfl, rfl⟩
set_option maxRecDepth 100000 in
theorem isIndexU_int (n : Nat) (A : Option Addr) (L c : Nat) (hL : L ≤ 9223372036854775807) (w : World) : Calls Tryz.prog 128 #[.int .u64 n, .slice A L c] w fun e w' => e = .returned (.bool (B (n < L))) ∧ w = w' := by
  by_cases h2 : n < L
  · have b2 : decide (n < L) = true := by simpa using h2
    rw [B_of h2]
    go_enter Tryz.func128, Tryz.ntmps128
    go_wp2
    go_ret
    exact ⟨rfl, rfl⟩
  · have b2 : decide (n < L) = false := by simpa using h2
    rw [B_not h2]
    go_enter Tryz.func128, Tryz.ntmps128
    go_wp2
    go_ret
    exact ⟨rfl, rfl⟩
end Go.Proofs.YtnbgadndkepomaaGreatDoor

/- ssa: widths, kinds, cells. -/
namespace Go.Proofs.YtnbgadndkepomaaGreatDoor
open Go.RowKit

theorem quiet_same' {P : Program} {f : FuncId} {args : Array Value} {w : World} {n : Nat} {v : Value} (h : Calls P f args (w.drewN n) fun e w' => e = .returned v ∧ w.drewN n = w') : Calls P f args (w.drewN n) fun e w'' => e = .returned v ∧ ∃ m, w'' = w.drewN m :=
  Calls.quiet_of_same (h.mono fun _ _ ⟨a, b⟩ => ⟨a, b.symm⟩)
theorem PtAt.drewN {w : World} {p : Nat} {c : Cd} {x : Sl} (h : PtAt w p c x) (n : Nat) : PtAt (w.drewN n) p c x := h.later (Drew.below ⟨n, rfl⟩)
theorem wOf_nat {c : Cd} {k : Nat} (hk : k < c.ins.length) : wOf c k = c.ins[k].w := by unfold wOf; simp [hk]
theorem pOf_nat {c : Cd} {k : Nat} (hk : k < c.ins.length) : pOf c k = c.ins[k].p := by unfold pOf; simp [hk]
theorem opOf_nat {c : Cd} {k : Nat} (hk : k < c.ins.length) : opOf c k = c.ins[k].op := by unfold opOf; simp [hk]
theorem nOf_nat {c : Cd} {k : Nat} (hk : k < c.ins.length) : nOf c k = c.ins[k].n := by unfold nOf; simp [hk]
theorem ix_nat {α : Type} {v : Int} {l : List α} (h : Ix v l) : ∃ k : Nat, v = k ∧ k < l.length := ⟨v.toNat, by have := h.1; omega, by have := h.1; have := h.2; omega⟩
set_option maxRecDepth 100000 in
theorem width_any {W : World} {p : Nat} {c : Cd} {x : Sl} (h : PtAt W p c x) (v : Int) (hv : Ix v c.ins) :
    Calls Tryz.prog 106 #[.pointer (some ⟨p, 0, none⟩), .int .i64 v] W fun e w' => e = .returned (.int .i64 (wOf c v)) ∧ W = w' := by
  obtain ⟨k, rfl, hk⟩ := ix_nat hv
  rw [wOf_nat hk]
  obtain ⟨g, o, hs, hi⟩ := h.inst k hk
  have hc := hi.2.1
  obtain ⟨v, hv⟩ : ∃ v, Hid (c.ins[k].w = v) := ⟨_, Lib.hid rfl⟩
  rw [hv.out] at hc ⊢
  clear hi
  go_enter Tryz.func106, Tryz.ntmps106
  go_wp2
  go_ret
  exact ⟨rfl, rfl⟩
set_option maxRecDepth 100000 in
theorem isInteger_any {W : World} {p : Nat} {c : Cd} {x : Sl} (h : PtAt W p c x) (v : Int) (hv : Ix v c.ins) :
    Calls Tryz.prog 111 #[.pointer (some ⟨p, 0, none⟩), .int .i64 v] W fun e w' => e = .returned (.bool (B (Wid (wOf c v)))) ∧ W = w' := by
  go_enter Tryz.func111, Tryz.ntmps111
  go_wp2_with fail
  refine (width_any h v hv).mono ?_
  rintro e w' ⟨rfl, rfl⟩
  go_wp2_with fail
  refine (isWidth_any _ _).mono ?_
  rintro e w' ⟨rfl, rfl⟩
  go_wp2
  go_ret
  exact ⟨rfl, rfl⟩
set_option maxRecDepth 100000 in
theorem haveOneWidth_any {W : World} {p : Nat} {c : Cd} {x : Sl} (h : PtAt W p c x) (a b : Int) (ha : Ix a c.ins) (hb : Ix b c.ins) :
    Calls Tryz.prog 110 #[.pointer (some ⟨p, 0, none⟩), .int .i64 a, .int .i64 b] W fun e w' => e = .returned (.bool (B (Wid (wOf c a) ∧ wOf c a = wOf c b))) ∧ W = w' := by
  obtain ⟨R, hR⟩ : ∃ R, Hid (B (Wid (wOf c a) ∧ wOf c a = wOf c b) = R) := ⟨_, Lib.hid rfl⟩
  rw [hR.out]
  go_enter Tryz.func110, Tryz.ntmps110
  go_wp2_with fail
  refine (isInteger_any h a ha).mono ?_
  rintro e w' ⟨rfl, rfl⟩
  by_cases h1 : Wid (wOf c a)
  · rw [B_of h1]
    go_wp2_with fail
    refine (width_any h a ha).mono ?_
    rintro e w' ⟨rfl, rfl⟩
    go_wp2_with fail
    refine (width_any h b hb).mono ?_
    rintro e w' ⟨rfl, rfl⟩
    have hQ : Hid (R = (wOf c a == wOf c b)) := Lib.hid (by rw [← hR.out]; exact (B_eq (by simp [h1])).symm)
    clear hR h1
    generalize wOf c a = A at *
    generalize wOf c b = A2 at *
    go_wp2
    go_ret
    exact ⟨by rw [hQ.out]; rfl, rfl⟩
  · have hQ : Hid (R = false) := Lib.hid (by rw [← hR.out]; exact B_not (fun h => h1 h.1))
    rw [B_not h1]
    clear hR h1
    go_wp2
    go_ret
    exact ⟨by rw [hQ.out]; rfl, rfl⟩
set_option maxRecDepth 100000 in
theorem isKind_any {W : World} {p : Nat} {c : Cd} {x : Sl} (h : PtAt W p c x) (hok : c.st.length ≤ 8) (q : Int) (hq : I64 q) :
    Calls Tryz.prog 113 #[.pointer (some ⟨p, 0, none⟩), .int .i64 q] W fun e w' => e = .returned (.bool (B (KindP c q))) ∧ W = w' := by
  obtain ⟨R, hR⟩ : ∃ R, Hid (B (KindP c q) = R) := ⟨_, Lib.hid rfl⟩
  rw [hR.out]
  have c0 := h.s0
  go_enter Tryz.func113, Tryz.ntmps113
  go_wp2_with fail
  refine (isWidth_any q _).mono ?_
  rintro e w' ⟨rfl, rfl⟩
  by_cases h1 : Wid q
  · have hQ : Hid (R = true) := Lib.hid (by rw [← hR.out]; exact B_of (.inl h1))
    rw [B_of h1]
    clear hR h1
    go_wp2
    go_ret
    exact ⟨by rw [hQ.out]; rfl, rfl⟩
  · have hw : ∃ z, Hid (IntKind.i64.wrap (q - 65) = z ∧ I64 z ∧ ((0 ≤ z ∧ z < c.st.length) ↔ KindP c q)) := by
      by_cases h2 : -9223372036854775743 ≤ q
      · refine ⟨q - 65, Lib.hid ⟨IntWalk.i64_in _ (by have := hq.2; omega), ⟨by omega, by have := hq.2; omega⟩, ?_⟩⟩
        unfold KindP
        constructor
        · rintro ⟨h3, h4⟩; exact .inr ⟨by omega, h4⟩
        · rintro (h3 | ⟨h3, h4⟩)
          · exact absurd h3 h1
          · exact ⟨by omega, h4⟩
      · refine ⟨q - 65 + 18446744073709551616, Lib.hid ⟨?_, ⟨by have := hq.1; omega, by omega⟩, ?_⟩⟩
        · have := hq.1
          simp [IntKind.wrap, IntKind.bits, IntKind.signed]
          omega
        · unfold KindP
          constructor
          · rintro ⟨h3, h4⟩; have := hq.1; omega
          · rintro (h3 | ⟨h3, h4⟩)
            · exact absurd h3 h1
            · omega
    obtain ⟨z, hz⟩ := hw
    have hz1 := hz.out.1
    have hQ : Hid (R = B (0 ≤ z ∧ z < c.st.length)) := Lib.hid (by rw [← hR.out]; exact (B_congr hz.out.2.2).symm)
    rw [B_not h1]
    clear hR h1
    go_wp2_with fail
    refine (isIndex_ints z hz.out.2.1 _ _ _ (by omega) _).mono ?_
    rintro e w' ⟨rfl, rfl⟩
    clear hz1
    go_wp2
    go_ret
    exact ⟨by rw [hQ.out]; rfl, rfl⟩
end Go.Proofs.YtnbgadndkepomaaGreatDoor
