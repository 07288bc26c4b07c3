/- Joined texts: PVld1, LBld, PVld2, PVld3. -/
import Derived.Test.YtmkehecapjdfdaaGreatDoorQB10
import Derived.Test.YtmkehecapjdfdaaGreatDoorQL4
import Derived.Test.YtmkehecapjdfdaaGreatDoorShelf
import Derived.Test.YtmkehecapjdfdaaGreatDoorQB2
import Derived.Shelf.Strings.BuilderF
import Derived.Test.YtmkehecapjdfdaaGreatDoorQT
import Derived.Test.YtmkehecapjdfdaaGreatDoorShelfT

/- What fits: names, numbers, widths, fields. -/
namespace Go.Proofs.YtmkehecapjdfdaaGreatDoor
open Go.RowKit

def isKindG (k : Int) : Bool := decide (1 ≤ k) && decide (k < 32)
set_option maxRecDepth 100000 in
theorem isKind_any (k : Int) (w : World) : Calls Tryz.prog 72 #[.int .i64 k] w fun e w' => e = .returned (.bool (isKindG k)) ∧ w = w' := by
  unfold isKindG
  by_cases h1 : 1 ≤ k
  · have b1 : decide (1 ≤ k) = true := by simpa using h1
    go_enter Tryz.func72, Tryz.ntmps72
    go_wp2
    go_ret
    exact ⟨by simp [b1], rfl⟩
  · have b1 : decide (1 ≤ k) = false := by simpa using h1
    go_enter Tryz.func72, Tryz.ntmps72
    go_wp2
    go_ret
    exact ⟨by simp, rfl⟩
def widthG (x : Int) (used : Bool) : Bool := if used then decide (1 ≤ x) && decide (x ≤ 64) else x == 0
set_option maxRecDepth 100000 in
theorem widthFits_any (x : Int) (u : Bool) (w : World) : Calls Tryz.prog 135 #[.int .i64 x, .bool u] w fun e w' => e = .returned (.bool (widthG x u)) ∧ w = w' := by
  unfold widthG
  cases u with
  | false =>
    go_enter Tryz.func135, Tryz.ntmps135
    go_wp2
    go_ret
    exact ⟨by simp, rfl⟩
  | true =>
    by_cases h1 : 1 ≤ x
    · have b1 : decide (1 ≤ x) = true := by simpa using h1
      go_enter Tryz.func135, Tryz.ntmps135
      go_wp2
      go_ret
      exact ⟨by simp, rfl⟩
    · have b1 : decide (1 ≤ x) = false := by simpa using h1
      go_enter Tryz.func135, Tryz.ntmps135
      go_wp2
      go_ret
      exact ⟨by simp, rfl⟩
/-- NUMBERS -/
def numG (k : Int) (num : Nat) (u : Bool) : Bool := if u then (if k = 27 then decide (1 ≤ num) && decide (num ≤ 17) else true) else num == 0
set_option maxRecDepth 100000 in
theorem numberFits_any (k : Int) (nm pt : ByteArray) (num : Nat) (wid a : Int) (kv : Value) (u : Bool) (w : World) : Calls Tryz.prog 134 #[.agg #[Value.int IntKind.i64 k, Value.string nm, Value.string pt, Value.int IntKind.u64 num, Value.int IntKind.i64 wid, Value.int IntKind.i64 a, kv], .bool u] w fun e w' => e = .returned (.bool (numG k num u)) ∧ w' = w.alloc (Obj.cells #[Value.int IntKind.i64 k, Value.string nm, Value.string pt, Value.int IntKind.u64 num, Value.int IntKind.i64 wid, Value.int IntKind.i64 a, kv] 25) := by
  unfold numG
  have g0 : (w.alloc (Obj.cells #[Value.int IntKind.i64 k, Value.string nm, Value.string pt, Value.int IntKind.u64 num, Value.int IntKind.i64 wid, Value.int IntKind.i64 a, kv] 25)).cell? ⟨w.heap.size, 0, none⟩ = some (Value.int IntKind.i64 k) := (Box.new w 25 #[Value.int IntKind.i64 k, Value.string nm, Value.string pt, Value.int IntKind.u64 num, Value.int IntKind.i64 wid, Value.int IntKind.i64 a, kv]).cell 0
  have g3 : (w.alloc (Obj.cells #[Value.int IntKind.i64 k, Value.string nm, Value.string pt, Value.int IntKind.u64 num, Value.int IntKind.i64 wid, Value.int IntKind.i64 a, kv] 25)).cell? ⟨w.heap.size, 3, none⟩ = some (Value.int IntKind.u64 num) := (Box.new w 25 #[Value.int IntKind.i64 k, Value.string nm, Value.string pt, Value.int IntKind.u64 num, Value.int IntKind.i64 wid, Value.int IntKind.i64 a, kv]).cell 3
  cases u with
  | false =>
    have b0 : ((num : Int) == 0) = (num == 0) := by cases num <;> rfl
    go_enter Tryz.func134, Tryz.ntmps134
    go_wp2
    go_ret
    exact ⟨by simp, rfl⟩
  | true =>
    by_cases hk : k = 27
    · subst hk
      by_cases h1 : 1 ≤ num
      · have b1 : decide ((1 : Int) ≤ (num : Int)) = true := by simp; omega
        go_enter Tryz.func134, Tryz.ntmps134
        go_wp2
        go_ret
        refine ⟨?_, rfl⟩
        have : decide ((num : Int) ≤ 17) = decide (num ≤ 17) := by
          by_cases h : num ≤ 17
          · simp [h]; omega
          · simp [h]; omega
        simp
        omega
      · have b1 : decide ((1 : Int) ≤ (num : Int)) = false := by simp; omega
        go_enter Tryz.func134, Tryz.ntmps134
        go_wp2
        go_ret
        exact ⟨by simp, rfl⟩
    · have bk : (k == 27) = false := by simpa using hk
      go_enter Tryz.func134, Tryz.ntmps134
      go_wp2
      go_ret
      exact ⟨by simp, rfl⟩
/-- The name that a text is, if it is one. -/
def nameOf : List Tok × Nat × Nat → Str → Bool
  | ([t], 0, _), l => wordT t == wName && t.text == l
  | _, _ => false
def isNameS (l : Str) : Bool := nameOf (lexS l) l
theorem nameOf_err {ts : List Tok} {le la : Nat} (h : le ≠ 0) (l : Str) : nameOf (ts, le, la) l = false := by
  cases le with
  | zero => exact absurd rfl h
  | succ n => cases ts with
    | nil => rfl
    | cons a b => cases b <;> rfl
set_option maxRecDepth 100000 in
set_option maxHeartbeats 1600000 in
theorem isName_any (l : Str) (W : World) (hs : l.length ≤ 9223372036854775807) (ht : Tab W) (he : Errs W) :
    Calls Tryz.prog 173 #[.string ⟨l.toArray⟩] W fun e w' => e = .returned (.bool (isNameS l)) ∧ Below W.heap.size W w' := by
  have hl := lex_any ⟨l.toArray⟩ W hs ht he
  unfold LexPost at hl
  simp only [] at hl
  unfold isNameS
  obtain ⟨⟨ts, le, la⟩, hlx⟩ : ∃ x, lexS l = x := ⟨_, rfl⟩
  rw [hlx] at hl ⊢
  clear hlx
  by_cases hle : le = 0
  · subst hle
    cases ts with
    | nil =>
      rw [show nameOf ([], 0, la) l = false from rfl]
      go_enter Tryz.func173, Tryz.ntmps173
      go_wp2_with fail
      refine hl.mono ?_
      rintro e w1 ⟨v, rfl, T1, b1⟩
      obtain ⟨A, c, rfl⟩ := T1.form
      go_wp2
      go_ret
      exact ⟨rfl, b1⟩
    | cons t r =>
      cases r with
      | cons t2 r2 =>
        rw [show nameOf (t :: t2 :: r2, 0, la) l = false from rfl]
        go_enter Tryz.func173, Tryz.ntmps173
        go_wp2_with fail
        refine hl.mono ?_
        rintro e w1 ⟨v, rfl, T1, b1⟩
        obtain ⟨A, c, rfl⟩ := T1.form
        have hn : ¬ (((t :: t2 :: r2).length : Int) = 1) := by simp; omega
        go_wp2
        go_ret
        exact ⟨rfl, b1⟩
      | nil =>
        rw [show nameOf ([t], 0, la) l = (wordT t == wName && t.text == l) from rfl]
        go_enter Tryz.func173, Tryz.ntmps173
        go_wp2_with fail
        refine hl.mono ?_
        rintro e w1 ⟨v, rfl, T1, b1⟩
        obtain ⟨A, c, rfl⟩ := T1.form
        obtain ⟨g0, rfl, hcap, k0, k1, k2, k3⟩ := T1.tok 0 (by simp)
        simp only [List.getElem_cons_zero, Nat.zero_mul, Nat.zero_add] at k0 k1 k2 k3
        go_wp2_with fail
        refine (wordOf_any t _).mono ?_
        rintro e w2 ⟨rfl, hw2⟩
        have b2 : Below w1.heap.size w1 w2 := by rw [hw2]; exact (Below.refl _ _).alloc (Nat.le_refl _) _
        have b3 := b1.trans (b2.mono b1.size)
        have j1 := cell_later b2 k1
        clear hw2 k0 k1 k2 k3 T1 hl b1 b2
        cases hwt : (wordT t == wName) with
        | true =>
          have hw : (wordT t == [110, 97, 109, 101]) = true := hwt
          go_wp2
          go_ret
          exact ⟨by simp; first | (intro _; simpa using hwt) | (intro h; exact absurd h (by simpa using hwt)), b3⟩
        | false =>
          have hw : (wordT t == [110, 97, 109, 101]) = false := hwt
          go_wp2
          go_ret
          exact ⟨by simp; first | (intro _; simpa using hwt) | (intro h; exact absurd h (by simpa using hwt)), b3⟩
  · rw [nameOf_err hle]
    have hb : (((le : Nat) : Int) == 0) = false := by simp; omega
    go_enter Tryz.func173, Tryz.ntmps173
    go_wp2_with fail
    refine hl.mono ?_
    rintro e w1 ⟨v, rfl, T1, b1⟩
    go_wp2
    go_ret
    exact ⟨rfl, b1⟩
def textG (l : Str) (u : Bool) : Bool := if u then isNameS l else l == []
set_option maxRecDepth 100000 in
theorem textFits_any (l : Str) (u : Bool) (W : World) (hs : l.length ≤ 9223372036854775807) (ht : Tab W) (he : Errs W) :
    Calls Tryz.prog 133 #[.string ⟨l.toArray⟩, .bool u] W fun e w' => e = .returned (.bool (textG l u)) ∧ Below W.heap.size W w' := by
  unfold textG
  cases u with
  | false =>
    go_enter Tryz.func133, Tryz.ntmps133
    go_wp2
    go_ret
    exact ⟨by simp, Below.refl _ _⟩
  | true =>
    go_enter Tryz.func133, Tryz.ntmps133
    go_wp2_with fail
    refine (isName_any l W hs ht he).mono ?_
    rintro e w1 ⟨rfl, b1⟩
    go_wp2
    go_ret
    exact ⟨by simp, b1⟩
def fieldL : List Nat := [0, 0, 1, 9, 9, 9, 0, 1, 1, 1, 3, 9, 3, 1, 3, 0, 0, 1, 0, 4, 0, 12, 1, 0, 0, 1, 3, 4, 0, 8, 8, 1]
def sortL : List Str := [[], [], [105], [102], [105], [112], [98], [115], [115], [115], [115], [115], [115], [115], [115], [115], [115], [115], [115], [115], [115], [101], [101], [101], [101], [101], [101], [101], [101], [101], [101], [101]]
def kidL : List Str := [[], [], [], [], [], [], [], [101], [101], [101, 101], [101], [101], [], [], [], [], [101, 98], [101], [], [], [101], [], [], [101], [], [101], [], [101, 101], [101], [101], [101], []]
/-- The table of forms lies as it is laid. -/
def FTab (w : World) : Prop := ∀ k : Nat, k < 32 → w.cell? ⟨0, k * 3, none⟩ = some (.string ⟨(sortL.getD k []).toArray⟩) ∧
  w.cell? ⟨0, k * 3 + 1, none⟩ = some (.int .i64 (fieldL.getD k 0)) ∧ w.cell? ⟨0, k * 3 + 2, none⟩ = some (.string ⟨(kidL.getD k []).toArray⟩)
def bitU (f b : Nat) : Bool := f / b % 2 == 1
theorem bits_u : ∀ F : Nat, F < 16 → ∀ b : Nat, b ∈ [1, 2, 4, 8] → (bits BinOp.and IntKind.i64 (F : Int) (b : Int) != 0) = bitU F b := by decide
theorem fieldL_lt : ∀ k : Nat, k < 32 → fieldL.getD k 0 < 16 := by decide
def fieldsG (k : Nat) (nm pt : Str) (num : Nat) (wid : Int) : Bool :=
  textG nm (bitU (fieldL.getD k 0) 1) && textG pt (bitU (fieldL.getD k 0) 2) && numG k num (bitU (fieldL.getD k 0) 4) && widthG wid (bitU (fieldL.getD k 0) 8)
set_option maxRecDepth 100000 in
set_option maxHeartbeats 1600000 in
theorem fieldsFit_any (k : Nat) (hk : k < 32) (nm pt : Str) (num : Nat) (wid a : Int) (kv : Value) (w : World) (h1 : nm.length ≤ 9223372036854775807) (h2 : pt.length ≤ 9223372036854775807) (ht : Tab w) (he : Errs w) (hf : FTab w) :
    Calls Tryz.prog 73 #[.agg #[.int .i64 k, .string ⟨nm.toArray⟩, .string ⟨pt.toArray⟩, .int .u64 num, .int .i64 wid, .int .i64 a, kv]] w fun e w' => e = .returned (.bool (fieldsG k nm pt num wid)) ∧ Below w.heap.size w w' := by
  unfold fieldsG
  obtain ⟨_, f1, _⟩ := hf k hk
  have hF16 : fieldL.getD k 0 < 16 := fieldL_lt k hk
  generalize hF : fieldL.getD k 0 = F at *
  have hb1 : (bits BinOp.and IntKind.i64 (F : Int) 1 != 0) = bitU F 1 := bits_u F hF16 1 (by simp)
  have hb2 : (bits BinOp.and IntKind.i64 (F : Int) 2 != 0) = bitU F 2 := bits_u F hF16 2 (by simp)
  have hb4 : (bits BinOp.and IntKind.i64 (F : Int) 4 != 0) = bitU F 4 := bits_u F hF16 4 (by simp)
  have hb8 : (bits BinOp.and IntKind.i64 (F : Int) 8 != 0) = bitU F 8 := bits_u F hF16 8 (by simp)
  generalize bitU F 1 = u1 at *
  generalize bitU F 2 = u2 at *
  generalize bitU F 4 = u3 at *
  generalize bitU F 8 = u4 at *
  have f1a : ∀ o, (w.alloc o).cell? ⟨0, k * 3 + 1, none⟩ = some (.int .i64 F) := fun o => cell_later ((Below.refl _ _).alloc (Nat.le_refl _) o) f1
  have B0 := Box.new w 25 #[.int .i64 k, .string ⟨nm.toArray⟩, .string ⟨pt.toArray⟩, .int .u64 num, .int .i64 wid, .int .i64 a, kv]
  have bA : Below w.heap.size w (w.alloc (.cells #[.int .i64 k, .string ⟨nm.toArray⟩, .string ⟨pt.toArray⟩, .int .u64 num, .int .i64 wid, .int .i64 a, kv] 25)) := (Below.refl _ _).alloc (Nat.le_refl _) _
  have tA := Tab.later bA ht
  have eA := Errs.later bA he
  go_enter Tryz.func73, Tryz.ntmps73
  go_wp2_with fail
  refine (textFits_any nm u1 _ h1 tA eA).mono ?_
  rintro e w1 ⟨rfl, b1⟩
  have B1 : Box w1 w.heap.size 25 #[.int .i64 k, .string ⟨nm.toArray⟩, .string ⟨pt.toArray⟩, .int .u64 num, .int .i64 wid, .int .i64 a, kv] := B0.below b1
  have c1 := bA.trans (b1.mono bA.size)
  have t1 := Tab.later b1 tA
  have e1 := Errs.later b1 eA
  have q2 : w1.cell? ⟨w.heap.size, 2, none⟩ = some (Value.string { data := pt.toArray }) := B1.cell 2
  cases x1 : textG nm u1 with
  | false =>
    go_wp2
    go_ret
    exact ⟨by simp [x1], c1⟩
  | true =>
    go_wp2_with fail
    refine (textFits_any pt u2 _ h2 t1 e1).mono ?_
    rintro e w2 ⟨rfl, b2⟩
    have B2 : Box w2 w.heap.size 25 #[.int .i64 k, .string ⟨nm.toArray⟩, .string ⟨pt.toArray⟩, .int .u64 num, .int .i64 wid, .int .i64 a, kv] := B1.below b2
    have c2 := c1.trans (b2.mono c1.size)
    cases x2 : textG pt u2 with
    | false =>
      go_wp2
      go_ret
      exact ⟨by simp [x2], c2⟩
    | true =>
      have p0 : w2.cell? ⟨w.heap.size, 0, none⟩ = some (Value.int IntKind.i64 k) := B2.cell 0
      have p1 : w2.cell? ⟨w.heap.size, 1, none⟩ = some (Value.string { data := nm.toArray }) := B2.cell 1
      have p2 : w2.cell? ⟨w.heap.size, 2, none⟩ = some (Value.string { data := pt.toArray }) := B2.cell 2
      have p3 : w2.cell? ⟨w.heap.size, 3, none⟩ = some (Value.int IntKind.u64 num) := B2.cell 3
      have p4 : w2.cell? ⟨w.heap.size, 4, none⟩ = some (Value.int IntKind.i64 wid) := B2.cell 4
      have p5 : w2.cell? ⟨w.heap.size, 5, none⟩ = some (Value.int IntKind.i64 a) := B2.cell 5
      have p6 : w2.cell? ⟨w.heap.size, 6, none⟩ = some (kv) := B2.cell 6
      go_wp2_with fail
      refine (numberFits_any k ⟨nm.toArray⟩ ⟨pt.toArray⟩ num wid a kv u3 w2).mono ?_
      rintro e w3 ⟨rfl, hw3⟩
      have b3 : Below w2.heap.size w2 w3 := by rw [hw3]; exact (Below.refl _ _).alloc (Nat.le_refl _) _
      have B3 : Box w3 w.heap.size 25 #[.int .i64 k, .string ⟨nm.toArray⟩, .string ⟨pt.toArray⟩, .int .u64 num, .int .i64 wid, .int .i64 a, kv] := B2.below b3
      have c3 := c2.trans (b3.mono c2.size)
      have r4 : w3.cell? ⟨w.heap.size, 4, none⟩ = some (Value.int IntKind.i64 wid) := B3.cell 4
      clear hw3
      cases x3 : numG k num u3 with
      | false =>
        go_wp2
        go_ret
        exact ⟨by simp [x3], c3⟩
      | true =>
        go_wp2_with fail
        refine (widthFits_any wid u4 w3).mono ?_
        rintro e w4 ⟨rfl, rfl⟩
        go_wp2
        go_ret
        exact ⟨by simp [x1, x2, x3], c3⟩
end Go.Proofs.YtmkehecapjdfdaaGreatDoor

/- strings.Builder, as the statements use it. -/
namespace Go.Proofs.YtmkehecapjdfdaaGreatDoor
open Go.RowKit

/-- A builder that a call has made itself, and what it holds. -/
def Bld (w : World) (B b : Nat) (l : List UInt8) : Prop := Lib.IsBuilderF 45 5 B b (Lib.byteCells l) w
theorem bld_new (w : World) : Bld (w.alloc (.cells #[.pointer none, .slice none 0 0] 45)) w.heap.size w.heap.size [] := Lib.IsBuilderF.of (Lib.fresh_isBuilder _ _ _)
theorem bldAt_later {T e : TypeId} {B b : Nat} {p : Value} {bs : List Value} {w w' : World} (h : Lib.BuilderAtF T e B b p bs w) (hb : Below w.heap.size w w') : Lib.BuilderAtF T e B b p bs w' := by
  have hlt := h.lt
  obtain ⟨hB, v, hbk, hown, hne⟩ := h
  exact ⟨hB, v, (hb.block b hlt).trans hbk, hown.kept (row := none) ⟨hb.os, hb.tape, hb.output, hb.size, fun k hk _ => hb.block k hk⟩ (by cases hv : v.ownBlock <;> simp), hne⟩
theorem Bld.later {w w' : World} {B b : Nat} {l : List UInt8} (h : Bld w B b l) (hb : Below w.heap.size w w') : Bld w' B b l :=
  h.elim (fun x => Or.inl (bldAt_later x hb)) (fun x => Or.inr (bldAt_later x hb))
theorem Bld.lt {w : World} {B b : Nat} {l : List UInt8} (h : Bld w B b l) : b < w.heap.size := h.elim (fun x => x.lt) (fun x => x.lt)
theorem Bld.le {w : World} {B b : Nat} {l : List UInt8} (h : Bld w B b l) : B ≤ b := h.elim (fun x => x.1) (fun x => x.1)

theorem bld_len (B b : Nat) (l : List UInt8) (w : World) (h : Bld w B b l) :
    Calls Tryz.prog 24 #[.pointer (some ⟨b, 0, none⟩)] w fun e w' => e = .returned (.int .i64 l.length) ∧ w' = w := by
  have := Any.Builder_Len_f Tryz.lays170 B b (Lib.byteCells l) w h
  rw [Lib.byteCells_length] at this
  exact this
theorem bld_string (B b : Nat) (l : List UInt8) (w : World) (h : Bld w B b l) :
    Calls Tryz.prog 25 #[.pointer (some ⟨b, 0, none⟩)] w fun e w' => e = .returned (.string ⟨l.toArray⟩) ∧ Bld w' B b l ∧ Below B w w' :=
  Any.Builder_String_any_f Tryz.lays169 Tryz.Builder_Extra_169 B b l w h (by have := h.lt; have := h.le; omega)
theorem bld_write (B b : Nat) (l : List UInt8) (s : ByteArray) (w : World) (h : Bld w B b l) (hl : l.length + s.size ≤ 100000000) :
    Calls Tryz.prog 22 #[.pointer (some ⟨b, 0, none⟩), .string s] w fun e w' => e = .returned (.tuple #[.int .i64 s.size, .nilIface]) ∧ Bld w' B b (l ++ s.data.toList) ∧ Below B w w' := by
  refine (Any.Builder_WriteString_f (ρ := Tryz.lays105_ren) { Tryz.lays105 with } Tryz.Builder_Extra_105 B b (Lib.byteCells l) s w h (by rw [Lib.byteCells_length]; omega) (by have := h.lt; have := h.le; omega)).mono fun e w' ⟨h1, h2, h3⟩ => ⟨h1, Or.inr ?_, h3⟩
  rw [Lib.byteCells_append]
  exact h2
end Go.Proofs.YtmkehecapjdfdaaGreatDoor

/- The sorts of nodes. -/
namespace Go.Proofs.YtmkehecapjdfdaaGreatDoor
open Go.RowKit

theorem gAt_form {w : World} {t : G} {kv : Value} (h : gAt w t kv) : ∃ A c, kv = .slice A t.kids.length c := by
  cases t
  obtain ⟨A, c, e, _⟩ := h
  exact ⟨A, c, e⟩
def sortOf (k : Int) : Str := if isKindG k = true ∧ k ≠ 1 then sortL.getD k.toNat [] else [32]
def sortsS : List G → Str
  | [] => []
  | t :: r => sortOf t.kind ++ sortsS r
theorem sortsS_append : ∀ a b, sortsS (a ++ b) = sortsS a ++ sortsS b
  | [], b => rfl
  | t :: r, b => by simp [sortsS, sortsS_append r b]
theorem sortL_len : ∀ k : Nat, k < 32 → (sortL.getD k []).length ≤ 1 := by decide
theorem sortOf_len (k : Int) : (sortOf k).length ≤ 1 := by
  unfold sortOf
  split
  · rename_i h
    have h1 := h.1
    unfold isKindG at h1
    simp only [Bool.and_eq_true, decide_eq_true_eq] at h1
    exact sortL_len _ (by omega)
  · exact Nat.le_refl _
theorem sortsS_len : ∀ l, (sortsS l).length ≤ l.length
  | [] => Nat.le_refl _
  | t :: r => by
    have h1 := sortOf_len t.kind
    have h2 := sortsS_len r
    simp only [sortsS, List.length_append, List.length_cons]
    omega
def SoRel (W : World) (l : List G) (v : Value) (wr : World) : Prop :=
  ∃ i : Nat, v = .int .i64 i ∧ i ≤ l.length ∧ Bld wr W.heap.size W.heap.size (sortsS (l.take i)) ∧ Below W.heap.size W wr
set_option maxRecDepth 100000 in
set_option maxHeartbeats 3200000 in
theorem sortsOf_any (l : List G) (A : Option Addr) (c : Nat) (W : World) (hn : l.length ≤ 2000) (hr : gRow W A 0 l) (hf : FTab W) :
    Calls Tryz.prog 136 #[.slice A l.length c] W fun e w' => e = .returned (.string ⟨(sortsS l).toArray⟩) ∧ Below W.heap.size W w' := by
  have bld0 := bld_new W
  have bl0 : Below W.heap.size W (W.alloc (.cells #[.pointer none, .slice none 0 0] 45)) := (Below.refl _ _).alloc (Nat.le_refl _) _
  go_enter Tryz.func136, Tryz.ntmps136
  go_wp2_with fail
  go_loopw [9] (fun v wr => SoRel W l v wr) (fun v _ => l.length - iOf v)
  case atStart => exact ⟨0, rfl, Nat.zero_le _, bld0, bl0⟩
  case round =>
    rename_i wr
    obtain ⟨i, rfl, hil, hb, hbl⟩ := hrel
    clear bld0 bl0
    by_cases hi2 : i < l.length
    · obtain ⟨g, o, kv, rfl, c0, c1, c2, c3, c4, c5, c6, hk⟩ := gRow_at l 0 (gRow_later hbl A 0 l hr) i hi2
      simp only [Nat.zero_add] at c0 c1 c2 c3 c4 c5 c6
      obtain ⟨t, ht⟩ : ∃ t, Hid (l[i] = t) := ⟨_, Lib.hid rfl⟩
      rw [ht.out] at c0 c1 c2 c3 c4 c5 hk
      obtain ⟨A2, C2, rfl⟩ := gAt_form hk
      obtain ⟨K, hK⟩ : ∃ K, Hid (t.kind = K) := ⟨_, Lib.hid rfl⟩
      rw [hK.out] at c0
      have hw2 : IntKind.i64.wrap ((i : Int) + 1) = ((i + 1 : Nat) : Int) := by rw [IntWalk.i64_in _ (by omega)]; omega
      have B7 := Box.new wr 25 #[Value.int IntKind.i64 K, Value.string (t).name, Value.string (t).part, Value.int IntKind.u64 (t).num, Value.int IntKind.i64 (t).wid, Value.int IntKind.i64 (t).at_, Value.slice A2 t.kids.length C2]
      have b7 : Below wr.heap.size wr (wr.alloc (Obj.cells #[Value.int IntKind.i64 K, Value.string (t).name, Value.string (t).part, Value.int IntKind.u64 (t).num, Value.int IntKind.i64 (t).wid, Value.int IntKind.i64 (t).at_, Value.slice A2 t.kids.length C2] 25)) := (Below.refl _ _).alloc (Nat.le_refl _) _
      have hsz := hbl.size
      have hb7 := hb.later b7
      have hbl7 := hbl.trans (b7.mono hsz)
      have k7 := B7.cell 0
      have hS : sortsS (l.take (i + 1)) = sortsS (l.take i) ++ sortOf K := by
        rw [List.take_succ_eq_append_getElem hi2, sortsS_append, ht.out, ← hK.out]
        simp [sortsS]
      have hlen := sortsS_len (l.take i)
      have hlen2 : (l.take i).length ≤ 2000 := by simp; omega
      have hf7 : ∀ k : Nat, k < 32 → (wr.alloc (Obj.cells #[Value.int IntKind.i64 K, Value.string (t).name, Value.string (t).part, Value.int IntKind.u64 (t).num, Value.int IntKind.i64 (t).wid, Value.int IntKind.i64 (t).at_, Value.slice A2 t.kids.length C2] 25)).cell? ⟨0, k * 3, none⟩ = some (.string ⟨(sortL.getD k []).toArray⟩) := fun k hk => cell_later b7 (cell_later hbl (hf k hk).1)
      clear hk hf
      go_wp2_with fail
      refine (isKind_any K _).mono ?_
      rintro e w' ⟨rfl, rfl⟩
      cases hk1 : isKindG K with
      | false =>
        have hso : sortOf K = [32] := by unfold sortOf; rw [if_neg (by rw [hk1]; simp)]
        go_wp2_with fail
        refine (bld_write _ _ _ ⟨#[32]⟩ _ hb7 (by simp [ByteArray.size]; omega)).mono ?_
        rintro e w' ⟨rfl, h1, h2⟩
        go_wp2_with fail
        go_roundw
        case rel => exact ⟨i + 1, rfl, hi2, by rw [hS, hso]; simpa using h1, hbl7.trans h2⟩
        case measure => simp only [iOf]; omega
      | true =>
        by_cases hk2 : K = 1
        · have hso : sortOf K = [32] := by unfold sortOf; rw [if_neg (fun h => h.2 hk2)]
          subst hk2
          go_wp2_with fail
          refine (bld_write _ _ _ ⟨#[32]⟩ _ hb7 (by simp [ByteArray.size]; omega)).mono ?_
          rintro e w' ⟨rfl, h1, h2⟩
          go_wp2_with fail
          go_roundw
          case rel => exact ⟨i + 1, rfl, hi2, by rw [hS, hso]; simpa using h1, hbl7.trans h2⟩
          case measure => simp only [iOf]; omega
        · have hso : sortOf K = sortL.getD K.toNat [] := by unfold sortOf; rw [if_pos ⟨hk1, hk2⟩]
          have bk : (K == 1) = false := by simpa using hk2
          obtain ⟨m, hm, hm32⟩ : ∃ m : Nat, K = (m : Int) ∧ m < 32 := by
            unfold isKindG at hk1
            simp only [Bool.and_eq_true, decide_eq_true_eq] at hk1
            exact ⟨K.toNat, by omega, by omega⟩
          subst hm
          rw [Int.toNat_natCast] at hso
          clear hk2
          have hsl := sortL_len m hm32
          have f7 := hf7 m hm32
          go_wp2_with fail
          have hsz1 : (⟨(sortL.getD m []).toArray⟩ : ByteArray).size ≤ 1 := by
            show (sortL.getD m []).toArray.size ≤ 1
            rw [List.size_toArray]
            exact hsl
          refine (bld_write _ _ _ ⟨(sortL.getD m []).toArray⟩ _ hb7 (by omega)).mono ?_
          rintro e w' ⟨rfl, h1, h2⟩
          go_wp2_with fail
          go_roundw
          case rel => exact ⟨i + 1, rfl, hi2, by rw [hS, hso]; simpa using h1, hbl7.trans h2⟩
          case measure => simp only [iOf]; omega
    · have hie : i = l.length := by omega
      subst hie
      rw [List.take_length] at hb
      go_wp2_with fail
      refine (bld_string _ _ _ _ hb).mono ?_
      rintro e w' ⟨rfl, h1, h2⟩
      go_wp2
      go_ret
      exact ⟨rfl, hbl.trans h2⟩
end Go.Proofs.YtmkehecapjdfdaaGreatDoor

/- What kids fit. -/
namespace Go.Proofs.YtmkehecapjdfdaaGreatDoor
open Go.RowKit

def kidsG (k : Nat) (s : Str) : Bool :=
  if k = 1 then Lib.trimLeftB s 105 == [98] else if k = 2 then s != [] && Lib.trimLeftB s 102 == [] else if k = 4 then Lib.trimLeftB s 112 == [98] else if k = 6 then Lib.trimLeftB s 115 == []
  else if k = 31 then Lib.trimLeftB s 101 == [] else if k = 15 then s == [101, 98] || s == [101, 98, 98] else s == kidL.getD k []
theorem trim_any (s : Str) (c : UInt8) (hc : c.toNat < 128) (w : World) : Calls Tryz.prog 137 #[.string ⟨s.toArray⟩, .string ⟨#[c]⟩] w fun e w' => e = .returned (.string ⟨(Lib.trimLeftB s c).toArray⟩) ∧ w' = w :=
  Tryz.strings_TrimLeft_one ⟨s.toArray⟩ c hc w
set_option maxRecDepth 100000 in
set_option maxHeartbeats 3200000 in
theorem kidsFit_any (k : Nat) (hk : k < 32) (nm pt : ByteArray) (num : Nat) (wid a : Int) (l : List G) (A : Option Addr) (c : Nat) (W : World) (hn : l.length ≤ 2000) (hr : gRow W A 0 l) (hf : FTab W) :
    Calls Tryz.prog 74 #[.agg #[Value.int IntKind.i64 k, Value.string nm, Value.string pt, Value.int IntKind.u64 num, Value.int IntKind.i64 wid, Value.int IntKind.i64 a, Value.slice A l.length c]] W fun e w' => e = .returned (.bool (kidsG k (sortsS l))) ∧ Below W.heap.size W w' := by
  obtain ⟨s, hs0⟩ : ∃ s, Hid (sortsS l = s) := ⟨_, Lib.hid rfl⟩
  rw [hs0.out]
  have B0 := Box.new W 25 #[Value.int IntKind.i64 k, Value.string nm, Value.string pt, Value.int IntKind.u64 num, Value.int IntKind.i64 wid, Value.int IntKind.i64 a, Value.slice A l.length c]
  have bA : Below W.heap.size W (W.alloc (Obj.cells #[Value.int IntKind.i64 k, Value.string nm, Value.string pt, Value.int IntKind.u64 num, Value.int IntKind.i64 wid, Value.int IntKind.i64 a, Value.slice A l.length c] 25)) := (Below.refl _ _).alloc (Nat.le_refl _) _
  have hfA : FTab (W.alloc (Obj.cells #[Value.int IntKind.i64 k, Value.string nm, Value.string pt, Value.int IntKind.u64 num, Value.int IntKind.i64 wid, Value.int IntKind.i64 a, Value.slice A l.length c] 25)) := fun j hj => ⟨cell_later bA (hf j hj).1, cell_later bA (hf j hj).2.1, cell_later bA (hf j hj).2.2⟩
  go_enter Tryz.func74, Tryz.ntmps74
  go_wp2_with fail
  refine (sortsOf_any l A c _ hn (gRow_later bA A 0 l hr) hfA).mono ?_
  rintro e w1 ⟨rfl, b1⟩
  have B1 : Box w1 W.heap.size 25 #[Value.int IntKind.i64 k, Value.string nm, Value.string pt, Value.int IntKind.u64 num, Value.int IntKind.i64 wid, Value.int IntKind.i64 a, Value.slice A l.length c] := B0.below b1
  have c1 := bA.trans (b1.mono bA.size)
  have q0 := B1.cell 0
  obtain ⟨_, _, f2⟩ := hf k hk
  have f2 := cell_later c1 f2
  rw [hs0.out]
  clear hf hfA b1 bA B0 hr
  by_cases k1 : k = 1
  · subst k1
    go_wp2_with fail
    refine (trim_any s 105 (by decide) _).mono ?_
    rintro e w2 ⟨rfl, rfl⟩
    go_wp2
    go_ret
    exact ⟨by simp [kidsG], c1⟩
  have b1 : ((k : Int) == 1) = false := by simp; omega
  by_cases k2 : k = 2
  · subst k2
    by_cases he : s = []
    · subst he
      go_wp2
      go_ret
      exact ⟨by simp [kidsG], c1⟩
    · have hs : (s == []) = false := by simpa using he
      go_wp2_with fail
      refine (trim_any s 102 (by decide) _).mono ?_
      rintro e w2 ⟨rfl, rfl⟩
      go_wp2
      go_ret
      exact ⟨by simp [kidsG, he], c1⟩
  have b2 : ((k : Int) == 2) = false := by simp; omega
  by_cases k4 : k = 4
  · subst k4
    go_wp2_with fail
    refine (trim_any s 112 (by decide) _).mono ?_
    rintro e w2 ⟨rfl, rfl⟩
    go_wp2
    go_ret
    exact ⟨by simp [kidsG], c1⟩
  have b4 : ((k : Int) == 4) = false := by simp; omega
  by_cases k6 : k = 6
  · subst k6
    go_wp2_with fail
    refine (trim_any s 115 (by decide) _).mono ?_
    rintro e w2 ⟨rfl, rfl⟩
    go_wp2
    go_ret
    exact ⟨by simp [kidsG], c1⟩
  have b6 : ((k : Int) == 6) = false := by simp; omega
  by_cases k31 : k = 31
  · subst k31
    go_wp2_with fail
    refine (trim_any s 101 (by decide) _).mono ?_
    rintro e w2 ⟨rfl, rfl⟩
    go_wp2
    go_ret
    exact ⟨by simp [kidsG], c1⟩
  have b31 : ((k : Int) == 31) = false := by simp; omega
  by_cases k15 : k = 15
  · subst k15
    cases hs : (s == [101, 98]) with
    | true =>
      go_wp2
      go_ret
      exact ⟨by simp [kidsG, hs], c1⟩
    | false =>
      go_wp2
      go_ret
      exact ⟨by simp [kidsG, hs], c1⟩
  have b15 : ((k : Int) == 15) = false := by simp; omega
  go_wp2
  go_ret
  exact ⟨by simp [kidsG, k1, k2, k4, k6, k31, k15], c1⟩
end Go.Proofs.YtmkehecapjdfdaaGreatDoor
