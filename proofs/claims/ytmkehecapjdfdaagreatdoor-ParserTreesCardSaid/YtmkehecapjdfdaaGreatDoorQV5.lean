/- Joined texts: PFails, PLex. -/
import Derived.Test.YtmkehecapjdfdaaGreatDoorQB11
import Derived.Test.YtmkehecapjdfdaaGreatDoorQV3
import Derived.Test.YtmkehecapjdfdaaGreatDoorQL4

/- A source that fails. -/
namespace Go.Proofs.YtmkehecapjdfdaaGreatDoor
open Go.RowKit

/-- Offsets as they can be read. -/
def IRow (w : World) (A : Option Addr) (ks : List Nat) : Prop := ∀ (i : Nat) (h : i < ks.length), ∃ g o, A = some ⟨g, o, none⟩ ∧ w.cell? ⟨g, o + i, none⟩ = some (.int .i64 ks[i])
theorem IRow.later {w w' : World} {A : Option Addr} {ks : List Nat} (hb : Below w.heap.size w w') (h : IRow w A ks) : IRow w' A ks := fun i hi => by
  obtain ⟨g, o, e, hc⟩ := h i hi
  exact ⟨g, o, e, cell_later hb hc⟩
def dg10 (ks : List Nat) : List (Nat × Nat) := ks.map fun k => (10, k)
theorem dg10_snoc (ks : List Nat) (k : Nat) : dgV (dg10 (ks ++ [k])) = dgV (dg10 ks) ++ [.int .i64 (10 : Nat), .int .i64 k] := by
  simp [dg10, dgV_append, dgV]
/-- The zero node as it is read. -/
def gZ : G := .mk 0 ⟨#[]⟩ ⟨#[]⟩ 0 0 0 []
theorem gZ_of {w : World} {ok : Nat → Prop} {kv : Value} (h : nodeAt w ok T.zero kv) : gAt w gZ kv := by
  have h := gAt_node _ _ h
  simp only [T.zero, T.toG, T.toG.toGs] at h
  simpa only [gZ, gAt] using h
theorem same_zero (w : World) (A A' : Option Addr) (c c' : Nat) (h1 : gAt w gZ (.slice A 0 c)) (h2 : gAt w gZ (.slice A' 0 c')) :
    Calls Tryz.prog 14 #[.agg #[Value.int IntKind.i64 0, Value.string { data := #[] }, Value.string { data := #[] }, Value.int IntKind.u64 0, Value.int IntKind.i64 0, Value.int IntKind.i64 0, Value.slice A 0 c], .agg #[Value.int IntKind.i64 0, Value.string { data := #[] }, Value.string { data := #[] }, Value.int IntKind.u64 0, Value.int IntKind.i64 0, Value.int IntKind.i64 0, Value.slice A' 0 c']] w fun e w' => e = .returned (.bool true) ∧ Below w.heap.size w w' :=
  same_all gZ gZ w A A' c c' h1 h2
def FlRel (W : World) (ks : List Nat) (v a : Value) (wr : World) : Prop :=
  ∃ i : Nat, a = .int .i64 i ∧ i ≤ ks.length ∧ wr.ownsRow W.heap.size DT 2 v i (dgV (dg10 (ks.take i))) ∧ Below W.heap.size W wr
set_option maxRecDepth 100000 in
set_option maxHeartbeats 3200000 in
theorem fails_yes (s : ByteArray) (ks : List Nat) (A : Option Addr) (c : Nat) (W : World) (hk : ks.length ≤ 1000) (h : Hid (parseS s.data.toList = (T.zero, dg10 ks)))
    (hlex : ∀ w, Below W.heap.size W w → LexAt s w) (hr : IRow W A ks) :
    Calls Tryz.prog 27 #[.string s, .slice A ks.length c] W fun e w' => e = .returned (.bool true) ∧ Below W.heap.size W w' := by
  obtain ⟨i0, hi, hz0, hz1, hz2⟩ := info_parts Tryz.infoDiag
  go_enter Tryz.func27, Tryz.ntmps27
  go_wp2_with (first | at_builtin | fail)
  go_loopw [5, 12] (fun v a wr => FlRel W ks v a wr) (fun _ a _ => ks.length - iOf a)
  case atStart => exact ⟨0, rfl, Nat.zero_le _, World.ownsRow_nil _ _ _ _, Below.refl _ _⟩
  case round =>
    rename_i wr
    obtain ⟨i, rfl, hil, hrow, hB⟩ := hrel
    obtain ⟨VA, VC, rfl⟩ := ownsRow_form hrow
    by_cases hi2 : i < ks.length
    · obtain ⟨g, o, rfl, hcell⟩ := (hr.later hB) i hi2
      obtain ⟨k, hke⟩ : ∃ k, ks[i] = k := ⟨_, rfl⟩
      have hts : Hid (dgV (dg10 (ks.take (i + 1))) = dgV (dg10 (ks.take i)) ++ [.int .i64 (10 : Nat), .int .i64 k]) := Lib.hid (by rw [List.take_succ_eq_append_getElem hi2, hke, dg10_snoc])
      rw [hke] at hcell
      clear hke
      have hw2 : IntKind.i64.wrap ((i : Int) + 1) = ((i + 1 : Nat) : Int) := by rw [IntWalk.i64_in _ (by omega)]; omega
      go_wp2_with (at_builtin; refine wpList_append_own _ rfl (.tmp 16) (.tmp 19) _ rfl W.heap.size DT i0 _ 2 16 Tryz.underlying28 hi hz0 hz1 hz2 rfl (by decide) _ i (dgV (dg10 (ks.take i))) rfl (World.ownsRow.alloc hrow _) ⟨wr.heap.size, 0, none⟩ 1 1 [.int .i64 10, .int .i64 k] rfl rfl ?c1 ?c2 ?c3 ?c4 ?c5 ?_)
      case c1 => exact World.news_of_block (heap_alloc_new _ _)
      case c2 => intro u hu; simp at hu; rcases hu with rfl | rfl <;> rfl
      case c3 => unfold maxLen; omega
      case c4 => omega
      case c5 => have := hB.size; simp; omega
      intro v' w2 hown' hgrow _
      have hB3 : Below W.heap.size W w2 := (hB.alloc hB.size _).grown hgrow (by have := hB.size; simp; omega) (fun g hg => (World.ownsRow.lt hrow g hg).1)
      have hown2 : w2.ownsRow W.heap.size DT 2 v' (i + 1) (dgV (dg10 (ks.take (i + 1)))) := by rw [hts.out]; exact hown'
      clear hown' hgrow hts hcell hrow hB
      go_wp2_with fail
      go_roundw
      case rel => exact ⟨i + 1, rfl, by omega, hown2, hB3⟩
      case measure => simp only [iOf]; omega
    · have hie : i = ks.length := by omega
      subst hie
      rw [List.take_length] at hrow
      go_wp2_with fail
      refine (parse_any (hlex _ hB)).mono ?_
      rintro e w2 ⟨A2, c2, d2, he, nd, drow, hB2⟩
      rw [h.out] at he nd drow
      obtain rfl : e = .returned (.tuple #[.agg #[Value.int IntKind.i64 0, Value.string { data := #[] }, Value.string { data := #[] }, Value.int IntKind.u64 0, Value.int IntKind.i64 0, Value.int IntKind.i64 0, Value.slice A2 0 c2], d2]) := he
      have g2 := gZ_of nd
      have hl : (dg10 ks).length = ks.length := by simp [dg10]
      replace drow : w2.ownsRow wr.heap.size DT 2 d2 ks.length (dgV (dg10 ks)) := by rw [← hl]; exact drow
      obtain ⟨DA, DC, rfl⟩ := ownsRow_form drow
      have hB4 := hB.trans (hB2.mono hB.size)
      have nb : Below w2.heap.size w2 (w2.alloc (Obj.cells #[Value.int IntKind.i64 0, Value.string { data := #[] }, Value.string { data := #[] }, Value.int IntKind.u64 0, Value.int IntKind.i64 0, Value.int IntKind.i64 0, Value.slice A2 0 c2] 25)) := (Below.refl _ _).alloc (Nat.le_refl _) _
      have N := Box.new w2 25 #[Value.int IntKind.i64 0, Value.string { data := #[] }, Value.string { data := #[] }, Value.int IntKind.u64 0, Value.int IntKind.i64 0, Value.int IntKind.i64 0, Value.slice A2 0 c2]
      have gz := gAt_later nb _ _ g2
      have D1 : Dg w2 (.slice DA ks.length DC) (dg10 ks) := ⟨wr.heap.size, by rw [hl]; exact drow⟩
      have D2 : Dg w2 (.slice VA ks.length VC) (dg10 ks) := ⟨W.heap.size, by rw [hl]; exact hrow.kept (only_of_below hB2 none) (by cases (Value.slice VA ks.length VC).ownBlock <;> simp)⟩
      have E1 := D1.later nb
      have E2 := D2.later nb
      have hB5 : Below W.heap.size W (w2.alloc (Obj.cells #[Value.int IntKind.i64 0, Value.string { data := #[] }, Value.string { data := #[] }, Value.int IntKind.u64 0, Value.int IntKind.i64 0, Value.int IntKind.i64 0, Value.slice A2 0 c2] 25)) := hB4.trans (nb.mono hB4.size)
      go_upto_region 8 with fail
      obtain ⟨w4, hy⟩ : ∃ Y, w2.alloc (Obj.cells #[Value.int IntKind.i64 0, Value.string { data := #[] }, Value.string { data := #[] }, Value.int IntKind.u64 0, Value.int IntKind.i64 0, Value.int IntKind.i64 0, Value.slice A2 0 c2] 25) = Y := ⟨_, rfl⟩
      rw [hy] at N gz E1 E2 hB5 ⊢
      clear hy nb D1 D2 g2 nd drow hB4 hB2 hrow hB hr
      have hsd := sameDiags_any (dg10 ks) (dg10 ks) (.slice DA ks.length DC) (.slice VA ks.length VC) w4 (by rw [hl]; omega) E1 E2
      have hst : (dg10 ks == dg10 ks) = true := by simp
      rw [hst] at hsd
      clear hst E1 E2
      go_wp2_with fail
      refine hsd.mono ?_
      rintro e w5 ⟨rfl, hD⟩
      have gz5 := gAt_later hD.below _ _ gz
      have N5 := N.below hD.below
      have hB6 := hB5.trans (hD.below.mono hB5.size)
      clear N gz hB5 hD hsd
      have n0 : w5.cell? ⟨w2.heap.size, 0, none⟩ = some (Value.int IntKind.i64 0) := N5.cell 0
      have n1 : w5.cell? ⟨w2.heap.size, 1, none⟩ = some (Value.string { data := #[] }) := N5.cell 1
      have n2 : w5.cell? ⟨w2.heap.size, 2, none⟩ = some (Value.string { data := #[] }) := N5.cell 2
      have n3 : w5.cell? ⟨w2.heap.size, 3, none⟩ = some (Value.int IntKind.u64 0) := N5.cell 3
      have n4 : w5.cell? ⟨w2.heap.size, 4, none⟩ = some (Value.int IntKind.i64 0) := N5.cell 4
      have n5 : w5.cell? ⟨w2.heap.size, 5, none⟩ = some (Value.int IntKind.i64 0) := N5.cell 5
      have n6 : w5.cell? ⟨w2.heap.size, 6, none⟩ = some (Value.slice A2 0 c2) := N5.cell 6
      go_wp2_with fail
      refine (same_zero _ A2 none c2 0 gz5 (gZ_of (ok := fun _ => True) (nodeAt_zero _ _))).mono ?_
      rintro e w6 ⟨rfl, hB7⟩
      go_wp2
      go_ret
      exact ⟨rfl, hB6.trans (hB7.mono hB6.size)⟩
end Go.Proofs.YtmkehecapjdfdaaGreatDoor

/- Lex's answer as Parse takes it. -/
namespace Go.Proofs.YtmkehecapjdfdaaGreatDoor
open Go.RowKit

theorem lexAt_any (s : ByteArray) (W : World) (hs : s.size ≤ 9223372036854775807) (ht : Tab W) (he : Errs W) : LexAt s W := fun o => by
  have hb : Below W.heap.size W (W.alloc o) := (Below.refl _ _).alloc (Nat.le_refl _) o
  exact lex_any s _ hs (ht.later hb) (he.later hb)
theorem parse_at (s : ByteArray) (W : World) (hs : s.size ≤ 9223372036854775807) (ht : Tab W) (he : Errs W) : Calls Tryz.prog 12 #[.string s] W (ParsePost s.data.toList W) :=
  parse_any (lexAt_any s W hs ht he)
theorem fails_at (s : ByteArray) (ks : List Nat) (A : Option Addr) (c : Nat) (W : World) (hk : ks.length ≤ 1000) (h : Hid (parseS s.data.toList = (T.zero, dg10 ks)))
    (hs : s.size ≤ 9223372036854775807) (ht : Tab W) (he : Errs W) (hr : IRow W A ks) :
    Calls Tryz.prog 27 #[.string s, .slice A ks.length c] W fun e w' => e = .returned (.bool true) ∧ Below W.heap.size W w' :=
  fails_yes s ks A c W hk h (fun w hb => lexAt_any s w hs (ht.later hb) (he.later hb)) hr
end Go.Proofs.YtmkehecapjdfdaaGreatDoor
