/- Joined texts: PStrip, PStrq. -/
import Derived.Test.YtmkehecapjdfdaaGreatDoorQV1
import Derived.Test.YtmkehecapjdfdaaGreatDoorQB2
import Derived.Deep.AppendLies

/- Trees without offsets. -/
namespace Go.Proofs.YtmkehecapjdfdaaGreatDoor
open Go.RowKit

mutual
def stripT : T → T
  | .mk k n p x y _ ks => .mk k n p x y 0 (stripL ks)
def stripL : List T → List T
  | [] => []
  | t :: r => stripT t :: stripL r
end
mutual
def htT : T → Nat
  | .mk _ _ _ _ _ _ ks => htL ks + 1
def htL : List T → Nat
  | [] => 0
  | t :: r => max (htT t) (htL r)
end
theorem stripL_append : ∀ a b, stripL (a ++ b) = stripL a ++ stripL b
  | [], b => rfl
  | t :: r, b => by simp [stripL, stripL_append r b]
theorem stripL_length : ∀ a, (stripL a).length = a.length
  | [] => rfl
  | t :: r => by simp [stripL, stripL_length r]
theorem htL_mem : ∀ (l : List T), ∀ t ∈ l, htT t ≤ htL l
  | [], t, h => by cases h
  | a :: r, t, h => by
    simp only [htL]
    rcases List.mem_cons.1 h with rfl | h
    · omega
    · have := htL_mem r t h; omega
mutual
def fewT : T → Prop
  | .mk _ _ _ _ _ _ ks => ks.length ≤ 100000 ∧ fewTs ks
def fewTs : List T → Prop
  | [] => True
  | t :: r => fewT t ∧ fewTs r
end
/-- A row has grown: its nodes can be read, and what is not the row is as it was. -/
theorem appendedB {w1 w2 : World} {M : Nat} (hM : M ≤ w1.heap.size) {o : Obj} {old : Value} {l : List T} {kc : List Value}
    (ko : w1.ownsRow M NT 7 old l.length kc) (kr : rowAt w1 (fun g => M ≤ g ∧ old.ownBlock ≠ some g) l kc) {ts : List T} {nc : List Value} {g cap : Nat}
    (nd : rowAt w1 (fun g => M ≤ g ∧ old.ownBlock ≠ some g) ts nc)
    (o2 : w2.ownsRow M NT 7 (.slice (some ⟨g, 0, none⟩) (l.length + ts.length) cap) (l.length + ts.length) (kc ++ nc))
    (g2 : (w1.alloc o).grownBy w2 old.ownBlock) (p2 : old.ownBlock = some g ∨ g = (w1.alloc o).heap.size) :
    Kids w2 M (l ++ ts) (.slice (some ⟨g, 0, none⟩) (l.length + ts.length) cap) ∧ (∀ b, b < w1.heap.size → b < M → w2.heap[b]? = w1.heap[b]?) ∧ Below M w1 w2 := by
  have hold : ∀ b, b < w1.heap.size → old.ownBlock ≠ some b → w2.heap[b]? = w1.heap[b]? := fun b hb hne => by
    rw [g2.block b (by simp; omega) (fun e => hne e.symm)]
    exact Below.heap_alloc w1 o b hb
  have hsz : w1.heap.size ≤ w2.heap.size := by have := g2.size; simp at this; omega
  have hlow : ∀ b, b < w1.heap.size → b < M → w2.heap[b]? = w1.heap[b]? := fun b hb hM => hold b hb fun e => by
    have := (ko.lt b e).1
    omega
  refine ⟨⟨kc ++ nc, by rw [List.length_append]; exact o2, ?_⟩, hlow, ⟨g2.os, g2.tape, g2.output, hsz, fun k hk => hlow k (by omega) hk⟩⟩
  have hrow := rowAt_append l ts kc nc kr nd
  have hlt : ∀ g' c, w1.heap[g']? = some (.cells c NT (0, 0)) → g' < w1.heap.size := fun g' c h => (Array.getElem?_eq_some_iff.1 h).1
  have key : ∀ (l : List T) (cs : List Value), rowAt w1 (fun g => M ≤ g ∧ old.ownBlock ≠ some g) l cs → rowAt w2 (fun g' => M ≤ g' ∧ old.ownBlock ≠ some g' ∧ g' < w1.heap.size) l cs := fun l cs h =>
    rowAt_imp' (fun g' c hg hc => ⟨⟨hg.1, hg.2, hlt g' c hc⟩, (hold g' (hlt g' c hc) hg.2).trans hc⟩) l cs h
  refine rowAt_mono (fun g' hg => ⟨hg.1, ?_⟩) (key _ _ hrow)
  intro e
  simp [Value.ownBlock] at e
  subst e
  rcases p2 with p2 | p2
  · exact hg.2.1 p2
  · have := hg.2.2; simp at p2; omega
def ST (t : T) : Prop := ∀ (above : Nat) (W : World) (A : Option Addr) (c : Nat), htT t + above ≤ 1000 → gAt W t.toG (.slice A t.kids.length c) →
  Calls Tryz.prog 39 #[.agg #[Value.int IntKind.i64 (t).kind, Value.string { data := (t).name.toArray }, Value.string { data := (t).part.toArray }, Value.int IntKind.u64 (t).num, Value.int IntKind.i64 (t).wid, Value.int IntKind.i64 (t).at_, Value.slice A t.kids.length c], .int .i64 above] W fun e w' => ∃ A' c', e = .returned (.tuple #[.agg #[Value.int IntKind.i64 ((stripT t)).kind, Value.string { data := ((stripT t)).name.toArray }, Value.string { data := ((stripT t)).part.toArray }, Value.int IntKind.u64 ((stripT t)).num, Value.int IntKind.i64 ((stripT t)).wid, Value.int IntKind.i64 ((stripT t)).at_, Value.slice A' (stripT t).kids.length c'], .bool true]) ∧ nodeAt w' (fun g => W.heap.size ≤ g) (stripT t) (.slice A' (stripT t).kids.length c') ∧ Below W.heap.size W w'
theorem toGs_at : ∀ (l : List T) (i : Nat) (h : i < (T.toG.toGs l).length) (h' : i < l.length), (T.toG.toGs l)[i] = l[i].toG
  | t :: r, 0, _, _ => rfl
  | t :: r, i + 1, h, h' => by simpa [T.toG.toGs] using toGs_at r i (by simpa [T.toG.toGs] using h) (by simpa using h')
theorem toG_kids (t : T) : t.toG.kids.length = t.kids.length := by
  cases t
  exact toGs_length _
def SpRel (W : World) (ks : List T) (nc : Value → Array Value) (zc : Array Value) (v : Value) (wr : World) : Prop :=
  ∃ (L : List T) (A' : Option Addr) (c' : Nat), Hid (L = stripL (ks.take L.length)) ∧ v = .int .i64 L.length ∧ L.length ≤ ks.length ∧ Box wr W.heap.size 25 (nc (.slice A' L.length c')) ∧ Box wr (W.heap.size + 1) 25 zc ∧ Kids wr (W.heap.size + 2) L (.slice A' L.length c') ∧ Below W.heap.size W wr
set_option maxRecDepth 100000 in
set_option maxHeartbeats 6400000 in
theorem strip_step (k : Nat) (n p : Str) (x y z : Nat) (ks : List T) (hn : ks.length ≤ 100000) (hv : ∀ t ∈ ks, ST t) : ST (.mk k n p x y z ks) := by
  intro above W A c hht hg
  simp only [T.kind, T.name, T.part, T.num, T.wid, T.at_, T.kids, stripT] at hg ⊢
  obtain ⟨A1, c1, e1, _, _, hr⟩ := hg
  rw [toGs_length] at e1
  cases e1
  have hab : above ≤ 1000 := by omega
  obtain ⟨i0, hi, hz0, hz1, hz2⟩ := info_parts Tryz.infoNode
  have bA : Below W.heap.size W ((W.alloc (Obj.cells #[Value.int IntKind.i64 k, Value.string ⟨List.toArray n⟩, Value.string ⟨List.toArray p⟩, Value.int IntKind.u64 x, Value.int IntKind.i64 y, Value.int IntKind.i64 0, Value.slice none 0 0] 25)).alloc (Obj.cells #[Value.int IntKind.i64 0, Value.string { data := #[] }, Value.string { data := #[] }, Value.int IntKind.u64 0, Value.int IntKind.i64 0, Value.int IntKind.i64 0, Value.slice none 0 0] 25)) := ((Below.refl _ _).alloc (Nat.le_refl _) _).alloc (by simp) _
  go_enter Tryz.func39, Tryz.ntmps39
  go_wp2_with (first | at_builtin | fail)
  have B1 := (Box.new W 25 #[Value.int IntKind.i64 k, Value.string ⟨List.toArray n⟩, Value.string ⟨List.toArray p⟩, Value.int IntKind.u64 x, Value.int IntKind.i64 y, Value.int IntKind.i64 0, Value.slice none 0 0]).alloc (Obj.cells #[Value.int IntKind.i64 0, Value.string { data := #[] }, Value.string { data := #[] }, Value.int IntKind.u64 0, Value.int IntKind.i64 0, Value.int IntKind.i64 0, Value.slice none 0 0] 25)
  have B2 := Box.newAt (X := (W.alloc (Obj.cells #[Value.int IntKind.i64 k, Value.string ⟨List.toArray n⟩, Value.string ⟨List.toArray p⟩, Value.int IntKind.u64 x, Value.int IntKind.i64 y, Value.int IntKind.i64 0, Value.slice none 0 0] 25))) (n := W.heap.size + 1) (by simp) 25 #[Value.int IntKind.i64 0, Value.string { data := #[] }, Value.string { data := #[] }, Value.int IntKind.u64 0, Value.int IntKind.i64 0, Value.int IntKind.i64 0, Value.slice none 0 0]
  go_loopw [20] (fun v wr => SpRel W ks (fun kv => #[Value.int IntKind.i64 k, Value.string ⟨List.toArray n⟩, Value.string ⟨List.toArray p⟩, Value.int IntKind.u64 x, Value.int IntKind.i64 y, Value.int IntKind.i64 0, kv]) #[Value.int IntKind.i64 0, Value.string { data := #[] }, Value.string { data := #[] }, Value.int IntKind.u64 0, Value.int IntKind.i64 0, Value.int IntKind.i64 0, Value.slice none 0 0] v wr) (fun v _ => ks.length - iOf v)
  case atStart => exact ⟨[], none, 0, Lib.hid rfl, rfl, Nat.zero_le _, B1, B2, Kids.nil _ _, bA⟩
  case round =>
    rename_i wr
    obtain ⟨L, A', c', hL, rfl, hil, N1, Z1, K1, hbl⟩ := hrel
    clear B1 B2 bA
    by_cases hi2 : L.length < ks.length
    · obtain ⟨g, o, kv, rfl, c0, c1, c2, c3, c4, c5, c6, hk⟩ := gRow_at (T.toG.toGs ks) 0 (gRow_later hbl A 0 _ hr) L.length (by rw [toGs_length]; exact hi2)
      simp only [Nat.zero_add] at c0 c1 c2 c3 c4 c5 c6
      have hmem : ks[L.length] ∈ ks := List.getElem_mem hi2
      have hts := toGs_at ks L.length (by rw [toGs_length]; exact hi2) hi2
      have hLs : ks.take (L.length + 1) = ks.take L.length ++ [ks[L.length]] := List.take_succ_eq_append_getElem hi2
      rw [hts] at c0 c1 c2 c3 c4 c5 hk
      obtain ⟨t, ht⟩ : ∃ t, Hid (ks[L.length] = t) := ⟨_, Lib.hid rfl⟩
      rw [ht.out] at c0 c1 c2 c3 c4 c5 hk hmem hLs
      obtain ⟨A2, C2, rfl⟩ := gAt_form hk
      obtain ⟨f1, f2, f3, f4, f5, f6⟩ := toG_f t
      rw [f1] at c0
      rw [f2] at c1
      rw [f3] at c2
      rw [f4] at c3
      rw [f5] at c4
      rw [f6] at c5
      rw [toG_kids] at c6 hk
      have hht2 : htT t + (above + 1) ≤ 1000 := by
        have := htL_mem ks t hmem
        simp only [htT] at hht
        omega
      have hst := hv t hmem
      have hw1 : IntKind.i64.wrap ((above : Int) + 1) = ((above + 1 : Nat) : Int) := by rw [IntWalk.i64_in _ (by omega)]; omega
      have hw2 : IntKind.i64.wrap ((L.length : Int) + 1) = ((L.length + 1 : Nat) : Int) := by rw [IntWalk.i64_in _ (by omega)]; omega
      have T5 := Box.new wr 25 #[Value.int IntKind.i64 t.kind, Value.string ⟨List.toArray t.name⟩, Value.string ⟨List.toArray t.part⟩, Value.int IntKind.u64 t.num, Value.int IntKind.i64 t.wid, Value.int IntKind.i64 t.at_, Value.slice A2 t.kids.length C2]
      have b5 : Below wr.heap.size wr (wr.alloc (Obj.cells #[Value.int IntKind.i64 t.kind, Value.string ⟨List.toArray t.name⟩, Value.string ⟨List.toArray t.part⟩, Value.int IntKind.u64 t.num, Value.int IntKind.i64 t.wid, Value.int IntKind.i64 t.at_, Value.slice A2 t.kids.length C2] 25)) := (Below.refl _ _).alloc (Nat.le_refl _) _
      have N5 := N1.below b5
      have Z5 := Z1.below b5
      have K5 := Kids.later K1 (Kept.of (B := 0) b5 (Nat.zero_le _))
      have bl5 := hbl.trans (b5.mono hbl.size)
      have z1 := Z1.lt
      have hk5 := gAt_later b5 t.toG _ hk
      have hs5 : (wr.alloc (Obj.cells #[Value.int IntKind.i64 t.kind, Value.string ⟨List.toArray t.name⟩, Value.string ⟨List.toArray t.part⟩, Value.int IntKind.u64 t.num, Value.int IntKind.i64 t.wid, Value.int IntKind.i64 t.at_, Value.slice A2 t.kids.length C2] 25)).heap.size = wr.heap.size + 1 := by simp
      have tf0 : (wr.alloc (Obj.cells #[Value.int IntKind.i64 t.kind, Value.string ⟨List.toArray t.name⟩, Value.string ⟨List.toArray t.part⟩, Value.int IntKind.u64 t.num, Value.int IntKind.i64 t.wid, Value.int IntKind.i64 t.at_, Value.slice A2 t.kids.length C2] 25)).cell? ⟨wr.heap.size, 0, none⟩ = some (Value.int IntKind.i64 t.kind) := T5.cell 0
      have tf1 : (wr.alloc (Obj.cells #[Value.int IntKind.i64 t.kind, Value.string ⟨List.toArray t.name⟩, Value.string ⟨List.toArray t.part⟩, Value.int IntKind.u64 t.num, Value.int IntKind.i64 t.wid, Value.int IntKind.i64 t.at_, Value.slice A2 t.kids.length C2] 25)).cell? ⟨wr.heap.size, 1, none⟩ = some (Value.string ⟨List.toArray t.name⟩) := T5.cell 1
      have tf2 : (wr.alloc (Obj.cells #[Value.int IntKind.i64 t.kind, Value.string ⟨List.toArray t.name⟩, Value.string ⟨List.toArray t.part⟩, Value.int IntKind.u64 t.num, Value.int IntKind.i64 t.wid, Value.int IntKind.i64 t.at_, Value.slice A2 t.kids.length C2] 25)).cell? ⟨wr.heap.size, 2, none⟩ = some (Value.string ⟨List.toArray t.part⟩) := T5.cell 2
      have tf3 : (wr.alloc (Obj.cells #[Value.int IntKind.i64 t.kind, Value.string ⟨List.toArray t.name⟩, Value.string ⟨List.toArray t.part⟩, Value.int IntKind.u64 t.num, Value.int IntKind.i64 t.wid, Value.int IntKind.i64 t.at_, Value.slice A2 t.kids.length C2] 25)).cell? ⟨wr.heap.size, 3, none⟩ = some (Value.int IntKind.u64 t.num) := T5.cell 3
      have tf4 : (wr.alloc (Obj.cells #[Value.int IntKind.i64 t.kind, Value.string ⟨List.toArray t.name⟩, Value.string ⟨List.toArray t.part⟩, Value.int IntKind.u64 t.num, Value.int IntKind.i64 t.wid, Value.int IntKind.i64 t.at_, Value.slice A2 t.kids.length C2] 25)).cell? ⟨wr.heap.size, 4, none⟩ = some (Value.int IntKind.i64 t.wid) := T5.cell 4
      have tf5 : (wr.alloc (Obj.cells #[Value.int IntKind.i64 t.kind, Value.string ⟨List.toArray t.name⟩, Value.string ⟨List.toArray t.part⟩, Value.int IntKind.u64 t.num, Value.int IntKind.i64 t.wid, Value.int IntKind.i64 t.at_, Value.slice A2 t.kids.length C2] 25)).cell? ⟨wr.heap.size, 5, none⟩ = some (Value.int IntKind.i64 t.at_) := T5.cell 5
      have tf6 : (wr.alloc (Obj.cells #[Value.int IntKind.i64 t.kind, Value.string ⟨List.toArray t.name⟩, Value.string ⟨List.toArray t.part⟩, Value.int IntKind.u64 t.num, Value.int IntKind.i64 t.wid, Value.int IntKind.i64 t.at_, Value.slice A2 t.kids.length C2] 25)).cell? ⟨wr.heap.size, 6, none⟩ = some (Value.slice A2 t.kids.length C2) := T5.cell 6
      clear hts f1 f2 f3 f4 f5 f6 hv hr hmem hht
      go_wp2_with fail
      refine (hst (above + 1) _ A2 C2 hht2 hk5).mono ?_
      rintro e w6 ⟨KA, KC, rfl, nd, b6⟩
      have N6 := N5.below b6
      have Z6 := Z5.below b6
      have K6 := Kids.later K5 (Kept.of (B := 0) b6 (Nat.zero_le _))
      have bl6 := bl5.trans (b6.mono bl5.size)
      have s6 := b6.size
      have hkl : ∀ g, (Value.slice A' L.length c').ownBlock = some g → g < (wr.alloc (Obj.cells #[Value.int IntKind.i64 t.kind, Value.string ⟨List.toArray t.name⟩, Value.string ⟨List.toArray t.part⟩, Value.int IntKind.u64 t.num, Value.int IntKind.i64 t.wid, Value.int IntKind.i64 t.at_, Value.slice A2 t.kids.length C2] 25)).heap.size := by
        obtain ⟨kc3, ko3, _⟩ := K5
        exact fun g hg => (ko3.lt g hg).2
      have S7 := Box.new w6 25 #[Value.int IntKind.i64 ((stripT t)).kind, Value.string { data := ((stripT t)).name.toArray }, Value.string { data := ((stripT t)).part.toArray }, Value.int IntKind.u64 ((stripT t)).num, Value.int IntKind.i64 ((stripT t)).wid, Value.int IntKind.i64 ((stripT t)).at_, Value.slice KA (stripT t).kids.length KC]
      have b7 : Below w6.heap.size w6 (w6.alloc (Obj.cells #[Value.int IntKind.i64 ((stripT t)).kind, Value.string { data := ((stripT t)).name.toArray }, Value.string { data := ((stripT t)).part.toArray }, Value.int IntKind.u64 ((stripT t)).num, Value.int IntKind.i64 ((stripT t)).wid, Value.int IntKind.i64 ((stripT t)).at_, Value.slice KA (stripT t).kids.length KC] 25)) := (Below.refl _ _).alloc (Nat.le_refl _) _
      have N7 := N6.below b7
      have Z7 := Z6.below b7
      have K7 := Kids.later K6 (Kept.of (B := 0) b7 (Nat.zero_le _))
      have nd7 := nodeAt_kept (Kept.of (B := 0) b7 (Nat.zero_le _)) nd
      have bl7 := bl6.trans (b7.mono bl6.size)
      have s7 : (w6.alloc (Obj.cells #[Value.int IntKind.i64 ((stripT t)).kind, Value.string { data := ((stripT t)).name.toArray }, Value.string { data := ((stripT t)).part.toArray }, Value.int IntKind.u64 ((stripT t)).num, Value.int IntKind.i64 ((stripT t)).wid, Value.int IntKind.i64 ((stripT t)).at_, Value.slice KA (stripT t).kids.length KC] 25)).heap.size = w6.heap.size + 1 := by simp
      clear N5 Z5 K5 N6 Z6 K6 N1 Z1 K1 T5 b5 b6 b7 nd hk hk5 hst bl5 bl6 hbl c0 c1 c2 c3 c4 c5 c6
      go_upto_region 11 with fail
      obtain ⟨w7, hy⟩ : ∃ Y, w6.alloc (Obj.cells #[Value.int IntKind.i64 ((stripT t)).kind, Value.string { data := ((stripT t)).name.toArray }, Value.string { data := ((stripT t)).part.toArray }, Value.int IntKind.u64 ((stripT t)).num, Value.int IntKind.i64 ((stripT t)).wid, Value.int IntKind.i64 ((stripT t)).at_, Value.slice KA (stripT t).kids.length KC] 25) = Y := ⟨_, rfl⟩
      rw [hy] at S7 N7 Z7 K7 nd7 bl7 s7 ⊢
      clear hy
      have sf0 : w7.cell? ⟨w6.heap.size, 0, none⟩ = some (Value.int IntKind.i64 ((stripT t)).kind) := S7.cell 0
      have sf1 : w7.cell? ⟨w6.heap.size, 1, none⟩ = some (Value.string { data := ((stripT t)).name.toArray }) := S7.cell 1
      have sf2 : w7.cell? ⟨w6.heap.size, 2, none⟩ = some (Value.string { data := ((stripT t)).part.toArray }) := S7.cell 2
      have sf3 : w7.cell? ⟨w6.heap.size, 3, none⟩ = some (Value.int IntKind.u64 ((stripT t)).num) := S7.cell 3
      have sf4 : w7.cell? ⟨w6.heap.size, 4, none⟩ = some (Value.int IntKind.i64 ((stripT t)).wid) := S7.cell 4
      have sf5 : w7.cell? ⟨w6.heap.size, 5, none⟩ = some (Value.int IntKind.i64 ((stripT t)).at_) := S7.cell 5
      have sf6 : w7.cell? ⟨w6.heap.size, 6, none⟩ = some (Value.slice KA (stripT t).kids.length KC) := S7.cell 6
      have n6 := N7.cell 6
      have nf := N7.free 6
      have z7 := Z7.lt
      obtain ⟨kc, ko, kr⟩ := K7
      go_wp2_with (at_builtin; refine wpList_append_lies _ rfl (.tmp 35) (.tmp 37) 23 rfl (W.heap.size + 2) NT i0 _ 7 88 Tryz.underlying23 hi hz0 hz1 hz2 rfl (by decide) (Value.slice A' L.length c') L.length kc (by first | rfl | simp [Act.eval]) (World.ownsRow.alloc ko _) ⟨w7.heap.size, 0, none⟩ 1 1 (nodeCells (stripT t) (.slice KA (stripT t).kids.length KC)) (by first | rfl | simp [Act.eval]) rfl (by exact World.news_of_block (heap_alloc_new _ _)) (nodeCells_one _ _ _ _) (by decide) (by unfold maxLen; omega) (by omega) (by first | omega | (simp <;> omega)) _ rfl ?_)
      intro g2 cap wA o2 gr p2 z2
      obtain ⟨KS, hlow, bS⟩ := appendedB (by omega) ko kr (rowAt_fresh nd7 (by omega) hkl) o2 gr (by
        rcases p2 with p2 | p2
        · exact .inl p2
        · right; simp at p2 ⊢; omega)
      clear o2 gr p2 z2 ko kr nd7 hkl
      have N8 : Box wA W.heap.size 25 #[Value.int IntKind.i64 k, Value.string ⟨List.toArray n⟩, Value.string ⟨List.toArray p⟩, Value.int IntKind.u64 x, Value.int IntKind.i64 y, Value.int IntKind.i64 0, Value.slice A' L.length c'] := (hlow _ N7.lt (by omega)).trans N7
      have Z8 : Box wA (W.heap.size + 1) 25 #[Value.int IntKind.i64 0, Value.string { data := #[] }, Value.string { data := #[] }, Value.int IntKind.u64 0, Value.int IntKind.i64 0, Value.int IntKind.i64 0, Value.slice none 0 0] := (hlow _ Z7.lt (by omega)).trans Z7
      have m6 := N8.cell 6
      have mf := N8.free 6
      have N9 := N8.set 6 (Value.slice (some { block := g2, off := 0 }) (L.length + 1) cap)
      have Z9 := Z8.far (b' := W.heap.size) (i := 6) (by omega) (Value.slice (some { block := g2, off := 0 }) (L.length + 1) cap)
      have K9 := Kids.far (b := W.heap.size) (i := 6) (by omega) (Value.slice (some { block := g2, off := 0 }) (L.length + 1) cap) KS
      have bl9 : Below W.heap.size W (wA.setCell ⟨W.heap.size, 6, none⟩ (Value.slice (some { block := g2, off := 0 }) (L.length + 1) cap)) := (bl7.trans (bS.mono (by omega))).setCell (Nat.le_refl _) _
      go_wp2_with fail
      go_roundw
      case rel => exact ⟨L ++ [stripT t], some ⟨g2, 0, none⟩, cap, Lib.hid (by rw [show (L ++ [stripT t]).length = L.length + 1 by simp, hLs, stripL_append, ← hL.out]; rfl), by simp, by simp; omega, by simpa using N9, Z9, by simpa using K9, bl9⟩
      case measure => simp [iOf]; omega
    · have hie : L.length = ks.length := by omega
      have hL2 : Hid (L = stripL ks) := Lib.hid (by have := hL.out; rw [hie, List.take_length] at this; exact this)
      clear hL
      obtain rfl : L = stripL ks := hL2.out
      clear hie
      have nc0 : wr.cell? ⟨W.heap.size, 0, none⟩ = some (Value.int IntKind.i64 k) := N1.cell 0
      have nc1 : wr.cell? ⟨W.heap.size, 1, none⟩ = some (Value.string ⟨List.toArray n⟩) := N1.cell 1
      have nc2 : wr.cell? ⟨W.heap.size, 2, none⟩ = some (Value.string ⟨List.toArray p⟩) := N1.cell 2
      have nc3 : wr.cell? ⟨W.heap.size, 3, none⟩ = some (Value.int IntKind.u64 x) := N1.cell 3
      have nc4 : wr.cell? ⟨W.heap.size, 4, none⟩ = some (Value.int IntKind.i64 y) := N1.cell 4
      have nc5 : wr.cell? ⟨W.heap.size, 5, none⟩ = some (Value.int IntKind.i64 0) := N1.cell 5
      have nc6 : wr.cell? ⟨W.heap.size, 6, none⟩ = some (Value.slice A' (stripL ks).length c') := N1.cell 6
      have zc0 : wr.cell? ⟨W.heap.size + 1, 0, none⟩ = some (Value.int IntKind.i64 0) := Z1.cell 0
      have zc1 : wr.cell? ⟨W.heap.size + 1, 1, none⟩ = some (Value.string { data := #[] }) := Z1.cell 1
      have zc2 : wr.cell? ⟨W.heap.size + 1, 2, none⟩ = some (Value.string { data := #[] }) := Z1.cell 2
      have zc3 : wr.cell? ⟨W.heap.size + 1, 3, none⟩ = some (Value.int IntKind.u64 0) := Z1.cell 3
      have zc4 : wr.cell? ⟨W.heap.size + 1, 4, none⟩ = some (Value.int IntKind.i64 0) := Z1.cell 4
      have zc5 : wr.cell? ⟨W.heap.size + 1, 5, none⟩ = some (Value.int IntKind.i64 0) := Z1.cell 5
      have zc6 : wr.cell? ⟨W.heap.size + 1, 6, none⟩ = some (Value.slice none 0 0) := Z1.cell 6
      have zf := Z1.free
      go_wp2
      refine bodyPost_ret (v := .tuple #[.agg #[Value.int IntKind.i64 k, Value.string ⟨List.toArray n⟩, Value.string ⟨List.toArray p⟩, Value.int IntKind.u64 x, Value.int IntKind.i64 y, Value.int IntKind.i64 0, Value.slice A' (stripL ks).length c'], .bool true]) ?_ rfl ⟨A', c', rfl, nodeAt_le (M := W.heap.size + 2) (by omega) (nodeAt_fill (M := W.heap.size + 2) (by omega) _ _ _ _ _ _ _ (K1.node _ _ _ _ _ _)), hbl.trans (below_fill (by omega) _ _ _ _ _ _ _)⟩
      simp [results, Tryz.results39, go_sem, zc0, zc1, zc2, zc3, zc4, zc5, zc6]
mutual
theorem strip_all : ∀ t : T, fewT t → ST t
  | .mk k n p x y z ks, h => strip_step k n p x y z ks h.1 (strips_all ks h.2)
theorem strips_all : ∀ l : List T, fewTs l → ∀ t ∈ l, ST t
  | [], _ => fun t h => by cases h
  | a :: r, hk => fun t h => by
    have h1 := strip_all a hk.1
    have h2 := strips_all r hk.2
    rcases List.mem_cons.1 h with e | e
    · rw [e]; exact h1
    · exact h2 t e
end
end Go.Proofs.YtmkehecapjdfdaaGreatDoor

/- Strip. -/
namespace Go.Proofs.YtmkehecapjdfdaaGreatDoor
open Go.RowKit

set_option maxRecDepth 100000 in
set_option maxHeartbeats 1600000 in
theorem Strip_any (t : T) (hf : fewT t) (hh : htT t ≤ 1000) (W : World) (A : Option Addr) (c : Nat) (hg : gAt W t.toG (.slice A t.kids.length c)) :
    Calls Tryz.prog 18 #[.agg #[Value.int IntKind.i64 (t).kind, Value.string { data := (t).name.toArray }, Value.string { data := (t).part.toArray }, Value.int IntKind.u64 (t).num, Value.int IntKind.i64 (t).wid, Value.int IntKind.i64 (t).at_, Value.slice A t.kids.length c]] W fun e w' => ∃ KA KC, e = .returned (.agg #[Value.int IntKind.i64 ((stripT t)).kind, Value.string { data := ((stripT t)).name.toArray }, Value.string { data := ((stripT t)).part.toArray }, Value.int IntKind.u64 ((stripT t)).num, Value.int IntKind.i64 ((stripT t)).wid, Value.int IntKind.i64 ((stripT t)).at_, Value.slice KA (stripT t).kids.length KC]) ∧ nodeAt w' (fun g => W.heap.size ≤ g) (stripT t) (.slice KA (stripT t).kids.length KC) ∧ Below W.heap.size W w' := by
  have bA : Below W.heap.size W ((W.alloc (Obj.cells #[Value.int IntKind.i64 (t).kind, Value.string { data := (t).name.toArray }, Value.string { data := (t).part.toArray }, Value.int IntKind.u64 (t).num, Value.int IntKind.i64 (t).wid, Value.int IntKind.i64 (t).at_, Value.slice A t.kids.length c] 25)).alloc (Obj.cells #[Value.int IntKind.i64 0, Value.string { data := #[] }, Value.string { data := #[] }, Value.int IntKind.u64 0, Value.int IntKind.i64 0, Value.int IntKind.i64 0, Value.slice none 0 0] 25)) := ((Below.refl _ _).alloc (Nat.le_refl _) _).alloc (by simp) _
  have T2 := (Box.new W 25 #[Value.int IntKind.i64 (t).kind, Value.string { data := (t).name.toArray }, Value.string { data := (t).part.toArray }, Value.int IntKind.u64 (t).num, Value.int IntKind.i64 (t).wid, Value.int IntKind.i64 (t).at_, Value.slice A t.kids.length c]).alloc (Obj.cells #[Value.int IntKind.i64 0, Value.string { data := #[] }, Value.string { data := #[] }, Value.int IntKind.u64 0, Value.int IntKind.i64 0, Value.int IntKind.i64 0, Value.slice none 0 0] 25)
  have Z2 := Box.newAt (X := W.alloc (Obj.cells #[Value.int IntKind.i64 (t).kind, Value.string { data := (t).name.toArray }, Value.string { data := (t).part.toArray }, Value.int IntKind.u64 (t).num, Value.int IntKind.i64 (t).wid, Value.int IntKind.i64 (t).at_, Value.slice A t.kids.length c] 25)) (n := W.heap.size + 1) (by simp) 25 #[Value.int IntKind.i64 0, Value.string { data := #[] }, Value.string { data := #[] }, Value.int IntKind.u64 0, Value.int IntKind.i64 0, Value.int IntKind.i64 0, Value.slice none 0 0]
  have tc0 : ((W.alloc (Obj.cells #[Value.int IntKind.i64 (t).kind, Value.string { data := (t).name.toArray }, Value.string { data := (t).part.toArray }, Value.int IntKind.u64 (t).num, Value.int IntKind.i64 (t).wid, Value.int IntKind.i64 (t).at_, Value.slice A t.kids.length c] 25)).alloc (Obj.cells #[Value.int IntKind.i64 0, Value.string { data := #[] }, Value.string { data := #[] }, Value.int IntKind.u64 0, Value.int IntKind.i64 0, Value.int IntKind.i64 0, Value.slice none 0 0] 25)).cell? ⟨W.heap.size, 0, none⟩ = some (Value.int IntKind.i64 (t).kind) := T2.cell 0
  have tc1 : ((W.alloc (Obj.cells #[Value.int IntKind.i64 (t).kind, Value.string { data := (t).name.toArray }, Value.string { data := (t).part.toArray }, Value.int IntKind.u64 (t).num, Value.int IntKind.i64 (t).wid, Value.int IntKind.i64 (t).at_, Value.slice A t.kids.length c] 25)).alloc (Obj.cells #[Value.int IntKind.i64 0, Value.string { data := #[] }, Value.string { data := #[] }, Value.int IntKind.u64 0, Value.int IntKind.i64 0, Value.int IntKind.i64 0, Value.slice none 0 0] 25)).cell? ⟨W.heap.size, 1, none⟩ = some (Value.string { data := (t).name.toArray }) := T2.cell 1
  have tc2 : ((W.alloc (Obj.cells #[Value.int IntKind.i64 (t).kind, Value.string { data := (t).name.toArray }, Value.string { data := (t).part.toArray }, Value.int IntKind.u64 (t).num, Value.int IntKind.i64 (t).wid, Value.int IntKind.i64 (t).at_, Value.slice A t.kids.length c] 25)).alloc (Obj.cells #[Value.int IntKind.i64 0, Value.string { data := #[] }, Value.string { data := #[] }, Value.int IntKind.u64 0, Value.int IntKind.i64 0, Value.int IntKind.i64 0, Value.slice none 0 0] 25)).cell? ⟨W.heap.size, 2, none⟩ = some (Value.string { data := (t).part.toArray }) := T2.cell 2
  have tc3 : ((W.alloc (Obj.cells #[Value.int IntKind.i64 (t).kind, Value.string { data := (t).name.toArray }, Value.string { data := (t).part.toArray }, Value.int IntKind.u64 (t).num, Value.int IntKind.i64 (t).wid, Value.int IntKind.i64 (t).at_, Value.slice A t.kids.length c] 25)).alloc (Obj.cells #[Value.int IntKind.i64 0, Value.string { data := #[] }, Value.string { data := #[] }, Value.int IntKind.u64 0, Value.int IntKind.i64 0, Value.int IntKind.i64 0, Value.slice none 0 0] 25)).cell? ⟨W.heap.size, 3, none⟩ = some (Value.int IntKind.u64 (t).num) := T2.cell 3
  have tc4 : ((W.alloc (Obj.cells #[Value.int IntKind.i64 (t).kind, Value.string { data := (t).name.toArray }, Value.string { data := (t).part.toArray }, Value.int IntKind.u64 (t).num, Value.int IntKind.i64 (t).wid, Value.int IntKind.i64 (t).at_, Value.slice A t.kids.length c] 25)).alloc (Obj.cells #[Value.int IntKind.i64 0, Value.string { data := #[] }, Value.string { data := #[] }, Value.int IntKind.u64 0, Value.int IntKind.i64 0, Value.int IntKind.i64 0, Value.slice none 0 0] 25)).cell? ⟨W.heap.size, 4, none⟩ = some (Value.int IntKind.i64 (t).wid) := T2.cell 4
  have tc5 : ((W.alloc (Obj.cells #[Value.int IntKind.i64 (t).kind, Value.string { data := (t).name.toArray }, Value.string { data := (t).part.toArray }, Value.int IntKind.u64 (t).num, Value.int IntKind.i64 (t).wid, Value.int IntKind.i64 (t).at_, Value.slice A t.kids.length c] 25)).alloc (Obj.cells #[Value.int IntKind.i64 0, Value.string { data := #[] }, Value.string { data := #[] }, Value.int IntKind.u64 0, Value.int IntKind.i64 0, Value.int IntKind.i64 0, Value.slice none 0 0] 25)).cell? ⟨W.heap.size, 5, none⟩ = some (Value.int IntKind.i64 (t).at_) := T2.cell 5
  have tc6 : ((W.alloc (Obj.cells #[Value.int IntKind.i64 (t).kind, Value.string { data := (t).name.toArray }, Value.string { data := (t).part.toArray }, Value.int IntKind.u64 (t).num, Value.int IntKind.i64 (t).wid, Value.int IntKind.i64 (t).at_, Value.slice A t.kids.length c] 25)).alloc (Obj.cells #[Value.int IntKind.i64 0, Value.string { data := #[] }, Value.string { data := #[] }, Value.int IntKind.u64 0, Value.int IntKind.i64 0, Value.int IntKind.i64 0, Value.slice none 0 0] 25)).cell? ⟨W.heap.size, 6, none⟩ = some (Value.slice A t.kids.length c) := T2.cell 6
  have s2 : ((W.alloc (Obj.cells #[Value.int IntKind.i64 (t).kind, Value.string { data := (t).name.toArray }, Value.string { data := (t).part.toArray }, Value.int IntKind.u64 (t).num, Value.int IntKind.i64 (t).wid, Value.int IntKind.i64 (t).at_, Value.slice A t.kids.length c] 25)).alloc (Obj.cells #[Value.int IntKind.i64 0, Value.string { data := #[] }, Value.string { data := #[] }, Value.int IntKind.u64 0, Value.int IntKind.i64 0, Value.int IntKind.i64 0, Value.slice none 0 0] 25)).heap.size = W.heap.size + 2 := by simp
  go_enter Tryz.func18, Tryz.ntmps18
  go_wp2_with fail
  refine (strip_all t hf 0 _ A c (by omega) (gAt_later bA t.toG _ hg)).mono ?_
  rintro e w1 ⟨KA, KC, rfl, nd, b1⟩
  have Z3 := Z2.below b1
  have bl := bA.trans (b1.mono bA.size)
  have s3 := b1.size
  have Z4 := Z3.alloc (Obj.cells #[Value.int IntKind.i64 ((stripT t)).kind, Value.string { data := ((stripT t)).name.toArray }, Value.string { data := ((stripT t)).part.toArray }, Value.int IntKind.u64 ((stripT t)).num, Value.int IntKind.i64 ((stripT t)).wid, Value.int IntKind.i64 ((stripT t)).at_, Value.slice KA (stripT t).kids.length KC] 25)
  have S4 := Box.new w1 25 #[Value.int IntKind.i64 ((stripT t)).kind, Value.string { data := ((stripT t)).name.toArray }, Value.string { data := ((stripT t)).part.toArray }, Value.int IntKind.u64 ((stripT t)).num, Value.int IntKind.i64 ((stripT t)).wid, Value.int IntKind.i64 ((stripT t)).at_, Value.slice KA (stripT t).kids.length KC]
  have nd4 := nodeAt_kept (Kept.of (B := 0) ((Below.refl _ _).alloc (Nat.le_refl _) (Obj.cells #[Value.int IntKind.i64 ((stripT t)).kind, Value.string { data := ((stripT t)).name.toArray }, Value.string { data := ((stripT t)).part.toArray }, Value.int IntKind.u64 ((stripT t)).num, Value.int IntKind.i64 ((stripT t)).wid, Value.int IntKind.i64 ((stripT t)).at_, Value.slice KA (stripT t).kids.length KC] 25)) (Nat.zero_le _)) nd
  have bl4 := bl.trans (((Below.refl _ _).alloc (Nat.le_refl _) (Obj.cells #[Value.int IntKind.i64 ((stripT t)).kind, Value.string { data := ((stripT t)).name.toArray }, Value.string { data := ((stripT t)).part.toArray }, Value.int IntKind.u64 ((stripT t)).num, Value.int IntKind.i64 ((stripT t)).wid, Value.int IntKind.i64 ((stripT t)).at_, Value.slice KA (stripT t).kids.length KC] 25)).mono bl.size)
  have zc0 : (w1.alloc (Obj.cells #[Value.int IntKind.i64 ((stripT t)).kind, Value.string { data := ((stripT t)).name.toArray }, Value.string { data := ((stripT t)).part.toArray }, Value.int IntKind.u64 ((stripT t)).num, Value.int IntKind.i64 ((stripT t)).wid, Value.int IntKind.i64 ((stripT t)).at_, Value.slice KA (stripT t).kids.length KC] 25)).cell? ⟨W.heap.size + 1, 0, none⟩ = some (Value.int IntKind.i64 0) := Z4.cell 0
  have zc1 : (w1.alloc (Obj.cells #[Value.int IntKind.i64 ((stripT t)).kind, Value.string { data := ((stripT t)).name.toArray }, Value.string { data := ((stripT t)).part.toArray }, Value.int IntKind.u64 ((stripT t)).num, Value.int IntKind.i64 ((stripT t)).wid, Value.int IntKind.i64 ((stripT t)).at_, Value.slice KA (stripT t).kids.length KC] 25)).cell? ⟨W.heap.size + 1, 1, none⟩ = some (Value.string { data := #[] }) := Z4.cell 1
  have zc2 : (w1.alloc (Obj.cells #[Value.int IntKind.i64 ((stripT t)).kind, Value.string { data := ((stripT t)).name.toArray }, Value.string { data := ((stripT t)).part.toArray }, Value.int IntKind.u64 ((stripT t)).num, Value.int IntKind.i64 ((stripT t)).wid, Value.int IntKind.i64 ((stripT t)).at_, Value.slice KA (stripT t).kids.length KC] 25)).cell? ⟨W.heap.size + 1, 2, none⟩ = some (Value.string { data := #[] }) := Z4.cell 2
  have zc3 : (w1.alloc (Obj.cells #[Value.int IntKind.i64 ((stripT t)).kind, Value.string { data := ((stripT t)).name.toArray }, Value.string { data := ((stripT t)).part.toArray }, Value.int IntKind.u64 ((stripT t)).num, Value.int IntKind.i64 ((stripT t)).wid, Value.int IntKind.i64 ((stripT t)).at_, Value.slice KA (stripT t).kids.length KC] 25)).cell? ⟨W.heap.size + 1, 3, none⟩ = some (Value.int IntKind.u64 0) := Z4.cell 3
  have zc4 : (w1.alloc (Obj.cells #[Value.int IntKind.i64 ((stripT t)).kind, Value.string { data := ((stripT t)).name.toArray }, Value.string { data := ((stripT t)).part.toArray }, Value.int IntKind.u64 ((stripT t)).num, Value.int IntKind.i64 ((stripT t)).wid, Value.int IntKind.i64 ((stripT t)).at_, Value.slice KA (stripT t).kids.length KC] 25)).cell? ⟨W.heap.size + 1, 4, none⟩ = some (Value.int IntKind.i64 0) := Z4.cell 4
  have zc5 : (w1.alloc (Obj.cells #[Value.int IntKind.i64 ((stripT t)).kind, Value.string { data := ((stripT t)).name.toArray }, Value.string { data := ((stripT t)).part.toArray }, Value.int IntKind.u64 ((stripT t)).num, Value.int IntKind.i64 ((stripT t)).wid, Value.int IntKind.i64 ((stripT t)).at_, Value.slice KA (stripT t).kids.length KC] 25)).cell? ⟨W.heap.size + 1, 5, none⟩ = some (Value.int IntKind.i64 0) := Z4.cell 5
  have zc6 : (w1.alloc (Obj.cells #[Value.int IntKind.i64 ((stripT t)).kind, Value.string { data := ((stripT t)).name.toArray }, Value.string { data := ((stripT t)).part.toArray }, Value.int IntKind.u64 ((stripT t)).num, Value.int IntKind.i64 ((stripT t)).wid, Value.int IntKind.i64 ((stripT t)).at_, Value.slice KA (stripT t).kids.length KC] 25)).cell? ⟨W.heap.size + 1, 6, none⟩ = some (Value.slice none 0 0) := Z4.cell 6
  have sc0 : (w1.alloc (Obj.cells #[Value.int IntKind.i64 ((stripT t)).kind, Value.string { data := ((stripT t)).name.toArray }, Value.string { data := ((stripT t)).part.toArray }, Value.int IntKind.u64 ((stripT t)).num, Value.int IntKind.i64 ((stripT t)).wid, Value.int IntKind.i64 ((stripT t)).at_, Value.slice KA (stripT t).kids.length KC] 25)).cell? ⟨w1.heap.size, 0, none⟩ = some (Value.int IntKind.i64 ((stripT t)).kind) := S4.cell 0
  have sc1 : (w1.alloc (Obj.cells #[Value.int IntKind.i64 ((stripT t)).kind, Value.string { data := ((stripT t)).name.toArray }, Value.string { data := ((stripT t)).part.toArray }, Value.int IntKind.u64 ((stripT t)).num, Value.int IntKind.i64 ((stripT t)).wid, Value.int IntKind.i64 ((stripT t)).at_, Value.slice KA (stripT t).kids.length KC] 25)).cell? ⟨w1.heap.size, 1, none⟩ = some (Value.string { data := ((stripT t)).name.toArray }) := S4.cell 1
  have sc2 : (w1.alloc (Obj.cells #[Value.int IntKind.i64 ((stripT t)).kind, Value.string { data := ((stripT t)).name.toArray }, Value.string { data := ((stripT t)).part.toArray }, Value.int IntKind.u64 ((stripT t)).num, Value.int IntKind.i64 ((stripT t)).wid, Value.int IntKind.i64 ((stripT t)).at_, Value.slice KA (stripT t).kids.length KC] 25)).cell? ⟨w1.heap.size, 2, none⟩ = some (Value.string { data := ((stripT t)).part.toArray }) := S4.cell 2
  have sc3 : (w1.alloc (Obj.cells #[Value.int IntKind.i64 ((stripT t)).kind, Value.string { data := ((stripT t)).name.toArray }, Value.string { data := ((stripT t)).part.toArray }, Value.int IntKind.u64 ((stripT t)).num, Value.int IntKind.i64 ((stripT t)).wid, Value.int IntKind.i64 ((stripT t)).at_, Value.slice KA (stripT t).kids.length KC] 25)).cell? ⟨w1.heap.size, 3, none⟩ = some (Value.int IntKind.u64 ((stripT t)).num) := S4.cell 3
  have sc4 : (w1.alloc (Obj.cells #[Value.int IntKind.i64 ((stripT t)).kind, Value.string { data := ((stripT t)).name.toArray }, Value.string { data := ((stripT t)).part.toArray }, Value.int IntKind.u64 ((stripT t)).num, Value.int IntKind.i64 ((stripT t)).wid, Value.int IntKind.i64 ((stripT t)).at_, Value.slice KA (stripT t).kids.length KC] 25)).cell? ⟨w1.heap.size, 4, none⟩ = some (Value.int IntKind.i64 ((stripT t)).wid) := S4.cell 4
  have sc5 : (w1.alloc (Obj.cells #[Value.int IntKind.i64 ((stripT t)).kind, Value.string { data := ((stripT t)).name.toArray }, Value.string { data := ((stripT t)).part.toArray }, Value.int IntKind.u64 ((stripT t)).num, Value.int IntKind.i64 ((stripT t)).wid, Value.int IntKind.i64 ((stripT t)).at_, Value.slice KA (stripT t).kids.length KC] 25)).cell? ⟨w1.heap.size, 5, none⟩ = some (Value.int IntKind.i64 ((stripT t)).at_) := S4.cell 5
  have sc6 : (w1.alloc (Obj.cells #[Value.int IntKind.i64 ((stripT t)).kind, Value.string { data := ((stripT t)).name.toArray }, Value.string { data := ((stripT t)).part.toArray }, Value.int IntKind.u64 ((stripT t)).num, Value.int IntKind.i64 ((stripT t)).wid, Value.int IntKind.i64 ((stripT t)).at_, Value.slice KA (stripT t).kids.length KC] 25)).cell? ⟨w1.heap.size, 6, none⟩ = some (Value.slice KA (stripT t).kids.length KC) := S4.cell 6
  have zf := Z4.free
  go_wp2
  refine bodyPost_ret (v := .agg #[Value.int IntKind.i64 ((stripT t)).kind, Value.string { data := ((stripT t)).name.toArray }, Value.string { data := ((stripT t)).part.toArray }, Value.int IntKind.u64 ((stripT t)).num, Value.int IntKind.i64 ((stripT t)).wid, Value.int IntKind.i64 ((stripT t)).at_, Value.slice KA (stripT t).kids.length KC]) ?_ rfl ⟨KA, KC, rfl, nodeAt_le (M := W.heap.size + 2) (by omega) (nodeAt_fill (M := W.heap.size + 2) (by omega) _ _ _ _ _ _ _ (nodeAt_le (by omega) nd4)), bl4.trans (below_fill (by omega) _ _ _ _ _ _ _)⟩
  simp [results, Tryz.results18, go_sem, zc0, zc1, zc2, zc3, zc4, zc5, zc6]
end Go.Proofs.YtmkehecapjdfdaaGreatDoor
