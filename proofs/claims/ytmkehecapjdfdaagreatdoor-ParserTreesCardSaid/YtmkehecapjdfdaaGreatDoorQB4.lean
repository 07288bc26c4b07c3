/- Joined texts: PPre, PSeq, PVal. -/
import Derived.Test.YtmkehecapjdfdaaGreatDoorQB2
import Derived.Deep.RegionLaw
import Derived.Deep.AppendLies

/- Methods that append once, and simple ones. -/
namespace Go.Proofs.YtmkehecapjdfdaaGreatDoor
open Go.RowKit

set_option maxRecDepth 100000 in
set_option maxHeartbeats 1600000 in
theorem readNot_any {E : Env} {W : World} {dp : Nat} {s : St} {x : PM T} (he : CE E dp x) (h : RS E 20 W dp s) :
    Calls Tryz.prog 118 #[.pointer (some ⟨E.r, 0, none⟩)] W (PostR E W dp (RNodeX W.heap.size) (readNot E.ts x s)) := by
  have A0 := At.start h
  have HQ0 : Hid (readNot E.ts x s = bnd (begin_ E.ts 28 pTilde) (fun n => bnd x fun a => ret (.mk 28 [] [] 0 0 n.at_ [a])) s) := Lib.hid rfl
  generalize hM : readNot E.ts x s = M at *
  clear hM
  have hb1 := A0.size
  have B2 := Box.new (W) 25 #[Value.int IntKind.i64 0, Value.string { data := #[] }, Value.string { data := #[] }, Value.int IntKind.u64 0, Value.int IntKind.i64 0, Value.int IntKind.i64 0, Value.slice none 0 0]
  have A3 := A0.alloc (Obj.cells #[Value.int IntKind.i64 0, Value.string { data := #[] }, Value.string { data := #[] }, Value.int IntKind.u64 0, Value.int IntKind.i64 0, Value.int IntKind.i64 0, Value.slice none 0 0] 25)
  have sz4 : (W.alloc (Obj.cells #[Value.int IntKind.i64 0, Value.string { data := #[] }, Value.string { data := #[] }, Value.int IntKind.u64 0, Value.int IntKind.i64 0, Value.int IntKind.i64 0, Value.slice none 0 0] 25)).heap.size = W.heap.size + 1 := by simp
  obtain ⟨i0, hi, hz0, hz1, hz2⟩ := info_parts Tryz.infoNode
  go_enter Tryz.func118, Tryz.ntmps118
  go_wp2_with fail
  refine (begin_any 28 pTilde (by decide) A3.rs).mono ?_
  intro e w1 H
  rcases H.cases with ⟨n, s1, v, hm5, rfl, ⟨a, rfl, rfl⟩, R, K⟩ | ⟨l, s', ch, hm, rfl, H1⟩
  rotate_left 1
  · exact ⟨rfl, A3.out HQ0 hm H1⟩
  have A6 := A3.call R K
  have HQ7 := hq_ok HQ0 hm5
  have B8 : Box w1 (W.heap.size) 25 #[Value.int IntKind.i64 0, Value.string { data := #[] }, Value.string { data := #[] }, Value.int IntKind.u64 0, Value.int IntKind.i64 0, Value.int IntKind.i64 0, Value.slice none 0 0] := B2.kept K (by decide)
  have sz9 := K.size
  clear HQ0 hm5 H R K
  have hb10 := A6.size
  have B11 := B8.alloc (Obj.cells #[Value.int IntKind.i64 28, Value.string { data := #[] }, Value.string { data := #[] }, Value.int IntKind.u64 0, Value.int IntKind.i64 0, Value.int IntKind.i64 a, Value.slice none 0 0] 25)
  have lt12 := B8.lt
  have B13 := Box.new (w1) 25 #[Value.int IntKind.i64 28, Value.string { data := #[] }, Value.string { data := #[] }, Value.int IntKind.u64 0, Value.int IntKind.i64 0, Value.int IntKind.i64 a, Value.slice none 0 0]
  have A14 := A6.alloc (Obj.cells #[Value.int IntKind.i64 28, Value.string { data := #[] }, Value.string { data := #[] }, Value.int IntKind.u64 0, Value.int IntKind.i64 0, Value.int IntKind.i64 a, Value.slice none 0 0] 25)
  have sz15 : (w1.alloc (Obj.cells #[Value.int IntKind.i64 28, Value.string { data := #[] }, Value.string { data := #[] }, Value.int IntKind.u64 0, Value.int IntKind.i64 0, Value.int IntKind.i64 a, Value.slice none 0 0] 25)).heap.size = w1.heap.size + 1 := by simp
  go_wp2_with fail
  obtain ⟨w2, hy16⟩ : ∃ Y, (w1.alloc (Obj.cells #[Value.int IntKind.i64 28, Value.string { data := #[] }, Value.string { data := #[] }, Value.int IntKind.u64 0, Value.int IntKind.i64 0, Value.int IntKind.i64 a, Value.slice none 0 0] 25)) = Y := ⟨_, rfl⟩
  rw [hy16] at A14 sz15 B11 B13  ⊢
  clear hy16
  have B17 : Box w2 (W.heap.size) 25 #[Value.int IntKind.i64 0, Value.string { data := #[] }, Value.string { data := #[] }, Value.int IntKind.u64 0, Value.int IntKind.i64 0, Value.int IntKind.i64 0, Value.slice none 0 0] := B11
  have B18 : Box w2 (w1.heap.size) 25 #[Value.int IntKind.i64 28, Value.string { data := #[] }, Value.string { data := #[] }, Value.int IntKind.u64 0, Value.int IntKind.i64 0, Value.int IntKind.i64 a, Value.slice none 0 0] := B13
  have c19 : w2.cell? ⟨w1.heap.size, 6, none⟩ = some (Value.slice none 0 0) := B18.cell 6
  have fz20 := B18.free
  have ltr := A14.rs.lt
  have hMs : w1.heap.size + 1 ≤ w2.heap.size := by omega
  go_region_law (first
    | (go_simp; go_at_call 161; refine (he _ _ A14.drew.rs).mono ?_; intro e w3 H; rcases H.cases with ⟨t, s3, v, hm, rfl, ⟨KA, KC, rfl, nd⟩, R, K⟩ | ⟨l, s', ch, hm, rfl, H1⟩; rotate_left 1; exact ⟨rfl, A14.drew.out HQ7 hm H1⟩; have AR := A14.drew.call R K; have HQR := hq_ok HQ7 hm; have BRres : Box w3 (W.heap.size) 25 #[Value.int IntKind.i64 0, Value.string { data := #[] }, Value.string { data := #[] }, Value.int IntKind.u64 0, Value.int IntKind.i64 0, Value.int IntKind.i64 0, Value.slice none 0 0] := Box.kept (w := w2.drew) B17 K (by decide); have BRn : Box w3 (w1.heap.size) 25 #[Value.int IntKind.i64 28, Value.string { data := #[] }, Value.string { data := #[] }, Value.int IntKind.u64 0, Value.int IntKind.i64 0, Value.int IntKind.i64 a, Value.slice none 0 0] := Box.kept (w := w2.drew) B18 K (by decide); have q0 : ∀ o, (w3.alloc o).cell? ⟨w1.heap.size, 6, none⟩ = some (Value.slice none 0 0) := fun o => (BRn.alloc o).cell 6; have q00 := BRn.cell 6; have szR : w2.heap.size ≤ w3.heap.size := K.size; clear K R H hm)
    | (refine step_append_lies _ rfl (.tmp 7) (.tmp 10) 23 rfl (w1.heap.size + 1) 25 i0 _ 7 88 Tryz.underlying23 hi hz0 hz1 hz2 rfl (by decide) (Value.slice none 0 0) 0 [] (by simp [Act.eval]) (World.ownsRow.alloc (World.ownsRow_nil _ _ _ _) _) ⟨w3.heap.size, 0, none⟩ 1 1 (nodeCells t (.slice KA (t).kids.length KC)) (by simp [Act.eval]) rfl (by exact World.news_of_block (heap_alloc_new _ _)) (nodeCells_one _ _ _ _) (by decide) (by unfold maxLen; omega) (by omega) (by first | omega | (simp <;> omega)) _ rfl ?_; intro g cap wA o2 g2 p2 z2; have ap := appended AR (by omega) (World.ownsRow_nil _ _ _ _) (show rowAt _ _ [] [] from rfl) (rowAt_fresh nd (by first | omega | (simp <;> omega)) no_own) o2 g2 p2; have q1 : wA.cell? ⟨w1.heap.size, 6, none⟩ = some (Value.slice none 0 0) := (ap.box BRn (by omega)).cell 6; have q2 := (ap.box BRn (by omega)).free 6))
  all_goals
    have szA : w3.heap.size ≤ wA.heap.size := by have := g2.size; simp at this; omega
    clear q0 q00 q1 q2 o2 g2 p2
    have BSres := ap.box BRres (by omega)
    have BSn := ap.box BRn (by omega)
    have KS := ap.kids
    have AS := ap.at_
    have A21 := AS.set BSn hb10 6 (Value.slice (some { block := g, off := 0 }) (0 + 1) cap)
    have B22 := BSres.far (b' := w1.heap.size) (i := 6) (by omega) (Value.slice (some { block := g, off := 0 }) (0 + 1) cap)
    have B23 := BSn.set 6 (Value.slice (some { block := g, off := 0 }) (0 + 1) cap)
    have sz24 : (wA.setCell { block := w1.heap.size, off := 6 } (Value.slice (some { block := g, off := 0 }) (0 + 1) cap)).heap.size = wA.heap.size := by simp [World.setCell]
    have KF := Kids.far (b := w1.heap.size) (i := 6) (by omega) (Value.slice (some { block := g, off := 0 }) (0 + 1) cap) KS
    obtain ⟨w4, hy25⟩ : ∃ Y, (wA.setCell { block := w1.heap.size, off := 6 } (Value.slice (some { block := g, off := 0 }) (0 + 1) cap)) = Y := ⟨_, rfl⟩
    rw [hy25] at A21 sz24 B22 B23 KF ⊢
    clear hy25
    have B26 : Box w4 (W.heap.size) 25 #[Value.int IntKind.i64 0, Value.string { data := #[] }, Value.string { data := #[] }, Value.int IntKind.u64 0, Value.int IntKind.i64 0, Value.int IntKind.i64 0, Value.slice none 0 0] := B22
    have B27 : Box w4 (w1.heap.size) 25 #[Value.int IntKind.i64 28, Value.string { data := #[] }, Value.string { data := #[] }, Value.int IntKind.u64 0, Value.int IntKind.i64 0, Value.int IntKind.i64 a, Value.slice (some { block := g, off := 0 }) (0 + 1) cap] := B23
    have c28 : w4.cell? ⟨w1.heap.size, 0, none⟩ = some (Value.int IntKind.i64 28) := B27.cell 0
    have c29 : w4.cell? ⟨w1.heap.size, 1, none⟩ = some (Value.string { data := #[] }) := B27.cell 1
    have c30 : w4.cell? ⟨w1.heap.size, 2, none⟩ = some (Value.string { data := #[] }) := B27.cell 2
    have c31 : w4.cell? ⟨w1.heap.size, 3, none⟩ = some (Value.int IntKind.u64 0) := B27.cell 3
    have c32 : w4.cell? ⟨w1.heap.size, 4, none⟩ = some (Value.int IntKind.i64 0) := B27.cell 4
    have c33 : w4.cell? ⟨w1.heap.size, 5, none⟩ = some (Value.int IntKind.i64 a) := B27.cell 5
    have c34 : w4.cell? ⟨w1.heap.size, 6, none⟩ = some (Value.slice (some { block := g, off := 0 }) (0 + 1) cap) := B27.cell 6
    have fz35 := B27.free
    have c36 : w4.cell? ⟨W.heap.size, 0, none⟩ = some (Value.int IntKind.i64 0) := B26.cell 0
    have c37 : w4.cell? ⟨W.heap.size, 1, none⟩ = some (Value.string { data := #[] }) := B26.cell 1
    have c38 : w4.cell? ⟨W.heap.size, 2, none⟩ = some (Value.string { data := #[] }) := B26.cell 2
    have c39 : w4.cell? ⟨W.heap.size, 3, none⟩ = some (Value.int IntKind.u64 0) := B26.cell 3
    have c40 : w4.cell? ⟨W.heap.size, 4, none⟩ = some (Value.int IntKind.i64 0) := B26.cell 4
    have c41 : w4.cell? ⟨W.heap.size, 5, none⟩ = some (Value.int IntKind.i64 0) := B26.cell 5
    have c42 : w4.cell? ⟨W.heap.size, 6, none⟩ = some (Value.slice none 0 0) := B26.cell 6
    have fz43 := B26.free
    go_wp2
    refine bodyPost_ret (v := .agg #[Value.int IntKind.i64 28, Value.string { data := #[] }, Value.string { data := #[] }, Value.int IntKind.u64 0, Value.int IntKind.i64 0, Value.int IntKind.i64 a, Value.slice (some { block := g, off := 0 }) (0 + 1) cap]) ?_ rfl ?_
    · simp [results, Tryz.results118, go_sem, c36, c37, c38, c39, c40, c41, c42]
    · exact (A21.fill B26 (Nat.le_refl _) _ _ _ _ _ _ _).ok HQR ⟨_, _, rfl, nodeAt_le (M := w1.heap.size + 1) (by omega) (nodeAt_fill (M := w1.heap.size + 1) (by omega) _ _ _ _ _ _ _ (KF.node _ _ _ _ _ _))⟩

set_option maxRecDepth 100000 in
set_option maxHeartbeats 1600000 in
theorem readIn_any {E : Env} {W : World} {dp : Nat} {s : St} {x : PM T} (he : CE E dp x) (h : RS E 20 W dp s) :
    Calls Tryz.prog 115 #[.pointer (some ⟨E.r, 0, none⟩)] W (PostR E W dp (RNodeX W.heap.size) (readIn E.ts x s)) := by
  have A0 := At.start h
  have HQ0 : Hid (readIn E.ts x s = bnd (begin_ E.ts 23 kIn) (fun n => bnd (inBrackets E.ts x) fun k => ret (.mk 23 [] [] 0 0 n.at_ [k])) s) := Lib.hid rfl
  generalize hM : readIn E.ts x s = M at *
  clear hM
  have hb1 := A0.size
  have B2 := Box.new (W) 25 #[Value.int IntKind.i64 0, Value.string { data := #[] }, Value.string { data := #[] }, Value.int IntKind.u64 0, Value.int IntKind.i64 0, Value.int IntKind.i64 0, Value.slice none 0 0]
  have A3 := A0.alloc (Obj.cells #[Value.int IntKind.i64 0, Value.string { data := #[] }, Value.string { data := #[] }, Value.int IntKind.u64 0, Value.int IntKind.i64 0, Value.int IntKind.i64 0, Value.slice none 0 0] 25)
  have sz4 : (W.alloc (Obj.cells #[Value.int IntKind.i64 0, Value.string { data := #[] }, Value.string { data := #[] }, Value.int IntKind.u64 0, Value.int IntKind.i64 0, Value.int IntKind.i64 0, Value.slice none 0 0] 25)).heap.size = W.heap.size + 1 := by simp
  obtain ⟨i0, hi, hz0, hz1, hz2⟩ := info_parts Tryz.infoNode
  go_enter Tryz.func115, Tryz.ntmps115
  go_wp2_with fail
  refine (begin_any 23 kIn (by decide) A3.rs).mono ?_
  intro e w1 H
  rcases H.cases with ⟨n, s1, v, hm5, rfl, ⟨a, rfl, rfl⟩, R, K⟩ | ⟨l, s', ch, hm, rfl, H1⟩
  rotate_left 1
  · exact ⟨rfl, A3.out HQ0 hm H1⟩
  have A6 := A3.call R K
  have HQ7 := hq_ok HQ0 hm5
  have B8 : Box w1 (W.heap.size) 25 #[Value.int IntKind.i64 0, Value.string { data := #[] }, Value.string { data := #[] }, Value.int IntKind.u64 0, Value.int IntKind.i64 0, Value.int IntKind.i64 0, Value.slice none 0 0] := B2.kept K (by decide)
  have sz9 := K.size
  clear HQ0 hm5 H R K
  have hb10 := A6.size
  have B11 := B8.alloc (Obj.cells #[Value.int IntKind.i64 23, Value.string { data := #[] }, Value.string { data := #[] }, Value.int IntKind.u64 0, Value.int IntKind.i64 0, Value.int IntKind.i64 a, Value.slice none 0 0] 25)
  have lt12 := B8.lt
  have B13 := Box.new (w1) 25 #[Value.int IntKind.i64 23, Value.string { data := #[] }, Value.string { data := #[] }, Value.int IntKind.u64 0, Value.int IntKind.i64 0, Value.int IntKind.i64 a, Value.slice none 0 0]
  have A14 := A6.alloc (Obj.cells #[Value.int IntKind.i64 23, Value.string { data := #[] }, Value.string { data := #[] }, Value.int IntKind.u64 0, Value.int IntKind.i64 0, Value.int IntKind.i64 a, Value.slice none 0 0] 25)
  have sz15 : (w1.alloc (Obj.cells #[Value.int IntKind.i64 23, Value.string { data := #[] }, Value.string { data := #[] }, Value.int IntKind.u64 0, Value.int IntKind.i64 0, Value.int IntKind.i64 a, Value.slice none 0 0] 25)).heap.size = w1.heap.size + 1 := by simp
  go_wp2_with fail
  obtain ⟨w2, hy16⟩ : ∃ Y, (w1.alloc (Obj.cells #[Value.int IntKind.i64 23, Value.string { data := #[] }, Value.string { data := #[] }, Value.int IntKind.u64 0, Value.int IntKind.i64 0, Value.int IntKind.i64 a, Value.slice none 0 0] 25)) = Y := ⟨_, rfl⟩
  rw [hy16] at A14 sz15 B11 B13  ⊢
  clear hy16
  have B17 : Box w2 (W.heap.size) 25 #[Value.int IntKind.i64 0, Value.string { data := #[] }, Value.string { data := #[] }, Value.int IntKind.u64 0, Value.int IntKind.i64 0, Value.int IntKind.i64 0, Value.slice none 0 0] := B11
  have B18 : Box w2 (w1.heap.size) 25 #[Value.int IntKind.i64 23, Value.string { data := #[] }, Value.string { data := #[] }, Value.int IntKind.u64 0, Value.int IntKind.i64 0, Value.int IntKind.i64 a, Value.slice none 0 0] := B13
  have c19 : w2.cell? ⟨w1.heap.size, 6, none⟩ = some (Value.slice none 0 0) := B18.cell 6
  have fz20 := B18.free
  have ltr := A14.rs.lt
  have hMs : w1.heap.size + 1 ≤ w2.heap.size := by omega
  go_region_law (first
    | (go_simp; go_at_call 159; refine (inBrackets_any he A14.drew.rs).mono ?_; intro e w3 H; rcases H.cases with ⟨t, s3, v, hm, rfl, ⟨KA, KC, rfl, nd⟩, R, K⟩ | ⟨l, s', ch, hm, rfl, H1⟩; rotate_left 1; exact ⟨rfl, A14.drew.out HQ7 hm H1⟩; have AR := A14.drew.call R K; have HQR := hq_ok HQ7 hm; have BRres : Box w3 (W.heap.size) 25 #[Value.int IntKind.i64 0, Value.string { data := #[] }, Value.string { data := #[] }, Value.int IntKind.u64 0, Value.int IntKind.i64 0, Value.int IntKind.i64 0, Value.slice none 0 0] := Box.kept (w := w2.drew) B17 K (by decide); have BRn : Box w3 (w1.heap.size) 25 #[Value.int IntKind.i64 23, Value.string { data := #[] }, Value.string { data := #[] }, Value.int IntKind.u64 0, Value.int IntKind.i64 0, Value.int IntKind.i64 a, Value.slice none 0 0] := Box.kept (w := w2.drew) B18 K (by decide); have q0 : ∀ o, (w3.alloc o).cell? ⟨w1.heap.size, 6, none⟩ = some (Value.slice none 0 0) := fun o => (BRn.alloc o).cell 6; have q00 := BRn.cell 6; have szR : w2.heap.size ≤ w3.heap.size := K.size; clear K R H hm)
    | (refine step_append_lies _ rfl (.tmp 7) (.tmp 10) 23 rfl (w1.heap.size + 1) 25 i0 _ 7 88 Tryz.underlying23 hi hz0 hz1 hz2 rfl (by decide) (Value.slice none 0 0) 0 [] (by simp [Act.eval]) (World.ownsRow.alloc (World.ownsRow_nil _ _ _ _) _) ⟨w3.heap.size, 0, none⟩ 1 1 (nodeCells t (.slice KA (t).kids.length KC)) (by simp [Act.eval]) rfl (by exact World.news_of_block (heap_alloc_new _ _)) (nodeCells_one _ _ _ _) (by decide) (by unfold maxLen; omega) (by omega) (by first | omega | (simp <;> omega)) _ rfl ?_; intro g cap wA o2 g2 p2 z2; have ap := appended AR (by omega) (World.ownsRow_nil _ _ _ _) (show rowAt _ _ [] [] from rfl) (rowAt_fresh nd (by first | omega | (simp <;> omega)) no_own) o2 g2 p2; have q1 : wA.cell? ⟨w1.heap.size, 6, none⟩ = some (Value.slice none 0 0) := (ap.box BRn (by omega)).cell 6; have q2 := (ap.box BRn (by omega)).free 6))
  all_goals
    have szA : w3.heap.size ≤ wA.heap.size := by have := g2.size; simp at this; omega
    clear q0 q00 q1 q2 o2 g2 p2
    have BSres := ap.box BRres (by omega)
    have BSn := ap.box BRn (by omega)
    have KS := ap.kids
    have AS := ap.at_
    have A21 := AS.set BSn hb10 6 (Value.slice (some { block := g, off := 0 }) (0 + 1) cap)
    have B22 := BSres.far (b' := w1.heap.size) (i := 6) (by omega) (Value.slice (some { block := g, off := 0 }) (0 + 1) cap)
    have B23 := BSn.set 6 (Value.slice (some { block := g, off := 0 }) (0 + 1) cap)
    have sz24 : (wA.setCell { block := w1.heap.size, off := 6 } (Value.slice (some { block := g, off := 0 }) (0 + 1) cap)).heap.size = wA.heap.size := by simp [World.setCell]
    have KF := Kids.far (b := w1.heap.size) (i := 6) (by omega) (Value.slice (some { block := g, off := 0 }) (0 + 1) cap) KS
    obtain ⟨w4, hy25⟩ : ∃ Y, (wA.setCell { block := w1.heap.size, off := 6 } (Value.slice (some { block := g, off := 0 }) (0 + 1) cap)) = Y := ⟨_, rfl⟩
    rw [hy25] at A21 sz24 B22 B23 KF ⊢
    clear hy25
    have B26 : Box w4 (W.heap.size) 25 #[Value.int IntKind.i64 0, Value.string { data := #[] }, Value.string { data := #[] }, Value.int IntKind.u64 0, Value.int IntKind.i64 0, Value.int IntKind.i64 0, Value.slice none 0 0] := B22
    have B27 : Box w4 (w1.heap.size) 25 #[Value.int IntKind.i64 23, Value.string { data := #[] }, Value.string { data := #[] }, Value.int IntKind.u64 0, Value.int IntKind.i64 0, Value.int IntKind.i64 a, Value.slice (some { block := g, off := 0 }) (0 + 1) cap] := B23
    have c28 : w4.cell? ⟨w1.heap.size, 0, none⟩ = some (Value.int IntKind.i64 23) := B27.cell 0
    have c29 : w4.cell? ⟨w1.heap.size, 1, none⟩ = some (Value.string { data := #[] }) := B27.cell 1
    have c30 : w4.cell? ⟨w1.heap.size, 2, none⟩ = some (Value.string { data := #[] }) := B27.cell 2
    have c31 : w4.cell? ⟨w1.heap.size, 3, none⟩ = some (Value.int IntKind.u64 0) := B27.cell 3
    have c32 : w4.cell? ⟨w1.heap.size, 4, none⟩ = some (Value.int IntKind.i64 0) := B27.cell 4
    have c33 : w4.cell? ⟨w1.heap.size, 5, none⟩ = some (Value.int IntKind.i64 a) := B27.cell 5
    have c34 : w4.cell? ⟨w1.heap.size, 6, none⟩ = some (Value.slice (some { block := g, off := 0 }) (0 + 1) cap) := B27.cell 6
    have fz35 := B27.free
    have c36 : w4.cell? ⟨W.heap.size, 0, none⟩ = some (Value.int IntKind.i64 0) := B26.cell 0
    have c37 : w4.cell? ⟨W.heap.size, 1, none⟩ = some (Value.string { data := #[] }) := B26.cell 1
    have c38 : w4.cell? ⟨W.heap.size, 2, none⟩ = some (Value.string { data := #[] }) := B26.cell 2
    have c39 : w4.cell? ⟨W.heap.size, 3, none⟩ = some (Value.int IntKind.u64 0) := B26.cell 3
    have c40 : w4.cell? ⟨W.heap.size, 4, none⟩ = some (Value.int IntKind.i64 0) := B26.cell 4
    have c41 : w4.cell? ⟨W.heap.size, 5, none⟩ = some (Value.int IntKind.i64 0) := B26.cell 5
    have c42 : w4.cell? ⟨W.heap.size, 6, none⟩ = some (Value.slice none 0 0) := B26.cell 6
    have fz43 := B26.free
    go_wp2
    refine bodyPost_ret (v := .agg #[Value.int IntKind.i64 23, Value.string { data := #[] }, Value.string { data := #[] }, Value.int IntKind.u64 0, Value.int IntKind.i64 0, Value.int IntKind.i64 a, Value.slice (some { block := g, off := 0 }) (0 + 1) cap]) ?_ rfl ?_
    · simp [results, Tryz.results115, go_sem, c36, c37, c38, c39, c40, c41, c42]
    · exact (A21.fill B26 (Nat.le_refl _) _ _ _ _ _ _ _).ok HQR ⟨_, _, rfl, nodeAt_le (M := w1.heap.size + 1) (by omega) (nodeAt_fill (M := w1.heap.size + 1) (by omega) _ _ _ _ _ _ _ (KF.node _ _ _ _ _ _))⟩

set_option maxRecDepth 100000 in
set_option maxHeartbeats 1600000 in
theorem readLen_any {E : Env} {W : World} {dp : Nat} {s : St} (h : RS E 20 W dp s) :
    Calls Tryz.prog 116 #[.pointer (some ⟨E.r, 0, none⟩)] W (PostR E W dp (RNodeX W.heap.size) (readLen E.ts s)) := by
  have A0 := At.start h
  have HQ0 : Hid (readLen E.ts s = bnd (begin_ E.ts 24 kLen) (fun n => ret n) s) := Lib.hid (by unfold readLen bnd ret; cases begin_ E.ts 24 kLen s <;> rfl)
  generalize hM : readLen E.ts s = M at *
  clear hM
  have hb1 := A0.size
  have B2 := Box.new (W) 25 #[Value.int IntKind.i64 0, Value.string { data := #[] }, Value.string { data := #[] }, Value.int IntKind.u64 0, Value.int IntKind.i64 0, Value.int IntKind.i64 0, Value.slice none 0 0]
  have A3 := A0.alloc (Obj.cells #[Value.int IntKind.i64 0, Value.string { data := #[] }, Value.string { data := #[] }, Value.int IntKind.u64 0, Value.int IntKind.i64 0, Value.int IntKind.i64 0, Value.slice none 0 0] 25)
  have sz4 : (W.alloc (Obj.cells #[Value.int IntKind.i64 0, Value.string { data := #[] }, Value.string { data := #[] }, Value.int IntKind.u64 0, Value.int IntKind.i64 0, Value.int IntKind.i64 0, Value.slice none 0 0] 25)).heap.size = W.heap.size + 1 := by simp
  go_enter Tryz.func116, Tryz.ntmps116
  go_wp2_with fail
  refine (begin_any 24 kLen (by decide) A3.rs).mono ?_
  intro e w1 H
  rcases H.cases with ⟨n, s1, v, hm5, rfl, ⟨a, rfl, rfl⟩, R, K⟩ | ⟨l, s', ch, hm, rfl, H1⟩
  rotate_left 1
  · exact ⟨rfl, A3.out HQ0 hm H1⟩
  have A6 := A3.call R K
  have HQ7 := hq_ok HQ0 hm5
  have B8 : Box w1 (W.heap.size) 25 #[Value.int IntKind.i64 0, Value.string { data := #[] }, Value.string { data := #[] }, Value.int IntKind.u64 0, Value.int IntKind.i64 0, Value.int IntKind.i64 0, Value.slice none 0 0] := B2.kept K (by decide)
  have sz9 := K.size
  clear HQ0 hm5 H R K
  have c10 : w1.cell? ⟨W.heap.size, 0, none⟩ = some (Value.int IntKind.i64 0) := B8.cell 0
  have c11 : w1.cell? ⟨W.heap.size, 1, none⟩ = some (Value.string { data := #[] }) := B8.cell 1
  have c12 : w1.cell? ⟨W.heap.size, 2, none⟩ = some (Value.string { data := #[] }) := B8.cell 2
  have c13 : w1.cell? ⟨W.heap.size, 3, none⟩ = some (Value.int IntKind.u64 0) := B8.cell 3
  have c14 : w1.cell? ⟨W.heap.size, 4, none⟩ = some (Value.int IntKind.i64 0) := B8.cell 4
  have c15 : w1.cell? ⟨W.heap.size, 5, none⟩ = some (Value.int IntKind.i64 0) := B8.cell 5
  have c16 : w1.cell? ⟨W.heap.size, 6, none⟩ = some (Value.slice none 0 0) := B8.cell 6
  have fz17 := B8.free
  go_wp2
  refine bodyPost_ret (v := .agg #[Value.int IntKind.i64 24, Value.string { data := #[] }, Value.string { data := #[] }, Value.int IntKind.u64 0, Value.int IntKind.i64 0, Value.int IntKind.i64 a, Value.slice none 0 0]) ?_ rfl ?_
  · simp [results, Tryz.results116, go_sem, c10, c11, c12, c13, c14, c15, c16]
  · exact (A6.fill B8 (Nat.le_refl _) _ _ _ _ _ _ _).ok HQ7 ⟨_, _, rfl, nodeAt_le (M := w1.heap.size) (by omega) (nodeAt_fill (M := w1.heap.size) (by omega) _ _ _ _ _ _ _ ((Kids.nil _ _).node _ _ _ _ _ _))⟩

set_option maxRecDepth 100000 in
set_option maxHeartbeats 1600000 in
theorem readAccept_any {E : Env} {W : World} {dp : Nat} {s : St} (h : RS E 20 W dp s) :
    Calls Tryz.prog 111 #[.pointer (some ⟨E.r, 0, none⟩)] W (PostR E W dp (RNodeX W.heap.size) (readAccept E.ts s)) := by
  have A0 := At.start h
  have HQ0 : Hid (readAccept E.ts s = bnd (begin_ E.ts 18 kAccept) (fun n => bnd (take E.ts pSemi) fun _ => ret n) s) := Lib.hid rfl
  generalize hM : readAccept E.ts s = M at *
  clear hM
  have hb1 := A0.size
  have B2 := Box.new (W) 25 #[Value.int IntKind.i64 0, Value.string { data := #[] }, Value.string { data := #[] }, Value.int IntKind.u64 0, Value.int IntKind.i64 0, Value.int IntKind.i64 0, Value.slice none 0 0]
  have A3 := A0.alloc (Obj.cells #[Value.int IntKind.i64 0, Value.string { data := #[] }, Value.string { data := #[] }, Value.int IntKind.u64 0, Value.int IntKind.i64 0, Value.int IntKind.i64 0, Value.slice none 0 0] 25)
  have sz4 : (W.alloc (Obj.cells #[Value.int IntKind.i64 0, Value.string { data := #[] }, Value.string { data := #[] }, Value.int IntKind.u64 0, Value.int IntKind.i64 0, Value.int IntKind.i64 0, Value.slice none 0 0] 25)).heap.size = W.heap.size + 1 := by simp
  go_enter Tryz.func111, Tryz.ntmps111
  go_wp2_with fail
  refine (begin_any 18 kAccept (by decide) A3.rs).mono ?_
  intro e w1 H
  rcases H.cases with ⟨n, s1, v, hm5, rfl, ⟨a, rfl, rfl⟩, R, K⟩ | ⟨l, s', ch, hm, rfl, H1⟩
  rotate_left 1
  · exact ⟨rfl, A3.out HQ0 hm H1⟩
  have A6 := A3.call R K
  have HQ7 := hq_ok HQ0 hm5
  have B8 : Box w1 (W.heap.size) 25 #[Value.int IntKind.i64 0, Value.string { data := #[] }, Value.string { data := #[] }, Value.int IntKind.u64 0, Value.int IntKind.i64 0, Value.int IntKind.i64 0, Value.slice none 0 0] := B2.kept K (by decide)
  have sz9 := K.size
  clear HQ0 hm5 H R K
  have hb10 := A6.size
  have B11 := B8.alloc (Obj.cells #[Value.int IntKind.i64 18, Value.string { data := #[] }, Value.string { data := #[] }, Value.int IntKind.u64 0, Value.int IntKind.i64 0, Value.int IntKind.i64 a, Value.slice none 0 0] 25)
  have lt12 := B8.lt
  have B13 := Box.new (w1) 25 #[Value.int IntKind.i64 18, Value.string { data := #[] }, Value.string { data := #[] }, Value.int IntKind.u64 0, Value.int IntKind.i64 0, Value.int IntKind.i64 a, Value.slice none 0 0]
  have A14 := A6.alloc (Obj.cells #[Value.int IntKind.i64 18, Value.string { data := #[] }, Value.string { data := #[] }, Value.int IntKind.u64 0, Value.int IntKind.i64 0, Value.int IntKind.i64 a, Value.slice none 0 0] 25)
  have sz15 : (w1.alloc (Obj.cells #[Value.int IntKind.i64 18, Value.string { data := #[] }, Value.string { data := #[] }, Value.int IntKind.u64 0, Value.int IntKind.i64 0, Value.int IntKind.i64 a, Value.slice none 0 0] 25)).heap.size = w1.heap.size + 1 := by simp
  go_wp2_with fail
  refine (take_any pSemi (by decide) A14.rs).mono ?_
  intro e w2 H
  rcases H.cases with ⟨t1, s2, v, hm16, rfl, rfl, R, K⟩ | ⟨l, s', ch, hm, rfl, H1⟩
  rotate_left 1
  · exact ⟨rfl, A14.out HQ7 hm H1⟩
  have A17 := A14.call R K
  have HQ18 := hq_ok HQ7 hm16
  have B19 : Box w2 (W.heap.size) 25 #[Value.int IntKind.i64 0, Value.string { data := #[] }, Value.string { data := #[] }, Value.int IntKind.u64 0, Value.int IntKind.i64 0, Value.int IntKind.i64 0, Value.slice none 0 0] := B11.kept K (by decide)
  have B20 : Box w2 (w1.heap.size) 25 #[Value.int IntKind.i64 18, Value.string { data := #[] }, Value.string { data := #[] }, Value.int IntKind.u64 0, Value.int IntKind.i64 0, Value.int IntKind.i64 a, Value.slice none 0 0] := B13.kept K (by decide)
  have sz21 := K.size
  clear HQ7 hm16 H R K
  have c22 : w2.cell? ⟨w1.heap.size, 0, none⟩ = some (Value.int IntKind.i64 18) := B20.cell 0
  have c23 : w2.cell? ⟨w1.heap.size, 1, none⟩ = some (Value.string { data := #[] }) := B20.cell 1
  have c24 : w2.cell? ⟨w1.heap.size, 2, none⟩ = some (Value.string { data := #[] }) := B20.cell 2
  have c25 : w2.cell? ⟨w1.heap.size, 3, none⟩ = some (Value.int IntKind.u64 0) := B20.cell 3
  have c26 : w2.cell? ⟨w1.heap.size, 4, none⟩ = some (Value.int IntKind.i64 0) := B20.cell 4
  have c27 : w2.cell? ⟨w1.heap.size, 5, none⟩ = some (Value.int IntKind.i64 a) := B20.cell 5
  have c28 : w2.cell? ⟨w1.heap.size, 6, none⟩ = some (Value.slice none 0 0) := B20.cell 6
  have fz29 := B20.free
  have c30 : w2.cell? ⟨W.heap.size, 0, none⟩ = some (Value.int IntKind.i64 0) := B19.cell 0
  have c31 : w2.cell? ⟨W.heap.size, 1, none⟩ = some (Value.string { data := #[] }) := B19.cell 1
  have c32 : w2.cell? ⟨W.heap.size, 2, none⟩ = some (Value.string { data := #[] }) := B19.cell 2
  have c33 : w2.cell? ⟨W.heap.size, 3, none⟩ = some (Value.int IntKind.u64 0) := B19.cell 3
  have c34 : w2.cell? ⟨W.heap.size, 4, none⟩ = some (Value.int IntKind.i64 0) := B19.cell 4
  have c35 : w2.cell? ⟨W.heap.size, 5, none⟩ = some (Value.int IntKind.i64 0) := B19.cell 5
  have c36 : w2.cell? ⟨W.heap.size, 6, none⟩ = some (Value.slice none 0 0) := B19.cell 6
  have fz37 := B19.free
  go_wp2
  refine bodyPost_ret (v := .agg #[Value.int IntKind.i64 18, Value.string { data := #[] }, Value.string { data := #[] }, Value.int IntKind.u64 0, Value.int IntKind.i64 0, Value.int IntKind.i64 a, Value.slice none 0 0]) ?_ rfl ?_
  · simp [results, Tryz.results111, go_sem, c30, c31, c32, c33, c34, c35, c36]
  · exact (A17.fill B19 (Nat.le_refl _) _ _ _ _ _ _ _).ok HQ18 ⟨_, _, rfl, nodeAt_le (M := w1.heap.size + 1) (by omega) (nodeAt_fill (M := w1.heap.size + 1) (by omega) _ _ _ _ _ _ _ ((Kids.nil _ _).node _ _ _ _ _ _))⟩

set_option maxRecDepth 100000 in
set_option maxHeartbeats 1600000 in
theorem readReject_any {E : Env} {W : World} {dp : Nat} {s : St} (h : RS E 20 W dp s) :
    Calls Tryz.prog 112 #[.pointer (some ⟨E.r, 0, none⟩)] W (PostR E W dp (RNodeX W.heap.size) (readReject E.ts s)) := by
  have A0 := At.start h
  have HQ0 : Hid (readReject E.ts s = bnd (begin_ E.ts 19 kReject) (fun n => bnd (take E.ts wNumber) fun t => bnd (take E.ts pSemi) fun _ => ret (.mk 19 [] [] t.num 0 n.at_ [])) s) := Lib.hid rfl
  generalize hM : readReject E.ts s = M at *
  clear hM
  have hb1 := A0.size
  have B2 := Box.new (W) 25 #[Value.int IntKind.i64 0, Value.string { data := #[] }, Value.string { data := #[] }, Value.int IntKind.u64 0, Value.int IntKind.i64 0, Value.int IntKind.i64 0, Value.slice none 0 0]
  have A3 := A0.alloc (Obj.cells #[Value.int IntKind.i64 0, Value.string { data := #[] }, Value.string { data := #[] }, Value.int IntKind.u64 0, Value.int IntKind.i64 0, Value.int IntKind.i64 0, Value.slice none 0 0] 25)
  have sz4 : (W.alloc (Obj.cells #[Value.int IntKind.i64 0, Value.string { data := #[] }, Value.string { data := #[] }, Value.int IntKind.u64 0, Value.int IntKind.i64 0, Value.int IntKind.i64 0, Value.slice none 0 0] 25)).heap.size = W.heap.size + 1 := by simp
  have hfd := tokF2
  go_enter Tryz.func112, Tryz.ntmps112
  go_wp2_with fail
  refine (begin_any 19 kReject (by decide) A3.rs).mono ?_
  intro e w1 H
  rcases H.cases with ⟨n, s1, v, hm5, rfl, ⟨a, rfl, rfl⟩, R, K⟩ | ⟨l, s', ch, hm, rfl, H1⟩
  rotate_left 1
  · exact ⟨rfl, A3.out HQ0 hm H1⟩
  have A6 := A3.call R K
  have HQ7 := hq_ok HQ0 hm5
  have B8 : Box w1 (W.heap.size) 25 #[Value.int IntKind.i64 0, Value.string { data := #[] }, Value.string { data := #[] }, Value.int IntKind.u64 0, Value.int IntKind.i64 0, Value.int IntKind.i64 0, Value.slice none 0 0] := B2.kept K (by decide)
  have sz9 := K.size
  clear HQ0 hm5 H R K
  have hb10 := A6.size
  have B11 := B8.alloc (Obj.cells #[Value.int IntKind.i64 19, Value.string { data := #[] }, Value.string { data := #[] }, Value.int IntKind.u64 0, Value.int IntKind.i64 0, Value.int IntKind.i64 a, Value.slice none 0 0] 25)
  have lt12 := B8.lt
  have B13 := Box.new (w1) 25 #[Value.int IntKind.i64 19, Value.string { data := #[] }, Value.string { data := #[] }, Value.int IntKind.u64 0, Value.int IntKind.i64 0, Value.int IntKind.i64 a, Value.slice none 0 0]
  have A14 := A6.alloc (Obj.cells #[Value.int IntKind.i64 19, Value.string { data := #[] }, Value.string { data := #[] }, Value.int IntKind.u64 0, Value.int IntKind.i64 0, Value.int IntKind.i64 a, Value.slice none 0 0] 25)
  have sz15 : (w1.alloc (Obj.cells #[Value.int IntKind.i64 19, Value.string { data := #[] }, Value.string { data := #[] }, Value.int IntKind.u64 0, Value.int IntKind.i64 0, Value.int IntKind.i64 a, Value.slice none 0 0] 25)).heap.size = w1.heap.size + 1 := by simp
  go_wp2_with fail
  refine (take_any wNumber (by decide) A14.rs).mono ?_
  intro e w2 H
  rcases H.cases with ⟨t1, s2, v, hm16, rfl, rfl, R, K⟩ | ⟨l, s', ch, hm, rfl, H1⟩
  rotate_left 1
  · exact ⟨rfl, A14.out HQ7 hm H1⟩
  have A17 := A14.call R K
  have HQ18 := hq_ok HQ7 hm16
  have B19 : Box w2 (W.heap.size) 25 #[Value.int IntKind.i64 0, Value.string { data := #[] }, Value.string { data := #[] }, Value.int IntKind.u64 0, Value.int IntKind.i64 0, Value.int IntKind.i64 0, Value.slice none 0 0] := B11.kept K (by decide)
  have B20 : Box w2 (w1.heap.size) 25 #[Value.int IntKind.i64 19, Value.string { data := #[] }, Value.string { data := #[] }, Value.int IntKind.u64 0, Value.int IntKind.i64 0, Value.int IntKind.i64 a, Value.slice none 0 0] := B13.kept K (by decide)
  have sz21 := K.size
  clear HQ7 hm16 H R K
  have c22 : w2.cell? ⟨w1.heap.size, 3, none⟩ = some (Value.int IntKind.u64 0) := B20.cell 3
  have fz23 := B20.free
  have A24 := A17.set B20 hb10 3 (Value.int IntKind.u64 t1.num)
  have B25 := B19.far (b' := w1.heap.size) (i := 3) (by omega) (Value.int IntKind.u64 t1.num)
  have B26 := B20.set 3 (Value.int IntKind.u64 t1.num)
  have sz27 : (w2.setCell { block := w1.heap.size, off := 3 } (Value.int IntKind.u64 t1.num)).heap.size = w2.heap.size := by simp [World.setCell]
  go_wp2_with fail
  refine (take_any pSemi (by decide) A24.rs).mono ?_
  intro e w3 H
  rcases H.cases with ⟨t2, s3, v, hm28, rfl, rfl, R, K⟩ | ⟨l, s', ch, hm, rfl, H1⟩
  rotate_left 1
  · exact ⟨rfl, A24.out HQ18 hm H1⟩
  have A29 := A24.call R K
  have HQ30 := hq_ok HQ18 hm28
  have B31 : Box w3 (W.heap.size) 25 #[Value.int IntKind.i64 0, Value.string { data := #[] }, Value.string { data := #[] }, Value.int IntKind.u64 0, Value.int IntKind.i64 0, Value.int IntKind.i64 0, Value.slice none 0 0] := B25.kept K (by decide)
  have B32 : Box w3 (w1.heap.size) 25 #[Value.int IntKind.i64 19, Value.string { data := #[] }, Value.string { data := #[] }, Value.int IntKind.u64 t1.num, Value.int IntKind.i64 0, Value.int IntKind.i64 a, Value.slice none 0 0] := B26.kept K (by decide)
  have sz33 := K.size
  clear HQ18 hm28 H R K
  have c34 : w3.cell? ⟨w1.heap.size, 0, none⟩ = some (Value.int IntKind.i64 19) := B32.cell 0
  have c35 : w3.cell? ⟨w1.heap.size, 1, none⟩ = some (Value.string { data := #[] }) := B32.cell 1
  have c36 : w3.cell? ⟨w1.heap.size, 2, none⟩ = some (Value.string { data := #[] }) := B32.cell 2
  have c37 : w3.cell? ⟨w1.heap.size, 3, none⟩ = some (Value.int IntKind.u64 t1.num) := B32.cell 3
  have c38 : w3.cell? ⟨w1.heap.size, 4, none⟩ = some (Value.int IntKind.i64 0) := B32.cell 4
  have c39 : w3.cell? ⟨w1.heap.size, 5, none⟩ = some (Value.int IntKind.i64 a) := B32.cell 5
  have c40 : w3.cell? ⟨w1.heap.size, 6, none⟩ = some (Value.slice none 0 0) := B32.cell 6
  have fz41 := B32.free
  have c42 : w3.cell? ⟨W.heap.size, 0, none⟩ = some (Value.int IntKind.i64 0) := B31.cell 0
  have c43 : w3.cell? ⟨W.heap.size, 1, none⟩ = some (Value.string { data := #[] }) := B31.cell 1
  have c44 : w3.cell? ⟨W.heap.size, 2, none⟩ = some (Value.string { data := #[] }) := B31.cell 2
  have c45 : w3.cell? ⟨W.heap.size, 3, none⟩ = some (Value.int IntKind.u64 0) := B31.cell 3
  have c46 : w3.cell? ⟨W.heap.size, 4, none⟩ = some (Value.int IntKind.i64 0) := B31.cell 4
  have c47 : w3.cell? ⟨W.heap.size, 5, none⟩ = some (Value.int IntKind.i64 0) := B31.cell 5
  have c48 : w3.cell? ⟨W.heap.size, 6, none⟩ = some (Value.slice none 0 0) := B31.cell 6
  have fz49 := B31.free
  go_wp2
  refine bodyPost_ret (v := .agg #[Value.int IntKind.i64 19, Value.string { data := #[] }, Value.string { data := #[] }, Value.int IntKind.u64 t1.num, Value.int IntKind.i64 0, Value.int IntKind.i64 a, Value.slice none 0 0]) ?_ rfl ?_
  · simp [results, Tryz.results112, go_sem, c42, c43, c44, c45, c46, c47, c48]
  · exact (A29.fill B31 (Nat.le_refl _) _ _ _ _ _ _ _).ok HQ30 ⟨_, _, rfl, nodeAt_le (M := w1.heap.size + 1) (by omega) (nodeAt_fill (M := w1.heap.size + 1) (by omega) _ _ _ _ _ _ _ ((Kids.nil _ _).node _ _ _ _ _ _))⟩

set_option maxRecDepth 100000 in
set_option maxHeartbeats 1600000 in
theorem readFree_any {E : Env} {W : World} {dp : Nat} {s : St} (h : RS E 20 W dp s) :
    Calls Tryz.prog 106 #[.pointer (some ⟨E.r, 0, none⟩)] W (PostR E W dp (RNodeX W.heap.size) (readFree E.ts s)) := by
  have A0 := At.start h
  have HQ0 : Hid (readFree E.ts s = bnd (begin_ E.ts 13 kFree) (fun n => bnd (name E.ts) fun y => bnd (take E.ts pSemi) fun _ => ret (.mk 13 y [] 0 0 n.at_ [])) s) := Lib.hid rfl
  generalize hM : readFree E.ts s = M at *
  clear hM
  have hb1 := A0.size
  have B2 := Box.new (W) 25 #[Value.int IntKind.i64 0, Value.string { data := #[] }, Value.string { data := #[] }, Value.int IntKind.u64 0, Value.int IntKind.i64 0, Value.int IntKind.i64 0, Value.slice none 0 0]
  have A3 := A0.alloc (Obj.cells #[Value.int IntKind.i64 0, Value.string { data := #[] }, Value.string { data := #[] }, Value.int IntKind.u64 0, Value.int IntKind.i64 0, Value.int IntKind.i64 0, Value.slice none 0 0] 25)
  have sz4 : (W.alloc (Obj.cells #[Value.int IntKind.i64 0, Value.string { data := #[] }, Value.string { data := #[] }, Value.int IntKind.u64 0, Value.int IntKind.i64 0, Value.int IntKind.i64 0, Value.slice none 0 0] 25)).heap.size = W.heap.size + 1 := by simp
  go_enter Tryz.func106, Tryz.ntmps106
  go_wp2_with fail
  refine (begin_any 13 kFree (by decide) A3.rs).mono ?_
  intro e w1 H
  rcases H.cases with ⟨n, s1, v, hm5, rfl, ⟨a, rfl, rfl⟩, R, K⟩ | ⟨l, s', ch, hm, rfl, H1⟩
  rotate_left 1
  · exact ⟨rfl, A3.out HQ0 hm H1⟩
  have A6 := A3.call R K
  have HQ7 := hq_ok HQ0 hm5
  have B8 : Box w1 (W.heap.size) 25 #[Value.int IntKind.i64 0, Value.string { data := #[] }, Value.string { data := #[] }, Value.int IntKind.u64 0, Value.int IntKind.i64 0, Value.int IntKind.i64 0, Value.slice none 0 0] := B2.kept K (by decide)
  have sz9 := K.size
  clear HQ0 hm5 H R K
  have hb10 := A6.size
  have B11 := B8.alloc (Obj.cells #[Value.int IntKind.i64 13, Value.string { data := #[] }, Value.string { data := #[] }, Value.int IntKind.u64 0, Value.int IntKind.i64 0, Value.int IntKind.i64 a, Value.slice none 0 0] 25)
  have lt12 := B8.lt
  have B13 := Box.new (w1) 25 #[Value.int IntKind.i64 13, Value.string { data := #[] }, Value.string { data := #[] }, Value.int IntKind.u64 0, Value.int IntKind.i64 0, Value.int IntKind.i64 a, Value.slice none 0 0]
  have A14 := A6.alloc (Obj.cells #[Value.int IntKind.i64 13, Value.string { data := #[] }, Value.string { data := #[] }, Value.int IntKind.u64 0, Value.int IntKind.i64 0, Value.int IntKind.i64 a, Value.slice none 0 0] 25)
  have sz15 : (w1.alloc (Obj.cells #[Value.int IntKind.i64 13, Value.string { data := #[] }, Value.string { data := #[] }, Value.int IntKind.u64 0, Value.int IntKind.i64 0, Value.int IntKind.i64 a, Value.slice none 0 0] 25)).heap.size = w1.heap.size + 1 := by simp
  go_wp2_with fail
  refine (name_any A14.rs).mono ?_
  intro e w2 H
  rcases H.cases with ⟨y, s2, v, hm16, rfl, rfl, R, K⟩ | ⟨l, s', ch, hm, rfl, H1⟩
  rotate_left 1
  · exact ⟨rfl, A14.out HQ7 hm H1⟩
  have A17 := A14.call R K
  have HQ18 := hq_ok HQ7 hm16
  have B19 : Box w2 (W.heap.size) 25 #[Value.int IntKind.i64 0, Value.string { data := #[] }, Value.string { data := #[] }, Value.int IntKind.u64 0, Value.int IntKind.i64 0, Value.int IntKind.i64 0, Value.slice none 0 0] := B11.kept K (by decide)
  have B20 : Box w2 (w1.heap.size) 25 #[Value.int IntKind.i64 13, Value.string { data := #[] }, Value.string { data := #[] }, Value.int IntKind.u64 0, Value.int IntKind.i64 0, Value.int IntKind.i64 a, Value.slice none 0 0] := B13.kept K (by decide)
  have sz21 := K.size
  clear HQ7 hm16 H R K
  have c22 : w2.cell? ⟨w1.heap.size, 1, none⟩ = some (Value.string { data := #[] }) := B20.cell 1
  have fz23 := B20.free
  have A24 := A17.set B20 hb10 1 (Value.string { data := (y).toArray })
  have B25 := B19.far (b' := w1.heap.size) (i := 1) (by omega) (Value.string { data := (y).toArray })
  have B26 := B20.set 1 (Value.string { data := (y).toArray })
  have sz27 : (w2.setCell { block := w1.heap.size, off := 1 } (Value.string { data := (y).toArray })).heap.size = w2.heap.size := by simp [World.setCell]
  go_wp2_with fail
  refine (take_any pSemi (by decide) A24.rs).mono ?_
  intro e w3 H
  rcases H.cases with ⟨t2, s3, v, hm28, rfl, rfl, R, K⟩ | ⟨l, s', ch, hm, rfl, H1⟩
  rotate_left 1
  · exact ⟨rfl, A24.out HQ18 hm H1⟩
  have A29 := A24.call R K
  have HQ30 := hq_ok HQ18 hm28
  have B31 : Box w3 (W.heap.size) 25 #[Value.int IntKind.i64 0, Value.string { data := #[] }, Value.string { data := #[] }, Value.int IntKind.u64 0, Value.int IntKind.i64 0, Value.int IntKind.i64 0, Value.slice none 0 0] := B25.kept K (by decide)
  have B32 : Box w3 (w1.heap.size) 25 #[Value.int IntKind.i64 13, Value.string { data := (y).toArray }, Value.string { data := #[] }, Value.int IntKind.u64 0, Value.int IntKind.i64 0, Value.int IntKind.i64 a, Value.slice none 0 0] := B26.kept K (by decide)
  have sz33 := K.size
  clear HQ18 hm28 H R K
  have c34 : w3.cell? ⟨w1.heap.size, 0, none⟩ = some (Value.int IntKind.i64 13) := B32.cell 0
  have c35 : w3.cell? ⟨w1.heap.size, 1, none⟩ = some (Value.string { data := (y).toArray }) := B32.cell 1
  have c36 : w3.cell? ⟨w1.heap.size, 2, none⟩ = some (Value.string { data := #[] }) := B32.cell 2
  have c37 : w3.cell? ⟨w1.heap.size, 3, none⟩ = some (Value.int IntKind.u64 0) := B32.cell 3
  have c38 : w3.cell? ⟨w1.heap.size, 4, none⟩ = some (Value.int IntKind.i64 0) := B32.cell 4
  have c39 : w3.cell? ⟨w1.heap.size, 5, none⟩ = some (Value.int IntKind.i64 a) := B32.cell 5
  have c40 : w3.cell? ⟨w1.heap.size, 6, none⟩ = some (Value.slice none 0 0) := B32.cell 6
  have fz41 := B32.free
  have c42 : w3.cell? ⟨W.heap.size, 0, none⟩ = some (Value.int IntKind.i64 0) := B31.cell 0
  have c43 : w3.cell? ⟨W.heap.size, 1, none⟩ = some (Value.string { data := #[] }) := B31.cell 1
  have c44 : w3.cell? ⟨W.heap.size, 2, none⟩ = some (Value.string { data := #[] }) := B31.cell 2
  have c45 : w3.cell? ⟨W.heap.size, 3, none⟩ = some (Value.int IntKind.u64 0) := B31.cell 3
  have c46 : w3.cell? ⟨W.heap.size, 4, none⟩ = some (Value.int IntKind.i64 0) := B31.cell 4
  have c47 : w3.cell? ⟨W.heap.size, 5, none⟩ = some (Value.int IntKind.i64 0) := B31.cell 5
  have c48 : w3.cell? ⟨W.heap.size, 6, none⟩ = some (Value.slice none 0 0) := B31.cell 6
  have fz49 := B31.free
  go_wp2
  refine bodyPost_ret (v := .agg #[Value.int IntKind.i64 13, Value.string { data := (y).toArray }, Value.string { data := #[] }, Value.int IntKind.u64 0, Value.int IntKind.i64 0, Value.int IntKind.i64 a, Value.slice none 0 0]) ?_ rfl ?_
  · simp [results, Tryz.results106, go_sem, c42, c43, c44, c45, c46, c47, c48]
  · exact (A29.fill B31 (Nat.le_refl _) _ _ _ _ _ _ _).ok HQ30 ⟨_, _, rfl, nodeAt_le (M := w1.heap.size + 1) (by omega) (nodeAt_fill (M := w1.heap.size + 1) (by omega) _ _ _ _ _ _ _ ((Kids.nil _ _).node _ _ _ _ _ _))⟩

set_option maxRecDepth 100000 in
set_option maxHeartbeats 1600000 in
theorem readPair_any {E : Env} {W : World} {dp : Nat} {s : St} (kind : Nat) (wo b : Str) (hw1 : wo ≠ wEnd) (hw2 : b ≠ wEnd) (h : RS E 20 W dp s) :
    Calls Tryz.prog 160 #[.pointer (some ⟨E.r, 0, none⟩), .int .i64 kind, .string ⟨wo.toArray⟩, .string ⟨b.toArray⟩] W (PostR E W dp (RNodeX W.heap.size) (readPair E.ts kind wo b s)) := by
  have A0 := At.start h
  have HQ0 : Hid (readPair E.ts kind wo b s = bnd (begin_ E.ts kind wo) (fun n => bnd (name E.ts) fun y => bnd (take E.ts b) fun _ => bnd (name E.ts) fun z => bnd (take E.ts pSemi) fun _ => ret (.mk kind y z 0 0 n.at_ [])) s) := Lib.hid rfl
  generalize hM : readPair E.ts kind wo b s = M at *
  clear hM
  have hb1 := A0.size
  have B2 := Box.new (W) 25 #[Value.int IntKind.i64 0, Value.string { data := #[] }, Value.string { data := #[] }, Value.int IntKind.u64 0, Value.int IntKind.i64 0, Value.int IntKind.i64 0, Value.slice none 0 0]
  have A3 := A0.alloc (Obj.cells #[Value.int IntKind.i64 0, Value.string { data := #[] }, Value.string { data := #[] }, Value.int IntKind.u64 0, Value.int IntKind.i64 0, Value.int IntKind.i64 0, Value.slice none 0 0] 25)
  have sz4 : (W.alloc (Obj.cells #[Value.int IntKind.i64 0, Value.string { data := #[] }, Value.string { data := #[] }, Value.int IntKind.u64 0, Value.int IntKind.i64 0, Value.int IntKind.i64 0, Value.slice none 0 0] 25)).heap.size = W.heap.size + 1 := by simp
  go_enter Tryz.func160, Tryz.ntmps160
  go_wp2_with fail
  refine (begin_any kind wo hw1 A3.rs).mono ?_
  intro e w1 H
  rcases H.cases with ⟨n, s1, v, hm5, rfl, ⟨a, rfl, rfl⟩, R, K⟩ | ⟨l, s', ch, hm, rfl, H1⟩
  rotate_left 1
  · exact ⟨rfl, A3.out HQ0 hm H1⟩
  have A6 := A3.call R K
  have HQ7 := hq_ok HQ0 hm5
  have B8 : Box w1 (W.heap.size) 25 #[Value.int IntKind.i64 0, Value.string { data := #[] }, Value.string { data := #[] }, Value.int IntKind.u64 0, Value.int IntKind.i64 0, Value.int IntKind.i64 0, Value.slice none 0 0] := B2.kept K (by decide)
  have sz9 := K.size
  clear HQ0 hm5 H R K
  have hb10 := A6.size
  have B11 := B8.alloc (Obj.cells #[Value.int IntKind.i64 kind, Value.string { data := #[] }, Value.string { data := #[] }, Value.int IntKind.u64 0, Value.int IntKind.i64 0, Value.int IntKind.i64 a, Value.slice none 0 0] 25)
  have lt12 := B8.lt
  have B13 := Box.new (w1) 25 #[Value.int IntKind.i64 kind, Value.string { data := #[] }, Value.string { data := #[] }, Value.int IntKind.u64 0, Value.int IntKind.i64 0, Value.int IntKind.i64 a, Value.slice none 0 0]
  have A14 := A6.alloc (Obj.cells #[Value.int IntKind.i64 kind, Value.string { data := #[] }, Value.string { data := #[] }, Value.int IntKind.u64 0, Value.int IntKind.i64 0, Value.int IntKind.i64 a, Value.slice none 0 0] 25)
  have sz15 : (w1.alloc (Obj.cells #[Value.int IntKind.i64 kind, Value.string { data := #[] }, Value.string { data := #[] }, Value.int IntKind.u64 0, Value.int IntKind.i64 0, Value.int IntKind.i64 a, Value.slice none 0 0] 25)).heap.size = w1.heap.size + 1 := by simp
  go_wp2_with fail
  refine (name_any A14.rs).mono ?_
  intro e w2 H
  rcases H.cases with ⟨y, s2, v, hm16, rfl, rfl, R, K⟩ | ⟨l, s', ch, hm, rfl, H1⟩
  rotate_left 1
  · exact ⟨rfl, A14.out HQ7 hm H1⟩
  have A17 := A14.call R K
  have HQ18 := hq_ok HQ7 hm16
  have B19 : Box w2 (W.heap.size) 25 #[Value.int IntKind.i64 0, Value.string { data := #[] }, Value.string { data := #[] }, Value.int IntKind.u64 0, Value.int IntKind.i64 0, Value.int IntKind.i64 0, Value.slice none 0 0] := B11.kept K (by decide)
  have B20 : Box w2 (w1.heap.size) 25 #[Value.int IntKind.i64 kind, Value.string { data := #[] }, Value.string { data := #[] }, Value.int IntKind.u64 0, Value.int IntKind.i64 0, Value.int IntKind.i64 a, Value.slice none 0 0] := B13.kept K (by decide)
  have sz21 := K.size
  clear HQ7 hm16 H R K
  have c22 : w2.cell? ⟨w1.heap.size, 1, none⟩ = some (Value.string { data := #[] }) := B20.cell 1
  have fz23 := B20.free
  have A24 := A17.set B20 hb10 1 (Value.string { data := (y).toArray })
  have B25 := B19.far (b' := w1.heap.size) (i := 1) (by omega) (Value.string { data := (y).toArray })
  have B26 := B20.set 1 (Value.string { data := (y).toArray })
  have sz27 : (w2.setCell { block := w1.heap.size, off := 1 } (Value.string { data := (y).toArray })).heap.size = w2.heap.size := by simp [World.setCell]
  go_wp2_with fail
  refine (take_any b hw2 A24.rs).mono ?_
  intro e w3 H
  rcases H.cases with ⟨t2, s3, v, hm28, rfl, rfl, R, K⟩ | ⟨l, s', ch, hm, rfl, H1⟩
  rotate_left 1
  · exact ⟨rfl, A24.out HQ18 hm H1⟩
  have A29 := A24.call R K
  have HQ30 := hq_ok HQ18 hm28
  have B31 : Box w3 (W.heap.size) 25 #[Value.int IntKind.i64 0, Value.string { data := #[] }, Value.string { data := #[] }, Value.int IntKind.u64 0, Value.int IntKind.i64 0, Value.int IntKind.i64 0, Value.slice none 0 0] := B25.kept K (by decide)
  have B32 : Box w3 (w1.heap.size) 25 #[Value.int IntKind.i64 kind, Value.string { data := (y).toArray }, Value.string { data := #[] }, Value.int IntKind.u64 0, Value.int IntKind.i64 0, Value.int IntKind.i64 a, Value.slice none 0 0] := B26.kept K (by decide)
  have sz33 := K.size
  clear HQ18 hm28 H R K
  go_wp2_with fail
  refine (name_any A29.rs).mono ?_
  intro e w4 H
  rcases H.cases with ⟨z, s4, v, hm34, rfl, rfl, R, K⟩ | ⟨l, s', ch, hm, rfl, H1⟩
  rotate_left 1
  · exact ⟨rfl, A29.out HQ30 hm H1⟩
  have A35 := A29.call R K
  have HQ36 := hq_ok HQ30 hm34
  have B37 : Box w4 (W.heap.size) 25 #[Value.int IntKind.i64 0, Value.string { data := #[] }, Value.string { data := #[] }, Value.int IntKind.u64 0, Value.int IntKind.i64 0, Value.int IntKind.i64 0, Value.slice none 0 0] := B31.kept K (by decide)
  have B38 : Box w4 (w1.heap.size) 25 #[Value.int IntKind.i64 kind, Value.string { data := (y).toArray }, Value.string { data := #[] }, Value.int IntKind.u64 0, Value.int IntKind.i64 0, Value.int IntKind.i64 a, Value.slice none 0 0] := B32.kept K (by decide)
  have sz39 := K.size
  clear HQ30 hm34 H R K
  have c40 : w4.cell? ⟨w1.heap.size, 2, none⟩ = some (Value.string { data := #[] }) := B38.cell 2
  have fz41 := B38.free
  have A42 := A35.set B38 hb10 2 (Value.string { data := (z).toArray })
  have B43 := B37.far (b' := w1.heap.size) (i := 2) (by omega) (Value.string { data := (z).toArray })
  have B44 := B38.set 2 (Value.string { data := (z).toArray })
  have sz45 : (w4.setCell { block := w1.heap.size, off := 2 } (Value.string { data := (z).toArray })).heap.size = w4.heap.size := by simp [World.setCell]
  go_wp2_with fail
  refine (take_any pSemi (by decide) A42.rs).mono ?_
  intro e w5 H
  rcases H.cases with ⟨t3, s5, v, hm46, rfl, rfl, R, K⟩ | ⟨l, s', ch, hm, rfl, H1⟩
  rotate_left 1
  · exact ⟨rfl, A42.out HQ36 hm H1⟩
  have A47 := A42.call R K
  have HQ48 := hq_ok HQ36 hm46
  have B49 : Box w5 (W.heap.size) 25 #[Value.int IntKind.i64 0, Value.string { data := #[] }, Value.string { data := #[] }, Value.int IntKind.u64 0, Value.int IntKind.i64 0, Value.int IntKind.i64 0, Value.slice none 0 0] := B43.kept K (by decide)
  have B50 : Box w5 (w1.heap.size) 25 #[Value.int IntKind.i64 kind, Value.string { data := (y).toArray }, Value.string { data := (z).toArray }, Value.int IntKind.u64 0, Value.int IntKind.i64 0, Value.int IntKind.i64 a, Value.slice none 0 0] := B44.kept K (by decide)
  have sz51 := K.size
  clear HQ36 hm46 H R K
  have c52 : w5.cell? ⟨w1.heap.size, 0, none⟩ = some (Value.int IntKind.i64 kind) := B50.cell 0
  have c53 : w5.cell? ⟨w1.heap.size, 1, none⟩ = some (Value.string { data := (y).toArray }) := B50.cell 1
  have c54 : w5.cell? ⟨w1.heap.size, 2, none⟩ = some (Value.string { data := (z).toArray }) := B50.cell 2
  have c55 : w5.cell? ⟨w1.heap.size, 3, none⟩ = some (Value.int IntKind.u64 0) := B50.cell 3
  have c56 : w5.cell? ⟨w1.heap.size, 4, none⟩ = some (Value.int IntKind.i64 0) := B50.cell 4
  have c57 : w5.cell? ⟨w1.heap.size, 5, none⟩ = some (Value.int IntKind.i64 a) := B50.cell 5
  have c58 : w5.cell? ⟨w1.heap.size, 6, none⟩ = some (Value.slice none 0 0) := B50.cell 6
  have fz59 := B50.free
  have c60 : w5.cell? ⟨W.heap.size, 0, none⟩ = some (Value.int IntKind.i64 0) := B49.cell 0
  have c61 : w5.cell? ⟨W.heap.size, 1, none⟩ = some (Value.string { data := #[] }) := B49.cell 1
  have c62 : w5.cell? ⟨W.heap.size, 2, none⟩ = some (Value.string { data := #[] }) := B49.cell 2
  have c63 : w5.cell? ⟨W.heap.size, 3, none⟩ = some (Value.int IntKind.u64 0) := B49.cell 3
  have c64 : w5.cell? ⟨W.heap.size, 4, none⟩ = some (Value.int IntKind.i64 0) := B49.cell 4
  have c65 : w5.cell? ⟨W.heap.size, 5, none⟩ = some (Value.int IntKind.i64 0) := B49.cell 5
  have c66 : w5.cell? ⟨W.heap.size, 6, none⟩ = some (Value.slice none 0 0) := B49.cell 6
  have fz67 := B49.free
  go_wp2
  refine bodyPost_ret (v := .agg #[Value.int IntKind.i64 kind, Value.string { data := (y).toArray }, Value.string { data := (z).toArray }, Value.int IntKind.u64 0, Value.int IntKind.i64 0, Value.int IntKind.i64 a, Value.slice none 0 0]) ?_ rfl ?_
  · simp [results, Tryz.results160, go_sem, c60, c61, c62, c63, c64, c65, c66]
  · exact (A47.fill B49 (Nat.le_refl _) _ _ _ _ _ _ _).ok HQ48 ⟨_, _, rfl, nodeAt_le (M := w1.heap.size + 1) (by omega) (nodeAt_fill (M := w1.heap.size + 1) (by omega) _ _ _ _ _ _ _ ((Kids.nil _ _).node _ _ _ _ _ _))⟩

end Go.Proofs.YtmkehecapjdfdaaGreatDoor

/- Names with types, numbers, parts, the shorter statements. -/
namespace Go.Proofs.YtmkehecapjdfdaaGreatDoor
open Go.RowKit

set_option maxRecDepth 100000 in
set_option maxHeartbeats 1600000 in
theorem typedName_any {E : Env} {W : World} {dp : Nat} {s : St} (kind : Nat) (h : RS E 20 W dp s) :
    Calls Tryz.prog 184 #[.pointer (some ⟨E.r, 0, none⟩), .int .i64 kind] W (PostR E W dp (RNodeX W.heap.size) (typedName E.ts kind s)) := by
  have A0 := At.start h
  have HQ0 : Hid (typedName E.ts kind s = bnd (take E.ts wName) (fun t => bnd (take E.ts pColon) fun _ => bnd (width E.ts) fun y => ret (.mk kind t.text [] 0 y t.off [])) s) := Lib.hid rfl
  generalize hM : typedName E.ts kind s = M at *
  clear hM
  have hb1 := A0.size
  have B2 := Box.new (W) 25 #[Value.int IntKind.i64 0, Value.string { data := #[] }, Value.string { data := #[] }, Value.int IntKind.u64 0, Value.int IntKind.i64 0, Value.int IntKind.i64 0, Value.slice none 0 0]
  have A3 := A0.alloc (Obj.cells #[Value.int IntKind.i64 0, Value.string { data := #[] }, Value.string { data := #[] }, Value.int IntKind.u64 0, Value.int IntKind.i64 0, Value.int IntKind.i64 0, Value.slice none 0 0] 25)
  have sz4 : (W.alloc (Obj.cells #[Value.int IntKind.i64 0, Value.string { data := #[] }, Value.string { data := #[] }, Value.int IntKind.u64 0, Value.int IntKind.i64 0, Value.int IntKind.i64 0, Value.slice none 0 0] 25)).heap.size = W.heap.size + 1 := by simp
  go_enter Tryz.func184, Tryz.ntmps184
  go_wp2_with fail
  refine (take_any wName (by decide) A3.rs).mono ?_
  intro e w1 H
  rcases H.cases with ⟨t, s1, v, hm5, rfl, rfl, R, K⟩ | ⟨l, s', ch, hm, rfl, H1⟩
  rotate_left 1
  · exact ⟨rfl, A3.out HQ0 hm H1⟩
  have A6 := A3.call R K
  have HQ7 := hq_ok HQ0 hm5
  have B8 : Box w1 (W.heap.size) 25 #[Value.int IntKind.i64 0, Value.string { data := #[] }, Value.string { data := #[] }, Value.int IntKind.u64 0, Value.int IntKind.i64 0, Value.int IntKind.i64 0, Value.slice none 0 0] := B2.kept K (by decide)
  have sz9 := K.size
  clear HQ0 hm5 H R K
  have hb10 := A6.size
  have B11 := B8.alloc (Obj.cells #[Value.int IntKind.i64 t.kind, Value.string { data := t.text.toArray }, Value.int IntKind.u64 t.num, Value.int IntKind.i64 t.off] 47)
  have lt12 := B8.lt
  have B13 := Box.new (w1) 47 #[Value.int IntKind.i64 t.kind, Value.string { data := t.text.toArray }, Value.int IntKind.u64 t.num, Value.int IntKind.i64 t.off]
  have A14 := A6.alloc (Obj.cells #[Value.int IntKind.i64 t.kind, Value.string { data := t.text.toArray }, Value.int IntKind.u64 t.num, Value.int IntKind.i64 t.off] 47)
  have sz15 : (w1.alloc (Obj.cells #[Value.int IntKind.i64 t.kind, Value.string { data := t.text.toArray }, Value.int IntKind.u64 t.num, Value.int IntKind.i64 t.off] 47)).heap.size = w1.heap.size + 1 := by simp
  go_wp2_with fail
  refine (take_any pColon (by decide) A14.rs).mono ?_
  intro e w2 H
  rcases H.cases with ⟨t2, s2, v, hm16, rfl, rfl, R, K⟩ | ⟨l, s', ch, hm, rfl, H1⟩
  rotate_left 1
  · exact ⟨rfl, A14.out HQ7 hm H1⟩
  have A17 := A14.call R K
  have HQ18 := hq_ok HQ7 hm16
  have B19 : Box w2 (W.heap.size) 25 #[Value.int IntKind.i64 0, Value.string { data := #[] }, Value.string { data := #[] }, Value.int IntKind.u64 0, Value.int IntKind.i64 0, Value.int IntKind.i64 0, Value.slice none 0 0] := B11.kept K (by decide)
  have B20 : Box w2 (w1.heap.size) 47 #[Value.int IntKind.i64 t.kind, Value.string { data := t.text.toArray }, Value.int IntKind.u64 t.num, Value.int IntKind.i64 t.off] := B13.kept K (by decide)
  have sz21 := K.size
  clear HQ7 hm16 H R K
  go_wp2_with fail
  have c22 : w2.cell? ⟨w1.heap.size, 1, none⟩ = some (Value.string { data := t.text.toArray }) := B20.cell 1
  have c23 : w2.cell? ⟨w1.heap.size, 3, none⟩ = some (Value.int IntKind.i64 t.off) := B20.cell 3
  have fz24 := B20.free
  have ne1 : ¬ W.heap.size = w1.heap.size := by omega
  have ne2 : ¬ w1.heap.size = W.heap.size := by omega
  go_region_law (first | (go_simp; go_at_call 156; refine (width_any A17.drew.rs).mono ?_; intro e w3 H; rcases H.cases with ⟨y, s3, v, hm, rfl, rfl, R, K⟩ | ⟨l, s', ch, hm, rfl, H1⟩; rotate_left 1; exact ⟨rfl, A17.drew.out HQ18 hm H1⟩; have AR := A17.drew.call R K; have HQR := hq_ok HQ18 hm; have BT : Box w3 (w1.heap.size) 47 #[Value.int IntKind.i64 t.kind, Value.string { data := t.text.toArray }, Value.int IntKind.u64 t.num, Value.int IntKind.i64 t.off] := Box.kept (w := w2.drew) B20 K (by decide); have BRes : Box w3 (W.heap.size) 25 #[Value.int IntKind.i64 0, Value.string { data := #[] }, Value.string { data := #[] }, Value.int IntKind.u64 0, Value.int IntKind.i64 0, Value.int IntKind.i64 0, Value.slice none 0 0] := Box.kept (w := w2.drew) B19 K (by decide); have e1 : w3.cell? ⟨w1.heap.size, 1, none⟩ = some (Value.string { data := t.text.toArray }) := BT.cell 1; have e3 : w3.cell? ⟨w1.heap.size, 3, none⟩ = some (Value.int IntKind.i64 t.off) := BT.cell 3; have rc0 : w3.cell? ⟨W.heap.size, 0, none⟩ = some (Value.int IntKind.i64 0) := BRes.cell 0; have rc1 : w3.cell? ⟨W.heap.size, 1, none⟩ = some (Value.string { data := #[] }) := BRes.cell 1; have rc2 : w3.cell? ⟨W.heap.size, 2, none⟩ = some (Value.string { data := #[] }) := BRes.cell 2; have rc3 : w3.cell? ⟨W.heap.size, 3, none⟩ = some (Value.int IntKind.u64 0) := BRes.cell 3; have rc4 : w3.cell? ⟨W.heap.size, 4, none⟩ = some (Value.int IntKind.i64 0) := BRes.cell 4; have rc5 : w3.cell? ⟨W.heap.size, 5, none⟩ = some (Value.int IntKind.i64 0) := BRes.cell 5; have rc6 : w3.cell? ⟨W.heap.size, 6, none⟩ = some (Value.slice none 0 0) := BRes.cell 6; have rf := BRes.free; have szR : w2.heap.size ≤ w3.heap.size := K.size; clear K R H hm))
  all_goals
    go_wp2
    refine bodyPost_ret (v := .agg #[Value.int IntKind.i64 kind, Value.string { data := t.text.toArray }, Value.string { data := #[] }, Value.int IntKind.u64 0, Value.int IntKind.i64 y, Value.int IntKind.i64 t.off, Value.slice none 0 0]) ?_ rfl ?_
    · simp [results, Tryz.results184, go_sem, rc0, rc1, rc2, rc3, rc4, rc5, rc6]
    · exact (AR.fill BRes (Nat.le_refl _) _ _ _ _ _ _ _).ok HQR ⟨_, _, rfl, nodeAt_le (M := w1.heap.size) (by omega) (nodeAt_fill (M := w1.heap.size) (by omega) _ _ _ _ _ _ _ ((Kids.nil _ _).node _ _ _ _ _ _))⟩

set_option maxRecDepth 100000 in
set_option maxHeartbeats 1600000 in
theorem readNumber_any {E : Env} {W : World} {dp : Nat} {s : St} (h : RS E 20 W dp s) :
    Calls Tryz.prog 120 #[.pointer (some ⟨E.r, 0, none⟩)] W (PostR E W dp (RNodeX W.heap.size) (readNumber E.ts s)) := by
  have A0 := At.start h
  have HQ0 : Hid (readNumber E.ts s = bnd (take E.ts wNumber) (fun t => bnd (take E.ts pColon) fun _ => bnd (width E.ts) fun y => ret (.mk 21 [] [] t.num y t.off [])) s) := Lib.hid rfl
  generalize hM : readNumber E.ts s = M at *
  clear hM
  have hb1 := A0.size
  have B2 := Box.new (W) 25 #[Value.int IntKind.i64 0, Value.string { data := #[] }, Value.string { data := #[] }, Value.int IntKind.u64 0, Value.int IntKind.i64 0, Value.int IntKind.i64 0, Value.slice none 0 0]
  have A3 := A0.alloc (Obj.cells #[Value.int IntKind.i64 0, Value.string { data := #[] }, Value.string { data := #[] }, Value.int IntKind.u64 0, Value.int IntKind.i64 0, Value.int IntKind.i64 0, Value.slice none 0 0] 25)
  have sz4 : (W.alloc (Obj.cells #[Value.int IntKind.i64 0, Value.string { data := #[] }, Value.string { data := #[] }, Value.int IntKind.u64 0, Value.int IntKind.i64 0, Value.int IntKind.i64 0, Value.slice none 0 0] 25)).heap.size = W.heap.size + 1 := by simp
  go_enter Tryz.func120, Tryz.ntmps120
  go_wp2_with fail
  refine (take_any wNumber (by decide) A3.rs).mono ?_
  intro e w1 H
  rcases H.cases with ⟨t, s1, v, hm5, rfl, rfl, R, K⟩ | ⟨l, s', ch, hm, rfl, H1⟩
  rotate_left 1
  · exact ⟨rfl, A3.out HQ0 hm H1⟩
  have A6 := A3.call R K
  have HQ7 := hq_ok HQ0 hm5
  have B8 : Box w1 (W.heap.size) 25 #[Value.int IntKind.i64 0, Value.string { data := #[] }, Value.string { data := #[] }, Value.int IntKind.u64 0, Value.int IntKind.i64 0, Value.int IntKind.i64 0, Value.slice none 0 0] := B2.kept K (by decide)
  have sz9 := K.size
  clear HQ0 hm5 H R K
  have hb10 := A6.size
  have B11 := B8.alloc (Obj.cells #[Value.int IntKind.i64 t.kind, Value.string { data := t.text.toArray }, Value.int IntKind.u64 t.num, Value.int IntKind.i64 t.off] 47)
  have lt12 := B8.lt
  have B13 := Box.new (w1) 47 #[Value.int IntKind.i64 t.kind, Value.string { data := t.text.toArray }, Value.int IntKind.u64 t.num, Value.int IntKind.i64 t.off]
  have A14 := A6.alloc (Obj.cells #[Value.int IntKind.i64 t.kind, Value.string { data := t.text.toArray }, Value.int IntKind.u64 t.num, Value.int IntKind.i64 t.off] 47)
  have sz15 : (w1.alloc (Obj.cells #[Value.int IntKind.i64 t.kind, Value.string { data := t.text.toArray }, Value.int IntKind.u64 t.num, Value.int IntKind.i64 t.off] 47)).heap.size = w1.heap.size + 1 := by simp
  go_wp2_with fail
  refine (take_any pColon (by decide) A14.rs).mono ?_
  intro e w2 H
  rcases H.cases with ⟨t2, s2, v, hm16, rfl, rfl, R, K⟩ | ⟨l, s', ch, hm, rfl, H1⟩
  rotate_left 1
  · exact ⟨rfl, A14.out HQ7 hm H1⟩
  have A17 := A14.call R K
  have HQ18 := hq_ok HQ7 hm16
  have B19 : Box w2 (W.heap.size) 25 #[Value.int IntKind.i64 0, Value.string { data := #[] }, Value.string { data := #[] }, Value.int IntKind.u64 0, Value.int IntKind.i64 0, Value.int IntKind.i64 0, Value.slice none 0 0] := B11.kept K (by decide)
  have B20 : Box w2 (w1.heap.size) 47 #[Value.int IntKind.i64 t.kind, Value.string { data := t.text.toArray }, Value.int IntKind.u64 t.num, Value.int IntKind.i64 t.off] := B13.kept K (by decide)
  have sz21 := K.size
  clear HQ7 hm16 H R K
  go_wp2_with fail
  have c22 : w2.cell? ⟨w1.heap.size, 2, none⟩ = some (Value.int IntKind.u64 t.num) := B20.cell 2
  have c23 : w2.cell? ⟨w1.heap.size, 3, none⟩ = some (Value.int IntKind.i64 t.off) := B20.cell 3
  have fz24 := B20.free
  have ne1 : ¬ W.heap.size = w1.heap.size := by omega
  have ne2 : ¬ w1.heap.size = W.heap.size := by omega
  go_region_law (first | (go_simp; go_at_call 156; refine (width_any A17.drew.rs).mono ?_; intro e w3 H; rcases H.cases with ⟨y, s3, v, hm, rfl, rfl, R, K⟩ | ⟨l, s', ch, hm, rfl, H1⟩; rotate_left 1; exact ⟨rfl, A17.drew.out HQ18 hm H1⟩; have AR := A17.drew.call R K; have HQR := hq_ok HQ18 hm; have BT : Box w3 (w1.heap.size) 47 #[Value.int IntKind.i64 t.kind, Value.string { data := t.text.toArray }, Value.int IntKind.u64 t.num, Value.int IntKind.i64 t.off] := Box.kept (w := w2.drew) B20 K (by decide); have BRes : Box w3 (W.heap.size) 25 #[Value.int IntKind.i64 0, Value.string { data := #[] }, Value.string { data := #[] }, Value.int IntKind.u64 0, Value.int IntKind.i64 0, Value.int IntKind.i64 0, Value.slice none 0 0] := Box.kept (w := w2.drew) B19 K (by decide); have e2 : w3.cell? ⟨w1.heap.size, 2, none⟩ = some (Value.int IntKind.u64 t.num) := BT.cell 2; have e3 : w3.cell? ⟨w1.heap.size, 3, none⟩ = some (Value.int IntKind.i64 t.off) := BT.cell 3; have rc0 : w3.cell? ⟨W.heap.size, 0, none⟩ = some (Value.int IntKind.i64 0) := BRes.cell 0; have rc1 : w3.cell? ⟨W.heap.size, 1, none⟩ = some (Value.string { data := #[] }) := BRes.cell 1; have rc2 : w3.cell? ⟨W.heap.size, 2, none⟩ = some (Value.string { data := #[] }) := BRes.cell 2; have rc3 : w3.cell? ⟨W.heap.size, 3, none⟩ = some (Value.int IntKind.u64 0) := BRes.cell 3; have rc4 : w3.cell? ⟨W.heap.size, 4, none⟩ = some (Value.int IntKind.i64 0) := BRes.cell 4; have rc5 : w3.cell? ⟨W.heap.size, 5, none⟩ = some (Value.int IntKind.i64 0) := BRes.cell 5; have rc6 : w3.cell? ⟨W.heap.size, 6, none⟩ = some (Value.slice none 0 0) := BRes.cell 6; have rf := BRes.free; have szR : w2.heap.size ≤ w3.heap.size := K.size; clear K R H hm))
  all_goals
    go_wp2
    refine bodyPost_ret (v := .agg #[Value.int IntKind.i64 21, Value.string { data := #[] }, Value.string { data := #[] }, Value.int IntKind.u64 t.num, Value.int IntKind.i64 y, Value.int IntKind.i64 t.off, Value.slice none 0 0]) ?_ rfl ?_
    · simp [results, Tryz.results120, go_sem, rc0, rc1, rc2, rc3, rc4, rc5, rc6]
    · exact (AR.fill BRes (Nat.le_refl _) _ _ _ _ _ _ _).ok HQR ⟨_, _, rfl, nodeAt_le (M := w1.heap.size) (by omega) (nodeAt_fill (M := w1.heap.size) (by omega) _ _ _ _ _ _ _ ((Kids.nil _ _).node _ _ _ _ _ _))⟩

set_option maxRecDepth 100000 in
set_option maxHeartbeats 1600000 in
theorem part_any {E : Env} {W : World} {dp : Nat} {s : St} (h : RS E 20 W dp s) :
    Calls Tryz.prog 163 #[.pointer (some ⟨E.r, 0, none⟩)] W (PostR E W dp RStr (partOf E.ts s)) := by
  have A0 := At.start h
  have HQ0 : Hid (partOf E.ts s = bnd (take E.ts pDot) (fun _ => bnd (name E.ts) fun y => ret y) s) := Lib.hid (by unfold partOf bnd ret; cases take E.ts pDot s <;> simp; cases name E.ts _ <;> rfl)
  generalize hM : partOf E.ts s = M at *
  clear hM
  go_enter Tryz.func163, Tryz.ntmps163
  go_wp2_with fail
  refine (take_any pDot (by decide) A0.rs).mono ?_
  intro e w1 H
  rcases H.cases with ⟨t1, s1, v, hm1, rfl, rfl, R, K⟩ | ⟨l, s', ch, hm, rfl, H1⟩
  rotate_left 1
  · exact ⟨rfl, A0.out HQ0 hm H1⟩
  have A2 := A0.call R K
  have HQ3 := hq_ok HQ0 hm1
  have sz4 := K.size
  clear HQ0 hm1 H R K
  go_wp2_with fail
  refine (name_any A2.rs).mono ?_
  intro e w2 H
  rcases H.cases with ⟨y, s2, v, hm5, rfl, rfl, R, K⟩ | ⟨l, s', ch, hm, rfl, H1⟩
  rotate_left 1
  · exact ⟨rfl, A2.out HQ3 hm H1⟩
  have A6 := A2.call R K
  have HQ7 := hq_ok HQ3 hm5
  have sz8 := K.size
  clear HQ3 hm5 H R K
  go_wp2
  go_ret
  exact A6.ok HQ7 rfl

set_option maxRecDepth 100000 in
set_option maxHeartbeats 1600000 in
theorem readMake_any {E : Env} {W : World} {dp : Nat} {s : St} (h : RS E 20 W dp s) :
    Calls Tryz.prog 105 #[.pointer (some ⟨E.r, 0, none⟩)] W (PostR E W dp (RNodeX W.heap.size) (readPair E.ts 12 kMake pColon s)) := by
  have A0 := At.start h
  have HQ0 : Hid (readPair E.ts 12 kMake pColon s = bnd (readPair E.ts 12 kMake pColon) (fun t => ret t) s) := Lib.hid (bnd_ret _ s).symm
  generalize hM : readPair E.ts 12 kMake pColon s = M at *
  clear hM
  have hb1 := A0.size
  have B2 := Box.new (W) 25 #[Value.int IntKind.i64 0, Value.string { data := #[] }, Value.string { data := #[] }, Value.int IntKind.u64 0, Value.int IntKind.i64 0, Value.int IntKind.i64 0, Value.slice none 0 0]
  have A3 := A0.alloc (Obj.cells #[Value.int IntKind.i64 0, Value.string { data := #[] }, Value.string { data := #[] }, Value.int IntKind.u64 0, Value.int IntKind.i64 0, Value.int IntKind.i64 0, Value.slice none 0 0] 25)
  have sz4 : (W.alloc (Obj.cells #[Value.int IntKind.i64 0, Value.string { data := #[] }, Value.string { data := #[] }, Value.int IntKind.u64 0, Value.int IntKind.i64 0, Value.int IntKind.i64 0, Value.slice none 0 0] 25)).heap.size = W.heap.size + 1 := by simp
  go_enter Tryz.func105, Tryz.ntmps105
  go_wp2_with fail
  refine (readPair_any 12 kMake pColon (by decide) (by decide) A3.rs).mono ?_
  intro e w1 H
  rcases H.cases with ⟨t, s1, v, hm5, rfl, ⟨KA, KC, rfl, nd⟩, R, K⟩ | ⟨l, s', ch, hm, rfl, H1⟩
  rotate_left 1
  · exact ⟨rfl, A3.out HQ0 hm H1⟩
  have A6 := A3.call R K
  have HQ7 := hq_ok HQ0 hm5
  have B8 : Box w1 (W.heap.size) 25 #[Value.int IntKind.i64 0, Value.string { data := #[] }, Value.string { data := #[] }, Value.int IntKind.u64 0, Value.int IntKind.i64 0, Value.int IntKind.i64 0, Value.slice none 0 0] := B2.kept K (by decide)
  have sz9 := K.size
  clear HQ0 hm5 H R K
  have c10 : w1.cell? ⟨W.heap.size, 0, none⟩ = some (Value.int IntKind.i64 0) := B8.cell 0
  have c11 : w1.cell? ⟨W.heap.size, 1, none⟩ = some (Value.string { data := #[] }) := B8.cell 1
  have c12 : w1.cell? ⟨W.heap.size, 2, none⟩ = some (Value.string { data := #[] }) := B8.cell 2
  have c13 : w1.cell? ⟨W.heap.size, 3, none⟩ = some (Value.int IntKind.u64 0) := B8.cell 3
  have c14 : w1.cell? ⟨W.heap.size, 4, none⟩ = some (Value.int IntKind.i64 0) := B8.cell 4
  have c15 : w1.cell? ⟨W.heap.size, 5, none⟩ = some (Value.int IntKind.i64 0) := B8.cell 5
  have c16 : w1.cell? ⟨W.heap.size, 6, none⟩ = some (Value.slice none 0 0) := B8.cell 6
  have fz17 := B8.free
  go_wp2
  refine bodyPost_ret (v := .agg #[Value.int IntKind.i64 (t).kind, Value.string { data := (t).name.toArray }, Value.string { data := (t).part.toArray }, Value.int IntKind.u64 (t).num, Value.int IntKind.i64 (t).wid, Value.int IntKind.i64 (t).at_, Value.slice KA t.kids.length KC]) ?_ rfl ?_
  · simp [results, Tryz.results105, go_sem, c10, c11, c12, c13, c14, c15, c16]
  · exact (A6.fill B8 (Nat.le_refl _) _ _ _ _ _ _ _).ok HQ7 ⟨_, _, rfl, nodeAt_le (M := (W.alloc (Obj.cells #[Value.int IntKind.i64 0, Value.string { data := #[] }, Value.string { data := #[] }, Value.int IntKind.u64 0, Value.int IntKind.i64 0, Value.int IntKind.i64 0, Value.slice none 0 0] 25)).heap.size) (by omega) (nodeAt_fill (M := (W.alloc (Obj.cells #[Value.int IntKind.i64 0, Value.string { data := #[] }, Value.string { data := #[] }, Value.int IntKind.u64 0, Value.int IntKind.i64 0, Value.int IntKind.i64 0, Value.slice none 0 0] 25)).heap.size) (by omega) _ _ _ _ _ _ _ nd)⟩

set_option maxRecDepth 100000 in
set_option maxHeartbeats 1600000 in
theorem readSame_any {E : Env} {W : World} {dp : Nat} {s : St} (h : RS E 20 W dp s) :
    Calls Tryz.prog 107 #[.pointer (some ⟨E.r, 0, none⟩)] W (PostR E W dp (RNodeX W.heap.size) (readPair E.ts 14 kSame pEq s)) := by
  have A0 := At.start h
  have HQ0 : Hid (readPair E.ts 14 kSame pEq s = bnd (readPair E.ts 14 kSame pEq) (fun t => ret t) s) := Lib.hid (bnd_ret _ s).symm
  generalize hM : readPair E.ts 14 kSame pEq s = M at *
  clear hM
  have hb1 := A0.size
  have B2 := Box.new (W) 25 #[Value.int IntKind.i64 0, Value.string { data := #[] }, Value.string { data := #[] }, Value.int IntKind.u64 0, Value.int IntKind.i64 0, Value.int IntKind.i64 0, Value.slice none 0 0]
  have A3 := A0.alloc (Obj.cells #[Value.int IntKind.i64 0, Value.string { data := #[] }, Value.string { data := #[] }, Value.int IntKind.u64 0, Value.int IntKind.i64 0, Value.int IntKind.i64 0, Value.slice none 0 0] 25)
  have sz4 : (W.alloc (Obj.cells #[Value.int IntKind.i64 0, Value.string { data := #[] }, Value.string { data := #[] }, Value.int IntKind.u64 0, Value.int IntKind.i64 0, Value.int IntKind.i64 0, Value.slice none 0 0] 25)).heap.size = W.heap.size + 1 := by simp
  go_enter Tryz.func107, Tryz.ntmps107
  go_wp2_with fail
  refine (readPair_any 14 kSame pEq (by decide) (by decide) A3.rs).mono ?_
  intro e w1 H
  rcases H.cases with ⟨t, s1, v, hm5, rfl, ⟨KA, KC, rfl, nd⟩, R, K⟩ | ⟨l, s', ch, hm, rfl, H1⟩
  rotate_left 1
  · exact ⟨rfl, A3.out HQ0 hm H1⟩
  have A6 := A3.call R K
  have HQ7 := hq_ok HQ0 hm5
  have B8 : Box w1 (W.heap.size) 25 #[Value.int IntKind.i64 0, Value.string { data := #[] }, Value.string { data := #[] }, Value.int IntKind.u64 0, Value.int IntKind.i64 0, Value.int IntKind.i64 0, Value.slice none 0 0] := B2.kept K (by decide)
  have sz9 := K.size
  clear HQ0 hm5 H R K
  have c10 : w1.cell? ⟨W.heap.size, 0, none⟩ = some (Value.int IntKind.i64 0) := B8.cell 0
  have c11 : w1.cell? ⟨W.heap.size, 1, none⟩ = some (Value.string { data := #[] }) := B8.cell 1
  have c12 : w1.cell? ⟨W.heap.size, 2, none⟩ = some (Value.string { data := #[] }) := B8.cell 2
  have c13 : w1.cell? ⟨W.heap.size, 3, none⟩ = some (Value.int IntKind.u64 0) := B8.cell 3
  have c14 : w1.cell? ⟨W.heap.size, 4, none⟩ = some (Value.int IntKind.i64 0) := B8.cell 4
  have c15 : w1.cell? ⟨W.heap.size, 5, none⟩ = some (Value.int IntKind.i64 0) := B8.cell 5
  have c16 : w1.cell? ⟨W.heap.size, 6, none⟩ = some (Value.slice none 0 0) := B8.cell 6
  have fz17 := B8.free
  go_wp2
  refine bodyPost_ret (v := .agg #[Value.int IntKind.i64 (t).kind, Value.string { data := (t).name.toArray }, Value.string { data := (t).part.toArray }, Value.int IntKind.u64 (t).num, Value.int IntKind.i64 (t).wid, Value.int IntKind.i64 (t).at_, Value.slice KA t.kids.length KC]) ?_ rfl ?_
  · simp [results, Tryz.results107, go_sem, c10, c11, c12, c13, c14, c15, c16]
  · exact (A6.fill B8 (Nat.le_refl _) _ _ _ _ _ _ _).ok HQ7 ⟨_, _, rfl, nodeAt_le (M := (W.alloc (Obj.cells #[Value.int IntKind.i64 0, Value.string { data := #[] }, Value.string { data := #[] }, Value.int IntKind.u64 0, Value.int IntKind.i64 0, Value.int IntKind.i64 0, Value.slice none 0 0] 25)).heap.size) (by omega) (nodeAt_fill (M := (W.alloc (Obj.cells #[Value.int IntKind.i64 0, Value.string { data := #[] }, Value.string { data := #[] }, Value.int IntKind.u64 0, Value.int IntKind.i64 0, Value.int IntKind.i64 0, Value.slice none 0 0] 25)).heap.size) (by omega) _ _ _ _ _ _ _ nd)⟩

end Go.Proofs.YtmkehecapjdfdaaGreatDoor

/- The end of a statement that has an expression at its end. -/
namespace Go.Proofs.YtmkehecapjdfdaaGreatDoor
open Go.RowKit

theorem appendedP {E : Env} {Wc w1 w2 : World} {dp : Nat} {s : St} (A : At E Wc w1 dp s) {B n m : Nat} (hB : Wc.heap.size ≤ B) {P : Nat → Prop} {o : Obj} {old : Value} {l ts : List T} {kc nc : List Value}
    (ko : w1.ownsRow B NT 7 old n kc) (kr : rowAt w1 (fun g => P g ∧ old.ownBlock ≠ some g) l kc) {g cap : Nat} (nd : rowAt w1 (fun g => P g ∧ old.ownBlock ≠ some g) ts nc)
    (hP : ∀ g, old.ownBlock = some g → P g) (hP2 : ∀ g, w1.heap.size ≤ g → P g)
    (o2 : w2.ownsRow B NT 7 (.slice (some ⟨g, 0, none⟩) m cap) m (kc ++ nc))
    (g2 : (w1.alloc o).grownBy w2 old.ownBlock) (p2 : old.ownBlock = some g ∨ g = (w1.alloc o).heap.size) :
    At E Wc w2 dp s ∧ (∀ b, b < w1.heap.size → old.ownBlock ≠ some b → w2.heap[b]? = w1.heap[b]?) ∧ P g ∧ rowAt w2 (fun g' => P g' ∧ g' ≠ g) (l ++ ts) (kc ++ nc) ∧ w2.ownsRow B NT 7 (.slice (some ⟨g, 0, none⟩) m cap) m (kc ++ nc) := by
  have hold : ∀ b, b < w1.heap.size → old.ownBlock ≠ some b → w2.heap[b]? = w1.heap[b]? := fun b hb hne => by
    rw [g2.block b (by simp; omega) (fun e => hne e.symm)]
    exact Below.heap_alloc w1 o b hb
  have hsz : w1.heap.size ≤ w2.heap.size := by have := g2.size; simp at this; omega
  have hN : NTc w1 w2 := by
    refine ⟨g2.os, g2.tape, g2.output, hsz, fun k hk hn => hold k hk fun e => ?_⟩
    rcases ko.2 with ⟨rfl, _⟩ | ⟨g', cap', cur, rfl, _, hg, _⟩
    · simp [Value.ownBlock] at e
    · simp [Value.ownBlock] at e
      subst e
      exact hn _ hg
  have hBl : Below Wc.heap.size w1 w2 := ⟨g2.os, g2.tape, g2.output, hsz, fun k hk => hold k (by have := A.size; omega) (fun e => by have := (ko.lt k e).1; omega)⟩
  refine ⟨A.ntc hN hBl, hold, ?_, ?_, o2⟩
  · rcases p2 with p2 | p2
    · exact hP g p2
    · exact hP2 g (by simp at p2; omega)
  have hlt : ∀ g' c, w1.heap[g']? = some (.cells c NT (0, 0)) → g' < w1.heap.size := fun g' c h => (Array.getElem?_eq_some_iff.1 h).1
  refine rowAt_imp' (fun g' c hg hc => ⟨⟨hg.1, fun e => ?_⟩, (hold g' (hlt g' c hc) hg.2).trans hc⟩) _ _ (rowAt_append l ts kc nc kr nd)
  subst e
  rcases p2 with p2 | p2
  · exact hg.2 p2
  · have := hlt g' c hc; simp at p2; omega
theorem Box.new2 (w : World) (o : Obj) (T : TypeId) (cs : Array Value) : Box ((w.alloc o).alloc (.cells cs T)) (w.heap.size + 1) T cs := by
  have := Box.new (w.alloc o) T cs
  simpa using this
theorem rowAt_farP {w : World} {P : Nat → Prop} {b i : Nat} (hP : ∀ g, P g → g ≠ b) (v : Value) {l : List T} {cs : List Value} (h : rowAt w P l cs) : rowAt (w.setCell ⟨b, i, none⟩ v) P l cs :=
  rowAt_imp (fun _ h => h) (fun g _ hg hc => (Below.heap_setCell w ⟨b, i, none⟩ v g (hP g hg)).trans hc) l cs h
/-- What a statement's end leaves. -/
def RVal (B : Nat) (W w' : World) (t : T) (v : Value) : Prop := RNodeX B w' t v ∧ ∀ b T cs, Box W b T cs → b < B → (T ≠ RT ∧ T ≠ DT) → Box w' b T cs
theorem Kids.form3 {w : World} {B : Nat} {l : List T} {A : Option Addr} {n c : Nat} (h : Kids w B l (.slice A n c)) : n = l.length := by
  obtain ⟨cs, h1, _⟩ := h
  rcases h1.2 with ⟨e, h2⟩ | ⟨g, cap, cur, e, _⟩
  · cases e; exact h2.symm
  · cases e; rfl
theorem nodeAt_fillP {w : World} {P : Nat → Prop} {b B : Nat} (hP : ∀ g, P g → g ≠ b) (hB : ∀ g, P g → B ≤ g) (a0 a1 a2 a3 a4 a5 a6 : Value) {t : T} {kv : Value} (h : nodeAt w P t kv) : nodeAt (fill7 w b a0 a1 a2 a3 a4 a5 a6) (fun g => B ≤ g) t kv := by
  have far : ∀ (i : Nat) (v : Value) (w' : World), nodeAt w' P t kv → nodeAt (w'.setCell ⟨b, i, none⟩ v) P t kv := fun i v w' h' =>
    nodeAt_imp (fun _ h => h) (fun g _ hg hc => (Below.heap_setCell w' ⟨b, i, none⟩ v g (hP g hg)).trans hc) t kv h'
  exact nodeAt_mono hB (far _ _ _ (far _ _ _ (far _ _ _ (far _ _ _ (far _ _ _ (far _ _ _ (far _ _ _ h)))))))
theorem Box.fill_far {w : World} {b b' : Nat} {T : TypeId} {cs : Array Value} (h : Box w b T cs) (hne : b ≠ b') (a0 a1 a2 a3 a4 a5 a6 : Value) : Box (fill7 w b' a0 a1 a2 a3 a4 a5 a6) b T cs :=
  ((((((h.far hne a0).far hne a1).far hne a2).far hne a3).far hne a4).far hne a5).far hne a6
set_option maxRecDepth 100000 in
set_option maxHeartbeats 3200000 in
theorem value_any {E : Env} {Wc W : World} {dp : Nat} {s : St} {x : PM T} (he : CE E dp x) (A0 : At E Wc W dp s) {B : Nat} (hB : Wc.heap.size ≤ B) (hBW : B ≤ W.heap.size) (kind num wid a0 : Nat) (nm pt : Str) (l : List T) (hl : l.length ≤ 100) {KV : Option Addr} {CV : Nat} (hk : Kids W B l (.slice KV l.length CV)) :
    Calls Tryz.prog 162 #[.pointer (some ⟨E.r, 0, none⟩), .agg #[Value.int IntKind.i64 kind, Value.string { data := (nm).toArray }, Value.string { data := (pt).toArray }, Value.int IntKind.u64 num, Value.int IntKind.i64 wid, Value.int IntKind.i64 a0, Value.slice KV l.length CV]] W (PostR E Wc dp (RVal B W) (value E.ts x (fun a => .mk kind nm pt num wid a0 (l ++ [a])) s)) := by
  obtain ⟨i0, hi, hz0, hz1, hz2⟩ := info_parts Tryz.infoNode
  have HQ0 : Hid (value E.ts x (fun a => .mk kind nm pt num wid a0 (l ++ [a])) s = bnd x (fun a => bnd (take E.ts pSemi) fun _ => ret (T.mk kind nm pt num wid a0 (l ++ [a]))) s) := Lib.hid rfl
  generalize hM : value E.ts x (fun a => .mk kind nm pt num wid a0 (l ++ [a])) s = M at *
  clear hM
  obtain ⟨kc, ko0, kr0⟩ := hk
  have hown : ∀ g, (Value.slice KV l.length CV).ownBlock = some g → B ≤ g ∧ g < W.heap.size := ko0.lt
  generalize eKV : Value.slice KV l.length CV = old at *
  have oc : old.oneCell' = true := by rw [← eKV]; rfl
  have A1 := (A0.alloc (Obj.cells #[Value.int IntKind.i64 kind, Value.string { data := (nm).toArray }, Value.string { data := (pt).toArray }, Value.int IntKind.u64 num, Value.int IntKind.i64 wid, Value.int IntKind.i64 a0, old] 25)).alloc (Obj.cells #[Value.int IntKind.i64 0, Value.string { data := #[] }, Value.string { data := #[] }, Value.int IntKind.u64 0, Value.int IntKind.i64 0, Value.int IntKind.i64 0, Value.slice none 0 0] 25)
  have B1 := (Box.new W 25 #[Value.int IntKind.i64 kind, Value.string { data := (nm).toArray }, Value.string { data := (pt).toArray }, Value.int IntKind.u64 num, Value.int IntKind.i64 wid, Value.int IntKind.i64 a0, old]).alloc (Obj.cells #[Value.int IntKind.i64 0, Value.string { data := #[] }, Value.string { data := #[] }, Value.int IntKind.u64 0, Value.int IntKind.i64 0, Value.int IntKind.i64 0, Value.slice none 0 0] 25)
  have B2 := Box.new2 W (Obj.cells #[Value.int IntKind.i64 kind, Value.string { data := (nm).toArray }, Value.string { data := (pt).toArray }, Value.int IntKind.u64 num, Value.int IntKind.i64 wid, Value.int IntKind.i64 a0, old] 25) 25 #[Value.int IntKind.i64 0, Value.string { data := #[] }, Value.string { data := #[] }, Value.int IntKind.u64 0, Value.int IntKind.i64 0, Value.int IntKind.i64 0, Value.slice none 0 0]
  have hs0 : ((W.alloc (Obj.cells #[Value.int IntKind.i64 kind, Value.string { data := (nm).toArray }, Value.string { data := (pt).toArray }, Value.int IntKind.u64 num, Value.int IntKind.i64 wid, Value.int IntKind.i64 a0, old] 25)).alloc (Obj.cells #[Value.int IntKind.i64 0, Value.string { data := #[] }, Value.string { data := #[] }, Value.int IntKind.u64 0, Value.int IntKind.i64 0, Value.int IntKind.i64 0, Value.slice none 0 0] 25)).heap.size = W.heap.size + 2 := by simp
  have ko1 := (ko0.alloc (Obj.cells #[Value.int IntKind.i64 kind, Value.string { data := (nm).toArray }, Value.string { data := (pt).toArray }, Value.int IntKind.u64 num, Value.int IntKind.i64 wid, Value.int IntKind.i64 a0, old] 25)).alloc (Obj.cells #[Value.int IntKind.i64 0, Value.string { data := #[] }, Value.string { data := #[] }, Value.int IntKind.u64 0, Value.int IntKind.i64 0, Value.int IntKind.i64 0, Value.slice none 0 0] 25)
  have kr1 := rowAt_imp' (w' := ((W.alloc (Obj.cells #[Value.int IntKind.i64 kind, Value.string { data := (nm).toArray }, Value.string { data := (pt).toArray }, Value.int IntKind.u64 num, Value.int IntKind.i64 wid, Value.int IntKind.i64 a0, old] 25)).alloc (Obj.cells #[Value.int IntKind.i64 0, Value.string { data := #[] }, Value.string { data := #[] }, Value.int IntKind.u64 0, Value.int IntKind.i64 0, Value.int IntKind.i64 0, Value.slice none 0 0] 25))) (ok' := fun g => (B ≤ g ∧ g ≠ W.heap.size ∧ g ≠ W.heap.size + 1) ∧ old.ownBlock ≠ some g) (fun g c hg hc => by
    have hlt := (Array.getElem?_eq_some_iff.1 hc).1
    exact ⟨⟨⟨hg.1, by omega, by omega⟩, hg.2⟩, (((Below.refl _ _).alloc (Nat.le_refl _) (Obj.cells #[Value.int IntKind.i64 kind, Value.string { data := (nm).toArray }, Value.string { data := (pt).toArray }, Value.int IntKind.u64 num, Value.int IntKind.i64 wid, Value.int IntKind.i64 a0, old] 25)).alloc (by simp) (Obj.cells #[Value.int IntKind.i64 0, Value.string { data := #[] }, Value.string { data := #[] }, Value.int IntKind.u64 0, Value.int IntKind.i64 0, Value.int IntKind.i64 0, Value.slice none 0 0] 25)).block g hlt |>.trans hc⟩) _ _ kr0
  have hbx : ∀ b T cs, Box W b T cs → Box ((W.alloc (Obj.cells #[Value.int IntKind.i64 kind, Value.string { data := (nm).toArray }, Value.string { data := (pt).toArray }, Value.int IntKind.u64 num, Value.int IntKind.i64 wid, Value.int IntKind.i64 a0, old] 25)).alloc (Obj.cells #[Value.int IntKind.i64 0, Value.string { data := #[] }, Value.string { data := #[] }, Value.int IntKind.u64 0, Value.int IntKind.i64 0, Value.int IntKind.i64 0, Value.slice none 0 0] 25)) b T cs := fun b T cs hb => (hb.alloc _).alloc _
  go_enter Tryz.func162, Tryz.ntmps162
  go_wp2_with fail
  obtain ⟨w1, hy⟩ : ∃ Y, ((W.alloc (Obj.cells #[Value.int IntKind.i64 kind, Value.string { data := (nm).toArray }, Value.string { data := (pt).toArray }, Value.int IntKind.u64 num, Value.int IntKind.i64 wid, Value.int IntKind.i64 a0, old] 25)).alloc (Obj.cells #[Value.int IntKind.i64 0, Value.string { data := #[] }, Value.string { data := #[] }, Value.int IntKind.u64 0, Value.int IntKind.i64 0, Value.int IntKind.i64 0, Value.slice none 0 0] 25)) = Y := ⟨_, rfl⟩
  rw [hy] at A1 B1 B2 ko1 kr1 hs0 hbx ⊢
  clear hy
  have c6 : w1.cell? ⟨W.heap.size, 6, none⟩ = some old := B1.cell 6
  have fz := B1.free
  have hAs := A0.size
  go_region_law (first
    | (go_simp; go_at_call 161; refine (he _ _ A1.drew.rs).mono ?_; intro e w2 H; rcases H.cases with ⟨t, s1, v, hm, rfl, ⟨KA, KC, rfl, nd⟩, R, K⟩ | ⟨l', s', ch, hm, rfl, H1⟩; rotate_left 1; exact ⟨rfl, A1.drew.out HQ0 hm H1⟩; have AR := A1.drew.call R K; have HQR := hq_ok HQ0 hm; have BN : Box w2 W.heap.size 25 #[Value.int IntKind.i64 kind, Value.string { data := (nm).toArray }, Value.string { data := (pt).toArray }, Value.int IntKind.u64 num, Value.int IntKind.i64 wid, Value.int IntKind.i64 a0, old] := Box.kept (w := w1.drew) B1 K (by decide); have BR : Box w2 (W.heap.size + 1) 25 #[Value.int IntKind.i64 0, Value.string { data := #[] }, Value.string { data := #[] }, Value.int IntKind.u64 0, Value.int IntKind.i64 0, Value.int IntKind.i64 0, Value.slice none 0 0] := Box.kept (w := w1.drew) B2 K (by decide); have q00 := BN.cell 6; have q0 : ∀ o, (w2.alloc o).cell? ⟨W.heap.size, 6, none⟩ = some old := fun o => (BN.alloc o).cell 6; have ko := Kept.own K (w := w1.drew) (ownsDrew ko1) NT_ne.1 NT_ne.2; have kr := rowAt_kept K (w := w1.drew) (rowDrew kr1); have szR : w1.heap.size ≤ w2.heap.size := K.size; have hbx2 : ∀ b T cs, Box W b T cs → (T ≠ RT ∧ T ≠ DT) → Box w2 b T cs := fun b T cs hb hT => Box.kept (w := w1.drew) (hbx b T cs hb) K hT; clear K R H hm)
    | (refine step_append_lies _ rfl (.tmp 6) (.tmp 9) 23 rfl B 25 i0 _ 7 88 Tryz.underlying23 hi hz0 hz1 hz2 rfl (by decide) old l.length kc (by simp [Act.eval]) (World.ownsRow.alloc ko _) ⟨w2.heap.size, 0, none⟩ 1 1 (nodeCells t (.slice KA t.kids.length KC)) (by simp [Act.eval]) rfl (by exact World.news_of_block (heap_alloc_new _ _)) (nodeCells_one _ _ _ _) (by decide) (by unfold maxLen; omega) (by omega) (by simp <;> omega) _ rfl ?_; intro g cap wA o2 g2 p2 z2; have ap := appendedP AR hB (P := fun g => B ≤ g ∧ g ≠ W.heap.size ∧ g ≠ W.heap.size + 1) ko kr (rowAt_one (nodeAt_mono (fun g (hg : w1.heap.size ≤ g) => ⟨⟨by omega, by omega, by omega⟩, fun e => by have := (hown g e).2; omega⟩) nd)) (fun g e => by have := hown g e; exact ⟨by omega, by omega, by omega⟩) (fun g hg => ⟨by omega, by omega, by omega⟩) o2 g2 p2; have nown : old.ownBlock ≠ some W.heap.size := fun e => (by have := (hown _ e).2; omega); have nown1 : old.ownBlock ≠ some (W.heap.size + 1) := fun e => (by have := (hown _ e).2; omega); have BN2 : Box wA W.heap.size 25 #[Value.int IntKind.i64 kind, Value.string { data := (nm).toArray }, Value.string { data := (pt).toArray }, Value.int IntKind.u64 num, Value.int IntKind.i64 wid, Value.int IntKind.i64 a0, old] := (ap.2.1 _ BN.lt nown).trans BN; have BR2 : Box wA (W.heap.size + 1) 25 #[Value.int IntKind.i64 0, Value.string { data := #[] }, Value.string { data := #[] }, Value.int IntKind.u64 0, Value.int IntKind.i64 0, Value.int IntKind.i64 0, Value.slice none 0 0] := (ap.2.1 _ BR.lt nown1).trans BR; have q1 := BN2.cell 6; have q2 := BN2.free 6))
  all_goals
    clear q0 q00 q1 q2 o2 g2 p2
    obtain ⟨AS, hfar, hPg, rw2, ow2⟩ := ap
    have hbx3 : ∀ b T cs, Box W b T cs → b < B → (T ≠ RT ∧ T ≠ DT) → Box wA b T cs := fun b T cs hb hlt hT => (hfar b (hbx2 b T cs hb hT).lt (fun e => by have := (hown b e).1; omega)).trans (hbx2 b T cs hb hT)
    have A5 := AS.set BN2 (by omega) 6 (Value.slice (some { block := g, off := 0 }) (l.length + 1) cap)
    have BN3 : Box _ W.heap.size 25 #[Value.int IntKind.i64 kind, Value.string { data := (nm).toArray }, Value.string { data := (pt).toArray }, Value.int IntKind.u64 num, Value.int IntKind.i64 wid, Value.int IntKind.i64 a0, Value.slice (some { block := g, off := 0 }) (l.length + 1) cap] := BN2.set 6 (Value.slice (some { block := g, off := 0 }) (l.length + 1) cap)
    have BR3 := BR2.far (b' := W.heap.size) (i := 6) (by omega) (Value.slice (some { block := g, off := 0 }) (l.length + 1) cap)
    have hbx4 : ∀ b T cs, Box W b T cs → b < B → (T ≠ RT ∧ T ≠ DT) → Box (wA.setCell { block := W.heap.size, off := 6 } (Value.slice (some { block := g, off := 0 }) (l.length + 1) cap)) b T cs := fun b T cs hb hlt hT => (hbx3 b T cs hb hlt hT).far (by omega) _
    have rw3 := rowAt_farP (b := W.heap.size) (i := 6) (fun g' (hg' : (B ≤ g' ∧ g' ≠ W.heap.size ∧ g' ≠ W.heap.size + 1) ∧ g' ≠ g) => hg'.1.2.1) (Value.slice (some { block := g, off := 0 }) (l.length + 1) cap) rw2
    have ow3 := ow2.kept (w' := wA.setCell { block := W.heap.size, off := 6 } (Value.slice (some { block := g, off := 0 }) (l.length + 1) cap)) (row := some W.heap.size) ⟨rfl, rfl, rfl, by simp [World.setCell], fun k _ hk => Below.heap_setCell wA ⟨W.heap.size, 6, none⟩ _ k (fun e => hk (by rw [e]))⟩ (Or.inr (by simp [Value.ownBlock]; exact hPg.2.1))
    obtain ⟨w4, hy⟩ : ∃ Y, wA.setCell { block := W.heap.size, off := 6 } (Value.slice (some { block := g, off := 0 }) (l.length + 1) cap) = Y := ⟨_, rfl⟩
    rw [hy] at A5 BN3 BR3 hbx4 rw3 ow3 ⊢
    clear hy
    go_wp2_with fail
    refine (take_any pSemi (by decide) A5.rs).mono ?_
    intro e w5 H
    rcases H.cases with ⟨t2, s2, v, hm, rfl, rfl, R, K⟩ | ⟨l', s', ch, hm, rfl, H1⟩
    rotate_left 1
    · exact ⟨rfl, A5.out HQR hm H1⟩
    have A6 := A5.call R K
    have HQ6 := hq_ok HQR hm
    have BN4 : Box w5 W.heap.size 25 #[Value.int IntKind.i64 kind, Value.string { data := (nm).toArray }, Value.string { data := (pt).toArray }, Value.int IntKind.u64 num, Value.int IntKind.i64 wid, Value.int IntKind.i64 a0, Value.slice (some { block := g, off := 0 }) (l.length + 1) cap] := BN3.kept K (by decide)
    have BR4 : Box w5 (W.heap.size + 1) 25 #[Value.int IntKind.i64 0, Value.string { data := #[] }, Value.string { data := #[] }, Value.int IntKind.u64 0, Value.int IntKind.i64 0, Value.int IntKind.i64 0, Value.slice none 0 0] := BR3.kept K (by decide)
    have rw4 := rowAt_kept K rw3
    have ow4 := Kept.own K ow3 NT_ne.1 NT_ne.2
    have hbx5 : ∀ b T cs, Box W b T cs → b < B → (T ≠ RT ∧ T ≠ DT) → Box w5 b T cs := fun b T cs hb hlt hT => (hbx4 b T cs hb hlt hT).kept K hT
    clear K R H hm HQR
    have c0 : w5.cell? ⟨W.heap.size, 0, none⟩ = some (Value.int IntKind.i64 kind) := BN4.cell 0
    have c1 : w5.cell? ⟨W.heap.size, 1, none⟩ = some (Value.string { data := (nm).toArray }) := BN4.cell 1
    have c2 : w5.cell? ⟨W.heap.size, 2, none⟩ = some (Value.string { data := (pt).toArray }) := BN4.cell 2
    have c3 : w5.cell? ⟨W.heap.size, 3, none⟩ = some (Value.int IntKind.u64 num) := BN4.cell 3
    have c4 : w5.cell? ⟨W.heap.size, 4, none⟩ = some (Value.int IntKind.i64 wid) := BN4.cell 4
    have c5 : w5.cell? ⟨W.heap.size, 5, none⟩ = some (Value.int IntKind.i64 a0) := BN4.cell 5
    have c6 : w5.cell? ⟨W.heap.size, 6, none⟩ = some (Value.slice (some { block := g, off := 0 }) (l.length + 1) cap) := BN4.cell 6
    have rc0 : w5.cell? ⟨W.heap.size + 1, 0, none⟩ = some (Value.int IntKind.i64 0) := BR4.cell 0
    have rc1 : w5.cell? ⟨W.heap.size + 1, 1, none⟩ = some (Value.string { data := #[] }) := BR4.cell 1
    have rc2 : w5.cell? ⟨W.heap.size + 1, 2, none⟩ = some (Value.string { data := #[] }) := BR4.cell 2
    have rc3 : w5.cell? ⟨W.heap.size + 1, 3, none⟩ = some (Value.int IntKind.u64 0) := BR4.cell 3
    have rc4 : w5.cell? ⟨W.heap.size + 1, 4, none⟩ = some (Value.int IntKind.i64 0) := BR4.cell 4
    have rc5 : w5.cell? ⟨W.heap.size + 1, 5, none⟩ = some (Value.int IntKind.i64 0) := BR4.cell 5
    have rc6 : w5.cell? ⟨W.heap.size + 1, 6, none⟩ = some (Value.slice none 0 0) := BR4.cell 6
    have rf := BR4.free
    go_wp2
    refine bodyPost_ret (v := .agg #[Value.int IntKind.i64 kind, Value.string { data := (nm).toArray }, Value.string { data := (pt).toArray }, Value.int IntKind.u64 num, Value.int IntKind.i64 wid, Value.int IntKind.i64 a0, Value.slice (some { block := g, off := 0 }) (l.length + 1) cap]) ?_ rfl ?_
    · simp [results, Tryz.results162, go_sem, rc0, rc1, rc2, rc3, rc4, rc5, rc6]
    · have hn : nodeAt w5 (fun g => B ≤ g ∧ g ≠ W.heap.size ∧ g ≠ W.heap.size + 1) (.mk kind nm pt num wid a0 (l ++ [t])) (Value.slice (some { block := g, off := 0 }) (l.length + 1) cap) :=
        ⟨_, ⟨by rw [ow4.1]; simp, by
          rcases ow4.2 with ⟨e1, e2⟩ | ⟨g', cap', cur, e, hb, hg, rest⟩
          · cases e1
          · exact .inr ⟨g', cap', cur, by rw [e]; simp, Nat.zero_le _, hg, by simpa using rest⟩⟩, fun g' hg' => by simp [Value.ownBlock] at hg'; subst hg'; exact hPg, rowAt_mono (fun g' hg' => hg'.1) rw4⟩
      have hlen : (l ++ [t]).length = l.length + 1 := by simp
      refine (A6.fill BR4 (by omega) _ _ _ _ _ _ _).ok HQ6 ⟨⟨some ⟨g, 0, none⟩, cap, ?_, ?_⟩, fun b T cs hb hlt hT => (hbx5 b T cs hb hlt hT).fill_far (by omega) _ _ _ _ _ _ _⟩
      · show _ = Value.agg #[_, _, _, _, _, _, Value.slice _ (l ++ [t]).length _]
        rw [hlen]; rfl
      · show nodeAt _ _ _ (Value.slice _ (l ++ [t]).length _)
        rw [hlen]
        exact nodeAt_fillP (fun g' hg' => hg'.2.2) (fun g' hg' => hg'.1) _ _ _ _ _ _ _ hn
end Go.Proofs.YtmkehecapjdfdaaGreatDoor
