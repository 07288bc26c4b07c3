/- Joined texts: PStm, PIf. -/
import Derived.Test.YtmkehecapjdfdaaGreatDoorQB4
import Derived.Deep.RegionLaw
import Derived.Deep.AppendLies

/- Statements with an expression. -/
namespace Go.Proofs.YtmkehecapjdfdaaGreatDoor
open Go.RowKit

set_option maxRecDepth 100000 in
set_option maxHeartbeats 1600000 in
theorem readNamed_any {E : Env} {W : World} {dp : Nat} {s : St} (kind : Nat) (wo : Str) (hw1 : wo ≠ wEnd) {x : PM T} (he : CE E dp x) (h : RS E 20 W dp s) :
    Calls Tryz.prog 158 #[.pointer (some ⟨E.r, 0, none⟩), .int .i64 kind, .string ⟨wo.toArray⟩] W (PostR E W dp (RNodeX W.heap.size) (readNamed E.ts x kind wo s)) := by
  have A0 := At.start h
  have HQ0 : Hid (readNamed E.ts x kind wo s = bnd (begin_ E.ts kind wo) (fun n => bnd (name E.ts) fun y => bnd (take E.ts pEq) fun _ => value E.ts x fun a => .mk kind y [] 0 0 n.at_ [a]) s) := Lib.hid rfl
  generalize hM : readNamed E.ts x kind wo s = M at *
  clear hM
  have hb1 := A0.size
  have B2 := Box.new (W) 25 #[Value.int IntKind.i64 0, Value.string { data := #[] }, Value.string { data := #[] }, Value.int IntKind.u64 0, Value.int IntKind.i64 0, Value.int IntKind.i64 0, Value.slice none 0 0]
  have A3 := A0.alloc (Obj.cells #[Value.int IntKind.i64 0, Value.string { data := #[] }, Value.string { data := #[] }, Value.int IntKind.u64 0, Value.int IntKind.i64 0, Value.int IntKind.i64 0, Value.slice none 0 0] 25)
  have sz4 : (W.alloc (Obj.cells #[Value.int IntKind.i64 0, Value.string { data := #[] }, Value.string { data := #[] }, Value.int IntKind.u64 0, Value.int IntKind.i64 0, Value.int IntKind.i64 0, Value.slice none 0 0] 25)).heap.size = W.heap.size + 1 := by simp
  go_enter Tryz.func158, Tryz.ntmps158
  go_wp2_with fail
  refine (begin_any kind wo hw1 A3.rs).mono ?_
  intro e w1 H
  rcases H.cases with ⟨n, s1, v, hm5, rfl, ⟨a, rfl, rfl⟩, R, K⟩ | ⟨l, s', ch, hm, rfl, H1⟩
  rotate_left 1
  · exact ⟨rfl, A3.out HQ0 hm H1⟩
  have A6 := A3.call R K
  have HQ7 := hq_ok HQ0 hm5
  have B8 : Box w1 (W.heap.size) 25 #[Value.int IntKind.i64 0, Value.string { data := #[] }, Value.string { data := #[] }, Value.int IntKind.u64 0, Value.int IntKind.i64 0, Value.int IntKind.i64 0, Value.slice none 0 0] := B2.kept K (by decide)
  have sz9 := K.size
  clear HQ0 hm5 H R K
  have hb10 := A6.size
  have B11 := B8.alloc (Obj.cells #[Value.int IntKind.i64 kind, Value.string { data := #[] }, Value.string { data := #[] }, Value.int IntKind.u64 0, Value.int IntKind.i64 0, Value.int IntKind.i64 a, Value.slice none 0 0] 25)
  have lt12 := B8.lt
  have B13 := Box.new (w1) 25 #[Value.int IntKind.i64 kind, Value.string { data := #[] }, Value.string { data := #[] }, Value.int IntKind.u64 0, Value.int IntKind.i64 0, Value.int IntKind.i64 a, Value.slice none 0 0]
  have A14 := A6.alloc (Obj.cells #[Value.int IntKind.i64 kind, Value.string { data := #[] }, Value.string { data := #[] }, Value.int IntKind.u64 0, Value.int IntKind.i64 0, Value.int IntKind.i64 a, Value.slice none 0 0] 25)
  have sz15 : (w1.alloc (Obj.cells #[Value.int IntKind.i64 kind, Value.string { data := #[] }, Value.string { data := #[] }, Value.int IntKind.u64 0, Value.int IntKind.i64 0, Value.int IntKind.i64 a, Value.slice none 0 0] 25)).heap.size = w1.heap.size + 1 := by simp
  go_wp2_with fail
  refine (name_any A14.rs).mono ?_
  intro e w2 H
  rcases H.cases with ⟨y, s2, v, hm16, rfl, rfl, R, K⟩ | ⟨l, s', ch, hm, rfl, H1⟩
  rotate_left 1
  · exact ⟨rfl, A14.out HQ7 hm H1⟩
  have A17 := A14.call R K
  have HQ18 := hq_ok HQ7 hm16
  have B19 : Box w2 (W.heap.size) 25 #[Value.int IntKind.i64 0, Value.string { data := #[] }, Value.string { data := #[] }, Value.int IntKind.u64 0, Value.int IntKind.i64 0, Value.int IntKind.i64 0, Value.slice none 0 0] := B11.kept K (by decide)
  have B20 : Box w2 (w1.heap.size) 25 #[Value.int IntKind.i64 kind, Value.string { data := #[] }, Value.string { data := #[] }, Value.int IntKind.u64 0, Value.int IntKind.i64 0, Value.int IntKind.i64 a, Value.slice none 0 0] := B13.kept K (by decide)
  have sz21 := K.size
  clear HQ7 hm16 H R K
  have c22 : w2.cell? ⟨w1.heap.size, 1, none⟩ = some (Value.string { data := #[] }) := B20.cell 1
  have fz23 := B20.free
  have A24 := A17.set B20 hb10 1 (Value.string { data := (y).toArray })
  have B25 := B19.far (b' := w1.heap.size) (i := 1) (by omega) (Value.string { data := (y).toArray })
  have B26 := B20.set 1 (Value.string { data := (y).toArray })
  have sz27 : (w2.setCell { block := w1.heap.size, off := 1 } (Value.string { data := (y).toArray })).heap.size = w2.heap.size := by simp [World.setCell]
  go_wp2_with fail
  refine (take_any pEq (by decide) A24.rs).mono ?_
  intro e w3 H
  rcases H.cases with ⟨t1, s3, v, hm28, rfl, rfl, R, K⟩ | ⟨l, s', ch, hm, rfl, H1⟩
  rotate_left 1
  · exact ⟨rfl, A24.out HQ18 hm H1⟩
  have A29 := A24.call R K
  have HQ30 := hq_ok HQ18 hm28
  have B31 : Box w3 (W.heap.size) 25 #[Value.int IntKind.i64 0, Value.string { data := #[] }, Value.string { data := #[] }, Value.int IntKind.u64 0, Value.int IntKind.i64 0, Value.int IntKind.i64 0, Value.slice none 0 0] := B25.kept K (by decide)
  have B32 : Box w3 (w1.heap.size) 25 #[Value.int IntKind.i64 kind, Value.string { data := (y).toArray }, Value.string { data := #[] }, Value.int IntKind.u64 0, Value.int IntKind.i64 0, Value.int IntKind.i64 a, Value.slice none 0 0] := B26.kept K (by decide)
  have sz33 := K.size
  clear HQ18 hm28 H R K
  have HV34 := hq_ret HQ30
  have c35 : w3.cell? ⟨w1.heap.size, 0, none⟩ = some (Value.int IntKind.i64 kind) := B32.cell 0
  have c36 : w3.cell? ⟨w1.heap.size, 1, none⟩ = some (Value.string { data := (y).toArray }) := B32.cell 1
  have c37 : w3.cell? ⟨w1.heap.size, 2, none⟩ = some (Value.string { data := #[] }) := B32.cell 2
  have c38 : w3.cell? ⟨w1.heap.size, 3, none⟩ = some (Value.int IntKind.u64 0) := B32.cell 3
  have c39 : w3.cell? ⟨w1.heap.size, 4, none⟩ = some (Value.int IntKind.i64 0) := B32.cell 4
  have c40 : w3.cell? ⟨w1.heap.size, 5, none⟩ = some (Value.int IntKind.i64 a) := B32.cell 5
  have c41 : w3.cell? ⟨w1.heap.size, 6, none⟩ = some (Value.slice none 0 0) := B32.cell 6
  have fz42 := B32.free
  have hBW : w1.heap.size + 1 ≤ w3.heap.size := by omega
  go_wp2_with fail
  refine (value_any (Wc := W) he A29 (B := w1.heap.size + 1) (by omega) hBW kind 0 0 a y [] [] (by decide) (Kids.nil _ _)).mono ?_
  intro e w4 H
  rcases H.cases with ⟨tv, s4, v, hm, rfl, ⟨⟨KA, KC, rfl, nd⟩, hbx⟩, R, K⟩ | ⟨l, s', ch, hm, rfl, H1⟩
  rotate_left 1
  · exact ⟨rfl, out0 HV34 hm H1⟩
  have AV : At E W w4 dp s4 := ⟨R, K, A29.bs⟩
  have HQV := hq_ok HV34 hm
  have BV : Box w4 W.heap.size 25 #[Value.int IntKind.i64 0, Value.string { data := #[] }, Value.string { data := #[] }, Value.int IntKind.u64 0, Value.int IntKind.i64 0, Value.int IntKind.i64 0, Value.slice none 0 0] := hbx _ _ _ B31 (by omega) (by decide)
  clear HQ30 HV34 hm H R K hbx
  have c43 : w4.cell? ⟨W.heap.size, 0, none⟩ = some (Value.int IntKind.i64 0) := BV.cell 0
  have c44 : w4.cell? ⟨W.heap.size, 1, none⟩ = some (Value.string { data := #[] }) := BV.cell 1
  have c45 : w4.cell? ⟨W.heap.size, 2, none⟩ = some (Value.string { data := #[] }) := BV.cell 2
  have c46 : w4.cell? ⟨W.heap.size, 3, none⟩ = some (Value.int IntKind.u64 0) := BV.cell 3
  have c47 : w4.cell? ⟨W.heap.size, 4, none⟩ = some (Value.int IntKind.i64 0) := BV.cell 4
  have c48 : w4.cell? ⟨W.heap.size, 5, none⟩ = some (Value.int IntKind.i64 0) := BV.cell 5
  have c49 : w4.cell? ⟨W.heap.size, 6, none⟩ = some (Value.slice none 0 0) := BV.cell 6
  have fz50 := BV.free
  go_wp2
  refine bodyPost_ret (v := .agg #[Value.int IntKind.i64 (tv).kind, Value.string { data := (tv).name.toArray }, Value.string { data := (tv).part.toArray }, Value.int IntKind.u64 (tv).num, Value.int IntKind.i64 (tv).wid, Value.int IntKind.i64 (tv).at_, Value.slice KA (tv).kids.length KC]) ?_ rfl ?_
  · simp [results, Tryz.results158, go_sem, c43, c44, c45, c46, c47, c48, c49]
  · exact (AV.fill BV (Nat.le_refl _) _ _ _ _ _ _ _).ok HQV ⟨_, _, rfl, nodeAt_le (M := w1.heap.size + 1) (by omega) (nodeAt_fill (M := w1.heap.size + 1) (by omega) _ _ _ _ _ _ _ nd)⟩

set_option maxRecDepth 100000 in
set_option maxHeartbeats 1600000 in
theorem readReturn_any {E : Env} {W : World} {dp : Nat} {s : St} {x : PM T} (he : CE E dp x) (h : RS E 20 W dp s) :
    Calls Tryz.prog 113 #[.pointer (some ⟨E.r, 0, none⟩)] W (PostR E W dp (RNodeX W.heap.size) (readReturn E.ts x s)) := by
  have A0 := At.start h
  have HQ0 : Hid (readReturn E.ts x s = bnd (begin_ E.ts 20 kReturn) (fun n => value E.ts x fun a => .mk 20 [] [] 0 0 n.at_ [a]) s) := Lib.hid rfl
  generalize hM : readReturn E.ts x s = M at *
  clear hM
  have hb1 := A0.size
  have B2 := Box.new (W) 25 #[Value.int IntKind.i64 0, Value.string { data := #[] }, Value.string { data := #[] }, Value.int IntKind.u64 0, Value.int IntKind.i64 0, Value.int IntKind.i64 0, Value.slice none 0 0]
  have A3 := A0.alloc (Obj.cells #[Value.int IntKind.i64 0, Value.string { data := #[] }, Value.string { data := #[] }, Value.int IntKind.u64 0, Value.int IntKind.i64 0, Value.int IntKind.i64 0, Value.slice none 0 0] 25)
  have sz4 : (W.alloc (Obj.cells #[Value.int IntKind.i64 0, Value.string { data := #[] }, Value.string { data := #[] }, Value.int IntKind.u64 0, Value.int IntKind.i64 0, Value.int IntKind.i64 0, Value.slice none 0 0] 25)).heap.size = W.heap.size + 1 := by simp
  go_enter Tryz.func113, Tryz.ntmps113
  go_wp2_with fail
  refine (begin_any 20 kReturn (by decide) A3.rs).mono ?_
  intro e w1 H
  rcases H.cases with ⟨n, s1, v, hm5, rfl, ⟨a, rfl, rfl⟩, R, K⟩ | ⟨l, s', ch, hm, rfl, H1⟩
  rotate_left 1
  · exact ⟨rfl, A3.out HQ0 hm H1⟩
  have A6 := A3.call R K
  have HQ7 := hq_ok HQ0 hm5
  have B8 : Box w1 (W.heap.size) 25 #[Value.int IntKind.i64 0, Value.string { data := #[] }, Value.string { data := #[] }, Value.int IntKind.u64 0, Value.int IntKind.i64 0, Value.int IntKind.i64 0, Value.slice none 0 0] := B2.kept K (by decide)
  have sz9 := K.size
  clear HQ0 hm5 H R K
  have HV10 := hq_ret HQ7
  have hBW : w1.heap.size ≤ w1.heap.size := by omega
  go_wp2_with fail
  refine (value_any (Wc := W) he A6 (B := w1.heap.size) (by omega) hBW 20 0 0 a [] [] [] (by decide) (Kids.nil _ _)).mono ?_
  intro e w2 H
  rcases H.cases with ⟨tv, s2, v, hm, rfl, ⟨⟨KA, KC, rfl, nd⟩, hbx⟩, R, K⟩ | ⟨l, s', ch, hm, rfl, H1⟩
  rotate_left 1
  · exact ⟨rfl, out0 HV10 hm H1⟩
  have AV : At E W w2 dp s2 := ⟨R, K, A6.bs⟩
  have HQV := hq_ok HV10 hm
  have BV : Box w2 W.heap.size 25 #[Value.int IntKind.i64 0, Value.string { data := #[] }, Value.string { data := #[] }, Value.int IntKind.u64 0, Value.int IntKind.i64 0, Value.int IntKind.i64 0, Value.slice none 0 0] := hbx _ _ _ B8 (by omega) (by decide)
  clear HQ7 HV10 hm H R K hbx
  have c11 : w2.cell? ⟨W.heap.size, 0, none⟩ = some (Value.int IntKind.i64 0) := BV.cell 0
  have c12 : w2.cell? ⟨W.heap.size, 1, none⟩ = some (Value.string { data := #[] }) := BV.cell 1
  have c13 : w2.cell? ⟨W.heap.size, 2, none⟩ = some (Value.string { data := #[] }) := BV.cell 2
  have c14 : w2.cell? ⟨W.heap.size, 3, none⟩ = some (Value.int IntKind.u64 0) := BV.cell 3
  have c15 : w2.cell? ⟨W.heap.size, 4, none⟩ = some (Value.int IntKind.i64 0) := BV.cell 4
  have c16 : w2.cell? ⟨W.heap.size, 5, none⟩ = some (Value.int IntKind.i64 0) := BV.cell 5
  have c17 : w2.cell? ⟨W.heap.size, 6, none⟩ = some (Value.slice none 0 0) := BV.cell 6
  have fz18 := BV.free
  go_wp2
  refine bodyPost_ret (v := .agg #[Value.int IntKind.i64 (tv).kind, Value.string { data := (tv).name.toArray }, Value.string { data := (tv).part.toArray }, Value.int IntKind.u64 (tv).num, Value.int IntKind.i64 (tv).wid, Value.int IntKind.i64 (tv).at_, Value.slice KA (tv).kids.length KC]) ?_ rfl ?_
  · simp [results, Tryz.results113, go_sem, c11, c12, c13, c14, c15, c16, c17]
  · exact (AV.fill BV (Nat.le_refl _) _ _ _ _ _ _ _).ok HQV ⟨_, _, rfl, nodeAt_le (M := w1.heap.size) (by omega) (nodeAt_fill (M := w1.heap.size) (by omega) _ _ _ _ _ _ _ nd)⟩

set_option maxRecDepth 100000 in
set_option maxHeartbeats 1600000 in
theorem readLet_any {E : Env} {W : World} {dp : Nat} {s : St} {x : PM T} (he : CE E dp x) (h : RS E 20 W dp s) :
    Calls Tryz.prog 103 #[.pointer (some ⟨E.r, 0, none⟩)] W (PostR E W dp (RNodeX W.heap.size) (readNamed E.ts x 7 kLet s)) := by
  have A0 := At.start h
  have HQ0 : Hid (readNamed E.ts x 7 kLet s = bnd (readNamed E.ts x 7 kLet) (fun t => ret t) s) := Lib.hid (bnd_ret _ s).symm
  generalize hM : readNamed E.ts x 7 kLet s = M at *
  clear hM
  have hb1 := A0.size
  have B2 := Box.new (W) 25 #[Value.int IntKind.i64 0, Value.string { data := #[] }, Value.string { data := #[] }, Value.int IntKind.u64 0, Value.int IntKind.i64 0, Value.int IntKind.i64 0, Value.slice none 0 0]
  have A3 := A0.alloc (Obj.cells #[Value.int IntKind.i64 0, Value.string { data := #[] }, Value.string { data := #[] }, Value.int IntKind.u64 0, Value.int IntKind.i64 0, Value.int IntKind.i64 0, Value.slice none 0 0] 25)
  have sz4 : (W.alloc (Obj.cells #[Value.int IntKind.i64 0, Value.string { data := #[] }, Value.string { data := #[] }, Value.int IntKind.u64 0, Value.int IntKind.i64 0, Value.int IntKind.i64 0, Value.slice none 0 0] 25)).heap.size = W.heap.size + 1 := by simp
  go_enter Tryz.func103, Tryz.ntmps103
  go_wp2_with fail
  refine (readNamed_any 7 kLet (by decide) he A3.rs).mono ?_
  intro e w1 H
  rcases H.cases with ⟨t, s1, v, hm5, rfl, ⟨KA, KC, rfl, nd⟩, R, K⟩ | ⟨l, s', ch, hm, rfl, H1⟩
  rotate_left 1
  · exact ⟨rfl, A3.out HQ0 hm H1⟩
  have A6 := A3.call R K
  have HQ7 := hq_ok HQ0 hm5
  have B8 : Box w1 (W.heap.size) 25 #[Value.int IntKind.i64 0, Value.string { data := #[] }, Value.string { data := #[] }, Value.int IntKind.u64 0, Value.int IntKind.i64 0, Value.int IntKind.i64 0, Value.slice none 0 0] := B2.kept K (by decide)
  have sz9 := K.size
  clear HQ0 hm5 H R K
  have c10 : w1.cell? ⟨W.heap.size, 0, none⟩ = some (Value.int IntKind.i64 0) := B8.cell 0
  have c11 : w1.cell? ⟨W.heap.size, 1, none⟩ = some (Value.string { data := #[] }) := B8.cell 1
  have c12 : w1.cell? ⟨W.heap.size, 2, none⟩ = some (Value.string { data := #[] }) := B8.cell 2
  have c13 : w1.cell? ⟨W.heap.size, 3, none⟩ = some (Value.int IntKind.u64 0) := B8.cell 3
  have c14 : w1.cell? ⟨W.heap.size, 4, none⟩ = some (Value.int IntKind.i64 0) := B8.cell 4
  have c15 : w1.cell? ⟨W.heap.size, 5, none⟩ = some (Value.int IntKind.i64 0) := B8.cell 5
  have c16 : w1.cell? ⟨W.heap.size, 6, none⟩ = some (Value.slice none 0 0) := B8.cell 6
  have fz17 := B8.free
  go_wp2
  refine bodyPost_ret (v := .agg #[Value.int IntKind.i64 (t).kind, Value.string { data := (t).name.toArray }, Value.string { data := (t).part.toArray }, Value.int IntKind.u64 (t).num, Value.int IntKind.i64 (t).wid, Value.int IntKind.i64 (t).at_, Value.slice KA t.kids.length KC]) ?_ rfl ?_
  · simp [results, Tryz.results103, go_sem, c10, c11, c12, c13, c14, c15, c16]
  · exact (A6.fill B8 (Nat.le_refl _) _ _ _ _ _ _ _).ok HQ7 ⟨_, _, rfl, nodeAt_le (M := (W.alloc (Obj.cells #[Value.int IntKind.i64 0, Value.string { data := #[] }, Value.string { data := #[] }, Value.int IntKind.u64 0, Value.int IntKind.i64 0, Value.int IntKind.i64 0, Value.slice none 0 0] 25)).heap.size) (by omega) (nodeAt_fill (M := (W.alloc (Obj.cells #[Value.int IntKind.i64 0, Value.string { data := #[] }, Value.string { data := #[] }, Value.int IntKind.u64 0, Value.int IntKind.i64 0, Value.int IntKind.i64 0, Value.slice none 0 0] 25)).heap.size) (by omega) _ _ _ _ _ _ _ nd)⟩

set_option maxRecDepth 100000 in
set_option maxHeartbeats 1600000 in
theorem readEmit_any {E : Env} {W : World} {dp : Nat} {s : St} {x : PM T} (he : CE E dp x) (h : RS E 20 W dp s) :
    Calls Tryz.prog 110 #[.pointer (some ⟨E.r, 0, none⟩)] W (PostR E W dp (RNodeX W.heap.size) (readNamed E.ts x 17 kEmit s)) := by
  have A0 := At.start h
  have HQ0 : Hid (readNamed E.ts x 17 kEmit s = bnd (readNamed E.ts x 17 kEmit) (fun t => ret t) s) := Lib.hid (bnd_ret _ s).symm
  generalize hM : readNamed E.ts x 17 kEmit s = M at *
  clear hM
  have hb1 := A0.size
  have B2 := Box.new (W) 25 #[Value.int IntKind.i64 0, Value.string { data := #[] }, Value.string { data := #[] }, Value.int IntKind.u64 0, Value.int IntKind.i64 0, Value.int IntKind.i64 0, Value.slice none 0 0]
  have A3 := A0.alloc (Obj.cells #[Value.int IntKind.i64 0, Value.string { data := #[] }, Value.string { data := #[] }, Value.int IntKind.u64 0, Value.int IntKind.i64 0, Value.int IntKind.i64 0, Value.slice none 0 0] 25)
  have sz4 : (W.alloc (Obj.cells #[Value.int IntKind.i64 0, Value.string { data := #[] }, Value.string { data := #[] }, Value.int IntKind.u64 0, Value.int IntKind.i64 0, Value.int IntKind.i64 0, Value.slice none 0 0] 25)).heap.size = W.heap.size + 1 := by simp
  go_enter Tryz.func110, Tryz.ntmps110
  go_wp2_with fail
  refine (readNamed_any 17 kEmit (by decide) he A3.rs).mono ?_
  intro e w1 H
  rcases H.cases with ⟨t, s1, v, hm5, rfl, ⟨KA, KC, rfl, nd⟩, R, K⟩ | ⟨l, s', ch, hm, rfl, H1⟩
  rotate_left 1
  · exact ⟨rfl, A3.out HQ0 hm H1⟩
  have A6 := A3.call R K
  have HQ7 := hq_ok HQ0 hm5
  have B8 : Box w1 (W.heap.size) 25 #[Value.int IntKind.i64 0, Value.string { data := #[] }, Value.string { data := #[] }, Value.int IntKind.u64 0, Value.int IntKind.i64 0, Value.int IntKind.i64 0, Value.slice none 0 0] := B2.kept K (by decide)
  have sz9 := K.size
  clear HQ0 hm5 H R K
  have c10 : w1.cell? ⟨W.heap.size, 0, none⟩ = some (Value.int IntKind.i64 0) := B8.cell 0
  have c11 : w1.cell? ⟨W.heap.size, 1, none⟩ = some (Value.string { data := #[] }) := B8.cell 1
  have c12 : w1.cell? ⟨W.heap.size, 2, none⟩ = some (Value.string { data := #[] }) := B8.cell 2
  have c13 : w1.cell? ⟨W.heap.size, 3, none⟩ = some (Value.int IntKind.u64 0) := B8.cell 3
  have c14 : w1.cell? ⟨W.heap.size, 4, none⟩ = some (Value.int IntKind.i64 0) := B8.cell 4
  have c15 : w1.cell? ⟨W.heap.size, 5, none⟩ = some (Value.int IntKind.i64 0) := B8.cell 5
  have c16 : w1.cell? ⟨W.heap.size, 6, none⟩ = some (Value.slice none 0 0) := B8.cell 6
  have fz17 := B8.free
  go_wp2
  refine bodyPost_ret (v := .agg #[Value.int IntKind.i64 (t).kind, Value.string { data := (t).name.toArray }, Value.string { data := (t).part.toArray }, Value.int IntKind.u64 (t).num, Value.int IntKind.i64 (t).wid, Value.int IntKind.i64 (t).at_, Value.slice KA t.kids.length KC]) ?_ rfl ?_
  · simp [results, Tryz.results110, go_sem, c10, c11, c12, c13, c14, c15, c16]
  · exact (A6.fill B8 (Nat.le_refl _) _ _ _ _ _ _ _).ok HQ7 ⟨_, _, rfl, nodeAt_le (M := (W.alloc (Obj.cells #[Value.int IntKind.i64 0, Value.string { data := #[] }, Value.string { data := #[] }, Value.int IntKind.u64 0, Value.int IntKind.i64 0, Value.int IntKind.i64 0, Value.slice none 0 0] 25)).heap.size) (by omega) (nodeAt_fill (M := (W.alloc (Obj.cells #[Value.int IntKind.i64 0, Value.string { data := #[] }, Value.string { data := #[] }, Value.int IntKind.u64 0, Value.int IntKind.i64 0, Value.int IntKind.i64 0, Value.slice none 0 0] 25)).heap.size) (by omega) _ _ _ _ _ _ _ nd)⟩

set_option maxRecDepth 100000 in
set_option maxHeartbeats 1600000 in
theorem readNew_any {E : Env} {W : World} {dp : Nat} {s : St} {x : PM T} (he : CE E dp x) (h : RS E 20 W dp s) :
    Calls Tryz.prog 104 #[.pointer (some ⟨E.r, 0, none⟩)] W (PostR E W dp (RNodeX W.heap.size) (readNew E.ts x s)) := by
  have A0 := At.start h
  have HQ0 : Hid (readNew E.ts x s = bnd (begin_ E.ts 11 kNew) (fun n => bnd (name E.ts) fun y => bnd (take E.ts pColon) fun _ => bnd (width E.ts) fun z => bnd (inBrackets E.ts x) fun k => bnd (take E.ts pSemi) fun _ => ret (.mk 11 y [] 0 z n.at_ [k])) s) := Lib.hid rfl
  generalize hM : readNew E.ts x s = M at *
  clear hM
  have hb1 := A0.size
  have B2 := Box.new (W) 25 #[Value.int IntKind.i64 0, Value.string { data := #[] }, Value.string { data := #[] }, Value.int IntKind.u64 0, Value.int IntKind.i64 0, Value.int IntKind.i64 0, Value.slice none 0 0]
  have A3 := A0.alloc (Obj.cells #[Value.int IntKind.i64 0, Value.string { data := #[] }, Value.string { data := #[] }, Value.int IntKind.u64 0, Value.int IntKind.i64 0, Value.int IntKind.i64 0, Value.slice none 0 0] 25)
  have sz4 : (W.alloc (Obj.cells #[Value.int IntKind.i64 0, Value.string { data := #[] }, Value.string { data := #[] }, Value.int IntKind.u64 0, Value.int IntKind.i64 0, Value.int IntKind.i64 0, Value.slice none 0 0] 25)).heap.size = W.heap.size + 1 := by simp
  obtain ⟨i0, hi, hz0, hz1, hz2⟩ := info_parts Tryz.infoNode
  go_enter Tryz.func104, Tryz.ntmps104
  go_wp2_with fail
  refine (begin_any 11 kNew (by decide) A3.rs).mono ?_
  intro e w1 H
  rcases H.cases with ⟨n, s1, v, hm5, rfl, ⟨a, rfl, rfl⟩, R, K⟩ | ⟨l, s', ch, hm, rfl, H1⟩
  rotate_left 1
  · exact ⟨rfl, A3.out HQ0 hm H1⟩
  have A6 := A3.call R K
  have HQ7 := hq_ok HQ0 hm5
  have B8 : Box w1 (W.heap.size) 25 #[Value.int IntKind.i64 0, Value.string { data := #[] }, Value.string { data := #[] }, Value.int IntKind.u64 0, Value.int IntKind.i64 0, Value.int IntKind.i64 0, Value.slice none 0 0] := B2.kept K (by decide)
  have sz9 := K.size
  clear HQ0 hm5 H R K
  have hb10 := A6.size
  have B11 := B8.alloc (Obj.cells #[Value.int IntKind.i64 11, Value.string { data := #[] }, Value.string { data := #[] }, Value.int IntKind.u64 0, Value.int IntKind.i64 0, Value.int IntKind.i64 a, Value.slice none 0 0] 25)
  have lt12 := B8.lt
  have B13 := Box.new (w1) 25 #[Value.int IntKind.i64 11, Value.string { data := #[] }, Value.string { data := #[] }, Value.int IntKind.u64 0, Value.int IntKind.i64 0, Value.int IntKind.i64 a, Value.slice none 0 0]
  have A14 := A6.alloc (Obj.cells #[Value.int IntKind.i64 11, Value.string { data := #[] }, Value.string { data := #[] }, Value.int IntKind.u64 0, Value.int IntKind.i64 0, Value.int IntKind.i64 a, Value.slice none 0 0] 25)
  have sz15 : (w1.alloc (Obj.cells #[Value.int IntKind.i64 11, Value.string { data := #[] }, Value.string { data := #[] }, Value.int IntKind.u64 0, Value.int IntKind.i64 0, Value.int IntKind.i64 a, Value.slice none 0 0] 25)).heap.size = w1.heap.size + 1 := by simp
  go_wp2_with fail
  refine (name_any A14.rs).mono ?_
  intro e w2 H
  rcases H.cases with ⟨y, s2, v, hm16, rfl, rfl, R, K⟩ | ⟨l, s', ch, hm, rfl, H1⟩
  rotate_left 1
  · exact ⟨rfl, A14.out HQ7 hm H1⟩
  have A17 := A14.call R K
  have HQ18 := hq_ok HQ7 hm16
  have B19 : Box w2 (W.heap.size) 25 #[Value.int IntKind.i64 0, Value.string { data := #[] }, Value.string { data := #[] }, Value.int IntKind.u64 0, Value.int IntKind.i64 0, Value.int IntKind.i64 0, Value.slice none 0 0] := B11.kept K (by decide)
  have B20 : Box w2 (w1.heap.size) 25 #[Value.int IntKind.i64 11, Value.string { data := #[] }, Value.string { data := #[] }, Value.int IntKind.u64 0, Value.int IntKind.i64 0, Value.int IntKind.i64 a, Value.slice none 0 0] := B13.kept K (by decide)
  have sz21 := K.size
  clear HQ7 hm16 H R K
  have c22 : w2.cell? ⟨w1.heap.size, 1, none⟩ = some (Value.string { data := #[] }) := B20.cell 1
  have fz23 := B20.free
  have A24 := A17.set B20 hb10 1 (Value.string { data := (y).toArray })
  have B25 := B19.far (b' := w1.heap.size) (i := 1) (by omega) (Value.string { data := (y).toArray })
  have B26 := B20.set 1 (Value.string { data := (y).toArray })
  have sz27 : (w2.setCell { block := w1.heap.size, off := 1 } (Value.string { data := (y).toArray })).heap.size = w2.heap.size := by simp [World.setCell]
  go_wp2_with fail
  refine (take_any pColon (by decide) A24.rs).mono ?_
  intro e w3 H
  rcases H.cases with ⟨t1, s3, v, hm28, rfl, rfl, R, K⟩ | ⟨l, s', ch, hm, rfl, H1⟩
  rotate_left 1
  · exact ⟨rfl, A24.out HQ18 hm H1⟩
  have A29 := A24.call R K
  have HQ30 := hq_ok HQ18 hm28
  have B31 : Box w3 (W.heap.size) 25 #[Value.int IntKind.i64 0, Value.string { data := #[] }, Value.string { data := #[] }, Value.int IntKind.u64 0, Value.int IntKind.i64 0, Value.int IntKind.i64 0, Value.slice none 0 0] := B25.kept K (by decide)
  have B32 : Box w3 (w1.heap.size) 25 #[Value.int IntKind.i64 11, Value.string { data := (y).toArray }, Value.string { data := #[] }, Value.int IntKind.u64 0, Value.int IntKind.i64 0, Value.int IntKind.i64 a, Value.slice none 0 0] := B26.kept K (by decide)
  have sz33 := K.size
  clear HQ18 hm28 H R K
  go_wp2_with fail
  refine (width_any A29.rs).mono ?_
  intro e w4 H
  rcases H.cases with ⟨z, s4, v, hm34, rfl, rfl, R, K⟩ | ⟨l, s', ch, hm, rfl, H1⟩
  rotate_left 1
  · exact ⟨rfl, A29.out HQ30 hm H1⟩
  have A35 := A29.call R K
  have HQ36 := hq_ok HQ30 hm34
  have B37 : Box w4 (W.heap.size) 25 #[Value.int IntKind.i64 0, Value.string { data := #[] }, Value.string { data := #[] }, Value.int IntKind.u64 0, Value.int IntKind.i64 0, Value.int IntKind.i64 0, Value.slice none 0 0] := B31.kept K (by decide)
  have B38 : Box w4 (w1.heap.size) 25 #[Value.int IntKind.i64 11, Value.string { data := (y).toArray }, Value.string { data := #[] }, Value.int IntKind.u64 0, Value.int IntKind.i64 0, Value.int IntKind.i64 a, Value.slice none 0 0] := B32.kept K (by decide)
  have sz39 := K.size
  clear HQ30 hm34 H R K
  have c40 : w4.cell? ⟨w1.heap.size, 4, none⟩ = some (Value.int IntKind.i64 0) := B38.cell 4
  have fz41 := B38.free
  have A42 := A35.set B38 hb10 4 (Value.int IntKind.i64 z)
  have B43 := B37.far (b' := w1.heap.size) (i := 4) (by omega) (Value.int IntKind.i64 z)
  have B44 := B38.set 4 (Value.int IntKind.i64 z)
  have sz45 : (w4.setCell { block := w1.heap.size, off := 4 } (Value.int IntKind.i64 z)).heap.size = w4.heap.size := by simp [World.setCell]
  go_wp2_with fail
  obtain ⟨w5, hy46⟩ : ∃ Y, (w4.setCell { block := w1.heap.size, off := 4 } (Value.int IntKind.i64 z)) = Y := ⟨_, rfl⟩
  rw [hy46] at A42 sz45 B43 B44  ⊢
  clear hy46
  have B47 : Box w5 (W.heap.size) 25 #[Value.int IntKind.i64 0, Value.string { data := #[] }, Value.string { data := #[] }, Value.int IntKind.u64 0, Value.int IntKind.i64 0, Value.int IntKind.i64 0, Value.slice none 0 0] := B43
  have B48 : Box w5 (w1.heap.size) 25 #[Value.int IntKind.i64 11, Value.string { data := (y).toArray }, Value.string { data := #[] }, Value.int IntKind.u64 0, Value.int IntKind.i64 z, Value.int IntKind.i64 a, Value.slice none 0 0] := B44
  have c49 : w5.cell? ⟨w1.heap.size, 6, none⟩ = some (Value.slice none 0 0) := B48.cell 6
  have fz50 := B48.free
  have ltr := A42.rs.lt
  have hMs : w1.heap.size + 1 ≤ w5.heap.size := by omega
  go_region_law (first
    | (go_simp; go_at_call 159; refine (inBrackets_any he A42.drew.rs).mono ?_; intro e w6 H; rcases H.cases with ⟨t, s6, v, hm, rfl, ⟨KA, KC, rfl, nd⟩, R, K⟩ | ⟨l, s', ch, hm, rfl, H1⟩; rotate_left 1; exact ⟨rfl, A42.drew.out HQ36 hm H1⟩; have AR := A42.drew.call R K; have HQR := hq_ok HQ36 hm; have BRres : Box w6 (W.heap.size) 25 #[Value.int IntKind.i64 0, Value.string { data := #[] }, Value.string { data := #[] }, Value.int IntKind.u64 0, Value.int IntKind.i64 0, Value.int IntKind.i64 0, Value.slice none 0 0] := Box.kept (w := w5.drew) B47 K (by decide); have BRn : Box w6 (w1.heap.size) 25 #[Value.int IntKind.i64 11, Value.string { data := (y).toArray }, Value.string { data := #[] }, Value.int IntKind.u64 0, Value.int IntKind.i64 z, Value.int IntKind.i64 a, Value.slice none 0 0] := Box.kept (w := w5.drew) B48 K (by decide); have q0 : ∀ o, (w6.alloc o).cell? ⟨w1.heap.size, 6, none⟩ = some (Value.slice none 0 0) := fun o => (BRn.alloc o).cell 6; have q00 := BRn.cell 6; have szR : w5.heap.size ≤ w6.heap.size := K.size; clear K R H hm)
    | (refine step_append_lies _ rfl (.tmp 15) (.tmp 18) 23 rfl (w1.heap.size + 1) 25 i0 _ 7 88 Tryz.underlying23 hi hz0 hz1 hz2 rfl (by decide) (Value.slice none 0 0) 0 [] (by simp [Act.eval]) (World.ownsRow.alloc (World.ownsRow_nil _ _ _ _) _) ⟨w6.heap.size, 0, none⟩ 1 1 (nodeCells t (.slice KA (t).kids.length KC)) (by simp [Act.eval]) rfl (by exact World.news_of_block (heap_alloc_new _ _)) (nodeCells_one _ _ _ _) (by decide) (by unfold maxLen; omega) (by omega) (by first | omega | (simp <;> omega)) _ rfl ?_; intro g cap wA o2 g2 p2 z2; have ap := appended AR (by omega) (World.ownsRow_nil _ _ _ _) (show rowAt _ _ [] [] from rfl) (rowAt_fresh nd (by first | omega | (simp <;> omega)) no_own) o2 g2 p2; have q1 : wA.cell? ⟨w1.heap.size, 6, none⟩ = some (Value.slice none 0 0) := (ap.box BRn (by omega)).cell 6; have q2 := (ap.box BRn (by omega)).free 6))
  all_goals
    have szA : w6.heap.size ≤ wA.heap.size := by have := g2.size; simp at this; omega
    clear q0 q00 q1 q2 o2 g2 p2
    have BSres := ap.box BRres (by omega)
    have BSn := ap.box BRn (by omega)
    have KS := ap.kids
    have AS := ap.at_
    have A51 := AS.set BSn hb10 6 (Value.slice (some { block := g, off := 0 }) (0 + 1) cap)
    have B52 := BSres.far (b' := w1.heap.size) (i := 6) (by omega) (Value.slice (some { block := g, off := 0 }) (0 + 1) cap)
    have B53 := BSn.set 6 (Value.slice (some { block := g, off := 0 }) (0 + 1) cap)
    have sz54 : (wA.setCell { block := w1.heap.size, off := 6 } (Value.slice (some { block := g, off := 0 }) (0 + 1) cap)).heap.size = wA.heap.size := by simp [World.setCell]
    have KF := Kids.far (b := w1.heap.size) (i := 6) (by omega) (Value.slice (some { block := g, off := 0 }) (0 + 1) cap) KS
    obtain ⟨w7, hy55⟩ : ∃ Y, (wA.setCell { block := w1.heap.size, off := 6 } (Value.slice (some { block := g, off := 0 }) (0 + 1) cap)) = Y := ⟨_, rfl⟩
    rw [hy55] at A51 sz54 B52 B53 KF ⊢
    clear hy55
    have B56 : Box w7 (W.heap.size) 25 #[Value.int IntKind.i64 0, Value.string { data := #[] }, Value.string { data := #[] }, Value.int IntKind.u64 0, Value.int IntKind.i64 0, Value.int IntKind.i64 0, Value.slice none 0 0] := B52
    have B57 : Box w7 (w1.heap.size) 25 #[Value.int IntKind.i64 11, Value.string { data := (y).toArray }, Value.string { data := #[] }, Value.int IntKind.u64 0, Value.int IntKind.i64 z, Value.int IntKind.i64 a, Value.slice (some { block := g, off := 0 }) (0 + 1) cap] := B53
    go_wp2_with fail
    refine (take_any pSemi (by decide) A51.rs).mono ?_
    intro e w8 H
    rcases H.cases with ⟨t3, s8, v, hm58, rfl, rfl, R, K⟩ | ⟨l, s', ch, hm, rfl, H1⟩
    rotate_left 1
    · exact ⟨rfl, A51.out HQR hm H1⟩
    have A59 := A51.call R K
    have HQ60 := hq_ok HQR hm58
    have B61 : Box w8 (W.heap.size) 25 #[Value.int IntKind.i64 0, Value.string { data := #[] }, Value.string { data := #[] }, Value.int IntKind.u64 0, Value.int IntKind.i64 0, Value.int IntKind.i64 0, Value.slice none 0 0] := B56.kept K (by decide)
    have B62 : Box w8 (w1.heap.size) 25 #[Value.int IntKind.i64 11, Value.string { data := (y).toArray }, Value.string { data := #[] }, Value.int IntKind.u64 0, Value.int IntKind.i64 z, Value.int IntKind.i64 a, Value.slice (some { block := g, off := 0 }) (0 + 1) cap] := B57.kept K (by decide)
    have Q63 := Kids.later KF K
    have sz64 := K.size
    clear HQR hm58 H R K
    have c65 : w8.cell? ⟨w1.heap.size, 0, none⟩ = some (Value.int IntKind.i64 11) := B62.cell 0
    have c66 : w8.cell? ⟨w1.heap.size, 1, none⟩ = some (Value.string { data := (y).toArray }) := B62.cell 1
    have c67 : w8.cell? ⟨w1.heap.size, 2, none⟩ = some (Value.string { data := #[] }) := B62.cell 2
    have c68 : w8.cell? ⟨w1.heap.size, 3, none⟩ = some (Value.int IntKind.u64 0) := B62.cell 3
    have c69 : w8.cell? ⟨w1.heap.size, 4, none⟩ = some (Value.int IntKind.i64 z) := B62.cell 4
    have c70 : w8.cell? ⟨w1.heap.size, 5, none⟩ = some (Value.int IntKind.i64 a) := B62.cell 5
    have c71 : w8.cell? ⟨w1.heap.size, 6, none⟩ = some (Value.slice (some { block := g, off := 0 }) (0 + 1) cap) := B62.cell 6
    have fz72 := B62.free
    have c73 : w8.cell? ⟨W.heap.size, 0, none⟩ = some (Value.int IntKind.i64 0) := B61.cell 0
    have c74 : w8.cell? ⟨W.heap.size, 1, none⟩ = some (Value.string { data := #[] }) := B61.cell 1
    have c75 : w8.cell? ⟨W.heap.size, 2, none⟩ = some (Value.string { data := #[] }) := B61.cell 2
    have c76 : w8.cell? ⟨W.heap.size, 3, none⟩ = some (Value.int IntKind.u64 0) := B61.cell 3
    have c77 : w8.cell? ⟨W.heap.size, 4, none⟩ = some (Value.int IntKind.i64 0) := B61.cell 4
    have c78 : w8.cell? ⟨W.heap.size, 5, none⟩ = some (Value.int IntKind.i64 0) := B61.cell 5
    have c79 : w8.cell? ⟨W.heap.size, 6, none⟩ = some (Value.slice none 0 0) := B61.cell 6
    have fz80 := B61.free
    go_wp2
    refine bodyPost_ret (v := .agg #[Value.int IntKind.i64 11, Value.string { data := (y).toArray }, Value.string { data := #[] }, Value.int IntKind.u64 0, Value.int IntKind.i64 z, Value.int IntKind.i64 a, Value.slice (some { block := g, off := 0 }) (0 + 1) cap]) ?_ rfl ?_
    · simp [results, Tryz.results104, go_sem, c73, c74, c75, c76, c77, c78, c79]
    · exact (A59.fill B61 (Nat.le_refl _) _ _ _ _ _ _ _).ok HQ60 ⟨_, _, rfl, nodeAt_le (M := w1.heap.size + 1) (by omega) (nodeAt_fill (M := w1.heap.size + 1) (by omega) _ _ _ _ _ _ _ (Q63.node _ _ _ _ _ _))⟩

end Go.Proofs.YtmkehecapjdfdaaGreatDoor

/- A statement with two kids. -/
namespace Go.Proofs.YtmkehecapjdfdaaGreatDoor
open Go.RowKit

set_option maxRecDepth 100000 in
set_option maxHeartbeats 1600000 in
theorem readWhile_any {E : Env} {W : World} {dp : Nat} {s : St} {x y : PM T} (he : CE E dp x) (hb : CB E dp y) (h : RS E 20 W dp s) :
    Calls Tryz.prog 109 #[.pointer (some ⟨E.r, 0, none⟩)] W (PostR E W dp (RNodeX W.heap.size) (readWhile E.ts x y s)) := by
  have A0 := At.start h
  have HQ0 : Hid (readWhile E.ts x y s = bnd (begin_ E.ts 16 kWhile) (fun n => bnd x fun a => bnd y fun k => ret (.mk 16 [] [] 0 0 n.at_ [a, k])) s) := Lib.hid rfl
  generalize hM : readWhile E.ts x y s = M at *
  clear hM
  have hb1 := A0.size
  have B2 := Box.new (W) 25 #[Value.int IntKind.i64 0, Value.string { data := #[] }, Value.string { data := #[] }, Value.int IntKind.u64 0, Value.int IntKind.i64 0, Value.int IntKind.i64 0, Value.slice none 0 0]
  have A3 := A0.alloc (Obj.cells #[Value.int IntKind.i64 0, Value.string { data := #[] }, Value.string { data := #[] }, Value.int IntKind.u64 0, Value.int IntKind.i64 0, Value.int IntKind.i64 0, Value.slice none 0 0] 25)
  have sz4 : (W.alloc (Obj.cells #[Value.int IntKind.i64 0, Value.string { data := #[] }, Value.string { data := #[] }, Value.int IntKind.u64 0, Value.int IntKind.i64 0, Value.int IntKind.i64 0, Value.slice none 0 0] 25)).heap.size = W.heap.size + 1 := by simp
  obtain ⟨i0, hi, hz0, hz1, hz2⟩ := info_parts Tryz.infoNode
  go_enter Tryz.func109, Tryz.ntmps109
  go_wp2_with fail
  refine (begin_any 16 kWhile (by decide) A3.rs).mono ?_
  intro e w1 H
  rcases H.cases with ⟨n, s1, v, hm5, rfl, ⟨a, rfl, rfl⟩, R, K⟩ | ⟨l, s', ch, hm, rfl, H1⟩
  rotate_left 1
  · exact ⟨rfl, A3.out HQ0 hm H1⟩
  have A6 := A3.call R K
  have HQ7 := hq_ok HQ0 hm5
  have B8 : Box w1 (W.heap.size) 25 #[Value.int IntKind.i64 0, Value.string { data := #[] }, Value.string { data := #[] }, Value.int IntKind.u64 0, Value.int IntKind.i64 0, Value.int IntKind.i64 0, Value.slice none 0 0] := B2.kept K (by decide)
  have sz9 := K.size
  clear HQ0 hm5 H R K
  have hb10 := A6.size
  have B11 := B8.alloc (Obj.cells #[Value.int IntKind.i64 16, Value.string { data := #[] }, Value.string { data := #[] }, Value.int IntKind.u64 0, Value.int IntKind.i64 0, Value.int IntKind.i64 a, Value.slice none 0 0] 25)
  have lt12 := B8.lt
  have B13 := Box.new (w1) 25 #[Value.int IntKind.i64 16, Value.string { data := #[] }, Value.string { data := #[] }, Value.int IntKind.u64 0, Value.int IntKind.i64 0, Value.int IntKind.i64 a, Value.slice none 0 0]
  have A14 := A6.alloc (Obj.cells #[Value.int IntKind.i64 16, Value.string { data := #[] }, Value.string { data := #[] }, Value.int IntKind.u64 0, Value.int IntKind.i64 0, Value.int IntKind.i64 a, Value.slice none 0 0] 25)
  have sz15 : (w1.alloc (Obj.cells #[Value.int IntKind.i64 16, Value.string { data := #[] }, Value.string { data := #[] }, Value.int IntKind.u64 0, Value.int IntKind.i64 0, Value.int IntKind.i64 a, Value.slice none 0 0] 25)).heap.size = w1.heap.size + 1 := by simp
  go_wp2_with fail
  obtain ⟨w2, hy16⟩ : ∃ Y, (w1.alloc (Obj.cells #[Value.int IntKind.i64 16, Value.string { data := #[] }, Value.string { data := #[] }, Value.int IntKind.u64 0, Value.int IntKind.i64 0, Value.int IntKind.i64 a, Value.slice none 0 0] 25)) = Y := ⟨_, rfl⟩
  rw [hy16] at A14 sz15 B11 B13  ⊢
  clear hy16
  have B17 : Box w2 (W.heap.size) 25 #[Value.int IntKind.i64 0, Value.string { data := #[] }, Value.string { data := #[] }, Value.int IntKind.u64 0, Value.int IntKind.i64 0, Value.int IntKind.i64 0, Value.slice none 0 0] := B11
  have B18 : Box w2 (w1.heap.size) 25 #[Value.int IntKind.i64 16, Value.string { data := #[] }, Value.string { data := #[] }, Value.int IntKind.u64 0, Value.int IntKind.i64 0, Value.int IntKind.i64 a, Value.slice none 0 0] := B13
  have c19 : w2.cell? ⟨w1.heap.size, 6, none⟩ = some (Value.slice none 0 0) := B18.cell 6
  have fz20 := B18.free
  have ltr := A14.rs.lt
  have hMs : w1.heap.size + 1 ≤ w2.heap.size := by omega
  go_region_law (first
    | (go_simp; go_at_call 161; refine (he _ _ A14.drew.rs).mono ?_; intro e w3 H; rcases H.cases with ⟨t1, s3, v, hm, rfl, ⟨KA1, KC1, rfl, nd1⟩, R, K⟩ | ⟨l, s', ch, hm, rfl, H1⟩; rotate_left 1; exact ⟨rfl, A14.drew.out HQ7 hm H1⟩; have AR1 := A14.drew.call R K; have HQR1 := hq_ok HQ7 hm; have BRres1 : Box w3 (W.heap.size) 25 #[Value.int IntKind.i64 0, Value.string { data := #[] }, Value.string { data := #[] }, Value.int IntKind.u64 0, Value.int IntKind.i64 0, Value.int IntKind.i64 0, Value.slice none 0 0] := Box.kept (w := w2.drew) B17 K (by decide); have BRn1 : Box w3 (w1.heap.size) 25 #[Value.int IntKind.i64 16, Value.string { data := #[] }, Value.string { data := #[] }, Value.int IntKind.u64 0, Value.int IntKind.i64 0, Value.int IntKind.i64 a, Value.slice none 0 0] := Box.kept (w := w2.drew) B18 K (by decide); have q01 : ∀ o, (w3.alloc o).cell? ⟨w1.heap.size, 6, none⟩ = some (Value.slice none 0 0) := fun o => (BRn1.alloc o).cell 6; have q001 := BRn1.cell 6; have szR1 : w2.heap.size ≤ w3.heap.size := K.size; clear K R H hm)
    | (go_simp; go_at_call 157; refine (hb _ _ AR1.rs).mono ?_; intro e w4 H; rcases H.cases with ⟨t2, s4, v, hm, rfl, ⟨KA2, KC2, rfl, nd2⟩, R, K⟩ | ⟨l, s', ch, hm, rfl, H1⟩; rotate_left 1; exact ⟨rfl, AR1.out HQR1 hm H1⟩; have AR2 := AR1.call R K; have HQR2 := hq_ok HQR1 hm; have BRres2 : Box w4 (W.heap.size) 25 #[Value.int IntKind.i64 0, Value.string { data := #[] }, Value.string { data := #[] }, Value.int IntKind.u64 0, Value.int IntKind.i64 0, Value.int IntKind.i64 0, Value.slice none 0 0] := Box.kept (w := w3) BRres1 K (by decide); have BRn2 : Box w4 (w1.heap.size) 25 #[Value.int IntKind.i64 16, Value.string { data := #[] }, Value.string { data := #[] }, Value.int IntKind.u64 0, Value.int IntKind.i64 0, Value.int IntKind.i64 a, Value.slice none 0 0] := Box.kept (w := w3) BRn1 K (by decide); have q02 : ∀ o, (w4.alloc o).cell? ⟨w1.heap.size, 6, none⟩ = some (Value.slice none 0 0) := fun o => (BRn2.alloc o).cell 6; have q002 := BRn2.cell 6; have szR2 : w3.heap.size ≤ w4.heap.size := K.size; have nd1k2 := nodeAt_kept K nd1; clear K R H hm)
    | (refine step_append_lies _ rfl (.tmp 7) (.tmp 12) 23 rfl (w1.heap.size + 1) 25 i0 _ 7 88 Tryz.underlying23 hi hz0 hz1 hz2 rfl (by decide) (Value.slice none 0 0) 0 [] (by simp [Act.eval]) (World.ownsRow.alloc (World.ownsRow_nil _ _ _ _) _) ⟨w4.heap.size, 0, none⟩ 2 2 (nodeCells t1 (.slice KA1 (t1).kids.length KC1) ++ nodeCells t2 (.slice KA2 (t2).kids.length KC2)) (by simp [Act.eval]) rfl (by exact World.news_of_block (heap_alloc_new _ _)) (nodeCells_two _ _ _ _ _ _ _ _) (by decide) (by unfold maxLen; omega) (by omega) (by first | omega | (simp <;> omega)) _ rfl ?_; intro g cap wA o2 g2 p2 z2; have ap := appended AR2 (by omega) (World.ownsRow_nil _ _ _ _) (show rowAt _ _ [] [] from rfl) (rowAt_append [t1] [t2] _ _ (rowAt_fresh nd1k2 (by first | omega | (simp <;> omega)) no_own) (rowAt_fresh nd2 (by first | omega | (simp <;> omega)) no_own)) o2 g2 p2; have q1 : wA.cell? ⟨w1.heap.size, 6, none⟩ = some (Value.slice none 0 0) := (ap.box BRn2 (by omega)).cell 6; have q2 := (ap.box BRn2 (by omega)).free 6))
  all_goals
    have szA : w4.heap.size ≤ wA.heap.size := by have := g2.size; simp at this; omega
    clear q01 q001 q02 q002 q1 q2 o2 g2 p2
    have BSres := ap.box BRres2 (by omega)
    have BSn := ap.box BRn2 (by omega)
    have KS := ap.kids
    have AS := ap.at_
    have A21 := AS.set BSn hb10 6 (Value.slice (some { block := g, off := 0 }) (0 + 2) cap)
    have B22 := BSres.far (b' := w1.heap.size) (i := 6) (by omega) (Value.slice (some { block := g, off := 0 }) (0 + 2) cap)
    have B23 := BSn.set 6 (Value.slice (some { block := g, off := 0 }) (0 + 2) cap)
    have sz24 : (wA.setCell { block := w1.heap.size, off := 6 } (Value.slice (some { block := g, off := 0 }) (0 + 2) cap)).heap.size = wA.heap.size := by simp [World.setCell]
    have KF := Kids.far (b := w1.heap.size) (i := 6) (by omega) (Value.slice (some { block := g, off := 0 }) (0 + 2) cap) KS
    obtain ⟨w5, hy25⟩ : ∃ Y, (wA.setCell { block := w1.heap.size, off := 6 } (Value.slice (some { block := g, off := 0 }) (0 + 2) cap)) = Y := ⟨_, rfl⟩
    rw [hy25] at A21 sz24 B22 B23 KF ⊢
    clear hy25
    have B26 : Box w5 (W.heap.size) 25 #[Value.int IntKind.i64 0, Value.string { data := #[] }, Value.string { data := #[] }, Value.int IntKind.u64 0, Value.int IntKind.i64 0, Value.int IntKind.i64 0, Value.slice none 0 0] := B22
    have B27 : Box w5 (w1.heap.size) 25 #[Value.int IntKind.i64 16, Value.string { data := #[] }, Value.string { data := #[] }, Value.int IntKind.u64 0, Value.int IntKind.i64 0, Value.int IntKind.i64 a, Value.slice (some { block := g, off := 0 }) (0 + 2) cap] := B23
    have c28 : w5.cell? ⟨w1.heap.size, 0, none⟩ = some (Value.int IntKind.i64 16) := B27.cell 0
    have c29 : w5.cell? ⟨w1.heap.size, 1, none⟩ = some (Value.string { data := #[] }) := B27.cell 1
    have c30 : w5.cell? ⟨w1.heap.size, 2, none⟩ = some (Value.string { data := #[] }) := B27.cell 2
    have c31 : w5.cell? ⟨w1.heap.size, 3, none⟩ = some (Value.int IntKind.u64 0) := B27.cell 3
    have c32 : w5.cell? ⟨w1.heap.size, 4, none⟩ = some (Value.int IntKind.i64 0) := B27.cell 4
    have c33 : w5.cell? ⟨w1.heap.size, 5, none⟩ = some (Value.int IntKind.i64 a) := B27.cell 5
    have c34 : w5.cell? ⟨w1.heap.size, 6, none⟩ = some (Value.slice (some { block := g, off := 0 }) (0 + 2) cap) := B27.cell 6
    have fz35 := B27.free
    have c36 : w5.cell? ⟨W.heap.size, 0, none⟩ = some (Value.int IntKind.i64 0) := B26.cell 0
    have c37 : w5.cell? ⟨W.heap.size, 1, none⟩ = some (Value.string { data := #[] }) := B26.cell 1
    have c38 : w5.cell? ⟨W.heap.size, 2, none⟩ = some (Value.string { data := #[] }) := B26.cell 2
    have c39 : w5.cell? ⟨W.heap.size, 3, none⟩ = some (Value.int IntKind.u64 0) := B26.cell 3
    have c40 : w5.cell? ⟨W.heap.size, 4, none⟩ = some (Value.int IntKind.i64 0) := B26.cell 4
    have c41 : w5.cell? ⟨W.heap.size, 5, none⟩ = some (Value.int IntKind.i64 0) := B26.cell 5
    have c42 : w5.cell? ⟨W.heap.size, 6, none⟩ = some (Value.slice none 0 0) := B26.cell 6
    have fz43 := B26.free
    go_wp2
    refine bodyPost_ret (v := .agg #[Value.int IntKind.i64 16, Value.string { data := #[] }, Value.string { data := #[] }, Value.int IntKind.u64 0, Value.int IntKind.i64 0, Value.int IntKind.i64 a, Value.slice (some { block := g, off := 0 }) (0 + 2) cap]) ?_ rfl ?_
    · simp [results, Tryz.results109, go_sem, c36, c37, c38, c39, c40, c41, c42]
    · exact (A21.fill B26 (Nat.le_refl _) _ _ _ _ _ _ _).ok HQR2 ⟨_, _, rfl, nodeAt_le (M := w1.heap.size + 1) (by omega) (nodeAt_fill (M := w1.heap.size + 1) (by omega) _ _ _ _ _ _ _ (KF.node _ _ _ _ _ _))⟩

end Go.Proofs.YtmkehecapjdfdaaGreatDoor
