/- Joined texts: PDeepW2, PDeepW3. -/
import Derived.Test.YtgleakjalhkkhaaGreatDoorQD1

/- ParserDeep: the walk. -/
namespace Go.Proofs.YtgleakjalhkkhaaGreatDoor
open Go.RowKit

set_option maxRecDepth 100000 in
set_option maxHeartbeats 3200000 in
theorem deepw_2 (a b : Int) (k : Nat) (W : World) (hp : PV W) (ha : 0 ≤ a ∧ a < 256) (hb : 0 ≤ b ∧ b < 256) (hk : a.tmod 200 = (k : Int)) (hi : b.tmod 5 = 2) (R1 R3 : ByteArray) (hR1 : Hid (RepC ({ data := #[123, 32, 105, 102, 32, 108, 101, 110, 32] } : ByteArray) k R1)) (hR3 : Hid (RepC ({ data := #[125] } : ByteArray) k R3)) (z1 : R1.size ≤ 1800) (z3 : R3.size ≤ 1800)
    (zS : Hid (¬ (4000 < (({ data := #[112, 97, 114, 115, 101, 32] } : ByteArray) ++ R1 ++ ({ data := #[123, 125] } : ByteArray) ++ R3 ++ ({ data := #[] } : ByteArray)).size))) (hP : Hid (parseS (({ data := #[112, 97, 114, 115, 101, 32] } : ByteArray) ++ R1 ++ ({ data := #[123, 125] } : ByteArray) ++ R3 ++ ({ data := #[] } : ByteArray)).data.toList = (T.zero, [(11, 92)]))) (hlev : (10 : Int) ≤ k) :
    Calls Tryz.prog 9 #[.int .u8 a, .int .u8 b] W fun e w' => e = .returned (.bool true) ∧ Below W.heap.size W w' := by
  go_enter Tryz.func9, Tryz.ntmps9
  go_wp2_with fail
  refine (head_one _ hp).mono ?_
  rintro e w1 ⟨rfl, B1⟩
  go_upto_region 9 with fail
  have c0 : (((w1.alloc (Obj.cells dArr 64)).alloc (Obj.cells dRow2 64))).cell? ⟨w1.heap.size + 1, 0, none⟩ = some (.string ({ data := #[112, 97, 114, 115, 101, 32] } : ByteArray)) := (Box.newAt (X := w1.alloc (Obj.cells dArr 64)) (n := w1.heap.size + 1) (by simp) 64 dRow2).cell 0
  have c1 : (((w1.alloc (Obj.cells dArr 64)).alloc (Obj.cells dRow2 64))).cell? ⟨w1.heap.size + 1, 1, none⟩ = some (.string ({ data := #[123, 32, 105, 102, 32, 108, 101, 110, 32] } : ByteArray)) := (Box.newAt (X := w1.alloc (Obj.cells dArr 64)) (n := w1.heap.size + 1) (by simp) 64 dRow2).cell 1
  have c2 : (((w1.alloc (Obj.cells dArr 64)).alloc (Obj.cells dRow2 64))).cell? ⟨w1.heap.size + 1, 2, none⟩ = some (.string ({ data := #[123, 125] } : ByteArray)) := (Box.newAt (X := w1.alloc (Obj.cells dArr 64)) (n := w1.heap.size + 1) (by simp) 64 dRow2).cell 2
  have c3 : (((w1.alloc (Obj.cells dArr 64)).alloc (Obj.cells dRow2 64))).cell? ⟨w1.heap.size + 1, 3, none⟩ = some (.string ({ data := #[125] } : ByteArray)) := (Box.newAt (X := w1.alloc (Obj.cells dArr 64)) (n := w1.heap.size + 1) (by simp) 64 dRow2).cell 3
  have hBX : Below W.heap.size W ((w1.alloc (Obj.cells dArr 64)).alloc (Obj.cells dRow2 64)) := (B1.alloc B1.size _).alloc (by have := B1.size; simp; omega) _
  obtain ⟨X, hy⟩ : ∃ Y, ((w1.alloc (Obj.cells dArr 64)).alloc (Obj.cells dRow2 64)) = Y := ⟨_, rfl⟩
  rw [hy] at c0 c1 c2 c3 hBX ⊢
  clear hy
  have S0 : X.cell? ⟨w1.heap.size + 1, 0, none⟩ = some (.string ({ data := #[112, 97, 114, 115, 101, 32] } : ByteArray)) ∧ X.cell? ⟨w1.heap.size + 1, 1, none⟩ = some (.string ({ data := #[123, 32, 105, 102, 32, 108, 101, 110, 32] } : ByteArray)) ∧ X.cell? ⟨w1.heap.size + 1, 2, none⟩ = some (.string ({ data := #[123, 125] } : ByteArray)) ∧ X.cell? ⟨w1.heap.size + 1, 3, none⟩ = some (.string ({ data := #[125] } : ByteArray)) ∧ Below X.heap.size X X := ⟨c0, c1, c2, c3, Below.refl _ _⟩
  have q1 : (({ data := #[112, 97, 114, 115, 101, 32] } : ByteArray) ++ R1).size ≤ 9223372036854775807 := by simp only [ByteArray.size_append]; have : ({ data := #[112, 97, 114, 115, 101, 32] } : ByteArray).size = 6 := rfl; omega
  have q2 : (({ data := #[112, 97, 114, 115, 101, 32] } : ByteArray) ++ R1 ++ ({ data := #[123, 125] } : ByteArray)).size ≤ 9223372036854775807 := by simp only [ByteArray.size_append]; have : ({ data := #[112, 97, 114, 115, 101, 32] } : ByteArray).size = 6 := rfl; have : ({ data := #[123, 125] } : ByteArray).size = 2 := rfl; omega
  have q3 : (({ data := #[112, 97, 114, 115, 101, 32] } : ByteArray) ++ R1 ++ ({ data := #[123, 125] } : ByteArray) ++ R3).size ≤ 9223372036854775807 := by simp only [ByteArray.size_append]; have : ({ data := #[112, 97, 114, 115, 101, 32] } : ByteArray).size = 6 := rfl; have : ({ data := #[123, 125] } : ByteArray).size = 2 := rfl; omega
  have q4 : (({ data := #[112, 97, 114, 115, 101, 32] } : ByteArray) ++ R1 ++ ({ data := #[123, 125] } : ByteArray) ++ R3 ++ ({ data := #[] } : ByteArray)).size ≤ 9223372036854775807 := by simp only [ByteArray.size_append]; have : ({ data := #[112, 97, 114, 115, 101, 32] } : ByteArray).size = 6 := rfl; have : ({ data := #[123, 125] } : ByteArray).size = 2 := rfl; have : ({ data := #[] } : ByteArray).size = 0 := rfl; omega
  have p1 : ¬ 9223372036854775807 < 6 + R1.size := by omega
  have p2 : ¬ 9223372036854775807 < 6 + R1.size + 2 := by omega
  have p3 : ¬ 9223372036854775807 < 6 + R1.size + 2 + R3.size := by omega
  skip
  clear c0 c1 c2 c3 hi hk ha hb z1 z3 q1 q2 q3 q4
  go_region_held3 (fun w' => w'.cell? ⟨w1.heap.size + 1, 0, none⟩ = some (.string ({ data := #[112, 97, 114, 115, 101, 32] } : ByteArray)) ∧ w'.cell? ⟨w1.heap.size + 1, 1, none⟩ = some (.string ({ data := #[123, 32, 105, 102, 32, 108, 101, 110, 32] } : ByteArray)) ∧ w'.cell? ⟨w1.heap.size + 1, 2, none⟩ = some (.string ({ data := #[123, 125] } : ByteArray)) ∧ w'.cell? ⟨w1.heap.size + 1, 3, none⟩ = some (.string ({ data := #[125] } : ByteArray)) ∧ Below X.heap.size X w') (with_reducible (first | assumption | exact ddrew ‹_› | exact ddrew (ddrew ‹_›)))
    ((go_at_call 28; (first | ((with_reducible refine (repUse hR1 _).mono ?_); rintro e w3 ⟨rfl, hb3⟩; have L3 := dkeep hb3 ‹_›) | ((with_reducible refine (repUse hR3 _).mono ?_); rintro e w4 ⟨rfl, hb4⟩; have L4 := dkeep hb4 ‹_›))))
  obtain ⟨c0, c1, c2, c3, hBL⟩ := L4
  clear L3 hb3 hb4 S0 p1 p2 p3
  obtain ⟨S, hS⟩ : ∃ S, (({ data := #[112, 97, 114, 115, 101, 32] } : ByteArray) ++ R1 ++ ({ data := #[123, 125] } : ByteArray) ++ R3 ++ ({ data := #[] } : ByteArray)) = S := ⟨_, rfl⟩
  rw [hS] at hP ⊢
  have zS' := zS.out
  rw [hS] at zS'
  clear zS hS
  have hBW : Below W.heap.size W w4 := hBX.trans (hBL.mono hBX.size)
  clear hBL hBX B1
  go_wp2_with fail
  refine (parse_at S _ (by omega) (hp.later hBW).1 (hp.later hBW).2.1).mono ?_
  rintro e u1 ⟨A7, c7, d7, hx, nd, drow, nb⟩
  rw [hP.out] at hx drow
  obtain rfl : e = .returned (.tuple #[.agg #[Value.int IntKind.i64 0, Value.string { data := #[] }, Value.string { data := #[] }, Value.int IntKind.u64 0, Value.int IntKind.i64 0, Value.int IntKind.i64 0, Value.slice A7 0 c7], d7]) := hx
  replace drow : u1.ownsRow w4.heap.size DT 2 d7 1 (dgV [(11, 92)]) := drow
  obtain ⟨DB, DD, rfl⟩ := ownsRow_form drow
  have hBu1 := hBW.trans (nb.mono hBW.size)
  have D1 : Dg u1 (.slice DB 1 DD) [(11, 92)] := ⟨_, drow⟩
  have nb2 : Below u1.heap.size u1 (u1.alloc (Obj.cells #[Value.int IntKind.i64 0, Value.string { data := #[] }, Value.string { data := #[] }, Value.int IntKind.u64 0, Value.int IntKind.i64 0, Value.int IntKind.i64 0, Value.slice A7 0 c7] 25)) := (Below.refl _ _).alloc (Nat.le_refl _) _
  replace D1 := D1.later nb2
  have hBu2 : Below W.heap.size W (u1.alloc (Obj.cells #[Value.int IntKind.i64 0, Value.string { data := #[] }, Value.string { data := #[] }, Value.int IntKind.u64 0, Value.int IntKind.i64 0, Value.int IntKind.i64 0, Value.slice A7 0 c7] 25)) := hBu1.trans (nb2.mono hBu1.size)
  have k0 := cell_later nb2 (cell_later nb c0)
  have k1 := cell_later nb2 (cell_later nb c1)
  clear c0 c1 c2 c3 nb hBu1 hBW drow
  go_upto_region 13 with fail
  obtain ⟨u2, hy⟩ : ∃ Y, u1.alloc (Obj.cells #[Value.int IntKind.i64 0, Value.string { data := #[] }, Value.string { data := #[] }, Value.int IntKind.u64 0, Value.int IntKind.i64 0, Value.int IntKind.i64 0, Value.slice A7 0 c7] 25) = Y := ⟨_, rfl⟩
  rw [hy] at D1 hBu2 k0 k1 ⊢
  clear hy nb2 nd hP
  obtain ⟨g, hDB, hDD, d0, d1⟩ := D1.at_ 0 (by decide)
  subst hDB
  replace d0 : u2.cell? ⟨g, 0, none⟩ = some (.int .i64 11) := d0
  replace d1 : u2.cell? ⟨g, 1, none⟩ = some (.int .i64 92) := d1
  clear D1 hDD
  go_wp2
  go_ret
  exact ⟨rfl, hBu2⟩
set_option maxRecDepth 100000 in
set_option maxHeartbeats 3200000 in
theorem deepv_2 (a b : Int) (k : Nat) (W : World) (hp : PV W) (ha : 0 ≤ a ∧ a < 256) (hb : 0 ≤ b ∧ b < 256) (hk : a.tmod 200 = (k : Int)) (hi : b.tmod 5 = 2) (R1 R3 : ByteArray) (hR1 : Hid (RepC ({ data := #[123, 32, 105, 102, 32, 108, 101, 110, 32] } : ByteArray) k R1)) (hR3 : Hid (RepC ({ data := #[125] } : ByteArray) k R3)) (z1 : R1.size ≤ 1800) (z3 : R3.size ≤ 1800)
    (zS : Hid (¬ (4000 < (({ data := #[112, 97, 114, 115, 101, 32] } : ByteArray) ++ R1 ++ ({ data := #[123, 125] } : ByteArray) ++ R3 ++ ({ data := #[] } : ByteArray)).size))) (t : T) (hP : Hid (parseS (({ data := #[112, 97, 114, 115, 101, 32] } : ByteArray) ++ R1 ++ ({ data := #[123, 125] } : ByteArray) ++ R3 ++ ({ data := #[] } : ByteArray)).data.toList = (t, []))) (hv : validT t.toG = true) (hok : okG t.toG) (hlev : ¬ (10 : Int) ≤ k) :
    Calls Tryz.prog 9 #[.int .u8 a, .int .u8 b] W fun e w' => e = .returned (.bool true) ∧ Below W.heap.size W w' := by
  go_enter Tryz.func9, Tryz.ntmps9
  go_wp2_with fail
  refine (head_one _ hp).mono ?_
  rintro e w1 ⟨rfl, B1⟩
  go_upto_region 9 with fail
  have c0 : (((w1.alloc (Obj.cells dArr 64)).alloc (Obj.cells dRow2 64))).cell? ⟨w1.heap.size + 1, 0, none⟩ = some (.string ({ data := #[112, 97, 114, 115, 101, 32] } : ByteArray)) := (Box.newAt (X := w1.alloc (Obj.cells dArr 64)) (n := w1.heap.size + 1) (by simp) 64 dRow2).cell 0
  have c1 : (((w1.alloc (Obj.cells dArr 64)).alloc (Obj.cells dRow2 64))).cell? ⟨w1.heap.size + 1, 1, none⟩ = some (.string ({ data := #[123, 32, 105, 102, 32, 108, 101, 110, 32] } : ByteArray)) := (Box.newAt (X := w1.alloc (Obj.cells dArr 64)) (n := w1.heap.size + 1) (by simp) 64 dRow2).cell 1
  have c2 : (((w1.alloc (Obj.cells dArr 64)).alloc (Obj.cells dRow2 64))).cell? ⟨w1.heap.size + 1, 2, none⟩ = some (.string ({ data := #[123, 125] } : ByteArray)) := (Box.newAt (X := w1.alloc (Obj.cells dArr 64)) (n := w1.heap.size + 1) (by simp) 64 dRow2).cell 2
  have c3 : (((w1.alloc (Obj.cells dArr 64)).alloc (Obj.cells dRow2 64))).cell? ⟨w1.heap.size + 1, 3, none⟩ = some (.string ({ data := #[125] } : ByteArray)) := (Box.newAt (X := w1.alloc (Obj.cells dArr 64)) (n := w1.heap.size + 1) (by simp) 64 dRow2).cell 3
  have hBX : Below W.heap.size W ((w1.alloc (Obj.cells dArr 64)).alloc (Obj.cells dRow2 64)) := (B1.alloc B1.size _).alloc (by have := B1.size; simp; omega) _
  obtain ⟨X, hy⟩ : ∃ Y, ((w1.alloc (Obj.cells dArr 64)).alloc (Obj.cells dRow2 64)) = Y := ⟨_, rfl⟩
  rw [hy] at c0 c1 c2 c3 hBX ⊢
  clear hy
  have S0 : X.cell? ⟨w1.heap.size + 1, 0, none⟩ = some (.string ({ data := #[112, 97, 114, 115, 101, 32] } : ByteArray)) ∧ X.cell? ⟨w1.heap.size + 1, 1, none⟩ = some (.string ({ data := #[123, 32, 105, 102, 32, 108, 101, 110, 32] } : ByteArray)) ∧ X.cell? ⟨w1.heap.size + 1, 2, none⟩ = some (.string ({ data := #[123, 125] } : ByteArray)) ∧ X.cell? ⟨w1.heap.size + 1, 3, none⟩ = some (.string ({ data := #[125] } : ByteArray)) ∧ Below X.heap.size X X := ⟨c0, c1, c2, c3, Below.refl _ _⟩
  have q1 : (({ data := #[112, 97, 114, 115, 101, 32] } : ByteArray) ++ R1).size ≤ 9223372036854775807 := by simp only [ByteArray.size_append]; have : ({ data := #[112, 97, 114, 115, 101, 32] } : ByteArray).size = 6 := rfl; omega
  have q2 : (({ data := #[112, 97, 114, 115, 101, 32] } : ByteArray) ++ R1 ++ ({ data := #[123, 125] } : ByteArray)).size ≤ 9223372036854775807 := by simp only [ByteArray.size_append]; have : ({ data := #[112, 97, 114, 115, 101, 32] } : ByteArray).size = 6 := rfl; have : ({ data := #[123, 125] } : ByteArray).size = 2 := rfl; omega
  have q3 : (({ data := #[112, 97, 114, 115, 101, 32] } : ByteArray) ++ R1 ++ ({ data := #[123, 125] } : ByteArray) ++ R3).size ≤ 9223372036854775807 := by simp only [ByteArray.size_append]; have : ({ data := #[112, 97, 114, 115, 101, 32] } : ByteArray).size = 6 := rfl; have : ({ data := #[123, 125] } : ByteArray).size = 2 := rfl; omega
  have q4 : (({ data := #[112, 97, 114, 115, 101, 32] } : ByteArray) ++ R1 ++ ({ data := #[123, 125] } : ByteArray) ++ R3 ++ ({ data := #[] } : ByteArray)).size ≤ 9223372036854775807 := by simp only [ByteArray.size_append]; have : ({ data := #[112, 97, 114, 115, 101, 32] } : ByteArray).size = 6 := rfl; have : ({ data := #[123, 125] } : ByteArray).size = 2 := rfl; have : ({ data := #[] } : ByteArray).size = 0 := rfl; omega
  have p1 : ¬ 9223372036854775807 < 6 + R1.size := by omega
  have p2 : ¬ 9223372036854775807 < 6 + R1.size + 2 := by omega
  have p3 : ¬ 9223372036854775807 < 6 + R1.size + 2 + R3.size := by omega
  skip
  clear c0 c1 c2 c3 hi hk ha hb z1 z3 q1 q2 q3 q4
  go_region_held3 (fun w' => w'.cell? ⟨w1.heap.size + 1, 0, none⟩ = some (.string ({ data := #[112, 97, 114, 115, 101, 32] } : ByteArray)) ∧ w'.cell? ⟨w1.heap.size + 1, 1, none⟩ = some (.string ({ data := #[123, 32, 105, 102, 32, 108, 101, 110, 32] } : ByteArray)) ∧ w'.cell? ⟨w1.heap.size + 1, 2, none⟩ = some (.string ({ data := #[123, 125] } : ByteArray)) ∧ w'.cell? ⟨w1.heap.size + 1, 3, none⟩ = some (.string ({ data := #[125] } : ByteArray)) ∧ Below X.heap.size X w') (with_reducible (first | assumption | exact ddrew ‹_› | exact ddrew (ddrew ‹_›)))
    ((go_at_call 28; (first | ((with_reducible refine (repUse hR1 _).mono ?_); rintro e w3 ⟨rfl, hb3⟩; have L3 := dkeep hb3 ‹_›) | ((with_reducible refine (repUse hR3 _).mono ?_); rintro e w4 ⟨rfl, hb4⟩; have L4 := dkeep hb4 ‹_›))))
  obtain ⟨c0, c1, c2, c3, hBL⟩ := L4
  clear L3 hb3 hb4 S0 p1 p2 p3
  obtain ⟨S, hS⟩ : ∃ S, (({ data := #[112, 97, 114, 115, 101, 32] } : ByteArray) ++ R1 ++ ({ data := #[123, 125] } : ByteArray) ++ R3 ++ ({ data := #[] } : ByteArray)) = S := ⟨_, rfl⟩
  rw [hS] at hP ⊢
  have zS' := zS.out
  rw [hS] at zS'
  clear zS hS
  have hBW : Below W.heap.size W w4 := hBX.trans (hBL.mono hBX.size)
  clear hBL hBX B1
  go_wp2_with fail
  refine (parse_at S _ (by omega) (hp.later hBW).1 (hp.later hBW).2.1).mono ?_
  rintro e u1 ⟨A7, c7, d7, hx, nd, drow, nb⟩
  rw [hP.out] at hx drow nd
  obtain ⟨G, hG⟩ : ∃ G, t.toG = G := ⟨_, rfl⟩
  obtain ⟨kv, hkv⟩ : ∃ kv, Value.slice A7 t.kids.length c7 = kv := ⟨_, rfl⟩
  have hgt := gAt_node _ _ nd
  obtain rfl : e = .returned (.tuple #[.agg #[Value.int IntKind.i64 t.toG.kind, Value.string t.toG.name, Value.string t.toG.part, Value.int IntKind.u64 t.toG.num, Value.int IntKind.i64 t.toG.wid, Value.int IntKind.i64 t.toG.at_, Value.slice A7 t.toG.kids.length c7], d7]) := by rw [hx, toG_agg]
  replace drow : u1.ownsRow w4.heap.size DT 2 d7 0 [] := drow
  obtain ⟨DB, DD, rfl⟩ := ownsRow_form drow
  have hBu1 := hBW.trans (nb.mono hBW.size)
  have D1 : Dg u1 (.slice DB 0 DD) [] := ⟨_, drow⟩
  replace hgt : gAt u1 t.toG (.slice A7 t.toG.kids.length c7) := by rw [toG_kn]; exact hgt
  rw [hG] at hgt hv hok ⊢
  clear hG hkv hx nd hP
  have nb2 : Below u1.heap.size u1 (u1.alloc (Obj.cells #[Value.int IntKind.i64 G.kind, Value.string G.name, Value.string G.part, Value.int IntKind.u64 G.num, Value.int IntKind.i64 G.wid, Value.int IntKind.i64 G.at_, Value.slice A7 G.kids.length c7] 25)) := (Below.refl _ _).alloc (Nat.le_refl _) _
  replace D1 := D1.later nb2
  have hBu2 : Below W.heap.size W (u1.alloc (Obj.cells #[Value.int IntKind.i64 G.kind, Value.string G.name, Value.string G.part, Value.int IntKind.u64 G.num, Value.int IntKind.i64 G.wid, Value.int IntKind.i64 G.at_, Value.slice A7 G.kids.length c7] 25)) := hBu1.trans (nb2.mono hBu1.size)
  have k0 := cell_later nb2 (cell_later nb c0)
  have k1 := cell_later nb2 (cell_later nb c1)
  clear c0 c1 c2 c3 nb hBu1 hBW drow
  go_upto_region 13 with fail
  replace hgt := gAt_later nb2 _ _ hgt
  have n0 := Box.new u1 25 #[Value.int IntKind.i64 G.kind, Value.string G.name, Value.string G.part, Value.int IntKind.u64 G.num, Value.int IntKind.i64 G.wid, Value.int IntKind.i64 G.at_, Value.slice A7 G.kids.length c7]
  obtain ⟨u2, hy⟩ : ∃ Y, u1.alloc (Obj.cells #[Value.int IntKind.i64 G.kind, Value.string G.name, Value.string G.part, Value.int IntKind.u64 G.num, Value.int IntKind.i64 G.wid, Value.int IntKind.i64 G.at_, Value.slice A7 G.kids.length c7] 25) = Y := ⟨_, rfl⟩
  rw [hy] at D1 hBu2 k0 k1 hgt n0 ⊢
  clear hy nb2
  have m0 := n0.cell 0
  have m1 := n0.cell 1
  have m2 := n0.cell 2
  have m3 := n0.cell 3
  have m4 := n0.cell 4
  have m5 := n0.cell 5
  have m6 := n0.cell 6
  have hva := Lib.hid (Valid_any G hok u2 A7 c7 hgt (hp.later hBu2))
  rw [hv] at hva
  clear n0 D1 hgt hv hok
  go_wp2_with fail
  refine hva.out.mono ?_
  rintro e u3 ⟨rfl, nb3⟩
  go_wp2
  go_ret
  exact ⟨rfl, hBu2.trans (nb3.mono hBu2.size)⟩
end Go.Proofs.YtgleakjalhkkhaaGreatDoor

/- ParserDeep: the walk. -/
namespace Go.Proofs.YtgleakjalhkkhaaGreatDoor
open Go.RowKit

set_option maxRecDepth 100000 in
set_option maxHeartbeats 3200000 in
theorem deepw_3 (a b : Int) (k : Nat) (W : World) (hp : PV W) (ha : 0 ≤ a ∧ a < 256) (hb : 0 ≤ b ∧ b < 256) (hk : a.tmod 200 = (k : Int)) (hi : b.tmod 5 = 3) (R1 R3 : ByteArray) (hR1 : Hid (RepC ({ data := #[117, 56, 40] } : ByteArray) k R1)) (hR3 : Hid (RepC ({ data := #[41] } : ByteArray) k R3)) (z1 : R1.size ≤ 1800) (z3 : R3.size ≤ 1800)
    (zS : Hid (¬ (4000 < (({ data := #[112, 97, 114, 115, 101, 32, 123, 32, 108, 101, 116, 32, 97, 32, 61, 32] } : ByteArray) ++ R1 ++ ({ data := #[108, 101, 110] } : ByteArray) ++ R3 ++ ({ data := #[59, 32, 125] } : ByteArray)).size))) (hP : Hid (parseS (({ data := #[112, 97, 114, 115, 101, 32, 123, 32, 108, 101, 116, 32, 97, 32, 61, 32] } : ByteArray) ++ R1 ++ ({ data := #[108, 101, 110] } : ByteArray) ++ R3 ++ ({ data := #[59, 32, 125] } : ByteArray)).data.toList = (T.zero, [(11, 43)]))) (hlev : (9 : Int) ≤ k) :
    Calls Tryz.prog 9 #[.int .u8 a, .int .u8 b] W fun e w' => e = .returned (.bool true) ∧ Below W.heap.size W w' := by
  go_enter Tryz.func9, Tryz.ntmps9
  go_wp2_with fail
  refine (head_one _ hp).mono ?_
  rintro e w1 ⟨rfl, B1⟩
  go_upto_region 9 with fail
  have c0 : (((w1.alloc (Obj.cells dArr 64)).alloc (Obj.cells dRow3 64))).cell? ⟨w1.heap.size + 1, 0, none⟩ = some (.string ({ data := #[112, 97, 114, 115, 101, 32, 123, 32, 108, 101, 116, 32, 97, 32, 61, 32] } : ByteArray)) := (Box.newAt (X := w1.alloc (Obj.cells dArr 64)) (n := w1.heap.size + 1) (by simp) 64 dRow3).cell 0
  have c1 : (((w1.alloc (Obj.cells dArr 64)).alloc (Obj.cells dRow3 64))).cell? ⟨w1.heap.size + 1, 1, none⟩ = some (.string ({ data := #[117, 56, 40] } : ByteArray)) := (Box.newAt (X := w1.alloc (Obj.cells dArr 64)) (n := w1.heap.size + 1) (by simp) 64 dRow3).cell 1
  have c2 : (((w1.alloc (Obj.cells dArr 64)).alloc (Obj.cells dRow3 64))).cell? ⟨w1.heap.size + 1, 2, none⟩ = some (.string ({ data := #[108, 101, 110] } : ByteArray)) := (Box.newAt (X := w1.alloc (Obj.cells dArr 64)) (n := w1.heap.size + 1) (by simp) 64 dRow3).cell 2
  have c3 : (((w1.alloc (Obj.cells dArr 64)).alloc (Obj.cells dRow3 64))).cell? ⟨w1.heap.size + 1, 3, none⟩ = some (.string ({ data := #[41] } : ByteArray)) := (Box.newAt (X := w1.alloc (Obj.cells dArr 64)) (n := w1.heap.size + 1) (by simp) 64 dRow3).cell 3
  have hBX : Below W.heap.size W ((w1.alloc (Obj.cells dArr 64)).alloc (Obj.cells dRow3 64)) := (B1.alloc B1.size _).alloc (by have := B1.size; simp; omega) _
  obtain ⟨X, hy⟩ : ∃ Y, ((w1.alloc (Obj.cells dArr 64)).alloc (Obj.cells dRow3 64)) = Y := ⟨_, rfl⟩
  rw [hy] at c0 c1 c2 c3 hBX ⊢
  clear hy
  have S0 : X.cell? ⟨w1.heap.size + 1, 0, none⟩ = some (.string ({ data := #[112, 97, 114, 115, 101, 32, 123, 32, 108, 101, 116, 32, 97, 32, 61, 32] } : ByteArray)) ∧ X.cell? ⟨w1.heap.size + 1, 1, none⟩ = some (.string ({ data := #[117, 56, 40] } : ByteArray)) ∧ X.cell? ⟨w1.heap.size + 1, 2, none⟩ = some (.string ({ data := #[108, 101, 110] } : ByteArray)) ∧ X.cell? ⟨w1.heap.size + 1, 3, none⟩ = some (.string ({ data := #[41] } : ByteArray)) ∧ Below X.heap.size X X := ⟨c0, c1, c2, c3, Below.refl _ _⟩
  have q1 : (({ data := #[112, 97, 114, 115, 101, 32, 123, 32, 108, 101, 116, 32, 97, 32, 61, 32] } : ByteArray) ++ R1).size ≤ 9223372036854775807 := by simp only [ByteArray.size_append]; have : ({ data := #[112, 97, 114, 115, 101, 32, 123, 32, 108, 101, 116, 32, 97, 32, 61, 32] } : ByteArray).size = 16 := rfl; omega
  have q2 : (({ data := #[112, 97, 114, 115, 101, 32, 123, 32, 108, 101, 116, 32, 97, 32, 61, 32] } : ByteArray) ++ R1 ++ ({ data := #[108, 101, 110] } : ByteArray)).size ≤ 9223372036854775807 := by simp only [ByteArray.size_append]; have : ({ data := #[112, 97, 114, 115, 101, 32, 123, 32, 108, 101, 116, 32, 97, 32, 61, 32] } : ByteArray).size = 16 := rfl; have : ({ data := #[108, 101, 110] } : ByteArray).size = 3 := rfl; omega
  have q3 : (({ data := #[112, 97, 114, 115, 101, 32, 123, 32, 108, 101, 116, 32, 97, 32, 61, 32] } : ByteArray) ++ R1 ++ ({ data := #[108, 101, 110] } : ByteArray) ++ R3).size ≤ 9223372036854775807 := by simp only [ByteArray.size_append]; have : ({ data := #[112, 97, 114, 115, 101, 32, 123, 32, 108, 101, 116, 32, 97, 32, 61, 32] } : ByteArray).size = 16 := rfl; have : ({ data := #[108, 101, 110] } : ByteArray).size = 3 := rfl; omega
  have q4 : (({ data := #[112, 97, 114, 115, 101, 32, 123, 32, 108, 101, 116, 32, 97, 32, 61, 32] } : ByteArray) ++ R1 ++ ({ data := #[108, 101, 110] } : ByteArray) ++ R3 ++ ({ data := #[59, 32, 125] } : ByteArray)).size ≤ 9223372036854775807 := by simp only [ByteArray.size_append]; have : ({ data := #[112, 97, 114, 115, 101, 32, 123, 32, 108, 101, 116, 32, 97, 32, 61, 32] } : ByteArray).size = 16 := rfl; have : ({ data := #[108, 101, 110] } : ByteArray).size = 3 := rfl; have : ({ data := #[59, 32, 125] } : ByteArray).size = 3 := rfl; omega
  have p1 : ¬ 9223372036854775807 < 16 + R1.size := by omega
  have p2 : ¬ 9223372036854775807 < 16 + R1.size + 3 := by omega
  have p3 : ¬ 9223372036854775807 < 16 + R1.size + 3 + R3.size := by omega
  have p4 : ¬ 9223372036854775807 < 16 + R1.size + 3 + R3.size + 3 := by omega
  clear c0 c1 c2 c3 hi hk ha hb z1 z3 q1 q2 q3 q4
  go_region_held3 (fun w' => w'.cell? ⟨w1.heap.size + 1, 0, none⟩ = some (.string ({ data := #[112, 97, 114, 115, 101, 32, 123, 32, 108, 101, 116, 32, 97, 32, 61, 32] } : ByteArray)) ∧ w'.cell? ⟨w1.heap.size + 1, 1, none⟩ = some (.string ({ data := #[117, 56, 40] } : ByteArray)) ∧ w'.cell? ⟨w1.heap.size + 1, 2, none⟩ = some (.string ({ data := #[108, 101, 110] } : ByteArray)) ∧ w'.cell? ⟨w1.heap.size + 1, 3, none⟩ = some (.string ({ data := #[41] } : ByteArray)) ∧ Below X.heap.size X w') (with_reducible (first | assumption | exact ddrew ‹_› | exact ddrew (ddrew ‹_›)))
    ((go_at_call 28; (first | ((with_reducible refine (repUse hR1 _).mono ?_); rintro e w3 ⟨rfl, hb3⟩; have L3 := dkeep hb3 ‹_›) | ((with_reducible refine (repUse hR3 _).mono ?_); rintro e w4 ⟨rfl, hb4⟩; have L4 := dkeep hb4 ‹_›))))
  obtain ⟨c0, c1, c2, c3, hBL⟩ := L4
  clear L3 hb3 hb4 S0 p1 p2 p3 p4
  obtain ⟨S, hS⟩ : ∃ S, (({ data := #[112, 97, 114, 115, 101, 32, 123, 32, 108, 101, 116, 32, 97, 32, 61, 32] } : ByteArray) ++ R1 ++ ({ data := #[108, 101, 110] } : ByteArray) ++ R3 ++ ({ data := #[59, 32, 125] } : ByteArray)) = S := ⟨_, rfl⟩
  rw [hS] at hP ⊢
  have zS' := zS.out
  rw [hS] at zS'
  clear zS hS
  have hBW : Below W.heap.size W w4 := hBX.trans (hBL.mono hBX.size)
  clear hBL hBX B1
  go_wp2_with fail
  refine (parse_at S _ (by omega) (hp.later hBW).1 (hp.later hBW).2.1).mono ?_
  rintro e u1 ⟨A7, c7, d7, hx, nd, drow, nb⟩
  rw [hP.out] at hx drow
  obtain rfl : e = .returned (.tuple #[.agg #[Value.int IntKind.i64 0, Value.string { data := #[] }, Value.string { data := #[] }, Value.int IntKind.u64 0, Value.int IntKind.i64 0, Value.int IntKind.i64 0, Value.slice A7 0 c7], d7]) := hx
  replace drow : u1.ownsRow w4.heap.size DT 2 d7 1 (dgV [(11, 43)]) := drow
  obtain ⟨DB, DD, rfl⟩ := ownsRow_form drow
  have hBu1 := hBW.trans (nb.mono hBW.size)
  have D1 : Dg u1 (.slice DB 1 DD) [(11, 43)] := ⟨_, drow⟩
  have nb2 : Below u1.heap.size u1 (u1.alloc (Obj.cells #[Value.int IntKind.i64 0, Value.string { data := #[] }, Value.string { data := #[] }, Value.int IntKind.u64 0, Value.int IntKind.i64 0, Value.int IntKind.i64 0, Value.slice A7 0 c7] 25)) := (Below.refl _ _).alloc (Nat.le_refl _) _
  replace D1 := D1.later nb2
  have hBu2 : Below W.heap.size W (u1.alloc (Obj.cells #[Value.int IntKind.i64 0, Value.string { data := #[] }, Value.string { data := #[] }, Value.int IntKind.u64 0, Value.int IntKind.i64 0, Value.int IntKind.i64 0, Value.slice A7 0 c7] 25)) := hBu1.trans (nb2.mono hBu1.size)
  have k0 := cell_later nb2 (cell_later nb c0)
  have k1 := cell_later nb2 (cell_later nb c1)
  clear c0 c1 c2 c3 nb hBu1 hBW drow
  go_upto_region 13 with fail
  obtain ⟨u2, hy⟩ : ∃ Y, u1.alloc (Obj.cells #[Value.int IntKind.i64 0, Value.string { data := #[] }, Value.string { data := #[] }, Value.int IntKind.u64 0, Value.int IntKind.i64 0, Value.int IntKind.i64 0, Value.slice A7 0 c7] 25) = Y := ⟨_, rfl⟩
  rw [hy] at D1 hBu2 k0 k1 ⊢
  clear hy nb2 nd hP
  obtain ⟨g, hDB, hDD, d0, d1⟩ := D1.at_ 0 (by decide)
  subst hDB
  replace d0 : u2.cell? ⟨g, 0, none⟩ = some (.int .i64 11) := d0
  replace d1 : u2.cell? ⟨g, 1, none⟩ = some (.int .i64 43) := d1
  clear D1 hDD
  go_wp2
  go_ret
  exact ⟨rfl, hBu2⟩
set_option maxRecDepth 100000 in
set_option maxHeartbeats 3200000 in
theorem deepv_3 (a b : Int) (k : Nat) (W : World) (hp : PV W) (ha : 0 ≤ a ∧ a < 256) (hb : 0 ≤ b ∧ b < 256) (hk : a.tmod 200 = (k : Int)) (hi : b.tmod 5 = 3) (R1 R3 : ByteArray) (hR1 : Hid (RepC ({ data := #[117, 56, 40] } : ByteArray) k R1)) (hR3 : Hid (RepC ({ data := #[41] } : ByteArray) k R3)) (z1 : R1.size ≤ 1800) (z3 : R3.size ≤ 1800)
    (zS : Hid (¬ (4000 < (({ data := #[112, 97, 114, 115, 101, 32, 123, 32, 108, 101, 116, 32, 97, 32, 61, 32] } : ByteArray) ++ R1 ++ ({ data := #[108, 101, 110] } : ByteArray) ++ R3 ++ ({ data := #[59, 32, 125] } : ByteArray)).size))) (t : T) (hP : Hid (parseS (({ data := #[112, 97, 114, 115, 101, 32, 123, 32, 108, 101, 116, 32, 97, 32, 61, 32] } : ByteArray) ++ R1 ++ ({ data := #[108, 101, 110] } : ByteArray) ++ R3 ++ ({ data := #[59, 32, 125] } : ByteArray)).data.toList = (t, []))) (hv : validT t.toG = true) (hok : okG t.toG) (hlev : ¬ (9 : Int) ≤ k) :
    Calls Tryz.prog 9 #[.int .u8 a, .int .u8 b] W fun e w' => e = .returned (.bool true) ∧ Below W.heap.size W w' := by
  go_enter Tryz.func9, Tryz.ntmps9
  go_wp2_with fail
  refine (head_one _ hp).mono ?_
  rintro e w1 ⟨rfl, B1⟩
  go_upto_region 9 with fail
  have c0 : (((w1.alloc (Obj.cells dArr 64)).alloc (Obj.cells dRow3 64))).cell? ⟨w1.heap.size + 1, 0, none⟩ = some (.string ({ data := #[112, 97, 114, 115, 101, 32, 123, 32, 108, 101, 116, 32, 97, 32, 61, 32] } : ByteArray)) := (Box.newAt (X := w1.alloc (Obj.cells dArr 64)) (n := w1.heap.size + 1) (by simp) 64 dRow3).cell 0
  have c1 : (((w1.alloc (Obj.cells dArr 64)).alloc (Obj.cells dRow3 64))).cell? ⟨w1.heap.size + 1, 1, none⟩ = some (.string ({ data := #[117, 56, 40] } : ByteArray)) := (Box.newAt (X := w1.alloc (Obj.cells dArr 64)) (n := w1.heap.size + 1) (by simp) 64 dRow3).cell 1
  have c2 : (((w1.alloc (Obj.cells dArr 64)).alloc (Obj.cells dRow3 64))).cell? ⟨w1.heap.size + 1, 2, none⟩ = some (.string ({ data := #[108, 101, 110] } : ByteArray)) := (Box.newAt (X := w1.alloc (Obj.cells dArr 64)) (n := w1.heap.size + 1) (by simp) 64 dRow3).cell 2
  have c3 : (((w1.alloc (Obj.cells dArr 64)).alloc (Obj.cells dRow3 64))).cell? ⟨w1.heap.size + 1, 3, none⟩ = some (.string ({ data := #[41] } : ByteArray)) := (Box.newAt (X := w1.alloc (Obj.cells dArr 64)) (n := w1.heap.size + 1) (by simp) 64 dRow3).cell 3
  have hBX : Below W.heap.size W ((w1.alloc (Obj.cells dArr 64)).alloc (Obj.cells dRow3 64)) := (B1.alloc B1.size _).alloc (by have := B1.size; simp; omega) _
  obtain ⟨X, hy⟩ : ∃ Y, ((w1.alloc (Obj.cells dArr 64)).alloc (Obj.cells dRow3 64)) = Y := ⟨_, rfl⟩
  rw [hy] at c0 c1 c2 c3 hBX ⊢
  clear hy
  have S0 : X.cell? ⟨w1.heap.size + 1, 0, none⟩ = some (.string ({ data := #[112, 97, 114, 115, 101, 32, 123, 32, 108, 101, 116, 32, 97, 32, 61, 32] } : ByteArray)) ∧ X.cell? ⟨w1.heap.size + 1, 1, none⟩ = some (.string ({ data := #[117, 56, 40] } : ByteArray)) ∧ X.cell? ⟨w1.heap.size + 1, 2, none⟩ = some (.string ({ data := #[108, 101, 110] } : ByteArray)) ∧ X.cell? ⟨w1.heap.size + 1, 3, none⟩ = some (.string ({ data := #[41] } : ByteArray)) ∧ Below X.heap.size X X := ⟨c0, c1, c2, c3, Below.refl _ _⟩
  have q1 : (({ data := #[112, 97, 114, 115, 101, 32, 123, 32, 108, 101, 116, 32, 97, 32, 61, 32] } : ByteArray) ++ R1).size ≤ 9223372036854775807 := by simp only [ByteArray.size_append]; have : ({ data := #[112, 97, 114, 115, 101, 32, 123, 32, 108, 101, 116, 32, 97, 32, 61, 32] } : ByteArray).size = 16 := rfl; omega
  have q2 : (({ data := #[112, 97, 114, 115, 101, 32, 123, 32, 108, 101, 116, 32, 97, 32, 61, 32] } : ByteArray) ++ R1 ++ ({ data := #[108, 101, 110] } : ByteArray)).size ≤ 9223372036854775807 := by simp only [ByteArray.size_append]; have : ({ data := #[112, 97, 114, 115, 101, 32, 123, 32, 108, 101, 116, 32, 97, 32, 61, 32] } : ByteArray).size = 16 := rfl; have : ({ data := #[108, 101, 110] } : ByteArray).size = 3 := rfl; omega
  have q3 : (({ data := #[112, 97, 114, 115, 101, 32, 123, 32, 108, 101, 116, 32, 97, 32, 61, 32] } : ByteArray) ++ R1 ++ ({ data := #[108, 101, 110] } : ByteArray) ++ R3).size ≤ 9223372036854775807 := by simp only [ByteArray.size_append]; have : ({ data := #[112, 97, 114, 115, 101, 32, 123, 32, 108, 101, 116, 32, 97, 32, 61, 32] } : ByteArray).size = 16 := rfl; have : ({ data := #[108, 101, 110] } : ByteArray).size = 3 := rfl; omega
  have q4 : (({ data := #[112, 97, 114, 115, 101, 32, 123, 32, 108, 101, 116, 32, 97, 32, 61, 32] } : ByteArray) ++ R1 ++ ({ data := #[108, 101, 110] } : ByteArray) ++ R3 ++ ({ data := #[59, 32, 125] } : ByteArray)).size ≤ 9223372036854775807 := by simp only [ByteArray.size_append]; have : ({ data := #[112, 97, 114, 115, 101, 32, 123, 32, 108, 101, 116, 32, 97, 32, 61, 32] } : ByteArray).size = 16 := rfl; have : ({ data := #[108, 101, 110] } : ByteArray).size = 3 := rfl; have : ({ data := #[59, 32, 125] } : ByteArray).size = 3 := rfl; omega
  have p1 : ¬ 9223372036854775807 < 16 + R1.size := by omega
  have p2 : ¬ 9223372036854775807 < 16 + R1.size + 3 := by omega
  have p3 : ¬ 9223372036854775807 < 16 + R1.size + 3 + R3.size := by omega
  have p4 : ¬ 9223372036854775807 < 16 + R1.size + 3 + R3.size + 3 := by omega
  clear c0 c1 c2 c3 hi hk ha hb z1 z3 q1 q2 q3 q4
  go_region_held3 (fun w' => w'.cell? ⟨w1.heap.size + 1, 0, none⟩ = some (.string ({ data := #[112, 97, 114, 115, 101, 32, 123, 32, 108, 101, 116, 32, 97, 32, 61, 32] } : ByteArray)) ∧ w'.cell? ⟨w1.heap.size + 1, 1, none⟩ = some (.string ({ data := #[117, 56, 40] } : ByteArray)) ∧ w'.cell? ⟨w1.heap.size + 1, 2, none⟩ = some (.string ({ data := #[108, 101, 110] } : ByteArray)) ∧ w'.cell? ⟨w1.heap.size + 1, 3, none⟩ = some (.string ({ data := #[41] } : ByteArray)) ∧ Below X.heap.size X w') (with_reducible (first | assumption | exact ddrew ‹_› | exact ddrew (ddrew ‹_›)))
    ((go_at_call 28; (first | ((with_reducible refine (repUse hR1 _).mono ?_); rintro e w3 ⟨rfl, hb3⟩; have L3 := dkeep hb3 ‹_›) | ((with_reducible refine (repUse hR3 _).mono ?_); rintro e w4 ⟨rfl, hb4⟩; have L4 := dkeep hb4 ‹_›))))
  obtain ⟨c0, c1, c2, c3, hBL⟩ := L4
  clear L3 hb3 hb4 S0 p1 p2 p3 p4
  obtain ⟨S, hS⟩ : ∃ S, (({ data := #[112, 97, 114, 115, 101, 32, 123, 32, 108, 101, 116, 32, 97, 32, 61, 32] } : ByteArray) ++ R1 ++ ({ data := #[108, 101, 110] } : ByteArray) ++ R3 ++ ({ data := #[59, 32, 125] } : ByteArray)) = S := ⟨_, rfl⟩
  rw [hS] at hP ⊢
  have zS' := zS.out
  rw [hS] at zS'
  clear zS hS
  have hBW : Below W.heap.size W w4 := hBX.trans (hBL.mono hBX.size)
  clear hBL hBX B1
  go_wp2_with fail
  refine (parse_at S _ (by omega) (hp.later hBW).1 (hp.later hBW).2.1).mono ?_
  rintro e u1 ⟨A7, c7, d7, hx, nd, drow, nb⟩
  rw [hP.out] at hx drow nd
  obtain ⟨G, hG⟩ : ∃ G, t.toG = G := ⟨_, rfl⟩
  obtain ⟨kv, hkv⟩ : ∃ kv, Value.slice A7 t.kids.length c7 = kv := ⟨_, rfl⟩
  have hgt := gAt_node _ _ nd
  obtain rfl : e = .returned (.tuple #[.agg #[Value.int IntKind.i64 t.toG.kind, Value.string t.toG.name, Value.string t.toG.part, Value.int IntKind.u64 t.toG.num, Value.int IntKind.i64 t.toG.wid, Value.int IntKind.i64 t.toG.at_, Value.slice A7 t.toG.kids.length c7], d7]) := by rw [hx, toG_agg]
  replace drow : u1.ownsRow w4.heap.size DT 2 d7 0 [] := drow
  obtain ⟨DB, DD, rfl⟩ := ownsRow_form drow
  have hBu1 := hBW.trans (nb.mono hBW.size)
  have D1 : Dg u1 (.slice DB 0 DD) [] := ⟨_, drow⟩
  replace hgt : gAt u1 t.toG (.slice A7 t.toG.kids.length c7) := by rw [toG_kn]; exact hgt
  rw [hG] at hgt hv hok ⊢
  clear hG hkv hx nd hP
  have nb2 : Below u1.heap.size u1 (u1.alloc (Obj.cells #[Value.int IntKind.i64 G.kind, Value.string G.name, Value.string G.part, Value.int IntKind.u64 G.num, Value.int IntKind.i64 G.wid, Value.int IntKind.i64 G.at_, Value.slice A7 G.kids.length c7] 25)) := (Below.refl _ _).alloc (Nat.le_refl _) _
  replace D1 := D1.later nb2
  have hBu2 : Below W.heap.size W (u1.alloc (Obj.cells #[Value.int IntKind.i64 G.kind, Value.string G.name, Value.string G.part, Value.int IntKind.u64 G.num, Value.int IntKind.i64 G.wid, Value.int IntKind.i64 G.at_, Value.slice A7 G.kids.length c7] 25)) := hBu1.trans (nb2.mono hBu1.size)
  have k0 := cell_later nb2 (cell_later nb c0)
  have k1 := cell_later nb2 (cell_later nb c1)
  clear c0 c1 c2 c3 nb hBu1 hBW drow
  go_upto_region 13 with fail
  replace hgt := gAt_later nb2 _ _ hgt
  have n0 := Box.new u1 25 #[Value.int IntKind.i64 G.kind, Value.string G.name, Value.string G.part, Value.int IntKind.u64 G.num, Value.int IntKind.i64 G.wid, Value.int IntKind.i64 G.at_, Value.slice A7 G.kids.length c7]
  obtain ⟨u2, hy⟩ : ∃ Y, u1.alloc (Obj.cells #[Value.int IntKind.i64 G.kind, Value.string G.name, Value.string G.part, Value.int IntKind.u64 G.num, Value.int IntKind.i64 G.wid, Value.int IntKind.i64 G.at_, Value.slice A7 G.kids.length c7] 25) = Y := ⟨_, rfl⟩
  rw [hy] at D1 hBu2 k0 k1 hgt n0 ⊢
  clear hy nb2
  have m0 := n0.cell 0
  have m1 := n0.cell 1
  have m2 := n0.cell 2
  have m3 := n0.cell 3
  have m4 := n0.cell 4
  have m5 := n0.cell 5
  have m6 := n0.cell 6
  have hva := Lib.hid (Valid_any G hok u2 A7 c7 hgt (hp.later hBu2))
  rw [hv] at hva
  clear n0 D1 hgt hv hok
  go_wp2_with fail
  refine hva.out.mono ?_
  rintro e u3 ⟨rfl, nb3⟩
  go_wp2
  go_ret
  exact ⟨rfl, hBu2.trans (nb3.mono hBu2.size)⟩
end Go.Proofs.YtgleakjalhkkhaaGreatDoor
