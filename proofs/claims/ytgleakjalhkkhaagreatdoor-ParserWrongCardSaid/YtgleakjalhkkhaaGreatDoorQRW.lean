/- Joined texts: PWrW, PWrX. -/
import Derived.Test.YtgleakjalhkkhaaGreatDoorQR1
import Derived.Test.YtgleakjalhkkhaaGreatDoorQV6
import Derived.Test.YtgleakjalhkkhaaGreatDoorQX1
import Derived.Deep.QuietTactic
import Derived.BigQuiet
import Derived.IntWalk
import Derived.Test.YtgleakjalhkkhaaGreatDoorQF
import Derived.Test.YtgleakjalhkkhaaGreatDoorCards
import Derived.Stop.Joined
import Derived.ChangeMaps5

/- ParserWrong: the walk. -/
namespace Go.Proofs.YtgleakjalhkkhaaGreatDoor
open Go.RowKit

abbrev wA1 : Array Value := #[Value.string { data := #[108, 101, 116, 32, 59] }, Value.string { data := #[108, 101, 116, 32, 97, 32, 53, 58, 117, 56, 59] }, Value.string { data := #[120, 32, 61, 32, 40, 97, 32, 43, 32, 41, 59] }, Value.string { data := #[105, 102, 32, 40, 97, 32, 61, 61, 32, 98, 32, 123, 32, 99, 32, 61, 32, 100, 59, 32, 125, 32, 101, 108, 115, 101, 32, 123, 32, 97, 99, 99, 101, 112, 116, 59, 32, 125] }, Value.string { data := #[119, 104, 105, 108, 101, 32, 108, 101, 110, 32, 97, 99, 99, 101, 112, 116, 59] }, Value.string { data := #[110, 101, 119, 32, 112, 58, 117, 56, 91, 51, 58, 117, 56, 59] }, Value.string { data := #[120, 91, 53, 58, 117, 56, 93, 32, 55, 58, 117, 56, 59] }, Value.string { data := #[114, 101, 106, 101, 99, 116, 32, 97, 59] }, Value.string { data := #[105, 110, 32, 61, 32, 53, 58, 117, 56, 59] }, Value.string { data := #[53, 58, 117, 56, 59] }, Value.string { data := #[123, 32, 97, 32, 61, 32, 98, 59, 32, 125] }, Value.string { data := #[105, 102, 32, 126, 32, 123, 32, 108, 101, 116, 32, 97, 32, 61, 32, 98, 59, 32, 125] }]
abbrev wA2 : Array Value := #[Value.int IntKind.i64 4, Value.int IntKind.i64 6, Value.int IntKind.i64 9, Value.int IntKind.i64 11, Value.int IntKind.i64 10, Value.int IntKind.i64 13, Value.int IntKind.i64 8, Value.int IntKind.i64 7, Value.int IntKind.i64 0, Value.int IntKind.i64 0, Value.int IntKind.i64 0, Value.int IntKind.i64 5]
abbrev wA3 : Array Value := #[Value.string { data := #[115, 116, 114, 117, 99, 116, 32, 123, 32, 97, 58, 32, 117, 56, 32, 125, 32] }, Value.string { data := #[115, 116, 114, 117, 99, 116, 32, 115, 32, 123, 32, 97, 32, 117, 56, 32, 125, 32] }, Value.string { data := #[102, 117, 110, 99, 32, 102, 40, 97, 58, 32, 117, 56, 32, 123, 32, 114, 101, 116, 117, 114, 110, 32, 97, 59, 32, 125, 32] }, Value.string { data := #[102, 117, 110, 99, 32, 102, 40, 41, 32, 123, 32, 114, 101, 116, 117, 114, 110, 32, 97, 59, 32, 125, 32] }, Value.string { data := #[120, 32] }, Value.string { data := #[125, 32] }]
abbrev wA4 : Array Value := #[Value.int IntKind.i64 7, Value.int IntKind.i64 13, Value.int IntKind.i64 13, Value.int IntKind.i64 9, Value.int IntKind.i64 0, Value.int IntKind.i64 0]
theorem wt1 {w : World} {b : Nat} (N : Box w b 9 wA1) (j : Nat) (hj : j < 12) : w.cell? ⟨b, j, none⟩ = some (.string ⟨(stB j).toArray⟩) := by
  match j, hj with
  | 0, _ => exact N.cell 0
  | 1, _ => exact N.cell 1
  | 2, _ => exact N.cell 2
  | 3, _ => exact N.cell 3
  | 4, _ => exact N.cell 4
  | 5, _ => exact N.cell 5
  | 6, _ => exact N.cell 6
  | 7, _ => exact N.cell 7
  | 8, _ => exact N.cell 8
  | 9, _ => exact N.cell 9
  | 10, _ => exact N.cell 10
  | 11, _ => exact N.cell 11
theorem wt2 {w : World} {b : Nat} (N : Box w b 3 wA2) (j : Nat) (hj : j < 12) : w.cell? ⟨b, j, none⟩ = some (.int .i64 (stA j : Nat)) := by
  match j, hj with
  | 0, _ => exact N.cell 0
  | 1, _ => exact N.cell 1
  | 2, _ => exact N.cell 2
  | 3, _ => exact N.cell 3
  | 4, _ => exact N.cell 4
  | 5, _ => exact N.cell 5
  | 6, _ => exact N.cell 6
  | 7, _ => exact N.cell 7
  | 8, _ => exact N.cell 8
  | 9, _ => exact N.cell 9
  | 10, _ => exact N.cell 10
  | 11, _ => exact N.cell 11
theorem wt3 {w : World} {b : Nat} (N : Box w b 9 wA3) (j : Nat) (hj : j < 6) : w.cell? ⟨b, j, none⟩ = some (.string ⟨(itB j ++ [32]).toArray⟩) := by
  match j, hj with
  | 0, _ => exact N.cell 0
  | 1, _ => exact N.cell 1
  | 2, _ => exact N.cell 2
  | 3, _ => exact N.cell 3
  | 4, _ => exact N.cell 4
  | 5, _ => exact N.cell 5
theorem wt4 {w : World} {b : Nat} (N : Box w b 3 wA4) (j : Nat) (hj : j < 6) : w.cell? ⟨b, j, none⟩ = some (.int .i64 (itA j : Nat)) := by
  match j, hj with
  | 0, _ => exact N.cell 0
  | 1, _ => exact N.cell 1
  | 2, _ => exact N.cell 2
  | 3, _ => exact N.cell 3
  | 4, _ => exact N.cell 4
  | 5, _ => exact N.cell 5
set_option maxRecDepth 100000 in
set_option maxHeartbeats 3200000 in
theorem wrong_long (s : ByteArray) (a : Int) (W : World) (hp : PV W) (hl : (4000 : Int) < s.size) :
    Calls Tryz.prog 8 #[.string s, .int .u8 a] W fun e w' => e = .returned (.bool true) ∧ Below W.heap.size W w' := by
  go_enter Tryz.func8, Tryz.ntmps8
  go_wp2_with fail
  refine (head_one _ hp).mono ?_
  rintro e w1 ⟨rfl, B1⟩
  go_wp2
  go_ret
  exact ⟨rfl, B1⟩
set_option maxRecDepth 100000 in
set_option maxHeartbeats 3200000 in
theorem wrong_bad (s : ByteArray) (a : Int) (t : T) (ds : List (Nat × Nat)) (W : World) (hp : PV W) (hl : ¬ (4000 : Int) < s.size) (hP : Hid (parseS s.data.toList = (t, ds))) (m : Nat) (hm : Hid (ds.length = m)) (hd : 0 < m) :
    Calls Tryz.prog 8 #[.string s, .int .u8 a] W fun e w' => e = .returned (.bool true) ∧ Below W.heap.size W w' := by
  go_enter Tryz.func8, Tryz.ntmps8
  go_wp2_with fail
  refine (head_one _ hp).mono ?_
  rintro e w1 ⟨rfl, B3⟩
  go_wp2_with fail
  refine (parse_at s _ (by omega) (hp.later B3).1 (hp.later B3).2.1).mono ?_
  rintro e w3 ⟨A7, c7, d7, hy, nd, drow, nb⟩
  rw [hP.out] at hy drow
  replace drow : w3.ownsRow w1.heap.size DT 2 d7 m (dgV ds) := by rw [← hm.out]; exact drow
  obtain ⟨DB, DD, rfl⟩ := ownsRow_form drow
  subst hy
  have B4 := B3.trans (nb.mono B3.size)
  clear nd drow nb B3 hP hm
  go_wp2
  go_ret
  exact ⟨rfl, B4.alloc B4.size _⟩
/-- What the walk asks of the source that is made: it has an error, or it fails at one place. -/
def WrC (S : ByteArray) (at_ : Nat) : Prop := ∃ l' x' k', lexS S.data.toList = (l', x', k') ∧ (x' = 0 → parseS S.data.toList = (T.zero, dg10 [at_]))
set_option maxRecDepth 100000 in
set_option maxHeartbeats 6400000 in
theorem wrong_ok (s : ByteArray) (a : Int) (k n p : Nat) (t : T) (L0 K : List T) (W : World) (hp : PV W) (hl : ¬ (4000 : Int) < s.size) (ha : 0 ≤ a ∧ a < 256) (hk : a.tmod 18 = (k : Int)) (hk18 : k < 18) (hP : Hid (parseS s.data.toList = (t, []))) (ht : Hid (t.kids = L0 ++ [.mk 6 [] [] 0 0 p K])) (hn : Hid (L0.length = n)) (hn2 : n < 1000000) (hps : p < s.size)
    (hS : Hid (k < 12 → WrC (s.extract 0 (p + 1) ++ ⟨#[32]⟩ ++ ⟨(stB k).toArray⟩ ++ ⟨#[32]⟩ ++ s.extract (p + 1) s.size) (p + 2 + stA k))) (hI : Hid (∀ j, k = j + 12 → WrC (⟨(itB j ++ [32]).toArray⟩ ++ s) (itA j))) :
    Calls Tryz.prog 8 #[.string s, .int .u8 a] W fun e w' => e = .returned (.bool true) ∧ Below W.heap.size W w' := by
  go_enter Tryz.func8, Tryz.ntmps8
  go_wp2_with fail
  refine (head_one _ hp).mono ?_
  rintro e w1 ⟨rfl, B3⟩
  go_wp2_with fail
  refine (parse_at s _ (by omega) (hp.later B3).1 (hp.later B3).2.1).mono ?_
  rintro e w3 ⟨A7, c7, d7, hy, nd, drow, nb⟩
  rw [hP.out] at hy drow nd
  replace drow : w3.ownsRow w1.heap.size DT 2 d7 0 [] := drow
  obtain ⟨DB, DD, rfl⟩ := ownsRow_form drow
  have hkl : t.kids.length = n + 1 := by rw [ht.out, List.length_append, hn.out]; rfl
  replace nd : nodeAt w3 (fun g => w1.heap.size ≤ g) t (.slice A7 t.kids.length c7) := nd
  have g1 := gAt_node _ _ nd
  replace hy : e = .returned (.tuple #[.agg #[Value.int IntKind.i64 t.kind, Value.string { data := t.name.toArray }, Value.string { data := t.part.toArray }, Value.int IntKind.u64 t.num, Value.int IntKind.i64 t.wid, Value.int IntKind.i64 t.at_, Value.slice A7 t.kids.length c7], .slice DB 0 DD]) := hy
  rw [hkl] at hy g1
  subst hy
  have B4 := B3.trans (nb.mono B3.size)
  -- the last kid
  have hlast : ∃ g o KA KL KC, A7 = some ⟨g, o, none⟩ ∧ w3.cell? ⟨g, o + n * 7, none⟩ = some (.int .i64 6) ∧ w3.cell? ⟨g, o + n * 7 + 1, none⟩ = some (.string ⟨#[]⟩) ∧ w3.cell? ⟨g, o + n * 7 + 2, none⟩ = some (.string ⟨#[]⟩) ∧ w3.cell? ⟨g, o + n * 7 + 3, none⟩ = some (.int .u64 0) ∧ w3.cell? ⟨g, o + n * 7 + 4, none⟩ = some (.int .i64 0) ∧ w3.cell? ⟨g, o + n * 7 + 5, none⟩ = some (.int .i64 p) ∧ w3.cell? ⟨g, o + n * 7 + 6, none⟩ = some (.slice KA KL KC) := by
    have hg : gRow w3 A7 0 (T.toG.toGs t.kids) := by
      have h := gAt_node _ _ nd
      cases t with
      | mk k0 n0 p0 x0 y0 z0 ks =>
        obtain ⟨A', c', e, _, _, h3⟩ := h
        injection e with e1 e2 e3
        rw [e1]; exact h3
    have hj : n < (T.toG.toGs t.kids).length := by rw [toGs_length, hkl]; omega
    obtain ⟨g, o, kv, e0, e1, e2, e3, e4, e5, e6, e7, e8⟩ := gRow_at _ _ hg n hj
    have hel : (T.toG.toGs t.kids)[n] = (T.mk 6 [] [] 0 0 p K).toG := by
      have : ∀ (l : List T) (i : Nat), (T.toG.toGs l)[i]? = (l[i]?).map T.toG := by
        intro l
        induction l with
        | nil => intro i; rfl
        | cons a r ih => intro i; cases i with
          | zero => rfl
          | succ i => simpa [T.toG.toGs] using ih i
      have h2 : (T.toG.toGs t.kids)[n]? = some (T.mk 6 [] [] 0 0 p K).toG := by
        rw [this, ht.out, List.getElem?_append_right (by rw [hn.out]; omega), hn.out, Nat.sub_self]; rfl
      rw [List.getElem?_eq_getElem hj] at h2
      exact Option.some.inj h2
    rw [hel, Nat.zero_add] at e1 e2 e3 e4 e5 e6
    rw [Nat.zero_add] at e7
    rw [hel] at e8
    obtain ⟨KA, KC, rfl, _⟩ := e8
    exact ⟨g, o, KA, _, KC, e0, e1, e2, e3, e4, e5, e6, e7⟩
  obtain ⟨g, ob, KA, KL, KC, rfl, r0, r1, r2, r3, r4, r5, r6⟩ := hlast
  have nb2 : Below w3.heap.size w3 (w3.alloc (Obj.cells #[Value.int IntKind.i64 t.kind, Value.string { data := t.name.toArray }, Value.string { data := t.part.toArray }, Value.int IntKind.u64 t.num, Value.int IntKind.i64 t.wid, Value.int IntKind.i64 t.at_, Value.slice (some ⟨g, ob, none⟩) (n + 1) c7] 25)) := (Below.refl _ _).alloc (Nat.le_refl _) _
  have N1 := Box.new w3 25 #[Value.int IntKind.i64 t.kind, Value.string { data := t.name.toArray }, Value.string { data := t.part.toArray }, Value.int IntKind.u64 t.num, Value.int IntKind.i64 t.wid, Value.int IntKind.i64 t.at_, Value.slice (some ⟨g, ob, none⟩) (n + 1) c7]
  replace r0 := cell_later nb2 r0
  replace r1 := cell_later nb2 r1
  replace r2 := cell_later nb2 r2
  replace r3 := cell_later nb2 r3
  replace r4 := cell_later nb2 r4
  replace r5 := cell_later nb2 r5
  replace r6 := cell_later nb2 r6
  have B5 := B4.trans (nb2.mono B4.size)
  clear nd drow nb B3 hP B4 g1 hkl hn ht
  go_upto_region 5 with fail
  obtain ⟨X, hX⟩ : ∃ Y, w3.alloc (Obj.cells #[Value.int IntKind.i64 t.kind, Value.string { data := t.name.toArray }, Value.string { data := t.part.toArray }, Value.int IntKind.u64 t.num, Value.int IntKind.i64 t.wid, Value.int IntKind.i64 t.at_, Value.slice (some ⟨g, ob, none⟩) (n + 1) c7] 25) = Y := ⟨_, rfl⟩
  rw [hX] at N1 r0 r1 r2 r3 r4 r5 r6 B5 ⊢
  clear hX nb2
  have m6 := N1.cell 6
  have y1 : ((n : Int) + 1 == 0) = false := by simp; omega
  clear N1
  go_upto_region 8 with fail
  have nb0 : Below X.heap.size X (X.alloc (Obj.cells wA1 9)) := (Below.refl _ _).alloc (Nat.le_refl _) _
  have M0 := Box.new X 9 wA1
  replace r0 := cell_later nb0 r0
  replace r1 := cell_later nb0 r1
  replace r2 := cell_later nb0 r2
  replace r3 := cell_later nb0 r3
  replace r4 := cell_later nb0 r4
  replace r5 := cell_later nb0 r5
  replace r6 := cell_later nb0 r6
  replace m6 := cell_later nb0 m6
  have BB0 := B5.trans (nb0.mono B5.size)
  obtain ⟨Y0, hy⟩ : ∃ Y, X.alloc (Obj.cells wA1 9) = Y := ⟨_, rfl⟩
  rw [hy] at r0 r1 r2 r3 r4 r5 r6 m6 M0 BB0 ⊢
  clear hy nb0 B5
  go_upto_region 9 with fail
  have nb1 : Below Y0.heap.size Y0 (Y0.alloc (Obj.cells wA2 3)) := (Below.refl _ _).alloc (Nat.le_refl _) _
  have M1 := Box.new Y0 3 wA2
  replace r0 := cell_later nb1 r0
  replace r1 := cell_later nb1 r1
  replace r2 := cell_later nb1 r2
  replace r3 := cell_later nb1 r3
  replace r4 := cell_later nb1 r4
  replace r5 := cell_later nb1 r5
  replace r6 := cell_later nb1 r6
  replace m6 := cell_later nb1 m6
  replace M0 := M0.below nb1
  have BB1 := BB0.trans (nb1.mono BB0.size)
  obtain ⟨Y1, hy⟩ : ∃ Y, Y0.alloc (Obj.cells wA2 3) = Y := ⟨_, rfl⟩
  rw [hy] at r0 r1 r2 r3 r4 r5 r6 m6 M0 M1 BB1 ⊢
  clear hy nb1 BB0
  go_upto_region 10 with fail
  have nb2 : Below Y1.heap.size Y1 (Y1.alloc (Obj.cells wA3 9)) := (Below.refl _ _).alloc (Nat.le_refl _) _
  have M2 := Box.new Y1 9 wA3
  replace r0 := cell_later nb2 r0
  replace r1 := cell_later nb2 r1
  replace r2 := cell_later nb2 r2
  replace r3 := cell_later nb2 r3
  replace r4 := cell_later nb2 r4
  replace r5 := cell_later nb2 r5
  replace r6 := cell_later nb2 r6
  replace m6 := cell_later nb2 m6
  replace M0 := M0.below nb2
  replace M1 := M1.below nb2
  have BB2 := BB1.trans (nb2.mono BB1.size)
  obtain ⟨Y2, hy⟩ : ∃ Y, Y1.alloc (Obj.cells wA3 9) = Y := ⟨_, rfl⟩
  rw [hy] at r0 r1 r2 r3 r4 r5 r6 m6 M0 M1 M2 BB2 ⊢
  clear hy nb2 BB1
  go_upto_region 11 with fail
  have nb3 : Below Y2.heap.size Y2 (Y2.alloc (Obj.cells wA4 3)) := (Below.refl _ _).alloc (Nat.le_refl _) _
  have M3 := Box.new Y2 3 wA4
  replace r0 := cell_later nb3 r0
  replace r1 := cell_later nb3 r1
  replace r2 := cell_later nb3 r2
  replace r3 := cell_later nb3 r3
  replace r4 := cell_later nb3 r4
  replace r5 := cell_later nb3 r5
  replace r6 := cell_later nb3 r6
  replace m6 := cell_later nb3 m6
  replace M0 := M0.below nb3
  replace M1 := M1.below nb3
  replace M2 := M2.below nb3
  have BB3 := BB2.trans (nb3.mono BB2.size)
  obtain ⟨Y3, hy⟩ : ∃ Y, Y2.alloc (Obj.cells wA4 3) = Y := ⟨_, rfl⟩
  rw [hy] at r0 r1 r2 r3 r4 r5 r6 m6 M0 M1 M2 M3 BB3 ⊢
  clear hy nb3 BB2
  have y2 : IntKind.i64.wrap ((n : Int) + 1 - 1) = (n : Int) := by rw [show (n : Int) + 1 - 1 = (n : Int) by omega]; exact IntWalk.i64_in _ (by omega)
  go_upto_region 16 with fail
  have nb4 : Below Y3.heap.size Y3 (Y3.alloc (Obj.cells #[Value.int IntKind.i64 6, Value.string { data := #[] }, Value.string { data := #[] }, Value.int IntKind.u64 0, Value.int IntKind.i64 0, Value.int IntKind.i64 p, Value.slice KA KL KC] 25)) := (Below.refl _ _).alloc (Nat.le_refl _) _
  have NL := Box.new Y3 25 #[Value.int IntKind.i64 6, Value.string { data := #[] }, Value.string { data := #[] }, Value.int IntKind.u64 0, Value.int IntKind.i64 0, Value.int IntKind.i64 p, Value.slice KA KL KC]
  have c5 := NL.cell 5
  replace c5 : (Y3.alloc (Obj.cells #[Value.int IntKind.i64 6, Value.string { data := #[] }, Value.string { data := #[] }, Value.int IntKind.u64 0, Value.int IntKind.i64 0, Value.int IntKind.i64 p, Value.slice KA KL KC] 25)).cell? ⟨Y3.heap.size, 5, none⟩ = some (.int .i64 p) := c5
  replace M0 := M0.below nb4
  replace M1 := M1.below nb4
  replace M2 := M2.below nb4
  replace M3 := M3.below nb4
  have BZ := BB3.trans (nb4.mono BB3.size)
  obtain ⟨Z, hZ⟩ : ∃ Y, Y3.alloc (Obj.cells #[Value.int IntKind.i64 6, Value.string { data := #[] }, Value.string { data := #[] }, Value.int IntKind.u64 0, Value.int IntKind.i64 0, Value.int IntKind.i64 p, Value.slice KA KL KC] 25) = Y := ⟨_, rfl⟩
  rw [hZ] at M0 M1 M2 M3 BZ c5 ⊢
  clear hZ nb4 NL BB3 r0 r1 r2 r3 r4 r5 r6 m6 y1 y2
  have w1' : IntKind.i64.wrap ((p : Int) + 1) = (p : Int) + 1 := IntWalk.i64_in _ (by omega)
  have w2' : IntKind.i64.wrap ((p : Int) + 2) = (p : Int) + 2 := IntWalk.i64_in _ (by omega)
  have hps1 : (p : Int) + 1 ≤ (s.size : Int) := by omega
  have hps0 : (0 : Int) ≤ (p : Int) + 1 := by omega
  by_cases hk12 : k < 12
  · have c0 := wt1 M0 k hk12
    have c1 := wt2 M1 k hk12
    have hc := Lib.hid (hS.out hk12)
    have hki : (k : Int) < 12 := by omega
    have hkn : (0 : Int) ≤ (k : Int) := by omega
    have hTs : (⟨(stB k).toArray⟩ : ByteArray).size ≤ 100 ∧ stA k ≤ 100 := by
      have : ∀ k, k < 12 → (stB k).length ≤ 100 ∧ stA k ≤ 100 := by decide +kernel
      have h := this k hk12
      exact ⟨by rw [size_mk]; exact h.1, h.2⟩
    obtain ⟨T1, hT1⟩ : ∃ T1, (⟨(stB k).toArray⟩ : ByteArray) = T1 := ⟨_, rfl⟩
    obtain ⟨a1, ha1⟩ : ∃ a1, stA k = a1 := ⟨_, rfl⟩
    rw [hT1] at c0 hc hTs
    rw [ha1] at c1 hc hTs
    have w3' : IntKind.i64.wrap ((p : Int) + 2 + (a1 : Int)) = (p : Int) + 2 + (a1 : Int) := IntWalk.i64_in _ (by omega)
    clear hS hI M0 M1 M2 M3 hT1 ha1
    go_upto_region 17 with fail
    go_quiet (fail)
    have hSz : (s.extract 0 (p + 1) ++ { data := #[32] } ++ T1 ++ { data := #[32] } ++ s.extract (p + 1) s.size : ByteArray).size ≤ 9223372036854775807 := by
      simp only [ByteArray.size_append, ByteArray.size_extract]
      have : ({ data := #[32] } : ByteArray).size = 1 := rfl
      omega
    clear w1' w2' w3' hps0 hps1 hki hkn
    obtain ⟨l', x', k', e1, e2⟩ := hc.out
    have BZ2 : Below W.heap.size W (Z.drewN nq) := BZ.trans ((Drew.below (a := Z) (b := Z.drewN nq) ⟨nq, rfl⟩).mono BZ.size)
    obtain ⟨Z2, hZ2⟩ : ∃ Y, Z.drewN nq = Y := ⟨_, rfl⟩
    obtain ⟨S, hSe⟩ : ∃ S, (s.extract 0 (p + 1) ++ { data := #[32] } ++ T1 ++ { data := #[32] } ++ s.extract (p + 1) s.size : ByteArray) = S := ⟨_, rfl⟩
    have E1 := Lib.hid e1
    have E2 := Lib.hid e2
    clear e1 e2 hc
    rw [hSe] at E1 E2 hSz ⊢
    rw [hZ2] at BZ2 ⊢
    rw [show ((p : Int) + 2 + (a1 : Int) : Int) = ((p + 2 + a1 : Nat) : Int) by omega]
    clear hSe hZ2 BZ c0 c1 c5
    go_wp2_with fail
    refine (lexR_at S l' x' k' _ hSz E1).mono ?_
    rintro e w5 ⟨LA, lc, rfl, _, _, _, B⟩
    have B6 := BZ2.trans (B.mono BZ2.size)
    clear B BZ2
    by_cases hx : x' = 0
    · have hF := Lib.hid (E2.out hx)
      subst hx
      have nb5 : Below w5.heap.size w5 (w5.alloc (Obj.cells #[Value.int IntKind.i64 (p + 2 + a1 : Nat)] 3)) := (Below.refl _ _).alloc (Nat.le_refl _) _
      have B8 := B6.trans (nb5.mono B6.size)
      clear E1 E2
      go_wp2_with fail
      refine (fails_at S [p + 2 + a1] (some ⟨w5.heap.size, 0, none⟩) 1 _ (by simp) hF hSz (hp.later B8).1 (hp.later B8).2.1 (irow1 _ _ (p + 2 + a1))).mono ?_
      rintro e w6 ⟨rfl, nb6⟩
      go_wp2
      go_ret
      exact ⟨rfl, B8.trans (nb6.mono B8.size)⟩
    · have hx2 : ((x' : Int) != 0) = true := by simp; omega
      clear E1 E2
      go_wp2
      go_ret
      exact ⟨rfl, B6⟩
  · obtain ⟨j, rfl⟩ : ∃ j, k = j + 12 := ⟨k - 12, by omega⟩
    have hj : j < 6 := by omega
    have c0 := wt3 M2 j hj
    have c1 := wt4 M3 j hj
    have hc := Lib.hid (hI.out j rfl)
    have hki : ¬ (((j + 12 : Nat) : Int) < 12) := by omega
    have hsub : IntKind.i64.wrap (((j + 12 : Nat) : Int) - 12) = (j : Int) := by rw [show ((j + 12 : Nat) : Int) - 12 = (j : Int) by omega]; exact IntWalk.i64_in _ (by omega)
    have hsub2 : IntKind.i64.wrap ((j : Int) + 12 - 12) = (j : Int) := by rw [show (j : Int) + 12 - 12 = (j : Int) by omega]; exact IntWalk.i64_in _ (by omega)
    have hj0 : (0 : Int) ≤ (j : Int) := by omega
    have hj6 : (j : Int) < 6 := by omega
    have hTs : (⟨(itB j ++ [32]).toArray⟩ : ByteArray).size ≤ 100 := by
      have : ∀ j, j < 6 → (itB j ++ [32]).length ≤ 100 := by decide +kernel
      have h := this j hj
      rw [size_mk]; exact h
    obtain ⟨T1, hT1⟩ : ∃ T1, (⟨(itB j ++ [32]).toArray⟩ : ByteArray) = T1 := ⟨_, rfl⟩
    obtain ⟨a1, ha1⟩ : ∃ a1, itA j = a1 := ⟨_, rfl⟩
    rw [hT1] at c0 hc hTs
    rw [ha1] at c1 hc
    have hsum : ¬ 9223372036854775807 < T1.size + s.size := by omega
    clear hS hI M0 M1 M2 M3 hT1 ha1 w1' w2' hps0 hps1
    go_upto_region 19 with fail
    go_quiet (fail)
    have hSz : (T1 ++ s : ByteArray).size ≤ 9223372036854775807 := by rw [ByteArray.size_append]; omega
    clear hsub hsub2 hj0 hj6 hki hsum
    obtain ⟨l', x', k', e1, e2⟩ := hc.out
    have BZ2 : Below W.heap.size W (Z.drewN nq) := BZ.trans ((Drew.below (a := Z) (b := Z.drewN nq) ⟨nq, rfl⟩).mono BZ.size)
    obtain ⟨Z2, hZ2⟩ : ∃ Y, Z.drewN nq = Y := ⟨_, rfl⟩
    obtain ⟨S, hSe⟩ : ∃ S, (T1 ++ s : ByteArray) = S := ⟨_, rfl⟩
    have E1 := Lib.hid e1
    have E2 := Lib.hid e2
    clear e1 e2 hc
    rw [hSe] at E1 E2 hSz ⊢
    rw [hZ2] at BZ2 ⊢
    skip
    clear hSe hZ2 BZ c0 c1 c5
    go_wp2_with fail
    refine (lexR_at S l' x' k' _ hSz E1).mono ?_
    rintro e w5 ⟨LA, lc, rfl, _, _, _, B⟩
    have B6 := BZ2.trans (B.mono BZ2.size)
    clear B BZ2
    by_cases hx : x' = 0
    · have hF := Lib.hid (E2.out hx)
      subst hx
      have nb5 : Below w5.heap.size w5 (w5.alloc (Obj.cells #[Value.int IntKind.i64 (a1 : Nat)] 3)) := (Below.refl _ _).alloc (Nat.le_refl _) _
      have B8 := B6.trans (nb5.mono B6.size)
      clear E1 E2
      go_wp2_with fail
      refine (fails_at S [a1] (some ⟨w5.heap.size, 0, none⟩) 1 _ (by simp) hF hSz (hp.later B8).1 (hp.later B8).2.1 (irow1 _ _ (a1))).mono ?_
      rintro e w6 ⟨rfl, nb6⟩
      go_wp2
      go_ret
      exact ⟨rfl, B8.trans (nb6.mono B8.size)⟩
    · have hx2 : ((x' : Int) != 0) = true := by simp; omega
      clear E1 E2
      go_wp2
      go_ret
      exact ⟨rfl, B6⟩
theorem wb_list (x y : ByteArray) : (x ++ y).data.toList = x.data.toList ++ y.data.toList := by rw [ByteArray.data_append, Array.toList_append]
theorem wrong_any (s : ByteArray) (a : Int) (W : World) (hs : s.size ≤ 9223372036854775807) (ha : 0 ≤ a ∧ a < 256) (hp : PV W) :
    Calls Tryz.prog 8 #[.string s, .int .u8 a] W fun e w' => e = .returned (.bool true) ∧ Below W.heap.size W w' := by
  have _ := hs
  by_cases hl : 4000 < s.size
  · exact wrong_long s a W hp (by omega)
  obtain ⟨t, ds, hP⟩ : ∃ t ds, parseS s.data.toList = (t, ds) := ⟨_, _, rfl⟩
  by_cases hd : ds = []
  · subst hd
    obtain ⟨ts, x, k, h⟩ : ∃ ts x k, lexS s.data.toList = (ts, x, k) := ⟨_, _, _, rfl⟩
    by_cases hx : x = 0
    · subst hx
      have hsl : s.data.toList.length = s.size := rfl
      have hh := parse_hh s.data.toList (by rw [h]; exact (lexS_ok h).2.1)
      rw [hP] at hh
      obtain ⟨L0, K, p, rfl, hpl, hst, hit⟩ := wrong_src h hP
      have hn : L0.length < 1000000 := by
        have := hh.2.1
        simp at this
        omega
      obtain ⟨k, hk⟩ : ∃ k : Nat, a.tmod 18 = (k : Int) := ⟨(a % 18).toNat, by rw [Int.tmod_eq_emod_of_nonneg ha.1]; omega⟩
      have hk18 : k < 18 := by rw [Int.tmod_eq_emod_of_nonneg ha.1] at hk; omega
      refine wrong_ok s a k L0.length p _ L0 K W hp (by omega) ha hk hk18 (Lib.hid hP) (Lib.hid rfl) (Lib.hid rfl) hn (by omega) (Lib.hid fun hk12 => ?_) (Lib.hid fun j hj => ?_)
      · have e : (s.extract 0 (p + 1) ++ ⟨#[32]⟩ ++ ⟨(stB k).toArray⟩ ++ ⟨#[32]⟩ ++ s.extract (p + 1) s.size : ByteArray).data.toList = s.data.toList.take (p + 1) ++ 32 :: (stB k ++ 32 :: s.data.toList.drop (p + 1)) := by
          simp only [wb_list, extract_mid, List.drop_zero, Nat.sub_zero]
          rw [List.take_of_length_le (l := s.data.toList.drop (p + 1)) (by rw [List.length_drop]; omega)]
          simp
        unfold WrC
        rw [e]
        obtain ⟨l', x', k', h'⟩ : ∃ l' x' k', lexS (s.data.toList.take (p + 1) ++ 32 :: (stB k ++ 32 :: s.data.toList.drop (p + 1))) = (l', x', k') := ⟨_, _, _, rfl⟩
        refine ⟨l', x', k', h', fun hx' => ?_⟩
        subst hx'
        exact hst k hk12 l' k' h'
      · have e : ((⟨(itB j ++ [32]).toArray⟩ : ByteArray) ++ s).data.toList = itB j ++ 32 :: s.data.toList := by
          simp only [wb_list]
          simp
        unfold WrC
        rw [e]
        obtain ⟨l', x', k', h'⟩ : ∃ l' x' k', lexS (itB j ++ 32 :: s.data.toList) = (l', x', k') := ⟨_, _, _, rfl⟩
        refine ⟨l', x', k', h', fun hx' => ?_⟩
        subst hx'
        exact hit j (by omega) l' k' h'
    · exfalso
      unfold parseS at hP
      rw [h] at hP
      cases x with
      | zero => exact hx rfl
      | succ x => have := (Prod.mk.inj hP).2; cases this
  · exact wrong_bad s a t ds W hp (by omega) (Lib.hid hP) ds.length (Lib.hid rfl) (List.length_pos_iff.2 hd)
end Go.Proofs.YtgleakjalhkkhaaGreatDoor

/- ParserWrong: for every input the statement's function returns true, and the input reads afterwards as it read before; the listed package-level variables start as the program's text lays them (the card ties them to it). No other condition. -/
namespace Go.Proofs.YtgleakjalhkkhaaGreatDoor
open Go.ChangeShapes Go.WideShapes Go.ChangeAt Go.RowKit Go.Joins Go.ChangeMaps

set_option maxRecDepth 100000 in
theorem parserWrong_lifted (os : Os) (started : os.Started) (H : Type) (enc : TypeId × Value → H) :
    ReturnsInHanded {} Tryz.checked os 8 .any (fun w args => (Rows.parserWrongSpec.pre enc Tryz.prog Tryz.f8 [] false w args ∧ laidMetH Tryz.prog laidP w) ∧ sizedMet enc Tryz.prog Tryz.f8 (OpenSpec.ofChange Rows.parserWrongSpec) false w args)
      (Rows.parserWrongSpec.post enc Tryz.prog Tryz.f8 false true false false) := by
  refine returnsInHanded_of_change_and (C := Tryz.checked) (X := fun w _ => laidMetH Tryz.prog laidP w) (fun _ _ _ hh h => h.of_heap hh) Tryz.own started (by kernel_rfl) Tryz.func8
    (ChangeSpec.witness_shaped (enc := enc) (C := Tryz.checked) (os := os) (X := fun w _ => laidMetH Tryz.prog laidP w) false (World.laidAll Tryz.prog os laidP) #[.string ⟨#[]⟩, .int .u8 0] 8 (World.laidAll_os _ _ _) (World.shaped_of_ZipB (by kernel_rfl) (by kernel_rfl)) (by kernel_rfl) (by kernel_rfl) (by kernel_rfl) (lay_met os _)) ?_
  intro W base args ds gs before hval0 hW _ _ hL0 _
  have hL : laidMet Tryz.prog laidP W := by rw [← MakeChecks.laidMetH_plain _ _ _ (by kernel_rfl)]; exact hL0
  have hval : ∀ (j : Nat) t v, Tryz.f8.params[j]? = some t → args[j]? = some v → Value.okWide Tryz.prog W .any base t v := hval0
  have hW' := hW
  obtain ⟨p, q, hA0, hV, rfl, hfz, hnd⟩ := hW
  have hA : DataW.TrodAll enc Tryz.prog W 0 (fun _ => true) true Tryz.f8.params.toList args.toList ds p := hA0
  rw [Tryz.params8] at hA hval
  obtain ⟨v0, vs0, d0, ds0, p0, q0, hargs, rfl, rfl, h0, r0⟩ := trodAll_cons hA
  obtain ⟨v1, vs1, d1, ds1, p1, q1, rfl, rfl, rfl, h1, r1⟩ := trodAll_cons r0
  obtain ⟨rfl, rfl, rfl⟩ := trodAll_nil r1
  obtain rfl : args = #[v0, v1] := by cases args; simp_all
  obtain ⟨rfl, rfl⟩ := trodVars_none hV
  simp only [List.append_nil] at hW'
  have hlt : ∀ x ∈ p0 ++ (p1), x.block < W.heap.size := fun x hx => by simpa using hW'.lt x hx
  have h0k := h0
  obtain ⟨x0, rfl, rfl, hp0, wx0⟩ := open_string Tryz.underlying9 (hval 0 9 v0 rfl rfl) h0
  have h1k := h1
  obtain ⟨x1, rfl, rfl, hp1, wx1⟩ := open_int Tryz.underlying5 (hval 1 5 v1 rfl rfl) h1
  clear hA0 hval0
  refine (wrong_any x0 x1 W (by unfold maxLen at wx0; omega) (wf_u8 wx1) (pv_of_laid hL)).mono fun e W' ⟨he, hB⟩ => ?_
  subst he
  refine ⟨_, rfl, _, _, _, [], p0 ++ (p1 ++ []), [], hW', trodAll_mk1 (shut_bool Tryz.underlying4 _), ?_, rfl, hB.frame _, fun h => by cases h⟩
  exact trodAll_cons_mk (Below.trod Tryz.laidOut (by kernel_rfl) (of_decide_eq_true (by kernel_rfl)) h0k hB (fun x hx => hlt x (by simp [hx]))) (trodAll_cons_mk (Below.trod Tryz.laidOut (by kernel_rfl) (of_decide_eq_true (by kernel_rfl)) h1k hB (fun x hx => hlt x (by simp [hx]))) (trodAll_mk0))

theorem parserWrong_said : Rows.ParserWrongSaid :=
  OpenClaim.holds_of_wide 8 Tryz.f8 rfl rfl rfl rfl rfl rfl rfl ⟨rfl, rfl, rfl, rfl, rfl⟩ rfl rfl rfl rfl rfl (by kernel_rfl) Tryz.func8 (by kernel_rfl)
    (of_decide_eq_true (by kernel_rfl)) (by unfold Func.isWrapper; first | (rw [if_pos (by decide +kernel)]; kernel_rfl) | (rw [if_neg (by decide +kernel)]; exact ⟨rfl, rfl⟩))
    (fun os started H enc _ => parserWrong_lifted os started H enc)

theorem parserWrong_holds : Rows.ParserWrongCardSaid :=
  Claim7.holds_tied_plain_at .later [] [.data, .data, .data, .data, .sentinel, .sentinel, .data, .data, .pinned] true Rows.parserWrongCard.stood.harness true
    parserWrong_said (fun _ h => by cases h) (by kernel_rfl) (fun _ h => by cases h) parserWrong_row_tie rfl ⟨rfl, rfl⟩ (by kernel_rfl) rfl
    (fun f fn hf hfn => by
      obtain rfl : f = 8 := Option.some.inj ((show Tryz.prog.funcNamed "formfinder/formfinderlaw03.ParserWrong" = some 8 by kernel_rfl).symm.trans hf) |>.symm
      obtain rfl : fn = Tryz.f8 := (Option.some.inj (Tryz.func8.symm.trans hfn)).symm
      exact ⟨by kernel_rfl, fun j t ht => by
        rw [Tryz.params8] at ht
        have hm : t ∈ ([9, 5] : List Nat) := by simpa using Array.mem_of_getElem? ht
        have hall : (([9, 5] : List Nat).all fun u => !Tryz.prog.wantsStandIn u) = true := by kernel_rfl
        exact (show Tryz.prog.wantsStandIn t = false by simpa using List.all_eq_true.1 hall t hm)⟩)
    (by kernel_rfl)
#print axioms parserWrong_holds
end Go.Proofs.YtgleakjalhkkhaaGreatDoor
