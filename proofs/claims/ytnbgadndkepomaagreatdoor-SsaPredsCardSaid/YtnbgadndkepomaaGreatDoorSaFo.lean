/- ssa: the blocks in reverse postorder. -/
import Derived.Test.YtnbgadndkepomaaGreatDoorSaOrd
import Derived.Test.YtnbgadndkepomaaGreatDoorShelf
import Derived.Laws.IdiomCopy
import Derived.Laws.EntriesVeiled
namespace Go.Proofs.YtnbgadndkepomaaGreatDoor
open Go.RowKit

theorem But.setCells (g : Nat) : ∀ (vs : List Value) (o : Nat) (w : World), But g w (w.setCells g o vs)
  | [], _, w => But.refl g w
  | v :: vs, o, w => (But.set v).trans (But.setCells g vs (o + 1) (w.setCell ⟨g, o, none⟩ v))
theorem mk_bools (n : Nat) (hn : n ≤ 100000) (w : World) : (Instr.makeSlice 38 (.int .i64 n) (.int .i64 n)).run Tryz.prog w = .ok (.slice (some ⟨w.heap.size, 0, none⟩) n n) (w.alloc (.cells (bools [] n) 4)) := by
  have h := run_makeSlice (P := Tryz.prog) (w := w) 38 4 Tryz.t4 (.bool false) Tryz.underlying38 (by kernel_rfl) (by kernel_rfl) .i64 .i64 (n : Int) (n : Int) (by omega) (Int.le_refl _) (by show (n : Int).toNat * 1 ≤ _; omega) (by show ((1 : Nat) : Int) * (n : Int) ≤ _; omega) (by omega)
  rw [h]
  have e : madeCells (Value.cells (.bool false)) ((n : Int).toNat * Tryz.t4.size) = bools [] n := by
    show madeCells #[Value.bool false] ((n : Int).toNat * 1) = _
    rw [Int.toNat_natCast, Nat.mul_one]
    apply Array.ext
    · simp [madeCells, bools, vals]
    · intro i h1 h2
      simp [madeCells, bools, vals, Nat.mod_one]
  rw [e]
  simp
theorem Kp.but {p be : Nat} {W w w' : World} (bA : Below W.heap.size W w) (h : Kp p be (.slice none 0 0) w w') (hbe : W.heap.size ≤ be) : But p W w' :=
  ⟨h.os.trans bA.os, h.tape.trans bA.tape, h.output.trans bA.output, Nat.le_trans bA.size h.size, fun k hk hn =>
    (h.block k (Nat.lt_of_lt_of_le hk bA.size) hn (by omega) (by simp [Value.ownBlock])).trans (bA.block k hk)⟩
/-- What is known of the order. -/
def FoPost (W0 W : World) (p : Nat) (c : Cd) (x : Sl) (cs : Array Value) (e : Ending) (w' : World) : Prop :=
  e = .returned (.tuple #[]) ∧ ∃ (g q : Nat), W.heap.size ≤ g ∧ (orderOf (succs c) c.bk.length).length ≤ q ∧ q ≤ maxLen ∧ Cod W0 w' p c x (cs.setIfInBounds 117 (.slice (some ⟨g, 0, none⟩) (orderOf (succs c) c.bk.length).length q)) ∧
    IRow w' (some ⟨g, 0, none⟩) (nats (orderOf (succs c) c.bk.length)) ∧ But p W w'
set_option maxRecDepth 100000 in
set_option maxHeartbeats 3200000 in
theorem findOrder_any {W0 W : World} {p : Nat} {c : Cd} {x : Sl} {cs : Array Value} (h : Cod W0 W p c x cs) (h117 : cs[117]? = some (.slice none 0 0)) (h0 : 0 < c.bk.length) (hn : c.bk.length ≤ 400) (he : EndsP c) :
    Calls Tryz.prog 48 #[.pointer (some ⟨p, 0, none⟩)] W (FoPost W0 W p c x cs) := by
  have hpW := h.box.lt
  have hW0 := h.below.size
  have s3 := h.pt.s3
  have hcs : cs.setIfInBounds 117 (.slice none 0 0) = cs := by
    apply Array.ext_getElem?
    intro i
    by_cases e : 117 = i
    · subst e
      rw [Array.getElem?_setIfInBounds_self_of_lt (by rw [h.sz]; omega), h117]
    · rw [Array.getElem?_setIfInBounds_ne e]
  have a1 : Below W.heap.size W (W.alloc (.cells #[.pointer (some ⟨p, 0, none⟩)] 63)) := (Below.refl _ _).alloc (Nat.le_refl _) _
  have s3b := cell_later a1 s3
  have mk1 := fun w => mk_bools c.bk.length (by omega) w
  go_enter Tryz.func48, Tryz.ntmps48
  have N1 := Box.new W 63 #[.pointer (some ⟨p, 0, none⟩)]
  have N2 := Box.newAt (X := W.alloc (.cells #[.pointer (some ⟨p, 0, none⟩)] 63)) (n := W.heap.size + 1) (by simp) 4 (bools [] c.bk.length)
  have N3 := Box.newAt (X := (W.alloc (.cells #[.pointer (some ⟨p, 0, none⟩)] 63)).alloc (.cells (bools [] c.bk.length) 4)) (n := W.heap.size + 1 + 1) (by simp) 38 #[.slice (some ⟨W.heap.size + 1, 0, none⟩) c.bk.length c.bk.length]
  have N4 := Box.newAt (X := ((W.alloc (.cells #[.pointer (some ⟨p, 0, none⟩)] 63)).alloc (.cells (bools [] c.bk.length) 4)).alloc (.cells #[.slice (some ⟨W.heap.size + 1, 0, none⟩) c.bk.length c.bk.length] 38)) (n := W.heap.size + 1 + 1 + 1) (by simp) 104 #[.nilFunc]
  have bA : Below W.heap.size W ((((W.alloc (.cells #[.pointer (some ⟨p, 0, none⟩)] 63)).alloc (.cells (bools [] c.bk.length) 4)).alloc (.cells #[.slice (some ⟨W.heap.size + 1, 0, none⟩) c.bk.length c.bk.length] 38)).alloc (.cells #[.nilFunc] 104)) := ((a1.alloc (by simp) _).alloc (by simp; omega) _).alloc (by simp; omega) _
  replace N1 := ((N1.alloc (.cells (bools [] c.bk.length) 4)).alloc (.cells #[.slice (some ⟨W.heap.size + 1, 0, none⟩) c.bk.length c.bk.length] 38)).alloc (.cells #[.nilFunc] 104)
  replace N2 := (N2.alloc (.cells #[.slice (some ⟨W.heap.size + 1, 0, none⟩) c.bk.length c.bk.length] 38)).alloc (.cells #[.nilFunc] 104)
  replace N3 := N3.alloc (.cells #[.nilFunc] 104)
  have hA := h.later bA
  go_upto_region 3 with fail
  obtain ⟨w3, hw3⟩ : ∃ Y, (((W.alloc (.cells #[.pointer (some ⟨p, 0, none⟩)] 63)).alloc (.cells (bools [] c.bk.length) 4)).alloc (.cells #[.slice (some ⟨W.heap.size + 1, 0, none⟩) c.bk.length c.bk.length] 38)).alloc (.cells #[.nilFunc] 104) = Y := ⟨_, rfl⟩
  rw [hw3] at N1 N2 N3 N4 bA hA
  simp only [hw3]
  clear hw3 mk1 s3b a1 s3
  have z4 := N4.cell 0
  have f4 := N4.free 0
  have hsz := N4.lt
  go_upto_region 4 with fail

  replace N1 := N1.far (b' := W.heap.size + 1 + 1 + 1) (i := 0) (by omega) (entV W.heap.size (W.heap.size + 1 + 1) (W.heap.size + 1 + 1 + 1))
  replace N2 := N2.far (b' := W.heap.size + 1 + 1 + 1) (i := 0) (by omega) (entV W.heap.size (W.heap.size + 1 + 1) (W.heap.size + 1 + 1 + 1))
  replace N3 := N3.far (b' := W.heap.size + 1 + 1 + 1) (i := 0) (by omega) (entV W.heap.size (W.heap.size + 1 + 1) (W.heap.size + 1 + 1 + 1))
  replace N4 := N4.set 0 (entV W.heap.size (W.heap.size + 1 + 1) (W.heap.size + 1 + 1 + 1))
  replace N4 : Box (w3.setCell ⟨W.heap.size + 1 + 1 + 1, 0, none⟩ (entV W.heap.size (W.heap.size + 1 + 1) (W.heap.size + 1 + 1 + 1))) (W.heap.size + 1 + 1 + 1) 104 #[entV W.heap.size (W.heap.size + 1 + 1) (W.heap.size + 1 + 1 + 1)] := N4
  replace hA := hA.far (b := W.heap.size + 1 + 1 + 1) (i := 0) (by omega) (by omega) (entV W.heap.size (W.heap.size + 1 + 1) (W.heap.size + 1 + 1 + 1))
  replace bA := bA.setCell (show W.heap.size ≤ (⟨W.heap.size + 1 + 1 + 1, 0, none⟩ : Addr).block by show W.heap.size ≤ W.heap.size + 1 + 1 + 1; omega) (entV W.heap.size (W.heap.size + 1 + 1) (W.heap.size + 1 + 1 + 1))
  have hWk : Wk W0 (w3.setCell ⟨W.heap.size + 1 + 1 + 1, 0, none⟩ (entV W.heap.size (W.heap.size + 1 + 1) (W.heap.size + 1 + 1 + 1))) p c x cs W.heap.size (W.heap.size + 1) W.heap.size (W.heap.size + 1 + 1) (W.heap.size + 1 + 1 + 1) (.slice none 0 0) [] [] := ⟨by rw [hcs]; exact hA, World.ownsRow_nil _ _ _ _, N2, N1, N3, N4⟩
  clear z4 f4 hsz
  have hent : entV W.heap.size (W.heap.size + 1 + 1) (W.heap.size + 1 + 1 + 1) = .func (.func 96) #[] #[.pointer (some ⟨W.heap.size + 1 + 1, 0, none⟩), .pointer (some ⟨W.heap.size, 0, none⟩), .pointer (some ⟨W.heap.size + 1 + 1 + 1, 0, none⟩)] := rfl
  rw [hent] at N1 N2 N3 N4 hA bA hWk
  obtain ⟨w4, hw4⟩ : ∃ Y, w3.setCell ⟨W.heap.size + 1 + 1 + 1, 0, none⟩ (.func (.func 96) #[] #[.pointer (some ⟨W.heap.size + 1 + 1, 0, none⟩), .pointer (some ⟨W.heap.size, 0, none⟩), .pointer (some ⟨W.heap.size + 1 + 1 + 1, 0, none⟩)]) = Y := ⟨_, rfl⟩
  rw [hw4] at N1 N2 N3 N4 bA hA hWk
  simp only [hw4]
  clear hw4 hent
  have n4 := N4.cell 0
  have n1 := N1.cell 0
  have hcl := enter_any hn he hW0 (Nat.le_succ _) hpW c.bk.length 0 _ [] [] w4 hWk ⟨List.nodup_nil, by simp⟩ (by simp) (by simp) h0 (by simp)
  have hord : Hid ((visit (succs c) c.bk.length 0 ([], [])).2 = orderOf (succs c) c.bk.length) := Lib.hid rfl
  obtain ⟨⟨M, L⟩, hr⟩ : ∃ q, Hid (visit (succs c) c.bk.length 0 ([], []) = q) := ⟨_, Lib.hid rfl⟩
  rw [hr.out] at hcl hord
  replace hcl := Lib.hid hcl
  go_wp2_with fail
  refine hcl.out.mono ?_
  rintro r w5 ⟨rfl, V', hW5, hK5, hL5⟩
  clear hcl n4 n1 hWk N1 N2 N3 N4 hA
  have B5 := hK5.but bA (by omega)
  have hL : Hid (L ≠ []) := Lib.hid (by
    obtain ⟨q, e, _⟩ := order_is (s := succs c) (n := c.bk.length) (fun y t ht => (succ_lt he ht).1) h0
    rw [hord.out, e]; simp)
  have hLn : L.length ≤ 400 := by
    obtain ⟨q, e, _, nd, hq, _⟩ := order_is (s := succs c) (n := c.bk.length) (fun y t ht => (succ_lt he ht).1) h0
    rw [hord.out, e]
    have := MetOk.le (n := c.bk.length) ⟨nd, hq⟩
    omega
  obtain ⟨g, cap, hV, hg1, hg2⟩ := World.ownsRow.form hW5.own (by have := List.length_pos_iff.2 hL.out; simpa using this)
  have ho := hW5.own
  rw [hV] at ho
  obtain ⟨A0, c0, e0, lc1, lc2, hRow⟩ := ho.read
  injection e0 with e1 _ e3
  subst e1 e3
  have hcod := hW5.cod
  rw [hV] at hcod
  have hbx : ∃ cur, Box w5 g 3 cur := by
    rcases ho.2 with ⟨e, _⟩ | ⟨g', cap', cur, e, _, hg, _⟩
    · cases e
    · injection e with e1 _ _
      injection e1 with e1
      injection e1 with e1 _ _
      subst e1
      exact ⟨cur, hg⟩
  obtain ⟨cur, hbx⟩ := hbx
  have hfz : ∀ j, w5.frozen? ⟨g, 0 + j, none⟩ = false := fun j => hbx.free (0 + j)
  have hcell : (cs.setIfInBounds 117 (.slice (some ⟨g, 0, none⟩) (nats L.reverse).length cap))[117]? = some (.slice (some ⟨g, 0, none⟩) (nats L.reverse).length cap) := by rw [Array.getElem?_setIfInBounds_self_of_lt (by rw [h.sz]; omega)]
  have kp : w5.cell? ⟨p, 117, none⟩ = some (.slice (some ⟨g, 0, none⟩) (nats L.reverse).length cap) := by rw [hcod.box.cell]; exact hcell
  have k1 := hW5.k1.cell 0
  have hlen : (nats L.reverse).length = L.length := by simp
  have hrev : ((nats L.reverse).take (nats L.reverse).length).reverse = nats L := by rw [List.take_length]; simp
  have hrow2 : ∀ j, j < (nats L.reverse).length → w5.cell? ⟨g, 0 + j, none⟩ = some (.int .i64 ((nats L.reverse).getD j 0)) := fun j hj => by
    obtain ⟨g', o', e, h2⟩ := hRow j hj
    injection e with e
    injection e with e1 e2 _
    subst e1 e2
    rw [h2, List.getD_eq_getElem?_getD, List.getElem?_eq_getElem hj]
    rfl
  have hpg : p ≠ g := by omega
  have hWg : W0.heap.size ≤ g := by omega
  have hcall := Tryz.slices_Reverse_int_cells g 0 (nats L.reverse).length cap (nats L.reverse) w5 (Nat.le_refl _) (by rw [hlen]; omega) hrow2 (fun j _ => hfz j)
  rw [hrev] at hcall
  replace hlen := Lib.hid hlen
  replace hord := Lib.hid hord.out
  have hrow3 : ∀ j, j < (nats L.reverse).length → (w5.cell? ⟨g, 0 + j, none⟩).isSome = true := fun j hj => by rw [hrow2 j hj]; rfl
  replace hrow3 := Lib.hid hrow3
  clear hfz hrow2 hrev hRow hcell hV hW5 hK5 hL5 hr hbx
  obtain ⟨m, hm⟩ : ∃ m, Hid ((nats L.reverse).length = m) := ⟨_, Lib.hid rfl⟩
  rw [hm.out] at kp hcall hcod hlen lc1 ho hrow3
  replace hcall := Lib.hid hcall
  clear ho
  go_wp2_with fail
  refine hcall.out.mono ?_
  rintro r w6 ⟨rfl, qn, e6⟩
  replace e6 := Lib.hid e6
  have B6 : But g w5 w6 := by rw [e6.out]; exact (But.of (Drew.below ⟨qn, rfl⟩)).trans (But.setCells _ _ _ _)
  have hC6 := hcod.but B6 hWg hpg
  have B7 := B5.own (by omega) B6
  clear kp k1 hcall
  go_wp2
  refine ⟨rfl, _, results_none rfl _ _ _, ?_⟩
  refine ⟨rfl, g, cap, by omega, ?_, lc2, ?_, ?_, B7⟩
  · rw [← hord.out, ← hlen.out]; exact lc1
  · rw [← hord.out, ← hlen.out]; exact hC6
  · rw [← hord.out]
    intro i hi
    refine ⟨g, 0, rfl, ?_⟩
    have h1 : i < ((nats L).map (Value.int .i64)).length := by simpa using hi
    rw [e6.out, World.cell?_setCells_in g _ 0 (w5.drewN qn) (fun j hj => by
      have := hrow3.out j (by rw [hlen.out]; simpa using hj)
      exact this) i h1]
    simp
end Go.Proofs.YtnbgadndkepomaaGreatDoor
