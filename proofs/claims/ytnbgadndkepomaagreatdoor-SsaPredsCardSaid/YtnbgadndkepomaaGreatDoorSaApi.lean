/- ssa: Valid, Order, Preds. -/
import Derived.Test.YtnbgadndkepomaaGreatDoorSaEx
namespace Go.Proofs.YtnbgadndkepomaaGreatDoor
open Go.RowKit

set_option maxRecDepth 100000 in
set_option maxHeartbeats 1600000 in
theorem Valid_any {W : World} {c : Cd} {x : Sl} (hx : CdAt W c x) (ok : c.ok) (hv : ErrV W) :
    Calls Tryz.prog 19 #[.agg #[.slice x.S c.st.length x.sc, .slice x.N c.nm.length x.nc, .slice x.I c.ins.length x.ic, .slice x.K c.bk.length x.kc]] W fun e w' => e = .returned (.bool (B (ValidP c))) ∧ Below W.heap.size W w' := by
  have N := Box.new W 27 #[.slice x.S c.st.length x.sc, .slice x.N c.nm.length x.nc, .slice x.I c.ins.length x.ic, .slice x.K c.bk.length x.kc]
  have bA : Below W.heap.size W (W.alloc (.cells #[.slice x.S c.st.length x.sc, .slice x.N c.nm.length x.nc, .slice x.I c.ins.length x.ic, .slice x.K c.bk.length x.kc] 27)) := (Below.refl _ _).alloc (Nat.le_refl _) _
  have hex := Lib.hid (examine_any (hx.later bA) ok (hv.later bA))
  have n0 := N.cell 0
  have n1 := N.cell 1
  have n2 := N.cell 2
  have n3 := N.cell 3
  go_enter Tryz.func19, Tryz.ntmps19
  go_wp2_with fail
  refine hex.out.mono ?_
  rintro e w2 ⟨r, v, rfl, hvv, b2, _⟩
  have hvv2 := Lib.hid hvv
  clear hvv hex n0 n1 n2 n3
  go_wp2
  go_ret
  exact ⟨by rw [← hvv2.out]; rfl, bA.trans (b2.mono bA.size)⟩
/-- A list of numbers and an error. -/
def ListE (W : World) (l : List Int) (er : Int) (e : Ending) (w' : World) : Prop :=
  ∃ A q, e = .returned (.tuple #[.slice A l.length q, .int .i64 er]) ∧ l.length ≤ q ∧ q ≤ maxLen ∧ IRow w' A l ∧ Below W.heap.size W w'
/-- A list of lists of numbers and an error. -/
def RowsE (W : World) (l : List (List Int)) (er : Int) (e : Ending) (w' : World) : Prop :=
  ∃ A q, e = .returned (.tuple #[.slice A l.length q, .int .i64 er]) ∧ l.length ≤ q ∧ q ≤ maxLen ∧ LRow w' A l ∧ Below W.heap.size W w'
open Classical in
noncomputable def orderE (c : Cd) : List Int × Int := if ValidP c then (nats (orderOf (succs c) c.bk.length), 0) else ([], 1)
open Classical in
noncomputable def predsE (c : Cd) : List (List Int) × Int := if ValidP c then ((List.range c.bk.length).map fun t => nats (predsOf (succs c) c.bk.length t), 0) else ([], 1)
set_option maxRecDepth 100000 in
set_option maxHeartbeats 1600000 in
theorem Order_any {W : World} {c : Cd} {x : Sl} (hx : CdAt W c x) (ok : c.ok) (hv : ErrV W) :
    Calls Tryz.prog 13 #[.agg #[.slice x.S c.st.length x.sc, .slice x.N c.nm.length x.nc, .slice x.I c.ins.length x.ic, .slice x.K c.bk.length x.kc]] W (ListE W (orderE c).1 (orderE c).2) := by
  have N := Box.new W 27 #[.slice x.S c.st.length x.sc, .slice x.N c.nm.length x.nc, .slice x.I c.ins.length x.ic, .slice x.K c.bk.length x.kc]
  have bA : Below W.heap.size W (W.alloc (.cells #[.slice x.S c.st.length x.sc, .slice x.N c.nm.length x.nc, .slice x.I c.ins.length x.ic, .slice x.K c.bk.length x.kc] 27)) := (Below.refl _ _).alloc (Nat.le_refl _) _
  have hex := Lib.hid (examine_any (hx.later bA) ok (hv.later bA))
  have n0 := N.cell 0
  have n1 := N.cell 1
  have n2 := N.cell 2
  have n3 := N.cell 3
  have hE1 : Hid (ValidP c → orderE c = (nats (orderOf (succs c) c.bk.length), 0)) := Lib.hid (fun h => if_pos h)
  have hE2 : Hid (¬ ValidP c → orderE c = ([], 1)) := Lib.hid (fun h => if_neg h)
  generalize orderE c = oe at hE1 hE2
  go_enter Tryz.func13, Tryz.ntmps13
  go_wp2_with fail
  refine hex.out.mono ?_
  rintro e w2 ⟨r, v, rfl, hvv, b2, hyes⟩
  have hvv2 := Lib.hid hvv
  have bW := bA.trans (b2.mono bA.size)
  clear hvv hex n0 n1 n2 n3
  cases v with
  | false =>
    have hnv : ¬ ValidP c := B_false.1 hvv2.out.symm
    obtain rfl := hE2.out hnv
    clear hyes hE1 hE2
    go_wp2
    refine bodyPost_ret (v := .tuple #[.slice none 0 0, .int .i64 1]) (by simp [results, Tryz.results13, go_sem]) rfl ?_
    exact ⟨none, 0, rfl, Nat.le_refl _, by unfold maxLen; omega, (fun i hi => by simp at hi), bW⟩
  | true =>
    have hvd : ValidP c := B_true.1 hvv2.out.symm
    obtain rfl := hE1.out hvd
    obtain ⟨p, cs, rfl, hX⟩ := hyes rfl
    obtain ⟨g, q, h117, l1, l2, hrow⟩ := hX.ord
    have k117 : w2.cell? ⟨p, 117, none⟩ = some (.slice (some ⟨g, 0, none⟩) (orderOf (succs c) c.bk.length).length q) := by rw [hX.cod.box.cell]; exact h117
    clear hyes hE1 hE2 hX h117
    go_wp2
    refine bodyPost_ret (v := .tuple #[.slice (some ⟨g, 0, none⟩) (orderOf (succs c) c.bk.length).length q, .int .i64 0]) (by simp [results, Tryz.results13, go_sem]) rfl ?_
    exact ⟨some ⟨g, 0, none⟩, q, by simp, by simpa using l1, l2, hrow, bW⟩
set_option maxRecDepth 100000 in
set_option maxHeartbeats 1600000 in
theorem Preds_any {W : World} {c : Cd} {x : Sl} (hx : CdAt W c x) (ok : c.ok) (hv : ErrV W) :
    Calls Tryz.prog 15 #[.agg #[.slice x.S c.st.length x.sc, .slice x.N c.nm.length x.nc, .slice x.I c.ins.length x.ic, .slice x.K c.bk.length x.kc]] W (RowsE W (predsE c).1 (predsE c).2) := by
  have N := Box.new W 27 #[.slice x.S c.st.length x.sc, .slice x.N c.nm.length x.nc, .slice x.I c.ins.length x.ic, .slice x.K c.bk.length x.kc]
  have bA : Below W.heap.size W (W.alloc (.cells #[.slice x.S c.st.length x.sc, .slice x.N c.nm.length x.nc, .slice x.I c.ins.length x.ic, .slice x.K c.bk.length x.kc] 27)) := (Below.refl _ _).alloc (Nat.le_refl _) _
  have hex := Lib.hid (examine_any (hx.later bA) ok (hv.later bA))
  have n0 := N.cell 0
  have n1 := N.cell 1
  have n2 := N.cell 2
  have n3 := N.cell 3
  have hE1 : Hid (ValidP c → predsE c = ((List.range c.bk.length).map fun t => nats (predsOf (succs c) c.bk.length t), 0)) := Lib.hid (fun h => if_pos h)
  have hE2 : Hid (¬ ValidP c → predsE c = ([], 1)) := Lib.hid (fun h => if_neg h)
  generalize predsE c = oe at hE1 hE2
  go_enter Tryz.func15, Tryz.ntmps15
  go_wp2_with fail
  refine hex.out.mono ?_
  rintro e w2 ⟨r, v, rfl, hvv, b2, hyes⟩
  have hvv2 := Lib.hid hvv
  have bW := bA.trans (b2.mono bA.size)
  clear hvv hex n0 n1 n2 n3
  cases v with
  | false =>
    have hnv : ¬ ValidP c := B_false.1 hvv2.out.symm
    obtain rfl := hE2.out hnv
    clear hyes hE1 hE2
    go_wp2
    refine bodyPost_ret (v := .tuple #[.slice none 0 0, .int .i64 1]) (by simp [results, Tryz.results15, go_sem]) rfl ?_
    exact ⟨none, 0, rfl, Nat.le_refl _, by unfold maxLen; omega, (fun i hi => by simp at hi), bW⟩
  | true =>
    have hvd : ValidP c := B_true.1 hvv2.out.symm
    obtain rfl := hE1.out hvd
    obtain ⟨p, cs, rfl, hX⟩ := hyes rfl
    obtain ⟨g, V, B, h118, hpt⟩ := hX.pre
    have k118 : w2.cell? ⟨p, 118, none⟩ = some (.slice (some ⟨g, 0, none⟩) c.bk.length c.bk.length) := by rw [hX.cod.box.cell]; exact h118
    have hn := hvd.1.1.1.2.2.1.2
    clear hyes hE1 hE2 hX h118
    go_wp2
    refine bodyPost_ret (v := .tuple #[.slice (some ⟨g, 0, none⟩) c.bk.length c.bk.length, .int .i64 0]) (by simp [results, Tryz.results15, go_sem]) rfl ?_
    exact ⟨some ⟨g, 0, none⟩, c.bk.length, by simp, by simp, by unfold maxLen; omega, hpt.lrow (by simp) (fun t ht => by simp), bW⟩
end Go.Proofs.YtnbgadndkepomaaGreatDoor
