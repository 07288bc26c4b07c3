/- ssa: the rows. -/
import Derived.Test.YtnbgadndkepomaaGreatDoorSaEnd
import Derived.Laws.Tables
import Derived.Deep.MidRow
namespace Go.Proofs.YtnbgadndkepomaaGreatDoor
open Go.RowKit

/-- The rows' cells, by operators. -/
def rowsA : Array Value := #[.int .i64 0, .int .i64 0, .nilFunc, .int .i64 0, .int .i64 5, .func (.func 69) #[] #[], .int .i64 2, .int .i64 1, .func (.func 66) #[] #[], .int .i64 2, .int .i64 1, .func (.func 66) #[] #[], .int .i64 2, .int .i64 1, .func (.func 66) #[] #[], .int .i64 2, .int .i64 1, .func (.func 66) #[] #[], .int .i64 2, .int .i64 1, .func (.func 66) #[] #[], .int .i64 2, .int .i64 1, .func (.func 66) #[] #[], .int .i64 2, .int .i64 1, .func (.func 66) #[] #[], .int .i64 2, .int .i64 1, .func (.func 66) #[] #[], .int .i64 2, .int .i64 1, .func (.func 66) #[] #[], .int .i64 2, .int .i64 1, .func (.func 66) #[] #[], .int .i64 2, .int .i64 1, .func (.func 67) #[] #[], .int .i64 2, .int .i64 1, .func (.func 67) #[] #[], .int .i64 2, .int .i64 1, .func (.func 67) #[] #[], .int .i64 1, .int .i64 1, .func (.func 70) #[] #[], .int .i64 1, .int .i64 1, .func (.func 68) #[] #[], .int .i64 1, .int .i64 1, .func (.func 68) #[] #[], .int .i64 1, .int .i64 5, .func (.func 71) #[] #[], .int .i64 2, .int .i64 1, .func (.func 72) #[] #[], .int .i64 0, .int .i64 0, .nilFunc, .int .i64 1, .int .i64 1, .func (.func 73) #[] #[], .int .i64 0, .int .i64 1, .func (.func 74) #[] #[], .int .i64 0, .int .i64 0, .nilFunc, .int .i64 0, .int .i64 0, .nilFunc, .int .i64 0, .int .i64 0, .nilFunc, .int .i64 0, .int .i64 0, .nilFunc, .int .i64 0, .int .i64 0, .nilFunc, .int .i64 0, .int .i64 0, .nilFunc, .int .i64 0, .int .i64 0, .nilFunc, .int .i64 0, .int .i64 3, .func (.func 75) #[] #[], .int .i64 1, .int .i64 6, .func (.func 76) #[] #[], .int .i64 0, .int .i64 6, .func (.func 77) #[] #[], .int .i64 2, .int .i64 1, .func (.func 78) #[] #[], .int .i64 3, .int .i64 0, .func (.func 79) #[] #[], .int .i64 1, .int .i64 0, .func (.func 80) #[] #[], .int .i64 1, .int .i64 4, .func (.func 81) #[] #[]]
set_option maxRecDepth 100000 in
theorem build_rows (w : World) : (Instr.build 69 #[(1, .agg #[.int .i64 0, .int .i64 5, .func (.func 69) #[] #[]]), (2, .agg #[.int .i64 2, .int .i64 1, .func (.func 66) #[] #[]]), (3, .agg #[.int .i64 2, .int .i64 1, .func (.func 66) #[] #[]]), (4, .agg #[.int .i64 2, .int .i64 1, .func (.func 66) #[] #[]]), (5, .agg #[.int .i64 2, .int .i64 1, .func (.func 66) #[] #[]]), (6, .agg #[.int .i64 2, .int .i64 1, .func (.func 66) #[] #[]]), (7, .agg #[.int .i64 2, .int .i64 1, .func (.func 66) #[] #[]]), (8, .agg #[.int .i64 2, .int .i64 1, .func (.func 66) #[] #[]]), (9, .agg #[.int .i64 2, .int .i64 1, .func (.func 66) #[] #[]]), (10, .agg #[.int .i64 2, .int .i64 1, .func (.func 66) #[] #[]]), (11, .agg #[.int .i64 2, .int .i64 1, .func (.func 66) #[] #[]]), (12, .agg #[.int .i64 2, .int .i64 1, .func (.func 67) #[] #[]]), (13, .agg #[.int .i64 2, .int .i64 1, .func (.func 67) #[] #[]]), (14, .agg #[.int .i64 2, .int .i64 1, .func (.func 67) #[] #[]]), (15, .agg #[.int .i64 1, .int .i64 1, .func (.func 70) #[] #[]]), (16, .agg #[.int .i64 1, .int .i64 1, .func (.func 68) #[] #[]]), (17, .agg #[.int .i64 1, .int .i64 1, .func (.func 68) #[] #[]]), (18, .agg #[.int .i64 1, .int .i64 5, .func (.func 71) #[] #[]]), (19, .agg #[.int .i64 2, .int .i64 1, .func (.func 72) #[] #[]]), (21, .agg #[.int .i64 1, .int .i64 1, .func (.func 73) #[] #[]]), (22, .agg #[.int .i64 0, .int .i64 1, .func (.func 74) #[] #[]]), (30, .agg #[.int .i64 0, .int .i64 3, .func (.func 75) #[] #[]]), (31, .agg #[.int .i64 1, .int .i64 6, .func (.func 76) #[] #[]]), (32, .agg #[.int .i64 0, .int .i64 6, .func (.func 77) #[] #[]]), (33, .agg #[.int .i64 2, .int .i64 1, .func (.func 78) #[] #[]]), (34, .agg #[.int .i64 3, .int .i64 0, .func (.func 79) #[] #[]]), (35, .agg #[.int .i64 1, .int .i64 0, .func (.func 80) #[] #[]]), (36, .agg #[.int .i64 1, .int .i64 4, .func (.func 81) #[] #[]])]).run Tryz.prog w = .ok (.agg rowsA) w := run_build w _ _ _ (by kernel_rfl)
theorem upon_cells {P : Program} {o : Oper} {a : Act} {K : Act → World → Prop} {Q : Exit → Act → World → Prop} {b : Nat} {CH : List Value} {w : World} {T : TypeId} {cs : Array Value} (C2 : List Value) (e : CH = C2) (hb : Box w b T cs) (hs : C2.length = cs.size) (h1 : C2.all (·.oneCell') = true)
    (hK : K (a.put o.dst undef) (w.setCells b 0 C2)) : Oper.upon P o a K Q (((storeCells ⟨b, 0, none⟩ CH).run P w).andThen fun _ w' => .ok .skip w') := by
  subst e
  have hrun := run_storeCells_cells (P := P) b 0 CH 0 w (fun j hj => by
      rw [show (0 + 0 + j) = j by omega, hb.cell j, Array.getElem?_eq_getElem (by omega)]; rfl) (fun j hj => hb.free _) (fun v hv => List.all_eq_true.1 h1 v hv)
  rw [hrun]
  exact hK
theorem Below.setCells' {B b : Nat} {a : World} (hb : B ≤ b) : ∀ (vs : List Value) (o : Nat) (w : World), Below B a w → Below B a (w.setCells b o vs)
  | [], _, _, h => h
  | v :: r, o, _w, h => Below.setCells' hb r (o + 1) _ (Below.setCell h hb v)
theorem results_cell {P : Program} {fn : Func} {tmps : Array Value} {s : Nat} {ty : TypeId} {b : Nat} {v : Value} {w : World} (hr : fn.results = #[.cell s ty]) (hs : tmps.getD s undef = .pointer (some ⟨b, 0, none⟩)) (hl : (loadVar ty ⟨b, 0, none⟩).run P w = .ok v w) :
    (results fn tmps).run P w = .ok v w := by
  have hs2 : tmps[s]?.getD undef = .pointer (some ⟨b, 0, none⟩) := by simpa using hs
  simp only [results, hr]
  simp [hs2, asAddr, hl]
set_option maxRecDepth 100000 in
set_option maxHeartbeats 1600000 in
theorem rows_any {W : World} : Calls Tryz.prog 42 #[] W fun r w' => r = .returned (.agg rowsA) ∧ Below W.heap.size W w' := by
  have hst : ∀ (a : Addr) (f : Fn) (x y : Array Value) (m : Mode) (w : World), (store a (.func f x y) m).run Tryz.prog w = stored Tryz.prog w a (.func f x y) m := fun a f x y m w => run_store Tryz.prog w a _ m rfl
  go_enter Tryz.func42, Tryz.ntmps42
  go_wp2
  have N := (((Box.new W 69 Tryz.zeroCells69).alloc (.cells #[.int .i64 2, .int .i64 1, .func (.func 66) #[] #[]] 68)).alloc (.cells #[.int .i64 2, .int .i64 1, .func (.func 67) #[] #[]] 68)).alloc (.cells #[.int .i64 1, .int .i64 1, .func (.func 68) #[] #[]] 68)
  refine upon_cells rowsA.toList (by kernel_rfl) N (by kernel_rfl) (by kernel_rfl) ?_
  go_wp2
  have hthere : ((((W.alloc (.cells Tryz.zeroCells69 69)).alloc (.cells #[.int .i64 2, .int .i64 1, .func (.func 66) #[] #[]] 68)).alloc (.cells #[.int .i64 2, .int .i64 1, .func (.func 67) #[] #[]] 68)).alloc (.cells #[.int .i64 1, .int .i64 1, .func (.func 68) #[] #[]] 68)).there W.heap.size 0 rowsA.toList.length := fun j hj => by
    have hj2 : j < Tryz.zeroCells69.size := hj
    rw [Nat.zero_add]
    exact ⟨by rw [N.cell j, Array.getElem?_eq_getElem hj2]; rfl, N.free j⟩
  have hr := World.rangeAt_setCells_same _ W.heap.size 0 rowsA.toList hthere
  have hl := run_loadVar_mid (P := Tryz.prog) _ W.heap.size 0 69 rowsA.toList _ hr Tryz.underlying69 rfl (by kernel_rfl)
  have bB : Below W.heap.size W ((((W.alloc (.cells Tryz.zeroCells69 69)).alloc (.cells #[.int .i64 2, .int .i64 1, .func (.func 66) #[] #[]] 68)).alloc (.cells #[.int .i64 2, .int .i64 1, .func (.func 67) #[] #[]] 68)).alloc (.cells #[.int .i64 1, .int .i64 1, .func (.func 68) #[] #[]] 68)) := ((((Below.refl _ _).alloc (Nat.le_refl _) _).alloc (by simp) _).alloc (by simp; omega) _).alloc (by simp; omega) _
  refine bodyPost_ret (v := .agg rowsA) ?_ rfl ⟨rfl, Below.setCells' (Nat.le_refl _) _ _ _ bB⟩
  exact results_cell Tryz.results42 rfl hl
end Go.Proofs.YtnbgadndkepomaaGreatDoor
