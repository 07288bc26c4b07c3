/- Joined texts: SaEq, SaSev. -/
import Derived.Test.YtnbgadndkepomaaGreatDoorSQG
import Derived.Laws.StructEq

/- ssa: sets compared. -/
namespace Go.Proofs.YtnbgadndkepomaaGreatDoor
open Go.RowKit

theorem equal_sets (w : World) (d : Nat) (a0 a1 a2 a3 a4 a5 a6 b0 b1 b2 b3 b4 b5 b6 : Nat) :
    (Op.equalIn (d + 1 + 1) 108 (.agg #[.int .u64 a0, .int .u64 a1, .int .u64 a2, .int .u64 a3, .int .u64 a4, .int .u64 a5, .int .u64 a6]) (.agg #[.int .u64 b0, .int .u64 b1, .int .u64 b2, .int .u64 b3, .int .u64 b4, .int .u64 b5, .int .u64 b6])).run Tryz.prog w =
      .ok (decide ([a0, a1, a2, a3, a4, a5, a6] = [b0, b1, b2, b3, b4, b5, b6])) w := by
  have hu : Tryz.prog.underlying 108 = some (.array 7 45) := by kernel_rfl
  have he : Tryz.prog.underlying 45 = some (.int .u64) := by kernel_rfl
  have hs : ∀ w, (sizeOf 45).run Tryz.prog w = .ok 1 w := fun w => by
    have : Tryz.prog.info? 45 = some Tryz.t45 := by kernel_rfl
    simp [sizeOf, typeInfo, this]
    rfl
  have hi := fun (w : World) (a b : Nat) => run_equalIn_int (P := Tryz.prog) w d 45 .u64 .u64 (a : Int) (b : Int) he
  rw [Op.equalIn]
  simp only [Sem.run_bind, run_underlying hu, Result.andThen_ok, hs]
  simp [Std.Legacy.Range.forIn_eq_forIn_range', List.range', hi, go_sem]
  have e : ∀ a b : Nat, ((a : Int) = (b : Int)) = (a = b) := fun a b => propext Int.natCast_inj
  simp only [e]
  repeat' split
  all_goals simp_all
end Go.Proofs.YtnbgadndkepomaaGreatDoor

/- ssa: one set stored whole. -/
namespace Go.Proofs.YtnbgadndkepomaaGreatDoor
open Go.RowKit

theorem Box.drew {w : World} {b : Nat} {T : TypeId} {cs : Array Value} (h : Box w b T cs) : Box w.drew b T cs := h
theorem Box.seven {w : World} {b : Nat} {T : TypeId} {D : List Bs} (h : Box w b T (u64s D.flatten)) (h7 : len7 D) {e : Nat} (he : e < D.length) (a0 a1 a2 a3 a4 a5 a6 : Nat) :
    Box (((((((w.setCell ⟨b, e * 7, none⟩ (.int .u64 (a0 : Nat))).setCell ⟨b, e * 7 + 1, none⟩ (.int .u64 (a1 : Nat))).setCell ⟨b, e * 7 + 2, none⟩ (.int .u64 (a2 : Nat))).setCell ⟨b, e * 7 + 3, none⟩ (.int .u64 (a3 : Nat))).setCell ⟨b, e * 7 + 4, none⟩ (.int .u64 (a4 : Nat))).setCell ⟨b, e * 7 + 5, none⟩ (.int .u64 (a5 : Nat))).setCell ⟨b, e * 7 + 6, none⟩ (.int .u64 (a6 : Nat))) b T (u64s (D.set e [a0, a1, a2, a3, a4, a5, a6]).flatten) := by
  rw [← set_seven h7 he]
  exact (((((((h.set (e * 7) (.int .u64 (a0 : Nat))).set (e * 7 + 1) (.int .u64 (a1 : Nat))).set (e * 7 + 2) (.int .u64 (a2 : Nat))).set (e * 7 + 3) (.int .u64 (a3 : Nat))).set (e * 7 + 4) (.int .u64 (a4 : Nat))).set (e * 7 + 5) (.int .u64 (a5 : Nat))).set (e * 7 + 6) (.int .u64 (a6 : Nat)))
theorem But.seven (w : World) (b e : Nat) (a0 a1 a2 a3 a4 a5 a6 : Nat) : But b w (((((((w.setCell ⟨b, e * 7, none⟩ (.int .u64 (a0 : Nat))).setCell ⟨b, e * 7 + 1, none⟩ (.int .u64 (a1 : Nat))).setCell ⟨b, e * 7 + 2, none⟩ (.int .u64 (a2 : Nat))).setCell ⟨b, e * 7 + 3, none⟩ (.int .u64 (a3 : Nat))).setCell ⟨b, e * 7 + 4, none⟩ (.int .u64 (a4 : Nat))).setCell ⟨b, e * 7 + 5, none⟩ (.int .u64 (a5 : Nat))).setCell ⟨b, e * 7 + 6, none⟩ (.int .u64 (a6 : Nat))) := (((((((But.set _).trans (But.set _)).trans (But.set _)).trans (But.set _)).trans (But.set _)).trans (But.set _)).trans (But.set _))
end Go.Proofs.YtnbgadndkepomaaGreatDoor
