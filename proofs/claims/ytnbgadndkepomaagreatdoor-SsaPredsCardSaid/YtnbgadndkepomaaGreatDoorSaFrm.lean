/- What the listed variables hold when a call of layer 6's laws begins; codes among the arguments. -/
import Derived.Test.YtnbgadndkepomaaGreatDoorSaFr
import Derived.Test.YtnbgadndkepomaaGreatDoorRows
import Derived.Test.YtnbgadndkepomaaGreatDoorTie
import Derived.ProofKit
import Derived.LaidMore
import Derived.Lay
import Derived.OpenShut
import Derived.MakeChecks
import Derived.Lib.LaidTab
import Derived.Lib.SmallJoins
namespace Go.Proofs.YtnbgadndkepomaaGreatDoor
open Go.ChangeShapes Go.WideShapes Go.ChangeAt Go.RowKit

theorem Tryz.own : ownKnob Tryz.prog.godebug = none := by kernel_rfl
theorem Tryz.laidOut : laidOutB Tryz.prog = true := by kernel_rfl
/-- What all the statements list. -/
def laidP : List (String × DataW Unit) := Rows.ssaDefinedRow.laid

set_option maxRecDepth 100000 in
theorem lay_met (os : Os) (args : Array Value) : laidMetH Tryz.prog laidP ((World.laidAll Tryz.prog os laidP).forCall (fun _ _ => 0) ⟨#[], args, []⟩).memory := by
  rw [MakeChecks.laidMetH_plain _ _ _ (by kernel_rfl)]; exact laidMet_laidAll args (by kernel_rfl) (by kernel_rfl)

theorem laid_reads {P : Program} {w : World} : ∀ {l : List (String × DataW Unit)} {ps : List MemPlace}, DataW.LaidVars P w l ps → ∀ n d, (n, d) ∈ l →
    ∃ g t cs fuel p, P.globalNamed n = some g ∧ (P.globals[g]?).map (·.type) = some t ∧ w.var? P n = some cs ∧ DataW.trod (fun _ => ()) P w 0 (fun _ => true) false fuel t cs.toList = some (d, p)
  | [], _, _, _, _, hm => by cases hm
  | (n', d') :: r, ps, h, n, d, hm => by
    obtain ⟨g, t, cs, fuel, p, q, h1, h2, h3, h4, h5, _⟩ := h
    rcases List.mem_cons.1 hm with e | e
    · cases e
      exact ⟨g, t, cs, fuel, p, h1, h2, h3, h4⟩
    · exact laid_reads h5 n d e

theorem trod_err {H : Type} {enc : TypeId × Value → H} {P : Program} {w : World} {base : Nat} {sp : Nat → Bool} {fuel : Nat} {t : TypeId} {ms : Array (String × TypeId)} {cs : List Value} {n : String} {d : DataW H} {p : List MemPlace}
    (ht : P.underlying t = some (.interface ms)) (h : DataW.trod enc P w base sp false fuel t cs = some (.iface n d, p)) : ∃ u v, cs = [.iface u v] := by
  cases fuel with
  | zero => simp [DataW.trod] at h
  | succ k =>
    unfold DataW.trod at h
    rw [ht] at h
    split at h <;> simp_all

theorem err_cell {W : World} {name : String} {g : Nat} {t : TypeId} {ms : Array (String × TypeId)} {s : String} {d : DataW Unit} (hm : (name, .iface s d) ∈ laidP)
    (hg : Tryz.prog.globalNamed name = some g) (hty : (Tryz.prog.globals[g]?).map (·.type) = some t) (ht : Tryz.prog.underlying t = some (.interface ms))
    (h : laidMet Tryz.prog laidP W) : ∃ te pe, W.cell? ⟨g, 0, none⟩ = some (.iface te pe) := by
  obtain ⟨_, hv, _⟩ := h
  obtain ⟨g', t', cs, fuel, p, hg', ht', hvar, hd⟩ := laid_reads hv name _ hm
  obtain rfl := Option.some.inj (hg.symm.trans hg')
  obtain rfl := Option.some.inj (hty.symm.trans ht')
  obtain ⟨u, v, e⟩ := trod_err ht hd
  refine ⟨u, v, ?_⟩
  have := World.var?_cell hg hvar 0
  rw [Array.eq_one_of_toList e] at this
  simpa using this

set_option maxRecDepth 100000 in
theorem errV_of_laid {W : World} (h : laidMet Tryz.prog laidP W) : ErrV W :=
  err_cell (name := "strconv.ErrSyntax") (t := 137) (List.mem_of_getElem (i := 4) (h := by decide) rfl) (by kernel_rfl) (by kernel_rfl) Tryz.underlying137 h
set_option maxRecDepth 100000 in
/-- A code among the arguments. -/
theorem code_arg {H : Type} {enc : TypeId × Value → H} {W : World} {base : Nat} {sp : Nat → Bool} {held : Bool} {r : Reach} {b0 : Nat} {v : Value} {d : DataW H} {p : List MemPlace} (hv : Value.okWide Tryz.prog W r b0 27 v) (h : DataW.Trod enc Tryz.prog W base sp held 27 v d p) :
    ∃ (c : Cd) (x : Sl), v = .agg #[.slice x.S c.st.length x.sc, .slice x.N c.nm.length x.nc, .slice x.I c.ins.length x.ic, .slice x.K c.bk.length x.kc] ∧ CdAt W c x ∧ c.ok := by
  obtain ⟨cs, rfl, hsz⟩ := okWide_struct Tryz.underlying27 hv
  obtain ⟨l⟩ := cs
  have hC : Tryz.prog.cellsOf 27 = 4 := by kernel_rfl
  match l, hsz.trans hC with
  | [c0, c1, c2, c3], _ =>
    obtain ⟨fuel, hf⟩ := h
    have hf2 : DataW.trod enc Tryz.prog W base sp held fuel 27 [c0, c1, c2, c3] = some (d, p) := by simpa [Value.cells] using hf
    obtain ⟨S, sn, sc, n0, y0, e0, h0⟩ := slice_fld (j := 0) (off := 0) (ft := 22) (by kernel_rfl) (by kernel_rfl) Tryz.underlying22 hf2
    obtain ⟨N, nn, nc, n1, y1, e1, h1⟩ := slice_fld (j := 1) (off := 1) (ft := 23) (by kernel_rfl) (by kernel_rfl) Tryz.underlying23 hf2
    obtain ⟨I, inn, ic, n2, y2, e2, h2⟩ := slice_fld (j := 2) (off := 2) (ft := 24) (by kernel_rfl) (by kernel_rfl) Tryz.underlying24 hf2
    obtain ⟨K, kn, kc, n3, y3, e3, h3⟩ := slice_fld (j := 3) (off := 3) (ft := 25) (by kernel_rfl) (by kernel_rfl) Tryz.underlying25 hf2
    simp at e0 e1 e2 e3
    subst e0 e1 e2 e3
    obtain ⟨a1, a2, st, rfl, a4, a5⟩ := lists_arg h0
    obtain ⟨b1, b2, nm, rfl, b4, b5⟩ := strs_arg h1
    obtain ⟨i1, i2, ins, rfl, i4, i5⟩ := insts_arg h2
    obtain ⟨k1, k2, bks, rfl, k4, k5⟩ := blocks_arg h3
    refine ⟨⟨st, nm, ins, bks⟩, ⟨S, sc, N, nc, I, ic, K, kc⟩, rfl, ⟨a4, b4, i4, k4, ⟨a1, a2⟩, ⟨b1, b2⟩, ⟨i1, i2⟩, ⟨k1, k2⟩⟩, ⟨a5, b5, i5, k5, ?_, ?_, ?_, ?_⟩⟩
    all_goals
      unfold maxLen at a2 b2 i2 k2
      simp only
      omega
set_option maxRecDepth 100000 in
theorem choices_arg {H : Type} {enc : TypeId × Value → H} {W : World} {base : Nat} {sp : Nat → Bool} {held : Bool} {r : Reach} {b0 : Nat} {v : Value} {d : DataW H} {p : List MemPlace} (hv : Value.okWide Tryz.prog W r b0 38 v) (h : DataW.Trod enc Tryz.prog W base sp held 38 v d p) :
    ∃ (ch : List Bool) (A : Option Addr) (cc : Nat), v = .slice A ch.length cc ∧ BRow W A ch ∧ ch.length ≤ cc ∧ cc ≤ maxLen := by
  obtain ⟨A, n, cc, rfl⟩ := okWide_slice Tryz.underlying38 hv
  obtain ⟨fuel, hf⟩ := h
  have hf2 : DataW.trod enc Tryz.prog W base sp held fuel 38 [.slice A n cc] = some (d, p) := by simpa [Value.cells] using hf
  obtain ⟨h1, h2, l, rfl, h4⟩ := bools_arg hf2
  exact ⟨l, A, cc, rfl, h4, h1, h2⟩
end Go.Proofs.YtnbgadndkepomaaGreatDoor
