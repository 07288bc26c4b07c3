/- What the listed variables hold when a call begins, for the proofs' frames. -/
import Derived.Test.YtmkehecapjdfdaaGreatDoorRows
import Derived.Test.YtmkehecapjdfdaaGreatDoorTie
import Derived.Test.YtmkehecapjdfdaaGreatDoorQB2
import Derived.Test.YtmkehecapjdfdaaGreatDoorQV2
import Derived.ProofKit
import Derived.LaidMore
import Derived.Lay
import Derived.OpenShut
import Derived.MakeChecks
import Derived.Lib.LaidTab
import Derived.Lib.SmallJoins
namespace Go.Proofs.YtmkehecapjdfdaaGreatDoor
open Go.ChangeShapes Go.WideShapes Go.ChangeAt Go.RowKit

theorem Tryz.own : ownKnob Tryz.prog.godebug = none := by kernel_rfl
theorem Tryz.laidOut : laidOutB Tryz.prog = true := by kernel_rfl
theorem wf_u8 {x : Int} (h : (Lit.int .u8 x).wf = true) : 0 ≤ x ∧ x < 256 := by
  simp [Lit.wf, IntKind.min, IntKind.max, IntKind.signed, IntKind.bits] at h
  exact ⟨by omega, by omega⟩
theorem wf_u16 {x : Int} (h : (Lit.int .u16 x).wf = true) : 0 ≤ x ∧ x < 65536 := by
  simp [Lit.wf, IntKind.min, IntKind.max, IntKind.signed, IntKind.bits] at h
  exact ⟨by omega, by omega⟩
/-- What all the statements list. -/
def laidP : List (String × DataW Unit) := Rows.parserDeepRow.laid

set_option maxRecDepth 100000 in
theorem lay_met (os : Os) (args : Array Value) : laidMetH Tryz.prog laidP ((World.laidAll Tryz.prog os laidP).forCall (fun _ _ => 0) ⟨#[], args, []⟩).memory := by
  rw [MakeChecks.laidMetH_plain _ _ _ (by kernel_rfl)]; exact laidMet_laidAll args (by kernel_rfl) (by kernel_rfl)

theorem laid_reads {P : Program} {w : World} : ∀ {l : List (String × DataW Unit)} {ps : List MemPlace}, DataW.LaidVars P w l ps → ∀ n d, (n, d) ∈ l →
    ∃ g t cs fuel p, P.globalNamed n = some g ∧ (P.globals[g]?).map (·.type) = some t ∧ w.var? P n = some cs ∧ DataW.trod (fun _ => ()) P w 0 (fun _ => true) false fuel t cs.toList = some (d, p)
  | [], _, _, _, _, hm => by cases hm
  | (n', d') :: r, ps, h, n, d, hm => by
    obtain ⟨g, t, cs, fuel, p, q, h1, h2, h3, h4, h5, _⟩ := h
    rcases List.mem_cons.1 hm with e | e
    · cases e
      exact ⟨g, t, cs, fuel, p, h1, h2, h3, h4⟩
    · exact laid_reads h5 n d e

theorem trod_err {H : Type} {enc : TypeId × Value → H} {P : Program} {w : World} {base : Nat} {sp : Nat → Bool} {fuel : Nat} {t : TypeId} {ms : Array (String × TypeId)} {cs : List Value} {n : String} {d : DataW H} {p : List MemPlace}
    (ht : P.underlying t = some (.interface ms)) (h : DataW.trod enc P w base sp false fuel t cs = some (.iface n d, p)) : ∃ u v, cs = [.iface u v] := by
  cases fuel with
  | zero => simp [DataW.trod] at h
  | succ k =>
    unfold DataW.trod at h
    rw [ht] at h
    split at h <;> simp_all

/-- A table of numbers, cell by cell. -/
theorem tab_cells {W : World} {name : String} {k : IntKind} {zs : List Int} {g : Nat} {t e : TypeId} {n : Nat} (hm : (name, Lib.tabData k zs) ∈ laidP)
    (hg : Tryz.prog.globalNamed name = some g) (hty : (Tryz.prog.globals[g]?).map (·.type) = some t) (ht : Tryz.prog.underlying t = some (.array n e)) (he : Tryz.prog.underlying e = some (.int k)) (hce : Tryz.prog.cellsOf e = 1) (hct : Tryz.prog.cellsOf t = n)
    (h : laidMet Tryz.prog laidP W) (i : Nat) (hi : i < zs.length) : W.cell? ⟨g, i, none⟩ = some (.int k (zs.getD i 0)) := by
  obtain ⟨_, hv, _⟩ := h
  obtain ⟨g', t', cs, fuel, p, hg', ht', hvar, hd⟩ := laid_reads hv name _ hm
  obtain rfl := Option.some.inj (hg.symm.trans hg')
  obtain rfl := Option.some.inj (hty.symm.trans ht')
  have hT : Lib.TabIs Tryz.prog W name k zs := by
    unfold Lib.TabIs
    rw [hvar, ← Lib.cells_of_tab ht he hce hct hd]
  exact hT.cell hg i hi

theorem err_cell {W : World} {name : String} {g : Nat} {t : TypeId} {ms : Array (String × TypeId)} {s : String} {d : DataW Unit} (hm : (name, .iface s d) ∈ laidP)
    (hg : Tryz.prog.globalNamed name = some g) (hty : (Tryz.prog.globals[g]?).map (·.type) = some t) (ht : Tryz.prog.underlying t = some (.interface ms))
    (h : laidMet Tryz.prog laidP W) : ∃ te pe, W.cell? ⟨g, 0, none⟩ = some (.iface te pe) := by
  obtain ⟨_, hv, _⟩ := h
  obtain ⟨g', t', cs, fuel, p, hg', ht', hvar, hd⟩ := laid_reads hv name _ hm
  obtain rfl := Option.some.inj (hg.symm.trans hg')
  obtain rfl := Option.some.inj (hty.symm.trans ht')
  obtain ⟨u, v, e⟩ := trod_err ht hd
  refine ⟨u, v, ?_⟩
  have := World.var?_cell hg hvar 0
  rw [Array.eq_one_of_toList e] at this
  simpa using this

def roleZ : List Int := roleL.map Int.ofNat
def powZ : List Int := (List.range 20).map fun n => Int.ofNat (10 ^ n)
theorem mem_table : (("formfinder/lexer.table" : String), Lib.tabData (H := Unit) .u8 roleZ) ∈ laidP := by
  show _ ∈ [_, _, _, _, _, _, _, _, _]
  exact List.mem_of_getElem (i := 6) (h := by decide) rfl
theorem mem_pow : (("internal/strconv.uint64pow10" : String), Lib.tabData (H := Unit) .u64 powZ) ∈ laidP := by
  show _ ∈ [_, _, _, _, _, _, _, _, _]
  exact List.mem_of_getElem (i := 2) (h := by decide) rfl
def formD (k : Nat) : DataW Unit := .agg [.lit (.string (sortL.getD k [])), .lit (.int .i64 (fieldL.getD k 0)), .lit (.string (kidL.getD k []))]
theorem mem_forms : (("formfinder/parser.forms" : String), DataW.agg ((List.range 32).map formD)) ∈ laidP := by
  show _ ∈ [_, _, _, _, _, _, _, _, _]
  exact List.mem_of_getElem (i := 7) (h := by decide) rfl

theorem tab_of_laid {W : World} (h : laidMet Tryz.prog laidP W) : Tab W := fun i hi => by
  have hi2 : i < roleL.length := hi
  have e := tab_cells mem_table (g := 1) (t := 147) (e := 5) (n := 128) (by kernel_rfl) (by kernel_rfl) Tryz.underlying147 Tryz.underlying5 (by kernel_rfl) (by kernel_rfl) h i (by simpa [roleZ] using hi2)
  rw [e]
  unfold roleI roleZ
  simp [List.getD_eq_getElem?_getD, hi2]
theorem errs_of_laid {W : World} (h : laidMet Tryz.prog laidP W) : Errs W := by
  refine ⟨?_, ?_⟩
  · exact err_cell (name := "strconv.ErrSyntax") (t := 49) (List.mem_of_getElem (i := 5) (h := by decide) rfl) (by kernel_rfl) (by kernel_rfl) Tryz.underlying49 h
  · exact err_cell (name := "strconv.ErrRange") (t := 49) (List.mem_of_getElem (i := 4) (h := by decide) rfl) (by kernel_rfl) (by kernel_rfl) Tryz.underlying49 h
theorem str_of {s : ByteArray} {l : Str} (h : s.data.toList = l) : s = ⟨l.toArray⟩ := by
  apply ByteArray.ext; apply Array.toList_inj.1; rw [h]
/-- One form, as it is read. -/
theorem form_cells {W : World} {fuel : Nat} {cs : List Value} {s q : Str} {f : Int} {p : List MemPlace}
    (h : DataW.trod (fun _ => ()) Tryz.prog W 0 (fun _ => true) false fuel 115 cs = some (.agg [.lit (.string s), .lit (.int .i64 f), .lit (.string q)], p)) :
    cs[0]? = some (.string ⟨s.toArray⟩) ∧ cs[1]? = some (.int .i64 f) ∧ cs[2]? = some (.string ⟨q.toArray⟩) := by
  obtain ⟨xs, n, _, hx, _, hl, hf⟩ := DataW.trod_struct Tryz.underlying115 h
  have c1 : Tryz.prog.cellsOf 9 = 1 := by kernel_rfl
  have c2 : Tryz.prog.cellsOf 3 = 1 := by kernel_rfl
  have hx1 : xs.map (·.1) = [.lit (.string s), .lit (.int .i64 f), .lit (.string q)] := (DataW.agg.inj (Prod.mk.inj hx).1).symm
  match xs, hx1 with
  | [a, b, c], hx1 =>
    simp only [List.map_cons, List.map_nil, List.cons.injEq, and_true] at hx1
    obtain ⟨ha, hb, hc⟩ := hx1
    have f0 := hf 0 _ rfl
    have f1 := hf 1 _ rfl
    have f2 := hf 2 _ rfl
    replace f0 : DataW.trod (fun _ => ()) Tryz.prog W 0 (fun _ => true) false n 9 ((cs.drop 0).take (Tryz.prog.cellsOf 9)) = some a := f0
    replace f1 : DataW.trod (fun _ => ()) Tryz.prog W 0 (fun _ => true) false n 3 ((cs.drop 1).take (Tryz.prog.cellsOf 3)) = some b := f1
    replace f2 : DataW.trod (fun _ => ()) Tryz.prog W 0 (fun _ => true) false n 9 ((cs.drop 2).take (Tryz.prog.cellsOf 9)) = some c := f2
    rw [c1] at f0 f2
    rw [c2] at f1
    obtain ⟨s0, e0, x0, _⟩ := DataW.trod_string Tryz.underlying9 f0
    obtain ⟨z1, e1, x1, _⟩ := DataW.trod_int Tryz.underlying3 f1
    obtain ⟨s2, e2, x2, _⟩ := DataW.trod_string Tryz.underlying9 f2
    rw [x0] at ha
    rw [x1] at hb
    rw [x2] at hc
    simp only [DataW.lit.injEq, Lit.string.injEq, Lit.int.injEq, true_and] at ha hb hc
    have get : ∀ (j : Nat) (v : Value), (cs.drop j).take 1 = [v] → cs[j]? = some v := fun j v e => by
      have := congrArg (·[0]?) e
      simpa [List.getElem?_take, List.getElem?_drop] using this
    refine ⟨?_, ?_, ?_⟩
    · rw [get 0 _ e0, str_of ha]
    · rw [get 1 _ e1, hb]
    · rw [get 2 _ e2, str_of hc]
theorem ftab_of_laid {W : World} (h : laidMet Tryz.prog laidP W) : FTab W := fun k hk => by
  obtain ⟨_, hv, _⟩ := h
  obtain ⟨g', t', cs, fuel, p, hg', ht', hvar, hd⟩ := laid_reads hv _ _ mem_forms
  obtain rfl : 0 = g' := Option.some.inj ((show Tryz.prog.globalNamed "formfinder/parser.forms" = some 0 by kernel_rfl).symm.trans hg')
  obtain rfl : 116 = t' := Option.some.inj ((show (Tryz.prog.globals[0]?).map (·.type) = some 116 by kernel_rfl).symm.trans ht')
  obtain ⟨xs, m, _, hx, _, hl, hf⟩ := DataW.trod_array Tryz.underlying116 hd
  have hx1 : xs.map (·.1) = (List.range 32).map formD := (DataW.agg.inj (Prod.mk.inj hx).1).symm
  have c3 : Tryz.prog.cellsOf 115 = 3 := by kernel_rfl
  have hk' := hf k hk
  rw [c3] at hk'
  have hxk : (xs.map (·.1))[k]? = some (formD k) := by rw [hx1]; simp [hk]
  rw [List.getElem?_map] at hxk
  cases hq : xs[k]? with
  | none => rw [hq] at hxk; cases hxk
  | some y =>
    rw [hq] at hxk hk'
    obtain ⟨y1, y2⟩ := y
    simp only [Option.map_some, Option.some.injEq] at hxk
    subst hxk
    obtain ⟨r0, r1, r2⟩ := form_cells hk'
    have cell : ∀ j, j < 3 → W.cell? ⟨0, k * 3 + j, none⟩ = ((cs.toList.drop (k * 3)).take 3)[j]? := fun j hj => by
      rw [World.var?_cell hg' hvar (k * 3 + j), List.getElem?_take, if_pos hj, List.getElem?_drop]
      simp
    exact ⟨(cell 0 (by omega)).trans r0, (cell 1 (by omega)).trans r1, (cell 2 (by omega)).trans r2⟩
theorem pv_of_laid {W : World} (h : laidMet Tryz.prog laidP W) : PV W := ⟨tab_of_laid h, errs_of_laid h, ftab_of_laid h⟩
end Go.Proofs.YtmkehecapjdfdaaGreatDoor
