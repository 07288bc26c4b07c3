/- Joined texts: PMap, PNew. -/
import Derived.Test.YtmkehecapjdfdaaGreatDoorQB3
import Derived.MapKept
import Derived.Test.YtmkehecapjdfdaaGreatDoorQB9
import Derived.Deep.RegionLaw
import Derived.Deep.AppendLies
import Derived.Lib.SmallJoins

/- The maps of the reader. -/
namespace Go.Proofs.YtmkehecapjdfdaaGreatDoor
open Go.RowKit

theorem setNew (w : World) (o o' : Obj) : ({ w.alloc o with heap := (w.alloc o).heap.setIfInBounds w.heap.size o' } : World) = w.alloc o' := by
  have h : (w.heap.push o).setIfInBounds w.heap.size o' = w.heap.push o' := by
    apply Array.ext_getElem?
    intro i
    rw [Array.getElem?_setIfInBounds, Array.getElem?_push, Array.getElem?_push, Array.size_push]
    by_cases e : w.heap.size = i
    · subst e
      simp
    · have e2 : ¬ i = w.heap.size := fun h => e h.symm
      simp [e, e2]
  simp only [World.alloc, h]
theorem run_put {P : Program} {w : World} {mty k e : TypeId} {d : TypeDesc} {es : Array MapEntry} {c : Nat} {key v : Value} (hm : P.underlying mty = some (.map k e)) (hd : P.underlying k = some d) (hk : MapKept.IsKey d key)
    (h : Instr.findNow d key es.toList 0 = some none) : (Instr.mapUpdate mty (.map (some w.heap.size)) key v).run P (w.alloc (.map es c)) = .ok () (w.alloc (.map (es.push ⟨key, v, c⟩) (c + 1))) := by
  have hb : (w.alloc (.map es c)).heap[w.heap.size]? = some (.map es c) := heap_alloc_new w _
  simp [Instr.mapUpdate, run_underlying hm, MapKept.run_getObj_map hb, MapKept.run_checkKey hd hk, MapKept.run_findKey hd h, MapKept.run_setObj_map _ hb, Result.andThen]
  exact setNew w _ _
theorem no_tab {l : List (Str × Nat)} {s : Str} (h : tabFind l s = none) : Instr.findNow .string (.string ⟨s.toArray⟩) (mapOf l) 0 = some none := by
  have := find_tab l s 0 0
  rw [h] at this
  exact this
theorem no_num {l : List Str} {s : Str} (h : signOf s 1 l = none) : Instr.findNow .string (.string ⟨s.toArray⟩) (numOf l) 0 = some none := by
  have := find_num l s 0 0
  rw [h] at this
  exact this

theorem items_put0 (w : World) : (Instr.mapUpdate 77 (.map (some w.heap.size)) (.string ⟨#[115, 116, 114, 117, 99, 116]⟩) (.func (.func 100) #[] #[])).run Tryz.prog (w.alloc (.map #[] 0)) = .ok () (w.alloc (.map #[⟨.string ⟨#[115, 116, 114, 117, 99, 116]⟩, .func (.func 100) #[] #[], 0⟩] 1)) :=
  run_put (es := #[]) Tryz.mapM Tryz.strT trivial (no_tab (l := (itemTab).take 0) (s := kStruct) (by decide))
theorem items_put1 (w : World) : (Instr.mapUpdate 77 (.map (some w.heap.size)) (.string ⟨#[102, 117, 110, 99]⟩) (.func (.func 101) #[] #[])).run Tryz.prog (w.alloc (.map #[⟨.string ⟨#[115, 116, 114, 117, 99, 116]⟩, .func (.func 100) #[] #[], 0⟩] 1)) = .ok () (w.alloc (.map #[⟨.string ⟨#[115, 116, 114, 117, 99, 116]⟩, .func (.func 100) #[] #[], 0⟩, ⟨.string ⟨#[102, 117, 110, 99]⟩, .func (.func 101) #[] #[], 1⟩] 2)) :=
  run_put (es := #[⟨.string ⟨#[115, 116, 114, 117, 99, 116]⟩, .func (.func 100) #[] #[], 0⟩]) Tryz.mapM Tryz.strT trivial (no_tab (l := (itemTab).take 1) (s := kFunc) (by decide))
theorem items_put2 (w : World) : (Instr.mapUpdate 77 (.map (some w.heap.size)) (.string ⟨#[112, 97, 114, 115, 101]⟩) (.func (.func 102) #[] #[])).run Tryz.prog (w.alloc (.map #[⟨.string ⟨#[115, 116, 114, 117, 99, 116]⟩, .func (.func 100) #[] #[], 0⟩, ⟨.string ⟨#[102, 117, 110, 99]⟩, .func (.func 101) #[] #[], 1⟩] 2)) = .ok () (w.alloc (.map #[⟨.string ⟨#[115, 116, 114, 117, 99, 116]⟩, .func (.func 100) #[] #[], 0⟩, ⟨.string ⟨#[102, 117, 110, 99]⟩, .func (.func 101) #[] #[], 1⟩, ⟨.string ⟨#[112, 97, 114, 115, 101]⟩, .func (.func 102) #[] #[], 2⟩] 3)) :=
  run_put (es := #[⟨.string ⟨#[115, 116, 114, 117, 99, 116]⟩, .func (.func 100) #[] #[], 0⟩, ⟨.string ⟨#[102, 117, 110, 99]⟩, .func (.func 101) #[] #[], 1⟩]) Tryz.mapM Tryz.strT trivial (no_tab (l := (itemTab).take 2) (s := kParse) (by decide))
set_option maxRecDepth 100000 in
set_option maxHeartbeats 800000 in
theorem items_any (w : World) : Calls Tryz.prog 55 #[] w fun e w' => e = .returned (.map (some w.heap.size)) ∧ w' = w.alloc (.map (mapOf itemTab).toArray 3) := by
  have hmm := @run_makeMap Tryz.prog
  have h0 := items_put0 w
  have h1 := items_put1 w
  have h2 := items_put2 w
  go_enter Tryz.func55, Tryz.ntmps55
  go_wp2
  go_ret
  exact ⟨rfl, rfl⟩

theorem statements_put0 (w : World) : (Instr.mapUpdate 77 (.map (some w.heap.size)) (.string ⟨#[108, 101, 116]⟩) (.func (.func 103) #[] #[])).run Tryz.prog (w.alloc (.map #[] 0)) = .ok () (w.alloc (.map #[⟨.string ⟨#[108, 101, 116]⟩, .func (.func 103) #[] #[], 0⟩] 1)) :=
  run_put (es := #[]) Tryz.mapM Tryz.strT trivial (no_tab (l := (stmtTab).take 0) (s := kLet) (by decide))
theorem statements_put1 (w : World) : (Instr.mapUpdate 77 (.map (some w.heap.size)) (.string ⟨#[110, 101, 119]⟩) (.func (.func 104) #[] #[])).run Tryz.prog (w.alloc (.map #[⟨.string ⟨#[108, 101, 116]⟩, .func (.func 103) #[] #[], 0⟩] 1)) = .ok () (w.alloc (.map #[⟨.string ⟨#[108, 101, 116]⟩, .func (.func 103) #[] #[], 0⟩, ⟨.string ⟨#[110, 101, 119]⟩, .func (.func 104) #[] #[], 1⟩] 2)) :=
  run_put (es := #[⟨.string ⟨#[108, 101, 116]⟩, .func (.func 103) #[] #[], 0⟩]) Tryz.mapM Tryz.strT trivial (no_tab (l := (stmtTab).take 1) (s := kNew) (by decide))
theorem statements_put2 (w : World) : (Instr.mapUpdate 77 (.map (some w.heap.size)) (.string ⟨#[109, 97, 107, 101]⟩) (.func (.func 105) #[] #[])).run Tryz.prog (w.alloc (.map #[⟨.string ⟨#[108, 101, 116]⟩, .func (.func 103) #[] #[], 0⟩, ⟨.string ⟨#[110, 101, 119]⟩, .func (.func 104) #[] #[], 1⟩] 2)) = .ok () (w.alloc (.map #[⟨.string ⟨#[108, 101, 116]⟩, .func (.func 103) #[] #[], 0⟩, ⟨.string ⟨#[110, 101, 119]⟩, .func (.func 104) #[] #[], 1⟩, ⟨.string ⟨#[109, 97, 107, 101]⟩, .func (.func 105) #[] #[], 2⟩] 3)) :=
  run_put (es := #[⟨.string ⟨#[108, 101, 116]⟩, .func (.func 103) #[] #[], 0⟩, ⟨.string ⟨#[110, 101, 119]⟩, .func (.func 104) #[] #[], 1⟩]) Tryz.mapM Tryz.strT trivial (no_tab (l := (stmtTab).take 2) (s := kMake) (by decide))
theorem statements_put3 (w : World) : (Instr.mapUpdate 77 (.map (some w.heap.size)) (.string ⟨#[102, 114, 101, 101]⟩) (.func (.func 106) #[] #[])).run Tryz.prog (w.alloc (.map #[⟨.string ⟨#[108, 101, 116]⟩, .func (.func 103) #[] #[], 0⟩, ⟨.string ⟨#[110, 101, 119]⟩, .func (.func 104) #[] #[], 1⟩, ⟨.string ⟨#[109, 97, 107, 101]⟩, .func (.func 105) #[] #[], 2⟩] 3)) = .ok () (w.alloc (.map #[⟨.string ⟨#[108, 101, 116]⟩, .func (.func 103) #[] #[], 0⟩, ⟨.string ⟨#[110, 101, 119]⟩, .func (.func 104) #[] #[], 1⟩, ⟨.string ⟨#[109, 97, 107, 101]⟩, .func (.func 105) #[] #[], 2⟩, ⟨.string ⟨#[102, 114, 101, 101]⟩, .func (.func 106) #[] #[], 3⟩] 4)) :=
  run_put (es := #[⟨.string ⟨#[108, 101, 116]⟩, .func (.func 103) #[] #[], 0⟩, ⟨.string ⟨#[110, 101, 119]⟩, .func (.func 104) #[] #[], 1⟩, ⟨.string ⟨#[109, 97, 107, 101]⟩, .func (.func 105) #[] #[], 2⟩]) Tryz.mapM Tryz.strT trivial (no_tab (l := (stmtTab).take 3) (s := kFree) (by decide))
theorem statements_put4 (w : World) : (Instr.mapUpdate 77 (.map (some w.heap.size)) (.string ⟨#[115, 97, 109, 101]⟩) (.func (.func 107) #[] #[])).run Tryz.prog (w.alloc (.map #[⟨.string ⟨#[108, 101, 116]⟩, .func (.func 103) #[] #[], 0⟩, ⟨.string ⟨#[110, 101, 119]⟩, .func (.func 104) #[] #[], 1⟩, ⟨.string ⟨#[109, 97, 107, 101]⟩, .func (.func 105) #[] #[], 2⟩, ⟨.string ⟨#[102, 114, 101, 101]⟩, .func (.func 106) #[] #[], 3⟩] 4)) = .ok () (w.alloc (.map #[⟨.string ⟨#[108, 101, 116]⟩, .func (.func 103) #[] #[], 0⟩, ⟨.string ⟨#[110, 101, 119]⟩, .func (.func 104) #[] #[], 1⟩, ⟨.string ⟨#[109, 97, 107, 101]⟩, .func (.func 105) #[] #[], 2⟩, ⟨.string ⟨#[102, 114, 101, 101]⟩, .func (.func 106) #[] #[], 3⟩, ⟨.string ⟨#[115, 97, 109, 101]⟩, .func (.func 107) #[] #[], 4⟩] 5)) :=
  run_put (es := #[⟨.string ⟨#[108, 101, 116]⟩, .func (.func 103) #[] #[], 0⟩, ⟨.string ⟨#[110, 101, 119]⟩, .func (.func 104) #[] #[], 1⟩, ⟨.string ⟨#[109, 97, 107, 101]⟩, .func (.func 105) #[] #[], 2⟩, ⟨.string ⟨#[102, 114, 101, 101]⟩, .func (.func 106) #[] #[], 3⟩]) Tryz.mapM Tryz.strT trivial (no_tab (l := (stmtTab).take 4) (s := kSame) (by decide))
theorem statements_put5 (w : World) : (Instr.mapUpdate 77 (.map (some w.heap.size)) (.string ⟨#[105, 102]⟩) (.func (.func 108) #[] #[])).run Tryz.prog (w.alloc (.map #[⟨.string ⟨#[108, 101, 116]⟩, .func (.func 103) #[] #[], 0⟩, ⟨.string ⟨#[110, 101, 119]⟩, .func (.func 104) #[] #[], 1⟩, ⟨.string ⟨#[109, 97, 107, 101]⟩, .func (.func 105) #[] #[], 2⟩, ⟨.string ⟨#[102, 114, 101, 101]⟩, .func (.func 106) #[] #[], 3⟩, ⟨.string ⟨#[115, 97, 109, 101]⟩, .func (.func 107) #[] #[], 4⟩] 5)) = .ok () (w.alloc (.map #[⟨.string ⟨#[108, 101, 116]⟩, .func (.func 103) #[] #[], 0⟩, ⟨.string ⟨#[110, 101, 119]⟩, .func (.func 104) #[] #[], 1⟩, ⟨.string ⟨#[109, 97, 107, 101]⟩, .func (.func 105) #[] #[], 2⟩, ⟨.string ⟨#[102, 114, 101, 101]⟩, .func (.func 106) #[] #[], 3⟩, ⟨.string ⟨#[115, 97, 109, 101]⟩, .func (.func 107) #[] #[], 4⟩, ⟨.string ⟨#[105, 102]⟩, .func (.func 108) #[] #[], 5⟩] 6)) :=
  run_put (es := #[⟨.string ⟨#[108, 101, 116]⟩, .func (.func 103) #[] #[], 0⟩, ⟨.string ⟨#[110, 101, 119]⟩, .func (.func 104) #[] #[], 1⟩, ⟨.string ⟨#[109, 97, 107, 101]⟩, .func (.func 105) #[] #[], 2⟩, ⟨.string ⟨#[102, 114, 101, 101]⟩, .func (.func 106) #[] #[], 3⟩, ⟨.string ⟨#[115, 97, 109, 101]⟩, .func (.func 107) #[] #[], 4⟩]) Tryz.mapM Tryz.strT trivial (no_tab (l := (stmtTab).take 5) (s := kIf) (by decide))
theorem statements_put6 (w : World) : (Instr.mapUpdate 77 (.map (some w.heap.size)) (.string ⟨#[119, 104, 105, 108, 101]⟩) (.func (.func 109) #[] #[])).run Tryz.prog (w.alloc (.map #[⟨.string ⟨#[108, 101, 116]⟩, .func (.func 103) #[] #[], 0⟩, ⟨.string ⟨#[110, 101, 119]⟩, .func (.func 104) #[] #[], 1⟩, ⟨.string ⟨#[109, 97, 107, 101]⟩, .func (.func 105) #[] #[], 2⟩, ⟨.string ⟨#[102, 114, 101, 101]⟩, .func (.func 106) #[] #[], 3⟩, ⟨.string ⟨#[115, 97, 109, 101]⟩, .func (.func 107) #[] #[], 4⟩, ⟨.string ⟨#[105, 102]⟩, .func (.func 108) #[] #[], 5⟩] 6)) = .ok () (w.alloc (.map #[⟨.string ⟨#[108, 101, 116]⟩, .func (.func 103) #[] #[], 0⟩, ⟨.string ⟨#[110, 101, 119]⟩, .func (.func 104) #[] #[], 1⟩, ⟨.string ⟨#[109, 97, 107, 101]⟩, .func (.func 105) #[] #[], 2⟩, ⟨.string ⟨#[102, 114, 101, 101]⟩, .func (.func 106) #[] #[], 3⟩, ⟨.string ⟨#[115, 97, 109, 101]⟩, .func (.func 107) #[] #[], 4⟩, ⟨.string ⟨#[105, 102]⟩, .func (.func 108) #[] #[], 5⟩, ⟨.string ⟨#[119, 104, 105, 108, 101]⟩, .func (.func 109) #[] #[], 6⟩] 7)) :=
  run_put (es := #[⟨.string ⟨#[108, 101, 116]⟩, .func (.func 103) #[] #[], 0⟩, ⟨.string ⟨#[110, 101, 119]⟩, .func (.func 104) #[] #[], 1⟩, ⟨.string ⟨#[109, 97, 107, 101]⟩, .func (.func 105) #[] #[], 2⟩, ⟨.string ⟨#[102, 114, 101, 101]⟩, .func (.func 106) #[] #[], 3⟩, ⟨.string ⟨#[115, 97, 109, 101]⟩, .func (.func 107) #[] #[], 4⟩, ⟨.string ⟨#[105, 102]⟩, .func (.func 108) #[] #[], 5⟩]) Tryz.mapM Tryz.strT trivial (no_tab (l := (stmtTab).take 6) (s := kWhile) (by decide))
theorem statements_put7 (w : World) : (Instr.mapUpdate 77 (.map (some w.heap.size)) (.string ⟨#[101, 109, 105, 116]⟩) (.func (.func 110) #[] #[])).run Tryz.prog (w.alloc (.map #[⟨.string ⟨#[108, 101, 116]⟩, .func (.func 103) #[] #[], 0⟩, ⟨.string ⟨#[110, 101, 119]⟩, .func (.func 104) #[] #[], 1⟩, ⟨.string ⟨#[109, 97, 107, 101]⟩, .func (.func 105) #[] #[], 2⟩, ⟨.string ⟨#[102, 114, 101, 101]⟩, .func (.func 106) #[] #[], 3⟩, ⟨.string ⟨#[115, 97, 109, 101]⟩, .func (.func 107) #[] #[], 4⟩, ⟨.string ⟨#[105, 102]⟩, .func (.func 108) #[] #[], 5⟩, ⟨.string ⟨#[119, 104, 105, 108, 101]⟩, .func (.func 109) #[] #[], 6⟩] 7)) = .ok () (w.alloc (.map #[⟨.string ⟨#[108, 101, 116]⟩, .func (.func 103) #[] #[], 0⟩, ⟨.string ⟨#[110, 101, 119]⟩, .func (.func 104) #[] #[], 1⟩, ⟨.string ⟨#[109, 97, 107, 101]⟩, .func (.func 105) #[] #[], 2⟩, ⟨.string ⟨#[102, 114, 101, 101]⟩, .func (.func 106) #[] #[], 3⟩, ⟨.string ⟨#[115, 97, 109, 101]⟩, .func (.func 107) #[] #[], 4⟩, ⟨.string ⟨#[105, 102]⟩, .func (.func 108) #[] #[], 5⟩, ⟨.string ⟨#[119, 104, 105, 108, 101]⟩, .func (.func 109) #[] #[], 6⟩, ⟨.string ⟨#[101, 109, 105, 116]⟩, .func (.func 110) #[] #[], 7⟩] 8)) :=
  run_put (es := #[⟨.string ⟨#[108, 101, 116]⟩, .func (.func 103) #[] #[], 0⟩, ⟨.string ⟨#[110, 101, 119]⟩, .func (.func 104) #[] #[], 1⟩, ⟨.string ⟨#[109, 97, 107, 101]⟩, .func (.func 105) #[] #[], 2⟩, ⟨.string ⟨#[102, 114, 101, 101]⟩, .func (.func 106) #[] #[], 3⟩, ⟨.string ⟨#[115, 97, 109, 101]⟩, .func (.func 107) #[] #[], 4⟩, ⟨.string ⟨#[105, 102]⟩, .func (.func 108) #[] #[], 5⟩, ⟨.string ⟨#[119, 104, 105, 108, 101]⟩, .func (.func 109) #[] #[], 6⟩]) Tryz.mapM Tryz.strT trivial (no_tab (l := (stmtTab).take 7) (s := kEmit) (by decide))
theorem statements_put8 (w : World) : (Instr.mapUpdate 77 (.map (some w.heap.size)) (.string ⟨#[97, 99, 99, 101, 112, 116]⟩) (.func (.func 111) #[] #[])).run Tryz.prog (w.alloc (.map #[⟨.string ⟨#[108, 101, 116]⟩, .func (.func 103) #[] #[], 0⟩, ⟨.string ⟨#[110, 101, 119]⟩, .func (.func 104) #[] #[], 1⟩, ⟨.string ⟨#[109, 97, 107, 101]⟩, .func (.func 105) #[] #[], 2⟩, ⟨.string ⟨#[102, 114, 101, 101]⟩, .func (.func 106) #[] #[], 3⟩, ⟨.string ⟨#[115, 97, 109, 101]⟩, .func (.func 107) #[] #[], 4⟩, ⟨.string ⟨#[105, 102]⟩, .func (.func 108) #[] #[], 5⟩, ⟨.string ⟨#[119, 104, 105, 108, 101]⟩, .func (.func 109) #[] #[], 6⟩, ⟨.string ⟨#[101, 109, 105, 116]⟩, .func (.func 110) #[] #[], 7⟩] 8)) = .ok () (w.alloc (.map #[⟨.string ⟨#[108, 101, 116]⟩, .func (.func 103) #[] #[], 0⟩, ⟨.string ⟨#[110, 101, 119]⟩, .func (.func 104) #[] #[], 1⟩, ⟨.string ⟨#[109, 97, 107, 101]⟩, .func (.func 105) #[] #[], 2⟩, ⟨.string ⟨#[102, 114, 101, 101]⟩, .func (.func 106) #[] #[], 3⟩, ⟨.string ⟨#[115, 97, 109, 101]⟩, .func (.func 107) #[] #[], 4⟩, ⟨.string ⟨#[105, 102]⟩, .func (.func 108) #[] #[], 5⟩, ⟨.string ⟨#[119, 104, 105, 108, 101]⟩, .func (.func 109) #[] #[], 6⟩, ⟨.string ⟨#[101, 109, 105, 116]⟩, .func (.func 110) #[] #[], 7⟩, ⟨.string ⟨#[97, 99, 99, 101, 112, 116]⟩, .func (.func 111) #[] #[], 8⟩] 9)) :=
  run_put (es := #[⟨.string ⟨#[108, 101, 116]⟩, .func (.func 103) #[] #[], 0⟩, ⟨.string ⟨#[110, 101, 119]⟩, .func (.func 104) #[] #[], 1⟩, ⟨.string ⟨#[109, 97, 107, 101]⟩, .func (.func 105) #[] #[], 2⟩, ⟨.string ⟨#[102, 114, 101, 101]⟩, .func (.func 106) #[] #[], 3⟩, ⟨.string ⟨#[115, 97, 109, 101]⟩, .func (.func 107) #[] #[], 4⟩, ⟨.string ⟨#[105, 102]⟩, .func (.func 108) #[] #[], 5⟩, ⟨.string ⟨#[119, 104, 105, 108, 101]⟩, .func (.func 109) #[] #[], 6⟩, ⟨.string ⟨#[101, 109, 105, 116]⟩, .func (.func 110) #[] #[], 7⟩]) Tryz.mapM Tryz.strT trivial (no_tab (l := (stmtTab).take 8) (s := kAccept) (by decide))
theorem statements_put9 (w : World) : (Instr.mapUpdate 77 (.map (some w.heap.size)) (.string ⟨#[114, 101, 106, 101, 99, 116]⟩) (.func (.func 112) #[] #[])).run Tryz.prog (w.alloc (.map #[⟨.string ⟨#[108, 101, 116]⟩, .func (.func 103) #[] #[], 0⟩, ⟨.string ⟨#[110, 101, 119]⟩, .func (.func 104) #[] #[], 1⟩, ⟨.string ⟨#[109, 97, 107, 101]⟩, .func (.func 105) #[] #[], 2⟩, ⟨.string ⟨#[102, 114, 101, 101]⟩, .func (.func 106) #[] #[], 3⟩, ⟨.string ⟨#[115, 97, 109, 101]⟩, .func (.func 107) #[] #[], 4⟩, ⟨.string ⟨#[105, 102]⟩, .func (.func 108) #[] #[], 5⟩, ⟨.string ⟨#[119, 104, 105, 108, 101]⟩, .func (.func 109) #[] #[], 6⟩, ⟨.string ⟨#[101, 109, 105, 116]⟩, .func (.func 110) #[] #[], 7⟩, ⟨.string ⟨#[97, 99, 99, 101, 112, 116]⟩, .func (.func 111) #[] #[], 8⟩] 9)) = .ok () (w.alloc (.map #[⟨.string ⟨#[108, 101, 116]⟩, .func (.func 103) #[] #[], 0⟩, ⟨.string ⟨#[110, 101, 119]⟩, .func (.func 104) #[] #[], 1⟩, ⟨.string ⟨#[109, 97, 107, 101]⟩, .func (.func 105) #[] #[], 2⟩, ⟨.string ⟨#[102, 114, 101, 101]⟩, .func (.func 106) #[] #[], 3⟩, ⟨.string ⟨#[115, 97, 109, 101]⟩, .func (.func 107) #[] #[], 4⟩, ⟨.string ⟨#[105, 102]⟩, .func (.func 108) #[] #[], 5⟩, ⟨.string ⟨#[119, 104, 105, 108, 101]⟩, .func (.func 109) #[] #[], 6⟩, ⟨.string ⟨#[101, 109, 105, 116]⟩, .func (.func 110) #[] #[], 7⟩, ⟨.string ⟨#[97, 99, 99, 101, 112, 116]⟩, .func (.func 111) #[] #[], 8⟩, ⟨.string ⟨#[114, 101, 106, 101, 99, 116]⟩, .func (.func 112) #[] #[], 9⟩] 10)) :=
  run_put (es := #[⟨.string ⟨#[108, 101, 116]⟩, .func (.func 103) #[] #[], 0⟩, ⟨.string ⟨#[110, 101, 119]⟩, .func (.func 104) #[] #[], 1⟩, ⟨.string ⟨#[109, 97, 107, 101]⟩, .func (.func 105) #[] #[], 2⟩, ⟨.string ⟨#[102, 114, 101, 101]⟩, .func (.func 106) #[] #[], 3⟩, ⟨.string ⟨#[115, 97, 109, 101]⟩, .func (.func 107) #[] #[], 4⟩, ⟨.string ⟨#[105, 102]⟩, .func (.func 108) #[] #[], 5⟩, ⟨.string ⟨#[119, 104, 105, 108, 101]⟩, .func (.func 109) #[] #[], 6⟩, ⟨.string ⟨#[101, 109, 105, 116]⟩, .func (.func 110) #[] #[], 7⟩, ⟨.string ⟨#[97, 99, 99, 101, 112, 116]⟩, .func (.func 111) #[] #[], 8⟩]) Tryz.mapM Tryz.strT trivial (no_tab (l := (stmtTab).take 9) (s := kReject) (by decide))
theorem statements_put10 (w : World) : (Instr.mapUpdate 77 (.map (some w.heap.size)) (.string ⟨#[114, 101, 116, 117, 114, 110]⟩) (.func (.func 113) #[] #[])).run Tryz.prog (w.alloc (.map #[⟨.string ⟨#[108, 101, 116]⟩, .func (.func 103) #[] #[], 0⟩, ⟨.string ⟨#[110, 101, 119]⟩, .func (.func 104) #[] #[], 1⟩, ⟨.string ⟨#[109, 97, 107, 101]⟩, .func (.func 105) #[] #[], 2⟩, ⟨.string ⟨#[102, 114, 101, 101]⟩, .func (.func 106) #[] #[], 3⟩, ⟨.string ⟨#[115, 97, 109, 101]⟩, .func (.func 107) #[] #[], 4⟩, ⟨.string ⟨#[105, 102]⟩, .func (.func 108) #[] #[], 5⟩, ⟨.string ⟨#[119, 104, 105, 108, 101]⟩, .func (.func 109) #[] #[], 6⟩, ⟨.string ⟨#[101, 109, 105, 116]⟩, .func (.func 110) #[] #[], 7⟩, ⟨.string ⟨#[97, 99, 99, 101, 112, 116]⟩, .func (.func 111) #[] #[], 8⟩, ⟨.string ⟨#[114, 101, 106, 101, 99, 116]⟩, .func (.func 112) #[] #[], 9⟩] 10)) = .ok () (w.alloc (.map #[⟨.string ⟨#[108, 101, 116]⟩, .func (.func 103) #[] #[], 0⟩, ⟨.string ⟨#[110, 101, 119]⟩, .func (.func 104) #[] #[], 1⟩, ⟨.string ⟨#[109, 97, 107, 101]⟩, .func (.func 105) #[] #[], 2⟩, ⟨.string ⟨#[102, 114, 101, 101]⟩, .func (.func 106) #[] #[], 3⟩, ⟨.string ⟨#[115, 97, 109, 101]⟩, .func (.func 107) #[] #[], 4⟩, ⟨.string ⟨#[105, 102]⟩, .func (.func 108) #[] #[], 5⟩, ⟨.string ⟨#[119, 104, 105, 108, 101]⟩, .func (.func 109) #[] #[], 6⟩, ⟨.string ⟨#[101, 109, 105, 116]⟩, .func (.func 110) #[] #[], 7⟩, ⟨.string ⟨#[97, 99, 99, 101, 112, 116]⟩, .func (.func 111) #[] #[], 8⟩, ⟨.string ⟨#[114, 101, 106, 101, 99, 116]⟩, .func (.func 112) #[] #[], 9⟩, ⟨.string ⟨#[114, 101, 116, 117, 114, 110]⟩, .func (.func 113) #[] #[], 10⟩] 11)) :=
  run_put (es := #[⟨.string ⟨#[108, 101, 116]⟩, .func (.func 103) #[] #[], 0⟩, ⟨.string ⟨#[110, 101, 119]⟩, .func (.func 104) #[] #[], 1⟩, ⟨.string ⟨#[109, 97, 107, 101]⟩, .func (.func 105) #[] #[], 2⟩, ⟨.string ⟨#[102, 114, 101, 101]⟩, .func (.func 106) #[] #[], 3⟩, ⟨.string ⟨#[115, 97, 109, 101]⟩, .func (.func 107) #[] #[], 4⟩, ⟨.string ⟨#[105, 102]⟩, .func (.func 108) #[] #[], 5⟩, ⟨.string ⟨#[119, 104, 105, 108, 101]⟩, .func (.func 109) #[] #[], 6⟩, ⟨.string ⟨#[101, 109, 105, 116]⟩, .func (.func 110) #[] #[], 7⟩, ⟨.string ⟨#[97, 99, 99, 101, 112, 116]⟩, .func (.func 111) #[] #[], 8⟩, ⟨.string ⟨#[114, 101, 106, 101, 99, 116]⟩, .func (.func 112) #[] #[], 9⟩]) Tryz.mapM Tryz.strT trivial (no_tab (l := (stmtTab).take 10) (s := kReturn) (by decide))
theorem statements_put11 (w : World) : (Instr.mapUpdate 77 (.map (some w.heap.size)) (.string ⟨#[110, 97, 109, 101]⟩) (.func (.func 114) #[] #[])).run Tryz.prog (w.alloc (.map #[⟨.string ⟨#[108, 101, 116]⟩, .func (.func 103) #[] #[], 0⟩, ⟨.string ⟨#[110, 101, 119]⟩, .func (.func 104) #[] #[], 1⟩, ⟨.string ⟨#[109, 97, 107, 101]⟩, .func (.func 105) #[] #[], 2⟩, ⟨.string ⟨#[102, 114, 101, 101]⟩, .func (.func 106) #[] #[], 3⟩, ⟨.string ⟨#[115, 97, 109, 101]⟩, .func (.func 107) #[] #[], 4⟩, ⟨.string ⟨#[105, 102]⟩, .func (.func 108) #[] #[], 5⟩, ⟨.string ⟨#[119, 104, 105, 108, 101]⟩, .func (.func 109) #[] #[], 6⟩, ⟨.string ⟨#[101, 109, 105, 116]⟩, .func (.func 110) #[] #[], 7⟩, ⟨.string ⟨#[97, 99, 99, 101, 112, 116]⟩, .func (.func 111) #[] #[], 8⟩, ⟨.string ⟨#[114, 101, 106, 101, 99, 116]⟩, .func (.func 112) #[] #[], 9⟩, ⟨.string ⟨#[114, 101, 116, 117, 114, 110]⟩, .func (.func 113) #[] #[], 10⟩] 11)) = .ok () (w.alloc (.map #[⟨.string ⟨#[108, 101, 116]⟩, .func (.func 103) #[] #[], 0⟩, ⟨.string ⟨#[110, 101, 119]⟩, .func (.func 104) #[] #[], 1⟩, ⟨.string ⟨#[109, 97, 107, 101]⟩, .func (.func 105) #[] #[], 2⟩, ⟨.string ⟨#[102, 114, 101, 101]⟩, .func (.func 106) #[] #[], 3⟩, ⟨.string ⟨#[115, 97, 109, 101]⟩, .func (.func 107) #[] #[], 4⟩, ⟨.string ⟨#[105, 102]⟩, .func (.func 108) #[] #[], 5⟩, ⟨.string ⟨#[119, 104, 105, 108, 101]⟩, .func (.func 109) #[] #[], 6⟩, ⟨.string ⟨#[101, 109, 105, 116]⟩, .func (.func 110) #[] #[], 7⟩, ⟨.string ⟨#[97, 99, 99, 101, 112, 116]⟩, .func (.func 111) #[] #[], 8⟩, ⟨.string ⟨#[114, 101, 106, 101, 99, 116]⟩, .func (.func 112) #[] #[], 9⟩, ⟨.string ⟨#[114, 101, 116, 117, 114, 110]⟩, .func (.func 113) #[] #[], 10⟩, ⟨.string ⟨#[110, 97, 109, 101]⟩, .func (.func 114) #[] #[], 11⟩] 12)) :=
  run_put (es := #[⟨.string ⟨#[108, 101, 116]⟩, .func (.func 103) #[] #[], 0⟩, ⟨.string ⟨#[110, 101, 119]⟩, .func (.func 104) #[] #[], 1⟩, ⟨.string ⟨#[109, 97, 107, 101]⟩, .func (.func 105) #[] #[], 2⟩, ⟨.string ⟨#[102, 114, 101, 101]⟩, .func (.func 106) #[] #[], 3⟩, ⟨.string ⟨#[115, 97, 109, 101]⟩, .func (.func 107) #[] #[], 4⟩, ⟨.string ⟨#[105, 102]⟩, .func (.func 108) #[] #[], 5⟩, ⟨.string ⟨#[119, 104, 105, 108, 101]⟩, .func (.func 109) #[] #[], 6⟩, ⟨.string ⟨#[101, 109, 105, 116]⟩, .func (.func 110) #[] #[], 7⟩, ⟨.string ⟨#[97, 99, 99, 101, 112, 116]⟩, .func (.func 111) #[] #[], 8⟩, ⟨.string ⟨#[114, 101, 106, 101, 99, 116]⟩, .func (.func 112) #[] #[], 9⟩, ⟨.string ⟨#[114, 101, 116, 117, 114, 110]⟩, .func (.func 113) #[] #[], 10⟩]) Tryz.mapM Tryz.strT trivial (no_tab (l := (stmtTab).take 11) (s := wName) (by decide))
set_option maxRecDepth 100000 in
set_option maxHeartbeats 800000 in
theorem statements_any (w : World) : Calls Tryz.prog 56 #[] w fun e w' => e = .returned (.map (some w.heap.size)) ∧ w' = w.alloc (.map (mapOf stmtTab).toArray 12) := by
  have hmm := @run_makeMap Tryz.prog
  have h0 := statements_put0 w
  have h1 := statements_put1 w
  have h2 := statements_put2 w
  have h3 := statements_put3 w
  have h4 := statements_put4 w
  have h5 := statements_put5 w
  have h6 := statements_put6 w
  have h7 := statements_put7 w
  have h8 := statements_put8 w
  have h9 := statements_put9 w
  have h10 := statements_put10 w
  have h11 := statements_put11 w
  go_enter Tryz.func56, Tryz.ntmps56
  go_wp2
  go_ret
  exact ⟨rfl, rfl⟩

theorem expressions_put0 (w : World) : (Instr.mapUpdate 77 (.map (some w.heap.size)) (.string ⟨#[105, 110]⟩) (.func (.func 115) #[] #[])).run Tryz.prog (w.alloc (.map #[] 0)) = .ok () (w.alloc (.map #[⟨.string ⟨#[105, 110]⟩, .func (.func 115) #[] #[], 0⟩] 1)) :=
  run_put (es := #[]) Tryz.mapM Tryz.strT trivial (no_tab (l := (exprTab).take 0) (s := kIn) (by decide))
theorem expressions_put1 (w : World) : (Instr.mapUpdate 77 (.map (some w.heap.size)) (.string ⟨#[108, 101, 110]⟩) (.func (.func 116) #[] #[])).run Tryz.prog (w.alloc (.map #[⟨.string ⟨#[105, 110]⟩, .func (.func 115) #[] #[], 0⟩] 1)) = .ok () (w.alloc (.map #[⟨.string ⟨#[105, 110]⟩, .func (.func 115) #[] #[], 0⟩, ⟨.string ⟨#[108, 101, 110]⟩, .func (.func 116) #[] #[], 1⟩] 2)) :=
  run_put (es := #[⟨.string ⟨#[105, 110]⟩, .func (.func 115) #[] #[], 0⟩]) Tryz.mapM Tryz.strT trivial (no_tab (l := (exprTab).take 1) (s := kLen) (by decide))
theorem expressions_put2 (w : World) : (Instr.mapUpdate 77 (.map (some w.heap.size)) (.string ⟨#[40]⟩) (.func (.func 117) #[] #[])).run Tryz.prog (w.alloc (.map #[⟨.string ⟨#[105, 110]⟩, .func (.func 115) #[] #[], 0⟩, ⟨.string ⟨#[108, 101, 110]⟩, .func (.func 116) #[] #[], 1⟩] 2)) = .ok () (w.alloc (.map #[⟨.string ⟨#[105, 110]⟩, .func (.func 115) #[] #[], 0⟩, ⟨.string ⟨#[108, 101, 110]⟩, .func (.func 116) #[] #[], 1⟩, ⟨.string ⟨#[40]⟩, .func (.func 117) #[] #[], 2⟩] 3)) :=
  run_put (es := #[⟨.string ⟨#[105, 110]⟩, .func (.func 115) #[] #[], 0⟩, ⟨.string ⟨#[108, 101, 110]⟩, .func (.func 116) #[] #[], 1⟩]) Tryz.mapM Tryz.strT trivial (no_tab (l := (exprTab).take 2) (s := pLP) (by decide))
theorem expressions_put3 (w : World) : (Instr.mapUpdate 77 (.map (some w.heap.size)) (.string ⟨#[126]⟩) (.func (.func 118) #[] #[])).run Tryz.prog (w.alloc (.map #[⟨.string ⟨#[105, 110]⟩, .func (.func 115) #[] #[], 0⟩, ⟨.string ⟨#[108, 101, 110]⟩, .func (.func 116) #[] #[], 1⟩, ⟨.string ⟨#[40]⟩, .func (.func 117) #[] #[], 2⟩] 3)) = .ok () (w.alloc (.map #[⟨.string ⟨#[105, 110]⟩, .func (.func 115) #[] #[], 0⟩, ⟨.string ⟨#[108, 101, 110]⟩, .func (.func 116) #[] #[], 1⟩, ⟨.string ⟨#[40]⟩, .func (.func 117) #[] #[], 2⟩, ⟨.string ⟨#[126]⟩, .func (.func 118) #[] #[], 3⟩] 4)) :=
  run_put (es := #[⟨.string ⟨#[105, 110]⟩, .func (.func 115) #[] #[], 0⟩, ⟨.string ⟨#[108, 101, 110]⟩, .func (.func 116) #[] #[], 1⟩, ⟨.string ⟨#[40]⟩, .func (.func 117) #[] #[], 2⟩]) Tryz.mapM Tryz.strT trivial (no_tab (l := (exprTab).take 3) (s := pTilde) (by decide))
theorem expressions_put4 (w : World) : (Instr.mapUpdate 77 (.map (some w.heap.size)) (.string ⟨#[115, 101, 120, 116]⟩) (.func (.func 119) #[] #[])).run Tryz.prog (w.alloc (.map #[⟨.string ⟨#[105, 110]⟩, .func (.func 115) #[] #[], 0⟩, ⟨.string ⟨#[108, 101, 110]⟩, .func (.func 116) #[] #[], 1⟩, ⟨.string ⟨#[40]⟩, .func (.func 117) #[] #[], 2⟩, ⟨.string ⟨#[126]⟩, .func (.func 118) #[] #[], 3⟩] 4)) = .ok () (w.alloc (.map #[⟨.string ⟨#[105, 110]⟩, .func (.func 115) #[] #[], 0⟩, ⟨.string ⟨#[108, 101, 110]⟩, .func (.func 116) #[] #[], 1⟩, ⟨.string ⟨#[40]⟩, .func (.func 117) #[] #[], 2⟩, ⟨.string ⟨#[126]⟩, .func (.func 118) #[] #[], 3⟩, ⟨.string ⟨#[115, 101, 120, 116]⟩, .func (.func 119) #[] #[], 4⟩] 5)) :=
  run_put (es := #[⟨.string ⟨#[105, 110]⟩, .func (.func 115) #[] #[], 0⟩, ⟨.string ⟨#[108, 101, 110]⟩, .func (.func 116) #[] #[], 1⟩, ⟨.string ⟨#[40]⟩, .func (.func 117) #[] #[], 2⟩, ⟨.string ⟨#[126]⟩, .func (.func 118) #[] #[], 3⟩]) Tryz.mapM Tryz.strT trivial (no_tab (l := (exprTab).take 4) (s := kSext) (by decide))
theorem expressions_put5 (w : World) : (Instr.mapUpdate 77 (.map (some w.heap.size)) (.string ⟨#[110, 117, 109, 98, 101, 114]⟩) (.func (.func 120) #[] #[])).run Tryz.prog (w.alloc (.map #[⟨.string ⟨#[105, 110]⟩, .func (.func 115) #[] #[], 0⟩, ⟨.string ⟨#[108, 101, 110]⟩, .func (.func 116) #[] #[], 1⟩, ⟨.string ⟨#[40]⟩, .func (.func 117) #[] #[], 2⟩, ⟨.string ⟨#[126]⟩, .func (.func 118) #[] #[], 3⟩, ⟨.string ⟨#[115, 101, 120, 116]⟩, .func (.func 119) #[] #[], 4⟩] 5)) = .ok () (w.alloc (.map #[⟨.string ⟨#[105, 110]⟩, .func (.func 115) #[] #[], 0⟩, ⟨.string ⟨#[108, 101, 110]⟩, .func (.func 116) #[] #[], 1⟩, ⟨.string ⟨#[40]⟩, .func (.func 117) #[] #[], 2⟩, ⟨.string ⟨#[126]⟩, .func (.func 118) #[] #[], 3⟩, ⟨.string ⟨#[115, 101, 120, 116]⟩, .func (.func 119) #[] #[], 4⟩, ⟨.string ⟨#[110, 117, 109, 98, 101, 114]⟩, .func (.func 120) #[] #[], 5⟩] 6)) :=
  run_put (es := #[⟨.string ⟨#[105, 110]⟩, .func (.func 115) #[] #[], 0⟩, ⟨.string ⟨#[108, 101, 110]⟩, .func (.func 116) #[] #[], 1⟩, ⟨.string ⟨#[40]⟩, .func (.func 117) #[] #[], 2⟩, ⟨.string ⟨#[126]⟩, .func (.func 118) #[] #[], 3⟩, ⟨.string ⟨#[115, 101, 120, 116]⟩, .func (.func 119) #[] #[], 4⟩]) Tryz.mapM Tryz.strT trivial (no_tab (l := (exprTab).take 5) (s := wNumber) (by decide))
theorem expressions_put6 (w : World) : (Instr.mapUpdate 77 (.map (some w.heap.size)) (.string ⟨#[110, 97, 109, 101]⟩) (.func (.func 121) #[] #[])).run Tryz.prog (w.alloc (.map #[⟨.string ⟨#[105, 110]⟩, .func (.func 115) #[] #[], 0⟩, ⟨.string ⟨#[108, 101, 110]⟩, .func (.func 116) #[] #[], 1⟩, ⟨.string ⟨#[40]⟩, .func (.func 117) #[] #[], 2⟩, ⟨.string ⟨#[126]⟩, .func (.func 118) #[] #[], 3⟩, ⟨.string ⟨#[115, 101, 120, 116]⟩, .func (.func 119) #[] #[], 4⟩, ⟨.string ⟨#[110, 117, 109, 98, 101, 114]⟩, .func (.func 120) #[] #[], 5⟩] 6)) = .ok () (w.alloc (.map #[⟨.string ⟨#[105, 110]⟩, .func (.func 115) #[] #[], 0⟩, ⟨.string ⟨#[108, 101, 110]⟩, .func (.func 116) #[] #[], 1⟩, ⟨.string ⟨#[40]⟩, .func (.func 117) #[] #[], 2⟩, ⟨.string ⟨#[126]⟩, .func (.func 118) #[] #[], 3⟩, ⟨.string ⟨#[115, 101, 120, 116]⟩, .func (.func 119) #[] #[], 4⟩, ⟨.string ⟨#[110, 117, 109, 98, 101, 114]⟩, .func (.func 120) #[] #[], 5⟩, ⟨.string ⟨#[110, 97, 109, 101]⟩, .func (.func 121) #[] #[], 6⟩] 7)) :=
  run_put (es := #[⟨.string ⟨#[105, 110]⟩, .func (.func 115) #[] #[], 0⟩, ⟨.string ⟨#[108, 101, 110]⟩, .func (.func 116) #[] #[], 1⟩, ⟨.string ⟨#[40]⟩, .func (.func 117) #[] #[], 2⟩, ⟨.string ⟨#[126]⟩, .func (.func 118) #[] #[], 3⟩, ⟨.string ⟨#[115, 101, 120, 116]⟩, .func (.func 119) #[] #[], 4⟩, ⟨.string ⟨#[110, 117, 109, 98, 101, 114]⟩, .func (.func 120) #[] #[], 5⟩]) Tryz.mapM Tryz.strT trivial (no_tab (l := (exprTab).take 6) (s := wName) (by decide))
theorem expressions_put7 (w : World) : (Instr.mapUpdate 77 (.map (some w.heap.size)) (.string ⟨#[116, 121, 112, 101]⟩) (.func (.func 122) #[] #[])).run Tryz.prog (w.alloc (.map #[⟨.string ⟨#[105, 110]⟩, .func (.func 115) #[] #[], 0⟩, ⟨.string ⟨#[108, 101, 110]⟩, .func (.func 116) #[] #[], 1⟩, ⟨.string ⟨#[40]⟩, .func (.func 117) #[] #[], 2⟩, ⟨.string ⟨#[126]⟩, .func (.func 118) #[] #[], 3⟩, ⟨.string ⟨#[115, 101, 120, 116]⟩, .func (.func 119) #[] #[], 4⟩, ⟨.string ⟨#[110, 117, 109, 98, 101, 114]⟩, .func (.func 120) #[] #[], 5⟩, ⟨.string ⟨#[110, 97, 109, 101]⟩, .func (.func 121) #[] #[], 6⟩] 7)) = .ok () (w.alloc (.map #[⟨.string ⟨#[105, 110]⟩, .func (.func 115) #[] #[], 0⟩, ⟨.string ⟨#[108, 101, 110]⟩, .func (.func 116) #[] #[], 1⟩, ⟨.string ⟨#[40]⟩, .func (.func 117) #[] #[], 2⟩, ⟨.string ⟨#[126]⟩, .func (.func 118) #[] #[], 3⟩, ⟨.string ⟨#[115, 101, 120, 116]⟩, .func (.func 119) #[] #[], 4⟩, ⟨.string ⟨#[110, 117, 109, 98, 101, 114]⟩, .func (.func 120) #[] #[], 5⟩, ⟨.string ⟨#[110, 97, 109, 101]⟩, .func (.func 121) #[] #[], 6⟩, ⟨.string ⟨#[116, 121, 112, 101]⟩, .func (.func 122) #[] #[], 7⟩] 8)) :=
  run_put (es := #[⟨.string ⟨#[105, 110]⟩, .func (.func 115) #[] #[], 0⟩, ⟨.string ⟨#[108, 101, 110]⟩, .func (.func 116) #[] #[], 1⟩, ⟨.string ⟨#[40]⟩, .func (.func 117) #[] #[], 2⟩, ⟨.string ⟨#[126]⟩, .func (.func 118) #[] #[], 3⟩, ⟨.string ⟨#[115, 101, 120, 116]⟩, .func (.func 119) #[] #[], 4⟩, ⟨.string ⟨#[110, 117, 109, 98, 101, 114]⟩, .func (.func 120) #[] #[], 5⟩, ⟨.string ⟨#[110, 97, 109, 101]⟩, .func (.func 121) #[] #[], 6⟩]) Tryz.mapM Tryz.strT trivial (no_tab (l := (exprTab).take 7) (s := wType) (by decide))
set_option maxRecDepth 100000 in
set_option maxHeartbeats 800000 in
theorem expressions_any (w : World) : Calls Tryz.prog 57 #[] w fun e w' => e = .returned (.map (some w.heap.size)) ∧ w' = w.alloc (.map (mapOf exprTab).toArray 8) := by
  have hmm := @run_makeMap Tryz.prog
  have h0 := expressions_put0 w
  have h1 := expressions_put1 w
  have h2 := expressions_put2 w
  have h3 := expressions_put3 w
  have h4 := expressions_put4 w
  have h5 := expressions_put5 w
  have h6 := expressions_put6 w
  have h7 := expressions_put7 w
  go_enter Tryz.func57, Tryz.ntmps57
  go_wp2
  go_ret
  exact ⟨rfl, rfl⟩

theorem signs_put0 (w : World) : (Instr.mapUpdate 78 (.map (some w.heap.size)) (.string ⟨#[43]⟩) (.int .u64 1)).run Tryz.prog (w.alloc (.map #[] 0)) = .ok () (w.alloc (.map #[⟨.string ⟨#[43]⟩, .int .u64 1, 0⟩] 1)) :=
  run_put (es := #[]) Tryz.mapN Tryz.strT trivial (no_num (l := signWords.take 0) (s := [43]) (by decide))
theorem signs_put1 (w : World) : (Instr.mapUpdate 78 (.map (some w.heap.size)) (.string ⟨#[45]⟩) (.int .u64 2)).run Tryz.prog (w.alloc (.map #[⟨.string ⟨#[43]⟩, .int .u64 1, 0⟩] 1)) = .ok () (w.alloc (.map #[⟨.string ⟨#[43]⟩, .int .u64 1, 0⟩, ⟨.string ⟨#[45]⟩, .int .u64 2, 1⟩] 2)) :=
  run_put (es := #[⟨.string ⟨#[43]⟩, .int .u64 1, 0⟩]) Tryz.mapN Tryz.strT trivial (no_num (l := signWords.take 1) (s := [45]) (by decide))
theorem signs_put2 (w : World) : (Instr.mapUpdate 78 (.map (some w.heap.size)) (.string ⟨#[42]⟩) (.int .u64 3)).run Tryz.prog (w.alloc (.map #[⟨.string ⟨#[43]⟩, .int .u64 1, 0⟩, ⟨.string ⟨#[45]⟩, .int .u64 2, 1⟩] 2)) = .ok () (w.alloc (.map #[⟨.string ⟨#[43]⟩, .int .u64 1, 0⟩, ⟨.string ⟨#[45]⟩, .int .u64 2, 1⟩, ⟨.string ⟨#[42]⟩, .int .u64 3, 2⟩] 3)) :=
  run_put (es := #[⟨.string ⟨#[43]⟩, .int .u64 1, 0⟩, ⟨.string ⟨#[45]⟩, .int .u64 2, 1⟩]) Tryz.mapN Tryz.strT trivial (no_num (l := signWords.take 2) (s := [42]) (by decide))
theorem signs_put3 (w : World) : (Instr.mapUpdate 78 (.map (some w.heap.size)) (.string ⟨#[47]⟩) (.int .u64 4)).run Tryz.prog (w.alloc (.map #[⟨.string ⟨#[43]⟩, .int .u64 1, 0⟩, ⟨.string ⟨#[45]⟩, .int .u64 2, 1⟩, ⟨.string ⟨#[42]⟩, .int .u64 3, 2⟩] 3)) = .ok () (w.alloc (.map #[⟨.string ⟨#[43]⟩, .int .u64 1, 0⟩, ⟨.string ⟨#[45]⟩, .int .u64 2, 1⟩, ⟨.string ⟨#[42]⟩, .int .u64 3, 2⟩, ⟨.string ⟨#[47]⟩, .int .u64 4, 3⟩] 4)) :=
  run_put (es := #[⟨.string ⟨#[43]⟩, .int .u64 1, 0⟩, ⟨.string ⟨#[45]⟩, .int .u64 2, 1⟩, ⟨.string ⟨#[42]⟩, .int .u64 3, 2⟩]) Tryz.mapN Tryz.strT trivial (no_num (l := signWords.take 3) (s := [47]) (by decide))
theorem signs_put4 (w : World) : (Instr.mapUpdate 78 (.map (some w.heap.size)) (.string ⟨#[37]⟩) (.int .u64 5)).run Tryz.prog (w.alloc (.map #[⟨.string ⟨#[43]⟩, .int .u64 1, 0⟩, ⟨.string ⟨#[45]⟩, .int .u64 2, 1⟩, ⟨.string ⟨#[42]⟩, .int .u64 3, 2⟩, ⟨.string ⟨#[47]⟩, .int .u64 4, 3⟩] 4)) = .ok () (w.alloc (.map #[⟨.string ⟨#[43]⟩, .int .u64 1, 0⟩, ⟨.string ⟨#[45]⟩, .int .u64 2, 1⟩, ⟨.string ⟨#[42]⟩, .int .u64 3, 2⟩, ⟨.string ⟨#[47]⟩, .int .u64 4, 3⟩, ⟨.string ⟨#[37]⟩, .int .u64 5, 4⟩] 5)) :=
  run_put (es := #[⟨.string ⟨#[43]⟩, .int .u64 1, 0⟩, ⟨.string ⟨#[45]⟩, .int .u64 2, 1⟩, ⟨.string ⟨#[42]⟩, .int .u64 3, 2⟩, ⟨.string ⟨#[47]⟩, .int .u64 4, 3⟩]) Tryz.mapN Tryz.strT trivial (no_num (l := signWords.take 4) (s := [37]) (by decide))
theorem signs_put5 (w : World) : (Instr.mapUpdate 78 (.map (some w.heap.size)) (.string ⟨#[38]⟩) (.int .u64 6)).run Tryz.prog (w.alloc (.map #[⟨.string ⟨#[43]⟩, .int .u64 1, 0⟩, ⟨.string ⟨#[45]⟩, .int .u64 2, 1⟩, ⟨.string ⟨#[42]⟩, .int .u64 3, 2⟩, ⟨.string ⟨#[47]⟩, .int .u64 4, 3⟩, ⟨.string ⟨#[37]⟩, .int .u64 5, 4⟩] 5)) = .ok () (w.alloc (.map #[⟨.string ⟨#[43]⟩, .int .u64 1, 0⟩, ⟨.string ⟨#[45]⟩, .int .u64 2, 1⟩, ⟨.string ⟨#[42]⟩, .int .u64 3, 2⟩, ⟨.string ⟨#[47]⟩, .int .u64 4, 3⟩, ⟨.string ⟨#[37]⟩, .int .u64 5, 4⟩, ⟨.string ⟨#[38]⟩, .int .u64 6, 5⟩] 6)) :=
  run_put (es := #[⟨.string ⟨#[43]⟩, .int .u64 1, 0⟩, ⟨.string ⟨#[45]⟩, .int .u64 2, 1⟩, ⟨.string ⟨#[42]⟩, .int .u64 3, 2⟩, ⟨.string ⟨#[47]⟩, .int .u64 4, 3⟩, ⟨.string ⟨#[37]⟩, .int .u64 5, 4⟩]) Tryz.mapN Tryz.strT trivial (no_num (l := signWords.take 5) (s := [38]) (by decide))
theorem signs_put6 (w : World) : (Instr.mapUpdate 78 (.map (some w.heap.size)) (.string ⟨#[124]⟩) (.int .u64 7)).run Tryz.prog (w.alloc (.map #[⟨.string ⟨#[43]⟩, .int .u64 1, 0⟩, ⟨.string ⟨#[45]⟩, .int .u64 2, 1⟩, ⟨.string ⟨#[42]⟩, .int .u64 3, 2⟩, ⟨.string ⟨#[47]⟩, .int .u64 4, 3⟩, ⟨.string ⟨#[37]⟩, .int .u64 5, 4⟩, ⟨.string ⟨#[38]⟩, .int .u64 6, 5⟩] 6)) = .ok () (w.alloc (.map #[⟨.string ⟨#[43]⟩, .int .u64 1, 0⟩, ⟨.string ⟨#[45]⟩, .int .u64 2, 1⟩, ⟨.string ⟨#[42]⟩, .int .u64 3, 2⟩, ⟨.string ⟨#[47]⟩, .int .u64 4, 3⟩, ⟨.string ⟨#[37]⟩, .int .u64 5, 4⟩, ⟨.string ⟨#[38]⟩, .int .u64 6, 5⟩, ⟨.string ⟨#[124]⟩, .int .u64 7, 6⟩] 7)) :=
  run_put (es := #[⟨.string ⟨#[43]⟩, .int .u64 1, 0⟩, ⟨.string ⟨#[45]⟩, .int .u64 2, 1⟩, ⟨.string ⟨#[42]⟩, .int .u64 3, 2⟩, ⟨.string ⟨#[47]⟩, .int .u64 4, 3⟩, ⟨.string ⟨#[37]⟩, .int .u64 5, 4⟩, ⟨.string ⟨#[38]⟩, .int .u64 6, 5⟩]) Tryz.mapN Tryz.strT trivial (no_num (l := signWords.take 6) (s := [124]) (by decide))
theorem signs_put7 (w : World) : (Instr.mapUpdate 78 (.map (some w.heap.size)) (.string ⟨#[94]⟩) (.int .u64 8)).run Tryz.prog (w.alloc (.map #[⟨.string ⟨#[43]⟩, .int .u64 1, 0⟩, ⟨.string ⟨#[45]⟩, .int .u64 2, 1⟩, ⟨.string ⟨#[42]⟩, .int .u64 3, 2⟩, ⟨.string ⟨#[47]⟩, .int .u64 4, 3⟩, ⟨.string ⟨#[37]⟩, .int .u64 5, 4⟩, ⟨.string ⟨#[38]⟩, .int .u64 6, 5⟩, ⟨.string ⟨#[124]⟩, .int .u64 7, 6⟩] 7)) = .ok () (w.alloc (.map #[⟨.string ⟨#[43]⟩, .int .u64 1, 0⟩, ⟨.string ⟨#[45]⟩, .int .u64 2, 1⟩, ⟨.string ⟨#[42]⟩, .int .u64 3, 2⟩, ⟨.string ⟨#[47]⟩, .int .u64 4, 3⟩, ⟨.string ⟨#[37]⟩, .int .u64 5, 4⟩, ⟨.string ⟨#[38]⟩, .int .u64 6, 5⟩, ⟨.string ⟨#[124]⟩, .int .u64 7, 6⟩, ⟨.string ⟨#[94]⟩, .int .u64 8, 7⟩] 8)) :=
  run_put (es := #[⟨.string ⟨#[43]⟩, .int .u64 1, 0⟩, ⟨.string ⟨#[45]⟩, .int .u64 2, 1⟩, ⟨.string ⟨#[42]⟩, .int .u64 3, 2⟩, ⟨.string ⟨#[47]⟩, .int .u64 4, 3⟩, ⟨.string ⟨#[37]⟩, .int .u64 5, 4⟩, ⟨.string ⟨#[38]⟩, .int .u64 6, 5⟩, ⟨.string ⟨#[124]⟩, .int .u64 7, 6⟩]) Tryz.mapN Tryz.strT trivial (no_num (l := signWords.take 7) (s := [94]) (by decide))
theorem signs_put8 (w : World) : (Instr.mapUpdate 78 (.map (some w.heap.size)) (.string ⟨#[60, 60]⟩) (.int .u64 9)).run Tryz.prog (w.alloc (.map #[⟨.string ⟨#[43]⟩, .int .u64 1, 0⟩, ⟨.string ⟨#[45]⟩, .int .u64 2, 1⟩, ⟨.string ⟨#[42]⟩, .int .u64 3, 2⟩, ⟨.string ⟨#[47]⟩, .int .u64 4, 3⟩, ⟨.string ⟨#[37]⟩, .int .u64 5, 4⟩, ⟨.string ⟨#[38]⟩, .int .u64 6, 5⟩, ⟨.string ⟨#[124]⟩, .int .u64 7, 6⟩, ⟨.string ⟨#[94]⟩, .int .u64 8, 7⟩] 8)) = .ok () (w.alloc (.map #[⟨.string ⟨#[43]⟩, .int .u64 1, 0⟩, ⟨.string ⟨#[45]⟩, .int .u64 2, 1⟩, ⟨.string ⟨#[42]⟩, .int .u64 3, 2⟩, ⟨.string ⟨#[47]⟩, .int .u64 4, 3⟩, ⟨.string ⟨#[37]⟩, .int .u64 5, 4⟩, ⟨.string ⟨#[38]⟩, .int .u64 6, 5⟩, ⟨.string ⟨#[124]⟩, .int .u64 7, 6⟩, ⟨.string ⟨#[94]⟩, .int .u64 8, 7⟩, ⟨.string ⟨#[60, 60]⟩, .int .u64 9, 8⟩] 9)) :=
  run_put (es := #[⟨.string ⟨#[43]⟩, .int .u64 1, 0⟩, ⟨.string ⟨#[45]⟩, .int .u64 2, 1⟩, ⟨.string ⟨#[42]⟩, .int .u64 3, 2⟩, ⟨.string ⟨#[47]⟩, .int .u64 4, 3⟩, ⟨.string ⟨#[37]⟩, .int .u64 5, 4⟩, ⟨.string ⟨#[38]⟩, .int .u64 6, 5⟩, ⟨.string ⟨#[124]⟩, .int .u64 7, 6⟩, ⟨.string ⟨#[94]⟩, .int .u64 8, 7⟩]) Tryz.mapN Tryz.strT trivial (no_num (l := signWords.take 8) (s := [60, 60]) (by decide))
theorem signs_put9 (w : World) : (Instr.mapUpdate 78 (.map (some w.heap.size)) (.string ⟨#[62, 62]⟩) (.int .u64 10)).run Tryz.prog (w.alloc (.map #[⟨.string ⟨#[43]⟩, .int .u64 1, 0⟩, ⟨.string ⟨#[45]⟩, .int .u64 2, 1⟩, ⟨.string ⟨#[42]⟩, .int .u64 3, 2⟩, ⟨.string ⟨#[47]⟩, .int .u64 4, 3⟩, ⟨.string ⟨#[37]⟩, .int .u64 5, 4⟩, ⟨.string ⟨#[38]⟩, .int .u64 6, 5⟩, ⟨.string ⟨#[124]⟩, .int .u64 7, 6⟩, ⟨.string ⟨#[94]⟩, .int .u64 8, 7⟩, ⟨.string ⟨#[60, 60]⟩, .int .u64 9, 8⟩] 9)) = .ok () (w.alloc (.map #[⟨.string ⟨#[43]⟩, .int .u64 1, 0⟩, ⟨.string ⟨#[45]⟩, .int .u64 2, 1⟩, ⟨.string ⟨#[42]⟩, .int .u64 3, 2⟩, ⟨.string ⟨#[47]⟩, .int .u64 4, 3⟩, ⟨.string ⟨#[37]⟩, .int .u64 5, 4⟩, ⟨.string ⟨#[38]⟩, .int .u64 6, 5⟩, ⟨.string ⟨#[124]⟩, .int .u64 7, 6⟩, ⟨.string ⟨#[94]⟩, .int .u64 8, 7⟩, ⟨.string ⟨#[60, 60]⟩, .int .u64 9, 8⟩, ⟨.string ⟨#[62, 62]⟩, .int .u64 10, 9⟩] 10)) :=
  run_put (es := #[⟨.string ⟨#[43]⟩, .int .u64 1, 0⟩, ⟨.string ⟨#[45]⟩, .int .u64 2, 1⟩, ⟨.string ⟨#[42]⟩, .int .u64 3, 2⟩, ⟨.string ⟨#[47]⟩, .int .u64 4, 3⟩, ⟨.string ⟨#[37]⟩, .int .u64 5, 4⟩, ⟨.string ⟨#[38]⟩, .int .u64 6, 5⟩, ⟨.string ⟨#[124]⟩, .int .u64 7, 6⟩, ⟨.string ⟨#[94]⟩, .int .u64 8, 7⟩, ⟨.string ⟨#[60, 60]⟩, .int .u64 9, 8⟩]) Tryz.mapN Tryz.strT trivial (no_num (l := signWords.take 9) (s := [62, 62]) (by decide))
theorem signs_put10 (w : World) : (Instr.mapUpdate 78 (.map (some w.heap.size)) (.string ⟨#[61, 61]⟩) (.int .u64 11)).run Tryz.prog (w.alloc (.map #[⟨.string ⟨#[43]⟩, .int .u64 1, 0⟩, ⟨.string ⟨#[45]⟩, .int .u64 2, 1⟩, ⟨.string ⟨#[42]⟩, .int .u64 3, 2⟩, ⟨.string ⟨#[47]⟩, .int .u64 4, 3⟩, ⟨.string ⟨#[37]⟩, .int .u64 5, 4⟩, ⟨.string ⟨#[38]⟩, .int .u64 6, 5⟩, ⟨.string ⟨#[124]⟩, .int .u64 7, 6⟩, ⟨.string ⟨#[94]⟩, .int .u64 8, 7⟩, ⟨.string ⟨#[60, 60]⟩, .int .u64 9, 8⟩, ⟨.string ⟨#[62, 62]⟩, .int .u64 10, 9⟩] 10)) = .ok () (w.alloc (.map #[⟨.string ⟨#[43]⟩, .int .u64 1, 0⟩, ⟨.string ⟨#[45]⟩, .int .u64 2, 1⟩, ⟨.string ⟨#[42]⟩, .int .u64 3, 2⟩, ⟨.string ⟨#[47]⟩, .int .u64 4, 3⟩, ⟨.string ⟨#[37]⟩, .int .u64 5, 4⟩, ⟨.string ⟨#[38]⟩, .int .u64 6, 5⟩, ⟨.string ⟨#[124]⟩, .int .u64 7, 6⟩, ⟨.string ⟨#[94]⟩, .int .u64 8, 7⟩, ⟨.string ⟨#[60, 60]⟩, .int .u64 9, 8⟩, ⟨.string ⟨#[62, 62]⟩, .int .u64 10, 9⟩, ⟨.string ⟨#[61, 61]⟩, .int .u64 11, 10⟩] 11)) :=
  run_put (es := #[⟨.string ⟨#[43]⟩, .int .u64 1, 0⟩, ⟨.string ⟨#[45]⟩, .int .u64 2, 1⟩, ⟨.string ⟨#[42]⟩, .int .u64 3, 2⟩, ⟨.string ⟨#[47]⟩, .int .u64 4, 3⟩, ⟨.string ⟨#[37]⟩, .int .u64 5, 4⟩, ⟨.string ⟨#[38]⟩, .int .u64 6, 5⟩, ⟨.string ⟨#[124]⟩, .int .u64 7, 6⟩, ⟨.string ⟨#[94]⟩, .int .u64 8, 7⟩, ⟨.string ⟨#[60, 60]⟩, .int .u64 9, 8⟩, ⟨.string ⟨#[62, 62]⟩, .int .u64 10, 9⟩]) Tryz.mapN Tryz.strT trivial (no_num (l := signWords.take 10) (s := [61, 61]) (by decide))
theorem signs_put11 (w : World) : (Instr.mapUpdate 78 (.map (some w.heap.size)) (.string ⟨#[33, 61]⟩) (.int .u64 12)).run Tryz.prog (w.alloc (.map #[⟨.string ⟨#[43]⟩, .int .u64 1, 0⟩, ⟨.string ⟨#[45]⟩, .int .u64 2, 1⟩, ⟨.string ⟨#[42]⟩, .int .u64 3, 2⟩, ⟨.string ⟨#[47]⟩, .int .u64 4, 3⟩, ⟨.string ⟨#[37]⟩, .int .u64 5, 4⟩, ⟨.string ⟨#[38]⟩, .int .u64 6, 5⟩, ⟨.string ⟨#[124]⟩, .int .u64 7, 6⟩, ⟨.string ⟨#[94]⟩, .int .u64 8, 7⟩, ⟨.string ⟨#[60, 60]⟩, .int .u64 9, 8⟩, ⟨.string ⟨#[62, 62]⟩, .int .u64 10, 9⟩, ⟨.string ⟨#[61, 61]⟩, .int .u64 11, 10⟩] 11)) = .ok () (w.alloc (.map #[⟨.string ⟨#[43]⟩, .int .u64 1, 0⟩, ⟨.string ⟨#[45]⟩, .int .u64 2, 1⟩, ⟨.string ⟨#[42]⟩, .int .u64 3, 2⟩, ⟨.string ⟨#[47]⟩, .int .u64 4, 3⟩, ⟨.string ⟨#[37]⟩, .int .u64 5, 4⟩, ⟨.string ⟨#[38]⟩, .int .u64 6, 5⟩, ⟨.string ⟨#[124]⟩, .int .u64 7, 6⟩, ⟨.string ⟨#[94]⟩, .int .u64 8, 7⟩, ⟨.string ⟨#[60, 60]⟩, .int .u64 9, 8⟩, ⟨.string ⟨#[62, 62]⟩, .int .u64 10, 9⟩, ⟨.string ⟨#[61, 61]⟩, .int .u64 11, 10⟩, ⟨.string ⟨#[33, 61]⟩, .int .u64 12, 11⟩] 12)) :=
  run_put (es := #[⟨.string ⟨#[43]⟩, .int .u64 1, 0⟩, ⟨.string ⟨#[45]⟩, .int .u64 2, 1⟩, ⟨.string ⟨#[42]⟩, .int .u64 3, 2⟩, ⟨.string ⟨#[47]⟩, .int .u64 4, 3⟩, ⟨.string ⟨#[37]⟩, .int .u64 5, 4⟩, ⟨.string ⟨#[38]⟩, .int .u64 6, 5⟩, ⟨.string ⟨#[124]⟩, .int .u64 7, 6⟩, ⟨.string ⟨#[94]⟩, .int .u64 8, 7⟩, ⟨.string ⟨#[60, 60]⟩, .int .u64 9, 8⟩, ⟨.string ⟨#[62, 62]⟩, .int .u64 10, 9⟩, ⟨.string ⟨#[61, 61]⟩, .int .u64 11, 10⟩]) Tryz.mapN Tryz.strT trivial (no_num (l := signWords.take 11) (s := [33, 61]) (by decide))
theorem signs_put12 (w : World) : (Instr.mapUpdate 78 (.map (some w.heap.size)) (.string ⟨#[60]⟩) (.int .u64 13)).run Tryz.prog (w.alloc (.map #[⟨.string ⟨#[43]⟩, .int .u64 1, 0⟩, ⟨.string ⟨#[45]⟩, .int .u64 2, 1⟩, ⟨.string ⟨#[42]⟩, .int .u64 3, 2⟩, ⟨.string ⟨#[47]⟩, .int .u64 4, 3⟩, ⟨.string ⟨#[37]⟩, .int .u64 5, 4⟩, ⟨.string ⟨#[38]⟩, .int .u64 6, 5⟩, ⟨.string ⟨#[124]⟩, .int .u64 7, 6⟩, ⟨.string ⟨#[94]⟩, .int .u64 8, 7⟩, ⟨.string ⟨#[60, 60]⟩, .int .u64 9, 8⟩, ⟨.string ⟨#[62, 62]⟩, .int .u64 10, 9⟩, ⟨.string ⟨#[61, 61]⟩, .int .u64 11, 10⟩, ⟨.string ⟨#[33, 61]⟩, .int .u64 12, 11⟩] 12)) = .ok () (w.alloc (.map #[⟨.string ⟨#[43]⟩, .int .u64 1, 0⟩, ⟨.string ⟨#[45]⟩, .int .u64 2, 1⟩, ⟨.string ⟨#[42]⟩, .int .u64 3, 2⟩, ⟨.string ⟨#[47]⟩, .int .u64 4, 3⟩, ⟨.string ⟨#[37]⟩, .int .u64 5, 4⟩, ⟨.string ⟨#[38]⟩, .int .u64 6, 5⟩, ⟨.string ⟨#[124]⟩, .int .u64 7, 6⟩, ⟨.string ⟨#[94]⟩, .int .u64 8, 7⟩, ⟨.string ⟨#[60, 60]⟩, .int .u64 9, 8⟩, ⟨.string ⟨#[62, 62]⟩, .int .u64 10, 9⟩, ⟨.string ⟨#[61, 61]⟩, .int .u64 11, 10⟩, ⟨.string ⟨#[33, 61]⟩, .int .u64 12, 11⟩, ⟨.string ⟨#[60]⟩, .int .u64 13, 12⟩] 13)) :=
  run_put (es := #[⟨.string ⟨#[43]⟩, .int .u64 1, 0⟩, ⟨.string ⟨#[45]⟩, .int .u64 2, 1⟩, ⟨.string ⟨#[42]⟩, .int .u64 3, 2⟩, ⟨.string ⟨#[47]⟩, .int .u64 4, 3⟩, ⟨.string ⟨#[37]⟩, .int .u64 5, 4⟩, ⟨.string ⟨#[38]⟩, .int .u64 6, 5⟩, ⟨.string ⟨#[124]⟩, .int .u64 7, 6⟩, ⟨.string ⟨#[94]⟩, .int .u64 8, 7⟩, ⟨.string ⟨#[60, 60]⟩, .int .u64 9, 8⟩, ⟨.string ⟨#[62, 62]⟩, .int .u64 10, 9⟩, ⟨.string ⟨#[61, 61]⟩, .int .u64 11, 10⟩, ⟨.string ⟨#[33, 61]⟩, .int .u64 12, 11⟩]) Tryz.mapN Tryz.strT trivial (no_num (l := signWords.take 12) (s := [60]) (by decide))
theorem signs_put13 (w : World) : (Instr.mapUpdate 78 (.map (some w.heap.size)) (.string ⟨#[60, 61]⟩) (.int .u64 14)).run Tryz.prog (w.alloc (.map #[⟨.string ⟨#[43]⟩, .int .u64 1, 0⟩, ⟨.string ⟨#[45]⟩, .int .u64 2, 1⟩, ⟨.string ⟨#[42]⟩, .int .u64 3, 2⟩, ⟨.string ⟨#[47]⟩, .int .u64 4, 3⟩, ⟨.string ⟨#[37]⟩, .int .u64 5, 4⟩, ⟨.string ⟨#[38]⟩, .int .u64 6, 5⟩, ⟨.string ⟨#[124]⟩, .int .u64 7, 6⟩, ⟨.string ⟨#[94]⟩, .int .u64 8, 7⟩, ⟨.string ⟨#[60, 60]⟩, .int .u64 9, 8⟩, ⟨.string ⟨#[62, 62]⟩, .int .u64 10, 9⟩, ⟨.string ⟨#[61, 61]⟩, .int .u64 11, 10⟩, ⟨.string ⟨#[33, 61]⟩, .int .u64 12, 11⟩, ⟨.string ⟨#[60]⟩, .int .u64 13, 12⟩] 13)) = .ok () (w.alloc (.map #[⟨.string ⟨#[43]⟩, .int .u64 1, 0⟩, ⟨.string ⟨#[45]⟩, .int .u64 2, 1⟩, ⟨.string ⟨#[42]⟩, .int .u64 3, 2⟩, ⟨.string ⟨#[47]⟩, .int .u64 4, 3⟩, ⟨.string ⟨#[37]⟩, .int .u64 5, 4⟩, ⟨.string ⟨#[38]⟩, .int .u64 6, 5⟩, ⟨.string ⟨#[124]⟩, .int .u64 7, 6⟩, ⟨.string ⟨#[94]⟩, .int .u64 8, 7⟩, ⟨.string ⟨#[60, 60]⟩, .int .u64 9, 8⟩, ⟨.string ⟨#[62, 62]⟩, .int .u64 10, 9⟩, ⟨.string ⟨#[61, 61]⟩, .int .u64 11, 10⟩, ⟨.string ⟨#[33, 61]⟩, .int .u64 12, 11⟩, ⟨.string ⟨#[60]⟩, .int .u64 13, 12⟩, ⟨.string ⟨#[60, 61]⟩, .int .u64 14, 13⟩] 14)) :=
  run_put (es := #[⟨.string ⟨#[43]⟩, .int .u64 1, 0⟩, ⟨.string ⟨#[45]⟩, .int .u64 2, 1⟩, ⟨.string ⟨#[42]⟩, .int .u64 3, 2⟩, ⟨.string ⟨#[47]⟩, .int .u64 4, 3⟩, ⟨.string ⟨#[37]⟩, .int .u64 5, 4⟩, ⟨.string ⟨#[38]⟩, .int .u64 6, 5⟩, ⟨.string ⟨#[124]⟩, .int .u64 7, 6⟩, ⟨.string ⟨#[94]⟩, .int .u64 8, 7⟩, ⟨.string ⟨#[60, 60]⟩, .int .u64 9, 8⟩, ⟨.string ⟨#[62, 62]⟩, .int .u64 10, 9⟩, ⟨.string ⟨#[61, 61]⟩, .int .u64 11, 10⟩, ⟨.string ⟨#[33, 61]⟩, .int .u64 12, 11⟩, ⟨.string ⟨#[60]⟩, .int .u64 13, 12⟩]) Tryz.mapN Tryz.strT trivial (no_num (l := signWords.take 13) (s := [60, 61]) (by decide))
theorem signs_put14 (w : World) : (Instr.mapUpdate 78 (.map (some w.heap.size)) (.string ⟨#[62]⟩) (.int .u64 15)).run Tryz.prog (w.alloc (.map #[⟨.string ⟨#[43]⟩, .int .u64 1, 0⟩, ⟨.string ⟨#[45]⟩, .int .u64 2, 1⟩, ⟨.string ⟨#[42]⟩, .int .u64 3, 2⟩, ⟨.string ⟨#[47]⟩, .int .u64 4, 3⟩, ⟨.string ⟨#[37]⟩, .int .u64 5, 4⟩, ⟨.string ⟨#[38]⟩, .int .u64 6, 5⟩, ⟨.string ⟨#[124]⟩, .int .u64 7, 6⟩, ⟨.string ⟨#[94]⟩, .int .u64 8, 7⟩, ⟨.string ⟨#[60, 60]⟩, .int .u64 9, 8⟩, ⟨.string ⟨#[62, 62]⟩, .int .u64 10, 9⟩, ⟨.string ⟨#[61, 61]⟩, .int .u64 11, 10⟩, ⟨.string ⟨#[33, 61]⟩, .int .u64 12, 11⟩, ⟨.string ⟨#[60]⟩, .int .u64 13, 12⟩, ⟨.string ⟨#[60, 61]⟩, .int .u64 14, 13⟩] 14)) = .ok () (w.alloc (.map #[⟨.string ⟨#[43]⟩, .int .u64 1, 0⟩, ⟨.string ⟨#[45]⟩, .int .u64 2, 1⟩, ⟨.string ⟨#[42]⟩, .int .u64 3, 2⟩, ⟨.string ⟨#[47]⟩, .int .u64 4, 3⟩, ⟨.string ⟨#[37]⟩, .int .u64 5, 4⟩, ⟨.string ⟨#[38]⟩, .int .u64 6, 5⟩, ⟨.string ⟨#[124]⟩, .int .u64 7, 6⟩, ⟨.string ⟨#[94]⟩, .int .u64 8, 7⟩, ⟨.string ⟨#[60, 60]⟩, .int .u64 9, 8⟩, ⟨.string ⟨#[62, 62]⟩, .int .u64 10, 9⟩, ⟨.string ⟨#[61, 61]⟩, .int .u64 11, 10⟩, ⟨.string ⟨#[33, 61]⟩, .int .u64 12, 11⟩, ⟨.string ⟨#[60]⟩, .int .u64 13, 12⟩, ⟨.string ⟨#[60, 61]⟩, .int .u64 14, 13⟩, ⟨.string ⟨#[62]⟩, .int .u64 15, 14⟩] 15)) :=
  run_put (es := #[⟨.string ⟨#[43]⟩, .int .u64 1, 0⟩, ⟨.string ⟨#[45]⟩, .int .u64 2, 1⟩, ⟨.string ⟨#[42]⟩, .int .u64 3, 2⟩, ⟨.string ⟨#[47]⟩, .int .u64 4, 3⟩, ⟨.string ⟨#[37]⟩, .int .u64 5, 4⟩, ⟨.string ⟨#[38]⟩, .int .u64 6, 5⟩, ⟨.string ⟨#[124]⟩, .int .u64 7, 6⟩, ⟨.string ⟨#[94]⟩, .int .u64 8, 7⟩, ⟨.string ⟨#[60, 60]⟩, .int .u64 9, 8⟩, ⟨.string ⟨#[62, 62]⟩, .int .u64 10, 9⟩, ⟨.string ⟨#[61, 61]⟩, .int .u64 11, 10⟩, ⟨.string ⟨#[33, 61]⟩, .int .u64 12, 11⟩, ⟨.string ⟨#[60]⟩, .int .u64 13, 12⟩, ⟨.string ⟨#[60, 61]⟩, .int .u64 14, 13⟩]) Tryz.mapN Tryz.strT trivial (no_num (l := signWords.take 14) (s := [62]) (by decide))
theorem signs_put15 (w : World) : (Instr.mapUpdate 78 (.map (some w.heap.size)) (.string ⟨#[62, 61]⟩) (.int .u64 16)).run Tryz.prog (w.alloc (.map #[⟨.string ⟨#[43]⟩, .int .u64 1, 0⟩, ⟨.string ⟨#[45]⟩, .int .u64 2, 1⟩, ⟨.string ⟨#[42]⟩, .int .u64 3, 2⟩, ⟨.string ⟨#[47]⟩, .int .u64 4, 3⟩, ⟨.string ⟨#[37]⟩, .int .u64 5, 4⟩, ⟨.string ⟨#[38]⟩, .int .u64 6, 5⟩, ⟨.string ⟨#[124]⟩, .int .u64 7, 6⟩, ⟨.string ⟨#[94]⟩, .int .u64 8, 7⟩, ⟨.string ⟨#[60, 60]⟩, .int .u64 9, 8⟩, ⟨.string ⟨#[62, 62]⟩, .int .u64 10, 9⟩, ⟨.string ⟨#[61, 61]⟩, .int .u64 11, 10⟩, ⟨.string ⟨#[33, 61]⟩, .int .u64 12, 11⟩, ⟨.string ⟨#[60]⟩, .int .u64 13, 12⟩, ⟨.string ⟨#[60, 61]⟩, .int .u64 14, 13⟩, ⟨.string ⟨#[62]⟩, .int .u64 15, 14⟩] 15)) = .ok () (w.alloc (.map #[⟨.string ⟨#[43]⟩, .int .u64 1, 0⟩, ⟨.string ⟨#[45]⟩, .int .u64 2, 1⟩, ⟨.string ⟨#[42]⟩, .int .u64 3, 2⟩, ⟨.string ⟨#[47]⟩, .int .u64 4, 3⟩, ⟨.string ⟨#[37]⟩, .int .u64 5, 4⟩, ⟨.string ⟨#[38]⟩, .int .u64 6, 5⟩, ⟨.string ⟨#[124]⟩, .int .u64 7, 6⟩, ⟨.string ⟨#[94]⟩, .int .u64 8, 7⟩, ⟨.string ⟨#[60, 60]⟩, .int .u64 9, 8⟩, ⟨.string ⟨#[62, 62]⟩, .int .u64 10, 9⟩, ⟨.string ⟨#[61, 61]⟩, .int .u64 11, 10⟩, ⟨.string ⟨#[33, 61]⟩, .int .u64 12, 11⟩, ⟨.string ⟨#[60]⟩, .int .u64 13, 12⟩, ⟨.string ⟨#[60, 61]⟩, .int .u64 14, 13⟩, ⟨.string ⟨#[62]⟩, .int .u64 15, 14⟩, ⟨.string ⟨#[62, 61]⟩, .int .u64 16, 15⟩] 16)) :=
  run_put (es := #[⟨.string ⟨#[43]⟩, .int .u64 1, 0⟩, ⟨.string ⟨#[45]⟩, .int .u64 2, 1⟩, ⟨.string ⟨#[42]⟩, .int .u64 3, 2⟩, ⟨.string ⟨#[47]⟩, .int .u64 4, 3⟩, ⟨.string ⟨#[37]⟩, .int .u64 5, 4⟩, ⟨.string ⟨#[38]⟩, .int .u64 6, 5⟩, ⟨.string ⟨#[124]⟩, .int .u64 7, 6⟩, ⟨.string ⟨#[94]⟩, .int .u64 8, 7⟩, ⟨.string ⟨#[60, 60]⟩, .int .u64 9, 8⟩, ⟨.string ⟨#[62, 62]⟩, .int .u64 10, 9⟩, ⟨.string ⟨#[61, 61]⟩, .int .u64 11, 10⟩, ⟨.string ⟨#[33, 61]⟩, .int .u64 12, 11⟩, ⟨.string ⟨#[60]⟩, .int .u64 13, 12⟩, ⟨.string ⟨#[60, 61]⟩, .int .u64 14, 13⟩, ⟨.string ⟨#[62]⟩, .int .u64 15, 14⟩]) Tryz.mapN Tryz.strT trivial (no_num (l := signWords.take 15) (s := [62, 61]) (by decide))
theorem signs_put16 (w : World) : (Instr.mapUpdate 78 (.map (some w.heap.size)) (.string ⟨#[115, 108, 116]⟩) (.int .u64 17)).run Tryz.prog (w.alloc (.map #[⟨.string ⟨#[43]⟩, .int .u64 1, 0⟩, ⟨.string ⟨#[45]⟩, .int .u64 2, 1⟩, ⟨.string ⟨#[42]⟩, .int .u64 3, 2⟩, ⟨.string ⟨#[47]⟩, .int .u64 4, 3⟩, ⟨.string ⟨#[37]⟩, .int .u64 5, 4⟩, ⟨.string ⟨#[38]⟩, .int .u64 6, 5⟩, ⟨.string ⟨#[124]⟩, .int .u64 7, 6⟩, ⟨.string ⟨#[94]⟩, .int .u64 8, 7⟩, ⟨.string ⟨#[60, 60]⟩, .int .u64 9, 8⟩, ⟨.string ⟨#[62, 62]⟩, .int .u64 10, 9⟩, ⟨.string ⟨#[61, 61]⟩, .int .u64 11, 10⟩, ⟨.string ⟨#[33, 61]⟩, .int .u64 12, 11⟩, ⟨.string ⟨#[60]⟩, .int .u64 13, 12⟩, ⟨.string ⟨#[60, 61]⟩, .int .u64 14, 13⟩, ⟨.string ⟨#[62]⟩, .int .u64 15, 14⟩, ⟨.string ⟨#[62, 61]⟩, .int .u64 16, 15⟩] 16)) = .ok () (w.alloc (.map #[⟨.string ⟨#[43]⟩, .int .u64 1, 0⟩, ⟨.string ⟨#[45]⟩, .int .u64 2, 1⟩, ⟨.string ⟨#[42]⟩, .int .u64 3, 2⟩, ⟨.string ⟨#[47]⟩, .int .u64 4, 3⟩, ⟨.string ⟨#[37]⟩, .int .u64 5, 4⟩, ⟨.string ⟨#[38]⟩, .int .u64 6, 5⟩, ⟨.string ⟨#[124]⟩, .int .u64 7, 6⟩, ⟨.string ⟨#[94]⟩, .int .u64 8, 7⟩, ⟨.string ⟨#[60, 60]⟩, .int .u64 9, 8⟩, ⟨.string ⟨#[62, 62]⟩, .int .u64 10, 9⟩, ⟨.string ⟨#[61, 61]⟩, .int .u64 11, 10⟩, ⟨.string ⟨#[33, 61]⟩, .int .u64 12, 11⟩, ⟨.string ⟨#[60]⟩, .int .u64 13, 12⟩, ⟨.string ⟨#[60, 61]⟩, .int .u64 14, 13⟩, ⟨.string ⟨#[62]⟩, .int .u64 15, 14⟩, ⟨.string ⟨#[62, 61]⟩, .int .u64 16, 15⟩, ⟨.string ⟨#[115, 108, 116]⟩, .int .u64 17, 16⟩] 17)) :=
  run_put (es := #[⟨.string ⟨#[43]⟩, .int .u64 1, 0⟩, ⟨.string ⟨#[45]⟩, .int .u64 2, 1⟩, ⟨.string ⟨#[42]⟩, .int .u64 3, 2⟩, ⟨.string ⟨#[47]⟩, .int .u64 4, 3⟩, ⟨.string ⟨#[37]⟩, .int .u64 5, 4⟩, ⟨.string ⟨#[38]⟩, .int .u64 6, 5⟩, ⟨.string ⟨#[124]⟩, .int .u64 7, 6⟩, ⟨.string ⟨#[94]⟩, .int .u64 8, 7⟩, ⟨.string ⟨#[60, 60]⟩, .int .u64 9, 8⟩, ⟨.string ⟨#[62, 62]⟩, .int .u64 10, 9⟩, ⟨.string ⟨#[61, 61]⟩, .int .u64 11, 10⟩, ⟨.string ⟨#[33, 61]⟩, .int .u64 12, 11⟩, ⟨.string ⟨#[60]⟩, .int .u64 13, 12⟩, ⟨.string ⟨#[60, 61]⟩, .int .u64 14, 13⟩, ⟨.string ⟨#[62]⟩, .int .u64 15, 14⟩, ⟨.string ⟨#[62, 61]⟩, .int .u64 16, 15⟩]) Tryz.mapN Tryz.strT trivial (no_num (l := signWords.take 16) (s := [115, 108, 116]) (by decide))
set_option maxRecDepth 100000 in
set_option maxHeartbeats 1600000 in
theorem signs_any (w : World) : Calls Tryz.prog 58 #[] w fun e w' => e = .returned (.map (some w.heap.size)) ∧ w' = w.alloc (.map (numOf signWords).toArray 17) := by
  have hmm := @run_makeMap Tryz.prog
  have h0 := signs_put0 w
  have h1 := signs_put1 w
  have h2 := signs_put2 w
  have h3 := signs_put3 w
  have h4 := signs_put4 w
  have h5 := signs_put5 w
  have h6 := signs_put6 w
  have h7 := signs_put7 w
  have h8 := signs_put8 w
  have h9 := signs_put9 w
  have h10 := signs_put10 w
  have h11 := signs_put11 w
  have h12 := signs_put12 w
  have h13 := signs_put13 w
  have h14 := signs_put14 w
  have h15 := signs_put15 w
  have h16 := signs_put16 w
  go_enter Tryz.func58, Tryz.ntmps58
  go_wp2
  go_ret
  exact ⟨rfl, rfl⟩

end Go.Proofs.YtmkehecapjdfdaaGreatDoor

/- A reader is made. -/
namespace Go.Proofs.YtmkehecapjdfdaaGreatDoor
open Go.RowKit

theorem Tryz.infoPT : (Tryz.prog.info? 108).map (fun i => (i.zero, i.size, i.bytes)) = some (some (.agg #[.int .i64 0, .string ⟨#[]⟩, .int .u64 0, .int .i64 0, .string ⟨#[]⟩]), 5, 56) := by kernel_rfl
def ptk (t : Tok) : PTok := ⟨t, wordT t⟩

/-- The blocks that a reader lies in. -/
abbrev rAt (b : Nat) : Nat := b + 1 + 1 + 1 + 1
/-- A reader that is being made: so many tokens are in it. -/
structure NR (b : Nat) (w : World) (tv : Value) (ps : List PTok) : Prop where
  rd : w.heap[rAt b]? = some (.cells #[tv, .int .i64 0, .int .i64 0, .slice none 0 0, .map (some b), .map (some (b + 1)), .map (some (b + 1 + 1)), .map (some (b + 1 + 1 + 1))] RT (0, 0))
  row : w.ownsRow (rAt b + 1) KT 5 tv ps.length (ptsV ps)
  m0 : w.heap[b]? = some (.map (mapOf itemTab).toArray 3)
  m1 : w.heap[b + 1]? = some (.map (mapOf stmtTab).toArray 12)
  m2 : w.heap[b + 1 + 1]? = some (.map (mapOf exprTab).toArray 8)
  m3 : w.heap[b + 1 + 1 + 1]? = some (.map (numOf signWords).toArray 17)
theorem NR.lt {b : Nat} {w : World} {tv : Value} {ps : List PTok} (h : NR b w tv ps) : rAt b < w.heap.size := (Array.getElem?_eq_some_iff.1 h.rd).1
theorem NR.later {b : Nat} {w w' : World} {tv : Value} {ps : List PTok} (h : NR b w tv ps) (hb : Below w.heap.size w w') : NR b w' tv ps := by
  have hlt := h.lt
  unfold rAt at hlt
  exact ⟨(hb.block _ (by unfold rAt; omega)).trans h.rd, h.row.kept (only_of_below hb none) (by cases tv.ownBlock <;> simp), (hb.block _ (by omega)).trans h.m0, (hb.block _ (by omega)).trans h.m1, (hb.block _ (by omega)).trans h.m2, (hb.block _ (by omega)).trans h.m3⟩
theorem ptsV_append : ∀ a b, ptsV (a ++ b) = ptsV a ++ ptsV b
  | [], b => rfl
  | t :: r, b => by simp [ptsV, ptsV_append r b]
theorem NR.hold {b : Nat} {w wA : World} {tv : Value} {ps : List PTok} {o : Obj} (h : NR b w tv ps) (g2 : (w.alloc o).grownBy wA tv.ownBlock) {k : Nat} (hk : k ≤ rAt b) : wA.heap[k]? = w.heap[k]? := by
  have hlt := h.lt
  rw [g2.block k (by simp; omega) (fun e => by have := (h.row.lt k e.symm).1; omega)]
  exact Below.heap_alloc w o k (by omega)
theorem ptCells_one (p : PTok) : ∀ u ∈ ptCells p, u.oneCell' = true := by
  intro u hu
  simp [ptCells] at hu
  rcases hu with rfl | rfl | rfl | rfl | rfl <;> rfl
theorem Toks.tok {w : World} {B c : Nat} {A : Option Addr} {ts : List Tok} (h : Toks w B (.slice A ts.length c) ts) (i : Nat) (hi : i < ts.length) : ∃ g, A = some ⟨g, 0, none⟩ ∧ ts.length ≤ c ∧
    w.cell? ⟨g, i * 4, none⟩ = some (.int .i64 (ts[i]).kind) ∧ w.cell? ⟨g, i * 4 + 1, none⟩ = some (.string ⟨(ts[i]).text.toArray⟩) ∧
    w.cell? ⟨g, i * 4 + 2, none⟩ = some (.int .u64 (ts[i]).num) ∧ w.cell? ⟨g, i * 4 + 3, none⟩ = some (.int .i64 (ts[i]).off) := by
  rcases h.2 with ⟨_, h2⟩ | ⟨g, cap, cur, e, hb, hg, hc, hm, hs, ht⟩
  · omega
  · cases e
    have key : ∀ j, j < 4 → w.cell? ⟨g, i * 4 + j, none⟩ = (tokVals ts[i])[j]? := fun j hj => by
      have hlt : i * 4 + j < ts.length * 4 := by omega
      rw [← toksV_at ts i hi j hj, ← ht, List.getElem?_take, if_pos hlt]
      unfold World.cell?
      rw [hg]
      simp
    exact ⟨g, rfl, hc, key 0 (by omega), key 1 (by omega), key 2 (by omega), key 3 (by omega)⟩
theorem NR.push {b : Nat} {w wA : World} {tv : Value} {ps : List PTok} {p : PTok} {o : Obj} {g cap : Nat} (h : NR b w tv ps)
    (o2 : wA.ownsRow (rAt b + 1) KT 5 (.slice (some ⟨g, 0, none⟩) (ps.length + 1) cap) (ps.length + 1) (ptsV ps ++ ptCells p)) (g2 : (w.alloc o).grownBy wA tv.ownBlock) :
    NR b (wA.setCell ⟨rAt b, 0, none⟩ (.slice (some ⟨g, 0, none⟩) (ps.length + 1) cap)) (.slice (some ⟨g, 0, none⟩) (ps.length + 1) cap) (ps ++ [p]) := by
  have hlt := h.lt
  have hold : ∀ k, k ≤ rAt b → wA.heap[k]? = w.heap[k]? := fun k hk => by
    rw [g2.block k (by simp; omega) (fun e => by have := (h.row.lt k e.symm).1; omega)]
    exact Below.heap_alloc w o k (by omega)
  have far : ∀ (k : Nat), k ≠ rAt b → (wA.setCell ⟨rAt b, 0, none⟩ (.slice (some ⟨g, 0, none⟩) (ps.length + 1) cap)).heap[k]? = wA.heap[k]? := fun k hk => Below.heap_setCell wA ⟨rAt b, 0, none⟩ _ k hk
  have hrd := (hold _ (Nat.le_refl _)).trans h.rd
  refine ⟨?_, ?_, ?_, ?_, ?_, ?_⟩
  · have := (show Box wA (rAt b) RT _ from hrd).set 0 (.slice (some ⟨g, 0, none⟩) (ps.length + 1) cap)
    exact this
  · rw [List.length_append, ptsV_append]
    have hg := o2.lt g rfl
    refine ⟨by have := o2.1; simpa [ptsV] using this, ?_⟩
    rcases o2.2 with ⟨e, _⟩ | ⟨g', cap', cur, e, q1, q2, q3⟩
    · cases e
    · refine .inr ⟨g', cap', cur, e, q1, ?_, by simpa [ptsV] using q3⟩
      rw [far g' (by omega)]
      exact q2
  · rw [far b (by unfold rAt; omega), hold b (by unfold rAt; omega)]; exact h.m0
  · rw [far (b + 1) (by unfold rAt; omega), hold (b + 1) (by unfold rAt; omega)]; exact h.m1
  · rw [far (b + 1 + 1) (by unfold rAt; omega), hold (b + 1 + 1) (by unfold rAt; omega)]; exact h.m2
  · rw [far (b + 1 + 1 + 1) (by unfold rAt; omega), hold (b + 1 + 1 + 1) (by unfold rAt; omega)]; exact h.m3
theorem NR.below {b : Nat} {w wA : World} {tv : Value} {ps : List PTok} {o : Obj} (h : NR b w tv ps) (g2 : (w.alloc o).grownBy wA tv.ownBlock) (v : Value) : Below b w (wA.setCell ⟨rAt b, 0, none⟩ v) := by
  have hlt := h.lt
  refine (show Below b w wA from ⟨g2.os, g2.tape, g2.output, by have := g2.size; simp at this; omega, fun k hk => ?_⟩).setCell (by show b ≤ rAt b; unfold rAt; omega) v
  rw [g2.block k (by simp; unfold rAt at hlt; omega) (fun e => by have := (h.row.lt k e.symm).1; unfold rAt at this; omega)]
  exact Below.heap_alloc w o k (by unfold rAt at hlt; omega)
theorem rowLow {w : World} {B B' T sz n : Nat} {v : Value} {xs : List Value} (h : w.ownsRow B T sz v n xs) (hb : B' ≤ B) : w.ownsRow B' T sz v n xs := by
  refine ⟨h.1, ?_⟩
  rcases h.2 with h2 | ⟨g, cap, cur, h3, h4, h5⟩
  · exact Or.inl h2
  · exact Or.inr ⟨g, cap, cur, h3, by omega, h5⟩
theorem newAt {X : World} {n : Nat} (h : X.heap.size = n) (o : Obj) : (X.alloc o).heap[n]? = some o := by subst h; exact heap_alloc_new X o
theorem oldAt {X : World} {k : Nat} {o : Obj} (h : X.heap[k]? = some o) (o' : Obj) : (X.alloc o').heap[k]? = some o := (Below.heap_alloc X o' k (Array.getElem?_eq_some_iff.1 h).1).trans h
theorem nr_start {b : Nat} {w5 w6 : World} {n : Nat} (hs : w5.heap.size = rAt b + 1) (hg : w5.grownBy w6 none) (hrd : Box w5 (rAt b) RT #[.slice none 0 0, .int .i64 0, .int .i64 0, .slice none 0 0, .map (some b), .map (some (b + 1)), .map (some (b + 1 + 1)), .map (some (b + 1 + 1 + 1))])
    (h0 : w5.heap[b]? = some (.map (mapOf itemTab).toArray 3)) (h1 : w5.heap[b + 1]? = some (.map (mapOf stmtTab).toArray 12)) (h2 : w5.heap[b + 1 + 1]? = some (.map (mapOf exprTab).toArray 8)) (h3 : w5.heap[b + 1 + 1 + 1]? = some (.map (numOf signWords).toArray 17))
    (ho : w6.ownsRow (rAt b + 1) KT 5 (.slice (some ⟨rAt b + 1, 0, none⟩) 0 n) 0 []) :
    NR b (w6.setCell ⟨rAt b, 0, none⟩ (.slice (some ⟨rAt b + 1, 0, none⟩) 0 n)) (.slice (some ⟨rAt b + 1, 0, none⟩) 0 n) [] := by
  have hold : ∀ k, k ≤ rAt b → w6.heap[k]? = w5.heap[k]? := fun k hk => hg.block k (by omega) (by simp)
  have far : ∀ (k : Nat), k ≠ rAt b → (w6.setCell ⟨rAt b, 0, none⟩ (.slice (some ⟨rAt b + 1, 0, none⟩) 0 n)).heap[k]? = w6.heap[k]? := fun k hk => Below.heap_setCell w6 ⟨rAt b, 0, none⟩ _ k hk
  have hrd6 : Box w6 (rAt b) RT _ := (hold _ (Nat.le_refl _)).trans hrd
  refine ⟨hrd6.set 0 _, ⟨rfl, ?_⟩, ?_, ?_, ?_, ?_⟩
  · rcases ho.2 with ⟨e, _⟩ | ⟨g', cap', cur, e, q1, q2, q3⟩
    · cases e
    · exact .inr ⟨g', cap', cur, e, q1, by rw [far g' (by omega)]; exact q2, q3⟩
  · rw [far b (by unfold rAt; omega), hold b (by unfold rAt; omega)]; exact h0
  · rw [far (b + 1) (by unfold rAt; omega), hold (b + 1) (by unfold rAt; omega)]; exact h1
  · rw [far (b + 1 + 1) (by unfold rAt; omega), hold (b + 1 + 1) (by unfold rAt; omega)]; exact h2
  · rw [far (b + 1 + 1 + 1) (by unfold rAt; omega), hold (b + 1 + 1 + 1) (by unfold rAt; omega)]; exact h3
def NrRel (W : World) (ts : List Tok) (v : Value) (wr : World) : Prop :=
  ∃ (i : Nat) (tv : Value), v = .int .i64 i ∧ i ≤ ts.length ∧ NR W.heap.size wr tv ((ts.take i).map ptk) ∧ Below W.heap.size W wr
def iOf : Value → Nat
  | .int _ k => k.toNat
  | _ => 0
/-- A reader that has been made. -/
def NewPost (W : World) (ts : List Tok) (end_ : Nat) (e : Ending) (w' : World) : Prop :=
  e = .returned (.pointer (some ⟨rAt W.heap.size, 0, none⟩)) ∧ Below W.heap.size W w' ∧ ∃ tv, RS ⟨ptoks ts end_, tv, rAt W.heap.size, W.heap.size, W.heap.size + 1, W.heap.size + 1 + 1, W.heap.size + 1 + 1 + 1, W.heap.size⟩ 20 w' 0 ⟨0, []⟩
theorem NR.rs {W w' : World} {ts : List Tok} {end_ : Nat} {tv : Value} (hg : ∀ E : Env, E.ts = ptoks ts end_ → Good E) (h : NR W.heap.size w' tv (ts.map ptk ++ [⟨⟨0, [], 0, end_⟩, wEnd⟩])) :
    RS ⟨ptoks ts end_, tv, rAt W.heap.size, W.heap.size, W.heap.size + 1, W.heap.size + 1 + 1, W.heap.size + 1 + 1 + 1, W.heap.size⟩ 20 w' 0 ⟨0, []⟩ :=
  ⟨hg _ rfl, ⟨rowLow h.row (by unfold rAt; simp only []; omega), h.m0, h.m1, h.m2, h.m3⟩, by unfold rAt; simp only []; omega, by simp [ptoks], by omega, by simp, _, h.rd, World.ownsRow_nil _ _ _ _⟩

set_option maxRecDepth 100000 in
set_option maxHeartbeats 6400000 in
theorem newReader_any {W : World} {B : Nat} {v : Value} {ts : List Tok} (hB : Toks W B v ts) (hf : ts.length ≤ 1900) (end_ : Nat) (hg : ∀ E : Env, E.ts = ptoks ts end_ → Good E) :
    Calls Tryz.prog 31 #[v, .int .i64 end_] W (NewPost W ts end_) := by
  obtain ⟨A, c, rfl⟩ := hB.form
  obtain ⟨i0, hi, hz0, hz1, hz2⟩ := info_parts Tryz.infoPT
  have hw1 : IntKind.i64.wrap ((ts.length : Int) + 1) = ((ts.length + 1 : Nat) : Int) := by rw [IntWalk.i64_in _ (by omega)]; omega
  have hb5 : Below W.heap.size W (((((W.alloc (Obj.map (mapOf itemTab).toArray 3)).alloc (Obj.map (mapOf stmtTab).toArray 12)).alloc (Obj.map (mapOf exprTab).toArray 8)).alloc (Obj.map (numOf signWords).toArray 17)).alloc (Obj.cells #[.slice none 0 0, .int .i64 0, .int .i64 0, .slice none 0 0, .map (some W.heap.size), .map (some (W.heap.size + 1)), .map (some (W.heap.size + 1 + 1)), .map (some (W.heap.size + 1 + 1 + 1))] 80)) := (((((Below.refl _ _).alloc (Nat.le_refl _) _).alloc (by simp) _).alloc (by simp; omega) _).alloc (by simp; omega) _).alloc (by simp; omega) _
  have hs5 : (((((W.alloc (Obj.map (mapOf itemTab).toArray 3)).alloc (Obj.map (mapOf stmtTab).toArray 12)).alloc (Obj.map (mapOf exprTab).toArray 8)).alloc (Obj.map (numOf signWords).toArray 17)).alloc (Obj.cells #[.slice none 0 0, .int .i64 0, .int .i64 0, .slice none 0 0, .map (some W.heap.size), .map (some (W.heap.size + 1)), .map (some (W.heap.size + 1 + 1)), .map (some (W.heap.size + 1 + 1 + 1))] 80)).heap.size = rAt W.heap.size + 1 := by simp [rAt]
  have hm0 := oldAt (oldAt (oldAt (oldAt (heap_alloc_new W (Obj.map (mapOf itemTab).toArray 3)) (Obj.map (mapOf stmtTab).toArray 12)) (Obj.map (mapOf exprTab).toArray 8)) (Obj.map (numOf signWords).toArray 17)) (Obj.cells #[.slice none 0 0, .int .i64 0, .int .i64 0, .slice none 0 0, .map (some W.heap.size), .map (some (W.heap.size + 1)), .map (some (W.heap.size + 1 + 1)), .map (some (W.heap.size + 1 + 1 + 1))] 80)
  have hm1 := oldAt (oldAt (oldAt (newAt (X := W.alloc (Obj.map (mapOf itemTab).toArray 3)) (n := W.heap.size + 1) (by simp) (Obj.map (mapOf stmtTab).toArray 12)) (Obj.map (mapOf exprTab).toArray 8)) (Obj.map (numOf signWords).toArray 17)) (Obj.cells #[.slice none 0 0, .int .i64 0, .int .i64 0, .slice none 0 0, .map (some W.heap.size), .map (some (W.heap.size + 1)), .map (some (W.heap.size + 1 + 1)), .map (some (W.heap.size + 1 + 1 + 1))] 80)
  have hm2 := oldAt (oldAt (newAt (X := (W.alloc (Obj.map (mapOf itemTab).toArray 3)).alloc (Obj.map (mapOf stmtTab).toArray 12)) (n := W.heap.size + 1 + 1) (by simp) (Obj.map (mapOf exprTab).toArray 8)) (Obj.map (numOf signWords).toArray 17)) (Obj.cells #[.slice none 0 0, .int .i64 0, .int .i64 0, .slice none 0 0, .map (some W.heap.size), .map (some (W.heap.size + 1)), .map (some (W.heap.size + 1 + 1)), .map (some (W.heap.size + 1 + 1 + 1))] 80)
  have hm3 := oldAt (newAt (X := ((W.alloc (Obj.map (mapOf itemTab).toArray 3)).alloc (Obj.map (mapOf stmtTab).toArray 12)).alloc (Obj.map (mapOf exprTab).toArray 8)) (n := W.heap.size + 1 + 1 + 1) (by simp) (Obj.map (numOf signWords).toArray 17)) (Obj.cells #[.slice none 0 0, .int .i64 0, .int .i64 0, .slice none 0 0, .map (some W.heap.size), .map (some (W.heap.size + 1)), .map (some (W.heap.size + 1 + 1)), .map (some (W.heap.size + 1 + 1 + 1))] 80)
  have hrd : Box (((((W.alloc (Obj.map (mapOf itemTab).toArray 3)).alloc (Obj.map (mapOf stmtTab).toArray 12)).alloc (Obj.map (mapOf exprTab).toArray 8)).alloc (Obj.map (numOf signWords).toArray 17)).alloc (Obj.cells #[.slice none 0 0, .int .i64 0, .int .i64 0, .slice none 0 0, .map (some W.heap.size), .map (some (W.heap.size + 1)), .map (some (W.heap.size + 1 + 1)), .map (some (W.heap.size + 1 + 1 + 1))] 80)) (rAt W.heap.size) RT #[.slice none 0 0, .int .i64 0, .int .i64 0, .slice none 0 0, .map (some W.heap.size), .map (some (W.heap.size + 1)), .map (some (W.heap.size + 1 + 1)), .map (some (W.heap.size + 1 + 1 + 1))] := Box.newAt (by simp) _ _
  go_enter Tryz.func31, Tryz.ntmps31
  go_wp2_with (first | at_builtin | fail)
  refine (items_any _).mono ?_
  rintro e w1 ⟨rfl, rfl⟩
  go_wp2_with fail
  refine (statements_any _).mono ?_
  rintro e w1 ⟨rfl, rfl⟩
  go_wp2_with fail
  refine (expressions_any _).mono ?_
  rintro e w1 ⟨rfl, rfl⟩
  go_wp2_with fail
  refine (signs_any _).mono ?_
  rintro e w1 ⟨rfl, rfl⟩
  go_upto_region 2 with fail

  obtain ⟨w5, hy⟩ : ∃ Y, ((((W.alloc (Obj.map (mapOf itemTab).toArray 3)).alloc (Obj.map (mapOf stmtTab).toArray 12)).alloc (Obj.map (mapOf exprTab).toArray 8)).alloc (Obj.map (numOf signWords).toArray 17)).alloc (Obj.cells #[.slice none 0 0, .int .i64 0, .int .i64 0, .slice none 0 0, .map (some W.heap.size), .map (some (W.heap.size + 1)), .map (some (W.heap.size + 1 + 1)), .map (some (W.heap.size + 1 + 1 + 1))] 80) = Y := ⟨_, rfl⟩
  rw [hy] at hb5 hs5 hm0 hm1 hm2 hm3 hrd
  simp only [hy]
  clear hy
  go_wp2_with (at_make; go_loud (refine wpList_make_own _ rfl _ _ 76 rfl (rAt W.heap.size + 1) KT i0 _ 5 Tryz.underlying76 hi hz0 hz1 .i64 .i64 _ (ts.length + 1) rfl rfl (by omega) (by rw [hz2]; omega) (by unfold maxLen; omega) (by omega) ?_; intro w6 hown6 hgrow6; rw [hs5] at hown6; have nr0 := nr_start hs5 hgrow6 hrd hm0 hm1 hm2 hm3 hown6; have c0 : w6.cell? ⟨W.heap.size + 1 + 1 + 1 + 1, 0, none⟩ = some (.slice none 0 0) := (show Box w6 (rAt W.heap.size) RT _ from (hgrow6.block _ (by omega) (by simp)).trans hrd).cell 0; have f0 : w6.frozen? ⟨W.heap.size + 1 + 1 + 1 + 1, 0, none⟩ = false := (show Box w6 (rAt W.heap.size) RT _ from (hgrow6.block _ (by omega) (by simp)).trans hrd).free 0))
  have bl0 : Below W.heap.size W (w6.setCell ⟨rAt W.heap.size, 0, none⟩ (.slice (some ⟨rAt W.heap.size + 1, 0, none⟩) 0 (ts.length + 1))) := by
    have hb6 : Below w5.heap.size w5 w6 := ⟨hgrow6.os, hgrow6.tape, hgrow6.output, hgrow6.size, fun k hk => hgrow6.block k hk (by simp)⟩
    exact (hb5.trans (hb6.mono (by have := hb5.size; omega))).setCell (by show W.heap.size ≤ rAt W.heap.size; unfold rAt; omega) _
  clear hown6 hgrow6 c0 f0 hrd hm0 hm1 hm2 hm3 hb5 hs5
  go_loopw [23] (fun v wr => NrRel W ts v wr) (fun v _ => ts.length - iOf v)
  case atStart => exact ⟨0, _, rfl, Nat.zero_le _, by simpa using nr0, bl0⟩
  case round =>
    rename_i wr
    obtain ⟨i, tv, rfl, hil, hnr, hbl⟩ := hrel
    clear nr0 bl0
    have hlt := hnr.lt
    have hltX : W.heap.size + 1 + 1 + 1 + 1 < wr.heap.size := hnr.lt
    by_cases hi2 : i < ts.length
    · have hib : (decide ((i : Int) < (ts.length : Int))) = true := by simp; omega
      obtain ⟨g0, rfl, hcap, k0, k1, k2, k3⟩ := (hB.later hbl).tok i hi2
      obtain ⟨t, ht⟩ : ∃ t, Hid (ts[i] = t) := ⟨_, Lib.hid rfl⟩
      rw [ht.out] at k0 k1 k2 k3
      have hw2 : IntKind.i64.wrap ((i : Int) + 1) = ((i + 1 : Nat) : Int) := by rw [IntWalk.i64_in _ (by omega)]; omega
      have n7 := hnr.later ((Below.refl _ _).alloc (Nat.le_refl _) (Obj.cells #[Value.int IntKind.i64 (t).kind, Value.string { data := (t).text.toArray }, Value.int IntKind.u64 (t).num, Value.int IntKind.i64 (t).off] 47))
      have b7 := hbl.trans (((Below.refl _ _).alloc (Nat.le_refl _) (Obj.cells #[Value.int IntKind.i64 (t).kind, Value.string { data := (t).text.toArray }, Value.int IntKind.u64 (t).num, Value.int IntKind.i64 (t).off] 47)).mono (by unfold rAt at hlt; omega) : Below W.heap.size wr (wr.alloc (Obj.cells #[Value.int IntKind.i64 (t).kind, Value.string { data := (t).text.toArray }, Value.int IntKind.u64 (t).num, Value.int IntKind.i64 (t).off] 47)))
      have t7 := Box.new wr 47 #[Value.int IntKind.i64 (t).kind, Value.string { data := (t).text.toArray }, Value.int IntKind.u64 (t).num, Value.int IntKind.i64 (t).off]
      have s7 : (wr.alloc (Obj.cells #[Value.int IntKind.i64 (t).kind, Value.string { data := (t).text.toArray }, Value.int IntKind.u64 (t).num, Value.int IntKind.i64 (t).off] 47)).heap.size = wr.heap.size + 1 := by simp
      go_upto_region 6 with fail
      obtain ⟨w7, hy⟩ : ∃ Y, wr.alloc (Obj.cells #[Value.int IntKind.i64 (t).kind, Value.string { data := (t).text.toArray }, Value.int IntKind.u64 (t).num, Value.int IntKind.i64 (t).off] 47) = Y := ⟨_, rfl⟩
      rw [hy] at n7 b7 t7 s7 ⊢
      clear hy k0 k1 k2 k3
      have c0 : w7.cell? ⟨wr.heap.size, 0, none⟩ = some (Value.int IntKind.i64 (t).kind) := t7.cell 0
      have c1 : w7.cell? ⟨wr.heap.size, 1, none⟩ = some (Value.string { data := (t).text.toArray }) := t7.cell 1
      have c2 : w7.cell? ⟨wr.heap.size, 2, none⟩ = some (Value.int IntKind.u64 (t).num) := t7.cell 2
      have c3 : w7.cell? ⟨wr.heap.size, 3, none⟩ = some (Value.int IntKind.i64 (t).off) := t7.cell 3
      have r0 : w7.cell? ⟨W.heap.size + 1 + 1 + 1 + 1, 0, none⟩ = some tv := (show Box w7 (rAt W.heap.size) RT _ from n7.rd).cell 0
      have rf : w7.frozen? ⟨W.heap.size + 1 + 1 + 1 + 1, 0, none⟩ = false := (show Box w7 (rAt W.heap.size) RT _ from n7.rd).free 0
      have hlen : ((ts.take i).map ptk).length = i := by simp; omega
      obtain ⟨ps, hps⟩ : ∃ ps, Hid ((ts.take i).map ptk = ps) := ⟨_, Lib.hid rfl⟩
      rw [hps.out] at n7 hlen
      have hlt7 := n7.lt
      have hlt7X : W.heap.size + 1 + 1 + 1 + 1 < w7.heap.size := n7.lt
      have hW7 : W.heap.size ≤ w7.heap.size := b7.size
      have hB4 : ∀ w4, w4 = w7.drew.alloc (Obj.cells #[Value.int IntKind.i64 (t).kind, Value.string { data := (t).text.toArray }, Value.int IntKind.u64 (t).num, Value.int IntKind.i64 (t).off] 47) → Below w7.heap.size w7 w4 ∧ w7.heap.size ≤ w4.heap.size := fun w4 h4 => by
        subst h4
        have h := (show Below w7.heap.size w7 w7.drew from Drew.below ⟨1, rfl⟩).trans ((Below.refl w7.drew.heap.size w7.drew).alloc (Nat.le_refl _) (Obj.cells #[Value.int IntKind.i64 (t).kind, Value.string { data := (t).text.toArray }, Value.int IntKind.u64 (t).num, Value.int IntKind.i64 (t).off] 47))
        exact ⟨h, h.size⟩
      go_region_law (first
        | (go_simp; go_at_call 59; refine (wordOf_any t _).mono ?_; rintro e w4 ⟨rfl, hw4⟩; obtain ⟨B4, s4⟩ := hB4 _ hw4; clear hw4; have n4 := n7.later B4; have b4 : Below W.heap.size W w4 := b7.trans (B4.mono hW7); have t4 : Box w4 wr.heap.size 47 #[Value.int IntKind.i64 (t).kind, Value.string { data := (t).text.toArray }, Value.int IntKind.u64 (t).num, Value.int IntKind.i64 (t).off] := t7.below B4; have r4 : w4.cell? ⟨W.heap.size + 1 + 1 + 1 + 1, 0, none⟩ = some tv := (show Box w4 (rAt W.heap.size) RT _ from n4.rd).cell 0; have f4 : w4.frozen? ⟨W.heap.size + 1 + 1 + 1 + 1, 0, none⟩ = false := (show Box w4 (rAt W.heap.size) RT _ from n4.rd).free 0; have d0 : w4.cell? ⟨wr.heap.size, 0, none⟩ = some (Value.int IntKind.i64 (t).kind) := t4.cell 0; have d1 : w4.cell? ⟨wr.heap.size, 1, none⟩ = some (Value.string { data := (t).text.toArray }) := t4.cell 1; have d2 : w4.cell? ⟨wr.heap.size, 2, none⟩ = some (Value.int IntKind.u64 (t).num) := t4.cell 2; have d3 : w4.cell? ⟨wr.heap.size, 3, none⟩ = some (Value.int IntKind.i64 (t).off) := t4.cell 3; have r40 : ∀ o, (w4.alloc o).cell? ⟨W.heap.size + 1 + 1 + 1 + 1, 0, none⟩ = some tv := fun o => ((show Box w4 (rAt W.heap.size) RT _ from n4.rd).alloc o).cell 0; have hlt4 := n4.lt)
        | (refine step_append_lies _ rfl (.tmp 31) (.tmp 36) 76 rfl (rAt W.heap.size + 1) 108 i0 _ 5 56 Tryz.underlying76 hi hz0 hz1 hz2 rfl (by decide) tv ps.length (ptsV ps) (by simp [Act.eval]) (World.ownsRow.alloc n4.row _) ⟨w4.heap.size, 0, none⟩ 1 1 (ptCells ⟨t, wordT t⟩) (by simp [Act.eval]) rfl (by exact World.news_of_block (heap_alloc_new _ _)) (ptCells_one _) (by decide) (by unfold maxLen; omega) (by first | omega | (show W.heap.size + 1 + 1 + 1 + 1 + 1 ≤ _; omega)) (by first | omega | (unfold rAt at hlt4; simp <;> omega)) _ rfl ?_; intro g cap wA o2 g2 p2 z2; have nA := n4.push (p := ⟨t, wordT t⟩) o2 g2; have bA := b4.trans (n4.below g2 (.slice (some ⟨g, 0, none⟩) (ps.length + 1) cap)); have qA : wA.cell? ⟨W.heap.size + 1 + 1 + 1 + 1, 0, none⟩ = some tv := (show Box wA (rAt W.heap.size) RT _ from (n4.hold g2 (Nat.le_refl _)).trans n4.rd).cell 0; have fA : wA.frozen? ⟨W.heap.size + 1 + 1 + 1 + 1, 0, none⟩ = false := (show Box wA (rAt W.heap.size) RT _ from (n4.hold g2 (Nat.le_refl _)).trans n4.rd).free 0))
      all_goals
        rw [hlen] at nA bA
        clear o2 g2 p2 z2 n4 b4 t4 n7 b7 t7
        go_wp2_with fail
        go_roundw
        case rel => exact ⟨i + 1, _, rfl, hi2, by rw [show (ts.take (i + 1)).map ptk = ps ++ [⟨t, wordT t⟩] by rw [← hps.out, ← ht.out, List.take_succ_eq_append_getElem hi2, List.map_append]; rfl]; exact nA, bA⟩
        case measure => simp only [iOf]; omega
    · have hie : i = ts.length := by omega
      have hib : (decide ((i : Int) < (ts.length : Int))) = false := by simp; omega
      subst hie
      rw [List.take_length] at hnr
      have hlen : (ts.map ptk).length = ts.length := by simp
      obtain ⟨ps, hps⟩ : ∃ ps, Hid (ts.map ptk = ps) := ⟨_, Lib.hid rfl⟩
      rw [hps.out] at hnr hlen
      have r0 : wr.cell? ⟨W.heap.size + 1 + 1 + 1 + 1, 0, none⟩ = some tv := (show Box wr (rAt W.heap.size) RT _ from hnr.rd).cell 0
      have rf : wr.frozen? ⟨W.heap.size + 1 + 1 + 1 + 1, 0, none⟩ = false := (show Box wr (rAt W.heap.size) RT _ from hnr.rd).free 0
      go_wp2_with (at_builtin; refine wpList_append_lies _ rfl (.tmp 45) (.tmp 49) 76 rfl (rAt W.heap.size + 1) 108 i0 _ 5 56 Tryz.underlying76 hi hz0 hz1 hz2 rfl (by decide) tv ps.length (ptsV ps) (by first | rfl | simp [Act.eval]) (World.ownsRow.alloc hnr.row _) ⟨wr.heap.size, 0, none⟩ 1 1 (ptCells ⟨⟨0, [], 0, end_⟩, wEnd⟩) (by first | rfl | simp [Act.eval]) rfl (by exact World.news_of_block (heap_alloc_new _ _)) (ptCells_one _) (by decide) (by unfold maxLen; omega) (by first | omega | (show W.heap.size + 1 + 1 + 1 + 1 + 1 ≤ _; omega)) (by first | omega | (show W.heap.size + 1 + 1 + 1 + 1 + 1 ≤ _; simp; omega) | (show W.heap.size + 1 + 1 + 1 + 1 + 1 ≤ _; omega)) _ rfl ?_; intro g cap wA o2 g2 p2 z2; have nA := hnr.push (p := ⟨⟨0, [], 0, end_⟩, wEnd⟩) o2 g2; have bA := hbl.trans (hnr.below g2 (.slice (some ⟨g, 0, none⟩) (ps.length + 1) cap)); have qA : wA.cell? ⟨W.heap.size + 1 + 1 + 1 + 1, 0, none⟩ = some tv := (show Box wA (rAt W.heap.size) RT _ from (hnr.hold g2 (Nat.le_refl _)).trans hnr.rd).cell 0; have fA : wA.frozen? ⟨W.heap.size + 1 + 1 + 1 + 1, 0, none⟩ = false := (show Box wA (rAt W.heap.size) RT _ from (hnr.hold g2 (Nat.le_refl _)).trans hnr.rd).free 0)
      clear o2 g2 p2 z2
      go_wp2
      go_ret
      rw [hlen] at nA bA
      exact ⟨rfl, bA, _, NR.rs hg (by rw [hps.out]; exact nA)⟩
end Go.Proofs.YtmkehecapjdfdaaGreatDoor
