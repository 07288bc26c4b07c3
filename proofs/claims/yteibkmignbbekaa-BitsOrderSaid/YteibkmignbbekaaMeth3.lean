/- The contracts of the comparisons' methods, and of the look-up of operators. -/
import Derived.Test.YteibkmignbbekaaMeth2
namespace Go.Proofs.Yteibkmignbbekaa
open Go.RowKit

/-- the signed value. -/
def sgn (n a : Int) : Int := wrap64 (IntKind.u64.wrap (a * 2 ^ (64 - n).toNat)) / 2 ^ (64 - n).toNat

/-- how two numbers compare. -/
def cmpI (a b : Int) : Int := if a < b then -1 else if b < a then 1 else 0
/-- a condition as a bit. -/
def bit (c : Bool) : Int := if c then 1 else 0

/-- The three blocks lie in every later world. -/
theorem size3 {w w1 : World} {o1 o2 o3 : Obj} (h : ((((w.alloc o1).alloc o2).alloc o3).drew).heap.size ≤ w1.heap.size) : w.heap.size < w1.heap.size ∧ w.heap.size + 1 < w1.heap.size ∧ w.heap.size + 1 + 1 < w1.heap.size := by
  simp at h; omega
theorem size3' {w w1 w2 : World} (h : w1.heap.size ≤ w2.heap.size) (k : w.heap.size < w1.heap.size ∧ w.heap.size + 1 < w1.heap.size ∧ w.heap.size + 1 + 1 < w1.heap.size) : w.heap.size < w2.heap.size ∧ w.heap.size + 1 < w2.heap.size ∧ w.heap.size + 1 + 1 < w2.heap.size := by
  omega

set_option maxHeartbeats 400000 in
theorem signed_any (n a : Int) (w : World) (h1 : 1 ≤ n) (h2 : n ≤ 64) :
    Calls Try.prog 40 #[.agg #[.int .i64 n, .int .u64 a]] w fun e w' => e = .returned (.int .i64 (sgn n a)) ∧ Below w.heap.size w w' := by
  go_enter Try.func40, Try.ntmps40
  go_wp2
  go_ret
  exact ⟨rfl, (Below.refl _ _).alloc (Nat.le_refl _) _⟩

set_option maxHeartbeats 400000 in
theorem condition_u64_yes (a b o : Int) (w : World) (h : (cmpI a b == o) = true) :
    Calls Try.prog 57 #[.int .u64 a, .int .u64 b, .int .i64 o] w fun e w' => e = .returned (.agg #[.int .i64 1, .int .u64 1]) ∧ Below w.heap.size w w' := by
  go_enter Try.func57, Try.ntmps57
  go_wp2_with (go_at_call 59; refine (cmp_u64 a b _).mono ?_; rw [show (if a < b then (-1 : Int) else if b < a then 1 else 0) = cmpI a b from rfl]; rintro e w' ⟨rfl, rfl⟩)
  refine bodyPost_ret (v := .agg #[.int .i64 1, .int .u64 1]) (by simp [results, Try.results57, go_sem]) rfl ⟨rfl, ?_⟩
  exact (Below.refl _ _).alloc (Nat.le_refl _) _

set_option maxHeartbeats 400000 in
theorem condition_u64_no (a b o : Int) (w : World) (h : (cmpI a b == o) = false) :
    Calls Try.prog 57 #[.int .u64 a, .int .u64 b, .int .i64 o] w fun e w' => e = .returned (.agg #[.int .i64 1, .int .u64 0]) ∧ Below w.heap.size w w' := by
  go_enter Try.func57, Try.ntmps57
  go_wp2_with (go_at_call 59; refine (cmp_u64 a b _).mono ?_; rw [show (if a < b then (-1 : Int) else if b < a then 1 else 0) = cmpI a b from rfl]; rintro e w' ⟨rfl, rfl⟩)
  refine bodyPost_ret (v := .agg #[.int .i64 1, .int .u64 0]) (by simp [results, Try.results57, go_sem]) rfl ⟨rfl, ?_⟩
  exact (Below.refl _ _).alloc (Nat.le_refl _) _

theorem condition_u64 (a b o : Int) (w : World) :
    Calls Try.prog 57 #[.int .u64 a, .int .u64 b, .int .i64 o] w fun e w' => e = .returned (.agg #[.int .i64 1, .int .u64 (bit (cmpI a b == o))]) ∧ Below w.heap.size w w' := by
  cases h : (cmpI a b == o)
  · exact condition_u64_no a b o w h
  · exact condition_u64_yes a b o w h

set_option maxHeartbeats 400000 in
theorem condition_i64_yes (a b o : Int) (w : World) (h : (cmpI a b == o) = true) :
    Calls Try.prog 58 #[.int .i64 a, .int .i64 b, .int .i64 o] w fun e w' => e = .returned (.agg #[.int .i64 1, .int .u64 1]) ∧ Below w.heap.size w w' := by
  go_enter Try.func58, Try.ntmps58
  go_wp2_with (go_at_call 60; refine (cmp_i64 a b _).mono ?_; rw [show (if a < b then (-1 : Int) else if b < a then 1 else 0) = cmpI a b from rfl]; rintro e w' ⟨rfl, rfl⟩)
  refine bodyPost_ret (v := .agg #[.int .i64 1, .int .u64 1]) (by simp [results, Try.results58, go_sem]) rfl ⟨rfl, ?_⟩
  exact (Below.refl _ _).alloc (Nat.le_refl _) _

set_option maxHeartbeats 400000 in
theorem condition_i64_no (a b o : Int) (w : World) (h : (cmpI a b == o) = false) :
    Calls Try.prog 58 #[.int .i64 a, .int .i64 b, .int .i64 o] w fun e w' => e = .returned (.agg #[.int .i64 1, .int .u64 0]) ∧ Below w.heap.size w w' := by
  go_enter Try.func58, Try.ntmps58
  go_wp2_with (go_at_call 60; refine (cmp_i64 a b _).mono ?_; rw [show (if a < b then (-1 : Int) else if b < a then 1 else 0) = cmpI a b from rfl]; rintro e w' ⟨rfl, rfl⟩)
  refine bodyPost_ret (v := .agg #[.int .i64 1, .int .u64 0]) (by simp [results, Try.results58, go_sem]) rfl ⟨rfl, ?_⟩
  exact (Below.refl _ _).alloc (Nat.le_refl _) _

theorem condition_i64 (a b o : Int) (w : World) :
    Calls Try.prog 58 #[.int .i64 a, .int .i64 b, .int .i64 o] w fun e w' => e = .returned (.agg #[.int .i64 1, .int .u64 (bit (cmpI a b == o))]) ∧ Below w.heap.size w w' := by
  cases h : (cmpI a b == o)
  · exact condition_i64_no a b o w h
  · exact condition_i64_yes a b o w h

set_option maxHeartbeats 400000 in
theorem equal_any (n a b : Int) (w : World) :
    Calls Try.prog 54 #[.agg #[.int .i64 n, .int .u64 a], .agg #[.int .i64 n, .int .u64 b]] w fun e w' => e = .returned (.agg #[.int .i64 1, .int .u64 (bit (cmpI a b == 0))]) ∧ Below w.heap.size w w' := by
  go_enter Try.func54, Try.ntmps54
  go_wp2_with fail
  refine (condition_u64 _ _ _ _).mono ?_
  rintro e w1 ⟨rfl, hb⟩
  obtain ⟨hc, hf⟩ := bcell hb
  go_wp2
  refine bodyPost_ret (v := .agg #[.int .i64 1, .int .u64 (bit (cmpI a b == 0))]) (by simp [results, Try.results54, go_sem, hc]) rfl ⟨rfl, ?_⟩
  exact ((below3 hb).setCell (by simp; omega) _).setCell (by simp; omega) _

set_option maxHeartbeats 400000 in
theorem less_any (n a b : Int) (w : World) :
    Calls Try.prog 55 #[.agg #[.int .i64 n, .int .u64 a], .agg #[.int .i64 n, .int .u64 b]] w fun e w' => e = .returned (.agg #[.int .i64 1, .int .u64 (bit (cmpI a b == (-1)))]) ∧ Below w.heap.size w w' := by
  go_enter Try.func55, Try.ntmps55
  go_wp2_with fail
  refine (condition_u64 _ _ _ _).mono ?_
  rintro e w1 ⟨rfl, hb⟩
  obtain ⟨hc, hf⟩ := bcell hb
  go_wp2
  refine bodyPost_ret (v := .agg #[.int .i64 1, .int .u64 (bit (cmpI a b == (-1)))]) (by simp [results, Try.results55, go_sem, hc]) rfl ⟨rfl, ?_⟩
  exact ((below3 hb).setCell (by simp; omega) _).setCell (by simp; omega) _

set_option maxHeartbeats 400000 in
theorem signedLess_any (n a b : Int) (w : World) (h1 : 1 ≤ n) (h2 : n ≤ 64) :
    Calls Try.prog 56 #[.agg #[.int .i64 n, .int .u64 a], .agg #[.int .i64 n, .int .u64 b]] w fun e w' => e = .returned (.agg #[.int .i64 1, .int .u64 (bit (cmpI (sgn n a) (sgn n b) == (-1)))]) ∧ Below w.heap.size w w' := by
  go_enter Try.func56, Try.ntmps56
  go_wp2
  go_region_held3 (fun w' => w'.cell? ⟨w.heap.size, 0, none⟩ = some (.int .i64 n) ∧ w'.cell? ⟨w.heap.size, 1, none⟩ = some (.int .u64 a) ∧ w'.cell? ⟨w.heap.size + 1, 0, none⟩ = some (.int .i64 n) ∧ w'.cell? ⟨w.heap.size + 1, 1, none⟩ = some (.int .u64 b)) (first | (go_keep; done) | (simp [go_sem]; done) | (simp [go_sem, *]; done))
    (first
      | (go_at_call 40; ((with_reducible refine (signed_any n a _ h1 h2).mono ?_); rintro e w1 ⟨rfl, hb1⟩); obtain ⟨hc1, hf1⟩ := bcell hb1; have hz1 := size3 hb1.size)
      | (go_at_call 40; ((with_reducible refine (signed_any n b _ h1 h2).mono ?_); rintro e w2 ⟨rfl, hb2⟩); obtain ⟨hc2, hf2⟩ := bcell hb2; have hz2 := size3' hb2.size hz1)
      | (go_at_call 58; ((with_reducible refine (condition_i64 _ _ _ _).mono ?_); rintro e w3 ⟨rfl, hb3⟩); obtain ⟨hc3, hf3⟩ := bcell hb3))
  go_wp2
  refine bodyPost_ret (v := .agg #[.int .i64 1, .int .u64 (bit (cmpI (sgn n a) (sgn n b) == (-1)))]) (by simp [results, Try.results56, go_sem, hc1, hc2, hc3, hz1, hz2]) rfl ⟨rfl, ?_⟩
  have hb4 := (below3 (undrew hb1)).trans ((hb2.mono (by omega)).trans (hb3.mono (by omega)))
  exact (hb4.setCell (by simp; omega) _).setCell (by simp; omega) _

theorem set_push (a : Array Obj) (x y : Obj) : (a.push x).setIfInBounds a.size y = a.push y := by
  apply Array.ext_getElem?
  intro i
  simp only [Array.getElem?_setIfInBounds, Array.getElem?_push, Array.size_push]
  by_cases h : a.size = i
  · simp [h.symm]
  · have h' : ¬ i = a.size := fun e => h e.symm
    simp [h, h']
theorem set_last (w : World) (x y : Obj) : ({ (w.alloc x) with heap := (w.alloc x).heap.setIfInBounds w.heap.size y } : World) = w.alloc y := by
  show ({ w with heap := (w.heap.push x).setIfInBounds w.heap.size y } : World) = { w with heap := w.heap.push y }
  rw [set_push]

/-- A new entry of a map that was made last: its key is none of those that are there. -/
theorem upd_last {P : Program} (w : World) {t k e : TypeId} {d : TypeDesc} {es : Array MapEntry} {c : Nat} {key val : Value} (hm : P.underlying t = some (.map k e)) (hd : P.underlying k = some d) (hk : MapKept.IsKey d key)
    (h : Instr.findNow d key es.toList 0 = some none) : (Instr.mapUpdate t (.map (some w.heap.size)) key val).run P (w.alloc (.map es c)) = .ok () (w.alloc (.map (es.push { key, val, born := c }) (c + 1))) := by
  have hb : (w.alloc (.map es c)).heap[w.heap.size]? = some (.map es c) := (MapKept.heap_alloc w _).1
  simp [Instr.mapUpdate, run_underlying hm, MapKept.run_getObj_map hb, MapKept.run_checkKey hd hk, MapKept.run_findKey hd h, MapKept.run_setObj_map _ hb, Result.andThen]
  exact set_last _ _ _
theorem look_last {P : Program} (w : World) {t k e : TypeId} {d : TypeDesc} {es : Array MapEntry} {c i : Nat} {key v : Value} (hm : P.underlying t = some (.map k e)) (hd : P.underlying k = some d) (hk : MapKept.IsKey d key)
    (h : Instr.findNow d key es.toList 0 = some (some (i, v))) : (Instr.lookup t (.map (some w.heap.size)) key true).run P (w.alloc (.map es c)) = .ok (.tuple #[v, .bool true]) (w.alloc (.map es c)) := by
  have hb : (w.alloc (.map es c)).heap[w.heap.size]? = some (.map es c) := (MapKept.heap_alloc w _).1
  simp [Instr.lookup, run_underlying hm, MapKept.run_getObj_map hb, MapKept.run_checkKey hd hk, MapKept.run_findKey hd h, Result.andThen]
theorem look_last_no {P : Program} (w : World) {t k e : TypeId} {d : TypeDesc} {es : Array MapEntry} {c : Nat} {key z : Value} (hm : P.underlying t = some (.map k e)) (hd : P.underlying k = some d) (hk : MapKept.IsKey d key)
    (h : Instr.findNow d key es.toList 0 = some none) (hz : ∀ w, (zeroValue e).run P w = .ok z w) : (Instr.lookup t (.map (some w.heap.size)) key true).run P (w.alloc (.map es c)) = .ok (.tuple #[z, .bool false]) (w.alloc (.map es c)) := by
  have hb : (w.alloc (.map es c)).heap[w.heap.size]? = some (.map es c) := (MapKept.heap_alloc w _).1
  simp [Instr.lookup, run_underlying hm, MapKept.run_getObj_map hb, MapKept.run_checkKey hd hk, MapKept.run_findKey hd h, hz, Result.andThen]

theorem Try.zeroOp (w : World) : (zeroValue 45).run Try.prog w = .ok .nilFunc w := by kernel_rfl

end Go.Proofs.Yteibkmignbbekaa
