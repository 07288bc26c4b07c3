/- heap: an action on a cell that is found. -/
import Derived.Test.YteekppohhjlmmaaHpWo
namespace Go.Proofs.Yteekppohhjlmmaa
open Go.RowKit

/-- Only memories behind a bound may have changed. -/
structure MayM (B : Nat) (w w' : World) : Prop where
  os : w'.os = w.os
  tape : w'.tape = w.tape
  output : w'.output = w.output
  size : w.heap.size ≤ w'.heap.size
  block : ∀ k, k < w.heap.size → (k < B ∨ ∀ cs, ¬ Box w k 62 cs) → w'.heap[k]? = w.heap[k]?
theorem MayM.trans {B : Nat} {a b c : World} (h : MayM B a b) (k : MayM B b c) : MayM B a c :=
  ⟨k.os.trans h.os, k.tape.trans h.tape, k.output.trans h.output, Nat.le_trans h.size k.size, fun i hi hc => by
    have e := h.block i hi hc
    refine (k.block i (Nat.lt_of_lt_of_le hi h.size) ?_).trans e
    rcases hc with hc | hc
    · exact Or.inl hc
    · exact Or.inr (fun cs hx => hc cs (by unfold Box at *; rw [← e]; exact hx))⟩
theorem MayM.of_below {B : Nat} {w w' : World} (h : Below w.heap.size w w') : MayM B w w' := ⟨h.os, h.tape, h.output, h.size, fun k hk _ => h.block k hk⟩
theorem MayM.of_but {B b : Nat} {w w' : World} {cs : Array Value} (hb : B ≤ b) (hX : Box w b 62 cs) (h : But b w w') : MayM B w w' :=
  ⟨h.os, h.tape, h.output, h.size, fun k hk hc => h.block k hk (fun e => by
    subst e
    rcases hc with hc | hc
    · omega
    · exact hc cs hX)⟩
theorem own_may {w w' : World} {B0 B : Nat} {e : TypeId} {s n : Nat} {v : Value} {xs : List Value} (h : w.ownsRow B e s v n xs) (hb : MayM B0 w w') (hne : e ≠ 62) : w'.ownsRow B e s v n xs := by
  refine ⟨h.1, ?_⟩
  rcases h.2 with hn | ⟨g, cap, cur, rfl, h1, hg, rest⟩
  · exact .inl hn
  · refine .inr ⟨g, cap, cur, rfl, h1, ?_, rest⟩
    rw [hb.block g (Array.getElem?_eq_some_iff.1 hg).1 (Or.inr (fun cs hx => by
      unfold Box at hx
      rw [hg] at hx
      simp at hx
      exact hne hx.2))]
    exact hg
theorem OTab.may {w w' : World} {B0 B : Nat} {v : Value} {V : Nat → Value} {l : List Ob} (h : OTab w B v V l) (hb : MayM B0 w w') : OTab w' B v V l :=
  ⟨own_may h.row hb (by decide), fun t ht => own_may (h.own t ht) hb (by decide), h.far⟩
theorem Box.may {w w' : World} {B0 b : Nat} {T : TypeId} {cs : Array Value} (h : Box w b T cs) (hb : MayM B0 w w') (hne : T ≠ 62) : Box w' b T cs := by
  have e := hb.block b h.lt (Or.inr (fun cs' hx => by
    unfold Box at h hx
    rw [h] at hx
    simp at hx
    exact hne hx.2))
  unfold Box at *
  rw [e]; exact h
theorem Below.may {B : Nat} {W w w' : World} (h : Below B W w) (hb : MayM B w w') (hB : B ≤ W.heap.size) : Below B W w' :=
  ⟨hb.os.trans h.os, hb.tape.trans h.tape, hb.output.trans h.output, Nat.le_trans h.size hb.size, fun k hk => (hb.block k (by have := h.size; omega) (Or.inl hk)).trans (h.block k hk)⟩
def WcPost (l : List Ob) (w : World) (K : Int → Nat → Nat → World → Prop) (e : Ending) (w' : World) : Prop := ∃ f g cap w2, e = .returned (MemV f g l.length cap) ∧ K f g cap w2 ∧ MayM w.heap.size w2 w'
theorem MemV_zero (g n cap : Nat) : MemV 0 g n cap = .agg #[.int .i64 0, .int .i64 0, .slice (some ⟨g, 0, none⟩) n cap] := by unfold MemV; rw [if_pos rfl]
theorem MemV_fault {f : Int} (h : f ≠ 0) (g n cap : Nat) : MemV f g n cap = .agg #[.int .i64 0, .int .i64 f, .slice none 0 0] := by unfold MemV; rw [if_neg h]
/-- A memory, whatever it holds. -/
theorem MemV_form (f : Int) (g n cap : Nat) : ∃ f' A n' c', MemV f g n cap = .agg #[.int .i64 0, .int .i64 f', .slice A n' c'] := by
  by_cases h : f = 0
  · subst h; exact ⟨_, _, _, _, MemV_zero _ _ _⟩
  · exact ⟨_, _, _, _, MemV_fault h _ _ _⟩
set_option maxRecDepth 100000 in
set_option maxHeartbeats 1600000 in
theorem withCell_no_load (l : List Ob) (obj : Int) (k r : Nat) (A : Option Addr) (c : Nat) (w : World) (e0 f0 : Int) (h : FindNo l obj A c w e0 f0) :
    Calls Try.prog 35 #[.slice A l.length c, .int .i64 obj, .int .u64 (k : Nat), .func (.func 36) #[] #[.pointer (some ⟨r, 0, none⟩)]] w fun e w' => e = .returned (.agg #[.int .i64 e0, .int .i64 f0, .slice none 0 0]) ∧ Below w.heap.size w w' := by
  have bA : Below w.heap.size w (((w.alloc (.cells #[.int .u64 (k : Nat)] 24)).alloc (.cells #[.func (.func 36) #[] #[.pointer (some ⟨r, 0, none⟩)]] 66)).alloc (.cells #[.int .i64 0, .int .i64 0, .slice none 0 0] 62)) := (((Below.refl _ _).alloc (Nat.le_refl _) _).alloc (by simp) _).alloc (by simp <;> omega) _
  have N := Box.newAt (X := (w.alloc (.cells #[.int .u64 (k : Nat)] 24)).alloc (.cells #[.func (.func 36) #[] #[.pointer (some ⟨r, 0, none⟩)]] 66)) (n := w.heap.size + 2) (by simp) 62 #[.int .i64 0, .int .i64 0, .slice none 0 0]
  have hC := withObject_no l obj A c _ e0 f0 (.func (.func 52) #[] #[.pointer (some ⟨w.heap.size, 0, none⟩), .pointer (some ⟨w.heap.size + 1, 0, none⟩)]) (h.later bA)
  clear h
  go_enter Try.func35, Try.ntmps35
  go_wp2_with fail
  refine hC.mono ?_
  rintro e w1 ⟨rfl, b1⟩
  have N1 := N.below b1
  have bW : Below w.heap.size w w1 := Below.trans bA (b1.mono (by simp <;> omega))
  clear hC N bA b1
  have n0 := N1.free 0
  have n1 := N1.free 1
  have n2 := N1.free 2
  have m0 := N1.cell 0
  have m1 := N1.cell 1
  have m2 := N1.cell 2
  go_wp2
  refine bodyPost_ret (v := .agg #[.int .i64 e0, .int .i64 f0, .slice none 0 0]) (by simp [results, Try.results35, go_sem, m0, m1, m2]) rfl ⟨rfl, ?_⟩
  refine Below.setCell (Below.setCell (Below.setCell bW ?_ _) ?_ _) ?_ _
  all_goals (show w.heap.size ≤ w.heap.size + 2; omega)
set_option maxRecDepth 100000 in
set_option maxHeartbeats 1600000 in
theorem withCell_load (l : List Ob) (t k r : Nat) (A : Option Addr) (c : Nat) (w : World) (K : Int → Nat → Nat → World → Prop) (h : FindYes l t A c w)
    (hact : ∀ w1 g cap V p q, Below w.heap.size w w1 → OTab w1 w.heap.size (.slice (some ⟨g, 0, none⟩) l.length cap) V l → w1.cell? ⟨p, 0, none⟩ = some (.int .u64 (k : Nat)) → w1.cell? ⟨q, 0, none⟩ = some (.func (.func 36) #[] #[.pointer (some ⟨r, 0, none⟩)]) → Calls Try.prog 52 #[.pointer (some ⟨g, t * 2, none⟩), .pointer (some ⟨p, 0, none⟩), .pointer (some ⟨q, 0, none⟩)] w1 fun e w2 => ∃ f : Int, e = .returned (.int .i64 f) ∧ K f g cap w2 ∧ KeepM w1 w2) :
    Calls Try.prog 35 #[.slice A l.length c, .int .i64 t, .int .u64 (k : Nat), .func (.func 36) #[] #[.pointer (some ⟨r, 0, none⟩)]] w (WcPost l w K) := by
  have bA : Below w.heap.size w (((w.alloc (.cells #[.int .u64 (k : Nat)] 24)).alloc (.cells #[.func (.func 36) #[] #[.pointer (some ⟨r, 0, none⟩)]] 66)).alloc (.cells #[.int .i64 0, .int .i64 0, .slice none 0 0] 62)) := (((Below.refl _ _).alloc (Nat.le_refl _) _).alloc (by simp) _).alloc (by simp <;> omega) _
  have N := Box.newAt (X := (w.alloc (.cells #[.int .u64 (k : Nat)] 24)).alloc (.cells #[.func (.func 36) #[] #[.pointer (some ⟨r, 0, none⟩)]] 66)) (n := w.heap.size + 2) (by simp) 62 #[.int .i64 0, .int .i64 0, .slice none 0 0]
  have hp : (((w.alloc (.cells #[.int .u64 (k : Nat)] 24)).alloc (.cells #[.func (.func 36) #[] #[.pointer (some ⟨r, 0, none⟩)]] 66)).alloc (.cells #[.int .i64 0, .int .i64 0, .slice none 0 0] 62)).cell? ⟨w.heap.size, 0, none⟩ = some (.int .u64 (k : Nat)) := by simp [go_sem]
  have hq : (((w.alloc (.cells #[.int .u64 (k : Nat)] 24)).alloc (.cells #[.func (.func 36) #[] #[.pointer (some ⟨r, 0, none⟩)]] 66)).alloc (.cells #[.int .i64 0, .int .i64 0, .slice none 0 0] 62)).cell? ⟨w.heap.size + 1, 0, none⟩ = some (.func (.func 36) #[] #[.pointer (some ⟨r, 0, none⟩)]) := by simp [go_sem]
  have hC := withObject_cell l t w.heap.size (w.heap.size + 1) A c _ (fun f g cap w2 => K f g cap w2 ∧ Box w2 (w.heap.size + 2) 62 #[.int .i64 0, .int .i64 0, .slice none 0 0]) (h.later bA) (fun w1 g cap V hb hT => by
    refine (hact w1 g cap V _ _ (bA.trans (hb.mono (by simp <;> omega))) (hT.mono bA.size) (cell_later hb hp) (cell_later hb hq)).mono ?_
    rintro e w2 ⟨f, rfl, hK, hM⟩
    exact ⟨f, rfl, ⟨hK, hM _ _ (N.below hb)⟩, hM⟩)
  clear h hact hp hq
  go_enter Try.func35, Try.ntmps35
  go_wp2_with fail
  refine hC.mono ?_
  rintro e w1 ⟨f, g, cap, w2, b, cs, rfl, ⟨hK, hX⟩, hY, hb, hB⟩
  have hsz := bA.size
  have hm : MayM w.heap.size w2 w1 := MayM.of_but (by simp at hb; omega) hY hB
  have hX1 : Box w1 (w.heap.size + 2) 62 #[.int .i64 0, .int .i64 0, .slice none 0 0] := by
    by_cases e : w.heap.size + 2 = b
    · simp at hb; omega
    · unfold Box at *
      rw [hB.block _ (Array.getElem?_eq_some_iff.1 hX).1 e]; exact hX
  obtain ⟨f', A', n', c', hv⟩ := MemV_form f g l.length cap
  have hv2 := Lib.hid hv
  rw [hv]
  clear hv hC N bA hX hY hB hb hsz
  have n0 := hX1.free 0
  have n1 := hX1.free 1
  have n2 := hX1.free 2
  have m0 := hX1.cell 0
  have m1 := hX1.cell 1
  have m2 := hX1.cell 2
  go_wp2
  refine bodyPost_ret (v := .agg #[.int .i64 0, .int .i64 f', .slice A' n' c']) (by simp [results, Try.results35, go_sem, m0, m1, m2]) rfl ?_
  exact ⟨f, g, cap, w2, by rw [hv2.out], hK, hm.trans (MayM.of_but (by omega) hX1 (But.set3 _ _ _ _ _ _))⟩
set_option maxRecDepth 100000 in
set_option maxHeartbeats 1600000 in
theorem withCell_no_put (l : List Ob) (obj : Int) (k r : Nat) (A : Option Addr) (c : Nat) (w : World) (e0 f0 : Int) (h : FindNo l obj A c w e0 f0) :
    Calls Try.prog 35 #[.slice A l.length c, .int .i64 obj, .int .u64 (k : Nat), .func (.func 40) #[] #[.pointer (some ⟨r, 0, none⟩)]] w fun e w' => e = .returned (.agg #[.int .i64 e0, .int .i64 f0, .slice none 0 0]) ∧ Below w.heap.size w w' := by
  have bA : Below w.heap.size w (((w.alloc (.cells #[.int .u64 (k : Nat)] 24)).alloc (.cells #[.func (.func 40) #[] #[.pointer (some ⟨r, 0, none⟩)]] 66)).alloc (.cells #[.int .i64 0, .int .i64 0, .slice none 0 0] 62)) := (((Below.refl _ _).alloc (Nat.le_refl _) _).alloc (by simp) _).alloc (by simp <;> omega) _
  have N := Box.newAt (X := (w.alloc (.cells #[.int .u64 (k : Nat)] 24)).alloc (.cells #[.func (.func 40) #[] #[.pointer (some ⟨r, 0, none⟩)]] 66)) (n := w.heap.size + 2) (by simp) 62 #[.int .i64 0, .int .i64 0, .slice none 0 0]
  have hC := withObject_no l obj A c _ e0 f0 (.func (.func 52) #[] #[.pointer (some ⟨w.heap.size, 0, none⟩), .pointer (some ⟨w.heap.size + 1, 0, none⟩)]) (h.later bA)
  clear h
  go_enter Try.func35, Try.ntmps35
  go_wp2_with fail
  refine hC.mono ?_
  rintro e w1 ⟨rfl, b1⟩
  have N1 := N.below b1
  have bW : Below w.heap.size w w1 := Below.trans bA (b1.mono (by simp <;> omega))
  clear hC N bA b1
  have n0 := N1.free 0
  have n1 := N1.free 1
  have n2 := N1.free 2
  have m0 := N1.cell 0
  have m1 := N1.cell 1
  have m2 := N1.cell 2
  go_wp2
  refine bodyPost_ret (v := .agg #[.int .i64 e0, .int .i64 f0, .slice none 0 0]) (by simp [results, Try.results35, go_sem, m0, m1, m2]) rfl ⟨rfl, ?_⟩
  refine Below.setCell (Below.setCell (Below.setCell bW ?_ _) ?_ _) ?_ _
  all_goals (show w.heap.size ≤ w.heap.size + 2; omega)
set_option maxRecDepth 100000 in
set_option maxHeartbeats 1600000 in
theorem withCell_put (l : List Ob) (t k r : Nat) (A : Option Addr) (c : Nat) (w : World) (K : Int → Nat → Nat → World → Prop) (h : FindYes l t A c w)
    (hact : ∀ w1 g cap V p q, Below w.heap.size w w1 → OTab w1 w.heap.size (.slice (some ⟨g, 0, none⟩) l.length cap) V l → w1.cell? ⟨p, 0, none⟩ = some (.int .u64 (k : Nat)) → w1.cell? ⟨q, 0, none⟩ = some (.func (.func 40) #[] #[.pointer (some ⟨r, 0, none⟩)]) → Calls Try.prog 52 #[.pointer (some ⟨g, t * 2, none⟩), .pointer (some ⟨p, 0, none⟩), .pointer (some ⟨q, 0, none⟩)] w1 fun e w2 => ∃ f : Int, e = .returned (.int .i64 f) ∧ K f g cap w2 ∧ KeepM w1 w2) :
    Calls Try.prog 35 #[.slice A l.length c, .int .i64 t, .int .u64 (k : Nat), .func (.func 40) #[] #[.pointer (some ⟨r, 0, none⟩)]] w (WcPost l w K) := by
  have bA : Below w.heap.size w (((w.alloc (.cells #[.int .u64 (k : Nat)] 24)).alloc (.cells #[.func (.func 40) #[] #[.pointer (some ⟨r, 0, none⟩)]] 66)).alloc (.cells #[.int .i64 0, .int .i64 0, .slice none 0 0] 62)) := (((Below.refl _ _).alloc (Nat.le_refl _) _).alloc (by simp) _).alloc (by simp <;> omega) _
  have N := Box.newAt (X := (w.alloc (.cells #[.int .u64 (k : Nat)] 24)).alloc (.cells #[.func (.func 40) #[] #[.pointer (some ⟨r, 0, none⟩)]] 66)) (n := w.heap.size + 2) (by simp) 62 #[.int .i64 0, .int .i64 0, .slice none 0 0]
  have hp : (((w.alloc (.cells #[.int .u64 (k : Nat)] 24)).alloc (.cells #[.func (.func 40) #[] #[.pointer (some ⟨r, 0, none⟩)]] 66)).alloc (.cells #[.int .i64 0, .int .i64 0, .slice none 0 0] 62)).cell? ⟨w.heap.size, 0, none⟩ = some (.int .u64 (k : Nat)) := by simp [go_sem]
  have hq : (((w.alloc (.cells #[.int .u64 (k : Nat)] 24)).alloc (.cells #[.func (.func 40) #[] #[.pointer (some ⟨r, 0, none⟩)]] 66)).alloc (.cells #[.int .i64 0, .int .i64 0, .slice none 0 0] 62)).cell? ⟨w.heap.size + 1, 0, none⟩ = some (.func (.func 40) #[] #[.pointer (some ⟨r, 0, none⟩)]) := by simp [go_sem]
  have hC := withObject_cell l t w.heap.size (w.heap.size + 1) A c _ (fun f g cap w2 => K f g cap w2 ∧ Box w2 (w.heap.size + 2) 62 #[.int .i64 0, .int .i64 0, .slice none 0 0]) (h.later bA) (fun w1 g cap V hb hT => by
    refine (hact w1 g cap V _ _ (bA.trans (hb.mono (by simp <;> omega))) (hT.mono bA.size) (cell_later hb hp) (cell_later hb hq)).mono ?_
    rintro e w2 ⟨f, rfl, hK, hM⟩
    exact ⟨f, rfl, ⟨hK, hM _ _ (N.below hb)⟩, hM⟩)
  clear h hact hp hq
  go_enter Try.func35, Try.ntmps35
  go_wp2_with fail
  refine hC.mono ?_
  rintro e w1 ⟨f, g, cap, w2, b, cs, rfl, ⟨hK, hX⟩, hY, hb, hB⟩
  have hsz := bA.size
  have hm : MayM w.heap.size w2 w1 := MayM.of_but (by simp at hb; omega) hY hB
  have hX1 : Box w1 (w.heap.size + 2) 62 #[.int .i64 0, .int .i64 0, .slice none 0 0] := by
    by_cases e : w.heap.size + 2 = b
    · simp at hb; omega
    · unfold Box at *
      rw [hB.block _ (Array.getElem?_eq_some_iff.1 hX).1 e]; exact hX
  obtain ⟨f', A', n', c', hv⟩ := MemV_form f g l.length cap
  have hv2 := Lib.hid hv
  rw [hv]
  clear hv hC N bA hX hY hB hb hsz
  have n0 := hX1.free 0
  have n1 := hX1.free 1
  have n2 := hX1.free 2
  have m0 := hX1.cell 0
  have m1 := hX1.cell 1
  have m2 := hX1.cell 2
  go_wp2
  refine bodyPost_ret (v := .agg #[.int .i64 0, .int .i64 f', .slice A' n' c']) (by simp [results, Try.results35, go_sem, m0, m1, m2]) rfl ?_
  exact ⟨f, g, cap, w2, by rw [hv2.out], hK, hm.trans (MayM.of_but (by omega) hX1 (But.set3 _ _ _ _ _ _))⟩
end Go.Proofs.Yteekppohhjlmmaa
