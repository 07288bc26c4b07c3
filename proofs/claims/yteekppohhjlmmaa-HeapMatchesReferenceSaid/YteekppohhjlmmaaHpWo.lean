/- heap: an action on an object that is found. -/
import Derived.Test.YteekppohhjlmmaaHpAct
namespace Go.Proofs.Yteekppohhjlmmaa
open Go.RowKit

/-- What find answers. -/
def FindNo (l : List Ob) (obj : Int) (A : Option Addr) (c : Nat) (w : World) (e0 f0 : Int) : Prop := ∀ w1, Below w.heap.size w w1 → Calls Try.prog 55 #[.slice A l.length c, .int .i64 obj] w1 fun e w' => e = .returned (.tuple #[.agg #[.int .i64 e0, .int .i64 f0, .slice none 0 0], .pointer none]) ∧ Below w1.heap.size w1 w'
def FindYes (l : List Ob) (t : Nat) (A : Option Addr) (c : Nat) (w : World) : Prop := ∀ w1, Below w.heap.size w w1 → Calls Try.prog 55 #[.slice A l.length c, .int .i64 t] w1 fun e w' => (∃ g cap V, e = .returned (.tuple #[.agg #[.int .i64 0, .int .i64 0, .slice (some ⟨g, 0, none⟩) l.length cap], .pointer (some ⟨g, t * 2, none⟩)]) ∧ OTab w' w1.heap.size (.slice (some ⟨g, 0, none⟩) l.length cap) V l) ∧ Below w1.heap.size w1 w'
theorem find_no {l : List Ob} {obj : Int} {A : Option Addr} {c : Nat} {w : World} (hs : ObSl w A c l) (h : hasO l obj = false) : FindNo l obj A c w 1 0 := fun w1 h1 => find_bad l obj w1 A c (hs.later h1) h
theorem find_no2 {l : List Ob} {t : Nat} {A : Option Addr} {c : Nat} {w : World} (hs : ObSl w A c l) (h : hasO l t = true) (hg : (obAt l t).g = true) : FindNo l t A c w 0 3 := fun w1 h1 => find_gone l t w1 A c (hs.later h1) (hasO_iff.1 h).1 (by have := (hasO_iff.1 h).2; omega) hg
theorem find_yes {l : List Ob} {t : Nat} {A : Option Addr} {c : Nat} {w : World} (hs : ObSl w A c l) (h : hasO l t = true) (hg : (obAt l t).g = false) : FindYes l t A c w := fun w1 h1 => find_ok l t w1 A c (hs.later h1) (hasO_iff.1 h).1 (by have := (hasO_iff.1 h).2; omega) hg
theorem FindNo.later {l : List Ob} {obj : Int} {A : Option Addr} {c : Nat} {w w' : World} {e0 f0 : Int} (h : FindNo l obj A c w e0 f0) (hb : Below w.heap.size w w') : FindNo l obj A c w' e0 f0 := fun w1 h1 => h w1 (hb.trans (h1.mono hb.size))
theorem FindYes.later {l : List Ob} {t : Nat} {A : Option Addr} {c : Nat} {w w' : World} (h : FindYes l t A c w) (hb : Below w.heap.size w w') : FindYes l t A c w' := fun w1 h1 => h w1 (hb.trans (h1.mono hb.size))
set_option maxRecDepth 100000 in
set_option maxHeartbeats 1600000 in
theorem withObject_no (l : List Ob) (obj : Int) (A : Option Addr) (c : Nat) (w : World) (e0 f0 : Int) (av : Value) (h : FindNo l obj A c w e0 f0) :
    Calls Try.prog 43 #[.slice A l.length c, .int .i64 obj, av] w fun e w' => e = .returned (.agg #[.int .i64 e0, .int .i64 f0, .slice none 0 0]) ∧ Below w.heap.size w w' := by
  have hN := Box.new w 62 #[.int .i64 0, .int .i64 0, .slice none 0 0]
  have bA : Below w.heap.size w (w.alloc (.cells #[.int .i64 0, .int .i64 0, .slice none 0 0] 62)) := (Below.refl _ _).alloc (Nat.le_refl _) _
  have hC := h _ bA
  clear h
  go_enter Try.func43, Try.ntmps43
  go_wp2_with fail
  refine hC.mono ?_
  rintro e w1 ⟨rfl, b1⟩
  have N := hN.below b1
  have bW : Below w.heap.size w w1 := Below.trans bA (b1.mono (by simp))
  have n0 := N.free 0
  have n1 := N.free 1
  have n2 := N.free 2
  have m0 := N.cell 0
  have m1 := N.cell 1
  have m2 := N.cell 2
  have hz := N.lt
  clear hC hN b1 bA N
  go_wp2
  refine bodyPost_ret (v := .agg #[.int .i64 e0, .int .i64 f0, .slice none 0 0]) (by simp [results, Try.results43, go_sem, m0, m1, m2, hz]) rfl ⟨rfl, ?_⟩
  refine Below.alloc (Below.setCell (Below.setCell (Below.setCell bW ?_ _) ?_ _) ?_ _) ?_ _
  all_goals first | exact Nat.le_refl _ | (simp; omega)
/-- What is left of a memory behind an action with a fault. -/
def MemV (f : Int) (g n cap : Nat) : Value := if f = 0 then .agg #[.int .i64 0, .int .i64 0, .slice (some ⟨g, 0, none⟩) n cap] else .agg #[.int .i64 0, .int .i64 f, .slice none 0 0]
/-- All memories are as they were. -/
def KeepM (w w' : World) : Prop := ∀ b cs, Box w b 62 cs → Box w' b 62 cs
/-- What withObject leaves behind. -/
def WoPost (l : List Ob) (w : World) (K : Int → Nat → Nat → World → Prop) (e : Ending) (w' : World) : Prop := ∃ f g cap w2 b cs, e = .returned (MemV f g l.length cap) ∧ K f g cap w2 ∧ Box w2 b 62 cs ∧ w.heap.size ≤ b ∧ But b w2 w'
set_option maxRecDepth 100000 in
set_option maxHeartbeats 1600000 in
theorem withObject_cell (l : List Ob) (t : Nat) (p q : Nat) (A : Option Addr) (c : Nat) (w : World) (K : Int → Nat → Nat → World → Prop) (h : FindYes l t A c w)
    (hact : ∀ w1 g cap V, Below w.heap.size w w1 → OTab w1 w.heap.size (.slice (some ⟨g, 0, none⟩) l.length cap) V l → Calls Try.prog 52 #[.pointer (some ⟨g, t * 2, none⟩), .pointer (some ⟨p, 0, none⟩), .pointer (some ⟨q, 0, none⟩)] w1 fun e w2 => ∃ f : Int, e = .returned (.int .i64 f) ∧ K f g cap w2 ∧ KeepM w1 w2) :
    Calls Try.prog 43 #[.slice A l.length c, .int .i64 t, .func (.func 52) #[] #[.pointer (some ⟨p, 0, none⟩), .pointer (some ⟨q, 0, none⟩)]] w (WoPost l w K) := by
  have hN := Box.new w 62 #[.int .i64 0, .int .i64 0, .slice none 0 0]
  have bA : Below w.heap.size w (w.alloc (.cells #[.int .i64 0, .int .i64 0, .slice none 0 0] 62)) := (Below.refl _ _).alloc (Nat.le_refl _) _
  have hC := h _ bA
  clear h
  go_enter Try.func43, Try.ntmps43
  go_wp2_with fail
  refine hC.mono ?_
  rintro e w1 ⟨⟨g, cap, V, rfl, hT⟩, b1⟩
  have N := hN.below b1
  have bW : Below w.heap.size w w1 := Below.trans bA (b1.mono (by simp))
  have hT2 := hT.mono bA.size
  have N2 := Box.new w1 62 #[.int .i64 0, .int .i64 0, .slice (some ⟨g, 0, none⟩) l.length cap]
  have b2 : Below w1.heap.size w1 (w1.alloc (.cells #[.int .i64 0, .int .i64 0, .slice (some ⟨g, 0, none⟩) l.length cap] 62)) := (Below.refl _ _).alloc (Nat.le_refl _) _
  have N1 := N.below b2
  have hA := hact _ g cap V (bW.trans (b2.mono bW.size)) (hT2.later b2)
  have hz1 := N.lt
  obtain ⟨B, hB⟩ : ∃ b, Hid (w1.heap.size = b) := ⟨_, Lib.hid rfl⟩
  clear hC hN b1 bA hact hT hT2 b2
  go_wp2_with fail
  refine hA.mono ?_
  rintro e w2 ⟨f, rfl, hK, hM⟩
  have N3 := hM _ _ N1
  have N4 := hM _ _ N2
  rw [hB.out] at N4 hz1
  simp only [hB.out]
  clear hA N N1 N2 hM
  have n0 := N3.free 0
  have n1 := N3.free 1
  have n2 := N3.free 2
  have m0 := N3.cell 0
  have m1 := N3.cell 1
  have m2 := N3.cell 2
  have e0 := N4.cell 0
  have e1 := N4.cell 1
  have e2 := N4.cell 2
  by_cases hf : f = 0
  · have hv : MemV f g l.length cap = .agg #[.int .i64 0, .int .i64 0, .slice (some ⟨g, 0, none⟩) l.length cap] := by unfold MemV; rw [if_pos hf]
    have hK := Lib.hid hK
    have hv := Lib.hid hv
    subst hf
    go_wp2
    refine bodyPost_ret (v := .agg #[.int .i64 0, .int .i64 0, .slice (some ⟨g, 0, none⟩) l.length cap]) (by simp [results, Try.results43, go_sem, m0, m1, m2]) rfl ?_
    exact ⟨_, g, cap, w2, _, _, by rw [hv.out], hK.out, N3, Nat.le_refl _, But.set3 _ _ _ _ _ _⟩
  · have hv : MemV f g l.length cap = .agg #[.int .i64 0, .int .i64 f, .slice none 0 0] := by unfold MemV; rw [if_neg hf]
    have hq : (f != 0) = true := by simpa using hf
    have hv := Lib.hid hv
    clear hf
    go_wp2
    refine bodyPost_ret (v := .agg #[.int .i64 0, .int .i64 f, .slice none 0 0]) (by simp [results, Try.results43, go_sem, m0, m1, m2]) rfl ?_
    exact ⟨_, g, cap, w2, _, _, by rw [hv.out], hK, N3, Nat.le_refl _, But.set3 _ _ _ _ _ _⟩
set_option maxRecDepth 100000 in
set_option maxHeartbeats 1600000 in
theorem withObject_free (l : List Ob) (t : Nat)  (A : Option Addr) (c : Nat) (w : World) (K : Int → Nat → Nat → World → Prop) (h : FindYes l t A c w)
    (hact : ∀ w1 g cap V, Below w.heap.size w w1 → OTab w1 w.heap.size (.slice (some ⟨g, 0, none⟩) l.length cap) V l → Calls Try.prog 44 #[.pointer (some ⟨g, t * 2, none⟩)] w1 fun e w2 => ∃ f : Int, e = .returned (.int .i64 f) ∧ K f g cap w2 ∧ KeepM w1 w2) :
    Calls Try.prog 43 #[.slice A l.length c, .int .i64 t, .func (.func 44) #[] #[]] w (WoPost l w K) := by
  have hN := Box.new w 62 #[.int .i64 0, .int .i64 0, .slice none 0 0]
  have bA : Below w.heap.size w (w.alloc (.cells #[.int .i64 0, .int .i64 0, .slice none 0 0] 62)) := (Below.refl _ _).alloc (Nat.le_refl _) _
  have hC := h _ bA
  clear h
  go_enter Try.func43, Try.ntmps43
  go_wp2_with fail
  refine hC.mono ?_
  rintro e w1 ⟨⟨g, cap, V, rfl, hT⟩, b1⟩
  have N := hN.below b1
  have bW : Below w.heap.size w w1 := Below.trans bA (b1.mono (by simp))
  have hT2 := hT.mono bA.size
  have N2 := Box.new w1 62 #[.int .i64 0, .int .i64 0, .slice (some ⟨g, 0, none⟩) l.length cap]
  have b2 : Below w1.heap.size w1 (w1.alloc (.cells #[.int .i64 0, .int .i64 0, .slice (some ⟨g, 0, none⟩) l.length cap] 62)) := (Below.refl _ _).alloc (Nat.le_refl _) _
  have N1 := N.below b2
  have hA := hact _ g cap V (bW.trans (b2.mono bW.size)) (hT2.later b2)
  have hz1 := N.lt
  obtain ⟨B, hB⟩ : ∃ b, Hid (w1.heap.size = b) := ⟨_, Lib.hid rfl⟩
  clear hC hN b1 bA hact hT hT2 b2
  go_wp2_with fail
  refine hA.mono ?_
  rintro e w2 ⟨f, rfl, hK, hM⟩
  have N3 := hM _ _ N1
  have N4 := hM _ _ N2
  rw [hB.out] at N4 hz1
  simp only [hB.out]
  clear hA N N1 N2 hM
  have n0 := N3.free 0
  have n1 := N3.free 1
  have n2 := N3.free 2
  have m0 := N3.cell 0
  have m1 := N3.cell 1
  have m2 := N3.cell 2
  have e0 := N4.cell 0
  have e1 := N4.cell 1
  have e2 := N4.cell 2
  by_cases hf : f = 0
  · have hv : MemV f g l.length cap = .agg #[.int .i64 0, .int .i64 0, .slice (some ⟨g, 0, none⟩) l.length cap] := by unfold MemV; rw [if_pos hf]
    have hK := Lib.hid hK
    have hv := Lib.hid hv
    subst hf
    go_wp2
    refine bodyPost_ret (v := .agg #[.int .i64 0, .int .i64 0, .slice (some ⟨g, 0, none⟩) l.length cap]) (by simp [results, Try.results43, go_sem, m0, m1, m2]) rfl ?_
    exact ⟨_, g, cap, w2, _, _, by rw [hv.out], hK.out, N3, Nat.le_refl _, But.set3 _ _ _ _ _ _⟩
  · have hv : MemV f g l.length cap = .agg #[.int .i64 0, .int .i64 f, .slice none 0 0] := by unfold MemV; rw [if_neg hf]
    have hq : (f != 0) = true := by simpa using hf
    have hv := Lib.hid hv
    clear hf
    go_wp2
    refine bodyPost_ret (v := .agg #[.int .i64 0, .int .i64 f, .slice none 0 0]) (by simp [results, Try.results43, go_sem, m0, m1, m2]) rfl ?_
    exact ⟨_, g, cap, w2, _, _, by rw [hv.out], hK, N3, Nat.le_refl _, But.set3 _ _ _ _ _ _⟩
end Go.Proofs.Yteekppohhjlmmaa
