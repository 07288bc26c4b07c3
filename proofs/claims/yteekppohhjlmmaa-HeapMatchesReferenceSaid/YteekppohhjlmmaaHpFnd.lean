/- heap: an object is found, in a copy. -/
import Derived.Test.YteekppohhjlmmaaHpCpy
namespace Go.Proofs.Yteekppohhjlmmaa
open Go.RowKit

theorem OTab.but {w w' : World} {B p : Nat} {v : Value} {V : Nat → Value} {l : List Ob} {T : TypeId} {cs : Array Value} (h : OTab w B v V l) (hX : Box w p T cs) (hb : But p w w') (h1 : 42 ≠ T) (h2 : 45 ≠ T) : OTab w' B v V l :=
  ⟨World.ownsRow.kept h.row hb.grownBy (own_box h.row hX h1), fun t ht => World.ownsRow.kept (h.own t ht) hb.grownBy (own_box (h.own t ht) hX h2), h.far⟩
theorem OTab.mono {w : World} {B B' : Nat} {v : Value} {V : Nat → Value} {l : List Ob} (h : OTab w B v V l) (hb : B' ≤ B) : OTab w B' v V l := ⟨own_mono h.row hb, fun t ht => own_mono (h.own t ht) hb, h.far⟩
theorem OTab.drewN {w : World} {B n : Nat} {v : Value} {V : Nat → Value} {l : List Ob} (h : OTab w B v V l) : OTab (w.drewN n) B v V l := h.later (Drew.below ⟨n, rfl⟩)
theorem But.set3 {w : World} {p : Nat} (a b c : Value) (i j k : Nat) : But p w (((w.setCell ⟨p, i, none⟩ a).setCell ⟨p, j, none⟩ b).setCell ⟨p, k, none⟩ c) := ((But.set a).trans (But.set b)).trans (But.set c)
set_option maxRecDepth 100000 in
set_option maxHeartbeats 1600000 in
theorem find_invalid (l : List Ob) (obj : Int) (w : World) (A : Option Addr) (c : Nat) (hs : ObSl w A c l) (_hl : l.length ≤ maxLen) (h : obsV l = false) :
    Calls Try.prog 55 #[.slice A l.length c, .int .i64 obj] w fun e w' => e = .returned (.tuple #[.agg #[.int .i64 1, .int .i64 0, .slice none 0 0], .pointer none]) ∧ Below w.heap.size w w' := by
  have hV : ∀ w1, Below w.heap.size w w1 → _ := fun w1 h1 => Valid_any l w1 A c (hs.later h1)
  rw [h] at hV
  clear hs
  go_enter Try.func55, Try.ntmps55
  go_wp2_with fail
  refine (hV _ ((Below.refl _ _).alloc (Nat.le_refl _) _)).mono ?_
  rintro e w1 ⟨rfl, b1⟩
  clear hV
  have bW : Below w.heap.size w w1 := Below.trans ((Below.refl _ _).alloc (Nat.le_refl _) _) (b1.mono (by simp))
  have hz : w.heap.size < w1.heap.size := by have := b1.size; simp at this; omega
  have N := (Box.new w 62 #[.int .i64 0, .int .i64 0, .slice none 0 0]).below b1
  have n0 := N.free 0
  have n1 := N.free 1
  have n2 := N.free 2
  have m0 := N.cell 0
  have m1 := N.cell 1
  have m2 := N.cell 2
  go_wp2
  refine bodyPost_ret (v := .tuple #[.agg #[.int .i64 1, .int .i64 0, .slice none 0 0], .pointer none]) (by simp [results, Try.results55, go_sem, m0, m1, m2]) rfl ⟨rfl, ?_⟩
  exact bW.setCell (Nat.le_refl _) _ |>.setCell (Nat.le_refl _) _ |>.setCell (Nat.le_refl _) _
set_option maxRecDepth 100000 in
set_option maxHeartbeats 1600000 in
theorem find_low (l : List Ob) (obj : Int) (w : World) (A : Option Addr) (c : Nat) (hs : ObSl w A c l) (_hl : l.length ≤ maxLen) (h : obsV l = true) (h1 : obj < 0) :
    Calls Try.prog 55 #[.slice A l.length c, .int .i64 obj] w fun e w' => e = .returned (.tuple #[.agg #[.int .i64 1, .int .i64 0, .slice none 0 0], .pointer none]) ∧ Below w.heap.size w w' := by
  have hV : ∀ w1, Below w.heap.size w w1 → _ := fun w1 h1 => Valid_any l w1 A c (hs.later h1)
  rw [h] at hV
  clear hs
  go_enter Try.func55, Try.ntmps55
  go_wp2_with fail
  refine (hV _ ((Below.refl _ _).alloc (Nat.le_refl _) _)).mono ?_
  rintro e w1 ⟨rfl, b1⟩
  clear hV
  have bW : Below w.heap.size w w1 := Below.trans ((Below.refl _ _).alloc (Nat.le_refl _) _) (b1.mono (by simp))
  have hz : w.heap.size < w1.heap.size := by have := b1.size; simp at this; omega
  have N := (Box.new w 62 #[.int .i64 0, .int .i64 0, .slice none 0 0]).below b1
  have n0 := N.free 0
  have n1 := N.free 1
  have n2 := N.free 2
  have m0 := N.cell 0
  have m1 := N.cell 1
  have m2 := N.cell 2
  go_wp2
  refine bodyPost_ret (v := .tuple #[.agg #[.int .i64 1, .int .i64 0, .slice none 0 0], .pointer none]) (by simp [results, Try.results55, go_sem, m0, m1, m2]) rfl ⟨rfl, ?_⟩
  exact bW.setCell (Nat.le_refl _) _ |>.setCell (Nat.le_refl _) _ |>.setCell (Nat.le_refl _) _
set_option maxRecDepth 100000 in
set_option maxHeartbeats 1600000 in
theorem find_high (l : List Ob) (obj : Int) (w : World) (A : Option Addr) (c : Nat) (hs : ObSl w A c l) (_hl : l.length ≤ maxLen) (h : obsV l = true) (h0 : ¬ obj < 0) (h1 : (l.length : Int) ≤ obj) :
    Calls Try.prog 55 #[.slice A l.length c, .int .i64 obj] w fun e w' => e = .returned (.tuple #[.agg #[.int .i64 1, .int .i64 0, .slice none 0 0], .pointer none]) ∧ Below w.heap.size w w' := by
  have hV : ∀ w1, Below w.heap.size w w1 → _ := fun w1 h1 => Valid_any l w1 A c (hs.later h1)
  rw [h] at hV
  clear hs
  go_enter Try.func55, Try.ntmps55
  go_wp2_with fail
  refine (hV _ ((Below.refl _ _).alloc (Nat.le_refl _) _)).mono ?_
  rintro e w1 ⟨rfl, b1⟩
  clear hV
  have bW : Below w.heap.size w w1 := Below.trans ((Below.refl _ _).alloc (Nat.le_refl _) _) (b1.mono (by simp))
  have hz : w.heap.size < w1.heap.size := by have := b1.size; simp at this; omega
  have N := (Box.new w 62 #[.int .i64 0, .int .i64 0, .slice none 0 0]).below b1
  have n0 := N.free 0
  have n1 := N.free 1
  have n2 := N.free 2
  have m0 := N.cell 0
  have m1 := N.cell 1
  have m2 := N.cell 2
  go_wp2
  refine bodyPost_ret (v := .tuple #[.agg #[.int .i64 1, .int .i64 0, .slice none 0 0], .pointer none]) (by simp [results, Try.results55, go_sem, m0, m1, m2]) rfl ⟨rfl, ?_⟩
  exact bW.setCell (Nat.le_refl _) _ |>.setCell (Nat.le_refl _) _ |>.setCell (Nat.le_refl _) _

theorem find_bad (l : List Ob) (obj : Int) (w : World) (A : Option Addr) (c : Nat) (hs : ObSl w A c l) (h : hasO l obj = false) :
    Calls Try.prog 55 #[.slice A l.length c, .int .i64 obj] w fun e w' => e = .returned (.tuple #[.agg #[.int .i64 1, .int .i64 0, .slice none 0 0], .pointer none]) ∧ Below w.heap.size w w' := by
  have hl := Nat.le_trans hs.1 hs.2.1
  cases hv : obsV l with
  | false => exact find_invalid l obj w A c hs hl hv
  | true =>
    by_cases h0 : obj < 0
    · exact find_low l obj w A c hs hl hv h0
    · refine find_high l obj w A c hs hl hv h0 ?_
      apply Classical.byContradiction
      intro hn
      have : hasO l obj = true := hasO_iff.2 ⟨hv, by omega, by omega⟩
      rw [h] at this; cases this
set_option maxRecDepth 100000 in
set_option maxHeartbeats 1600000 in
theorem find_gone (l : List Ob) (t : Nat) (w : World) (A : Option Addr) (c : Nat) (hs : ObSl w A c l) (hv : obsV l = true) (ht : t < l.length) (hg : (obAt l t).g = true) :
    Calls Try.prog 55 #[.slice A l.length c, .int .i64 t] w fun e w' => e = .returned (.tuple #[.agg #[.int .i64 0, .int .i64 3, .slice none 0 0], .pointer none]) ∧ Below w.heap.size w w' := by
  have hV : ∀ w1, Below w.heap.size w w1 → _ := fun w1 h1 => Valid_any l w1 A c (hs.later h1)
  rw [hv] at hV
  have hl := obsV_len hv
  obtain ⟨g, o, A', c', rfl, k0, k1, _⟩ := hs.at_ ht
  rw [hg] at k1
  have h0 : ¬ (t : Int) < 0 := by omega
  have h1 : ¬ (l.length : Int) ≤ t := by omega
  have h2 : (t : Int) < l.length := by omega
  clear hs k0 hv hg
  go_enter Try.func55, Try.ntmps55
  go_wp2_with fail
  refine (hV _ ((Below.refl _ _).alloc (Nat.le_refl _) _)).mono ?_
  rintro e w1 ⟨rfl, b1⟩
  clear hV
  have bW : Below w.heap.size w w1 := Below.trans ((Below.refl _ _).alloc (Nat.le_refl _) _) (b1.mono (by simp))
  have hz : w.heap.size < w1.heap.size := by have := b1.size; simp at this; omega
  have N := (Box.new w 62 #[.int .i64 0, .int .i64 0, .slice none 0 0]).below b1
  have n0 := N.free 0
  have n1 := N.free 1
  have n2 := N.free 2
  have m0 := N.cell 0
  have m1 := N.cell 1
  have m2 := N.cell 2
  have k2 := cell_later bW k1
  go_wp2
  refine bodyPost_ret (v := .tuple #[.agg #[.int .i64 0, .int .i64 3, .slice none 0 0], .pointer none]) (by simp [results, Try.results55, go_sem, m0, m1, m2]) rfl ⟨rfl, ?_⟩
  exact bW.setCell (Nat.le_refl _) _ |>.setCell (Nat.le_refl _) _ |>.setCell (Nat.le_refl _) _
set_option maxRecDepth 100000 in
set_option maxHeartbeats 1600000 in
theorem find_ok (l : List Ob) (t : Nat) (w : World) (A : Option Addr) (c : Nat) (hs : ObSl w A c l) (hv : obsV l = true) (ht : t < l.length) (hg : (obAt l t).g = false) :
    Calls Try.prog 55 #[.slice A l.length c, .int .i64 t] w fun e w' => (∃ g cap V, e = .returned (.tuple #[.agg #[.int .i64 0, .int .i64 0, .slice (some ⟨g, 0, none⟩) l.length cap], .pointer (some ⟨g, t * 2, none⟩)]) ∧ OTab w' w.heap.size (.slice (some ⟨g, 0, none⟩) l.length cap) V l) ∧ Below w.heap.size w w' := by
  have hV : ∀ w1, Below w.heap.size w w1 → _ := fun w1 h1 => Valid_any l w1 A c (hs.later h1)
  have hC : ∀ w1, Below w.heap.size w w1 → _ := fun w1 h1 => copyOf_any l w1 A c hv (hs.later h1)
  rw [hv] at hV
  have hl := obsV_len hv
  obtain ⟨g, o, A', c', rfl, k0, k1, _⟩ := hs.at_ ht
  rw [hg] at k1
  have h0 : ¬ (t : Int) < 0 := by omega
  have h1 : ¬ (l.length : Int) ≤ t := by omega
  have h2 : (t : Int) < l.length := by omega
  clear hs k0 hv hg
  go_enter Try.func55, Try.ntmps55
  go_wp2_with fail
  refine (hV _ ((Below.refl _ _).alloc (Nat.le_refl _) _)).mono ?_
  rintro e w1 ⟨rfl, b1⟩
  clear hV
  have bW : Below w.heap.size w w1 := Below.trans ((Below.refl _ _).alloc (Nat.le_refl _) _) (b1.mono (by simp))
  have N := (Box.new w 62 #[.int .i64 0, .int .i64 0, .slice none 0 0]).below b1
  have k2 := cell_later bW k1
  have hC := hC w1 bW
  clear b1
  go_wp2_with fail
  refine hC.mono ?_
  rintro e w2 ⟨⟨v, V, rfl, hT⟩, b2⟩
  clear hC
  obtain ⟨g2, cap, rfl, q1, q2⟩ := copy_len hT (by omega)
  have N2 := N.below b2
  have bW2 := bW.trans (b2.mono bW.size)
  have hT2 : OTab w2 w.heap.size (.slice (some ⟨g2, 0, none⟩) l.length cap) V l := ⟨own_mono hT.row bW.size, fun t ht => own_mono (hT.own t ht) bW.size, hT.far⟩
  clear hT N b2 k1 k2 hC
  have n0 := N2.free 0
  have n1 := N2.free 1
  have n2 := N2.free 2
  have m0 := N2.cell 0
  have m1 := N2.cell 1
  have m2 := N2.cell 2
  have hsz := N2.lt
  have N3 := Box.new w2 62 #[.int .i64 0, .int .i64 0, .slice (some ⟨g2, 0, none⟩) l.length cap]
  have bA : Below w2.heap.size w2 (w2.alloc (.cells #[.int .i64 0, .int .i64 0, .slice (some ⟨g2, 0, none⟩) l.length cap] 62)) := (Below.refl _ _).alloc (Nat.le_refl _) _
  have N4 := N2.below bA
  have hT3 := hT2.later bA
  have bW3 := bW2.trans (bA.mono bW2.size)
  go_upto_region 6 with fail
  obtain ⟨w3, hw3⟩ : ∃ Y, w2.alloc (.cells #[.int .i64 0, .int .i64 0, .slice (some ⟨g2, 0, none⟩) l.length cap] 62) = Y := ⟨_, rfl⟩
  rw [hw3] at N3 N4 hT3 bW3
  simp only [hw3]
  obtain ⟨B3, hB3⟩ : ∃ b, Hid (w2.heap.size = b) := ⟨_, Lib.hid rfl⟩
  rw [hB3.out] at N3 hsz
  simp only [hB3.out]
  clear hw3 bA hT2 n0 n1 n2 m0 m1 m2 N2 bW2 bW
  have f0 := N4.free 0
  have f1 := N4.free 1
  have f2 := N4.free 2
  have c0 := N4.cell 0
  have c1 := N4.cell 1
  have c2 := N4.cell 2
  have e0 := N3.cell 0
  have e1 := N3.cell 1
  have e2 := N3.cell 2
  have hlt3 := N4.lt
  go_region
  all_goals
    go_wp2
    refine bodyPost_ret (v := .tuple #[.agg #[.int .i64 0, .int .i64 0, .slice (some ⟨g2, 0, none⟩) l.length cap], .pointer (some ⟨g2, t * 2, none⟩)]) (by simp [results, Try.results55, go_sem, c0, c1, c2]) rfl ⟨?_, ?_⟩
    · exact ⟨g2, cap, V, rfl, OTab.but (T := 62) hT3.drewN (N4.drewN _) (But.set3 _ _ _ _ _ _) (by decide) (by decide)⟩
    · exact (((below_drewN bW3 _).setCell (Nat.le_refl _) _).setCell (Nat.le_refl _) _).setCell (Nat.le_refl _) _
end Go.Proofs.Yteekppohhjlmmaa
