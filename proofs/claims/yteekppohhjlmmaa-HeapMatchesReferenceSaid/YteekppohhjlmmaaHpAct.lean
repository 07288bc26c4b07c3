/- heap: what is done to an object, or a cell, that was found. -/
import Derived.Test.YteekppohhjlmmaaHpFnd
import Derived.Deep.RegionWith
namespace Go.Proofs.Yteekppohhjlmmaa
open Go.RowKit

theorem below_drew {w w1 : World} (h : Below w.drew.heap.size w.drew w1) : Below w.heap.size w w1 := Below.trans (Drew.below ⟨1, rfl⟩) h
set_option maxRecDepth 100000 in
set_option maxHeartbeats 1600000 in
theorem lowest_any (n v : Int) (w : World) (hn : 1 ≤ n ∧ n ≤ 64) (hv : U64 v) : Calls Try.prog 41 #[.int .i64 n, .int .u64 v] w fun e w' => e = .returned (.int .u64 (low n v)) ∧ Below w.heap.size w w' := by
  have hq := hv.2
  have hP := fun w => part_ok 64 v 0 n w ((vB_iff _ _).2 ⟨by decide, by decide, by simpa using hq⟩) hv.1 (by decide) hn.1 (by omega)
  rw [show v / 2 ^ (0 : Int).toNat = v by simp] at hP
  clear hq hv hn
  go_enter Try.func41, Try.ntmps41
  go_wp2_with fail
  refine (hP _).mono ?_
  rintro e w1 ⟨rfl, b1⟩
  clear hP
  go_wp2
  go_ret
  exact ⟨rfl, b1.alloc b1.size _⟩
set_option maxRecDepth 100000 in
set_option maxHeartbeats 1600000 in
theorem put_act (g o b : Nat) (x : Ce) (v : Int) (w : World) (hc : CeAt w g o x) (hb : w.cell? ⟨b, 0, none⟩ = some (.int .u64 v)) (hn : 1 ≤ x.w ∧ x.w ≤ 64) (hv : U64 v) (f1 : w.frozen? ⟨g, o + 1, none⟩ = false) (f2 : w.frozen? ⟨g, o + 2, none⟩ = false) :
    Calls Try.prog 40 #[.pointer (some ⟨g, o, none⟩), .pointer (some ⟨b, 0, none⟩)] w fun e w' => e = .returned (.int .i64 0) ∧ ∃ w1, Below w.heap.size w w1 ∧ w' = (w1.setCell ⟨g, o + 1, none⟩ (.bool true)).setCell ⟨g, o + 2, none⟩ (.int .u64 (low x.w v)) := by
  obtain ⟨n, s, u⟩ := x
  obtain ⟨c0, c1, c2⟩ := hc
  simp only at c0 c1 c2 hn ⊢
  have hL := fun w => lowest_any n v w hn hv
  clear hn hv
  go_enter Try.func40, Try.ntmps40
  go_wp2_with fail
  go_region_with (first | (go_at_call 41; refine (hL _).mono ?_; rintro e w1 ⟨rfl, b1⟩; have k1 := cell_later b1 c1; have k2 := cell_later b1 c2; have l1 := (b1.frozen (p := ⟨g, o + 1, none⟩) (cell_lt c1)).trans f1; have l2 := (b1.frozen (p := ⟨g, o + 2, none⟩) (cell_lt c2)).trans f2))
  all_goals
    go_wp2
    go_ret
    exact ⟨rfl, w1, by first | exact b1 | exact below_drew b1, rfl⟩
set_option maxRecDepth 100000 in
set_option maxHeartbeats 1600000 in
theorem load_act_raw (g o b : Nat) (x : Ce) (w : World) (hc : CeAt w g o x) (hs : x.s = false) :
    Calls Try.prog 36 #[.pointer (some ⟨g, o, none⟩), .pointer (some ⟨b, 0, none⟩)] w fun e w' => e = .returned (.int .i64 4) ∧ w' = w := by
  obtain ⟨n, s, u⟩ := x
  obtain ⟨c0, c1, c2⟩ := hc
  simp only at c0 c1 c2 hs
  subst hs
  go_enter Try.func36, Try.ntmps36
  go_wp2
  go_ret
  exact ⟨rfl, rfl⟩
set_option maxRecDepth 100000 in
set_option maxHeartbeats 1600000 in
theorem load_act_set (g o b : Nat) (x : Ce) (w : World) (hc : CeAt w g o x) (hs : x.s = true) (hb : Box w b 32 #[.int .i64 0, .int .u64 0]) :
    Calls Try.prog 36 #[.pointer (some ⟨g, o, none⟩), .pointer (some ⟨b, 0, none⟩)] w fun e w' => e = .returned (.int .i64 0) ∧ ∃ w1, Below w.heap.size w w1 ∧ w' = (w1.setCell ⟨b, 0, none⟩ (.int .i64 x.w)).setCell ⟨b, 1, none⟩ (.int .u64 x.v) := by
  have hB := bitsOf_any x
  obtain ⟨n, s, u⟩ := x
  obtain ⟨c0, c1, c2⟩ := hc
  simp only at c0 c1 c2 hs hB ⊢
  subst hs
  go_enter Try.func36, Try.ntmps36
  go_wp2_with fail
  refine (hB _).mono ?_
  rintro e w1 ⟨rfl, b1⟩
  have N := hb.below b1
  have n0 := N.free 0
  have n1 := N.free 1
  have m0 := N.cell 0
  have m1 := N.cell 1
  clear hB
  go_wp2
  go_ret
  exact ⟨rfl, w1, b1, rfl⟩
set_option maxRecDepth 100000 in
set_option maxHeartbeats 1600000 in
theorem free_act (g o : Nat) (u : Value) (w : World) (hc : w.cell? ⟨g, o + 1, none⟩ = some u) (hf : w.frozen? ⟨g, o + 1, none⟩ = false) :
    Calls Try.prog 44 #[.pointer (some ⟨g, o, none⟩)] w fun e w' => e = .returned (.int .i64 0) ∧ w' = w.setCell ⟨g, o + 1, none⟩ (.bool true) := by
  go_enter Try.func44, Try.ntmps44
  go_wp2
  go_ret
  exact ⟨rfl, rfl⟩
set_option maxRecDepth 100000 in
set_option maxHeartbeats 1600000 in
theorem cell_out (g o n c' k p q : Nat) (A' : Option Addr) (w : World) (fv : Value) (hs : w.cell? ⟨g, o, none⟩ = some (.slice A' n c')) (hk : w.cell? ⟨p, 0, none⟩ = some (.int .u64 (k : Nat))) (_hq : w.cell? ⟨q, 0, none⟩ = some fv) (hn : n ≤ 100) (h : n ≤ k) :
    Calls Try.prog 52 #[.pointer (some ⟨g, o, none⟩), .pointer (some ⟨p, 0, none⟩), .pointer (some ⟨q, 0, none⟩)] w fun e w' => e = .returned (.int .i64 2) ∧ Below w.heap.size w w' := by
  have hw : IntKind.u64.wrap (n : Int) = n := IntWalk.u64_in _ (by omega)
  have hd : decide ((n : Int) ≤ (k : Int)) = true := by simp; omega
  go_enter Try.func52, Try.ntmps52
  go_wp2_with fail
  go_quiet (fail)
  go_wp2
  go_ret
  exact ⟨rfl, below_drewN (Below.refl _ _) _⟩
set_option maxRecDepth 100000 in
set_option maxHeartbeats 1600000 in
theorem cell_load (g o n c' k p q gc oc r : Nat) (w : World) (Q : Int → World → Prop) (hs : w.cell? ⟨g, o, none⟩ = some (.slice (some ⟨gc, oc, none⟩) n c')) (hk : w.cell? ⟨p, 0, none⟩ = some (.int .u64 (k : Nat))) (hq : w.cell? ⟨q, 0, none⟩ = some (.func (.func 36) #[] #[.pointer (some ⟨r, 0, none⟩)])) (hn : n ≤ 100) (h : k < n)
    (hF : ∀ w1, Drew w w1 → Calls Try.prog 36 #[.pointer (some ⟨gc, oc + k * 3, none⟩), .pointer (some ⟨r, 0, none⟩)] w1 fun e w' => ∃ f : Int, e = .returned (.int .i64 f) ∧ Q f w') :
    Calls Try.prog 52 #[.pointer (some ⟨g, o, none⟩), .pointer (some ⟨p, 0, none⟩), .pointer (some ⟨q, 0, none⟩)] w fun e w' => ∃ f : Int, e = .returned (.int .i64 f) ∧ Q f w' := by
  have hw : IntKind.u64.wrap (n : Int) = n := IntWalk.u64_in _ (by omega)
  have hd : decide ((n : Int) ≤ (k : Int)) = false := by simp; omega
  have hk2 : (k : Int) < (n : Int) := by omega
  go_enter Try.func52, Try.ntmps52
  go_wp2_with fail
  go_quiet (fail)
  go_wp2_with fail
  go_region_with (first | (go_at_call 36; refine (hF _ ⟨_, rfl⟩).mono ?_; rintro e w5 ⟨f, rfl, hQ⟩))
  all_goals
    go_wp2
    go_ret
    exact ⟨f, rfl, hQ⟩
set_option maxRecDepth 100000 in
set_option maxHeartbeats 1600000 in
theorem cell_put (g o n c' k p q gc oc r : Nat) (w : World) (Q : Int → World → Prop) (hs : w.cell? ⟨g, o, none⟩ = some (.slice (some ⟨gc, oc, none⟩) n c')) (hk : w.cell? ⟨p, 0, none⟩ = some (.int .u64 (k : Nat))) (hq : w.cell? ⟨q, 0, none⟩ = some (.func (.func 40) #[] #[.pointer (some ⟨r, 0, none⟩)])) (hn : n ≤ 100) (h : k < n)
    (hF : ∀ w1, Drew w w1 → Calls Try.prog 40 #[.pointer (some ⟨gc, oc + k * 3, none⟩), .pointer (some ⟨r, 0, none⟩)] w1 fun e w' => ∃ f : Int, e = .returned (.int .i64 f) ∧ Q f w') :
    Calls Try.prog 52 #[.pointer (some ⟨g, o, none⟩), .pointer (some ⟨p, 0, none⟩), .pointer (some ⟨q, 0, none⟩)] w fun e w' => ∃ f : Int, e = .returned (.int .i64 f) ∧ Q f w' := by
  have hw : IntKind.u64.wrap (n : Int) = n := IntWalk.u64_in _ (by omega)
  have hd : decide ((n : Int) ≤ (k : Int)) = false := by simp; omega
  have hk2 : (k : Int) < (n : Int) := by omega
  go_enter Try.func52, Try.ntmps52
  go_wp2_with fail
  go_quiet (fail)
  go_wp2_with fail
  go_region_with (first | (go_at_call 40; refine (hF _ ⟨_, rfl⟩).mono ?_; rintro e w5 ⟨f, rfl, hQ⟩))
  all_goals
    go_wp2
    go_ret
    exact ⟨f, rfl, hQ⟩
end Go.Proofs.Yteekppohhjlmmaa
