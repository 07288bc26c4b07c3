/- ssa: the fields that a row leaves out. -/
import Derived.Test.YtnbgadndkepomaaGreatDoorSQI
namespace Go.Proofs.YtnbgadndkepomaaGreatDoor
open Go.RowKit

set_option maxRecDepth 100000 in
set_option maxHeartbeats 1600000 in
theorem valuesOf_any {W : World} (i : CIn) : Calls Tryz.prog 54 #[.agg #[.int .i64 i.op, .int .i64 i.w, .int .i64 i.p, .int .i64 i.a, .int .i64 i.b, .int .i64 i.c, .int .u64 i.n, .int .i64 i.at_]] W fun e w' => e = .returned (.slice (some ⟨W.heap.size + 1, 0, none⟩) 3 3) ∧ Box w' (W.heap.size + 1) 3 (ints [i.a, i.b, i.c]) ∧ Below W.heap.size W w' := by
  have N0 := Box.new W 47 #[.int .i64 i.op, .int .i64 i.w, .int .i64 i.p, .int .i64 i.a, .int .i64 i.b, .int .i64 i.c, .int .u64 i.n, .int .i64 i.at_]
  have n3 := N0.cell 3
  have n4 := N0.cell 4
  have n5 := N0.cell 5
  go_enter Tryz.func54, Tryz.ntmps54
  go_wp2
  go_ret
  exact ⟨rfl, Box.newAt (by simp) _ _, ((Below.refl _ _).alloc (Nat.le_refl _) _).alloc (by simp) _⟩
/-- What a row with so many values and such fields leaves out is 0. -/
def OutV (v : Nat) (f1 f2 f3 : Bool) (i : CIn) : Prop := (∀ z ∈ [i.a, i.b, i.c].drop v, z = 0) ∧ (i.w = 0 ∨ f1 = true) ∧ (i.p = 0 ∨ f2 = true) ∧ (i.n = 0 ∨ f3 = true)
def VF (v f : Nat) : Prop := (v = 2 ∧ f = 1) ∨ (v = 0 ∧ f = 5) ∨ (v = 1 ∧ f = 1) ∨ (v = 1 ∧ f = 5) ∨ (v = 0 ∧ f = 1) ∨ (v = 0 ∧ f = 3) ∨ (v = 1 ∧ f = 6) ∨ (v = 0 ∧ f = 6) ∨ (v = 3 ∧ f = 0) ∨ (v = 1 ∧ f = 0) ∨ (v = 1 ∧ f = 4)
def ZTo (l : List Int) (k : Nat) : Prop := ∀ (j : Nat) (h : j < l.length), j < k → l[j] = 0
theorem ZTo.all {l : List Int} (h : ZTo l l.length) : ∀ z ∈ l, z = 0 := fun z hz => by
  obtain ⟨j, hj, rfl⟩ := List.getElem_of_mem hz
  exact h j hj hj
set_option maxRecDepth 100000 in
set_option maxHeartbeats 6400000 in
theorem leavesOut_any {W : World} (i : CIn) (v f : Nat) (hvf : VF v f) (fv : Value) :
    Calls Tryz.prog 89 #[.agg #[.int .i64 v, .int .i64 f, fv], .agg #[.int .i64 i.op, .int .i64 i.w, .int .i64 i.p, .int .i64 i.a, .int .i64 i.b, .int .i64 i.c, .int .u64 i.n, .int .i64 i.at_]] W fun e w' => e = .returned (.bool (B (OutV v (f.testBit 0) (f.testBit 1) (f.testBit 2) i))) ∧ Below W.heap.size W w' := by
  obtain ⟨R, hR⟩ : ∃ R, Hid (B (OutV v (f.testBit 0) (f.testBit 1) (f.testBit 2) i) = R) := ⟨_, Lib.hid rfl⟩
  rw [hR.out]
  have N0 := (Box.new W 68 #[.int .i64 v, .int .i64 f, fv]).alloc (.cells #[.int .i64 i.op, .int .i64 i.w, .int .i64 i.p, .int .i64 i.a, .int .i64 i.b, .int .i64 i.c, .int .u64 i.n, .int .i64 i.at_] 47)
  have N1 := Box.newAt (X := W.alloc (.cells #[.int .i64 v, .int .i64 f, fv] 68)) (n := W.heap.size + 1) (by simp) 47 #[.int .i64 i.op, .int .i64 i.w, .int .i64 i.p, .int .i64 i.a, .int .i64 i.b, .int .i64 i.c, .int .u64 i.n, .int .i64 i.at_]
  have bA : Below W.heap.size W ((W.alloc (.cells #[.int .i64 v, .int .i64 f, fv] 68)).alloc (.cells #[.int .i64 i.op, .int .i64 i.w, .int .i64 i.p, .int .i64 i.a, .int .i64 i.b, .int .i64 i.c, .int .u64 i.n, .int .i64 i.at_] 47)) := ((Below.refl _ _).alloc (Nat.le_refl _) _).alloc (by simp) _
  have hsz : ((W.alloc (.cells #[.int .i64 v, .int .i64 f, fv] 68)).alloc (.cells #[.int .i64 i.op, .int .i64 i.w, .int .i64 i.p, .int .i64 i.a, .int .i64 i.b, .int .i64 i.c, .int .u64 i.n, .int .i64 i.at_] 47)).heap.size = W.heap.size + 2 := by simp
  go_enter Tryz.func89, Tryz.ntmps89
  go_upto_region 1 with fail
  obtain ⟨w0, hw0⟩ : ∃ Y, (W.alloc (.cells #[.int .i64 v, .int .i64 f, fv] 68)).alloc (.cells #[.int .i64 i.op, .int .i64 i.w, .int .i64 i.p, .int .i64 i.a, .int .i64 i.b, .int .i64 i.c, .int .u64 i.n, .int .i64 i.at_] 47) = Y := ⟨_, rfl⟩
  rw [hw0] at N0 N1 bA hsz
  simp only [hw0]
  clear hw0
  have hmk : ∀ X, Bel w0 X → X.cell? ⟨W.heap.size, 0, none⟩ = some (.int .i64 (v : Nat)) ∧ X.cell? ⟨W.heap.size + 1, 0, none⟩ = some (.int .i64 i.op) ∧ X.cell? ⟨W.heap.size + 1, 1, none⟩ = some (.int .i64 i.w) ∧ X.cell? ⟨W.heap.size + 1, 2, none⟩ = some (.int .i64 i.p) ∧ X.cell? ⟨W.heap.size + 1, 3, none⟩ = some (.int .i64 i.a) ∧ X.cell? ⟨W.heap.size + 1, 4, none⟩ = some (.int .i64 i.b) ∧ X.cell? ⟨W.heap.size + 1, 5, none⟩ = some (.int .i64 i.c) ∧ X.cell? ⟨W.heap.size + 1, 6, none⟩ = some (.int .u64 i.n) ∧ X.cell? ⟨W.heap.size + 1, 7, none⟩ = some (.int .i64 i.at_) ∧ Bel w0 X :=
    fun X h => ⟨h.cell (N0.cell 0), h.cell (N1.cell 0), h.cell (N1.cell 1), h.cell (N1.cell 2), h.cell (N1.cell 3), h.cell (N1.cell 4), h.cell (N1.cell 5), h.cell (N1.cell 6), h.cell (N1.cell 7), h⟩
  have hq0 := Bel.refl w0
  replace hsz := Lib.hid hsz
  rcases hvf with ⟨rfl, rfl⟩ | ⟨rfl, rfl⟩ | ⟨rfl, rfl⟩ | ⟨rfl, rfl⟩ | ⟨rfl, rfl⟩ | ⟨rfl, rfl⟩ | ⟨rfl, rfl⟩ | ⟨rfl, rfl⟩ | ⟨rfl, rfl⟩ | ⟨rfl, rfl⟩ | ⟨rfl, rfl⟩
  · go_region_held3 (fun w' => w'.cell? ⟨W.heap.size, 0, none⟩ = some (.int .i64 (2 : Nat)) ∧ w'.cell? ⟨W.heap.size + 1, 0, none⟩ = some (.int .i64 i.op) ∧ w'.cell? ⟨W.heap.size + 1, 1, none⟩ = some (.int .i64 i.w) ∧ w'.cell? ⟨W.heap.size + 1, 2, none⟩ = some (.int .i64 i.p) ∧ w'.cell? ⟨W.heap.size + 1, 3, none⟩ = some (.int .i64 i.a) ∧ w'.cell? ⟨W.heap.size + 1, 4, none⟩ = some (.int .i64 i.b) ∧ w'.cell? ⟨W.heap.size + 1, 5, none⟩ = some (.int .i64 i.c) ∧ w'.cell? ⟨W.heap.size + 1, 6, none⟩ = some (.int .u64 i.n) ∧ w'.cell? ⟨W.heap.size + 1, 7, none⟩ = some (.int .i64 i.at_) ∧ Bel w0 w') ((first | assumption | (refine hmk _ ?_; repeat (first | assumption | exact hq0 | refine Bel.drew ?_)))) (first | (go_at_call 54; refine (valuesOf_any i).mono ?_; rintro e w1 ⟨rfl, B1, b1⟩; have hS1 := (Bel.drew hq0).below b1))
    have B2 : Box w1 (w0.heap.size + 1) 3 (ints [i.a, i.b, i.c]) := B1
    have bW : Below W.heap.size W w1 := bA.trans (Below.mono hS1 bA.size)
    have g1 := hS1.cell (N0.cell 1)
    have m1 := hS1.cell (N1.cell 1)
    have m2 := hS1.cell (N1.cell 2)
    have m6 := hS1.cell (N1.cell 6)
    obtain ⟨l, hl⟩ : ∃ l, Hid ([i.a, i.b, i.c].drop 2 = l) := ⟨_, Lib.hid rfl⟩
    have hlen : l.length = 1 := by rw [← hl.out]; rfl
    have hcl : Hid (∀ (k : Nat) (h : k < l.length), w1.cell? ⟨w0.heap.size + 1, 2 + k, none⟩ = some (.int .i64 l[k])) := Lib.hid (fun k h => by
      have h2 : 2 + k < [i.a, i.b, i.c].length := by simp; omega
      rw [B2.cell, ints_get _ _ h2]
      have h3 : l[k] = [i.a, i.b, i.c][2 + k] := by
        have : l[k]? = ([i.a, i.b, i.c].drop 2)[k]? := by rw [hl.out]
        rw [List.getElem?_drop, List.getElem?_eq_getElem h, List.getElem?_eq_getElem h2] at this
        exact Option.some.inj this
      rw [h3])
    have hno : Hid ((∃ z ∈ l, z ≠ 0) → R = false) := Lib.hid (fun ⟨z, hz, hn⟩ => by rw [← hR.out]; exact B_not (fun h => hn (h.1 z (by rw [hl.out]; exact hz))))
    have hyes : Hid ((∀ z ∈ l, z = 0) → R = ((i.w == 0 || true) && (i.p == 0 || false) && ((i.n : Int) == 0 || false))) := Lib.hid (fun hz => by
      rw [← hR.out]
      refine (B_eq ?_).symm
      unfold OutV
      rw [hl.out, show Nat.testBit 1 0 = true from rfl, show Nat.testBit 1 1 = false from rfl, show Nat.testBit 1 2 = false from rfl]
      have hz2 : (∀ z ∈ l, z = 0) ↔ True := ⟨fun _ => trivial, fun _ => hz⟩
      rw [hz2]
      simp)
    replace hlen := Lib.hid hlen
    clear hmk hq0 B1 B2 b1 hR hS1
    go_wp2_with fail
    go_loop [13] (fun u => ∃ k : Nat, k ≤ 1 ∧ u = .int .i64 k ∧ Hid (ZTo l k)) (fun u => 1 - (intOf u).toNat)
    case atStart => exact ⟨0, Nat.zero_le _, rfl, Lib.hid (fun j _ h => by omega)⟩
    case round =>
      obtain ⟨k, hk, rfl, hI⟩ := hrel
      by_cases hlt : k < 1
      · have hkl : k < l.length := by rw [hlen.out]; exact hlt
        have hc := hcl.out k hkl
        have h1 := Lib.hid (List.getElem_mem hkl)
        have hst : Hid (l[k] = 0 → ZTo l (k + 1)) := Lib.hid (fun hz j hj hjk => by
          by_cases e : j = k
          · subst e; exact hz
          · exact hI.out j hj (by omega))
        obtain ⟨z, hz⟩ : ∃ z, Hid (l[k] = z) := ⟨_, Lib.hid rfl⟩
        rw [hz.out] at hc hst h1
        have hkc : (k : Int) < 1 := by omega
        clear hI
        by_cases e : z = 0
        · have hN := Lib.hid (hst.out e)
          have b0 : (z != 0) = false := by simpa using e
          clear hst e
          go_wp2_with fail
          go_round
          case rel => exact ⟨k + 1, hlt, by go_num, hN⟩
          case measure => simp [intOf]; omega
        · have hQ := Lib.hid (hno.out ⟨z, h1.out, e⟩)
          have b0 : (z != 0) = true := by simpa using e
          clear hst e hno hyes
          go_wp2
          go_ret
          exact ⟨by rw [hQ.out]; rfl, bW⟩
      · have hke : k = 1 := by omega
        subst hke
        have hQ := Lib.hid (hyes.out (by have h := hI.out; rw [← hlen.out] at h; exact h.all))
        clear hI hno hyes hcl
        cases e1 : (i.w == 0) <;> cases e2 : (i.p == 0) <;> cases e3 : ((i.n : Int) == 0)
        all_goals
          rw [e1, e2, e3] at hQ
          go_wp2
          go_ret
          exact ⟨by rw [hQ.out]; rfl, bW⟩
  · go_region_held3 (fun w' => w'.cell? ⟨W.heap.size, 0, none⟩ = some (.int .i64 (0 : Nat)) ∧ w'.cell? ⟨W.heap.size + 1, 0, none⟩ = some (.int .i64 i.op) ∧ w'.cell? ⟨W.heap.size + 1, 1, none⟩ = some (.int .i64 i.w) ∧ w'.cell? ⟨W.heap.size + 1, 2, none⟩ = some (.int .i64 i.p) ∧ w'.cell? ⟨W.heap.size + 1, 3, none⟩ = some (.int .i64 i.a) ∧ w'.cell? ⟨W.heap.size + 1, 4, none⟩ = some (.int .i64 i.b) ∧ w'.cell? ⟨W.heap.size + 1, 5, none⟩ = some (.int .i64 i.c) ∧ w'.cell? ⟨W.heap.size + 1, 6, none⟩ = some (.int .u64 i.n) ∧ w'.cell? ⟨W.heap.size + 1, 7, none⟩ = some (.int .i64 i.at_) ∧ Bel w0 w') ((first | assumption | (refine hmk _ ?_; repeat (first | assumption | exact hq0 | refine Bel.drew ?_)))) (first | (go_at_call 54; refine (valuesOf_any i).mono ?_; rintro e w1 ⟨rfl, B1, b1⟩; have hS1 := (Bel.drew hq0).below b1))
    have B2 : Box w1 (w0.heap.size + 1) 3 (ints [i.a, i.b, i.c]) := B1
    have bW : Below W.heap.size W w1 := bA.trans (Below.mono hS1 bA.size)
    have g1 := hS1.cell (N0.cell 1)
    have m1 := hS1.cell (N1.cell 1)
    have m2 := hS1.cell (N1.cell 2)
    have m6 := hS1.cell (N1.cell 6)
    obtain ⟨l, hl⟩ : ∃ l, Hid ([i.a, i.b, i.c].drop 0 = l) := ⟨_, Lib.hid rfl⟩
    have hlen : l.length = 3 := by rw [← hl.out]; rfl
    have hcl : Hid (∀ (k : Nat) (h : k < l.length), w1.cell? ⟨w0.heap.size + 1, 0 + k, none⟩ = some (.int .i64 l[k])) := Lib.hid (fun k h => by
      have h2 : 0 + k < [i.a, i.b, i.c].length := by simp; omega
      rw [B2.cell, ints_get _ _ h2]
      have h3 : l[k] = [i.a, i.b, i.c][0 + k] := by
        have : l[k]? = ([i.a, i.b, i.c].drop 0)[k]? := by rw [hl.out]
        rw [List.getElem?_drop, List.getElem?_eq_getElem h, List.getElem?_eq_getElem h2] at this
        exact Option.some.inj this
      rw [h3])
    have hno : Hid ((∃ z ∈ l, z ≠ 0) → R = false) := Lib.hid (fun ⟨z, hz, hn⟩ => by rw [← hR.out]; exact B_not (fun h => hn (h.1 z (by rw [hl.out]; exact hz))))
    have hyes : Hid ((∀ z ∈ l, z = 0) → R = ((i.w == 0 || true) && (i.p == 0 || false) && ((i.n : Int) == 0 || true))) := Lib.hid (fun hz => by
      rw [← hR.out]
      refine (B_eq ?_).symm
      unfold OutV
      rw [hl.out, show Nat.testBit 5 0 = true from rfl, show Nat.testBit 5 1 = false from rfl, show Nat.testBit 5 2 = true from rfl]
      have hz2 : (∀ z ∈ l, z = 0) ↔ True := ⟨fun _ => trivial, fun _ => hz⟩
      rw [hz2]
      simp)
    replace hlen := Lib.hid hlen
    clear hmk hq0 B1 B2 b1 hR hS1
    go_wp2_with fail
    go_loop [13] (fun u => ∃ k : Nat, k ≤ 3 ∧ u = .int .i64 k ∧ Hid (ZTo l k)) (fun u => 3 - (intOf u).toNat)
    case atStart => exact ⟨0, Nat.zero_le _, rfl, Lib.hid (fun j _ h => by omega)⟩
    case round =>
      obtain ⟨k, hk, rfl, hI⟩ := hrel
      by_cases hlt : k < 3
      · have hkl : k < l.length := by rw [hlen.out]; exact hlt
        have hc := hcl.out k hkl
        rw [Nat.zero_add] at hc
        have h1 := Lib.hid (List.getElem_mem hkl)
        have hst : Hid (l[k] = 0 → ZTo l (k + 1)) := Lib.hid (fun hz j hj hjk => by
          by_cases e : j = k
          · subst e; exact hz
          · exact hI.out j hj (by omega))
        obtain ⟨z, hz⟩ : ∃ z, Hid (l[k] = z) := ⟨_, Lib.hid rfl⟩
        rw [hz.out] at hc hst h1
        have hkc : (k : Int) < 3 := by omega
        clear hI
        by_cases e : z = 0
        · have hN := Lib.hid (hst.out e)
          have b0 : (z != 0) = false := by simpa using e
          clear hst e
          go_wp2_with fail
          go_round
          case rel => exact ⟨k + 1, hlt, by go_num, hN⟩
          case measure => simp [intOf]; omega
        · have hQ := Lib.hid (hno.out ⟨z, h1.out, e⟩)
          have b0 : (z != 0) = true := by simpa using e
          clear hst e hno hyes
          go_wp2
          go_ret
          exact ⟨by rw [hQ.out]; rfl, bW⟩
      · have hke : k = 3 := by omega
        subst hke
        have hQ := Lib.hid (hyes.out (by have h := hI.out; rw [← hlen.out] at h; exact h.all))
        clear hI hno hyes hcl
        cases e1 : (i.w == 0) <;> cases e2 : (i.p == 0) <;> cases e3 : ((i.n : Int) == 0)
        all_goals
          rw [e1, e2, e3] at hQ
          go_wp2
          go_ret
          exact ⟨by rw [hQ.out]; rfl, bW⟩
  · go_region_held3 (fun w' => w'.cell? ⟨W.heap.size, 0, none⟩ = some (.int .i64 (1 : Nat)) ∧ w'.cell? ⟨W.heap.size + 1, 0, none⟩ = some (.int .i64 i.op) ∧ w'.cell? ⟨W.heap.size + 1, 1, none⟩ = some (.int .i64 i.w) ∧ w'.cell? ⟨W.heap.size + 1, 2, none⟩ = some (.int .i64 i.p) ∧ w'.cell? ⟨W.heap.size + 1, 3, none⟩ = some (.int .i64 i.a) ∧ w'.cell? ⟨W.heap.size + 1, 4, none⟩ = some (.int .i64 i.b) ∧ w'.cell? ⟨W.heap.size + 1, 5, none⟩ = some (.int .i64 i.c) ∧ w'.cell? ⟨W.heap.size + 1, 6, none⟩ = some (.int .u64 i.n) ∧ w'.cell? ⟨W.heap.size + 1, 7, none⟩ = some (.int .i64 i.at_) ∧ Bel w0 w') ((first | assumption | (refine hmk _ ?_; repeat (first | assumption | exact hq0 | refine Bel.drew ?_)))) (first | (go_at_call 54; refine (valuesOf_any i).mono ?_; rintro e w1 ⟨rfl, B1, b1⟩; have hS1 := (Bel.drew hq0).below b1))
    have B2 : Box w1 (w0.heap.size + 1) 3 (ints [i.a, i.b, i.c]) := B1
    have bW : Below W.heap.size W w1 := bA.trans (Below.mono hS1 bA.size)
    have g1 := hS1.cell (N0.cell 1)
    have m1 := hS1.cell (N1.cell 1)
    have m2 := hS1.cell (N1.cell 2)
    have m6 := hS1.cell (N1.cell 6)
    obtain ⟨l, hl⟩ : ∃ l, Hid ([i.a, i.b, i.c].drop 1 = l) := ⟨_, Lib.hid rfl⟩
    have hlen : l.length = 2 := by rw [← hl.out]; rfl
    have hcl : Hid (∀ (k : Nat) (h : k < l.length), w1.cell? ⟨w0.heap.size + 1, 1 + k, none⟩ = some (.int .i64 l[k])) := Lib.hid (fun k h => by
      have h2 : 1 + k < [i.a, i.b, i.c].length := by simp; omega
      rw [B2.cell, ints_get _ _ h2]
      have h3 : l[k] = [i.a, i.b, i.c][1 + k] := by
        have : l[k]? = ([i.a, i.b, i.c].drop 1)[k]? := by rw [hl.out]
        rw [List.getElem?_drop, List.getElem?_eq_getElem h, List.getElem?_eq_getElem h2] at this
        exact Option.some.inj this
      rw [h3])
    have hno : Hid ((∃ z ∈ l, z ≠ 0) → R = false) := Lib.hid (fun ⟨z, hz, hn⟩ => by rw [← hR.out]; exact B_not (fun h => hn (h.1 z (by rw [hl.out]; exact hz))))
    have hyes : Hid ((∀ z ∈ l, z = 0) → R = ((i.w == 0 || true) && (i.p == 0 || false) && ((i.n : Int) == 0 || false))) := Lib.hid (fun hz => by
      rw [← hR.out]
      refine (B_eq ?_).symm
      unfold OutV
      rw [hl.out, show Nat.testBit 1 0 = true from rfl, show Nat.testBit 1 1 = false from rfl, show Nat.testBit 1 2 = false from rfl]
      have hz2 : (∀ z ∈ l, z = 0) ↔ True := ⟨fun _ => trivial, fun _ => hz⟩
      rw [hz2]
      simp)
    replace hlen := Lib.hid hlen
    clear hmk hq0 B1 B2 b1 hR hS1
    go_wp2_with fail
    go_loop [13] (fun u => ∃ k : Nat, k ≤ 2 ∧ u = .int .i64 k ∧ Hid (ZTo l k)) (fun u => 2 - (intOf u).toNat)
    case atStart => exact ⟨0, Nat.zero_le _, rfl, Lib.hid (fun j _ h => by omega)⟩
    case round =>
      obtain ⟨k, hk, rfl, hI⟩ := hrel
      by_cases hlt : k < 2
      · have hkl : k < l.length := by rw [hlen.out]; exact hlt
        have hc := hcl.out k hkl
        have h1 := Lib.hid (List.getElem_mem hkl)
        have hst : Hid (l[k] = 0 → ZTo l (k + 1)) := Lib.hid (fun hz j hj hjk => by
          by_cases e : j = k
          · subst e; exact hz
          · exact hI.out j hj (by omega))
        obtain ⟨z, hz⟩ : ∃ z, Hid (l[k] = z) := ⟨_, Lib.hid rfl⟩
        rw [hz.out] at hc hst h1
        have hkc : (k : Int) < 2 := by omega
        clear hI
        by_cases e : z = 0
        · have hN := Lib.hid (hst.out e)
          have b0 : (z != 0) = false := by simpa using e
          clear hst e
          go_wp2_with fail
          go_round
          case rel => exact ⟨k + 1, hlt, by go_num, hN⟩
          case measure => simp [intOf]; omega
        · have hQ := Lib.hid (hno.out ⟨z, h1.out, e⟩)
          have b0 : (z != 0) = true := by simpa using e
          clear hst e hno hyes
          go_wp2
          go_ret
          exact ⟨by rw [hQ.out]; rfl, bW⟩
      · have hke : k = 2 := by omega
        subst hke
        have hQ := Lib.hid (hyes.out (by have h := hI.out; rw [← hlen.out] at h; exact h.all))
        clear hI hno hyes hcl
        cases e1 : (i.w == 0) <;> cases e2 : (i.p == 0) <;> cases e3 : ((i.n : Int) == 0)
        all_goals
          rw [e1, e2, e3] at hQ
          go_wp2
          go_ret
          exact ⟨by rw [hQ.out]; rfl, bW⟩
  · go_region_held3 (fun w' => w'.cell? ⟨W.heap.size, 0, none⟩ = some (.int .i64 (1 : Nat)) ∧ w'.cell? ⟨W.heap.size + 1, 0, none⟩ = some (.int .i64 i.op) ∧ w'.cell? ⟨W.heap.size + 1, 1, none⟩ = some (.int .i64 i.w) ∧ w'.cell? ⟨W.heap.size + 1, 2, none⟩ = some (.int .i64 i.p) ∧ w'.cell? ⟨W.heap.size + 1, 3, none⟩ = some (.int .i64 i.a) ∧ w'.cell? ⟨W.heap.size + 1, 4, none⟩ = some (.int .i64 i.b) ∧ w'.cell? ⟨W.heap.size + 1, 5, none⟩ = some (.int .i64 i.c) ∧ w'.cell? ⟨W.heap.size + 1, 6, none⟩ = some (.int .u64 i.n) ∧ w'.cell? ⟨W.heap.size + 1, 7, none⟩ = some (.int .i64 i.at_) ∧ Bel w0 w') ((first | assumption | (refine hmk _ ?_; repeat (first | assumption | exact hq0 | refine Bel.drew ?_)))) (first | (go_at_call 54; refine (valuesOf_any i).mono ?_; rintro e w1 ⟨rfl, B1, b1⟩; have hS1 := (Bel.drew hq0).below b1))
    have B2 : Box w1 (w0.heap.size + 1) 3 (ints [i.a, i.b, i.c]) := B1
    have bW : Below W.heap.size W w1 := bA.trans (Below.mono hS1 bA.size)
    have g1 := hS1.cell (N0.cell 1)
    have m1 := hS1.cell (N1.cell 1)
    have m2 := hS1.cell (N1.cell 2)
    have m6 := hS1.cell (N1.cell 6)
    obtain ⟨l, hl⟩ : ∃ l, Hid ([i.a, i.b, i.c].drop 1 = l) := ⟨_, Lib.hid rfl⟩
    have hlen : l.length = 2 := by rw [← hl.out]; rfl
    have hcl : Hid (∀ (k : Nat) (h : k < l.length), w1.cell? ⟨w0.heap.size + 1, 1 + k, none⟩ = some (.int .i64 l[k])) := Lib.hid (fun k h => by
      have h2 : 1 + k < [i.a, i.b, i.c].length := by simp; omega
      rw [B2.cell, ints_get _ _ h2]
      have h3 : l[k] = [i.a, i.b, i.c][1 + k] := by
        have : l[k]? = ([i.a, i.b, i.c].drop 1)[k]? := by rw [hl.out]
        rw [List.getElem?_drop, List.getElem?_eq_getElem h, List.getElem?_eq_getElem h2] at this
        exact Option.some.inj this
      rw [h3])
    have hno : Hid ((∃ z ∈ l, z ≠ 0) → R = false) := Lib.hid (fun ⟨z, hz, hn⟩ => by rw [← hR.out]; exact B_not (fun h => hn (h.1 z (by rw [hl.out]; exact hz))))
    have hyes : Hid ((∀ z ∈ l, z = 0) → R = ((i.w == 0 || true) && (i.p == 0 || false) && ((i.n : Int) == 0 || true))) := Lib.hid (fun hz => by
      rw [← hR.out]
      refine (B_eq ?_).symm
      unfold OutV
      rw [hl.out, show Nat.testBit 5 0 = true from rfl, show Nat.testBit 5 1 = false from rfl, show Nat.testBit 5 2 = true from rfl]
      have hz2 : (∀ z ∈ l, z = 0) ↔ True := ⟨fun _ => trivial, fun _ => hz⟩
      rw [hz2]
      simp)
    replace hlen := Lib.hid hlen
    clear hmk hq0 B1 B2 b1 hR hS1
    go_wp2_with fail
    go_loop [13] (fun u => ∃ k : Nat, k ≤ 2 ∧ u = .int .i64 k ∧ Hid (ZTo l k)) (fun u => 2 - (intOf u).toNat)
    case atStart => exact ⟨0, Nat.zero_le _, rfl, Lib.hid (fun j _ h => by omega)⟩
    case round =>
      obtain ⟨k, hk, rfl, hI⟩ := hrel
      by_cases hlt : k < 2
      · have hkl : k < l.length := by rw [hlen.out]; exact hlt
        have hc := hcl.out k hkl
        have h1 := Lib.hid (List.getElem_mem hkl)
        have hst : Hid (l[k] = 0 → ZTo l (k + 1)) := Lib.hid (fun hz j hj hjk => by
          by_cases e : j = k
          · subst e; exact hz
          · exact hI.out j hj (by omega))
        obtain ⟨z, hz⟩ : ∃ z, Hid (l[k] = z) := ⟨_, Lib.hid rfl⟩
        rw [hz.out] at hc hst h1
        have hkc : (k : Int) < 2 := by omega
        clear hI
        by_cases e : z = 0
        · have hN := Lib.hid (hst.out e)
          have b0 : (z != 0) = false := by simpa using e
          clear hst e
          go_wp2_with fail
          go_round
          case rel => exact ⟨k + 1, hlt, by go_num, hN⟩
          case measure => simp [intOf]; omega
        · have hQ := Lib.hid (hno.out ⟨z, h1.out, e⟩)
          have b0 : (z != 0) = true := by simpa using e
          clear hst e hno hyes
          go_wp2
          go_ret
          exact ⟨by rw [hQ.out]; rfl, bW⟩
      · have hke : k = 2 := by omega
        subst hke
        have hQ := Lib.hid (hyes.out (by have h := hI.out; rw [← hlen.out] at h; exact h.all))
        clear hI hno hyes hcl
        cases e1 : (i.w == 0) <;> cases e2 : (i.p == 0) <;> cases e3 : ((i.n : Int) == 0)
        all_goals
          rw [e1, e2, e3] at hQ
          go_wp2
          go_ret
          exact ⟨by rw [hQ.out]; rfl, bW⟩
  · go_region_held3 (fun w' => w'.cell? ⟨W.heap.size, 0, none⟩ = some (.int .i64 (0 : Nat)) ∧ w'.cell? ⟨W.heap.size + 1, 0, none⟩ = some (.int .i64 i.op) ∧ w'.cell? ⟨W.heap.size + 1, 1, none⟩ = some (.int .i64 i.w) ∧ w'.cell? ⟨W.heap.size + 1, 2, none⟩ = some (.int .i64 i.p) ∧ w'.cell? ⟨W.heap.size + 1, 3, none⟩ = some (.int .i64 i.a) ∧ w'.cell? ⟨W.heap.size + 1, 4, none⟩ = some (.int .i64 i.b) ∧ w'.cell? ⟨W.heap.size + 1, 5, none⟩ = some (.int .i64 i.c) ∧ w'.cell? ⟨W.heap.size + 1, 6, none⟩ = some (.int .u64 i.n) ∧ w'.cell? ⟨W.heap.size + 1, 7, none⟩ = some (.int .i64 i.at_) ∧ Bel w0 w') ((first | assumption | (refine hmk _ ?_; repeat (first | assumption | exact hq0 | refine Bel.drew ?_)))) (first | (go_at_call 54; refine (valuesOf_any i).mono ?_; rintro e w1 ⟨rfl, B1, b1⟩; have hS1 := (Bel.drew hq0).below b1))
    have B2 : Box w1 (w0.heap.size + 1) 3 (ints [i.a, i.b, i.c]) := B1
    have bW : Below W.heap.size W w1 := bA.trans (Below.mono hS1 bA.size)
    have g1 := hS1.cell (N0.cell 1)
    have m1 := hS1.cell (N1.cell 1)
    have m2 := hS1.cell (N1.cell 2)
    have m6 := hS1.cell (N1.cell 6)
    obtain ⟨l, hl⟩ : ∃ l, Hid ([i.a, i.b, i.c].drop 0 = l) := ⟨_, Lib.hid rfl⟩
    have hlen : l.length = 3 := by rw [← hl.out]; rfl
    have hcl : Hid (∀ (k : Nat) (h : k < l.length), w1.cell? ⟨w0.heap.size + 1, 0 + k, none⟩ = some (.int .i64 l[k])) := Lib.hid (fun k h => by
      have h2 : 0 + k < [i.a, i.b, i.c].length := by simp; omega
      rw [B2.cell, ints_get _ _ h2]
      have h3 : l[k] = [i.a, i.b, i.c][0 + k] := by
        have : l[k]? = ([i.a, i.b, i.c].drop 0)[k]? := by rw [hl.out]
        rw [List.getElem?_drop, List.getElem?_eq_getElem h, List.getElem?_eq_getElem h2] at this
        exact Option.some.inj this
      rw [h3])
    have hno : Hid ((∃ z ∈ l, z ≠ 0) → R = false) := Lib.hid (fun ⟨z, hz, hn⟩ => by rw [← hR.out]; exact B_not (fun h => hn (h.1 z (by rw [hl.out]; exact hz))))
    have hyes : Hid ((∀ z ∈ l, z = 0) → R = ((i.w == 0 || true) && (i.p == 0 || false) && ((i.n : Int) == 0 || false))) := Lib.hid (fun hz => by
      rw [← hR.out]
      refine (B_eq ?_).symm
      unfold OutV
      rw [hl.out, show Nat.testBit 1 0 = true from rfl, show Nat.testBit 1 1 = false from rfl, show Nat.testBit 1 2 = false from rfl]
      have hz2 : (∀ z ∈ l, z = 0) ↔ True := ⟨fun _ => trivial, fun _ => hz⟩
      rw [hz2]
      simp)
    replace hlen := Lib.hid hlen
    clear hmk hq0 B1 B2 b1 hR hS1
    go_wp2_with fail
    go_loop [13] (fun u => ∃ k : Nat, k ≤ 3 ∧ u = .int .i64 k ∧ Hid (ZTo l k)) (fun u => 3 - (intOf u).toNat)
    case atStart => exact ⟨0, Nat.zero_le _, rfl, Lib.hid (fun j _ h => by omega)⟩
    case round =>
      obtain ⟨k, hk, rfl, hI⟩ := hrel
      by_cases hlt : k < 3
      · have hkl : k < l.length := by rw [hlen.out]; exact hlt
        have hc := hcl.out k hkl
        rw [Nat.zero_add] at hc
        have h1 := Lib.hid (List.getElem_mem hkl)
        have hst : Hid (l[k] = 0 → ZTo l (k + 1)) := Lib.hid (fun hz j hj hjk => by
          by_cases e : j = k
          · subst e; exact hz
          · exact hI.out j hj (by omega))
        obtain ⟨z, hz⟩ : ∃ z, Hid (l[k] = z) := ⟨_, Lib.hid rfl⟩
        rw [hz.out] at hc hst h1
        have hkc : (k : Int) < 3 := by omega
        clear hI
        by_cases e : z = 0
        · have hN := Lib.hid (hst.out e)
          have b0 : (z != 0) = false := by simpa using e
          clear hst e
          go_wp2_with fail
          go_round
          case rel => exact ⟨k + 1, hlt, by go_num, hN⟩
          case measure => simp [intOf]; omega
        · have hQ := Lib.hid (hno.out ⟨z, h1.out, e⟩)
          have b0 : (z != 0) = true := by simpa using e
          clear hst e hno hyes
          go_wp2
          go_ret
          exact ⟨by rw [hQ.out]; rfl, bW⟩
      · have hke : k = 3 := by omega
        subst hke
        have hQ := Lib.hid (hyes.out (by have h := hI.out; rw [← hlen.out] at h; exact h.all))
        clear hI hno hyes hcl
        cases e1 : (i.w == 0) <;> cases e2 : (i.p == 0) <;> cases e3 : ((i.n : Int) == 0)
        all_goals
          rw [e1, e2, e3] at hQ
          go_wp2
          go_ret
          exact ⟨by rw [hQ.out]; rfl, bW⟩
  · go_region_held3 (fun w' => w'.cell? ⟨W.heap.size, 0, none⟩ = some (.int .i64 (0 : Nat)) ∧ w'.cell? ⟨W.heap.size + 1, 0, none⟩ = some (.int .i64 i.op) ∧ w'.cell? ⟨W.heap.size + 1, 1, none⟩ = some (.int .i64 i.w) ∧ w'.cell? ⟨W.heap.size + 1, 2, none⟩ = some (.int .i64 i.p) ∧ w'.cell? ⟨W.heap.size + 1, 3, none⟩ = some (.int .i64 i.a) ∧ w'.cell? ⟨W.heap.size + 1, 4, none⟩ = some (.int .i64 i.b) ∧ w'.cell? ⟨W.heap.size + 1, 5, none⟩ = some (.int .i64 i.c) ∧ w'.cell? ⟨W.heap.size + 1, 6, none⟩ = some (.int .u64 i.n) ∧ w'.cell? ⟨W.heap.size + 1, 7, none⟩ = some (.int .i64 i.at_) ∧ Bel w0 w') ((first | assumption | (refine hmk _ ?_; repeat (first | assumption | exact hq0 | refine Bel.drew ?_)))) (first | (go_at_call 54; refine (valuesOf_any i).mono ?_; rintro e w1 ⟨rfl, B1, b1⟩; have hS1 := (Bel.drew hq0).below b1))
    have B2 : Box w1 (w0.heap.size + 1) 3 (ints [i.a, i.b, i.c]) := B1
    have bW : Below W.heap.size W w1 := bA.trans (Below.mono hS1 bA.size)
    have g1 := hS1.cell (N0.cell 1)
    have m1 := hS1.cell (N1.cell 1)
    have m2 := hS1.cell (N1.cell 2)
    have m6 := hS1.cell (N1.cell 6)
    obtain ⟨l, hl⟩ : ∃ l, Hid ([i.a, i.b, i.c].drop 0 = l) := ⟨_, Lib.hid rfl⟩
    have hlen : l.length = 3 := by rw [← hl.out]; rfl
    have hcl : Hid (∀ (k : Nat) (h : k < l.length), w1.cell? ⟨w0.heap.size + 1, 0 + k, none⟩ = some (.int .i64 l[k])) := Lib.hid (fun k h => by
      have h2 : 0 + k < [i.a, i.b, i.c].length := by simp; omega
      rw [B2.cell, ints_get _ _ h2]
      have h3 : l[k] = [i.a, i.b, i.c][0 + k] := by
        have : l[k]? = ([i.a, i.b, i.c].drop 0)[k]? := by rw [hl.out]
        rw [List.getElem?_drop, List.getElem?_eq_getElem h, List.getElem?_eq_getElem h2] at this
        exact Option.some.inj this
      rw [h3])
    have hno : Hid ((∃ z ∈ l, z ≠ 0) → R = false) := Lib.hid (fun ⟨z, hz, hn⟩ => by rw [← hR.out]; exact B_not (fun h => hn (h.1 z (by rw [hl.out]; exact hz))))
    have hyes : Hid ((∀ z ∈ l, z = 0) → R = ((i.w == 0 || true) && (i.p == 0 || true) && ((i.n : Int) == 0 || false))) := Lib.hid (fun hz => by
      rw [← hR.out]
      refine (B_eq ?_).symm
      unfold OutV
      rw [hl.out, show Nat.testBit 3 0 = true from rfl, show Nat.testBit 3 1 = true from rfl, show Nat.testBit 3 2 = false from rfl]
      have hz2 : (∀ z ∈ l, z = 0) ↔ True := ⟨fun _ => trivial, fun _ => hz⟩
      rw [hz2]
      simp)
    replace hlen := Lib.hid hlen
    clear hmk hq0 B1 B2 b1 hR hS1
    go_wp2_with fail
    go_loop [13] (fun u => ∃ k : Nat, k ≤ 3 ∧ u = .int .i64 k ∧ Hid (ZTo l k)) (fun u => 3 - (intOf u).toNat)
    case atStart => exact ⟨0, Nat.zero_le _, rfl, Lib.hid (fun j _ h => by omega)⟩
    case round =>
      obtain ⟨k, hk, rfl, hI⟩ := hrel
      by_cases hlt : k < 3
      · have hkl : k < l.length := by rw [hlen.out]; exact hlt
        have hc := hcl.out k hkl
        rw [Nat.zero_add] at hc
        have h1 := Lib.hid (List.getElem_mem hkl)
        have hst : Hid (l[k] = 0 → ZTo l (k + 1)) := Lib.hid (fun hz j hj hjk => by
          by_cases e : j = k
          · subst e; exact hz
          · exact hI.out j hj (by omega))
        obtain ⟨z, hz⟩ : ∃ z, Hid (l[k] = z) := ⟨_, Lib.hid rfl⟩
        rw [hz.out] at hc hst h1
        have hkc : (k : Int) < 3 := by omega
        clear hI
        by_cases e : z = 0
        · have hN := Lib.hid (hst.out e)
          have b0 : (z != 0) = false := by simpa using e
          clear hst e
          go_wp2_with fail
          go_round
          case rel => exact ⟨k + 1, hlt, by go_num, hN⟩
          case measure => simp [intOf]; omega
        · have hQ := Lib.hid (hno.out ⟨z, h1.out, e⟩)
          have b0 : (z != 0) = true := by simpa using e
          clear hst e hno hyes
          go_wp2
          go_ret
          exact ⟨by rw [hQ.out]; rfl, bW⟩
      · have hke : k = 3 := by omega
        subst hke
        have hQ := Lib.hid (hyes.out (by have h := hI.out; rw [← hlen.out] at h; exact h.all))
        clear hI hno hyes hcl
        cases e1 : (i.w == 0) <;> cases e2 : (i.p == 0) <;> cases e3 : ((i.n : Int) == 0)
        all_goals
          rw [e1, e2, e3] at hQ
          go_wp2
          go_ret
          exact ⟨by rw [hQ.out]; rfl, bW⟩
  · go_region_held3 (fun w' => w'.cell? ⟨W.heap.size, 0, none⟩ = some (.int .i64 (1 : Nat)) ∧ w'.cell? ⟨W.heap.size + 1, 0, none⟩ = some (.int .i64 i.op) ∧ w'.cell? ⟨W.heap.size + 1, 1, none⟩ = some (.int .i64 i.w) ∧ w'.cell? ⟨W.heap.size + 1, 2, none⟩ = some (.int .i64 i.p) ∧ w'.cell? ⟨W.heap.size + 1, 3, none⟩ = some (.int .i64 i.a) ∧ w'.cell? ⟨W.heap.size + 1, 4, none⟩ = some (.int .i64 i.b) ∧ w'.cell? ⟨W.heap.size + 1, 5, none⟩ = some (.int .i64 i.c) ∧ w'.cell? ⟨W.heap.size + 1, 6, none⟩ = some (.int .u64 i.n) ∧ w'.cell? ⟨W.heap.size + 1, 7, none⟩ = some (.int .i64 i.at_) ∧ Bel w0 w') ((first | assumption | (refine hmk _ ?_; repeat (first | assumption | exact hq0 | refine Bel.drew ?_)))) (first | (go_at_call 54; refine (valuesOf_any i).mono ?_; rintro e w1 ⟨rfl, B1, b1⟩; have hS1 := (Bel.drew hq0).below b1))
    have B2 : Box w1 (w0.heap.size + 1) 3 (ints [i.a, i.b, i.c]) := B1
    have bW : Below W.heap.size W w1 := bA.trans (Below.mono hS1 bA.size)
    have g1 := hS1.cell (N0.cell 1)
    have m1 := hS1.cell (N1.cell 1)
    have m2 := hS1.cell (N1.cell 2)
    have m6 := hS1.cell (N1.cell 6)
    obtain ⟨l, hl⟩ : ∃ l, Hid ([i.a, i.b, i.c].drop 1 = l) := ⟨_, Lib.hid rfl⟩
    have hlen : l.length = 2 := by rw [← hl.out]; rfl
    have hcl : Hid (∀ (k : Nat) (h : k < l.length), w1.cell? ⟨w0.heap.size + 1, 1 + k, none⟩ = some (.int .i64 l[k])) := Lib.hid (fun k h => by
      have h2 : 1 + k < [i.a, i.b, i.c].length := by simp; omega
      rw [B2.cell, ints_get _ _ h2]
      have h3 : l[k] = [i.a, i.b, i.c][1 + k] := by
        have : l[k]? = ([i.a, i.b, i.c].drop 1)[k]? := by rw [hl.out]
        rw [List.getElem?_drop, List.getElem?_eq_getElem h, List.getElem?_eq_getElem h2] at this
        exact Option.some.inj this
      rw [h3])
    have hno : Hid ((∃ z ∈ l, z ≠ 0) → R = false) := Lib.hid (fun ⟨z, hz, hn⟩ => by rw [← hR.out]; exact B_not (fun h => hn (h.1 z (by rw [hl.out]; exact hz))))
    have hyes : Hid ((∀ z ∈ l, z = 0) → R = ((i.w == 0 || false) && (i.p == 0 || true) && ((i.n : Int) == 0 || true))) := Lib.hid (fun hz => by
      rw [← hR.out]
      refine (B_eq ?_).symm
      unfold OutV
      rw [hl.out, show Nat.testBit 6 0 = false from rfl, show Nat.testBit 6 1 = true from rfl, show Nat.testBit 6 2 = true from rfl]
      have hz2 : (∀ z ∈ l, z = 0) ↔ True := ⟨fun _ => trivial, fun _ => hz⟩
      rw [hz2]
      simp)
    replace hlen := Lib.hid hlen
    clear hmk hq0 B1 B2 b1 hR hS1
    go_wp2_with fail
    go_loop [13] (fun u => ∃ k : Nat, k ≤ 2 ∧ u = .int .i64 k ∧ Hid (ZTo l k)) (fun u => 2 - (intOf u).toNat)
    case atStart => exact ⟨0, Nat.zero_le _, rfl, Lib.hid (fun j _ h => by omega)⟩
    case round =>
      obtain ⟨k, hk, rfl, hI⟩ := hrel
      by_cases hlt : k < 2
      · have hkl : k < l.length := by rw [hlen.out]; exact hlt
        have hc := hcl.out k hkl
        have h1 := Lib.hid (List.getElem_mem hkl)
        have hst : Hid (l[k] = 0 → ZTo l (k + 1)) := Lib.hid (fun hz j hj hjk => by
          by_cases e : j = k
          · subst e; exact hz
          · exact hI.out j hj (by omega))
        obtain ⟨z, hz⟩ : ∃ z, Hid (l[k] = z) := ⟨_, Lib.hid rfl⟩
        rw [hz.out] at hc hst h1
        have hkc : (k : Int) < 2 := by omega
        clear hI
        by_cases e : z = 0
        · have hN := Lib.hid (hst.out e)
          have b0 : (z != 0) = false := by simpa using e
          clear hst e
          go_wp2_with fail
          go_round
          case rel => exact ⟨k + 1, hlt, by go_num, hN⟩
          case measure => simp [intOf]; omega
        · have hQ := Lib.hid (hno.out ⟨z, h1.out, e⟩)
          have b0 : (z != 0) = true := by simpa using e
          clear hst e hno hyes
          go_wp2
          go_ret
          exact ⟨by rw [hQ.out]; rfl, bW⟩
      · have hke : k = 2 := by omega
        subst hke
        have hQ := Lib.hid (hyes.out (by have h := hI.out; rw [← hlen.out] at h; exact h.all))
        clear hI hno hyes hcl
        cases e1 : (i.w == 0) <;> cases e2 : (i.p == 0) <;> cases e3 : ((i.n : Int) == 0)
        all_goals
          rw [e1, e2, e3] at hQ
          go_wp2
          go_ret
          exact ⟨by rw [hQ.out]; rfl, bW⟩
  · go_region_held3 (fun w' => w'.cell? ⟨W.heap.size, 0, none⟩ = some (.int .i64 (0 : Nat)) ∧ w'.cell? ⟨W.heap.size + 1, 0, none⟩ = some (.int .i64 i.op) ∧ w'.cell? ⟨W.heap.size + 1, 1, none⟩ = some (.int .i64 i.w) ∧ w'.cell? ⟨W.heap.size + 1, 2, none⟩ = some (.int .i64 i.p) ∧ w'.cell? ⟨W.heap.size + 1, 3, none⟩ = some (.int .i64 i.a) ∧ w'.cell? ⟨W.heap.size + 1, 4, none⟩ = some (.int .i64 i.b) ∧ w'.cell? ⟨W.heap.size + 1, 5, none⟩ = some (.int .i64 i.c) ∧ w'.cell? ⟨W.heap.size + 1, 6, none⟩ = some (.int .u64 i.n) ∧ w'.cell? ⟨W.heap.size + 1, 7, none⟩ = some (.int .i64 i.at_) ∧ Bel w0 w') ((first | assumption | (refine hmk _ ?_; repeat (first | assumption | exact hq0 | refine Bel.drew ?_)))) (first | (go_at_call 54; refine (valuesOf_any i).mono ?_; rintro e w1 ⟨rfl, B1, b1⟩; have hS1 := (Bel.drew hq0).below b1))
    have B2 : Box w1 (w0.heap.size + 1) 3 (ints [i.a, i.b, i.c]) := B1
    have bW : Below W.heap.size W w1 := bA.trans (Below.mono hS1 bA.size)
    have g1 := hS1.cell (N0.cell 1)
    have m1 := hS1.cell (N1.cell 1)
    have m2 := hS1.cell (N1.cell 2)
    have m6 := hS1.cell (N1.cell 6)
    obtain ⟨l, hl⟩ : ∃ l, Hid ([i.a, i.b, i.c].drop 0 = l) := ⟨_, Lib.hid rfl⟩
    have hlen : l.length = 3 := by rw [← hl.out]; rfl
    have hcl : Hid (∀ (k : Nat) (h : k < l.length), w1.cell? ⟨w0.heap.size + 1, 0 + k, none⟩ = some (.int .i64 l[k])) := Lib.hid (fun k h => by
      have h2 : 0 + k < [i.a, i.b, i.c].length := by simp; omega
      rw [B2.cell, ints_get _ _ h2]
      have h3 : l[k] = [i.a, i.b, i.c][0 + k] := by
        have : l[k]? = ([i.a, i.b, i.c].drop 0)[k]? := by rw [hl.out]
        rw [List.getElem?_drop, List.getElem?_eq_getElem h, List.getElem?_eq_getElem h2] at this
        exact Option.some.inj this
      rw [h3])
    have hno : Hid ((∃ z ∈ l, z ≠ 0) → R = false) := Lib.hid (fun ⟨z, hz, hn⟩ => by rw [← hR.out]; exact B_not (fun h => hn (h.1 z (by rw [hl.out]; exact hz))))
    have hyes : Hid ((∀ z ∈ l, z = 0) → R = ((i.w == 0 || false) && (i.p == 0 || true) && ((i.n : Int) == 0 || true))) := Lib.hid (fun hz => by
      rw [← hR.out]
      refine (B_eq ?_).symm
      unfold OutV
      rw [hl.out, show Nat.testBit 6 0 = false from rfl, show Nat.testBit 6 1 = true from rfl, show Nat.testBit 6 2 = true from rfl]
      have hz2 : (∀ z ∈ l, z = 0) ↔ True := ⟨fun _ => trivial, fun _ => hz⟩
      rw [hz2]
      simp)
    replace hlen := Lib.hid hlen
    clear hmk hq0 B1 B2 b1 hR hS1
    go_wp2_with fail
    go_loop [13] (fun u => ∃ k : Nat, k ≤ 3 ∧ u = .int .i64 k ∧ Hid (ZTo l k)) (fun u => 3 - (intOf u).toNat)
    case atStart => exact ⟨0, Nat.zero_le _, rfl, Lib.hid (fun j _ h => by omega)⟩
    case round =>
      obtain ⟨k, hk, rfl, hI⟩ := hrel
      by_cases hlt : k < 3
      · have hkl : k < l.length := by rw [hlen.out]; exact hlt
        have hc := hcl.out k hkl
        rw [Nat.zero_add] at hc
        have h1 := Lib.hid (List.getElem_mem hkl)
        have hst : Hid (l[k] = 0 → ZTo l (k + 1)) := Lib.hid (fun hz j hj hjk => by
          by_cases e : j = k
          · subst e; exact hz
          · exact hI.out j hj (by omega))
        obtain ⟨z, hz⟩ : ∃ z, Hid (l[k] = z) := ⟨_, Lib.hid rfl⟩
        rw [hz.out] at hc hst h1
        have hkc : (k : Int) < 3 := by omega
        clear hI
        by_cases e : z = 0
        · have hN := Lib.hid (hst.out e)
          have b0 : (z != 0) = false := by simpa using e
          clear hst e
          go_wp2_with fail
          go_round
          case rel => exact ⟨k + 1, hlt, by go_num, hN⟩
          case measure => simp [intOf]; omega
        · have hQ := Lib.hid (hno.out ⟨z, h1.out, e⟩)
          have b0 : (z != 0) = true := by simpa using e
          clear hst e hno hyes
          go_wp2
          go_ret
          exact ⟨by rw [hQ.out]; rfl, bW⟩
      · have hke : k = 3 := by omega
        subst hke
        have hQ := Lib.hid (hyes.out (by have h := hI.out; rw [← hlen.out] at h; exact h.all))
        clear hI hno hyes hcl
        cases e1 : (i.w == 0) <;> cases e2 : (i.p == 0) <;> cases e3 : ((i.n : Int) == 0)
        all_goals
          rw [e1, e2, e3] at hQ
          go_wp2
          go_ret
          exact ⟨by rw [hQ.out]; rfl, bW⟩
  · go_region_held3 (fun w' => w'.cell? ⟨W.heap.size, 0, none⟩ = some (.int .i64 (3 : Nat)) ∧ w'.cell? ⟨W.heap.size + 1, 0, none⟩ = some (.int .i64 i.op) ∧ w'.cell? ⟨W.heap.size + 1, 1, none⟩ = some (.int .i64 i.w) ∧ w'.cell? ⟨W.heap.size + 1, 2, none⟩ = some (.int .i64 i.p) ∧ w'.cell? ⟨W.heap.size + 1, 3, none⟩ = some (.int .i64 i.a) ∧ w'.cell? ⟨W.heap.size + 1, 4, none⟩ = some (.int .i64 i.b) ∧ w'.cell? ⟨W.heap.size + 1, 5, none⟩ = some (.int .i64 i.c) ∧ w'.cell? ⟨W.heap.size + 1, 6, none⟩ = some (.int .u64 i.n) ∧ w'.cell? ⟨W.heap.size + 1, 7, none⟩ = some (.int .i64 i.at_) ∧ Bel w0 w') ((first | assumption | (refine hmk _ ?_; repeat (first | assumption | exact hq0 | refine Bel.drew ?_)))) (first | (go_at_call 54; refine (valuesOf_any i).mono ?_; rintro e w1 ⟨rfl, B1, b1⟩; have hS1 := (Bel.drew hq0).below b1))
    have B2 : Box w1 (w0.heap.size + 1) 3 (ints [i.a, i.b, i.c]) := B1
    have bW : Below W.heap.size W w1 := bA.trans (Below.mono hS1 bA.size)
    have g1 := hS1.cell (N0.cell 1)
    have m1 := hS1.cell (N1.cell 1)
    have m2 := hS1.cell (N1.cell 2)
    have m6 := hS1.cell (N1.cell 6)
    obtain ⟨l, hl⟩ : ∃ l, Hid ([i.a, i.b, i.c].drop 3 = l) := ⟨_, Lib.hid rfl⟩
    have hlen : l.length = 0 := by rw [← hl.out]; rfl
    have hcl : Hid (∀ (k : Nat) (h : k < l.length), w1.cell? ⟨w0.heap.size + 1, 3 + k, none⟩ = some (.int .i64 l[k])) := Lib.hid (fun k h => by
      have h2 : 3 + k < [i.a, i.b, i.c].length := by simp; omega
      rw [B2.cell, ints_get _ _ h2]
      have h3 : l[k] = [i.a, i.b, i.c][3 + k] := by
        have : l[k]? = ([i.a, i.b, i.c].drop 3)[k]? := by rw [hl.out]
        rw [List.getElem?_drop, List.getElem?_eq_getElem h, List.getElem?_eq_getElem h2] at this
        exact Option.some.inj this
      rw [h3])
    have hno : Hid ((∃ z ∈ l, z ≠ 0) → R = false) := Lib.hid (fun ⟨z, hz, hn⟩ => by rw [← hR.out]; exact B_not (fun h => hn (h.1 z (by rw [hl.out]; exact hz))))
    have hyes : Hid ((∀ z ∈ l, z = 0) → R = ((i.w == 0 || false) && (i.p == 0 || false) && ((i.n : Int) == 0 || false))) := Lib.hid (fun hz => by
      rw [← hR.out]
      refine (B_eq ?_).symm
      unfold OutV
      rw [hl.out, show Nat.testBit 0 0 = false from rfl, show Nat.testBit 0 1 = false from rfl, show Nat.testBit 0 2 = false from rfl]
      have hz2 : (∀ z ∈ l, z = 0) ↔ True := ⟨fun _ => trivial, fun _ => hz⟩
      rw [hz2]
      simp [and_assoc])
    replace hlen := Lib.hid hlen
    clear hmk hq0 B1 B2 b1 hR hS1
    go_wp2_with fail
    go_loop [13] (fun u => ∃ k : Nat, k ≤ 0 ∧ u = .int .i64 k ∧ Hid (ZTo l k)) (fun u => 0 - (intOf u).toNat)
    case atStart => exact ⟨0, Nat.zero_le _, rfl, Lib.hid (fun j _ h => by omega)⟩
    case round =>
      obtain ⟨k, hk, rfl, hI⟩ := hrel
      by_cases hlt : k < 0
      · exact absurd hlt (by omega)
      · have hke : k = 0 := by omega
        subst hke
        have hQ := Lib.hid (hyes.out (by have h := hI.out; rw [← hlen.out] at h; exact h.all))
        clear hI hno hyes hcl
        cases e1 : (i.w == 0) <;> cases e2 : (i.p == 0) <;> cases e3 : ((i.n : Int) == 0)
        all_goals
          rw [e1, e2, e3] at hQ
          go_wp2
          go_ret
          exact ⟨by rw [hQ.out]; rfl, bW⟩
  · go_region_held3 (fun w' => w'.cell? ⟨W.heap.size, 0, none⟩ = some (.int .i64 (1 : Nat)) ∧ w'.cell? ⟨W.heap.size + 1, 0, none⟩ = some (.int .i64 i.op) ∧ w'.cell? ⟨W.heap.size + 1, 1, none⟩ = some (.int .i64 i.w) ∧ w'.cell? ⟨W.heap.size + 1, 2, none⟩ = some (.int .i64 i.p) ∧ w'.cell? ⟨W.heap.size + 1, 3, none⟩ = some (.int .i64 i.a) ∧ w'.cell? ⟨W.heap.size + 1, 4, none⟩ = some (.int .i64 i.b) ∧ w'.cell? ⟨W.heap.size + 1, 5, none⟩ = some (.int .i64 i.c) ∧ w'.cell? ⟨W.heap.size + 1, 6, none⟩ = some (.int .u64 i.n) ∧ w'.cell? ⟨W.heap.size + 1, 7, none⟩ = some (.int .i64 i.at_) ∧ Bel w0 w') ((first | assumption | (refine hmk _ ?_; repeat (first | assumption | exact hq0 | refine Bel.drew ?_)))) (first | (go_at_call 54; refine (valuesOf_any i).mono ?_; rintro e w1 ⟨rfl, B1, b1⟩; have hS1 := (Bel.drew hq0).below b1))
    have B2 : Box w1 (w0.heap.size + 1) 3 (ints [i.a, i.b, i.c]) := B1
    have bW : Below W.heap.size W w1 := bA.trans (Below.mono hS1 bA.size)
    have g1 := hS1.cell (N0.cell 1)
    have m1 := hS1.cell (N1.cell 1)
    have m2 := hS1.cell (N1.cell 2)
    have m6 := hS1.cell (N1.cell 6)
    obtain ⟨l, hl⟩ : ∃ l, Hid ([i.a, i.b, i.c].drop 1 = l) := ⟨_, Lib.hid rfl⟩
    have hlen : l.length = 2 := by rw [← hl.out]; rfl
    have hcl : Hid (∀ (k : Nat) (h : k < l.length), w1.cell? ⟨w0.heap.size + 1, 1 + k, none⟩ = some (.int .i64 l[k])) := Lib.hid (fun k h => by
      have h2 : 1 + k < [i.a, i.b, i.c].length := by simp; omega
      rw [B2.cell, ints_get _ _ h2]
      have h3 : l[k] = [i.a, i.b, i.c][1 + k] := by
        have : l[k]? = ([i.a, i.b, i.c].drop 1)[k]? := by rw [hl.out]
        rw [List.getElem?_drop, List.getElem?_eq_getElem h, List.getElem?_eq_getElem h2] at this
        exact Option.some.inj this
      rw [h3])
    have hno : Hid ((∃ z ∈ l, z ≠ 0) → R = false) := Lib.hid (fun ⟨z, hz, hn⟩ => by rw [← hR.out]; exact B_not (fun h => hn (h.1 z (by rw [hl.out]; exact hz))))
    have hyes : Hid ((∀ z ∈ l, z = 0) → R = ((i.w == 0 || false) && (i.p == 0 || false) && ((i.n : Int) == 0 || false))) := Lib.hid (fun hz => by
      rw [← hR.out]
      refine (B_eq ?_).symm
      unfold OutV
      rw [hl.out, show Nat.testBit 0 0 = false from rfl, show Nat.testBit 0 1 = false from rfl, show Nat.testBit 0 2 = false from rfl]
      have hz2 : (∀ z ∈ l, z = 0) ↔ True := ⟨fun _ => trivial, fun _ => hz⟩
      rw [hz2]
      simp [and_assoc])
    replace hlen := Lib.hid hlen
    clear hmk hq0 B1 B2 b1 hR hS1
    go_wp2_with fail
    go_loop [13] (fun u => ∃ k : Nat, k ≤ 2 ∧ u = .int .i64 k ∧ Hid (ZTo l k)) (fun u => 2 - (intOf u).toNat)
    case atStart => exact ⟨0, Nat.zero_le _, rfl, Lib.hid (fun j _ h => by omega)⟩
    case round =>
      obtain ⟨k, hk, rfl, hI⟩ := hrel
      by_cases hlt : k < 2
      · have hkl : k < l.length := by rw [hlen.out]; exact hlt
        have hc := hcl.out k hkl
        have h1 := Lib.hid (List.getElem_mem hkl)
        have hst : Hid (l[k] = 0 → ZTo l (k + 1)) := Lib.hid (fun hz j hj hjk => by
          by_cases e : j = k
          · subst e; exact hz
          · exact hI.out j hj (by omega))
        obtain ⟨z, hz⟩ : ∃ z, Hid (l[k] = z) := ⟨_, Lib.hid rfl⟩
        rw [hz.out] at hc hst h1
        have hkc : (k : Int) < 2 := by omega
        clear hI
        by_cases e : z = 0
        · have hN := Lib.hid (hst.out e)
          have b0 : (z != 0) = false := by simpa using e
          clear hst e
          go_wp2_with fail
          go_round
          case rel => exact ⟨k + 1, hlt, by go_num, hN⟩
          case measure => simp [intOf]; omega
        · have hQ := Lib.hid (hno.out ⟨z, h1.out, e⟩)
          have b0 : (z != 0) = true := by simpa using e
          clear hst e hno hyes
          go_wp2
          go_ret
          exact ⟨by rw [hQ.out]; rfl, bW⟩
      · have hke : k = 2 := by omega
        subst hke
        have hQ := Lib.hid (hyes.out (by have h := hI.out; rw [← hlen.out] at h; exact h.all))
        clear hI hno hyes hcl
        cases e1 : (i.w == 0) <;> cases e2 : (i.p == 0) <;> cases e3 : ((i.n : Int) == 0)
        all_goals
          rw [e1, e2, e3] at hQ
          go_wp2
          go_ret
          exact ⟨by rw [hQ.out]; rfl, bW⟩
  · go_region_held3 (fun w' => w'.cell? ⟨W.heap.size, 0, none⟩ = some (.int .i64 (1 : Nat)) ∧ w'.cell? ⟨W.heap.size + 1, 0, none⟩ = some (.int .i64 i.op) ∧ w'.cell? ⟨W.heap.size + 1, 1, none⟩ = some (.int .i64 i.w) ∧ w'.cell? ⟨W.heap.size + 1, 2, none⟩ = some (.int .i64 i.p) ∧ w'.cell? ⟨W.heap.size + 1, 3, none⟩ = some (.int .i64 i.a) ∧ w'.cell? ⟨W.heap.size + 1, 4, none⟩ = some (.int .i64 i.b) ∧ w'.cell? ⟨W.heap.size + 1, 5, none⟩ = some (.int .i64 i.c) ∧ w'.cell? ⟨W.heap.size + 1, 6, none⟩ = some (.int .u64 i.n) ∧ w'.cell? ⟨W.heap.size + 1, 7, none⟩ = some (.int .i64 i.at_) ∧ Bel w0 w') ((first | assumption | (refine hmk _ ?_; repeat (first | assumption | exact hq0 | refine Bel.drew ?_)))) (first | (go_at_call 54; refine (valuesOf_any i).mono ?_; rintro e w1 ⟨rfl, B1, b1⟩; have hS1 := (Bel.drew hq0).below b1))
    have B2 : Box w1 (w0.heap.size + 1) 3 (ints [i.a, i.b, i.c]) := B1
    have bW : Below W.heap.size W w1 := bA.trans (Below.mono hS1 bA.size)
    have g1 := hS1.cell (N0.cell 1)
    have m1 := hS1.cell (N1.cell 1)
    have m2 := hS1.cell (N1.cell 2)
    have m6 := hS1.cell (N1.cell 6)
    obtain ⟨l, hl⟩ : ∃ l, Hid ([i.a, i.b, i.c].drop 1 = l) := ⟨_, Lib.hid rfl⟩
    have hlen : l.length = 2 := by rw [← hl.out]; rfl
    have hcl : Hid (∀ (k : Nat) (h : k < l.length), w1.cell? ⟨w0.heap.size + 1, 1 + k, none⟩ = some (.int .i64 l[k])) := Lib.hid (fun k h => by
      have h2 : 1 + k < [i.a, i.b, i.c].length := by simp; omega
      rw [B2.cell, ints_get _ _ h2]
      have h3 : l[k] = [i.a, i.b, i.c][1 + k] := by
        have : l[k]? = ([i.a, i.b, i.c].drop 1)[k]? := by rw [hl.out]
        rw [List.getElem?_drop, List.getElem?_eq_getElem h, List.getElem?_eq_getElem h2] at this
        exact Option.some.inj this
      rw [h3])
    have hno : Hid ((∃ z ∈ l, z ≠ 0) → R = false) := Lib.hid (fun ⟨z, hz, hn⟩ => by rw [← hR.out]; exact B_not (fun h => hn (h.1 z (by rw [hl.out]; exact hz))))
    have hyes : Hid ((∀ z ∈ l, z = 0) → R = ((i.w == 0 || false) && (i.p == 0 || false) && ((i.n : Int) == 0 || true))) := Lib.hid (fun hz => by
      rw [← hR.out]
      refine (B_eq ?_).symm
      unfold OutV
      rw [hl.out, show Nat.testBit 4 0 = false from rfl, show Nat.testBit 4 1 = false from rfl, show Nat.testBit 4 2 = true from rfl]
      have hz2 : (∀ z ∈ l, z = 0) ↔ True := ⟨fun _ => trivial, fun _ => hz⟩
      rw [hz2]
      simp)
    replace hlen := Lib.hid hlen
    clear hmk hq0 B1 B2 b1 hR hS1
    go_wp2_with fail
    go_loop [13] (fun u => ∃ k : Nat, k ≤ 2 ∧ u = .int .i64 k ∧ Hid (ZTo l k)) (fun u => 2 - (intOf u).toNat)
    case atStart => exact ⟨0, Nat.zero_le _, rfl, Lib.hid (fun j _ h => by omega)⟩
    case round =>
      obtain ⟨k, hk, rfl, hI⟩ := hrel
      by_cases hlt : k < 2
      · have hkl : k < l.length := by rw [hlen.out]; exact hlt
        have hc := hcl.out k hkl
        have h1 := Lib.hid (List.getElem_mem hkl)
        have hst : Hid (l[k] = 0 → ZTo l (k + 1)) := Lib.hid (fun hz j hj hjk => by
          by_cases e : j = k
          · subst e; exact hz
          · exact hI.out j hj (by omega))
        obtain ⟨z, hz⟩ : ∃ z, Hid (l[k] = z) := ⟨_, Lib.hid rfl⟩
        rw [hz.out] at hc hst h1
        have hkc : (k : Int) < 2 := by omega
        clear hI
        by_cases e : z = 0
        · have hN := Lib.hid (hst.out e)
          have b0 : (z != 0) = false := by simpa using e
          clear hst e
          go_wp2_with fail
          go_round
          case rel => exact ⟨k + 1, hlt, by go_num, hN⟩
          case measure => simp [intOf]; omega
        · have hQ := Lib.hid (hno.out ⟨z, h1.out, e⟩)
          have b0 : (z != 0) = true := by simpa using e
          clear hst e hno hyes
          go_wp2
          go_ret
          exact ⟨by rw [hQ.out]; rfl, bW⟩
      · have hke : k = 2 := by omega
        subst hke
        have hQ := Lib.hid (hyes.out (by have h := hI.out; rw [← hlen.out] at h; exact h.all))
        clear hI hno hyes hcl
        cases e1 : (i.w == 0) <;> cases e2 : (i.p == 0) <;> cases e3 : ((i.n : Int) == 0)
        all_goals
          rw [e1, e2, e3] at hQ
          go_wp2
          go_ret
          exact ⟨by rw [hQ.out]; rfl, bW⟩
end Go.Proofs.YtnbgadndkepomaaGreatDoor
