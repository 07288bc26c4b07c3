/- The reference of layer 9: Few, Valid, has; the statements' usable. -/
import Derived.Test.YteekppohhjlmmaaHpOwn
import Derived.Test.YteekppohhjlmmaaHpBit
import Derived.Test.YteekppohhjlmmaaHpPl
namespace Go.Proofs.Yteekppohhjlmmaa
open Go.RowKit

theorem all_snoc {α : Type} (p : α → Bool) (l : List α) (i : Nat) (hi : i < l.length) (h : (l.take i).all p = true) : (l.take (i + 1)).all p = p l[i] := by
  rw [List.take_succ_eq_append_getElem hi, List.all_append, h]; simp
theorem all_take_false {α : Type} (p : α → Bool) (l : List α) (i : Nat) (hi : i < l.length) (h : p l[i] = false) (n : Nat) (hn : i < n) : (l.take n).all p = false := by
  apply Bool.eq_false_iff.2
  intro hq
  have := List.all_eq_true.1 hq l[i] (List.mem_take_iff_getElem.2 ⟨i, by omega, rfl⟩)
  rw [h] at this; cases this
theorem all_false {α : Type} (p : α → Bool) (l : List α) (i : Nat) (hi : i < l.length) (h : p l[i] = false) : l.all p = false := by
  have := all_take_false p l i hi h l.length hi
  rwa [List.take_length] at this
def few1 (x : Ob) : Bool := decide (x.c.length ≤ 40)
def fewO (l : List Ob) : Bool := decide (l.length ≤ 20) && (l.take 21).all few1
theorem fewO_iff {l : List Ob} : fewO l = true ↔ l.length ≤ 20 ∧ ∀ x ∈ l, x.c.length ≤ 40 := by
  unfold fewO
  rw [Bool.and_eq_true, decide_eq_true_iff, List.all_eq_true]
  constructor
  · rintro ⟨h, k⟩
    refine ⟨h, fun x hx => ?_⟩
    rw [List.take_of_length_le (by omega)] at k
    simpa [few1] using k x hx
  · rintro ⟨h, k⟩
    refine ⟨h, fun x hx => ?_⟩
    rw [List.take_of_length_le (by omega)] at hx
    simpa [few1] using k x hx
theorem few_of_valid {l : List Ob} (h : obsV l = true) : fewO l = true :=
  fewO_iff.2 ⟨Nat.le_trans (obsV_len h) (by decide), fun x hx => Nat.le_trans (obV_len (obsV_mem h x hx)) (by decide)⟩
set_option maxRecDepth 100000 in
set_option maxHeartbeats 1600000 in
theorem Few_any (l : List Ob) (w : World) (A : Option Addr) (c : Nat) (hs : ObSl w A c l) : Calls Try.prog 11 #[.slice A l.length c] w fun e w' => e = .returned (.bool (fewO l)) ∧ Below w.heap.size w w' := by
  have hl : l.length ≤ 9223372036854775807 := by have h1 := hs.1; have h2 := hs.2.1; unfold maxLen at h2; omega
  go_enter Try.func11, Try.ntmps11
  go_wp2_with fail
  go_loopw [3] (fun v wr => ∃ i : Nat, i ≤ l.length ∧ i ≤ 21 ∧ v = .int .i64 i ∧ Hid ((l.take i).all few1 = true) ∧ wr = w) (fun v _ => l.length - iOf v)
  case atStart => exact ⟨0, Nat.zero_le _, by decide, rfl, Lib.hid (by simp), rfl⟩
  case round =>
    obtain ⟨i, hi, hi2, rfl, hA, rfl⟩ := hrel
    by_cases hlt : i < l.length
    · have hlc : (i : Int) < l.length := by omega
      by_cases h20 : i ≤ 20
      · have hd : decide ((i : Int) ≤ 20) = true := by simp; omega
        have hwi : IntKind.i64.wrap ((i : Int) + 1) = ((i + 1 : Nat) : Int) := by rw [IntWalk.i64_in _ (by omega)]; omega
        obtain ⟨g, o, A', c', rfl, k0, _, _⟩ := hs.2.2.2 i hlt
        by_cases hc : l[i].c.length ≤ 40
        · have hf : Hid ((l.take (i + 1)).all few1 = true) := Lib.hid (by rw [all_snoc _ _ _ hlt hA.out]; simpa [few1] using hc)
          have hn : ¬ (40 : Int) < (l[i].c.length : Int) := by omega
          obtain ⟨n, hn2⟩ : ∃ n, Hid (l[i].c.length = n) := ⟨_, Lib.hid rfl⟩
          rw [hn2.out] at k0 hn
          clear hc hs hn2
          go_wp2_with fail
          go_roundw
          case rel => exact ⟨i + 1, hlt, by omega, rfl, hf, by first | rfl | trivial⟩
          case measure => simp only [iOf]; omega
        · have hf : Hid (fewO l = false) := Lib.hid (by
            unfold fewO
            rw [all_take_false few1 l i hlt (by simpa [few1] using hc) 21 (by omega)]; simp)
          have hn : (40 : Int) < (l[i].c.length : Int) := by omega
          obtain ⟨n, hn2⟩ : ∃ n, Hid (l[i].c.length = n) := ⟨_, Lib.hid rfl⟩
          rw [hn2.out] at k0 hn
          clear hc hs hn2
          go_wp2
          go_ret
          exact ⟨by rw [hf.out]; rfl, Below.refl _ _⟩
      · have hd : decide ((i : Int) ≤ 20) = false := by simp; omega
        have hf : Hid (fewO l = false) := Lib.hid (by unfold fewO; rw [decide_eq_false (by omega)]; rfl)
        have hn : decide ((l.length : Int) ≤ 20) = false := by simp; omega
        clear hs h20
        go_wp2
        go_ret
        exact ⟨by rw [hf.out]; rfl, Below.refl _ _⟩
    · have hie : i = l.length := by omega
      subst hie
      have hA := hA.out
      rw [List.take_length] at hA
      have hf : Hid (fewO l = decide ((l.length : Int) ≤ 20)) := Lib.hid (by
        unfold fewO
        rw [List.take_of_length_le hi2, hA, Bool.and_true]
        apply decide_eq_decide.2; omega)
      clear hs hA hi2
      go_wp2
      go_ret
      exact ⟨by rw [hf.out]; rfl, Below.refl _ _⟩
def VRel (l : List Ob) (W : World) (i : Nat) (wr : World) : Prop := (l.take i).all obV = true ∧ Below W.heap.size W wr
set_option maxRecDepth 100000 in
set_option maxHeartbeats 1600000 in
theorem RValid_any (l : List Ob) (w : World) (A : Option Addr) (c : Nat) (hs : ObSl w A c l) (ho : oks l) : Calls Try.prog 16 #[.slice A l.length c] w fun e w' => e = .returned (.bool (obsV l)) ∧ Below w.heap.size w w' := by
  have hl : l.length ≤ 9223372036854775807 := by have h1 := hs.1; have h2 := hs.2.1; unfold maxLen at h2; omega
  by_cases h8 : 8 < l.length
  · have hf : Hid (obsV l = false) := Lib.hid (by unfold obsV; rw [decide_eq_false (by omega)]; rfl)
    have hd : (8 : Int) < l.length := by omega
    clear hs h8 ho
    go_enter Try.func16, Try.ntmps16
    go_wp2
    go_ret
    exact ⟨by rw [hf.out]; rfl, Below.refl _ _⟩
  · have hd : ¬ (8 : Int) < l.length := by omega
    have hV : Hid (obsV l = l.all obV) := Lib.hid (by unfold obsV; rw [decide_eq_true (by omega)]; rfl)
    have ho := Lib.hid ho
    clear h8
    go_enter Try.func16, Try.ntmps16
    go_wp2_with fail
    go_loopw [3] (fun v wr => ∃ i : Nat, i ≤ l.length ∧ v = .int .i64 i ∧ VRel l w i wr) (fun v _ => l.length - iOf v)
    case atStart => exact ⟨0, Nat.zero_le _, rfl, by simp, Below.refl _ _⟩
    case round =>
      rename_i wr
      obtain ⟨i, hi, rfl, hA, bW⟩ := hrel
      by_cases hlt : i < l.length
      · have hlc : (i : Int) < l.length := by omega
        have hwi : IntKind.i64.wrap ((i : Int) + 1) = ((i + 1 : Nat) : Int) := by rw [IntWalk.i64_in _ (by omega)]; omega
        obtain ⟨g, o, A', c', rfl, k0, _, hC⟩ := hs.2.2.2 i hlt
        have hsn := Lib.hid (all_snoc _ _ _ hlt hA)
        have hfa := Lib.hid (all_false obV l i hlt)
        have hox := Lib.hid (ho.out l[i] (List.getElem_mem hlt))
        have hob : obV l[i] = (decide (l[i].c.length ≤ 16) && l[i].c.all ceV) := rfl
        obtain ⟨x, hx⟩ : ∃ x, Hid (l[i] = x) := ⟨_, Lib.hid rfl⟩
        rw [hx.out] at k0 hC hob hox
        rw [hx.out] at hsn hfa
        have k1 := cell_later bW k0
        clear k0 hx hA
        by_cases h16 : 16 < x.c.length
        · have hd2 : (16 : Int) < x.c.length := by omega
          have hf : Hid (obsV l = false) := Lib.hid (by rw [hV.out]; exact hfa.out (by rw [hob, decide_eq_false (by omega)]; rfl))
          clear hC hob h16 hs
          go_wp2
          go_ret
          exact ⟨by rw [hf.out]; rfl, bW⟩
        · have hd2 : ¬ (16 : Int) < x.c.length := by omega
          rw [decide_eq_true (by omega), Bool.true_and] at hob
          have hob := Lib.hid hob
          go_wp2_with fail
          go_loopw [4] (fun v wq => ∃ k : Nat, k ≤ x.c.length ∧ v = .int .i64 k ∧ Hid ((x.c.take k).all ceV = true) ∧ Below w.heap.size w wq ∧ wq.cell? ⟨g, o + i * 2, none⟩ = some (.slice A' x.c.length c')) (fun v _ => x.c.length - iOf v)
          case atStart => exact ⟨0, Nat.zero_le _, rfl, Lib.hid (by simp), bW, k1⟩
          case round =>
            clear bW k1
            obtain ⟨k, hk, rfl, hcs, bW, k1⟩ := hrel
            by_cases hkl : k < x.c.length
            · have hkc : (k : Int) < x.c.length := by omega
              have hwk : IntKind.i64.wrap ((k : Int) + 1) = ((k + 1 : Nat) : Int) := by rw [IntWalk.i64_in _ (by omega)]; omega
              obtain ⟨gc, oc, rfl, c0, c1, c2⟩ := (hC.later bW).2.2.2 k hkl
              have hU := (hox.out _ (List.getElem_mem hkl)).2
              have hsn2 := Lib.hid (all_snoc _ _ _ hkl hcs.out)
              have hfa2 := Lib.hid (all_false ceV x.c k hkl)
              obtain ⟨y, hy⟩ : ∃ y, Hid (x.c[k] = y) := ⟨_, Lib.hid rfl⟩
              rw [hy.out] at c0 c1 c2 hU
              rw [hy.out] at hsn2 hfa2
              obtain ⟨n, s, v⟩ := y
              simp only at c0 c1 c2 hU
              have hB := fun w => ref_valid_any n v w hU.1
              have hz : ceV ⟨n, s, v⟩ = (vB n v && (s || v == 0)) := rfl
              clear hU hy hcs
              cases hv : vB n v with
              | false =>
                rw [hv] at hB hz
                have hf : Hid (obsV l = false) := Lib.hid (by rw [hV.out]; exact hfa.out (by rw [hob.out]; exact hfa2.out (by rw [hz]; rfl)))
                clear hz hv hs hC
                go_wp2_with fail
                refine (hB _).mono ?_
                rintro e w3 ⟨rfl, b3⟩
                have hz3 := b3.size
                clear hB
                go_wp2
                go_ret
                exact ⟨by rw [hf.out]; rfl, (bW.alloc bW.size _).trans (b3.mono (by have := bW.size; simp; omega))⟩
              | true =>
                rw [hv] at hB hz
                rw [Bool.true_and] at hz
                cases s with
                | true =>
                  have hf : Hid ((x.c.take (k + 1)).all ceV = true) := Lib.hid (by rw [hsn2.out, hz]; rfl)
                  clear hz
                  have N := Box.new wr 45 #[.int .i64 n, .bool true, .int .u64 v]
                  have bN : Below w.heap.size w (wr.alloc (.cells #[.int .i64 n, .bool true, .int .u64 v] 45)) := bW.alloc bW.size _
                  have bN2 : Below wr.heap.size wr (wr.alloc (.cells #[.int .i64 n, .bool true, .int .u64 v] 45)) := (Below.refl _ _).alloc (Nat.le_refl _) _
                  clear hs hC hfa2 hsn2 hv
                  go_wp2_with fail
                  refine (hB _).mono ?_
                  rintro e w3 ⟨rfl, b3⟩
                  have N3 := N.below b3
                  have k3 := cell_later b3 (cell_later bN2 k1)
                  have bW3 := bN.trans (b3.mono bN.size)
                  clear hB N b3 bN bN2 k1 c0 c1 c2
                  have n1 := N3.cell 1
                  have n2 := N3.cell 2
                  go_wp2_with fail
                  go_roundw
                  case rel => exact ⟨k + 1, hkl, rfl, hf, bW3, k3⟩
                  case measure => simp only [iOf]; omega
                | false =>
                  by_cases hv0 : v = 0
                  · subst hv0
                    have hf : Hid ((x.c.take (k + 1)).all ceV = true) := Lib.hid (by rw [hsn2.out, hz]; rfl)
                    clear hz
                    have N := Box.new wr 45 #[.int .i64 n, .bool false, .int .u64 0]
                    have bN : Below w.heap.size w (wr.alloc (.cells #[.int .i64 n, .bool false, .int .u64 0] 45)) := bW.alloc bW.size _
                    have bN2 : Below wr.heap.size wr (wr.alloc (.cells #[.int .i64 n, .bool false, .int .u64 0] 45)) := (Below.refl _ _).alloc (Nat.le_refl _) _
                    clear hs hC hfa2 hsn2 hv
                    go_wp2_with fail
                    refine (hB _).mono ?_
                    rintro e w3 ⟨rfl, b3⟩
                    have N3 := N.below b3
                    have k3 := cell_later b3 (cell_later bN2 k1)
                    have bW3 := bN.trans (b3.mono bN.size)
                    clear hB N b3 bN bN2 k1 c0 c1 c2
                    have n1 := N3.cell 1
                    have n2 := N3.cell 2
                    go_wp2_with fail
                    go_roundw
                    case rel => exact ⟨k + 1, hkl, rfl, hf, bW3, k3⟩
                    case measure => simp only [iOf]; omega
                  · have hq : (v != 0) = true := by simpa using hv0
                    have hf : Hid (obsV l = false) := Lib.hid (by rw [hV.out]; exact hfa.out (by rw [hob.out]; exact hfa2.out (by rw [hz]; simpa using hv0)))
                    clear hz hv0
                    have N := Box.new wr 45 #[.int .i64 n, .bool false, .int .u64 v]
                    have bN : Below w.heap.size w (wr.alloc (.cells #[.int .i64 n, .bool false, .int .u64 v] 45)) := bW.alloc bW.size _
                    have bN2 : Below wr.heap.size wr (wr.alloc (.cells #[.int .i64 n, .bool false, .int .u64 v] 45)) := (Below.refl _ _).alloc (Nat.le_refl _) _
                    clear hs hC hfa2 hsn2 hv
                    go_wp2_with fail
                    refine (hB _).mono ?_
                    rintro e w3 ⟨rfl, b3⟩
                    have N3 := N.below b3
                    have k3 := cell_later b3 (cell_later bN2 k1)
                    have bW3 := bN.trans (b3.mono bN.size)
                    clear hB N b3 bN bN2 k1 c0 c1 c2
                    have n1 := N3.cell 1
                    have n2 := N3.cell 2
                    go_wp2
                    go_ret
                    exact ⟨by rw [hf.out]; rfl, bW3⟩
            · have hke : k = x.c.length := by omega
              subst hke
              have hcs := hcs.out
              rw [List.take_length] at hcs
              have hA : (l.take (i + 1)).all obV = true := by rw [hsn.out, hob.out]; exact hcs
              have hR : VRel l w (i + 1) wr := ⟨hA, bW⟩
              clear hcs hC hs hA
              go_wp2_with fail
              go_roundw
              case rel => exact ⟨i + 1, hlt, rfl, hR⟩
              case measure => simp only [iOf]; omega
      · have hie : i = l.length := by omega
        subst hie
        rw [List.take_length] at hA
        have hf : Hid (obsV l = true) := Lib.hid (by rw [hV.out]; exact hA)
        clear hs hA
        go_wp2
        go_ret
        exact ⟨by rw [hf.out]; rfl, bW⟩
end Go.Proofs.Yteekppohhjlmmaa
