/- The statements' own small functions: usable, faults, same; the reference's Of. -/
import Derived.Test.YteekppohhjlmmaaHpNew
import Derived.Test.YteekppohhjlmmaaHpRef
namespace Go.Proofs.Yteekppohhjlmmaa
open Go.RowKit

set_option maxRecDepth 100000 in
set_option maxHeartbeats 1600000 in
theorem usable_any (l : List Ob) (obj : Int) (w : World) (A : Option Addr) (c : Nat) (hs : ObSl w A c l) (ho : oks l) : Calls Try.prog 23 #[.slice A l.length c, .int .i64 obj] w fun e w' => e = .returned (.bool (hasO l obj)) ∧ Below w.heap.size w w' := by
  have hF := Few_any l w A c hs
  have hz : hasO l obj = (obsV l && decide (0 ≤ obj ∧ obj < l.length)) := rfl
  cases hf : fewO l with
  | false =>
    have hv : obsV l = false := by
      apply Bool.eq_false_iff.2; intro h
      rw [few_of_valid h] at hf; cases hf
    rw [hf] at hF
    rw [hv] at hz
    have hz := Lib.hid hz
    clear hs ho hf hv
    go_enter Try.func23, Try.ntmps23
    go_wp2_with fail
    refine hF.mono ?_
    rintro e w1 ⟨rfl, b1⟩
    clear hF
    go_wp2
    go_ret
    exact ⟨by rw [hz.out]; rfl, b1⟩
  | true =>
    rw [hf] at hF
    have hV : ∀ w1, Below w.heap.size w w1 → _ := fun w1 h1 => RValid_any l w1 A c (hs.later h1) ho
    have hl := Nat.le_trans hs.1 hs.2.1
    clear hs ho hf
    cases hv : obsV l with
    | false =>
      rw [hv] at hV hz
      have hz := Lib.hid hz
      go_enter Try.func23, Try.ntmps23
      go_wp2_with fail
      refine hF.mono ?_
      rintro e w1 ⟨rfl, b1⟩
      have hV := hV w1 b1
      clear hF
      go_wp2_with fail
      refine hV.mono ?_
      rintro e w2 ⟨rfl, b2⟩
      clear hV
      go_wp2
      go_ret
      exact ⟨by rw [hz.out]; rfl, b1.trans (b2.mono b1.size)⟩
    | true =>
      rw [hv] at hV hz
      by_cases h0 : 0 ≤ obj
      · have hd0 : decide (0 ≤ obj) = true := by simpa using h0
        by_cases h1 : obj < l.length
        · have hd1 : decide (obj < (l.length : Int)) = true := by simpa using h1
          rw [decide_eq_true ⟨h0, h1⟩] at hz
          have hz := Lib.hid hz
          clear h0 h1
          go_enter Try.func23, Try.ntmps23
          go_wp2_with fail
          refine hF.mono ?_
          rintro e w1 ⟨rfl, b1⟩
          have hV := hV w1 b1
          clear hF
          go_wp2_with fail
          refine hV.mono ?_
          rintro e w2 ⟨rfl, b2⟩
          clear hV
          go_wp2
          go_ret
          exact ⟨by rw [hz.out]; rfl, b1.trans (b2.mono b1.size)⟩
        · have hd1 : decide (obj < (l.length : Int)) = false := by simpa using h1
          rw [decide_eq_false (fun h => h1 h.2)] at hz
          have hz := Lib.hid hz
          clear h0 h1
          go_enter Try.func23, Try.ntmps23
          go_wp2_with fail
          refine hF.mono ?_
          rintro e w1 ⟨rfl, b1⟩
          have hV := hV w1 b1
          clear hF
          go_wp2_with fail
          refine hV.mono ?_
          rintro e w2 ⟨rfl, b2⟩
          clear hV
          go_wp2
          go_ret
          exact ⟨by rw [hz.out]; rfl, b1.trans (b2.mono b1.size)⟩
      · have hd0 : decide (0 ≤ obj) = false := by simpa using h0
        rw [decide_eq_false (fun h => h0 h.1)] at hz
        have hz := Lib.hid hz
        clear h0
        go_enter Try.func23, Try.ntmps23
        go_wp2_with fail
        refine hF.mono ?_
        rintro e w1 ⟨rfl, b1⟩
        have hV := hV w1 b1
        clear hF
        go_wp2_with fail
        refine hV.mono ?_
        rintro e w2 ⟨rfl, b2⟩
        clear hV
        go_wp2
        go_ret
        exact ⟨by rw [hz.out]; rfl, b1.trans (b2.mono b1.size)⟩
/-- Whether a load has a fault. -/
def faultsB (R : (Int × Int) × Int × Int) (want : Int) : Bool := R.2.2 == 0 && (R.2.1 == want && (R.1.1 == 0 && R.1.2 == 0))
set_option maxRecDepth 100000 in
set_option maxHeartbeats 1600000 in
theorem faults_any (l : List Ob) (obj : Int) (k : Nat) (want : Int) (w : World) (A : Option Addr) (c : Nat) (hs : ObSl w A c l) : Calls Try.prog 26 #[.slice A l.length c, .int .i64 obj, .int .u64 (k : Nat), .int .i64 want] w fun e w' => e = .returned (.bool (faultsB (loadR l obj k) want)) ∧ Below w.heap.size w w' := by
  have hL := Load_any l obj k w A c hs
  generalize loadR l obj (k : Int) = R at hL ⊢
  obtain ⟨⟨a, b⟩, f, e0⟩ := R
  simp only at hL ⊢
  have hz : faultsB ((a, b), f, e0) want = (e0 == 0 && (f == want && (a == 0 && b == 0))) := rfl
  generalize faultsB ((a, b), f, e0) want = q at hz ⊢
  clear hs
  cases h0 : e0 == 0 with
  | false =>
    rw [h0] at hz
    have hz := Lib.hid hz
    go_enter Try.func26, Try.ntmps26
    go_wp2_with fail
    refine hL.mono ?_
    rintro e w1 ⟨rfl, b1⟩
    clear hL
    go_wp2
    go_ret
    exact ⟨by rw [hz.out]; rfl, b1.alloc b1.size _⟩
  | true =>
    rw [h0] at hz
    cases h1 : f == want with
    | false =>
      rw [h1] at hz
      have hz := Lib.hid hz
      go_enter Try.func26, Try.ntmps26
      go_wp2_with fail
      refine hL.mono ?_
      rintro e w1 ⟨rfl, b1⟩
      clear hL
      go_wp2
      go_ret
      exact ⟨by rw [hz.out]; rfl, b1.alloc b1.size _⟩
    | true =>
      rw [h1] at hz
      have hz := Lib.hid hz
      go_enter Try.func26, Try.ntmps26
      go_wp2_with fail
      refine hL.mono ?_
      rintro e w1 ⟨rfl, b1⟩
      clear hL
      go_wp2
      all_goals
        go_ret
        exact ⟨by rw [hz.out]; simp [*], b1.alloc b1.size _⟩
theorem Of_any (n v : Int) (w : World) (hn : 0 ≤ n ∧ n ≤ 64) (hv : 0 ≤ v) : Calls Try.prog 24 #[.int .i64 n, .int .u64 v] w fun e w' => e = .returned (.agg #[.int .i64 n, .int .u64 (low n v)]) ∧ Below w.heap.size w w' := by
  have hL := fun w => ref_low v n w hv hn.1 hn.2
  clear hn hv
  go_enter Try.func24, Try.ntmps24
  go_wp2_with fail
  refine (hL _).mono ?_
  rintro e w1 ⟨rfl, rfl⟩
  clear hL
  go_wp2
  refine bodyPost_ret (v := .agg #[.int .i64 n, .int .u64 (low n v)]) (by simp [results, Try.results24, go_sem]) rfl ⟨rfl, ?_⟩
  exact (Below.refl _ _).alloc (Nat.le_refl _) _
/-- Whether two loads answer the same. -/
def sameL (R S : (Int × Int) × Int × Int) : Bool := (R.1.1 == S.1.1 && R.1.2 == S.1.2) && (R.2.1 == S.2.1 && R.2.2 == S.2.2)
set_option maxRecDepth 100000 in
set_option maxHeartbeats 1600000 in
theorem same_any (l m : List Ob) (obj : Int) (k : Nat) (w : World) (A A2 : Option Addr) (c c2 : Nat) (hs : ObSl w A c l) (hm : ObSl w A2 c2 m) (he : loadR l obj k = loadR m obj k) : Calls Try.prog 25 #[.slice A l.length c, .slice A2 m.length c2, .int .i64 obj, .int .u64 (k : Nat)] w fun e w' => e = .returned (.bool true) ∧ Below w.heap.size w w' := by
  have hL := Load_any l obj k w A c hs
  have hM : ∀ w1, Below w.heap.size w w1 → _ := fun w1 h1 => Load_any m obj k w1 A2 c2 (hm.later h1)
  rw [← he] at hM
  generalize loadR l obj (k : Int) = R at hL hM
  obtain ⟨⟨a, b⟩, f, e0⟩ := R
  simp only at hL hM
  clear hs hm he
  go_enter Try.func25, Try.ntmps25
  go_wp2_with fail
  refine hL.mono ?_
  rintro e w1 ⟨rfl, b1⟩
  have N := Box.new w1 32 #[.int .i64 a, .int .u64 b]
  have bA : Below w.heap.size w (w1.alloc (.cells #[.int .i64 a, .int .u64 b] 32)) := b1.alloc b1.size _
  have hM := hM _ bA
  clear hL
  go_wp2_with fail
  refine hM.mono ?_
  rintro e w2 ⟨rfl, b2⟩
  have N2 := (N.below b2).alloc (.cells #[.int .i64 a, .int .u64 b] 32)
  have n0 := N2.cell 0
  have n1 := N2.cell 1
  have bW := (bA.trans (b2.mono bA.size))
  clear hM N N2 b2 bA
  go_wp2
  go_ret
  exact ⟨by simp, bW.alloc bW.size _⟩
end Go.Proofs.Yteekppohhjlmmaa
