/- The contracts of the smallest functions of package bits. -/
import Derived.Test.YteibkmignbbekaaRows
import Derived.Test.YteibkmignbbekaaMath
import Derived.WalkKit
import Derived.Lib.Hide
import Derived.WalkSpells
import Derived.WalkLawsBesides
import Derived.StillTactics
import Derived.Laws.Pointers
import Derived.Deep.RegionHeld3
import Derived.Deep.QuietTactic
import Derived.BigQuiet
import Derived.RowKit3
namespace Go.Proofs.Yteibkmignbbekaa
open Go.RowKit

set_option maxHeartbeats 400000 in
theorem highest_any (n : Int) (w : World) (h1 : 1 ≤ n) (h2 : n ≤ 64) :
    Calls Try.prog 37 #[.int .i64 n] w fun e w' => e = .returned (.int .u64 (hiw n)) ∧ w' = w := by
  have hh := Lib.hid (hi_of n (by omega) h2)
  go_enter Try.func37, Try.ntmps37
  go_wp2
  go_ret
  exact ⟨by rw [← hh.out]; rfl, rfl⟩

set_option maxHeartbeats 400000 in
theorem validWidth_yes (n : Int) (w : World) (h1 : 1 ≤ n) (h2 : n ≤ 64) :
    Calls Try.prog 36 #[.int .i64 n] w fun e w' => e = .returned (.bool true) ∧ w' = w := by
  go_enter Try.func36, Try.ntmps36
  go_wp2
  go_ret
  exact ⟨rfl, rfl⟩

set_option maxHeartbeats 400000 in
theorem validWidth_no (n : Int) (w : World) (h : ¬ (1 ≤ n ∧ n ≤ 64)) :
    Calls Try.prog 36 #[.int .i64 n] w fun e w' => e = .returned (.bool false) ∧ w' = w := by
  by_cases h1 : 1 ≤ n
  · have h2 : decide (n ≤ 64) = false := by simp; omega
    clear h
    go_enter Try.func36, Try.ntmps36
    go_wp2
    go_ret
    exact ⟨rfl, rfl⟩
  · clear h
    go_enter Try.func36, Try.ntmps36
    go_wp2
    go_ret
    exact ⟨rfl, rfl⟩

set_option maxHeartbeats 400000 in
theorem keep_any (n v : Int) (w : World) (h1 : 1 ≤ n) (h2 : n ≤ 64) (h3 : 0 ≤ v) (h4 : v < 18446744073709551616) :
    Calls Try.prog 38 #[.int .i64 n, .int .u64 v] w fun e w' => e = .returned (.agg #[.int .i64 n, .int .u64 (low n v)]) ∧ Below w.heap.size w w' := by
  have hh := Lib.hid (and_hi n v h2 h3 h4)
  clear h3 h4
  go_enter Try.func38, Try.ntmps38
  go_wp2_with (go_at_call 37; refine (highest_any _ _ h1 h2).mono ?_; rintro e w' ⟨rfl, rfl⟩)
  refine bodyPost_ret (v := .agg #[.int .i64 n, .int .u64 (low n v)]) (by simp [results, Try.results38, go_sem, hh.out]) rfl ⟨rfl, ?_⟩
  exact (Below.refl _ _).alloc (Nat.le_refl _) _

/-- Behind what a call has made, all that was there is as it was. -/
theorem bcell {W w1 : World} (hb : Below W.heap.size W w1) : (∀ b o, b < W.heap.size → w1.cell? ⟨b, o, none⟩ = W.cell? ⟨b, o, none⟩) ∧ (∀ b o, b < W.heap.size → w1.frozen? ⟨b, o, none⟩ = W.frozen? ⟨b, o, none⟩) :=
  ⟨fun b o h => hb.cell (p := ⟨b, o, none⟩) h, fun b o h => hb.frozen (p := ⟨b, o, none⟩) h⟩

theorem vB_true {n v : Int} (h : vB n v = true) : 1 ≤ n ∧ n ≤ 64 ∧ v ≤ hiw n := by
  have := (vB_iff n v).1 h; unfold hiw; omega

set_option maxHeartbeats 400000 in
theorem valid_yes (n v : Int) (w : World) (h : vB n v = true) :
    Calls Try.prog 13 #[.agg #[.int .i64 n, .int .u64 v]] w fun e w' => e = .returned (.bool true) ∧ Below w.heap.size w w' := by
  obtain ⟨h1, h2, h3⟩ := vB_true h
  have H := Lib.hid h; clear h
  go_enter Try.func13, Try.ntmps13
  go_wp2
  go_quiet (first | (go_at_call 36; exact Calls.quiet_of_same (validWidth_yes _ _ h1 h2)) | (go_at_call 37; exact Calls.quiet_of_same (highest_any _ _ h1 h2)))
  go_wp2
  go_ret
  exact ⟨rfl, below_drewN ((Below.refl _ _).alloc (Nat.le_refl _) _) _⟩

set_option maxHeartbeats 400000 in
theorem valid_no (n v : Int) (w : World) (h : vB n v = false) :
    Calls Try.prog 13 #[.agg #[.int .i64 n, .int .u64 v]] w fun e w' => e = .returned (.bool false) ∧ Below w.heap.size w w' := by
  by_cases h1 : 1 ≤ n ∧ n ≤ 64
  · obtain ⟨h1, h2⟩ := h1
    have h3 : decide (v ≤ hiw n) = false := by
      simp only [decide_eq_false_iff_not]; intro h3
      have : vB n v = true := (vB_iff n v).2 ⟨h1, h2, by unfold hiw at h3; omega⟩
      rw [h] at this; exact absurd this (by decide)
    clear h
    go_enter Try.func13, Try.ntmps13
    go_wp2
    go_quiet (first | (go_at_call 36; exact Calls.quiet_of_same (validWidth_yes _ _ h1 h2)) | (go_at_call 37; exact Calls.quiet_of_same (highest_any _ _ h1 h2)))
    go_wp2
    go_ret
    exact ⟨rfl, below_drewN ((Below.refl _ _).alloc (Nat.le_refl _) _) _⟩
  · clear h
    go_enter Try.func13, Try.ntmps13
    go_wp2
    go_quiet ((go_at_call 36; exact Calls.quiet_of_same (validWidth_no _ _ h1)))
    go_wp2
    go_ret
    exact ⟨rfl, below_drewN ((Below.refl _ _).alloc (Nat.le_refl _) _) _⟩

end Go.Proofs.Yteibkmignbbekaa
