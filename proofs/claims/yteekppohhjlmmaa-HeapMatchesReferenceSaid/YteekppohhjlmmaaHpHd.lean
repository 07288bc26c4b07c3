/- The head of layer 9's statements: the chapter's example. -/
import Derived.Test.YteekppohhjlmmaaHpLaw
namespace Go.Proofs.Yteekppohhjlmmaa
open Go.RowKit

def exL : List Ob := [⟨[⟨8, false, 0⟩, ⟨1, false, 0⟩], false⟩]
def exM : List Ob := [⟨[⟨8, true, 255⟩, ⟨1, false, 0⟩], false⟩]
def exX : List Ob := [⟨[⟨8, true, 255⟩, ⟨1, false, 0⟩], true⟩]
def exB : List Ob := [⟨[⟨8, false, 1⟩], false⟩]
theorem ex_new : newR [] [8, 1] = (exL, 0, 0, 0) := by kernel_rfl
theorem ex_put : putR exL 0 ((0 : Nat) : Int) 511 = (exM, 0, 0) := by kernel_rfl
theorem ex_load : loadR exM 0 ((0 : Nat) : Int) = ((8, 255), 0, 0) := by kernel_rfl
theorem ex_free : freeR exM 0 = (exX, 0, 0) := by kernel_rfl
theorem ex_again : freeR exX 0 = ([], 3, 0) := by kernel_rfl
theorem ex_bad : loadR exM 1 ((0 : Nat) : Int) = ((0, 0), 0, 1) := by kernel_rfl
theorem ex_raw : faultsB (loadR exL 0 ((0 : Nat) : Int)) 4 = true := by kernel_rfl
theorem ex_out : faultsB (loadR exL 0 ((2 : Nat) : Int)) 2 = true := by kernel_rfl
theorem ex_gone : faultsB (loadR exX 0 ((0 : Nat) : Int)) 3 = true := by kernel_rfl
theorem ex_valid : obsV exX = true := by kernel_rfl
theorem ex_not : obsV exB = false := by kernel_rfl
theorem hNew (w : World) (b : Nat) (h : Box w b 3 #[.int .i64 8, .int .i64 1]) : Calls Try.prog 12 #[.slice none 0 0, .slice (some ⟨b, 0, none⟩) 2 2] w fun e w' => ∃ A c, e = .returned (.tuple #[.slice A 1 c, .int .i64 0, .int .i64 0, .int .i64 0]) ∧ ObSl w' A c exL ∧ Below w.heap.size w w' := by
  have hC := New_any [] [8, 1] w none (some ⟨b, 0, none⟩) 0 2 (ObSl.nil w) (fun i hi => by
    match i, hi with
    | 0, _ => exact ⟨b, 0, rfl, by rw [h.cell]; rfl⟩
    | 1, _ => exact ⟨b, 0, rfl, by rw [h.cell]; rfl⟩) (by unfold maxLen; decide)
  unfold NewAns at hC
  rw [ex_new] at hC
  exact hC
theorem hPut (w : World) (A : Option Addr) (c : Nat) (h : ObSl w A c exL) : Calls Try.prog 19 #[.slice A 1 c, .int .i64 0, .int .u64 0, .int .u64 511] w fun e w' => ∃ A c, e = .returned (.tuple #[.slice A 1 c, .int .i64 0, .int .i64 0]) ∧ ObSl w' A c exM ∧ Below w.heap.size w w' := by
  have hC := Put_any exL 0 0 511 w A c h (by unfold U64; omega)
  unfold ObAns at hC
  rw [ex_put] at hC
  exact hC
theorem hLoad (w : World) (A : Option Addr) (c : Nat) (h : ObSl w A c exM) : Calls Try.prog 17 #[.slice A 1 c, .int .i64 0, .int .u64 0] w fun e w' => e = .returned (.tuple #[.agg #[.int .i64 8, .int .u64 255], .int .i64 0, .int .i64 0]) ∧ Below w.heap.size w w' := by
  have hC := Load_any exM 0 0 w A c h
  rw [ex_load] at hC
  exact hC
theorem hFree (w : World) (A : Option Addr) (c : Nat) (h : ObSl w A c exM) : Calls Try.prog 21 #[.slice A 1 c, .int .i64 0] w fun e w' => ∃ A c, e = .returned (.tuple #[.slice A 1 c, .int .i64 0, .int .i64 0]) ∧ ObSl w' A c exX ∧ Below w.heap.size w w' := by
  have hC := Free_any exM 0 w A c h
  unfold ObAns at hC
  rw [ex_free] at hC
  exact hC
theorem hAgain (w : World) (A : Option Addr) (c : Nat) (h : ObSl w A c exX) : Calls Try.prog 21 #[.slice A 1 c, .int .i64 0] w fun e w' => ∃ A c, e = .returned (.tuple #[.slice A 0 c, .int .i64 3, .int .i64 0]) ∧ Below w.heap.size w w' := by
  have hC := Free_any exX 0 w A c h
  unfold ObAns at hC
  rw [ex_again] at hC
  refine Calls.mono (show Calls Try.prog 21 #[.slice A 1 c, .int .i64 0] w _ from hC) ?_
  rintro e w' ⟨A, c, rfl, _, hb⟩
  exact ⟨A, c, rfl, hb⟩
theorem hBad (w : World) (A : Option Addr) (c : Nat) (h : ObSl w A c exM) : Calls Try.prog 17 #[.slice A 1 c, .int .i64 1, .int .u64 0] w fun e w' => e = .returned (.tuple #[.agg #[.int .i64 0, .int .u64 0], .int .i64 0, .int .i64 1]) ∧ Below w.heap.size w w' := by
  have hC := Load_any exM 1 0 w A c h
  rw [ex_bad] at hC
  exact hC
theorem hRaw (w : World) (A : Option Addr) (c : Nat) (h : ObSl w A c exL) : Calls Try.prog 26 #[.slice A 1 c, .int .i64 0, .int .u64 0, .int .i64 4] w fun e w' => e = .returned (.bool true) ∧ Below w.heap.size w w' := by
  have hC := faults_any exL 0 0 4 w A c h
  rw [ex_raw] at hC
  exact hC
theorem hOut (w : World) (A : Option Addr) (c : Nat) (h : ObSl w A c exL) : Calls Try.prog 26 #[.slice A 1 c, .int .i64 0, .int .u64 2, .int .i64 2] w fun e w' => e = .returned (.bool true) ∧ Below w.heap.size w w' := by
  have hC := faults_any exL 0 2 2 w A c h
  rw [ex_out] at hC
  exact hC
theorem hGone (w : World) (A : Option Addr) (c : Nat) (h : ObSl w A c exX) : Calls Try.prog 26 #[.slice A 1 c, .int .i64 0, .int .u64 0, .int .i64 3] w fun e w' => e = .returned (.bool true) ∧ Below w.heap.size w w' := by
  have hC := faults_any exX 0 0 3 w A c h
  rw [ex_gone] at hC
  exact hC
theorem hValid (w : World) (A : Option Addr) (c : Nat) (h : ObSl w A c exX) : Calls Try.prog 15 #[.slice A 1 c] w fun e w' => e = .returned (.bool true) ∧ Below w.heap.size w w' := by
  have hC := Valid_any exX w A c h
  rw [ex_valid] at hC
  exact hC
theorem hNot (w : World) (a b : Nat) (ha : Box w a 45 #[.int .i64 8, .bool false, .int .u64 1]) (hb : Box w b 42 #[.slice (some ⟨a, 0, none⟩) 1 1, .bool false]) : Calls Try.prog 15 #[.slice (some ⟨b, 0, none⟩) 1 1] w fun e w' => e = .returned (.bool false) ∧ Below w.heap.size w w' := by
  have hR : ObRow w (some ⟨b, 0, none⟩) exB := fun i hi => by
    match i, hi with
    | 0, _ =>
      refine ⟨b, 0, some ⟨a, 0, none⟩, 1, rfl, by rw [hb.cell]; rfl, by rw [hb.cell]; rfl, Nat.le_refl _, by unfold maxLen; decide, fun e => (by cases e), fun k hk => ?_⟩
      match k, hk with
      | 0, _ => exact ⟨a, 0, rfl, by rw [ha.cell]; rfl, by rw [ha.cell]; rfl, by rw [ha.cell]; rfl⟩
  have hC := Valid_any exB w (some ⟨b, 0, none⟩) 1 ⟨Nat.le_refl _, by unfold maxLen; decide, fun e => (by cases e), hR⟩
  rw [ex_not] at hC
  exact hC
set_option maxRecDepth 100000 in
set_option maxHeartbeats 1600000 in
theorem head_any (w : World) : Calls Try.prog 10 #[] w fun e w' => e = .returned (.bool true) ∧ Below w.heap.size w w' := by
  have N := Box.new w 3 #[.int .i64 8, .int .i64 1]
  have bA : Below w.heap.size w (w.alloc (.cells #[.int .i64 8, .int .i64 1] 3)) := (Below.refl _ _).alloc (Nat.le_refl _) _
  go_enter Try.func10, Try.ntmps10
  go_wp2_with fail
  refine (hNew _ _ N).mono ?_
  rintro e w1 ⟨A1, c1, rfl, hL, b1⟩
  have b1 := bA.trans (b1.mono bA.size)
  clear N bA
  go_wp2_with fail
  refine (hPut _ _ _ hL).mono ?_
  rintro e w2 ⟨A2, c2, rfl, hM, b2⟩
  have hL := hL.later b2
  have b2 := b1.trans (b2.mono b1.size)
  clear b1
  go_wp2_with fail
  refine (hLoad _ _ _ hM).mono ?_
  rintro e w3 ⟨rfl, b3⟩
  have N := Box.new w3 32 #[.int .i64 8, .int .u64 255]
  have bN : Below w3.heap.size w3 (w3.alloc (.cells #[.int .i64 8, .int .u64 255] 32)) := (Below.refl _ _).alloc (Nat.le_refl _) _
  have hL := (hL.later b3).later bN
  have hM := (hM.later b3).later bN
  have b3 := b2.trans (b3.mono b2.size)
  have b3 := b3.trans (bN.mono b3.size)
  clear b2 bN
  go_wp2_with fail
  refine (hFree _ _ _ hM).mono ?_
  rintro e w4 ⟨A4, c4, rfl, hX, b4⟩
  have hL := hL.later b4
  have hM := hM.later b4
  have N := N.below b4
  have b4 := b3.trans (b4.mono b3.size)
  clear b3
  go_wp2_with fail
  refine (hAgain _ _ _ hX).mono ?_
  rintro e w5 ⟨A5, c5, rfl, b5⟩
  have hL := hL.later b5
  have hM := hM.later b5
  have hX := hX.later b5
  have N := N.below b5
  have b5 := b4.trans (b5.mono b4.size)
  clear b4
  go_wp2_with fail
  refine (hBad _ _ _ hM).mono ?_
  rintro e w6 ⟨rfl, b6⟩
  have bN : Below w6.heap.size w6 (w6.alloc (.cells #[.int .i64 0, .int .u64 0] 32)) := (Below.refl _ _).alloc (Nat.le_refl _) _
  have hL := (hL.later b6).later bN
  have hX := (hX.later b6).later bN
  have N := (N.below b6).below bN
  have b6 := b5.trans (b6.mono b5.size)
  have b6 := b6.trans (bN.mono b6.size)
  have n0 := N.cell 0
  have n1 := N.cell 1
  clear b5 bN hM N
  go_upto_region 8 with fail
  obtain ⟨X, hX6⟩ : ∃ Y, w6.alloc (.cells #[.int .i64 0, .int .u64 0] 32) = Y := ⟨_, rfl⟩
  rw [hX6] at hL hX n0 n1 b6
  simp only [hX6]
  clear hX6
  go_wp2_with fail
  refine (hRaw _ _ _ hL).mono ?_
  rintro e w7 ⟨rfl, b7⟩
  have hL := hL.later b7
  have hX := hX.later b7
  have b7 := b6.trans (b7.mono b6.size)
  clear b6 n0 n1
  go_wp2_with fail
  refine (hOut _ _ _ hL).mono ?_
  rintro e w8 ⟨rfl, b8⟩
  have hX := hX.later b8
  have b8 := b7.trans (b8.mono b7.size)
  clear b7 hL
  go_wp2_with fail
  refine (hGone _ _ _ hX).mono ?_
  rintro e w9 ⟨rfl, b9⟩
  have hX := hX.later b9
  have b9 := b8.trans (b9.mono b8.size)
  clear b8
  go_wp2_with fail
  refine (hValid _ _ _ hX).mono ?_
  rintro e w10 ⟨rfl, b10⟩
  have b10 := b9.trans (b10.mono b9.size)
  clear b9 hX
  have N1 := (Box.new w10 45 #[.int .i64 8, .bool false, .int .u64 1]).alloc (.cells #[.slice (some ⟨w10.heap.size, 0, none⟩) 1 1, .bool false] 42)
  have N2 := Box.newAt (X := w10.alloc (.cells #[.int .i64 8, .bool false, .int .u64 1] 45)) (n := w10.heap.size + 1) (by simp) 42 #[.slice (some ⟨w10.heap.size, 0, none⟩) 1 1, .bool false]
  go_wp2_with fail
  refine (hNot _ _ _ N1 N2).mono ?_
  rintro e w11 ⟨rfl, b11⟩
  clear N1 N2
  go_wp2
  go_ret
  exact ⟨rfl, ((b10.alloc b10.size _).alloc (by have := b10.size; simp; omega) _).trans (b11.mono (by have := b10.size; simp; omega))⟩
end Go.Proofs.Yteekppohhjlmmaa
