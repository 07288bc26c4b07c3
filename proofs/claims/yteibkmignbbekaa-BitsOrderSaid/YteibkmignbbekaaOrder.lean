/- BitsOrder: the walk. -/
import Derived.Test.YteibkmignbbekaaTwo
import Derived.Deep.DeepCutAuto
import Derived.Deep.RegionWith
namespace Go.Proofs.Yteibkmignbbekaa
open Go.RowKit

set_option maxRecDepth 100000 in
set_option maxHeartbeats 400000 in
theorem order_no1 (n a m b k c : Int) (w : World) (a0 : 0 ≤ a) (b0 : 0 ≤ b) (_c0 : 0 ≤ c) (h : sameV n a m b = false) :
    Calls Try.prog 8 #[.agg #[.int .i64 n, .int .u64 a], .agg #[.int .i64 m, .int .u64 b], .agg #[.int .i64 k, .int .u64 c]] w fun e w' => e = .returned (.bool true) ∧ Below w.heap.size w w' := by
  go_enter Try.func8, Try.ntmps8
  go_wp2_with fail
  refine (head_any _).mono ?_
  rintro e w1 ⟨rfl, hb1⟩
  obtain ⟨hc1, hf1⟩ := bcell hb1
  have hz1 : w.heap.size < w1.heap.size ∧ w.heap.size + 1 < w1.heap.size ∧ w.heap.size + 1 + 1 < w1.heap.size := by have hs := hb1.size; simp at hs; omega
  go_wp2_with fail
  refine (same_any n a m b _ a0 b0).mono ?_
  rintro e w2 ⟨rfl, hb2⟩
  obtain ⟨hc2, hf2⟩ := bcell hb2
  have hz2 : w.heap.size < w2.heap.size ∧ w.heap.size + 1 < w2.heap.size ∧ w.heap.size + 1 + 1 < w2.heap.size := by have hs := hb2.size; omega
  go_wp2
  go_ret
  exact ⟨rfl, ((below3 hb1).trans (hb2.mono (by omega)))⟩

set_option maxRecDepth 100000 in
set_option maxHeartbeats 400000 in
theorem order_no2 (n a m b k c : Int) (w : World) (a0 : 0 ≤ a) (b0 : 0 ≤ b) (c0 : 0 ≤ c) (h : sameV n a m b = true) (h2 : sameV m b k c = false) :
    Calls Try.prog 8 #[.agg #[.int .i64 n, .int .u64 a], .agg #[.int .i64 m, .int .u64 b], .agg #[.int .i64 k, .int .u64 c]] w fun e w' => e = .returned (.bool true) ∧ Below w.heap.size w w' := by
  go_enter Try.func8, Try.ntmps8
  go_wp2_with fail
  refine (head_any _).mono ?_
  rintro e w1 ⟨rfl, hb1⟩
  obtain ⟨hc1, hf1⟩ := bcell hb1
  have hz1 : w.heap.size < w1.heap.size ∧ w.heap.size + 1 < w1.heap.size ∧ w.heap.size + 1 + 1 < w1.heap.size := by have hs := hb1.size; simp at hs; omega
  go_wp2_with fail
  refine (same_any n a m b _ a0 b0).mono ?_
  rintro e w2 ⟨rfl, hb2⟩
  obtain ⟨hc2, hf2⟩ := bcell hb2
  have hz2 : w.heap.size < w2.heap.size ∧ w.heap.size + 1 < w2.heap.size ∧ w.heap.size + 1 + 1 < w2.heap.size := by have hs := hb2.size; omega
  go_wp2_with fail
  refine (same_any m b k c _ b0 c0).mono ?_
  rintro e w3 ⟨rfl, hb3⟩
  obtain ⟨hc3, hf3⟩ := bcell hb3
  have hz3 : w.heap.size < w3.heap.size ∧ w.heap.size + 1 < w3.heap.size ∧ w.heap.size + 1 + 1 < w3.heap.size := by have hs := hb3.size; omega
  go_wp2
  go_ret
  exact ⟨rfl, ((below3 hb1).trans ((hb2.mono (by omega)).trans (hb3.mono (by omega))))⟩

/-- How many of the first bits are 1. -/
def sumTo (v1 v2 v3 j : Int) : Int := if j = 0 then 0 else if j = 1 then v1 else if j = 2 then v1 + v2 else v1 + v2 + v3
def InnRel (V : World) (v1 v2 v3 : Int) (s j : Value) (wy : World) : Prop :=
  ∃ k : Int, 0 ≤ k ∧ k ≤ 3 ∧ j = .int .i64 k ∧ s = .int .i64 (sumTo v1 v2 v3 k) ∧ Below V.heap.size V wy
/-- What the two orders answer at three bit vectors. -/
def OrdOps (n a b c : Int) : Prop := ∀ o : Int, (o = 13 ∨ o = 14) → ∃ v1 v2 v3 x y : Int, Hid (BinC o n a b 1 v1) ∧ Hid (BinC o n b a 1 v2) ∧ Hid (BinC 12 n a b 1 v3) ∧ Hid (BinC o n b c 1 x) ∧ Hid (BinC o n a c 1 y) ∧
  ((v1 = 1 ∧ v2 = 0 ∧ v3 = 0) ∨ (v1 = 0 ∧ v2 = 1 ∧ v3 = 0) ∨ (v1 = 0 ∧ v2 = 0 ∧ v3 = 1)) ∧ (x = 0 ∨ x = 1) ∧ (v1 = 1 → x = 1 → y = 1)
/-- What the loop over the two orders keeps. -/
def OrdRel (w w3 wc : World) (p : Nat) (n a b c H : Int) (i : Value) (wr : World) : Prop :=
  ∃ t : Int, 0 ≤ t ∧ t ≤ 2 ∧ i = .int .i64 t ∧ wr.cell? ⟨w.heap.size, 0, none⟩ = some (.int .i64 n) ∧ wr.cell? ⟨w.heap.size, 1, none⟩ = some (.int .u64 a) ∧ wr.cell? ⟨w.heap.size + 1, 0, none⟩ = some (.int .i64 n) ∧ wr.cell? ⟨w.heap.size + 1, 1, none⟩ = some (.int .u64 b) ∧ wr.cell? ⟨w.heap.size + 1 + 1, 0, none⟩ = some (.int .i64 n) ∧ wr.cell? ⟨w.heap.size + 1 + 1, 1, none⟩ = some (.int .u64 c) ∧ wr.cell? ⟨w3.heap.size, 0, none⟩ = some (.int .i64 1) ∧ wr.cell? ⟨w3.heap.size, 1, none⟩ = some (.int .u64 1) ∧ wr.cell? ⟨w3.heap.size + 1, 0, none⟩ = some (.int .i64 1) ∧ wr.cell? ⟨w3.heap.size + 1, 1, none⟩ = some (.int .u64 0) ∧ wr.cell? ⟨p, 0, none⟩ = some (.int .i64 n) ∧ wr.cell? ⟨p, 1, none⟩ = some (.int .u64 H) ∧ wr.cell? ⟨wc.heap.size, 0, none⟩ = some (.int .i64 13) ∧ wr.cell? ⟨wc.heap.size, 1, none⟩ = some (.int .i64 14) ∧ Below w.heap.size w wr
/-- The variable with the highest bit. -/
def HighRel (V : World) (n H : Int) (s : Value) (wx : World) : Prop :=
  ∃ p : Nat, s = .pointer (some ⟨p, 0, none⟩) ∧ wx.cell? ⟨p, 0, none⟩ = some (.int .i64 n) ∧ wx.cell? ⟨p, 1, none⟩ = some (.int .u64 H) ∧ Below V.heap.size V wx

set_option maxRecDepth 100000 in
set_option maxHeartbeats 60000000 in
theorem order_walk (n a b c H v a' b' : Int) (w : World) (a0 : 0 ≤ a) (b0 : 0 ≤ b) (c0 : 0 ≤ c) (h : sameV n a n b = true) (h2 : sameV n b n c = true) (n1 : 1 ≤ n) (n2 : n ≤ 64) (hH : IntKind.u64.wrap (2 ^ (n.toNat - 1)) = H) (HO : Hid (OrdOps n a b c)) (C14 : Hid (BinC 14 n a b 1 v)) (XA : Hid (BinC 9 n a H n a')) (XB : Hid (BinC 9 n b H n b')) (C13 : Hid (BinC 13 n a' b' 1 v)) :
    Calls Try.prog 8 #[.agg #[.int .i64 n, .int .u64 a], .agg #[.int .i64 n, .int .u64 b], .agg #[.int .i64 n, .int .u64 c]] w fun e w' => e = .returned (.bool true) ∧ Below w.heap.size w w' := by
  have SA := Lib.hid (And.intro a0 (And.intro b0 c0))
  clear a0 b0 c0
  go_enter Try.func8, Try.ntmps8
  go_wp2_with fail
  refine (head_any _).mono ?_
  rintro e w1 ⟨rfl, hb1⟩
  obtain ⟨hc1, hf1⟩ := bcell hb1
  have hz1 : w.heap.size < w1.heap.size ∧ w.heap.size + 1 < w1.heap.size ∧ w.heap.size + 1 + 1 < w1.heap.size := by have hs := hb1.size; simp at hs; omega
  go_wp2_with fail
  refine (same_any n a n b _ SA.out.1 SA.out.2.1).mono ?_
  rintro e w2 ⟨rfl, hb2⟩
  obtain ⟨hc2, hf2⟩ := bcell hb2
  have hz2 : w.heap.size < w2.heap.size ∧ w.heap.size + 1 < w2.heap.size ∧ w.heap.size + 1 + 1 < w2.heap.size := by have hs := hb2.size; omega
  go_wp2_with fail
  refine (same_any n b n c _ SA.out.2.1 SA.out.2.2).mono ?_
  rintro e w3 ⟨rfl, hb3⟩
  obtain ⟨hc3, hf3⟩ := bcell hb3
  have hz3 : w.heap.size < w3.heap.size ∧ w.heap.size + 1 < w3.heap.size ∧ w.heap.size + 1 + 1 < w3.heap.size := by have hs := hb3.size; omega
  go_wp2_with fail
  have S0 : w3.cell? ⟨w.heap.size, 0, none⟩ = some (.int .i64 n) ∧ w3.cell? ⟨w.heap.size, 1, none⟩ = some (.int .u64 a) ∧ w3.cell? ⟨w.heap.size + 1, 0, none⟩ = some (.int .i64 n) ∧ w3.cell? ⟨w.heap.size + 1, 1, none⟩ = some (.int .u64 b) ∧ w3.cell? ⟨w.heap.size + 1 + 1, 0, none⟩ = some (.int .i64 n) ∧ w3.cell? ⟨w.heap.size + 1 + 1, 1, none⟩ = some (.int .u64 c) ∧ Below w.heap.size w w3 := by
    refine ⟨?_, ?_, ?_, ?_, ?_, ?_, ((below3 hb1).trans ((hb2.mono (by omega)).trans (hb3.mono (by omega))))⟩ <;> simp [hc1, hc2, hc3, hz1, hz2, go_sem]
  clear hc1 hc2 hc3 hf1 hf2 hf3 hz1 hz2 hb1 hb2 hb3 h h2
  have S1 : ((w3.alloc (.cells #[.int .i64 1, .int .u64 1] 24)).alloc (.cells #[.int .i64 1, .int .u64 0] 24)).cell? ⟨w.heap.size, 0, none⟩ = some (.int .i64 n) ∧ ((w3.alloc (.cells #[.int .i64 1, .int .u64 1] 24)).alloc (.cells #[.int .i64 1, .int .u64 0] 24)).cell? ⟨w.heap.size, 1, none⟩ = some (.int .u64 a) ∧ ((w3.alloc (.cells #[.int .i64 1, .int .u64 1] 24)).alloc (.cells #[.int .i64 1, .int .u64 0] 24)).cell? ⟨w.heap.size + 1, 0, none⟩ = some (.int .i64 n) ∧ ((w3.alloc (.cells #[.int .i64 1, .int .u64 1] 24)).alloc (.cells #[.int .i64 1, .int .u64 0] 24)).cell? ⟨w.heap.size + 1, 1, none⟩ = some (.int .u64 b) ∧ ((w3.alloc (.cells #[.int .i64 1, .int .u64 1] 24)).alloc (.cells #[.int .i64 1, .int .u64 0] 24)).cell? ⟨w.heap.size + 1 + 1, 0, none⟩ = some (.int .i64 n) ∧ ((w3.alloc (.cells #[.int .i64 1, .int .u64 1] 24)).alloc (.cells #[.int .i64 1, .int .u64 0] 24)).cell? ⟨w.heap.size + 1 + 1, 1, none⟩ = some (.int .u64 c) ∧ ((w3.alloc (.cells #[.int .i64 1, .int .u64 1] 24)).alloc (.cells #[.int .i64 1, .int .u64 0] 24)).cell? ⟨w3.heap.size, 0, none⟩ = some (.int .i64 1) ∧ ((w3.alloc (.cells #[.int .i64 1, .int .u64 1] 24)).alloc (.cells #[.int .i64 1, .int .u64 0] 24)).cell? ⟨w3.heap.size, 1, none⟩ = some (.int .u64 1) ∧ ((w3.alloc (.cells #[.int .i64 1, .int .u64 1] 24)).alloc (.cells #[.int .i64 1, .int .u64 0] 24)).cell? ⟨w3.heap.size + 1, 0, none⟩ = some (.int .i64 1) ∧ ((w3.alloc (.cells #[.int .i64 1, .int .u64 1] 24)).alloc (.cells #[.int .i64 1, .int .u64 0] 24)).cell? ⟨w3.heap.size + 1, 1, none⟩ = some (.int .u64 0) ∧ Below w.heap.size w ((w3.alloc (.cells #[.int .i64 1, .int .u64 1] 24)).alloc (.cells #[.int .i64 1, .int .u64 0] 24)) := ⟨in_alloc _ (in_alloc _ S0.1), in_alloc _ (in_alloc _ S0.2.1), in_alloc _ (in_alloc _ S0.2.2.1), in_alloc _ (in_alloc _ S0.2.2.2.1), in_alloc _ (in_alloc _ S0.2.2.2.2.1), in_alloc _ (in_alloc _ S0.2.2.2.2.2.1), in_alloc _ (new0 _ _ _ _), in_alloc _ (new1 _ _ _ _), by simp [go_sem], by simp [go_sem], (S0.2.2.2.2.2.2.alloc S0.2.2.2.2.2.2.size _).alloc (Nat.le_trans S0.2.2.2.2.2.2.size (by simp)) _⟩
  clear S0
  generalize ((w3.alloc (.cells #[.int .i64 1, .int .u64 1] 24)).alloc (.cells #[.int .i64 1, .int .u64 0] 24)) = V at *
  have SB : V.cell? ⟨w.heap.size, 0, none⟩ = some (.int .i64 n) ∧ V.cell? ⟨w.heap.size, 1, none⟩ = some (.int .u64 a) ∧ V.cell? ⟨w.heap.size + 1, 0, none⟩ = some (.int .i64 n) ∧ V.cell? ⟨w.heap.size + 1, 1, none⟩ = some (.int .u64 b) ∧ Below V.heap.size V V := ⟨S1.1, S1.2.1, S1.2.2.1, S1.2.2.2.1, Below.refl _ _⟩
  have hn1 : IntKind.i64.wrap (n - 1) = n - 1 := IntWalk.i64_in _ (by omega)
  have hn0 : 0 ≤ n - 1 := by omega
  have hn2 : n - 1 ≤ 64 := by omega
  go_cut [10] (fun s wx => HighRel V n H s wx)
  case first =>
    go_region_held3 (fun w' => w'.cell? ⟨w.heap.size, 0, none⟩ = some (.int .i64 n) ∧ w'.cell? ⟨w.heap.size, 1, none⟩ = some (.int .u64 a) ∧ w'.cell? ⟨w.heap.size + 1, 0, none⟩ = some (.int .i64 n) ∧ w'.cell? ⟨w.heap.size + 1, 1, none⟩ = some (.int .u64 b) ∧ Below V.heap.size V w') (with_reducible (first | assumption | exact drew4 ‹_› | exact drew4 (more4 _ ‹_›) | exact more4 _ ‹_› | exact store4 SB ‹_› (by omega))) (fail)
    all_goals (go_wp2_with fail; go_meet)
    all_goals (refine ⟨_, rfl, ?_, ?_, ?_⟩)
    all_goals (first | (simp [go_sem, *]; done) | skip)
    all_goals (repeat (first | exact Below.refl _ _ | refine Below.drew ?_ | refine Below.alloc ?_ (Nat.le_refl _) _))
  case rest =>
    obtain ⟨p, rfl, P0, P1, PB⟩ := hcut
    have T0 : wc.cell? ⟨w.heap.size, 0, none⟩ = some (.int .i64 n) ∧ wc.cell? ⟨w.heap.size, 1, none⟩ = some (.int .u64 a) ∧ wc.cell? ⟨w.heap.size + 1, 0, none⟩ = some (.int .i64 n) ∧ wc.cell? ⟨w.heap.size + 1, 1, none⟩ = some (.int .u64 b) ∧ wc.cell? ⟨w.heap.size + 1 + 1, 0, none⟩ = some (.int .i64 n) ∧ wc.cell? ⟨w.heap.size + 1 + 1, 1, none⟩ = some (.int .u64 c) ∧ wc.cell? ⟨w3.heap.size, 0, none⟩ = some (.int .i64 1) ∧ wc.cell? ⟨w3.heap.size, 1, none⟩ = some (.int .u64 1) ∧ wc.cell? ⟨w3.heap.size + 1, 0, none⟩ = some (.int .i64 1) ∧ wc.cell? ⟨w3.heap.size + 1, 1, none⟩ = some (.int .u64 0) ∧ wc.cell? ⟨p, 0, none⟩ = some (.int .i64 n) ∧ wc.cell? ⟨p, 1, none⟩ = some (.int .u64 H) ∧ Below w.heap.size w wc := ⟨cell_later PB S1.1, cell_later PB S1.2.1, cell_later PB S1.2.2.1, cell_later PB S1.2.2.2.1, cell_later PB S1.2.2.2.2.1, cell_later PB S1.2.2.2.2.2.1, cell_later PB S1.2.2.2.2.2.2.1, cell_later PB S1.2.2.2.2.2.2.2.1, cell_later PB S1.2.2.2.2.2.2.2.2.1, cell_later PB S1.2.2.2.2.2.2.2.2.2.1, P0, P1, S1.2.2.2.2.2.2.2.2.2.2.trans (PB.mono S1.2.2.2.2.2.2.2.2.2.2.size)⟩
    clear S1 SB P0 P1 PB hn1 hn0 hn2
    go_wp2_with fail
    have T1 : (wc.alloc (.cells #[.int .i64 13, .int .i64 14] 3)).cell? ⟨w.heap.size, 0, none⟩ = some (.int .i64 n) ∧ (wc.alloc (.cells #[.int .i64 13, .int .i64 14] 3)).cell? ⟨w.heap.size, 1, none⟩ = some (.int .u64 a) ∧ (wc.alloc (.cells #[.int .i64 13, .int .i64 14] 3)).cell? ⟨w.heap.size + 1, 0, none⟩ = some (.int .i64 n) ∧ (wc.alloc (.cells #[.int .i64 13, .int .i64 14] 3)).cell? ⟨w.heap.size + 1, 1, none⟩ = some (.int .u64 b) ∧ (wc.alloc (.cells #[.int .i64 13, .int .i64 14] 3)).cell? ⟨w.heap.size + 1 + 1, 0, none⟩ = some (.int .i64 n) ∧ (wc.alloc (.cells #[.int .i64 13, .int .i64 14] 3)).cell? ⟨w.heap.size + 1 + 1, 1, none⟩ = some (.int .u64 c) ∧ (wc.alloc (.cells #[.int .i64 13, .int .i64 14] 3)).cell? ⟨w3.heap.size, 0, none⟩ = some (.int .i64 1) ∧ (wc.alloc (.cells #[.int .i64 13, .int .i64 14] 3)).cell? ⟨w3.heap.size, 1, none⟩ = some (.int .u64 1) ∧ (wc.alloc (.cells #[.int .i64 13, .int .i64 14] 3)).cell? ⟨w3.heap.size + 1, 0, none⟩ = some (.int .i64 1) ∧ (wc.alloc (.cells #[.int .i64 13, .int .i64 14] 3)).cell? ⟨w3.heap.size + 1, 1, none⟩ = some (.int .u64 0) ∧ (wc.alloc (.cells #[.int .i64 13, .int .i64 14] 3)).cell? ⟨p, 0, none⟩ = some (.int .i64 n) ∧ (wc.alloc (.cells #[.int .i64 13, .int .i64 14] 3)).cell? ⟨p, 1, none⟩ = some (.int .u64 H) ∧ (wc.alloc (.cells #[.int .i64 13, .int .i64 14] 3)).cell? ⟨wc.heap.size, 0, none⟩ = some (.int .i64 13) ∧ (wc.alloc (.cells #[.int .i64 13, .int .i64 14] 3)).cell? ⟨wc.heap.size, 1, none⟩ = some (.int .i64 14) ∧ Below w.heap.size w (wc.alloc (.cells #[.int .i64 13, .int .i64 14] 3)) := ⟨in_alloc _ T0.1, in_alloc _ T0.2.1, in_alloc _ T0.2.2.1, in_alloc _ T0.2.2.2.1, in_alloc _ T0.2.2.2.2.1, in_alloc _ T0.2.2.2.2.2.1, in_alloc _ T0.2.2.2.2.2.2.1, in_alloc _ T0.2.2.2.2.2.2.2.1, in_alloc _ T0.2.2.2.2.2.2.2.2.1, in_alloc _ T0.2.2.2.2.2.2.2.2.2.1, in_alloc _ T0.2.2.2.2.2.2.2.2.2.2.1, in_alloc _ T0.2.2.2.2.2.2.2.2.2.2.2.1, new0 _ _ _ _, new1 _ _ _ _, T0.2.2.2.2.2.2.2.2.2.2.2.2.alloc T0.2.2.2.2.2.2.2.2.2.2.2.2.size _⟩
    clear T0
    go_loopw [39] (fun i wr => OrdRel w w3 wc p n a b c H i wr) (fun i _ => (2 - intOf i).toNat)
    case atStart => exact ⟨0, by omega, by omega, rfl, T1⟩
    case round =>
      rename_i wr
      obtain ⟨t, t0, t2, rfl, U0⟩ := hrel
      by_cases ht : t < 2
      · have ho : ∃ o : Int, (o = 13 ∨ o = 14) ∧ wr.cell? ⟨wc.heap.size, t.toNat, none⟩ = some (.int .i64 o) := by
          rcases (show t = 0 ∨ t = 1 by omega) with rfl | rfl
          · exact ⟨13, Or.inl rfl, U0.2.2.2.2.2.2.2.2.2.2.2.2.1⟩
          · exact ⟨14, Or.inr rfl, U0.2.2.2.2.2.2.2.2.2.2.2.2.2.1⟩
        obtain ⟨o, ho, hco⟩ := ho
        obtain ⟨v1, v2, v3, x, y, C1, C2, C3, CX, CY, hv, hx, hy⟩ := HO.out o ho
        have HOO := Lib.hid ho
        clear ho
        go_wp2_with fail
        go_region_held3 (fun w' => w'.cell? ⟨w.heap.size, 0, none⟩ = some (.int .i64 n) ∧ w'.cell? ⟨w.heap.size, 1, none⟩ = some (.int .u64 a) ∧ w'.cell? ⟨w.heap.size + 1, 0, none⟩ = some (.int .i64 n) ∧ w'.cell? ⟨w.heap.size + 1, 1, none⟩ = some (.int .u64 b) ∧ w'.cell? ⟨w.heap.size + 1 + 1, 0, none⟩ = some (.int .i64 n) ∧ w'.cell? ⟨w.heap.size + 1 + 1, 1, none⟩ = some (.int .u64 c) ∧ w'.cell? ⟨w3.heap.size, 0, none⟩ = some (.int .i64 1) ∧ w'.cell? ⟨w3.heap.size, 1, none⟩ = some (.int .u64 1) ∧ w'.cell? ⟨w3.heap.size + 1, 0, none⟩ = some (.int .i64 1) ∧ w'.cell? ⟨w3.heap.size + 1, 1, none⟩ = some (.int .u64 0) ∧ w'.cell? ⟨p, 0, none⟩ = some (.int .i64 n) ∧ w'.cell? ⟨p, 1, none⟩ = some (.int .u64 H) ∧ w'.cell? ⟨wc.heap.size, 0, none⟩ = some (.int .i64 13) ∧ w'.cell? ⟨wc.heap.size, 1, none⟩ = some (.int .i64 14) ∧ Below w.heap.size w w') (first | assumption | exact later14 ‹_› ‹_› | exact drew14 ‹_› | exact more14 _ ‹_›)
          (first
            | (go_at_call 26; ((with_reducible refine (binUse C1 _).mono ?_); rintro e w9 ⟨rfl, hb9⟩))
            | (go_at_call 26; ((with_reducible refine (binUse C2 _).mono ?_); rintro e w9 ⟨rfl, hb9⟩))
            | (go_at_call 26; ((with_reducible refine (binUse C3 _).mono ?_); rintro e w9 ⟨rfl, hb9⟩)))
        go_wp2_with fail
        have T2 : (w9.alloc (.cells #[.int .i64 1, .int .u64 v1, .int .i64 1, .int .u64 v2, .int .i64 1, .int .u64 v3] 24)).cell? ⟨w.heap.size, 0, none⟩ = some (.int .i64 n) ∧ (w9.alloc (.cells #[.int .i64 1, .int .u64 v1, .int .i64 1, .int .u64 v2, .int .i64 1, .int .u64 v3] 24)).cell? ⟨w.heap.size, 1, none⟩ = some (.int .u64 a) ∧ (w9.alloc (.cells #[.int .i64 1, .int .u64 v1, .int .i64 1, .int .u64 v2, .int .i64 1, .int .u64 v3] 24)).cell? ⟨w.heap.size + 1, 0, none⟩ = some (.int .i64 n) ∧ (w9.alloc (.cells #[.int .i64 1, .int .u64 v1, .int .i64 1, .int .u64 v2, .int .i64 1, .int .u64 v3] 24)).cell? ⟨w.heap.size + 1, 1, none⟩ = some (.int .u64 b) ∧ (w9.alloc (.cells #[.int .i64 1, .int .u64 v1, .int .i64 1, .int .u64 v2, .int .i64 1, .int .u64 v3] 24)).cell? ⟨w.heap.size + 1 + 1, 0, none⟩ = some (.int .i64 n) ∧ (w9.alloc (.cells #[.int .i64 1, .int .u64 v1, .int .i64 1, .int .u64 v2, .int .i64 1, .int .u64 v3] 24)).cell? ⟨w.heap.size + 1 + 1, 1, none⟩ = some (.int .u64 c) ∧ (w9.alloc (.cells #[.int .i64 1, .int .u64 v1, .int .i64 1, .int .u64 v2, .int .i64 1, .int .u64 v3] 24)).cell? ⟨w3.heap.size, 0, none⟩ = some (.int .i64 1) ∧ (w9.alloc (.cells #[.int .i64 1, .int .u64 v1, .int .i64 1, .int .u64 v2, .int .i64 1, .int .u64 v3] 24)).cell? ⟨w3.heap.size, 1, none⟩ = some (.int .u64 1) ∧ (w9.alloc (.cells #[.int .i64 1, .int .u64 v1, .int .i64 1, .int .u64 v2, .int .i64 1, .int .u64 v3] 24)).cell? ⟨w3.heap.size + 1, 0, none⟩ = some (.int .i64 1) ∧ (w9.alloc (.cells #[.int .i64 1, .int .u64 v1, .int .i64 1, .int .u64 v2, .int .i64 1, .int .u64 v3] 24)).cell? ⟨w3.heap.size + 1, 1, none⟩ = some (.int .u64 0) ∧ (w9.alloc (.cells #[.int .i64 1, .int .u64 v1, .int .i64 1, .int .u64 v2, .int .i64 1, .int .u64 v3] 24)).cell? ⟨p, 0, none⟩ = some (.int .i64 n) ∧ (w9.alloc (.cells #[.int .i64 1, .int .u64 v1, .int .i64 1, .int .u64 v2, .int .i64 1, .int .u64 v3] 24)).cell? ⟨p, 1, none⟩ = some (.int .u64 H) ∧ (w9.alloc (.cells #[.int .i64 1, .int .u64 v1, .int .i64 1, .int .u64 v2, .int .i64 1, .int .u64 v3] 24)).cell? ⟨wc.heap.size, 0, none⟩ = some (.int .i64 13) ∧ (w9.alloc (.cells #[.int .i64 1, .int .u64 v1, .int .i64 1, .int .u64 v2, .int .i64 1, .int .u64 v3] 24)).cell? ⟨wc.heap.size, 1, none⟩ = some (.int .i64 14) ∧ Below w.heap.size w (w9.alloc (.cells #[.int .i64 1, .int .u64 v1, .int .i64 1, .int .u64 v2, .int .i64 1, .int .u64 v3] 24)) := by assumption
        have Y0 : (w9.alloc (.cells #[.int .i64 1, .int .u64 v1, .int .i64 1, .int .u64 v2, .int .i64 1, .int .u64 v3] 24)).cell? ⟨w9.heap.size, 0, none⟩ = some (.int .i64 1) := by simp [go_sem]
        have Y1 : (w9.alloc (.cells #[.int .i64 1, .int .u64 v1, .int .i64 1, .int .u64 v2, .int .i64 1, .int .u64 v3] 24)).cell? ⟨w9.heap.size, 1, none⟩ = some (.int .u64 v1) := by simp [go_sem]
        have Y2 : (w9.alloc (.cells #[.int .i64 1, .int .u64 v1, .int .i64 1, .int .u64 v2, .int .i64 1, .int .u64 v3] 24)).cell? ⟨w9.heap.size, 2, none⟩ = some (.int .i64 1) := by simp [go_sem]
        have Y3 : (w9.alloc (.cells #[.int .i64 1, .int .u64 v1, .int .i64 1, .int .u64 v2, .int .i64 1, .int .u64 v3] 24)).cell? ⟨w9.heap.size, 3, none⟩ = some (.int .u64 v2) := by simp [go_sem]
        have Y4 : (w9.alloc (.cells #[.int .i64 1, .int .u64 v1, .int .i64 1, .int .u64 v2, .int .i64 1, .int .u64 v3] 24)).cell? ⟨w9.heap.size, 4, none⟩ = some (.int .i64 1) := by simp [go_sem]
        have Y5 : (w9.alloc (.cells #[.int .i64 1, .int .u64 v1, .int .i64 1, .int .u64 v2, .int .i64 1, .int .u64 v3] 24)).cell? ⟨w9.heap.size, 5, none⟩ = some (.int .u64 v3) := by simp [go_sem]
        clear C2 C3
        generalize (w9.alloc (.cells #[.int .i64 1, .int .u64 v1, .int .i64 1, .int .u64 v2, .int .i64 1, .int .u64 v3] 24)) = V2 at *
        go_loopw [13, 56] (fun s j wy => InnRel V2 v1 v2 v3 s j wy) (fun _ j _ => (3 - intOf j).toNat)
        case atStart => exact ⟨0, by omega, by omega, rfl, rfl, Below.refl _ _⟩
        case round =>
          obtain ⟨j, j0, j3, rfl, rfl, HY⟩ := hrel
          have Z0 := cell_later HY Y0
          have Z1 := cell_later HY Y1
          have Z2 := cell_later HY Y2
          have Z3 := cell_later HY Y3
          have Z4 := cell_later HY Y4
          have Z5 := cell_later HY Y5
          have F0 := fun o : Obj => in_alloc o (cell_later HY T2.2.2.2.2.2.2.1)
          have F1 := fun o : Obj => in_alloc o (cell_later HY T2.2.2.2.2.2.2.2.1)
          have F2 := fun o : Obj => in_alloc o (cell_later HY T2.2.2.2.2.2.2.2.2.1)
          have F3 := fun o : Obj => in_alloc o (cell_later HY T2.2.2.2.2.2.2.2.2.2.1)
          by_cases hj : j < 3
          · clear HOO C1 CX CY hx hy
            rcases hv with ⟨rfl, rfl, rfl⟩ | ⟨rfl, rfl, rfl⟩ | ⟨rfl, rfl, rfl⟩
            all_goals rcases (show j = 0 ∨ j = 1 ∨ j = 2 by omega) with rfl | rfl | rfl
            · as_aux_lemma =>
                go_wp2
                exact ⟨⟨1, by decide, by decide, rfl, congrArg (Value.int .i64) ((IntWalk.wrap64_in _ ⟨by decide, by decide⟩).trans (by decide)), HY.alloc HY.size _⟩, by decide⟩
            · as_aux_lemma =>
                go_wp2
                exact ⟨⟨2, by decide, by decide, rfl, congrArg (Value.int .i64) ((IntWalk.wrap64_in _ ⟨by decide, by decide⟩).trans (by decide)), HY.alloc HY.size _⟩, by decide⟩
            · as_aux_lemma =>
                go_wp2
                exact ⟨⟨3, by decide, by decide, rfl, congrArg (Value.int .i64) ((IntWalk.wrap64_in _ ⟨by decide, by decide⟩).trans (by decide)), HY.alloc HY.size _⟩, by decide⟩
            · as_aux_lemma =>
                go_wp2
                exact ⟨⟨1, by decide, by decide, rfl, congrArg (Value.int .i64) ((IntWalk.wrap64_in _ ⟨by decide, by decide⟩).trans (by decide)), HY.alloc HY.size _⟩, by decide⟩
            · as_aux_lemma =>
                go_wp2
                exact ⟨⟨2, by decide, by decide, rfl, congrArg (Value.int .i64) ((IntWalk.wrap64_in _ ⟨by decide, by decide⟩).trans (by decide)), HY.alloc HY.size _⟩, by decide⟩
            · as_aux_lemma =>
                go_wp2
                exact ⟨⟨3, by decide, by decide, rfl, congrArg (Value.int .i64) ((IntWalk.wrap64_in _ ⟨by decide, by decide⟩).trans (by decide)), HY.alloc HY.size _⟩, by decide⟩
            · as_aux_lemma =>
                go_wp2
                exact ⟨⟨1, by decide, by decide, rfl, congrArg (Value.int .i64) ((IntWalk.wrap64_in _ ⟨by decide, by decide⟩).trans (by decide)), HY.alloc HY.size _⟩, by decide⟩
            · as_aux_lemma =>
                go_wp2
                exact ⟨⟨2, by decide, by decide, rfl, congrArg (Value.int .i64) ((IntWalk.wrap64_in _ ⟨by decide, by decide⟩).trans (by decide)), HY.alloc HY.size _⟩, by decide⟩
            · as_aux_lemma =>
                go_wp2
                exact ⟨⟨3, by decide, by decide, rfl, congrArg (Value.int .i64) ((IntWalk.wrap64_in _ ⟨by decide, by decide⟩).trans (by decide)), HY.alloc HY.size _⟩, by decide⟩
          · obtain rfl : j = 3 := by omega
            have hs : sumTo v1 v2 v3 3 = 1 := by rcases hv with ⟨rfl, rfl, rfl⟩ | ⟨rfl, rfl, rfl⟩ | ⟨rfl, rfl, rfl⟩ <;> rfl
            have T3 : wr.cell? ⟨w.heap.size, 0, none⟩ = some (.int .i64 n) ∧ wr.cell? ⟨w.heap.size, 1, none⟩ = some (.int .u64 a) ∧ wr.cell? ⟨w.heap.size + 1, 0, none⟩ = some (.int .i64 n) ∧ wr.cell? ⟨w.heap.size + 1, 1, none⟩ = some (.int .u64 b) ∧ wr.cell? ⟨w.heap.size + 1 + 1, 0, none⟩ = some (.int .i64 n) ∧ wr.cell? ⟨w.heap.size + 1 + 1, 1, none⟩ = some (.int .u64 c) ∧ wr.cell? ⟨w3.heap.size, 0, none⟩ = some (.int .i64 1) ∧ wr.cell? ⟨w3.heap.size, 1, none⟩ = some (.int .u64 1) ∧ wr.cell? ⟨w3.heap.size + 1, 0, none⟩ = some (.int .i64 1) ∧ wr.cell? ⟨w3.heap.size + 1, 1, none⟩ = some (.int .u64 0) ∧ wr.cell? ⟨p, 0, none⟩ = some (.int .i64 n) ∧ wr.cell? ⟨p, 1, none⟩ = some (.int .u64 H) ∧ wr.cell? ⟨wc.heap.size, 0, none⟩ = some (.int .i64 13) ∧ wr.cell? ⟨wc.heap.size, 1, none⟩ = some (.int .i64 14) ∧ Below w.heap.size w wr := ⟨cell_later HY T2.1, cell_later HY T2.2.1, cell_later HY T2.2.2.1, cell_later HY T2.2.2.2.1, cell_later HY T2.2.2.2.2.1, cell_later HY T2.2.2.2.2.2.1, cell_later HY T2.2.2.2.2.2.2.1, cell_later HY T2.2.2.2.2.2.2.2.1, cell_later HY T2.2.2.2.2.2.2.2.2.1, cell_later HY T2.2.2.2.2.2.2.2.2.2.1, cell_later HY T2.2.2.2.2.2.2.2.2.2.2.1, cell_later HY T2.2.2.2.2.2.2.2.2.2.2.2.1, cell_later HY T2.2.2.2.2.2.2.2.2.2.2.2.2.1, cell_later HY T2.2.2.2.2.2.2.2.2.2.2.2.2.2.1, T2.2.2.2.2.2.2.2.2.2.2.2.2.2.2.trans (HY.mono T2.2.2.2.2.2.2.2.2.2.2.2.2.2.2.size)⟩
            clear T2 HY Y0 Y1 Y2 Y3 Y4 Y5 Z0 Z1 Z2 Z3 Z4 Z5 F0 F1 F2 F3
            have h01 : v1 = 0 ∨ v1 = 1 := by rcases hv with ⟨h, _, _⟩ | ⟨h, _, _⟩ | ⟨h, _, _⟩ <;> omega
            clear hv
            rcases h01 with rfl | rfl
            · as_aux_lemma =>
                go_wp2_with fail
                refine wp_region_held_drew (S := (fun w' => w'.cell? ⟨w.heap.size, 0, none⟩ = some (.int .i64 n) ∧ w'.cell? ⟨w.heap.size, 1, none⟩ = some (.int .u64 a) ∧ w'.cell? ⟨w.heap.size + 1, 0, none⟩ = some (.int .i64 n) ∧ w'.cell? ⟨w.heap.size + 1, 1, none⟩ = some (.int .u64 b) ∧ w'.cell? ⟨w.heap.size + 1 + 1, 0, none⟩ = some (.int .i64 n) ∧ w'.cell? ⟨w.heap.size + 1 + 1, 1, none⟩ = some (.int .u64 c) ∧ w'.cell? ⟨w3.heap.size, 0, none⟩ = some (.int .i64 1) ∧ w'.cell? ⟨w3.heap.size, 1, none⟩ = some (.int .u64 1) ∧ w'.cell? ⟨w3.heap.size + 1, 0, none⟩ = some (.int .i64 1) ∧ w'.cell? ⟨w3.heap.size + 1, 1, none⟩ = some (.int .u64 0) ∧ w'.cell? ⟨p, 0, none⟩ = some (.int .i64 n) ∧ w'.cell? ⟨p, 1, none⟩ = some (.int .u64 H) ∧ w'.cell? ⟨wc.heap.size, 0, none⟩ = some (.int .i64 13) ∧ w'.cell? ⟨wc.heap.size, 1, none⟩ = some (.int .i64 14) ∧ Below w.heap.size w w')) (by kernel_rfl) (drew14 T3) (fun hHeld => ?_)
                refine wpAnyH_take (i := 0) (v := ?_) rfl (by kernel_rfl) (by kernel_rfl) (by kernel_rfl) (fun _ _ _ h => h) (Or.inl ⟨by rfl, ?_⟩) (by assumption) ?_
                rotate_left
                · (intro w hSw; (try dsimp only at hSw); go_simp; try (with_reducible rfl))
                try simp only [Act.put, List.getElem_toArray, List.getElem_cons_zero, List.setIfInBounds_toArray, List.set_cons_zero, List.set_cons_succ]
                refine wpAnyH_take (i := 1) (v := ?_) rfl (by kernel_rfl) (by kernel_rfl) (by kernel_rfl) (fun _ _ _ h => h) (Or.inl ⟨by rfl, ?_⟩) (by assumption) ?_
                rotate_left
                · (intro w hSw; (try dsimp only at hSw); go_simp; try (with_reducible rfl))
                try simp only [Act.put, List.getElem_toArray, List.getElem_cons_zero, List.getElem_cons_succ, List.setIfInBounds_toArray, List.set_cons_zero, List.set_cons_succ]
                refine wpAnyH_take (i := 2) (v := ?_) rfl (by kernel_rfl) (by kernel_rfl) (by kernel_rfl) (fun _ _ _ h => h) (Or.inl ⟨by rfl, ?_⟩) (by assumption) ?_
                rotate_left
                · (intro w hSw; (try dsimp only at hSw); go_simp; try (with_reducible rfl))
                try simp only [Act.put, List.getElem_toArray, List.getElem_cons_zero, List.getElem_cons_succ, List.setIfInBounds_toArray, List.set_cons_zero, List.set_cons_succ]
                refine wpAnyH_take (i := 3) (v := ?_) rfl (by kernel_rfl) (by kernel_rfl) (by kernel_rfl) (fun _ _ _ h => h) (Or.inl ⟨by rfl, ?_⟩) (by assumption) ?_
                rotate_left
                · (intro w hSw; (try dsimp only at hSw); go_simp; try (with_reducible rfl))
                try simp only [Act.put, List.getElem_toArray, List.getElem_cons_zero, List.getElem_cons_succ, List.setIfInBounds_toArray, List.set_cons_zero, List.set_cons_succ]
                refine wpAnyH_take (i := 4) (v := ?_) rfl (by kernel_rfl) (by kernel_rfl) (by kernel_rfl) (fun _ _ _ h => h) (Or.inl ⟨by rfl, ?_⟩) (by assumption) ?_
                rotate_left
                · (intro w hSw; (try dsimp only at hSw); go_simp; try (with_reducible rfl))
                try simp only [Act.put, List.getElem_toArray, List.getElem_cons_zero, List.getElem_cons_succ, List.setIfInBounds_toArray, List.set_cons_zero, List.set_cons_succ]
                refine wpAnyH_take (i := 5) (v := ?_) rfl (by kernel_rfl) (by kernel_rfl) (by kernel_rfl) (fun _ _ _ h => h) (Or.inl ⟨by rfl, ?_⟩) (by assumption) ?_
                rotate_left
                · (intro w hSw; (try dsimp only at hSw); go_simp; try (with_reducible rfl))
                try simp only [Act.put, List.getElem_toArray, List.getElem_cons_zero, List.getElem_cons_succ, List.setIfInBounds_toArray, List.set_cons_zero, List.set_cons_succ]
                refine wpAnyH_take (i := 7) (v := ?_) rfl (by kernel_rfl) (by kernel_rfl) (by kernel_rfl) (fun _ _ _ h => h) (Or.inl ⟨by rfl, ?_⟩) (by assumption) ?_
                rotate_left
                · (intro w hSw; (try dsimp only at hSw); go_simp; try (with_reducible rfl))
                try simp only [Act.put, List.getElem_toArray, List.getElem_cons_zero, List.getElem_cons_succ, List.setIfInBounds_toArray, List.set_cons_zero, List.set_cons_succ]
                refine wpAnyH_ready (rs := [6]) (by kernel_rfl) (by simp) ?_
                refine AllReadyH.cons rfl (fun K hK => ?_) AllReadyH.nil
                go_simp
                refine (binUse C1 _).mono ?_
                rintro e w9 ⟨rfl, hb9⟩
                refine hK.out _ _ (later14 hb9 ‹_›) (fun hHeld => ?_)
                clear hK hb9
                try simp only [Act.put, List.getElem_toArray, List.getElem_cons_zero, List.getElem_cons_succ, List.setIfInBounds_toArray, List.set_cons_zero, List.set_cons_succ]
                refine wpAnyH_take (i := 8) (v := ?_) rfl (by kernel_rfl) (by kernel_rfl) (by kernel_rfl) (fun _ _ _ h => h) (Or.inl ⟨by rfl, ?_⟩) (by assumption) ?_
                rotate_left
                · (intro w hSw; (try dsimp only at hSw); go_simp; try (with_reducible rfl))
                try simp only [Act.put, List.getElem_toArray, List.getElem_cons_zero, List.getElem_cons_succ, List.setIfInBounds_toArray, List.set_cons_zero, List.set_cons_succ]
                refine wpAnyH_take (i := 9) (v := ?_) rfl (by kernel_rfl) (by kernel_rfl) (by kernel_rfl) (fun _ _ _ h => h) (Or.inl ⟨by rfl, ?_⟩) (by assumption) ?_
                rotate_left
                · (intro w hSw; (try dsimp only at hSw); go_simp; try (with_reducible rfl))
                try simp only [Act.put, List.getElem_toArray, List.getElem_cons_zero, List.getElem_cons_succ, List.setIfInBounds_toArray, List.set_cons_zero, List.set_cons_succ]
                refine wpAnyH_take (i := 10) (v := undef) rfl (by kernel_rfl) (by kernel_rfl) (by kernel_rfl) (fun _ _ _ h => h) (Or.inr ⟨by rfl, rfl⟩) (by assumption) ?_
                try simp only [Act.put, List.getElem_toArray, List.getElem_cons_zero, List.getElem_cons_succ, List.setIfInBounds_toArray, List.set_cons_zero, List.set_cons_succ]
                refine wpAnyH_take (i := 11) (v := undef) rfl (by kernel_rfl) (by kernel_rfl) (by kernel_rfl) (fun _ _ _ h => h) (Or.inr ⟨by rfl, rfl⟩) (by assumption) ?_
                try simp only [Act.put, List.getElem_toArray, List.getElem_cons_zero, List.getElem_cons_succ, List.setIfInBounds_toArray, List.set_cons_zero, List.set_cons_succ]
                refine wpAnyH_take (i := 12) (v := undef) rfl (by kernel_rfl) (by kernel_rfl) (by kernel_rfl) (fun _ _ _ h => h) (Or.inr ⟨by rfl, rfl⟩) (by assumption) ?_
                try simp only [Act.put, List.getElem_toArray, List.getElem_cons_zero, List.getElem_cons_succ, List.setIfInBounds_toArray, List.set_cons_zero, List.set_cons_succ]
                refine wpAnyH_take (i := 14) (v := undef) rfl (by kernel_rfl) (by kernel_rfl) (by kernel_rfl) (fun _ _ _ h => h) (Or.inr ⟨by rfl, rfl⟩) (by assumption) ?_
                try simp only [Act.put, List.getElem_toArray, List.getElem_cons_zero, List.getElem_cons_succ, List.setIfInBounds_toArray, List.set_cons_zero, List.set_cons_succ]
                refine wpAnyH_take (i := 13) (v := undef) rfl (by kernel_rfl) (by kernel_rfl) (by kernel_rfl) (fun _ _ _ h => h) (Or.inr ⟨by rfl, rfl⟩) (by assumption) ?_
                try simp only [Act.put, List.getElem_toArray, List.getElem_cons_zero, List.getElem_cons_succ, List.setIfInBounds_toArray, List.set_cons_zero, List.set_cons_succ]
                refine wpAnyH_take (i := 15) (v := undef) rfl (by kernel_rfl) (by kernel_rfl) (by kernel_rfl) (fun _ _ _ h => h) (Or.inr ⟨by rfl, rfl⟩) (by assumption) ?_
                try simp only [Act.put, List.getElem_toArray, List.getElem_cons_zero, List.getElem_cons_succ, List.setIfInBounds_toArray, List.set_cons_zero, List.set_cons_succ]
                refine wpAnyH_take (i := 16) (v := ?_) rfl (by kernel_rfl) (by kernel_rfl) (by kernel_rfl) (fun _ _ _ h => h) (Or.inl ⟨by rfl, ?_⟩) (by assumption) ?_
                rotate_left
                · (intro w hSw; (try dsimp only at hSw); go_simp; try (with_reducible rfl))
                try simp only [Act.put, List.getElem_toArray, List.getElem_cons_zero, List.getElem_cons_succ, List.setIfInBounds_toArray, List.set_cons_zero, List.set_cons_succ]
                refine wpAnyH_take (i := 17) (v := ?_) rfl (by kernel_rfl) (by kernel_rfl) (by kernel_rfl) (fun _ _ _ h => h) (Or.inl ⟨by rfl, ?_⟩) (by assumption) ?_
                rotate_left
                · (intro w hSw; (try dsimp only at hSw); go_simp; try (with_reducible rfl))
                try simp only [Act.put, List.getElem_toArray, List.getElem_cons_zero, List.getElem_cons_succ, List.setIfInBounds_toArray, List.set_cons_zero, List.set_cons_succ]
                refine wpAnyH_take (i := 18) (v := undef) rfl (by kernel_rfl) (by kernel_rfl) (by kernel_rfl) (fun _ _ _ h => h) (Or.inr ⟨by rfl, rfl⟩) (by assumption) ?_
                try simp only [Act.put, List.getElem_toArray, List.getElem_cons_zero, List.getElem_cons_succ, List.setIfInBounds_toArray, List.set_cons_zero, List.set_cons_succ]
                refine wpAnyH_take (i := 19) (v := undef) rfl (by kernel_rfl) (by kernel_rfl) (by kernel_rfl) (fun _ _ _ h => h) (Or.inr ⟨by rfl, rfl⟩) (by assumption) ?_
                try simp only [Act.put, List.getElem_toArray, List.getElem_cons_zero, List.getElem_cons_succ, List.setIfInBounds_toArray, List.set_cons_zero, List.set_cons_succ]
                refine wpAnyH_take (i := 20) (v := undef) rfl (by kernel_rfl) (by kernel_rfl) (by kernel_rfl) (fun _ _ _ h => h) (Or.inr ⟨by rfl, rfl⟩) (by assumption) ?_
                try simp only [Act.put, List.getElem_toArray, List.getElem_cons_zero, List.getElem_cons_succ, List.setIfInBounds_toArray, List.set_cons_zero, List.set_cons_succ]
                refine wpAnyH_take (i := 22) (v := undef) rfl (by kernel_rfl) (by kernel_rfl) (by kernel_rfl) (fun _ _ _ h => h) (Or.inr ⟨by rfl, rfl⟩) (by assumption) ?_
                try simp only [Act.put, List.getElem_toArray, List.getElem_cons_zero, List.getElem_cons_succ, List.setIfInBounds_toArray, List.set_cons_zero, List.set_cons_succ]
                refine wpAnyH_take (i := 21) (v := undef) rfl (by kernel_rfl) (by kernel_rfl) (by kernel_rfl) (fun _ _ _ h => h) (Or.inr ⟨by rfl, rfl⟩) (by assumption) ?_
                try simp only [Act.put, List.getElem_toArray, List.getElem_cons_zero, List.getElem_cons_succ, List.setIfInBounds_toArray, List.set_cons_zero, List.set_cons_succ]
                refine wpAnyH_take (i := 23) (v := undef) rfl (by kernel_rfl) (by kernel_rfl) (by kernel_rfl) (fun _ _ _ h => h) (Or.inr ⟨by rfl, rfl⟩) (by assumption) ?_
                try simp only [Act.put, List.getElem_toArray, List.getElem_cons_zero, List.getElem_cons_succ, List.setIfInBounds_toArray, List.set_cons_zero, List.set_cons_succ]
                refine wpAnyH_take (i := 24) (v := ?_) rfl (by kernel_rfl) (by kernel_rfl) (by kernel_rfl) (fun _ _ _ h => h) (Or.inl ⟨by rfl, ?_⟩) (by assumption) ?_
                rotate_left
                · (intro w hSw; (try dsimp only at hSw); go_simp; try (with_reducible rfl))
                try simp only [Act.put, List.getElem_toArray, List.getElem_cons_zero, List.getElem_cons_succ, List.setIfInBounds_toArray, List.set_cons_zero, List.set_cons_succ]
                refine wpAnyH_take (i := 25) (v := ?_) rfl (by kernel_rfl) (by kernel_rfl) (by kernel_rfl) (fun _ _ _ h => h) (Or.inl ⟨by rfl, ?_⟩) (by assumption) ?_
                rotate_left
                · (intro w hSw; (try dsimp only at hSw); go_simp; try (with_reducible rfl))
                try simp only [Act.put, List.getElem_toArray, List.getElem_cons_zero, List.getElem_cons_succ, List.setIfInBounds_toArray, List.set_cons_zero, List.set_cons_succ]
                refine wpAnyH_done (by kernel_rfl) ?_ _
                go_wp2
                go_roundw
                case rel => exact ⟨t + 1, by omega, by omega, by go_num, by assumption⟩
                case measure => simp [intOf]; omega
            · rcases hx with rfl | rfl
              · as_aux_lemma =>
                  go_wp2_with fail
                  refine wp_region_held_drew (S := (fun w' => w'.cell? ⟨w.heap.size, 0, none⟩ = some (.int .i64 n) ∧ w'.cell? ⟨w.heap.size, 1, none⟩ = some (.int .u64 a) ∧ w'.cell? ⟨w.heap.size + 1, 0, none⟩ = some (.int .i64 n) ∧ w'.cell? ⟨w.heap.size + 1, 1, none⟩ = some (.int .u64 b) ∧ w'.cell? ⟨w.heap.size + 1 + 1, 0, none⟩ = some (.int .i64 n) ∧ w'.cell? ⟨w.heap.size + 1 + 1, 1, none⟩ = some (.int .u64 c) ∧ w'.cell? ⟨w3.heap.size, 0, none⟩ = some (.int .i64 1) ∧ w'.cell? ⟨w3.heap.size, 1, none⟩ = some (.int .u64 1) ∧ w'.cell? ⟨w3.heap.size + 1, 0, none⟩ = some (.int .i64 1) ∧ w'.cell? ⟨w3.heap.size + 1, 1, none⟩ = some (.int .u64 0) ∧ w'.cell? ⟨p, 0, none⟩ = some (.int .i64 n) ∧ w'.cell? ⟨p, 1, none⟩ = some (.int .u64 H) ∧ w'.cell? ⟨wc.heap.size, 0, none⟩ = some (.int .i64 13) ∧ w'.cell? ⟨wc.heap.size, 1, none⟩ = some (.int .i64 14) ∧ Below w.heap.size w w')) (by kernel_rfl) (drew14 T3) (fun hHeld => ?_)
                  refine wpAnyH_take (i := 0) (v := ?_) rfl (by kernel_rfl) (by kernel_rfl) (by kernel_rfl) (fun _ _ _ h => h) (Or.inl ⟨by rfl, ?_⟩) (by assumption) ?_
                  rotate_left
                  · (intro w hSw; (try dsimp only at hSw); go_simp; try (with_reducible rfl))
                  try simp only [Act.put, List.getElem_toArray, List.getElem_cons_zero, List.setIfInBounds_toArray, List.set_cons_zero, List.set_cons_succ]
                  refine wpAnyH_take (i := 1) (v := ?_) rfl (by kernel_rfl) (by kernel_rfl) (by kernel_rfl) (fun _ _ _ h => h) (Or.inl ⟨by rfl, ?_⟩) (by assumption) ?_
                  rotate_left
                  · (intro w hSw; (try dsimp only at hSw); go_simp; try (with_reducible rfl))
                  try simp only [Act.put, List.getElem_toArray, List.getElem_cons_zero, List.getElem_cons_succ, List.setIfInBounds_toArray, List.set_cons_zero, List.set_cons_succ]
                  refine wpAnyH_take (i := 2) (v := ?_) rfl (by kernel_rfl) (by kernel_rfl) (by kernel_rfl) (fun _ _ _ h => h) (Or.inl ⟨by rfl, ?_⟩) (by assumption) ?_
                  rotate_left
                  · (intro w hSw; (try dsimp only at hSw); go_simp; try (with_reducible rfl))
                  try simp only [Act.put, List.getElem_toArray, List.getElem_cons_zero, List.getElem_cons_succ, List.setIfInBounds_toArray, List.set_cons_zero, List.set_cons_succ]
                  refine wpAnyH_take (i := 3) (v := ?_) rfl (by kernel_rfl) (by kernel_rfl) (by kernel_rfl) (fun _ _ _ h => h) (Or.inl ⟨by rfl, ?_⟩) (by assumption) ?_
                  rotate_left
                  · (intro w hSw; (try dsimp only at hSw); go_simp; try (with_reducible rfl))
                  try simp only [Act.put, List.getElem_toArray, List.getElem_cons_zero, List.getElem_cons_succ, List.setIfInBounds_toArray, List.set_cons_zero, List.set_cons_succ]
                  refine wpAnyH_take (i := 4) (v := ?_) rfl (by kernel_rfl) (by kernel_rfl) (by kernel_rfl) (fun _ _ _ h => h) (Or.inl ⟨by rfl, ?_⟩) (by assumption) ?_
                  rotate_left
                  · (intro w hSw; (try dsimp only at hSw); go_simp; try (with_reducible rfl))
                  try simp only [Act.put, List.getElem_toArray, List.getElem_cons_zero, List.getElem_cons_succ, List.setIfInBounds_toArray, List.set_cons_zero, List.set_cons_succ]
                  refine wpAnyH_take (i := 5) (v := ?_) rfl (by kernel_rfl) (by kernel_rfl) (by kernel_rfl) (fun _ _ _ h => h) (Or.inl ⟨by rfl, ?_⟩) (by assumption) ?_
                  rotate_left
                  · (intro w hSw; (try dsimp only at hSw); go_simp; try (with_reducible rfl))
                  try simp only [Act.put, List.getElem_toArray, List.getElem_cons_zero, List.getElem_cons_succ, List.setIfInBounds_toArray, List.set_cons_zero, List.set_cons_succ]
                  refine wpAnyH_take (i := 7) (v := ?_) rfl (by kernel_rfl) (by kernel_rfl) (by kernel_rfl) (fun _ _ _ h => h) (Or.inl ⟨by rfl, ?_⟩) (by assumption) ?_
                  rotate_left
                  · (intro w hSw; (try dsimp only at hSw); go_simp; try (with_reducible rfl))
                  try simp only [Act.put, List.getElem_toArray, List.getElem_cons_zero, List.getElem_cons_succ, List.setIfInBounds_toArray, List.set_cons_zero, List.set_cons_succ]
                  refine wpAnyH_ready (rs := [6]) (by kernel_rfl) (by simp) ?_
                  refine AllReadyH.cons rfl (fun K hK => ?_) AllReadyH.nil
                  go_simp
                  refine (binUse C1 _).mono ?_
                  rintro e w9 ⟨rfl, hb9⟩
                  refine hK.out _ _ (later14 hb9 ‹_›) (fun hHeld => ?_)
                  clear hK hb9
                  try simp only [Act.put, List.getElem_toArray, List.getElem_cons_zero, List.getElem_cons_succ, List.setIfInBounds_toArray, List.set_cons_zero, List.set_cons_succ]
                  refine wpAnyH_take (i := 8) (v := ?_) rfl (by kernel_rfl) (by kernel_rfl) (by kernel_rfl) (fun _ _ _ h => h) (Or.inl ⟨by rfl, ?_⟩) (by assumption) ?_
                  rotate_left
                  · (intro w hSw; (try dsimp only at hSw); go_simp; try (with_reducible rfl))
                  try simp only [Act.put, List.getElem_toArray, List.getElem_cons_zero, List.getElem_cons_succ, List.setIfInBounds_toArray, List.set_cons_zero, List.set_cons_succ]
                  refine wpAnyH_take (i := 9) (v := ?_) rfl (by kernel_rfl) (by kernel_rfl) (by kernel_rfl) (fun _ _ _ h => h) (Or.inl ⟨by rfl, ?_⟩) (by assumption) ?_
                  rotate_left
                  · (intro w hSw; (try dsimp only at hSw); go_simp; try (with_reducible rfl))
                  try simp only [Act.put, List.getElem_toArray, List.getElem_cons_zero, List.getElem_cons_succ, List.setIfInBounds_toArray, List.set_cons_zero, List.set_cons_succ]
                  refine wpAnyH_take (i := 10) (v := ?_) rfl (by kernel_rfl) (by kernel_rfl) (by kernel_rfl) (fun _ _ _ h => h) (Or.inl ⟨by rfl, ?_⟩) (by assumption) ?_
                  rotate_left
                  · (intro w hSw; (try dsimp only at hSw); go_simp; try (with_reducible rfl))
                  try simp only [Act.put, List.getElem_toArray, List.getElem_cons_zero, List.getElem_cons_succ, List.setIfInBounds_toArray, List.set_cons_zero, List.set_cons_succ]
                  refine wpAnyH_take (i := 11) (v := ?_) rfl (by kernel_rfl) (by kernel_rfl) (by kernel_rfl) (fun _ _ _ h => h) (Or.inl ⟨by rfl, ?_⟩) (by assumption) ?_
                  rotate_left
                  · (intro w hSw; (try dsimp only at hSw); go_simp; try (with_reducible rfl))
                  try simp only [Act.put, List.getElem_toArray, List.getElem_cons_zero, List.getElem_cons_succ, List.setIfInBounds_toArray, List.set_cons_zero, List.set_cons_succ]
                  refine wpAnyH_take (i := 12) (v := ?_) rfl (by kernel_rfl) (by kernel_rfl) (by kernel_rfl) (fun _ _ _ h => h) (Or.inl ⟨by rfl, ?_⟩) (by assumption) ?_
                  rotate_left
                  · (intro w hSw; (try dsimp only at hSw); go_simp; try (with_reducible rfl))
                  try simp only [Act.put, List.getElem_toArray, List.getElem_cons_zero, List.getElem_cons_succ, List.setIfInBounds_toArray, List.set_cons_zero, List.set_cons_succ]
                  refine wpAnyH_take (i := 14) (v := ?_) rfl (by kernel_rfl) (by kernel_rfl) (by kernel_rfl) (fun _ _ _ h => h) (Or.inl ⟨by rfl, ?_⟩) (by assumption) ?_
                  rotate_left
                  · (intro w hSw; (try dsimp only at hSw); go_simp; try (with_reducible rfl))
                  try simp only [Act.put, List.getElem_toArray, List.getElem_cons_zero, List.getElem_cons_succ, List.setIfInBounds_toArray, List.set_cons_zero, List.set_cons_succ]
                  refine wpAnyH_ready (rs := [13]) (by kernel_rfl) (by simp) ?_
                  refine AllReadyH.cons rfl (fun K hK => ?_) AllReadyH.nil
                  go_simp
                  refine (binUse CX _).mono ?_
                  rintro e w9 ⟨rfl, hb9⟩
                  refine hK.out _ _ (later14 hb9 ‹_›) (fun hHeld => ?_)
                  clear hK hb9
                  try simp only [Act.put, List.getElem_toArray, List.getElem_cons_zero, List.getElem_cons_succ, List.setIfInBounds_toArray, List.set_cons_zero, List.set_cons_succ]
                  refine wpAnyH_take (i := 15) (v := ?_) rfl (by kernel_rfl) (by kernel_rfl) (by kernel_rfl) (fun _ _ _ h => h) (Or.inl ⟨by rfl, ?_⟩) (by assumption) ?_
                  rotate_left
                  · (intro w hSw; (try dsimp only at hSw); go_simp; try (with_reducible rfl))
                  try simp only [Act.put, List.getElem_toArray, List.getElem_cons_zero, List.getElem_cons_succ, List.setIfInBounds_toArray, List.set_cons_zero, List.set_cons_succ]
                  refine wpAnyH_take (i := 16) (v := ?_) rfl (by kernel_rfl) (by kernel_rfl) (by kernel_rfl) (fun _ _ _ h => h) (Or.inl ⟨by rfl, ?_⟩) (by assumption) ?_
                  rotate_left
                  · (intro w hSw; (try dsimp only at hSw); go_simp; try (with_reducible rfl))
                  try simp only [Act.put, List.getElem_toArray, List.getElem_cons_zero, List.getElem_cons_succ, List.setIfInBounds_toArray, List.set_cons_zero, List.set_cons_succ]
                  refine wpAnyH_take (i := 17) (v := ?_) rfl (by kernel_rfl) (by kernel_rfl) (by kernel_rfl) (fun _ _ _ h => h) (Or.inl ⟨by rfl, ?_⟩) (by assumption) ?_
                  rotate_left
                  · (intro w hSw; (try dsimp only at hSw); go_simp; try (with_reducible rfl))
                  try simp only [Act.put, List.getElem_toArray, List.getElem_cons_zero, List.getElem_cons_succ, List.setIfInBounds_toArray, List.set_cons_zero, List.set_cons_succ]
                  refine wpAnyH_take (i := 18) (v := undef) rfl (by kernel_rfl) (by kernel_rfl) (by kernel_rfl) (fun _ _ _ h => h) (Or.inr ⟨by rfl, rfl⟩) (by assumption) ?_
                  try simp only [Act.put, List.getElem_toArray, List.getElem_cons_zero, List.getElem_cons_succ, List.setIfInBounds_toArray, List.set_cons_zero, List.set_cons_succ]
                  refine wpAnyH_take (i := 19) (v := undef) rfl (by kernel_rfl) (by kernel_rfl) (by kernel_rfl) (fun _ _ _ h => h) (Or.inr ⟨by rfl, rfl⟩) (by assumption) ?_
                  try simp only [Act.put, List.getElem_toArray, List.getElem_cons_zero, List.getElem_cons_succ, List.setIfInBounds_toArray, List.set_cons_zero, List.set_cons_succ]
                  refine wpAnyH_take (i := 20) (v := undef) rfl (by kernel_rfl) (by kernel_rfl) (by kernel_rfl) (fun _ _ _ h => h) (Or.inr ⟨by rfl, rfl⟩) (by assumption) ?_
                  try simp only [Act.put, List.getElem_toArray, List.getElem_cons_zero, List.getElem_cons_succ, List.setIfInBounds_toArray, List.set_cons_zero, List.set_cons_succ]
                  refine wpAnyH_take (i := 22) (v := undef) rfl (by kernel_rfl) (by kernel_rfl) (by kernel_rfl) (fun _ _ _ h => h) (Or.inr ⟨by rfl, rfl⟩) (by assumption) ?_
                  try simp only [Act.put, List.getElem_toArray, List.getElem_cons_zero, List.getElem_cons_succ, List.setIfInBounds_toArray, List.set_cons_zero, List.set_cons_succ]
                  refine wpAnyH_take (i := 21) (v := undef) rfl (by kernel_rfl) (by kernel_rfl) (by kernel_rfl) (fun _ _ _ h => h) (Or.inr ⟨by rfl, rfl⟩) (by assumption) ?_
                  try simp only [Act.put, List.getElem_toArray, List.getElem_cons_zero, List.getElem_cons_succ, List.setIfInBounds_toArray, List.set_cons_zero, List.set_cons_succ]
                  refine wpAnyH_take (i := 23) (v := undef) rfl (by kernel_rfl) (by kernel_rfl) (by kernel_rfl) (fun _ _ _ h => h) (Or.inr ⟨by rfl, rfl⟩) (by assumption) ?_
                  try simp only [Act.put, List.getElem_toArray, List.getElem_cons_zero, List.getElem_cons_succ, List.setIfInBounds_toArray, List.set_cons_zero, List.set_cons_succ]
                  refine wpAnyH_take (i := 24) (v := ?_) rfl (by kernel_rfl) (by kernel_rfl) (by kernel_rfl) (fun _ _ _ h => h) (Or.inl ⟨by rfl, ?_⟩) (by assumption) ?_
                  rotate_left
                  · (intro w hSw; (try dsimp only at hSw); go_simp; try (with_reducible rfl))
                  try simp only [Act.put, List.getElem_toArray, List.getElem_cons_zero, List.getElem_cons_succ, List.setIfInBounds_toArray, List.set_cons_zero, List.set_cons_succ]
                  refine wpAnyH_take (i := 25) (v := ?_) rfl (by kernel_rfl) (by kernel_rfl) (by kernel_rfl) (fun _ _ _ h => h) (Or.inl ⟨by rfl, ?_⟩) (by assumption) ?_
                  rotate_left
                  · (intro w hSw; (try dsimp only at hSw); go_simp; try (with_reducible rfl))
                  try simp only [Act.put, List.getElem_toArray, List.getElem_cons_zero, List.getElem_cons_succ, List.setIfInBounds_toArray, List.set_cons_zero, List.set_cons_succ]
                  refine wpAnyH_done (by kernel_rfl) ?_ _
                  go_wp2
                  go_roundw
                  case rel => exact ⟨t + 1, by omega, by omega, by go_num, by assumption⟩
                  case measure => simp [intOf]; omega
              · obtain rfl := hy rfl rfl
                as_aux_lemma =>
                  go_wp2_with fail
                  go_region_held3 (fun w' => w'.cell? ⟨w.heap.size, 0, none⟩ = some (.int .i64 n) ∧ w'.cell? ⟨w.heap.size, 1, none⟩ = some (.int .u64 a) ∧ w'.cell? ⟨w.heap.size + 1, 0, none⟩ = some (.int .i64 n) ∧ w'.cell? ⟨w.heap.size + 1, 1, none⟩ = some (.int .u64 b) ∧ w'.cell? ⟨w.heap.size + 1 + 1, 0, none⟩ = some (.int .i64 n) ∧ w'.cell? ⟨w.heap.size + 1 + 1, 1, none⟩ = some (.int .u64 c) ∧ w'.cell? ⟨w3.heap.size, 0, none⟩ = some (.int .i64 1) ∧ w'.cell? ⟨w3.heap.size, 1, none⟩ = some (.int .u64 1) ∧ w'.cell? ⟨w3.heap.size + 1, 0, none⟩ = some (.int .i64 1) ∧ w'.cell? ⟨w3.heap.size + 1, 1, none⟩ = some (.int .u64 0) ∧ w'.cell? ⟨p, 0, none⟩ = some (.int .i64 n) ∧ w'.cell? ⟨p, 1, none⟩ = some (.int .u64 H) ∧ w'.cell? ⟨wc.heap.size, 0, none⟩ = some (.int .i64 13) ∧ w'.cell? ⟨wc.heap.size, 1, none⟩ = some (.int .i64 14) ∧ Below w.heap.size w w') (first | assumption | exact later14 ‹_› ‹_› | exact drew14 ‹_›)
                    (first
                      | (go_at_call 26; ((with_reducible refine (binUse C1 _).mono ?_); rintro e w9 ⟨rfl, hb9⟩))
                      | (go_at_call 26; ((with_reducible refine (binUse CX _).mono ?_); rintro e w9 ⟨rfl, hb9⟩))
                      | (go_at_call 26; ((with_reducible refine (binUse CY _).mono ?_); rintro e w9 ⟨rfl, hb9⟩)))
                  go_wp2
                  go_roundw
                  case rel => exact ⟨t + 1, by omega, by omega, by go_num, by assumption⟩
                  case measure => simp [intOf]; omega
      · go_wp2_with fail
        go_region_held3 (fun w' => w'.cell? ⟨w.heap.size, 0, none⟩ = some (.int .i64 n) ∧ w'.cell? ⟨w.heap.size, 1, none⟩ = some (.int .u64 a) ∧ w'.cell? ⟨w.heap.size + 1, 0, none⟩ = some (.int .i64 n) ∧ w'.cell? ⟨w.heap.size + 1, 1, none⟩ = some (.int .u64 b) ∧ w'.cell? ⟨w.heap.size + 1 + 1, 0, none⟩ = some (.int .i64 n) ∧ w'.cell? ⟨w.heap.size + 1 + 1, 1, none⟩ = some (.int .u64 c) ∧ w'.cell? ⟨w3.heap.size, 0, none⟩ = some (.int .i64 1) ∧ w'.cell? ⟨w3.heap.size, 1, none⟩ = some (.int .u64 1) ∧ w'.cell? ⟨w3.heap.size + 1, 0, none⟩ = some (.int .i64 1) ∧ w'.cell? ⟨w3.heap.size + 1, 1, none⟩ = some (.int .u64 0) ∧ w'.cell? ⟨p, 0, none⟩ = some (.int .i64 n) ∧ w'.cell? ⟨p, 1, none⟩ = some (.int .u64 H) ∧ w'.cell? ⟨wc.heap.size, 0, none⟩ = some (.int .i64 13) ∧ w'.cell? ⟨wc.heap.size, 1, none⟩ = some (.int .i64 14) ∧ Below w.heap.size w w') (first | assumption | exact later14 ‹_› ‹_› | exact drew14 ‹_›)
          (first
            | (go_at_call 26; ((with_reducible refine (binUse C14 _).mono ?_); rintro e w9 ⟨rfl, hb9⟩))
            | (go_at_call 26; ((with_reducible refine (binUse XA _).mono ?_); rintro e w9 ⟨rfl, hb9⟩))
            | (go_at_call 26; ((with_reducible refine (binUse XB _).mono ?_); rintro e w9 ⟨rfl, hb9⟩))
            | (go_at_call 26; ((with_reducible refine (binUse C13 _).mono ?_); rintro e w9 ⟨rfl, hb9⟩)))
        go_wp2
        go_ret
        exact ⟨rfl, below14 ‹_›⟩

end Go.Proofs.Yteibkmignbbekaa
