/- BitsDivision: the walk. -/
import Derived.Test.YtdnbpfhkbaojnaaTwo
import Derived.Test.YtdnbpfhkbaojnaaLogic
import Derived.Deep.DeepCutAuto
namespace Go.Proofs.Ytdnbpfhkbaojnaa
open Go.RowKit

/-- What the two divisions leave: two variables with the quotient and the remainder. -/
def DivRel (V : World) (n q r : Int) (s6 s7 : Value) (wx : World) : Prop :=
  ∃ c d : Nat, s6 = .pointer (some ⟨c, 0, none⟩) ∧ s7 = .pointer (some ⟨d, 0, none⟩) ∧ wx.cell? ⟨c, 0, none⟩ = some (.int .i64 n) ∧ wx.cell? ⟨c, 1, none⟩ = some (.int .u64 q) ∧ wx.cell? ⟨d, 0, none⟩ = some (.int .i64 n) ∧ wx.cell? ⟨d, 1, none⟩ = some (.int .u64 r) ∧ Below V.heap.size V wx

set_option maxHeartbeats 400000 in
theorem div_no (n a m b : Int) (w : World) (a0 : 0 ≤ a) (b0 : 0 ≤ b) (h : sameV n a m b = false) :
    Calls Try.prog 6 #[.agg #[.int .i64 n, .int .u64 a], .agg #[.int .i64 m, .int .u64 b]] w fun e w' => e = .returned (.bool true) ∧ Below w.heap.size w w' := by
  go_enter Try.func6, Try.ntmps6
  go_wp2_with fail
  refine (head_any _).mono ?_
  rintro e w1 ⟨rfl, hb1⟩
  obtain ⟨hc1, hf1⟩ := bcell hb1
  have hz1 : w.heap.size < w1.heap.size ∧ w.heap.size + 1 < w1.heap.size := by have hs := hb1.size; simp at hs; omega
  go_wp2_with fail
  refine (same_any n a m b _ a0 b0).mono ?_
  rintro e w2 ⟨rfl, hb2⟩
  obtain ⟨hc2, hf2⟩ := bcell hb2
  have hz2 : w.heap.size < w2.heap.size ∧ w.heap.size + 1 < w2.heap.size := by have hs := hb2.size; omega
  go_wp2
  go_ret
  exact ⟨rfl, ((below2 hb1).trans (hb2.mono (by omega)))⟩

set_option maxRecDepth 100000 in
set_option maxHeartbeats 4000000 in
theorem div_walk (n a b q r p : Int) (w : World) (a0 : 0 ≤ a) (b0 : 0 ≤ b) (h : sameV n a n b = true) (hb1' : (b == 0) = false) (hr : r < b) (hq : q ≤ a)
    (C5 : Hid (BinC 5 n a b n q)) (C6 : Hid (BinC 6 n a b n r)) (CM : Hid (BinC 4 n q b n p)) (CA : Hid (BinC 2 n p r n a)) :
    Calls Try.prog 6 #[.agg #[.int .i64 n, .int .u64 a], .agg #[.int .i64 n, .int .u64 b]] w fun e w' => e = .returned (.bool true) ∧ Below w.heap.size w w' := by
  have SA := Lib.hid (And.intro a0 b0)
  have HQ := Lib.hid (And.intro hr hq)
  clear a0 b0 hr hq
  go_enter Try.func6, Try.ntmps6
  go_wp2_with fail
  refine (head_any _).mono ?_
  rintro e w1 ⟨rfl, hb1⟩
  obtain ⟨hc1, hf1⟩ := bcell hb1
  have hz1 : w.heap.size < w1.heap.size ∧ w.heap.size + 1 < w1.heap.size := by have hs := hb1.size; simp at hs; omega
  go_wp2_with fail
  refine (same_any n a n b _ SA.out.1 SA.out.2).mono ?_
  rintro e w2 ⟨rfl, hb2⟩
  obtain ⟨hc2, hf2⟩ := bcell hb2
  have hz2 : w.heap.size < w2.heap.size ∧ w.heap.size + 1 < w2.heap.size := by have hs := hb2.size; omega
  go_wp2_with fail
  have G0 : Below w.heap.size w w2 := ((below2 hb1).trans (hb2.mono (by omega)))
  have S0 : w2.cell? ⟨w.heap.size, 0, none⟩ = some (.int .i64 n) ∧ w2.cell? ⟨w.heap.size, 1, none⟩ = some (.int .u64 a) ∧ w2.cell? ⟨w.heap.size + 1, 0, none⟩ = some (.int .i64 n) ∧ w2.cell? ⟨w.heap.size + 1, 1, none⟩ = some (.int .u64 b) ∧ Below w2.heap.size w2 w2 := by
    refine ⟨?_, ?_, ?_, ?_, Below.refl _ _⟩ <;> simp [hc1, hc2, hz1, go_sem]
  clear hc1 hf1 hz1 hb1 hc2 hf2 hb2 h
  go_cut [6, 7] (fun s6 s7 wx => DivRel w2 n q r s6 s7 wx)
  case first =>
    go_region_held3 (fun w' => w'.cell? ⟨w.heap.size, 0, none⟩ = some (.int .i64 n) ∧ w'.cell? ⟨w.heap.size, 1, none⟩ = some (.int .u64 a) ∧ w'.cell? ⟨w.heap.size + 1, 0, none⟩ = some (.int .i64 n) ∧ w'.cell? ⟨w.heap.size + 1, 1, none⟩ = some (.int .u64 b) ∧ Below w2.heap.size w2 w') (with_reducible (first | assumption | exact drew4 ‹_› | exact drew4 (more4 _ ‹_›) | exact drew4 (more4 _ (more4 _ ‹_›)) | exact more4 _ ‹_› | exact more4 _ (more4 _ ‹_›) | exact more4 _ (store4 S0 ‹_› (by omega)) | exact store4 S0 ‹_› (by omega) | exact store4 S0 (store4 S0 ‹_› (by omega)) (by omega)))
      (first
        | (go_at_call 26; ((with_reducible refine (binUse C5 _).mono ?_); rintro e w3 ⟨rfl, hb3⟩); (first | have L3 := later4 hb3 ‹_›); have s3 := L3.2.2.2.2.size; (first | have n3 := two_new hb3 | have n3 := two_new (undrew hb3) | have n3 := one_new hb3 | have n3 := one_new (undrew hb3) | skip))
        | (go_at_call 26; ((with_reducible refine (binUse C6 _).mono ?_); rintro e w4 ⟨rfl, hb4⟩); (first | have L4 := later4 hb4 ‹_›); have s4 := L4.2.2.2.2.size; (first | have B4 := alloc_then2 hb4 | have B4 := alloc_then hb4 | have B4 : Below w3.heap.size w3 w4 := hb4); have z4 := B4.size; (first | (have m4 := carryZ B4 n3.1; have m5 := carryZ B4 n3.2; clear n3) | (have m4 := carryZ B4 n3; have e3 := n3.2.2.2.2.2; clear n3) | skip); (first | have n4 := two_new hb4 | have n4 := one_new hb4 | skip)))
    all_goals (go_wp2_with fail; go_meet)
    all_goals (refine ⟨_, _, rfl, rfl, ?_, ?_, ?_, ?_, ?_⟩)
    all_goals (first | (simp [go_sem, *]; done) | skip)
    all_goals (repeat (first | exact L4.2.2.2.2 | refine Below.alloc ?_ ?_ _ | refine Below.setCell ?_ ?_ _))
  case rest =>
    obtain ⟨c, d, rfl, rfl, Q0, Q1, Q2, Q3, Q4⟩ := hcut
    obtain ⟨hr, hq⟩ := HQ.out
    have S8 : wc.cell? ⟨w.heap.size, 0, none⟩ = some (.int .i64 n) ∧ wc.cell? ⟨w.heap.size, 1, none⟩ = some (.int .u64 a) ∧ wc.cell? ⟨w.heap.size + 1, 0, none⟩ = some (.int .i64 n) ∧ wc.cell? ⟨w.heap.size + 1, 1, none⟩ = some (.int .u64 b) ∧ wc.cell? ⟨c, 0, none⟩ = some (.int .i64 n) ∧ wc.cell? ⟨c, 1, none⟩ = some (.int .u64 q) ∧ wc.cell? ⟨d, 0, none⟩ = some (.int .i64 n) ∧ wc.cell? ⟨d, 1, none⟩ = some (.int .u64 r) ∧ Below w.heap.size w wc := ⟨cell_later Q4 S0.1, cell_later Q4 S0.2.1, cell_later Q4 S0.2.2.1, cell_later Q4 S0.2.2.2.1, Q0, Q1, Q2, Q3, G0.trans (Q4.mono G0.size)⟩
    clear Q0 Q1 Q2 Q3 Q4 S0 G0
    go_wp2_with fail
    go_region_held3 (fun w' => w'.cell? ⟨w.heap.size, 0, none⟩ = some (.int .i64 n) ∧ w'.cell? ⟨w.heap.size, 1, none⟩ = some (.int .u64 a) ∧ w'.cell? ⟨w.heap.size + 1, 0, none⟩ = some (.int .i64 n) ∧ w'.cell? ⟨w.heap.size + 1, 1, none⟩ = some (.int .u64 b) ∧ w'.cell? ⟨c, 0, none⟩ = some (.int .i64 n) ∧ w'.cell? ⟨c, 1, none⟩ = some (.int .u64 q) ∧ w'.cell? ⟨d, 0, none⟩ = some (.int .i64 n) ∧ w'.cell? ⟨d, 1, none⟩ = some (.int .u64 r) ∧ Below w.heap.size w w') (first | assumption | exact later8 ‹_› ‹_› | exact drew8 ‹_›)
    (first
      | (go_at_call 26; ((with_reducible refine (binUse CM _).mono ?_); rintro e w9 ⟨rfl, hb9⟩))
      | (go_at_call 26; ((with_reducible refine (binUse CA _).mono ?_); rintro e w9 ⟨rfl, hb9⟩)))
    go_wp2
    go_ret
    exact ⟨rfl, below8 ‹_›⟩
set_option maxRecDepth 100000 in
set_option maxHeartbeats 4000000 in
theorem div_zero (n a q : Int) (w : World) (a0 : 0 ≤ a) (h : sameV n a n 0 = true)
    (C5 : Hid (BinC 5 n a 0 n q)) (C6 : Hid (BinC 6 n a 0 n a)) (CN : Hid (NotC n 0 q)) :
    Calls Try.prog 6 #[.agg #[.int .i64 n, .int .u64 a], .agg #[.int .i64 n, .int .u64 0]] w fun e w' => e = .returned (.bool true) ∧ Below w.heap.size w w' := by
  have SA := Lib.hid (And.intro a0 (show (0 : Int) ≤ 0 by decide))
  clear a0
  go_enter Try.func6, Try.ntmps6
  go_wp2_with fail
  refine (head_any _).mono ?_
  rintro e w1 ⟨rfl, hb1⟩
  obtain ⟨hc1, hf1⟩ := bcell hb1
  have hz1 : w.heap.size < w1.heap.size ∧ w.heap.size + 1 < w1.heap.size := by have hs := hb1.size; simp at hs; omega
  go_wp2_with fail
  refine (same_any n a n 0 _ SA.out.1 SA.out.2).mono ?_
  rintro e w2 ⟨rfl, hb2⟩
  obtain ⟨hc2, hf2⟩ := bcell hb2
  have hz2 : w.heap.size < w2.heap.size ∧ w.heap.size + 1 < w2.heap.size := by have hs := hb2.size; omega
  go_wp2_with fail
  have G0 : Below w.heap.size w w2 := ((below2 hb1).trans (hb2.mono (by omega)))
  have S0 : w2.cell? ⟨w.heap.size, 0, none⟩ = some (.int .i64 n) ∧ w2.cell? ⟨w.heap.size, 1, none⟩ = some (.int .u64 a) ∧ w2.cell? ⟨w.heap.size + 1, 0, none⟩ = some (.int .i64 n) ∧ w2.cell? ⟨w.heap.size + 1, 1, none⟩ = some (.int .u64 0) ∧ Below w2.heap.size w2 w2 := by
    refine ⟨?_, ?_, ?_, ?_, Below.refl _ _⟩ <;> simp [hc1, hc2, hz1, go_sem]
  clear hc1 hf1 hz1 hb1 hc2 hf2 hb2 h
  go_cut [6, 7] (fun s6 s7 wx => DivRel w2 n q a s6 s7 wx)
  case first =>
    go_region_held3 (fun w' => w'.cell? ⟨w.heap.size, 0, none⟩ = some (.int .i64 n) ∧ w'.cell? ⟨w.heap.size, 1, none⟩ = some (.int .u64 a) ∧ w'.cell? ⟨w.heap.size + 1, 0, none⟩ = some (.int .i64 n) ∧ w'.cell? ⟨w.heap.size + 1, 1, none⟩ = some (.int .u64 0) ∧ Below w2.heap.size w2 w') (with_reducible (first | assumption | exact drew4 ‹_› | exact drew4 (more4 _ ‹_›) | exact drew4 (more4 _ (more4 _ ‹_›)) | exact more4 _ ‹_› | exact more4 _ (more4 _ ‹_›) | exact more4 _ (store4 S0 ‹_› (by omega)) | exact store4 S0 ‹_› (by omega) | exact store4 S0 (store4 S0 ‹_› (by omega)) (by omega)))
      (first
        | (go_at_call 26; ((with_reducible refine (binUse C5 _).mono ?_); rintro e w3 ⟨rfl, hb3⟩); (first | have L3 := later4 hb3 ‹_›); have s3 := L3.2.2.2.2.size; (first | have n3 := two_new hb3 | have n3 := two_new (undrew hb3) | have n3 := one_new hb3 | have n3 := one_new (undrew hb3) | skip))
        | (go_at_call 26; ((with_reducible refine (binUse C6 _).mono ?_); rintro e w4 ⟨rfl, hb4⟩); (first | have L4 := later4 hb4 ‹_›); have s4 := L4.2.2.2.2.size; (first | have B4 := alloc_then2 hb4 | have B4 := alloc_then hb4 | have B4 : Below w3.heap.size w3 w4 := hb4); have z4 := B4.size; (first | (have m4 := carryZ B4 n3.1; have m5 := carryZ B4 n3.2; clear n3) | (have m4 := carryZ B4 n3; have e3 := n3.2.2.2.2.2; clear n3) | skip); (first | have n4 := two_new hb4 | have n4 := one_new hb4 | skip)))
    all_goals (go_wp2_with fail; go_meet)
    all_goals (refine ⟨_, _, rfl, rfl, ?_, ?_, ?_, ?_, ?_⟩)
    all_goals (first | (simp [go_sem, *]; done) | skip)
    all_goals (repeat (first | exact L4.2.2.2.2 | refine Below.alloc ?_ ?_ _ | refine Below.setCell ?_ ?_ _))
  case rest =>
    obtain ⟨c, d, rfl, rfl, Q0, Q1, Q2, Q3, Q4⟩ := hcut
    have S8 : wc.cell? ⟨w.heap.size, 0, none⟩ = some (.int .i64 n) ∧ wc.cell? ⟨w.heap.size, 1, none⟩ = some (.int .u64 a) ∧ wc.cell? ⟨w.heap.size + 1, 0, none⟩ = some (.int .i64 n) ∧ wc.cell? ⟨w.heap.size + 1, 1, none⟩ = some (.int .u64 0) ∧ wc.cell? ⟨c, 0, none⟩ = some (.int .i64 n) ∧ wc.cell? ⟨c, 1, none⟩ = some (.int .u64 q) ∧ wc.cell? ⟨d, 0, none⟩ = some (.int .i64 n) ∧ wc.cell? ⟨d, 1, none⟩ = some (.int .u64 a) ∧ Below w.heap.size w wc := ⟨cell_later Q4 S0.1, cell_later Q4 S0.2.1, cell_later Q4 S0.2.2.1, cell_later Q4 S0.2.2.2.1, Q0, Q1, Q2, Q3, G0.trans (Q4.mono G0.size)⟩
    clear Q0 Q1 Q2 Q3 Q4 S0 G0
    go_wp2_with fail
    refine (notUse CN _).mono ?_
    rintro e w9 ⟨rfl, hb9⟩
    have S9 := more8 (.cells #[.int .i64 n, .int .u64 q] 24) (later8 hb9 S8)
    have N0 := new0 w9 (.int .i64 n) (.int .u64 q) 24
    have N1 := new1 w9 (.int .i64 n) (.int .u64 q) 24
    clear S8 hb9
    go_wp2
    go_ret
    exact ⟨rfl, below8 S9⟩
end Go.Proofs.Ytdnbpfhkbaojnaa
