/- Joined texts: SaRi2, SaRi3. -/
import Derived.Test.YtnbgadndkepomaaGreatDoorSQW

namespace Go.Proofs.YtnbgadndkepomaaGreatDoor
open Go.RowKit

theorem rw_12 (c : Cd) (w p a b k : Int) (n : Nat) (t : Int) : RW c ⟨12, w, p, a, b, k, n, t⟩ ↔ (0 < wOf c a ∧ wOf c a = wOf c b ∧ w = 1) := by
  unfold RW
  dsimp only
  repeat' (first | rw [if_pos (by omega)] | rw [if_neg (by omega)])
  try (unfold RI; dsimp only; repeat' (first | rw [if_pos (by omega)] | rw [if_neg (by omega)]))
set_option maxRecDepth 100000 in
set_option maxHeartbeats 3200000 in
theorem rinst_12_0 {W : World} {c : Cd} {x : Sl} (hx : CdAt W c x) (ok : c.ok) (_hst : c.st.length ≤ 8) (_hnm : c.nm.length ≤ 32) (w p a b k : Int) (n : Nat) (t : Int) (hpl : PlainR ⟨12, w, p, a, b, k, n, t⟩) (hat : plcB t = true) (_hn : n < 18446744073709551616) (a1 : ¬ (0 < wOf c a)) : InsC W c x ⟨12, w, p, a, b, k, n, t⟩ (B (RW c ⟨12, w, p, a, b, k, n, t⟩)) := by
  unfold InsC
  have hR := rw_12 c w p a b k n t
  generalize RW c ⟨12, w, p, a, b, k, n, t⟩ = E at hR ⊢
  obtain ⟨A, eA, iA, jA⟩ := wv ok a
  obtain ⟨Bw, eB, iB, jB⟩ := wv ok b
  obtain ⟨C, eC⟩ : ∃ C, cellR c a b = C := ⟨_, rfl⟩
  try simp only [eA, eB] at hR
  replace hR := Lib.hid hR
  obtain ⟨X, hX, I⟩ := IS.new hx ⟨12, w, p, a, b, k, n, t⟩
  obtain ⟨e0, e1, e2, e3, e4, e5, e6, e7, v0, v1, v2, v3⟩ := I.cs
  try simp only [eA] at a1
  have ta1 : decide (0 < A) = false := by simpa using a1
  have hz : Hid (B E = false) := Lib.hid (B_not (fun h => by have h2 := hR.out.1 h; omega))
  clear hR a1
  go_enter Tryz.func38, Tryz.ntmps38
  go_upto_region 1 with fail
  simp only [hX.out]
  go_wp2_with fail
  refine (rplain_any ⟨12, w, p, a, b, k, n, t⟩).mono ?_
  rintro e w1 ⟨rfl, b1⟩
  rw [B_of hpl]
  clear e0 e1 e2 e3 e4 e5 e6 e7 v0 v1 v2 v3
  replace I := I.later b1
  obtain ⟨e0, e1, e2, e3, e4, e5, e6, e7, v0, v1, v2, v3⟩ := I.cs
  go_wp2_with fail
  refine (rplace_any _ _).mono ?_
  rintro e w2 ⟨rfl, rfl⟩
  rw [hat]
  go_wp2_with fail
  refine (rInt_any I.at_ a).mono ?_
  rintro e w2 ⟨rfl, b2⟩
  rw [eA]
  clear e0 e1 e2 e3 e4 e5 e6 e7 v0 v1 v2 v3
  replace I := I.later b2
  obtain ⟨e0, e1, e2, e3, e4, e5, e6, e7, v0, v1, v2, v3⟩ := I.cs
  go_wp2_with fail
  refine (rInt_any I.at_ b).mono ?_
  rintro e w3 ⟨rfl, b3⟩
  rw [eB]
  clear e0 e1 e2 e3 e4 e5 e6 e7 v0 v1 v2 v3
  replace I := I.later b3
  obtain ⟨e0, e1, e2, e3, e4, e5, e6, e7, v0, v1, v2, v3⟩ := I.cs
  go_wp2
  go_ret
  exact ⟨by rw [hz.out]; try rfl, I.bA⟩
set_option maxRecDepth 100000 in
set_option maxHeartbeats 3200000 in
theorem rinst_12_1 {W : World} {c : Cd} {x : Sl} (hx : CdAt W c x) (ok : c.ok) (_hst : c.st.length ≤ 8) (_hnm : c.nm.length ≤ 32) (w p a b k : Int) (n : Nat) (t : Int) (hpl : PlainR ⟨12, w, p, a, b, k, n, t⟩) (hat : plcB t = true) (_hn : n < 18446744073709551616) (a1 : 0 < wOf c a) (a2 : ¬ (wOf c a = wOf c b)) : InsC W c x ⟨12, w, p, a, b, k, n, t⟩ (B (RW c ⟨12, w, p, a, b, k, n, t⟩)) := by
  unfold InsC
  have hR := rw_12 c w p a b k n t
  generalize RW c ⟨12, w, p, a, b, k, n, t⟩ = E at hR ⊢
  obtain ⟨A, eA, iA, jA⟩ := wv ok a
  obtain ⟨Bw, eB, iB, jB⟩ := wv ok b
  obtain ⟨C, eC⟩ : ∃ C, cellR c a b = C := ⟨_, rfl⟩
  try simp only [eA, eB] at hR
  replace hR := Lib.hid hR
  obtain ⟨X, hX, I⟩ := IS.new hx ⟨12, w, p, a, b, k, n, t⟩
  obtain ⟨e0, e1, e2, e3, e4, e5, e6, e7, v0, v1, v2, v3⟩ := I.cs
  try simp only [eA, eB] at a1 a2
  have ta1 : decide (0 < A) = true := by simpa using a1
  have ta2 : (A == Bw) = false := by simpa using a2
  have hz : Hid (B E = false) := Lib.hid (B_not (fun h => by have h2 := hR.out.1 h; omega))
  clear hR a1 a2
  go_enter Tryz.func38, Tryz.ntmps38
  go_upto_region 1 with fail
  simp only [hX.out]
  go_wp2_with fail
  refine (rplain_any ⟨12, w, p, a, b, k, n, t⟩).mono ?_
  rintro e w1 ⟨rfl, b1⟩
  rw [B_of hpl]
  clear e0 e1 e2 e3 e4 e5 e6 e7 v0 v1 v2 v3
  replace I := I.later b1
  obtain ⟨e0, e1, e2, e3, e4, e5, e6, e7, v0, v1, v2, v3⟩ := I.cs
  go_wp2_with fail
  refine (rplace_any _ _).mono ?_
  rintro e w2 ⟨rfl, rfl⟩
  rw [hat]
  go_wp2_with fail
  refine (rInt_any I.at_ a).mono ?_
  rintro e w2 ⟨rfl, b2⟩
  rw [eA]
  clear e0 e1 e2 e3 e4 e5 e6 e7 v0 v1 v2 v3
  replace I := I.later b2
  obtain ⟨e0, e1, e2, e3, e4, e5, e6, e7, v0, v1, v2, v3⟩ := I.cs
  go_wp2_with fail
  refine (rInt_any I.at_ b).mono ?_
  rintro e w3 ⟨rfl, b3⟩
  rw [eB]
  clear e0 e1 e2 e3 e4 e5 e6 e7 v0 v1 v2 v3
  replace I := I.later b3
  obtain ⟨e0, e1, e2, e3, e4, e5, e6, e7, v0, v1, v2, v3⟩ := I.cs
  go_wp2
  go_ret
  exact ⟨by rw [hz.out]; try rfl, I.bA⟩
set_option maxRecDepth 100000 in
set_option maxHeartbeats 3200000 in
theorem rinst_12_2 {W : World} {c : Cd} {x : Sl} (hx : CdAt W c x) (ok : c.ok) (_hst : c.st.length ≤ 8) (_hnm : c.nm.length ≤ 32) (w p a b k : Int) (n : Nat) (t : Int) (hpl : PlainR ⟨12, w, p, a, b, k, n, t⟩) (hat : plcB t = true) (_hn : n < 18446744073709551616) (a1 : 0 < wOf c a) (a2 : wOf c a = wOf c b) : InsC W c x ⟨12, w, p, a, b, k, n, t⟩ (B (RW c ⟨12, w, p, a, b, k, n, t⟩)) := by
  unfold InsC
  have hR := rw_12 c w p a b k n t
  generalize RW c ⟨12, w, p, a, b, k, n, t⟩ = E at hR ⊢
  obtain ⟨A, eA, iA, jA⟩ := wv ok a
  obtain ⟨Bw, eB, iB, jB⟩ := wv ok b
  obtain ⟨C, eC⟩ : ∃ C, cellR c a b = C := ⟨_, rfl⟩
  try simp only [eA, eB] at hR
  replace hR := Lib.hid hR
  obtain ⟨X, hX, I⟩ := IS.new hx ⟨12, w, p, a, b, k, n, t⟩
  obtain ⟨e0, e1, e2, e3, e4, e5, e6, e7, v0, v1, v2, v3⟩ := I.cs
  try simp only [eA, eB] at a1 a2
  have ta1 : decide (0 < A) = true := by simpa using a1
  have ta2 : (A == Bw) = true := by simpa using a2
  have hz : Hid (B E = (w == 1)) := Lib.hid (by symm; apply B_eq; rw [hR.out]; simp only [beq_iff_eq] <;> omega)
  clear hR a1 a2
  go_enter Tryz.func38, Tryz.ntmps38
  go_upto_region 1 with fail
  simp only [hX.out]
  go_wp2_with fail
  refine (rplain_any ⟨12, w, p, a, b, k, n, t⟩).mono ?_
  rintro e w1 ⟨rfl, b1⟩
  rw [B_of hpl]
  clear e0 e1 e2 e3 e4 e5 e6 e7 v0 v1 v2 v3
  replace I := I.later b1
  obtain ⟨e0, e1, e2, e3, e4, e5, e6, e7, v0, v1, v2, v3⟩ := I.cs
  go_wp2_with fail
  refine (rplace_any _ _).mono ?_
  rintro e w2 ⟨rfl, rfl⟩
  rw [hat]
  go_wp2_with fail
  refine (rInt_any I.at_ a).mono ?_
  rintro e w2 ⟨rfl, b2⟩
  rw [eA]
  clear e0 e1 e2 e3 e4 e5 e6 e7 v0 v1 v2 v3
  replace I := I.later b2
  obtain ⟨e0, e1, e2, e3, e4, e5, e6, e7, v0, v1, v2, v3⟩ := I.cs
  go_wp2_with fail
  refine (rInt_any I.at_ b).mono ?_
  rintro e w3 ⟨rfl, b3⟩
  rw [eB]
  clear e0 e1 e2 e3 e4 e5 e6 e7 v0 v1 v2 v3
  replace I := I.later b3
  obtain ⟨e0, e1, e2, e3, e4, e5, e6, e7, v0, v1, v2, v3⟩ := I.cs
  go_wp2
  go_ret
  exact ⟨by rw [hz.out]; try rfl, I.bA⟩
theorem rinst_12 {W : World} {c : Cd} {x : Sl} (hx : CdAt W c x) (ok : c.ok) (hst : c.st.length ≤ 8) (hnm : c.nm.length ≤ 32) (w p a b k : Int) (n : Nat) (t : Int) (hpl : PlainR ⟨12, w, p, a, b, k, n, t⟩) (hat : plcB t = true) (hn : n < 18446744073709551616) : InsC W c x ⟨12, w, p, a, b, k, n, t⟩ (B (RW c ⟨12, w, p, a, b, k, n, t⟩)) := by
  refine (Classical.em (0 < wOf c a)).elim (fun a1 => ?_) (fun a1 => rinst_12_0 hx ok hst hnm w p a b k n t hpl hat hn  a1)
  refine (Classical.em (wOf c a = wOf c b)).elim (fun a2 => ?_) (fun a2 => rinst_12_1 hx ok hst hnm w p a b k n t hpl hat hn a1 a2)
  exact rinst_12_2 hx ok hst hnm w p a b k n t hpl hat hn a1 a2
theorem rw_13 (c : Cd) (w p a b k : Int) (n : Nat) (t : Int) : RW c ⟨13, w, p, a, b, k, n, t⟩ ↔ (0 < wOf c a ∧ wOf c a = wOf c b ∧ w = 1) := by
  unfold RW
  dsimp only
  repeat' (first | rw [if_pos (by omega)] | rw [if_neg (by omega)])
  try (unfold RI; dsimp only; repeat' (first | rw [if_pos (by omega)] | rw [if_neg (by omega)]))
set_option maxRecDepth 100000 in
set_option maxHeartbeats 3200000 in
theorem rinst_13_0 {W : World} {c : Cd} {x : Sl} (hx : CdAt W c x) (ok : c.ok) (_hst : c.st.length ≤ 8) (_hnm : c.nm.length ≤ 32) (w p a b k : Int) (n : Nat) (t : Int) (hpl : PlainR ⟨13, w, p, a, b, k, n, t⟩) (hat : plcB t = true) (_hn : n < 18446744073709551616) (a1 : ¬ (0 < wOf c a)) : InsC W c x ⟨13, w, p, a, b, k, n, t⟩ (B (RW c ⟨13, w, p, a, b, k, n, t⟩)) := by
  unfold InsC
  have hR := rw_13 c w p a b k n t
  generalize RW c ⟨13, w, p, a, b, k, n, t⟩ = E at hR ⊢
  obtain ⟨A, eA, iA, jA⟩ := wv ok a
  obtain ⟨Bw, eB, iB, jB⟩ := wv ok b
  obtain ⟨C, eC⟩ : ∃ C, cellR c a b = C := ⟨_, rfl⟩
  try simp only [eA, eB] at hR
  replace hR := Lib.hid hR
  obtain ⟨X, hX, I⟩ := IS.new hx ⟨13, w, p, a, b, k, n, t⟩
  obtain ⟨e0, e1, e2, e3, e4, e5, e6, e7, v0, v1, v2, v3⟩ := I.cs
  try simp only [eA] at a1
  have ta1 : decide (0 < A) = false := by simpa using a1
  have hz : Hid (B E = false) := Lib.hid (B_not (fun h => by have h2 := hR.out.1 h; omega))
  clear hR a1
  go_enter Tryz.func38, Tryz.ntmps38
  go_upto_region 1 with fail
  simp only [hX.out]
  go_wp2_with fail
  refine (rplain_any ⟨13, w, p, a, b, k, n, t⟩).mono ?_
  rintro e w1 ⟨rfl, b1⟩
  rw [B_of hpl]
  clear e0 e1 e2 e3 e4 e5 e6 e7 v0 v1 v2 v3
  replace I := I.later b1
  obtain ⟨e0, e1, e2, e3, e4, e5, e6, e7, v0, v1, v2, v3⟩ := I.cs
  go_wp2_with fail
  refine (rplace_any _ _).mono ?_
  rintro e w2 ⟨rfl, rfl⟩
  rw [hat]
  go_wp2_with fail
  refine (rInt_any I.at_ a).mono ?_
  rintro e w2 ⟨rfl, b2⟩
  rw [eA]
  clear e0 e1 e2 e3 e4 e5 e6 e7 v0 v1 v2 v3
  replace I := I.later b2
  obtain ⟨e0, e1, e2, e3, e4, e5, e6, e7, v0, v1, v2, v3⟩ := I.cs
  go_wp2_with fail
  refine (rInt_any I.at_ b).mono ?_
  rintro e w3 ⟨rfl, b3⟩
  rw [eB]
  clear e0 e1 e2 e3 e4 e5 e6 e7 v0 v1 v2 v3
  replace I := I.later b3
  obtain ⟨e0, e1, e2, e3, e4, e5, e6, e7, v0, v1, v2, v3⟩ := I.cs
  go_wp2
  go_ret
  exact ⟨by rw [hz.out]; try rfl, I.bA⟩
set_option maxRecDepth 100000 in
set_option maxHeartbeats 3200000 in
theorem rinst_13_1 {W : World} {c : Cd} {x : Sl} (hx : CdAt W c x) (ok : c.ok) (_hst : c.st.length ≤ 8) (_hnm : c.nm.length ≤ 32) (w p a b k : Int) (n : Nat) (t : Int) (hpl : PlainR ⟨13, w, p, a, b, k, n, t⟩) (hat : plcB t = true) (_hn : n < 18446744073709551616) (a1 : 0 < wOf c a) (a2 : ¬ (wOf c a = wOf c b)) : InsC W c x ⟨13, w, p, a, b, k, n, t⟩ (B (RW c ⟨13, w, p, a, b, k, n, t⟩)) := by
  unfold InsC
  have hR := rw_13 c w p a b k n t
  generalize RW c ⟨13, w, p, a, b, k, n, t⟩ = E at hR ⊢
  obtain ⟨A, eA, iA, jA⟩ := wv ok a
  obtain ⟨Bw, eB, iB, jB⟩ := wv ok b
  obtain ⟨C, eC⟩ : ∃ C, cellR c a b = C := ⟨_, rfl⟩
  try simp only [eA, eB] at hR
  replace hR := Lib.hid hR
  obtain ⟨X, hX, I⟩ := IS.new hx ⟨13, w, p, a, b, k, n, t⟩
  obtain ⟨e0, e1, e2, e3, e4, e5, e6, e7, v0, v1, v2, v3⟩ := I.cs
  try simp only [eA, eB] at a1 a2
  have ta1 : decide (0 < A) = true := by simpa using a1
  have ta2 : (A == Bw) = false := by simpa using a2
  have hz : Hid (B E = false) := Lib.hid (B_not (fun h => by have h2 := hR.out.1 h; omega))
  clear hR a1 a2
  go_enter Tryz.func38, Tryz.ntmps38
  go_upto_region 1 with fail
  simp only [hX.out]
  go_wp2_with fail
  refine (rplain_any ⟨13, w, p, a, b, k, n, t⟩).mono ?_
  rintro e w1 ⟨rfl, b1⟩
  rw [B_of hpl]
  clear e0 e1 e2 e3 e4 e5 e6 e7 v0 v1 v2 v3
  replace I := I.later b1
  obtain ⟨e0, e1, e2, e3, e4, e5, e6, e7, v0, v1, v2, v3⟩ := I.cs
  go_wp2_with fail
  refine (rplace_any _ _).mono ?_
  rintro e w2 ⟨rfl, rfl⟩
  rw [hat]
  go_wp2_with fail
  refine (rInt_any I.at_ a).mono ?_
  rintro e w2 ⟨rfl, b2⟩
  rw [eA]
  clear e0 e1 e2 e3 e4 e5 e6 e7 v0 v1 v2 v3
  replace I := I.later b2
  obtain ⟨e0, e1, e2, e3, e4, e5, e6, e7, v0, v1, v2, v3⟩ := I.cs
  go_wp2_with fail
  refine (rInt_any I.at_ b).mono ?_
  rintro e w3 ⟨rfl, b3⟩
  rw [eB]
  clear e0 e1 e2 e3 e4 e5 e6 e7 v0 v1 v2 v3
  replace I := I.later b3
  obtain ⟨e0, e1, e2, e3, e4, e5, e6, e7, v0, v1, v2, v3⟩ := I.cs
  go_wp2
  go_ret
  exact ⟨by rw [hz.out]; try rfl, I.bA⟩
set_option maxRecDepth 100000 in
set_option maxHeartbeats 3200000 in
theorem rinst_13_2 {W : World} {c : Cd} {x : Sl} (hx : CdAt W c x) (ok : c.ok) (_hst : c.st.length ≤ 8) (_hnm : c.nm.length ≤ 32) (w p a b k : Int) (n : Nat) (t : Int) (hpl : PlainR ⟨13, w, p, a, b, k, n, t⟩) (hat : plcB t = true) (_hn : n < 18446744073709551616) (a1 : 0 < wOf c a) (a2 : wOf c a = wOf c b) : InsC W c x ⟨13, w, p, a, b, k, n, t⟩ (B (RW c ⟨13, w, p, a, b, k, n, t⟩)) := by
  unfold InsC
  have hR := rw_13 c w p a b k n t
  generalize RW c ⟨13, w, p, a, b, k, n, t⟩ = E at hR ⊢
  obtain ⟨A, eA, iA, jA⟩ := wv ok a
  obtain ⟨Bw, eB, iB, jB⟩ := wv ok b
  obtain ⟨C, eC⟩ : ∃ C, cellR c a b = C := ⟨_, rfl⟩
  try simp only [eA, eB] at hR
  replace hR := Lib.hid hR
  obtain ⟨X, hX, I⟩ := IS.new hx ⟨13, w, p, a, b, k, n, t⟩
  obtain ⟨e0, e1, e2, e3, e4, e5, e6, e7, v0, v1, v2, v3⟩ := I.cs
  try simp only [eA, eB] at a1 a2
  have ta1 : decide (0 < A) = true := by simpa using a1
  have ta2 : (A == Bw) = true := by simpa using a2
  have hz : Hid (B E = (w == 1)) := Lib.hid (by symm; apply B_eq; rw [hR.out]; simp only [beq_iff_eq] <;> omega)
  clear hR a1 a2
  go_enter Tryz.func38, Tryz.ntmps38
  go_upto_region 1 with fail
  simp only [hX.out]
  go_wp2_with fail
  refine (rplain_any ⟨13, w, p, a, b, k, n, t⟩).mono ?_
  rintro e w1 ⟨rfl, b1⟩
  rw [B_of hpl]
  clear e0 e1 e2 e3 e4 e5 e6 e7 v0 v1 v2 v3
  replace I := I.later b1
  obtain ⟨e0, e1, e2, e3, e4, e5, e6, e7, v0, v1, v2, v3⟩ := I.cs
  go_wp2_with fail
  refine (rplace_any _ _).mono ?_
  rintro e w2 ⟨rfl, rfl⟩
  rw [hat]
  go_wp2_with fail
  refine (rInt_any I.at_ a).mono ?_
  rintro e w2 ⟨rfl, b2⟩
  rw [eA]
  clear e0 e1 e2 e3 e4 e5 e6 e7 v0 v1 v2 v3
  replace I := I.later b2
  obtain ⟨e0, e1, e2, e3, e4, e5, e6, e7, v0, v1, v2, v3⟩ := I.cs
  go_wp2_with fail
  refine (rInt_any I.at_ b).mono ?_
  rintro e w3 ⟨rfl, b3⟩
  rw [eB]
  clear e0 e1 e2 e3 e4 e5 e6 e7 v0 v1 v2 v3
  replace I := I.later b3
  obtain ⟨e0, e1, e2, e3, e4, e5, e6, e7, v0, v1, v2, v3⟩ := I.cs
  go_wp2
  go_ret
  exact ⟨by rw [hz.out]; try rfl, I.bA⟩
theorem rinst_13 {W : World} {c : Cd} {x : Sl} (hx : CdAt W c x) (ok : c.ok) (hst : c.st.length ≤ 8) (hnm : c.nm.length ≤ 32) (w p a b k : Int) (n : Nat) (t : Int) (hpl : PlainR ⟨13, w, p, a, b, k, n, t⟩) (hat : plcB t = true) (hn : n < 18446744073709551616) : InsC W c x ⟨13, w, p, a, b, k, n, t⟩ (B (RW c ⟨13, w, p, a, b, k, n, t⟩)) := by
  refine (Classical.em (0 < wOf c a)).elim (fun a1 => ?_) (fun a1 => rinst_13_0 hx ok hst hnm w p a b k n t hpl hat hn  a1)
  refine (Classical.em (wOf c a = wOf c b)).elim (fun a2 => ?_) (fun a2 => rinst_13_1 hx ok hst hnm w p a b k n t hpl hat hn a1 a2)
  exact rinst_13_2 hx ok hst hnm w p a b k n t hpl hat hn a1 a2
theorem rw_14 (c : Cd) (w p a b k : Int) (n : Nat) (t : Int) : RW c ⟨14, w, p, a, b, k, n, t⟩ ↔ (0 < wOf c a ∧ wOf c a = wOf c b ∧ w = 1) := by
  unfold RW
  dsimp only
  repeat' (first | rw [if_pos (by omega)] | rw [if_neg (by omega)])
  try (unfold RI; dsimp only; repeat' (first | rw [if_pos (by omega)] | rw [if_neg (by omega)]))
set_option maxRecDepth 100000 in
set_option maxHeartbeats 3200000 in
theorem rinst_14_0 {W : World} {c : Cd} {x : Sl} (hx : CdAt W c x) (ok : c.ok) (_hst : c.st.length ≤ 8) (_hnm : c.nm.length ≤ 32) (w p a b k : Int) (n : Nat) (t : Int) (hpl : PlainR ⟨14, w, p, a, b, k, n, t⟩) (hat : plcB t = true) (_hn : n < 18446744073709551616) (a1 : ¬ (0 < wOf c a)) : InsC W c x ⟨14, w, p, a, b, k, n, t⟩ (B (RW c ⟨14, w, p, a, b, k, n, t⟩)) := by
  unfold InsC
  have hR := rw_14 c w p a b k n t
  generalize RW c ⟨14, w, p, a, b, k, n, t⟩ = E at hR ⊢
  obtain ⟨A, eA, iA, jA⟩ := wv ok a
  obtain ⟨Bw, eB, iB, jB⟩ := wv ok b
  obtain ⟨C, eC⟩ : ∃ C, cellR c a b = C := ⟨_, rfl⟩
  try simp only [eA, eB] at hR
  replace hR := Lib.hid hR
  obtain ⟨X, hX, I⟩ := IS.new hx ⟨14, w, p, a, b, k, n, t⟩
  obtain ⟨e0, e1, e2, e3, e4, e5, e6, e7, v0, v1, v2, v3⟩ := I.cs
  try simp only [eA] at a1
  have ta1 : decide (0 < A) = false := by simpa using a1
  have hz : Hid (B E = false) := Lib.hid (B_not (fun h => by have h2 := hR.out.1 h; omega))
  clear hR a1
  go_enter Tryz.func38, Tryz.ntmps38
  go_upto_region 1 with fail
  simp only [hX.out]
  go_wp2_with fail
  refine (rplain_any ⟨14, w, p, a, b, k, n, t⟩).mono ?_
  rintro e w1 ⟨rfl, b1⟩
  rw [B_of hpl]
  clear e0 e1 e2 e3 e4 e5 e6 e7 v0 v1 v2 v3
  replace I := I.later b1
  obtain ⟨e0, e1, e2, e3, e4, e5, e6, e7, v0, v1, v2, v3⟩ := I.cs
  go_wp2_with fail
  refine (rplace_any _ _).mono ?_
  rintro e w2 ⟨rfl, rfl⟩
  rw [hat]
  go_wp2_with fail
  refine (rInt_any I.at_ a).mono ?_
  rintro e w2 ⟨rfl, b2⟩
  rw [eA]
  clear e0 e1 e2 e3 e4 e5 e6 e7 v0 v1 v2 v3
  replace I := I.later b2
  obtain ⟨e0, e1, e2, e3, e4, e5, e6, e7, v0, v1, v2, v3⟩ := I.cs
  go_wp2_with fail
  refine (rInt_any I.at_ b).mono ?_
  rintro e w3 ⟨rfl, b3⟩
  rw [eB]
  clear e0 e1 e2 e3 e4 e5 e6 e7 v0 v1 v2 v3
  replace I := I.later b3
  obtain ⟨e0, e1, e2, e3, e4, e5, e6, e7, v0, v1, v2, v3⟩ := I.cs
  go_wp2
  go_ret
  exact ⟨by rw [hz.out]; try rfl, I.bA⟩
set_option maxRecDepth 100000 in
set_option maxHeartbeats 3200000 in
theorem rinst_14_1 {W : World} {c : Cd} {x : Sl} (hx : CdAt W c x) (ok : c.ok) (_hst : c.st.length ≤ 8) (_hnm : c.nm.length ≤ 32) (w p a b k : Int) (n : Nat) (t : Int) (hpl : PlainR ⟨14, w, p, a, b, k, n, t⟩) (hat : plcB t = true) (_hn : n < 18446744073709551616) (a1 : 0 < wOf c a) (a2 : ¬ (wOf c a = wOf c b)) : InsC W c x ⟨14, w, p, a, b, k, n, t⟩ (B (RW c ⟨14, w, p, a, b, k, n, t⟩)) := by
  unfold InsC
  have hR := rw_14 c w p a b k n t
  generalize RW c ⟨14, w, p, a, b, k, n, t⟩ = E at hR ⊢
  obtain ⟨A, eA, iA, jA⟩ := wv ok a
  obtain ⟨Bw, eB, iB, jB⟩ := wv ok b
  obtain ⟨C, eC⟩ : ∃ C, cellR c a b = C := ⟨_, rfl⟩
  try simp only [eA, eB] at hR
  replace hR := Lib.hid hR
  obtain ⟨X, hX, I⟩ := IS.new hx ⟨14, w, p, a, b, k, n, t⟩
  obtain ⟨e0, e1, e2, e3, e4, e5, e6, e7, v0, v1, v2, v3⟩ := I.cs
  try simp only [eA, eB] at a1 a2
  have ta1 : decide (0 < A) = true := by simpa using a1
  have ta2 : (A == Bw) = false := by simpa using a2
  have hz : Hid (B E = false) := Lib.hid (B_not (fun h => by have h2 := hR.out.1 h; omega))
  clear hR a1 a2
  go_enter Tryz.func38, Tryz.ntmps38
  go_upto_region 1 with fail
  simp only [hX.out]
  go_wp2_with fail
  refine (rplain_any ⟨14, w, p, a, b, k, n, t⟩).mono ?_
  rintro e w1 ⟨rfl, b1⟩
  rw [B_of hpl]
  clear e0 e1 e2 e3 e4 e5 e6 e7 v0 v1 v2 v3
  replace I := I.later b1
  obtain ⟨e0, e1, e2, e3, e4, e5, e6, e7, v0, v1, v2, v3⟩ := I.cs
  go_wp2_with fail
  refine (rplace_any _ _).mono ?_
  rintro e w2 ⟨rfl, rfl⟩
  rw [hat]
  go_wp2_with fail
  refine (rInt_any I.at_ a).mono ?_
  rintro e w2 ⟨rfl, b2⟩
  rw [eA]
  clear e0 e1 e2 e3 e4 e5 e6 e7 v0 v1 v2 v3
  replace I := I.later b2
  obtain ⟨e0, e1, e2, e3, e4, e5, e6, e7, v0, v1, v2, v3⟩ := I.cs
  go_wp2_with fail
  refine (rInt_any I.at_ b).mono ?_
  rintro e w3 ⟨rfl, b3⟩
  rw [eB]
  clear e0 e1 e2 e3 e4 e5 e6 e7 v0 v1 v2 v3
  replace I := I.later b3
  obtain ⟨e0, e1, e2, e3, e4, e5, e6, e7, v0, v1, v2, v3⟩ := I.cs
  go_wp2
  go_ret
  exact ⟨by rw [hz.out]; try rfl, I.bA⟩
set_option maxRecDepth 100000 in
set_option maxHeartbeats 3200000 in
theorem rinst_14_2 {W : World} {c : Cd} {x : Sl} (hx : CdAt W c x) (ok : c.ok) (_hst : c.st.length ≤ 8) (_hnm : c.nm.length ≤ 32) (w p a b k : Int) (n : Nat) (t : Int) (hpl : PlainR ⟨14, w, p, a, b, k, n, t⟩) (hat : plcB t = true) (_hn : n < 18446744073709551616) (a1 : 0 < wOf c a) (a2 : wOf c a = wOf c b) : InsC W c x ⟨14, w, p, a, b, k, n, t⟩ (B (RW c ⟨14, w, p, a, b, k, n, t⟩)) := by
  unfold InsC
  have hR := rw_14 c w p a b k n t
  generalize RW c ⟨14, w, p, a, b, k, n, t⟩ = E at hR ⊢
  obtain ⟨A, eA, iA, jA⟩ := wv ok a
  obtain ⟨Bw, eB, iB, jB⟩ := wv ok b
  obtain ⟨C, eC⟩ : ∃ C, cellR c a b = C := ⟨_, rfl⟩
  try simp only [eA, eB] at hR
  replace hR := Lib.hid hR
  obtain ⟨X, hX, I⟩ := IS.new hx ⟨14, w, p, a, b, k, n, t⟩
  obtain ⟨e0, e1, e2, e3, e4, e5, e6, e7, v0, v1, v2, v3⟩ := I.cs
  try simp only [eA, eB] at a1 a2
  have ta1 : decide (0 < A) = true := by simpa using a1
  have ta2 : (A == Bw) = true := by simpa using a2
  have hz : Hid (B E = (w == 1)) := Lib.hid (by symm; apply B_eq; rw [hR.out]; simp only [beq_iff_eq] <;> omega)
  clear hR a1 a2
  go_enter Tryz.func38, Tryz.ntmps38
  go_upto_region 1 with fail
  simp only [hX.out]
  go_wp2_with fail
  refine (rplain_any ⟨14, w, p, a, b, k, n, t⟩).mono ?_
  rintro e w1 ⟨rfl, b1⟩
  rw [B_of hpl]
  clear e0 e1 e2 e3 e4 e5 e6 e7 v0 v1 v2 v3
  replace I := I.later b1
  obtain ⟨e0, e1, e2, e3, e4, e5, e6, e7, v0, v1, v2, v3⟩ := I.cs
  go_wp2_with fail
  refine (rplace_any _ _).mono ?_
  rintro e w2 ⟨rfl, rfl⟩
  rw [hat]
  go_wp2_with fail
  refine (rInt_any I.at_ a).mono ?_
  rintro e w2 ⟨rfl, b2⟩
  rw [eA]
  clear e0 e1 e2 e3 e4 e5 e6 e7 v0 v1 v2 v3
  replace I := I.later b2
  obtain ⟨e0, e1, e2, e3, e4, e5, e6, e7, v0, v1, v2, v3⟩ := I.cs
  go_wp2_with fail
  refine (rInt_any I.at_ b).mono ?_
  rintro e w3 ⟨rfl, b3⟩
  rw [eB]
  clear e0 e1 e2 e3 e4 e5 e6 e7 v0 v1 v2 v3
  replace I := I.later b3
  obtain ⟨e0, e1, e2, e3, e4, e5, e6, e7, v0, v1, v2, v3⟩ := I.cs
  go_wp2
  go_ret
  exact ⟨by rw [hz.out]; try rfl, I.bA⟩
theorem rinst_14 {W : World} {c : Cd} {x : Sl} (hx : CdAt W c x) (ok : c.ok) (hst : c.st.length ≤ 8) (hnm : c.nm.length ≤ 32) (w p a b k : Int) (n : Nat) (t : Int) (hpl : PlainR ⟨14, w, p, a, b, k, n, t⟩) (hat : plcB t = true) (hn : n < 18446744073709551616) : InsC W c x ⟨14, w, p, a, b, k, n, t⟩ (B (RW c ⟨14, w, p, a, b, k, n, t⟩)) := by
  refine (Classical.em (0 < wOf c a)).elim (fun a1 => ?_) (fun a1 => rinst_14_0 hx ok hst hnm w p a b k n t hpl hat hn  a1)
  refine (Classical.em (wOf c a = wOf c b)).elim (fun a2 => ?_) (fun a2 => rinst_14_1 hx ok hst hnm w p a b k n t hpl hat hn a1 a2)
  exact rinst_14_2 hx ok hst hnm w p a b k n t hpl hat hn a1 a2
end Go.Proofs.YtnbgadndkepomaaGreatDoor

namespace Go.Proofs.YtnbgadndkepomaaGreatDoor
open Go.RowKit

theorem rw_16 (c : Cd) (w p a b k : Int) (n : Nat) (t : Int) : RW c ⟨16, w, p, a, b, k, n, t⟩ ↔ (0 < wOf c a ∧ wOf c a ≤ w ∧ w ≤ 64) := by
  unfold RW
  dsimp only
  repeat' (first | rw [if_pos (by omega)] | rw [if_neg (by omega)])
  try (unfold RI; dsimp only; repeat' (first | rw [if_pos (by omega)] | rw [if_neg (by omega)]))
set_option maxRecDepth 100000 in
set_option maxHeartbeats 3200000 in
theorem rinst_16_0 {W : World} {c : Cd} {x : Sl} (hx : CdAt W c x) (ok : c.ok) (_hst : c.st.length ≤ 8) (_hnm : c.nm.length ≤ 32) (w p a b k : Int) (n : Nat) (t : Int) (hpl : PlainR ⟨16, w, p, a, b, k, n, t⟩) (hat : plcB t = true) (_hn : n < 18446744073709551616) (a1 : ¬ (0 < wOf c a)) : InsC W c x ⟨16, w, p, a, b, k, n, t⟩ (B (RW c ⟨16, w, p, a, b, k, n, t⟩)) := by
  unfold InsC
  have hR := rw_16 c w p a b k n t
  generalize RW c ⟨16, w, p, a, b, k, n, t⟩ = E at hR ⊢
  obtain ⟨A, eA, iA, jA⟩ := wv ok a
  obtain ⟨Bw, eB, iB, jB⟩ := wv ok b
  obtain ⟨C, eC⟩ : ∃ C, cellR c a b = C := ⟨_, rfl⟩
  try simp only [eA] at hR
  replace hR := Lib.hid hR
  obtain ⟨X, hX, I⟩ := IS.new hx ⟨16, w, p, a, b, k, n, t⟩
  obtain ⟨e0, e1, e2, e3, e4, e5, e6, e7, v0, v1, v2, v3⟩ := I.cs
  try simp only [eA] at a1
  have ta1 : decide (0 < A) = false := by simpa using a1
  have hz : Hid (B E = false) := Lib.hid (B_not (fun h => by have h2 := hR.out.1 h; omega))
  clear hR a1
  go_enter Tryz.func38, Tryz.ntmps38
  go_upto_region 1 with fail
  simp only [hX.out]
  go_wp2_with fail
  refine (rplain_any ⟨16, w, p, a, b, k, n, t⟩).mono ?_
  rintro e w1 ⟨rfl, b1⟩
  rw [B_of hpl]
  clear e0 e1 e2 e3 e4 e5 e6 e7 v0 v1 v2 v3
  replace I := I.later b1
  obtain ⟨e0, e1, e2, e3, e4, e5, e6, e7, v0, v1, v2, v3⟩ := I.cs
  go_wp2_with fail
  refine (rplace_any _ _).mono ?_
  rintro e w2 ⟨rfl, rfl⟩
  rw [hat]
  go_wp2_with fail
  refine (rInt_any I.at_ a).mono ?_
  rintro e w2 ⟨rfl, b2⟩
  rw [eA]
  clear e0 e1 e2 e3 e4 e5 e6 e7 v0 v1 v2 v3
  replace I := I.later b2
  obtain ⟨e0, e1, e2, e3, e4, e5, e6, e7, v0, v1, v2, v3⟩ := I.cs
  go_wp2_with fail
  refine (rInt_any I.at_ b).mono ?_
  rintro e w3 ⟨rfl, b3⟩
  rw [eB]
  clear e0 e1 e2 e3 e4 e5 e6 e7 v0 v1 v2 v3
  replace I := I.later b3
  obtain ⟨e0, e1, e2, e3, e4, e5, e6, e7, v0, v1, v2, v3⟩ := I.cs
  go_wp2
  go_ret
  exact ⟨by rw [hz.out]; try rfl, I.bA⟩
set_option maxRecDepth 100000 in
set_option maxHeartbeats 3200000 in
theorem rinst_16_1 {W : World} {c : Cd} {x : Sl} (hx : CdAt W c x) (ok : c.ok) (_hst : c.st.length ≤ 8) (_hnm : c.nm.length ≤ 32) (w p a b k : Int) (n : Nat) (t : Int) (hpl : PlainR ⟨16, w, p, a, b, k, n, t⟩) (hat : plcB t = true) (_hn : n < 18446744073709551616) (a1 : 0 < wOf c a) (a2 : ¬ (wOf c a ≤ w)) : InsC W c x ⟨16, w, p, a, b, k, n, t⟩ (B (RW c ⟨16, w, p, a, b, k, n, t⟩)) := by
  unfold InsC
  have hR := rw_16 c w p a b k n t
  generalize RW c ⟨16, w, p, a, b, k, n, t⟩ = E at hR ⊢
  obtain ⟨A, eA, iA, jA⟩ := wv ok a
  obtain ⟨Bw, eB, iB, jB⟩ := wv ok b
  obtain ⟨C, eC⟩ : ∃ C, cellR c a b = C := ⟨_, rfl⟩
  try simp only [eA] at hR
  replace hR := Lib.hid hR
  obtain ⟨X, hX, I⟩ := IS.new hx ⟨16, w, p, a, b, k, n, t⟩
  obtain ⟨e0, e1, e2, e3, e4, e5, e6, e7, v0, v1, v2, v3⟩ := I.cs
  try simp only [eA] at a1 a2
  have ta1 : decide (0 < A) = true := by simpa using a1
  have ta2 : decide (A ≤ w) = false := by simpa using a2
  have hz : Hid (B E = false) := Lib.hid (B_not (fun h => by have h2 := hR.out.1 h; omega))
  clear hR a1 a2
  go_enter Tryz.func38, Tryz.ntmps38
  go_upto_region 1 with fail
  simp only [hX.out]
  go_wp2_with fail
  refine (rplain_any ⟨16, w, p, a, b, k, n, t⟩).mono ?_
  rintro e w1 ⟨rfl, b1⟩
  rw [B_of hpl]
  clear e0 e1 e2 e3 e4 e5 e6 e7 v0 v1 v2 v3
  replace I := I.later b1
  obtain ⟨e0, e1, e2, e3, e4, e5, e6, e7, v0, v1, v2, v3⟩ := I.cs
  go_wp2_with fail
  refine (rplace_any _ _).mono ?_
  rintro e w2 ⟨rfl, rfl⟩
  rw [hat]
  go_wp2_with fail
  refine (rInt_any I.at_ a).mono ?_
  rintro e w2 ⟨rfl, b2⟩
  rw [eA]
  clear e0 e1 e2 e3 e4 e5 e6 e7 v0 v1 v2 v3
  replace I := I.later b2
  obtain ⟨e0, e1, e2, e3, e4, e5, e6, e7, v0, v1, v2, v3⟩ := I.cs
  go_wp2_with fail
  refine (rInt_any I.at_ b).mono ?_
  rintro e w3 ⟨rfl, b3⟩
  rw [eB]
  clear e0 e1 e2 e3 e4 e5 e6 e7 v0 v1 v2 v3
  replace I := I.later b3
  obtain ⟨e0, e1, e2, e3, e4, e5, e6, e7, v0, v1, v2, v3⟩ := I.cs
  go_wp2
  go_ret
  exact ⟨by rw [hz.out]; try rfl, I.bA⟩
set_option maxRecDepth 100000 in
set_option maxHeartbeats 3200000 in
theorem rinst_16_2 {W : World} {c : Cd} {x : Sl} (hx : CdAt W c x) (ok : c.ok) (_hst : c.st.length ≤ 8) (_hnm : c.nm.length ≤ 32) (w p a b k : Int) (n : Nat) (t : Int) (hpl : PlainR ⟨16, w, p, a, b, k, n, t⟩) (hat : plcB t = true) (_hn : n < 18446744073709551616) (a1 : 0 < wOf c a) (a2 : wOf c a ≤ w) : InsC W c x ⟨16, w, p, a, b, k, n, t⟩ (B (RW c ⟨16, w, p, a, b, k, n, t⟩)) := by
  unfold InsC
  have hR := rw_16 c w p a b k n t
  generalize RW c ⟨16, w, p, a, b, k, n, t⟩ = E at hR ⊢
  obtain ⟨A, eA, iA, jA⟩ := wv ok a
  obtain ⟨Bw, eB, iB, jB⟩ := wv ok b
  obtain ⟨C, eC⟩ : ∃ C, cellR c a b = C := ⟨_, rfl⟩
  try simp only [eA] at hR
  replace hR := Lib.hid hR
  obtain ⟨X, hX, I⟩ := IS.new hx ⟨16, w, p, a, b, k, n, t⟩
  obtain ⟨e0, e1, e2, e3, e4, e5, e6, e7, v0, v1, v2, v3⟩ := I.cs
  try simp only [eA] at a1 a2
  have ta1 : decide (0 < A) = true := by simpa using a1
  have ta2 : decide (A ≤ w) = true := by simpa using a2
  have hz : Hid (B E = decide (w ≤ 64)) := Lib.hid (by symm; apply B_eq; rw [hR.out]; simp only [decide_eq_true_eq] <;> omega)
  clear hR a1 a2
  go_enter Tryz.func38, Tryz.ntmps38
  go_upto_region 1 with fail
  simp only [hX.out]
  go_wp2_with fail
  refine (rplain_any ⟨16, w, p, a, b, k, n, t⟩).mono ?_
  rintro e w1 ⟨rfl, b1⟩
  rw [B_of hpl]
  clear e0 e1 e2 e3 e4 e5 e6 e7 v0 v1 v2 v3
  replace I := I.later b1
  obtain ⟨e0, e1, e2, e3, e4, e5, e6, e7, v0, v1, v2, v3⟩ := I.cs
  go_wp2_with fail
  refine (rplace_any _ _).mono ?_
  rintro e w2 ⟨rfl, rfl⟩
  rw [hat]
  go_wp2_with fail
  refine (rInt_any I.at_ a).mono ?_
  rintro e w2 ⟨rfl, b2⟩
  rw [eA]
  clear e0 e1 e2 e3 e4 e5 e6 e7 v0 v1 v2 v3
  replace I := I.later b2
  obtain ⟨e0, e1, e2, e3, e4, e5, e6, e7, v0, v1, v2, v3⟩ := I.cs
  go_wp2_with fail
  refine (rInt_any I.at_ b).mono ?_
  rintro e w3 ⟨rfl, b3⟩
  rw [eB]
  clear e0 e1 e2 e3 e4 e5 e6 e7 v0 v1 v2 v3
  replace I := I.later b3
  obtain ⟨e0, e1, e2, e3, e4, e5, e6, e7, v0, v1, v2, v3⟩ := I.cs
  go_wp2
  go_ret
  exact ⟨by rw [hz.out]; try rfl, I.bA⟩
theorem rinst_16 {W : World} {c : Cd} {x : Sl} (hx : CdAt W c x) (ok : c.ok) (hst : c.st.length ≤ 8) (hnm : c.nm.length ≤ 32) (w p a b k : Int) (n : Nat) (t : Int) (hpl : PlainR ⟨16, w, p, a, b, k, n, t⟩) (hat : plcB t = true) (hn : n < 18446744073709551616) : InsC W c x ⟨16, w, p, a, b, k, n, t⟩ (B (RW c ⟨16, w, p, a, b, k, n, t⟩)) := by
  refine (Classical.em (0 < wOf c a)).elim (fun a1 => ?_) (fun a1 => rinst_16_0 hx ok hst hnm w p a b k n t hpl hat hn  a1)
  refine (Classical.em (wOf c a ≤ w)).elim (fun a2 => ?_) (fun a2 => rinst_16_1 hx ok hst hnm w p a b k n t hpl hat hn a1 a2)
  exact rinst_16_2 hx ok hst hnm w p a b k n t hpl hat hn a1 a2
theorem rw_17 (c : Cd) (w p a b k : Int) (n : Nat) (t : Int) : RW c ⟨17, w, p, a, b, k, n, t⟩ ↔ (0 < wOf c a ∧ wOf c a ≤ w ∧ w ≤ 64) := by
  unfold RW
  dsimp only
  repeat' (first | rw [if_pos (by omega)] | rw [if_neg (by omega)])
  try (unfold RI; dsimp only; repeat' (first | rw [if_pos (by omega)] | rw [if_neg (by omega)]))
set_option maxRecDepth 100000 in
set_option maxHeartbeats 3200000 in
theorem rinst_17_0 {W : World} {c : Cd} {x : Sl} (hx : CdAt W c x) (ok : c.ok) (_hst : c.st.length ≤ 8) (_hnm : c.nm.length ≤ 32) (w p a b k : Int) (n : Nat) (t : Int) (hpl : PlainR ⟨17, w, p, a, b, k, n, t⟩) (hat : plcB t = true) (_hn : n < 18446744073709551616) (a1 : ¬ (0 < wOf c a)) : InsC W c x ⟨17, w, p, a, b, k, n, t⟩ (B (RW c ⟨17, w, p, a, b, k, n, t⟩)) := by
  unfold InsC
  have hR := rw_17 c w p a b k n t
  generalize RW c ⟨17, w, p, a, b, k, n, t⟩ = E at hR ⊢
  obtain ⟨A, eA, iA, jA⟩ := wv ok a
  obtain ⟨Bw, eB, iB, jB⟩ := wv ok b
  obtain ⟨C, eC⟩ : ∃ C, cellR c a b = C := ⟨_, rfl⟩
  try simp only [eA] at hR
  replace hR := Lib.hid hR
  obtain ⟨X, hX, I⟩ := IS.new hx ⟨17, w, p, a, b, k, n, t⟩
  obtain ⟨e0, e1, e2, e3, e4, e5, e6, e7, v0, v1, v2, v3⟩ := I.cs
  try simp only [eA] at a1
  have ta1 : decide (0 < A) = false := by simpa using a1
  have hz : Hid (B E = false) := Lib.hid (B_not (fun h => by have h2 := hR.out.1 h; omega))
  clear hR a1
  go_enter Tryz.func38, Tryz.ntmps38
  go_upto_region 1 with fail
  simp only [hX.out]
  go_wp2_with fail
  refine (rplain_any ⟨17, w, p, a, b, k, n, t⟩).mono ?_
  rintro e w1 ⟨rfl, b1⟩
  rw [B_of hpl]
  clear e0 e1 e2 e3 e4 e5 e6 e7 v0 v1 v2 v3
  replace I := I.later b1
  obtain ⟨e0, e1, e2, e3, e4, e5, e6, e7, v0, v1, v2, v3⟩ := I.cs
  go_wp2_with fail
  refine (rplace_any _ _).mono ?_
  rintro e w2 ⟨rfl, rfl⟩
  rw [hat]
  go_wp2_with fail
  refine (rInt_any I.at_ a).mono ?_
  rintro e w2 ⟨rfl, b2⟩
  rw [eA]
  clear e0 e1 e2 e3 e4 e5 e6 e7 v0 v1 v2 v3
  replace I := I.later b2
  obtain ⟨e0, e1, e2, e3, e4, e5, e6, e7, v0, v1, v2, v3⟩ := I.cs
  go_wp2_with fail
  refine (rInt_any I.at_ b).mono ?_
  rintro e w3 ⟨rfl, b3⟩
  rw [eB]
  clear e0 e1 e2 e3 e4 e5 e6 e7 v0 v1 v2 v3
  replace I := I.later b3
  obtain ⟨e0, e1, e2, e3, e4, e5, e6, e7, v0, v1, v2, v3⟩ := I.cs
  go_wp2
  go_ret
  exact ⟨by rw [hz.out]; try rfl, I.bA⟩
set_option maxRecDepth 100000 in
set_option maxHeartbeats 3200000 in
theorem rinst_17_1 {W : World} {c : Cd} {x : Sl} (hx : CdAt W c x) (ok : c.ok) (_hst : c.st.length ≤ 8) (_hnm : c.nm.length ≤ 32) (w p a b k : Int) (n : Nat) (t : Int) (hpl : PlainR ⟨17, w, p, a, b, k, n, t⟩) (hat : plcB t = true) (_hn : n < 18446744073709551616) (a1 : 0 < wOf c a) (a2 : ¬ (wOf c a ≤ w)) : InsC W c x ⟨17, w, p, a, b, k, n, t⟩ (B (RW c ⟨17, w, p, a, b, k, n, t⟩)) := by
  unfold InsC
  have hR := rw_17 c w p a b k n t
  generalize RW c ⟨17, w, p, a, b, k, n, t⟩ = E at hR ⊢
  obtain ⟨A, eA, iA, jA⟩ := wv ok a
  obtain ⟨Bw, eB, iB, jB⟩ := wv ok b
  obtain ⟨C, eC⟩ : ∃ C, cellR c a b = C := ⟨_, rfl⟩
  try simp only [eA] at hR
  replace hR := Lib.hid hR
  obtain ⟨X, hX, I⟩ := IS.new hx ⟨17, w, p, a, b, k, n, t⟩
  obtain ⟨e0, e1, e2, e3, e4, e5, e6, e7, v0, v1, v2, v3⟩ := I.cs
  try simp only [eA] at a1 a2
  have ta1 : decide (0 < A) = true := by simpa using a1
  have ta2 : decide (A ≤ w) = false := by simpa using a2
  have hz : Hid (B E = false) := Lib.hid (B_not (fun h => by have h2 := hR.out.1 h; omega))
  clear hR a1 a2
  go_enter Tryz.func38, Tryz.ntmps38
  go_upto_region 1 with fail
  simp only [hX.out]
  go_wp2_with fail
  refine (rplain_any ⟨17, w, p, a, b, k, n, t⟩).mono ?_
  rintro e w1 ⟨rfl, b1⟩
  rw [B_of hpl]
  clear e0 e1 e2 e3 e4 e5 e6 e7 v0 v1 v2 v3
  replace I := I.later b1
  obtain ⟨e0, e1, e2, e3, e4, e5, e6, e7, v0, v1, v2, v3⟩ := I.cs
  go_wp2_with fail
  refine (rplace_any _ _).mono ?_
  rintro e w2 ⟨rfl, rfl⟩
  rw [hat]
  go_wp2_with fail
  refine (rInt_any I.at_ a).mono ?_
  rintro e w2 ⟨rfl, b2⟩
  rw [eA]
  clear e0 e1 e2 e3 e4 e5 e6 e7 v0 v1 v2 v3
  replace I := I.later b2
  obtain ⟨e0, e1, e2, e3, e4, e5, e6, e7, v0, v1, v2, v3⟩ := I.cs
  go_wp2_with fail
  refine (rInt_any I.at_ b).mono ?_
  rintro e w3 ⟨rfl, b3⟩
  rw [eB]
  clear e0 e1 e2 e3 e4 e5 e6 e7 v0 v1 v2 v3
  replace I := I.later b3
  obtain ⟨e0, e1, e2, e3, e4, e5, e6, e7, v0, v1, v2, v3⟩ := I.cs
  go_wp2
  go_ret
  exact ⟨by rw [hz.out]; try rfl, I.bA⟩
set_option maxRecDepth 100000 in
set_option maxHeartbeats 3200000 in
theorem rinst_17_2 {W : World} {c : Cd} {x : Sl} (hx : CdAt W c x) (ok : c.ok) (_hst : c.st.length ≤ 8) (_hnm : c.nm.length ≤ 32) (w p a b k : Int) (n : Nat) (t : Int) (hpl : PlainR ⟨17, w, p, a, b, k, n, t⟩) (hat : plcB t = true) (_hn : n < 18446744073709551616) (a1 : 0 < wOf c a) (a2 : wOf c a ≤ w) : InsC W c x ⟨17, w, p, a, b, k, n, t⟩ (B (RW c ⟨17, w, p, a, b, k, n, t⟩)) := by
  unfold InsC
  have hR := rw_17 c w p a b k n t
  generalize RW c ⟨17, w, p, a, b, k, n, t⟩ = E at hR ⊢
  obtain ⟨A, eA, iA, jA⟩ := wv ok a
  obtain ⟨Bw, eB, iB, jB⟩ := wv ok b
  obtain ⟨C, eC⟩ : ∃ C, cellR c a b = C := ⟨_, rfl⟩
  try simp only [eA] at hR
  replace hR := Lib.hid hR
  obtain ⟨X, hX, I⟩ := IS.new hx ⟨17, w, p, a, b, k, n, t⟩
  obtain ⟨e0, e1, e2, e3, e4, e5, e6, e7, v0, v1, v2, v3⟩ := I.cs
  try simp only [eA] at a1 a2
  have ta1 : decide (0 < A) = true := by simpa using a1
  have ta2 : decide (A ≤ w) = true := by simpa using a2
  have hz : Hid (B E = decide (w ≤ 64)) := Lib.hid (by symm; apply B_eq; rw [hR.out]; simp only [decide_eq_true_eq] <;> omega)
  clear hR a1 a2
  go_enter Tryz.func38, Tryz.ntmps38
  go_upto_region 1 with fail
  simp only [hX.out]
  go_wp2_with fail
  refine (rplain_any ⟨17, w, p, a, b, k, n, t⟩).mono ?_
  rintro e w1 ⟨rfl, b1⟩
  rw [B_of hpl]
  clear e0 e1 e2 e3 e4 e5 e6 e7 v0 v1 v2 v3
  replace I := I.later b1
  obtain ⟨e0, e1, e2, e3, e4, e5, e6, e7, v0, v1, v2, v3⟩ := I.cs
  go_wp2_with fail
  refine (rplace_any _ _).mono ?_
  rintro e w2 ⟨rfl, rfl⟩
  rw [hat]
  go_wp2_with fail
  refine (rInt_any I.at_ a).mono ?_
  rintro e w2 ⟨rfl, b2⟩
  rw [eA]
  clear e0 e1 e2 e3 e4 e5 e6 e7 v0 v1 v2 v3
  replace I := I.later b2
  obtain ⟨e0, e1, e2, e3, e4, e5, e6, e7, v0, v1, v2, v3⟩ := I.cs
  go_wp2_with fail
  refine (rInt_any I.at_ b).mono ?_
  rintro e w3 ⟨rfl, b3⟩
  rw [eB]
  clear e0 e1 e2 e3 e4 e5 e6 e7 v0 v1 v2 v3
  replace I := I.later b3
  obtain ⟨e0, e1, e2, e3, e4, e5, e6, e7, v0, v1, v2, v3⟩ := I.cs
  go_wp2
  go_ret
  exact ⟨by rw [hz.out]; try rfl, I.bA⟩
theorem rinst_17 {W : World} {c : Cd} {x : Sl} (hx : CdAt W c x) (ok : c.ok) (hst : c.st.length ≤ 8) (hnm : c.nm.length ≤ 32) (w p a b k : Int) (n : Nat) (t : Int) (hpl : PlainR ⟨17, w, p, a, b, k, n, t⟩) (hat : plcB t = true) (hn : n < 18446744073709551616) : InsC W c x ⟨17, w, p, a, b, k, n, t⟩ (B (RW c ⟨17, w, p, a, b, k, n, t⟩)) := by
  refine (Classical.em (0 < wOf c a)).elim (fun a1 => ?_) (fun a1 => rinst_17_0 hx ok hst hnm w p a b k n t hpl hat hn  a1)
  refine (Classical.em (wOf c a ≤ w)).elim (fun a2 => ?_) (fun a2 => rinst_17_1 hx ok hst hnm w p a b k n t hpl hat hn a1 a2)
  exact rinst_17_2 hx ok hst hnm w p a b k n t hpl hat hn a1 a2
theorem rw_19 (c : Cd) (w p a b k : Int) (n : Nat) (t : Int) : RW c ⟨19, w, p, a, b, k, n, t⟩ ↔ (0 < wOf c a ∧ 0 < wOf c b ∧ w = wrap64 (wOf c a + wOf c b) ∧ w ≤ 64) := by
  unfold RW
  dsimp only
  repeat' (first | rw [if_pos (by omega)] | rw [if_neg (by omega)])
  try (unfold RI; dsimp only; repeat' (first | rw [if_pos (by omega)] | rw [if_neg (by omega)]))
set_option maxRecDepth 100000 in
set_option maxHeartbeats 3200000 in
theorem rinst_19_0 {W : World} {c : Cd} {x : Sl} (hx : CdAt W c x) (ok : c.ok) (_hst : c.st.length ≤ 8) (_hnm : c.nm.length ≤ 32) (w p a b k : Int) (n : Nat) (t : Int) (hpl : PlainR ⟨19, w, p, a, b, k, n, t⟩) (hat : plcB t = true) (_hn : n < 18446744073709551616) (a1 : ¬ (0 < wOf c a)) : InsC W c x ⟨19, w, p, a, b, k, n, t⟩ (B (RW c ⟨19, w, p, a, b, k, n, t⟩)) := by
  unfold InsC
  have hR := rw_19 c w p a b k n t
  generalize RW c ⟨19, w, p, a, b, k, n, t⟩ = E at hR ⊢
  obtain ⟨A, eA, iA, jA⟩ := wv ok a
  obtain ⟨Bw, eB, iB, jB⟩ := wv ok b
  obtain ⟨C, eC⟩ : ∃ C, cellR c a b = C := ⟨_, rfl⟩
  try simp only [eA, eB] at hR
  replace hR := Lib.hid hR
  obtain ⟨X, hX, I⟩ := IS.new hx ⟨19, w, p, a, b, k, n, t⟩
  obtain ⟨e0, e1, e2, e3, e4, e5, e6, e7, v0, v1, v2, v3⟩ := I.cs
  try simp only [eA] at a1
  have ta1 : decide (0 < A) = false := by simpa using a1
  have hz : Hid (B E = false) := Lib.hid (B_not (fun h => by have h2 := hR.out.1 h; omega))
  clear hR a1
  go_enter Tryz.func38, Tryz.ntmps38
  go_upto_region 1 with fail
  simp only [hX.out]
  go_wp2_with fail
  refine (rplain_any ⟨19, w, p, a, b, k, n, t⟩).mono ?_
  rintro e w1 ⟨rfl, b1⟩
  rw [B_of hpl]
  clear e0 e1 e2 e3 e4 e5 e6 e7 v0 v1 v2 v3
  replace I := I.later b1
  obtain ⟨e0, e1, e2, e3, e4, e5, e6, e7, v0, v1, v2, v3⟩ := I.cs
  go_wp2_with fail
  refine (rplace_any _ _).mono ?_
  rintro e w2 ⟨rfl, rfl⟩
  rw [hat]
  go_wp2_with fail
  refine (rInt_any I.at_ a).mono ?_
  rintro e w2 ⟨rfl, b2⟩
  rw [eA]
  clear e0 e1 e2 e3 e4 e5 e6 e7 v0 v1 v2 v3
  replace I := I.later b2
  obtain ⟨e0, e1, e2, e3, e4, e5, e6, e7, v0, v1, v2, v3⟩ := I.cs
  go_wp2_with fail
  refine (rInt_any I.at_ b).mono ?_
  rintro e w3 ⟨rfl, b3⟩
  rw [eB]
  clear e0 e1 e2 e3 e4 e5 e6 e7 v0 v1 v2 v3
  replace I := I.later b3
  obtain ⟨e0, e1, e2, e3, e4, e5, e6, e7, v0, v1, v2, v3⟩ := I.cs
  go_wp2
  go_ret
  exact ⟨by rw [hz.out]; try rfl, I.bA⟩
set_option maxRecDepth 100000 in
set_option maxHeartbeats 3200000 in
theorem rinst_19_1 {W : World} {c : Cd} {x : Sl} (hx : CdAt W c x) (ok : c.ok) (_hst : c.st.length ≤ 8) (_hnm : c.nm.length ≤ 32) (w p a b k : Int) (n : Nat) (t : Int) (hpl : PlainR ⟨19, w, p, a, b, k, n, t⟩) (hat : plcB t = true) (_hn : n < 18446744073709551616) (a1 : 0 < wOf c a) (a2 : ¬ (0 < wOf c b)) : InsC W c x ⟨19, w, p, a, b, k, n, t⟩ (B (RW c ⟨19, w, p, a, b, k, n, t⟩)) := by
  unfold InsC
  have hR := rw_19 c w p a b k n t
  generalize RW c ⟨19, w, p, a, b, k, n, t⟩ = E at hR ⊢
  obtain ⟨A, eA, iA, jA⟩ := wv ok a
  obtain ⟨Bw, eB, iB, jB⟩ := wv ok b
  obtain ⟨C, eC⟩ : ∃ C, cellR c a b = C := ⟨_, rfl⟩
  try simp only [eA, eB] at hR
  replace hR := Lib.hid hR
  obtain ⟨X, hX, I⟩ := IS.new hx ⟨19, w, p, a, b, k, n, t⟩
  obtain ⟨e0, e1, e2, e3, e4, e5, e6, e7, v0, v1, v2, v3⟩ := I.cs
  try simp only [eA, eB] at a1 a2
  have ta1 : decide (0 < A) = true := by simpa using a1
  have ta2 : decide (0 < Bw) = false := by simpa using a2
  have hz : Hid (B E = false) := Lib.hid (B_not (fun h => by have h2 := hR.out.1 h; omega))
  clear hR a1 a2
  go_enter Tryz.func38, Tryz.ntmps38
  go_upto_region 1 with fail
  simp only [hX.out]
  go_wp2_with fail
  refine (rplain_any ⟨19, w, p, a, b, k, n, t⟩).mono ?_
  rintro e w1 ⟨rfl, b1⟩
  rw [B_of hpl]
  clear e0 e1 e2 e3 e4 e5 e6 e7 v0 v1 v2 v3
  replace I := I.later b1
  obtain ⟨e0, e1, e2, e3, e4, e5, e6, e7, v0, v1, v2, v3⟩ := I.cs
  go_wp2_with fail
  refine (rplace_any _ _).mono ?_
  rintro e w2 ⟨rfl, rfl⟩
  rw [hat]
  go_wp2_with fail
  refine (rInt_any I.at_ a).mono ?_
  rintro e w2 ⟨rfl, b2⟩
  rw [eA]
  clear e0 e1 e2 e3 e4 e5 e6 e7 v0 v1 v2 v3
  replace I := I.later b2
  obtain ⟨e0, e1, e2, e3, e4, e5, e6, e7, v0, v1, v2, v3⟩ := I.cs
  go_wp2_with fail
  refine (rInt_any I.at_ b).mono ?_
  rintro e w3 ⟨rfl, b3⟩
  rw [eB]
  clear e0 e1 e2 e3 e4 e5 e6 e7 v0 v1 v2 v3
  replace I := I.later b3
  obtain ⟨e0, e1, e2, e3, e4, e5, e6, e7, v0, v1, v2, v3⟩ := I.cs
  go_wp2
  go_ret
  exact ⟨by rw [hz.out]; try rfl, I.bA⟩
set_option maxRecDepth 100000 in
set_option maxHeartbeats 3200000 in
theorem rinst_19_2 {W : World} {c : Cd} {x : Sl} (hx : CdAt W c x) (ok : c.ok) (_hst : c.st.length ≤ 8) (_hnm : c.nm.length ≤ 32) (w p a b k : Int) (n : Nat) (t : Int) (hpl : PlainR ⟨19, w, p, a, b, k, n, t⟩) (hat : plcB t = true) (_hn : n < 18446744073709551616) (a1 : 0 < wOf c a) (a2 : 0 < wOf c b) (a3 : ¬ (w = wrap64 (wOf c a + wOf c b))) : InsC W c x ⟨19, w, p, a, b, k, n, t⟩ (B (RW c ⟨19, w, p, a, b, k, n, t⟩)) := by
  unfold InsC
  have hR := rw_19 c w p a b k n t
  generalize RW c ⟨19, w, p, a, b, k, n, t⟩ = E at hR ⊢
  obtain ⟨A, eA, iA, jA⟩ := wv ok a
  obtain ⟨Bw, eB, iB, jB⟩ := wv ok b
  obtain ⟨C, eC⟩ : ∃ C, cellR c a b = C := ⟨_, rfl⟩
  try simp only [eA, eB] at hR
  replace hR := Lib.hid hR
  obtain ⟨X, hX, I⟩ := IS.new hx ⟨19, w, p, a, b, k, n, t⟩
  obtain ⟨e0, e1, e2, e3, e4, e5, e6, e7, v0, v1, v2, v3⟩ := I.cs
  try simp only [eA, eB] at a1 a2 a3
  have ta1 : decide (0 < A) = true := by simpa using a1
  have ta2 : decide (0 < Bw) = true := by simpa using a2
  have ta3 : (w == wrap64 (A + Bw)) = false := by simpa using a3
  have hz : Hid (B E = false) := Lib.hid (B_not (fun h => by have h2 := hR.out.1 h; omega))
  clear hR a1 a2 a3
  go_enter Tryz.func38, Tryz.ntmps38
  go_upto_region 1 with fail
  simp only [hX.out]
  go_wp2_with fail
  refine (rplain_any ⟨19, w, p, a, b, k, n, t⟩).mono ?_
  rintro e w1 ⟨rfl, b1⟩
  rw [B_of hpl]
  clear e0 e1 e2 e3 e4 e5 e6 e7 v0 v1 v2 v3
  replace I := I.later b1
  obtain ⟨e0, e1, e2, e3, e4, e5, e6, e7, v0, v1, v2, v3⟩ := I.cs
  go_wp2_with fail
  refine (rplace_any _ _).mono ?_
  rintro e w2 ⟨rfl, rfl⟩
  rw [hat]
  go_wp2_with fail
  refine (rInt_any I.at_ a).mono ?_
  rintro e w2 ⟨rfl, b2⟩
  rw [eA]
  clear e0 e1 e2 e3 e4 e5 e6 e7 v0 v1 v2 v3
  replace I := I.later b2
  obtain ⟨e0, e1, e2, e3, e4, e5, e6, e7, v0, v1, v2, v3⟩ := I.cs
  go_wp2_with fail
  refine (rInt_any I.at_ b).mono ?_
  rintro e w3 ⟨rfl, b3⟩
  rw [eB]
  clear e0 e1 e2 e3 e4 e5 e6 e7 v0 v1 v2 v3
  replace I := I.later b3
  obtain ⟨e0, e1, e2, e3, e4, e5, e6, e7, v0, v1, v2, v3⟩ := I.cs
  go_wp2
  go_ret
  exact ⟨by rw [hz.out]; try rfl, I.bA⟩
set_option maxRecDepth 100000 in
set_option maxHeartbeats 3200000 in
theorem rinst_19_3 {W : World} {c : Cd} {x : Sl} (hx : CdAt W c x) (ok : c.ok) (_hst : c.st.length ≤ 8) (_hnm : c.nm.length ≤ 32) (w p a b k : Int) (n : Nat) (t : Int) (hpl : PlainR ⟨19, w, p, a, b, k, n, t⟩) (hat : plcB t = true) (_hn : n < 18446744073709551616) (a1 : 0 < wOf c a) (a2 : 0 < wOf c b) (a3 : w = wrap64 (wOf c a + wOf c b)) : InsC W c x ⟨19, w, p, a, b, k, n, t⟩ (B (RW c ⟨19, w, p, a, b, k, n, t⟩)) := by
  unfold InsC
  have hR := rw_19 c w p a b k n t
  generalize RW c ⟨19, w, p, a, b, k, n, t⟩ = E at hR ⊢
  obtain ⟨A, eA, iA, jA⟩ := wv ok a
  obtain ⟨Bw, eB, iB, jB⟩ := wv ok b
  obtain ⟨C, eC⟩ : ∃ C, cellR c a b = C := ⟨_, rfl⟩
  try simp only [eA, eB] at hR
  replace hR := Lib.hid hR
  obtain ⟨X, hX, I⟩ := IS.new hx ⟨19, w, p, a, b, k, n, t⟩
  obtain ⟨e0, e1, e2, e3, e4, e5, e6, e7, v0, v1, v2, v3⟩ := I.cs
  try simp only [eA, eB] at a1 a2 a3
  have ta1 : decide (0 < A) = true := by simpa using a1
  have ta2 : decide (0 < Bw) = true := by simpa using a2
  have ta3 : (w == wrap64 (A + Bw)) = true := by simpa using a3
  have hz : Hid (B E = decide (w ≤ 64)) := Lib.hid (by symm; apply B_eq; rw [hR.out]; simp only [decide_eq_true_eq] <;> omega)
  clear hR a1 a2 a3
  go_enter Tryz.func38, Tryz.ntmps38
  go_upto_region 1 with fail
  simp only [hX.out]
  go_wp2_with fail
  refine (rplain_any ⟨19, w, p, a, b, k, n, t⟩).mono ?_
  rintro e w1 ⟨rfl, b1⟩
  rw [B_of hpl]
  clear e0 e1 e2 e3 e4 e5 e6 e7 v0 v1 v2 v3
  replace I := I.later b1
  obtain ⟨e0, e1, e2, e3, e4, e5, e6, e7, v0, v1, v2, v3⟩ := I.cs
  go_wp2_with fail
  refine (rplace_any _ _).mono ?_
  rintro e w2 ⟨rfl, rfl⟩
  rw [hat]
  go_wp2_with fail
  refine (rInt_any I.at_ a).mono ?_
  rintro e w2 ⟨rfl, b2⟩
  rw [eA]
  clear e0 e1 e2 e3 e4 e5 e6 e7 v0 v1 v2 v3
  replace I := I.later b2
  obtain ⟨e0, e1, e2, e3, e4, e5, e6, e7, v0, v1, v2, v3⟩ := I.cs
  go_wp2_with fail
  refine (rInt_any I.at_ b).mono ?_
  rintro e w3 ⟨rfl, b3⟩
  rw [eB]
  clear e0 e1 e2 e3 e4 e5 e6 e7 v0 v1 v2 v3
  replace I := I.later b3
  obtain ⟨e0, e1, e2, e3, e4, e5, e6, e7, v0, v1, v2, v3⟩ := I.cs
  go_wp2
  go_ret
  exact ⟨by rw [hz.out]; try rfl, I.bA⟩
theorem rinst_19 {W : World} {c : Cd} {x : Sl} (hx : CdAt W c x) (ok : c.ok) (hst : c.st.length ≤ 8) (hnm : c.nm.length ≤ 32) (w p a b k : Int) (n : Nat) (t : Int) (hpl : PlainR ⟨19, w, p, a, b, k, n, t⟩) (hat : plcB t = true) (hn : n < 18446744073709551616) : InsC W c x ⟨19, w, p, a, b, k, n, t⟩ (B (RW c ⟨19, w, p, a, b, k, n, t⟩)) := by
  refine (Classical.em (0 < wOf c a)).elim (fun a1 => ?_) (fun a1 => rinst_19_0 hx ok hst hnm w p a b k n t hpl hat hn  a1)
  refine (Classical.em (0 < wOf c b)).elim (fun a2 => ?_) (fun a2 => rinst_19_1 hx ok hst hnm w p a b k n t hpl hat hn a1 a2)
  refine (Classical.em (w = wrap64 (wOf c a + wOf c b))).elim (fun a3 => ?_) (fun a3 => rinst_19_2 hx ok hst hnm w p a b k n t hpl hat hn a1 a2 a3)
  exact rinst_19_3 hx ok hst hnm w p a b k n t hpl hat hn a1 a2 a3
end Go.Proofs.YtnbgadndkepomaaGreatDoor
