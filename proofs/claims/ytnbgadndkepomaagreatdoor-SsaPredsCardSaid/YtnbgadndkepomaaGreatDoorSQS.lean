/- Joined texts: SaRi4, SaRi5. -/
import Derived.Test.YtnbgadndkepomaaGreatDoorSQW

namespace Go.Proofs.YtnbgadndkepomaaGreatDoor
open Go.RowKit

theorem rw_18 (c : Cd) (w p a b k : Int) (n : Nat) (t : Int) : RW c ⟨18, w, p, a, b, k, n, t⟩ ↔ (0 < wOf c a ∧ Wid w ∧ (n : Int) ≤ wOf c a ∧ wrap64 ((n : Int) + w) ≤ wOf c a) := by
  unfold RW
  dsimp only
  repeat' (first | rw [if_pos (by omega)] | rw [if_neg (by omega)])
  try (unfold RI; dsimp only; repeat' (first | rw [if_pos (by omega)] | rw [if_neg (by omega)]))
set_option maxRecDepth 100000 in
set_option maxHeartbeats 3200000 in
theorem rinst_18_0 {W : World} {c : Cd} {x : Sl} (hx : CdAt W c x) (ok : c.ok) (_hst : c.st.length ≤ 8) (_hnm : c.nm.length ≤ 32) (w p a b k : Int) (n : Nat) (t : Int) (hpl : PlainR ⟨18, w, p, a, b, k, n, t⟩) (hat : plcB t = true) (_hn : n < 18446744073709551616) (a1 : ¬ (0 < wOf c a)) : InsC W c x ⟨18, w, p, a, b, k, n, t⟩ (B (RW c ⟨18, w, p, a, b, k, n, t⟩)) := by
  unfold InsC
  have hR := rw_18 c w p a b k n t
  generalize RW c ⟨18, w, p, a, b, k, n, t⟩ = E at hR ⊢
  obtain ⟨A, eA, iA, jA⟩ := wv ok a
  obtain ⟨Bw, eB, iB, jB⟩ := wv ok b
  obtain ⟨C, eC⟩ : ∃ C, cellR c a b = C := ⟨_, rfl⟩
  try simp only [eA] at hR
  replace hR := Lib.hid hR
  obtain ⟨X, hX, I⟩ := IS.new hx ⟨18, w, p, a, b, k, n, t⟩
  obtain ⟨e0, e1, e2, e3, e4, e5, e6, e7, v0, v1, v2, v3⟩ := I.cs
  try simp only [eA] at a1
  have ta1 : decide (0 < A) = false := by simpa using a1
  have hz : Hid (B E = false) := Lib.hid (B_not (fun h => by have h2 := hR.out.1 h; unfold Wid at h2; omega))
  clear hR a1
  go_enter Tryz.func38, Tryz.ntmps38
  go_upto_region 1 with fail
  simp only [hX.out]
  go_wp2_with fail
  refine (rplain_any ⟨18, w, p, a, b, k, n, t⟩).mono ?_
  rintro e w1 ⟨rfl, b1⟩
  rw [B_of hpl]
  clear e0 e1 e2 e3 e4 e5 e6 e7 v0 v1 v2 v3
  replace I := I.later b1
  obtain ⟨e0, e1, e2, e3, e4, e5, e6, e7, v0, v1, v2, v3⟩ := I.cs
  go_wp2_with fail
  refine (rplace_any _ _).mono ?_
  rintro e w2 ⟨rfl, rfl⟩
  rw [hat]
  go_wp2_with fail
  refine (rInt_any I.at_ a).mono ?_
  rintro e w2 ⟨rfl, b2⟩
  rw [eA]
  clear e0 e1 e2 e3 e4 e5 e6 e7 v0 v1 v2 v3
  replace I := I.later b2
  obtain ⟨e0, e1, e2, e3, e4, e5, e6, e7, v0, v1, v2, v3⟩ := I.cs
  go_wp2_with fail
  refine (rInt_any I.at_ b).mono ?_
  rintro e w3 ⟨rfl, b3⟩
  rw [eB]
  clear e0 e1 e2 e3 e4 e5 e6 e7 v0 v1 v2 v3
  replace I := I.later b3
  obtain ⟨e0, e1, e2, e3, e4, e5, e6, e7, v0, v1, v2, v3⟩ := I.cs
  go_wp2
  go_ret
  exact ⟨by rw [hz.out]; try rfl, I.bA⟩
set_option maxRecDepth 100000 in
set_option maxHeartbeats 3200000 in
theorem rinst_18_1 {W : World} {c : Cd} {x : Sl} (hx : CdAt W c x) (ok : c.ok) (_hst : c.st.length ≤ 8) (_hnm : c.nm.length ≤ 32) (w p a b k : Int) (n : Nat) (t : Int) (hpl : PlainR ⟨18, w, p, a, b, k, n, t⟩) (hat : plcB t = true) (_hn : n < 18446744073709551616) (a1 : 0 < wOf c a) (a2 : ¬ (widB w = true)) : InsC W c x ⟨18, w, p, a, b, k, n, t⟩ (B (RW c ⟨18, w, p, a, b, k, n, t⟩)) := by
  unfold InsC
  have hR := rw_18 c w p a b k n t
  generalize RW c ⟨18, w, p, a, b, k, n, t⟩ = E at hR ⊢
  obtain ⟨A, eA, iA, jA⟩ := wv ok a
  obtain ⟨Bw, eB, iB, jB⟩ := wv ok b
  obtain ⟨C, eC⟩ : ∃ C, cellR c a b = C := ⟨_, rfl⟩
  try simp only [eA] at hR
  replace hR := Lib.hid hR
  obtain ⟨X, hX, I⟩ := IS.new hx ⟨18, w, p, a, b, k, n, t⟩
  obtain ⟨e0, e1, e2, e3, e4, e5, e6, e7, v0, v1, v2, v3⟩ := I.cs
  try simp only [eA] at a1 a2
  have ta1 : decide (0 < A) = true := by simpa using a1
  have hz : Hid (B E = false) := Lib.hid (B_not (fun h => by have h2 := hR.out.1 h; rw [wid_iff] at a2; exact a2 h2.2.1))
  clear hR a1
  go_enter Tryz.func38, Tryz.ntmps38
  go_upto_region 1 with fail
  simp only [hX.out]
  go_wp2_with fail
  refine (rplain_any ⟨18, w, p, a, b, k, n, t⟩).mono ?_
  rintro e w1 ⟨rfl, b1⟩
  rw [B_of hpl]
  clear e0 e1 e2 e3 e4 e5 e6 e7 v0 v1 v2 v3
  replace I := I.later b1
  obtain ⟨e0, e1, e2, e3, e4, e5, e6, e7, v0, v1, v2, v3⟩ := I.cs
  go_wp2_with fail
  refine (rplace_any _ _).mono ?_
  rintro e w2 ⟨rfl, rfl⟩
  rw [hat]
  go_wp2_with fail
  refine (rInt_any I.at_ a).mono ?_
  rintro e w2 ⟨rfl, b2⟩
  rw [eA]
  clear e0 e1 e2 e3 e4 e5 e6 e7 v0 v1 v2 v3
  replace I := I.later b2
  obtain ⟨e0, e1, e2, e3, e4, e5, e6, e7, v0, v1, v2, v3⟩ := I.cs
  go_wp2_with fail
  refine (rInt_any I.at_ b).mono ?_
  rintro e w3 ⟨rfl, b3⟩
  rw [eB]
  clear e0 e1 e2 e3 e4 e5 e6 e7 v0 v1 v2 v3
  replace I := I.later b3
  obtain ⟨e0, e1, e2, e3, e4, e5, e6, e7, v0, v1, v2, v3⟩ := I.cs
  go_wp2_with fail
  refine (rWidth_any _ _).mono ?_
  rintro e' w4 ⟨rfl, rfl⟩
  rw [show widB w = false from by simpa using a2]
  go_wp2
  go_ret
  exact ⟨by rw [hz.out]; try rfl, I.bA⟩
set_option maxRecDepth 100000 in
set_option maxHeartbeats 3200000 in
theorem rinst_18_2 {W : World} {c : Cd} {x : Sl} (hx : CdAt W c x) (ok : c.ok) (_hst : c.st.length ≤ 8) (_hnm : c.nm.length ≤ 32) (w p a b k : Int) (n : Nat) (t : Int) (hpl : PlainR ⟨18, w, p, a, b, k, n, t⟩) (hat : plcB t = true) (_hn : n < 18446744073709551616) (a1 : 0 < wOf c a) (a2 : widB w = true) (a3 : ¬ ((n : Int) ≤ wOf c a)) : InsC W c x ⟨18, w, p, a, b, k, n, t⟩ (B (RW c ⟨18, w, p, a, b, k, n, t⟩)) := by
  unfold InsC
  have hR := rw_18 c w p a b k n t
  generalize RW c ⟨18, w, p, a, b, k, n, t⟩ = E at hR ⊢
  obtain ⟨A, eA, iA, jA⟩ := wv ok a
  obtain ⟨Bw, eB, iB, jB⟩ := wv ok b
  obtain ⟨C, eC⟩ : ∃ C, cellR c a b = C := ⟨_, rfl⟩
  try simp only [eA] at hR
  replace hR := Lib.hid hR
  obtain ⟨X, hX, I⟩ := IS.new hx ⟨18, w, p, a, b, k, n, t⟩
  obtain ⟨e0, e1, e2, e3, e4, e5, e6, e7, v0, v1, v2, v3⟩ := I.cs
  try simp only [eA] at a1 a2 a3
  have ta1 : decide (0 < A) = true := by simpa using a1
  have ta3 : decide ((n : Int) ≤ IntKind.u64.wrap A) = false := by rw [show IntKind.u64.wrap A = A from by simp [IntKind.wrap, IntKind.signed, IntKind.bits]; omega]; simpa using a3
  have hz : Hid (B E = false) := Lib.hid (B_not (fun h => by have h2 := hR.out.1 h; unfold Wid at h2; omega))
  clear hR a1 a3
  go_enter Tryz.func38, Tryz.ntmps38
  go_upto_region 1 with fail
  simp only [hX.out]
  go_wp2_with fail
  refine (rplain_any ⟨18, w, p, a, b, k, n, t⟩).mono ?_
  rintro e w1 ⟨rfl, b1⟩
  rw [B_of hpl]
  clear e0 e1 e2 e3 e4 e5 e6 e7 v0 v1 v2 v3
  replace I := I.later b1
  obtain ⟨e0, e1, e2, e3, e4, e5, e6, e7, v0, v1, v2, v3⟩ := I.cs
  go_wp2_with fail
  refine (rplace_any _ _).mono ?_
  rintro e w2 ⟨rfl, rfl⟩
  rw [hat]
  go_wp2_with fail
  refine (rInt_any I.at_ a).mono ?_
  rintro e w2 ⟨rfl, b2⟩
  rw [eA]
  clear e0 e1 e2 e3 e4 e5 e6 e7 v0 v1 v2 v3
  replace I := I.later b2
  obtain ⟨e0, e1, e2, e3, e4, e5, e6, e7, v0, v1, v2, v3⟩ := I.cs
  go_wp2_with fail
  refine (rInt_any I.at_ b).mono ?_
  rintro e w3 ⟨rfl, b3⟩
  rw [eB]
  clear e0 e1 e2 e3 e4 e5 e6 e7 v0 v1 v2 v3
  replace I := I.later b3
  obtain ⟨e0, e1, e2, e3, e4, e5, e6, e7, v0, v1, v2, v3⟩ := I.cs
  go_wp2_with fail
  refine (rWidth_any _ _).mono ?_
  rintro e' w4 ⟨rfl, rfl⟩
  rw [a2]
  go_wp2
  go_ret
  exact ⟨by rw [hz.out]; try rfl, I.bA⟩
set_option maxRecDepth 100000 in
set_option maxHeartbeats 3200000 in
theorem rinst_18_3 {W : World} {c : Cd} {x : Sl} (hx : CdAt W c x) (ok : c.ok) (_hst : c.st.length ≤ 8) (_hnm : c.nm.length ≤ 32) (w p a b k : Int) (n : Nat) (t : Int) (hpl : PlainR ⟨18, w, p, a, b, k, n, t⟩) (hat : plcB t = true) (hn : n < 18446744073709551616) (a1 : 0 < wOf c a) (a2 : widB w = true) (a3 : (n : Int) ≤ wOf c a) : InsC W c x ⟨18, w, p, a, b, k, n, t⟩ (B (RW c ⟨18, w, p, a, b, k, n, t⟩)) := by
  unfold InsC
  have hR := rw_18 c w p a b k n t
  generalize RW c ⟨18, w, p, a, b, k, n, t⟩ = E at hR ⊢
  obtain ⟨A, eA, iA, jA⟩ := wv ok a
  obtain ⟨Bw, eB, iB, jB⟩ := wv ok b
  obtain ⟨C, eC⟩ : ∃ C, cellR c a b = C := ⟨_, rfl⟩
  try simp only [eA] at hR
  replace hR := Lib.hid hR
  obtain ⟨X, hX, I⟩ := IS.new hx ⟨18, w, p, a, b, k, n, t⟩
  obtain ⟨e0, e1, e2, e3, e4, e5, e6, e7, v0, v1, v2, v3⟩ := I.cs
  try simp only [eA] at a1 a2 a3
  have ta1 : decide (0 < A) = true := by simpa using a1
  have ta3 : decide ((n : Int) ≤ IntKind.u64.wrap A) = true := by rw [show IntKind.u64.wrap A = A from by simp [IntKind.wrap, IntKind.signed, IntKind.bits]; omega]; simpa using a3
  have hz : Hid (B E = decide (wrap64 (wrap64 (n : Int) + w) ≤ A)) := Lib.hid (by symm; apply B_eq; rw [hR.out]; rw [wid_iff] at a2; unfold Wid at a2; unfold Wid; rw [show wrap64 (n : Int) = n from by unfold wrap64; omega]; simp only [decide_eq_true_eq] <;> omega)
  clear hR a1 a3
  go_enter Tryz.func38, Tryz.ntmps38
  go_upto_region 1 with fail
  simp only [hX.out]
  go_wp2_with fail
  refine (rplain_any ⟨18, w, p, a, b, k, n, t⟩).mono ?_
  rintro e w1 ⟨rfl, b1⟩
  rw [B_of hpl]
  clear e0 e1 e2 e3 e4 e5 e6 e7 v0 v1 v2 v3
  replace I := I.later b1
  obtain ⟨e0, e1, e2, e3, e4, e5, e6, e7, v0, v1, v2, v3⟩ := I.cs
  go_wp2_with fail
  refine (rplace_any _ _).mono ?_
  rintro e w2 ⟨rfl, rfl⟩
  rw [hat]
  go_wp2_with fail
  refine (rInt_any I.at_ a).mono ?_
  rintro e w2 ⟨rfl, b2⟩
  rw [eA]
  clear e0 e1 e2 e3 e4 e5 e6 e7 v0 v1 v2 v3
  replace I := I.later b2
  obtain ⟨e0, e1, e2, e3, e4, e5, e6, e7, v0, v1, v2, v3⟩ := I.cs
  go_wp2_with fail
  refine (rInt_any I.at_ b).mono ?_
  rintro e w3 ⟨rfl, b3⟩
  rw [eB]
  clear e0 e1 e2 e3 e4 e5 e6 e7 v0 v1 v2 v3
  replace I := I.later b3
  obtain ⟨e0, e1, e2, e3, e4, e5, e6, e7, v0, v1, v2, v3⟩ := I.cs
  go_wp2_with fail
  refine (rWidth_any _ _).mono ?_
  rintro e' w4 ⟨rfl, rfl⟩
  rw [a2]
  go_wp2
  go_ret
  exact ⟨by rw [hz.out]; try rfl, I.bA⟩
theorem rinst_18 {W : World} {c : Cd} {x : Sl} (hx : CdAt W c x) (ok : c.ok) (hst : c.st.length ≤ 8) (hnm : c.nm.length ≤ 32) (w p a b k : Int) (n : Nat) (t : Int) (hpl : PlainR ⟨18, w, p, a, b, k, n, t⟩) (hat : plcB t = true) (hn : n < 18446744073709551616) : InsC W c x ⟨18, w, p, a, b, k, n, t⟩ (B (RW c ⟨18, w, p, a, b, k, n, t⟩)) := by
  refine (Classical.em (0 < wOf c a)).elim (fun a1 => ?_) (fun a1 => rinst_18_0 hx ok hst hnm w p a b k n t hpl hat hn  a1)
  refine (Classical.em (widB w = true)).elim (fun a2 => ?_) (fun a2 => rinst_18_1 hx ok hst hnm w p a b k n t hpl hat hn a1 a2)
  refine (Classical.em ((n : Int) ≤ wOf c a)).elim (fun a3 => ?_) (fun a3 => rinst_18_2 hx ok hst hnm w p a b k n t hpl hat hn a1 a2 a3)
  exact rinst_18_3 hx ok hst hnm w p a b k n t hpl hat hn a1 a2 a3
theorem rw_31 (c : Cd) (w p a b k : Int) (n : Nat) (t : Int) : RW c ⟨31, w, p, a, b, k, n, t⟩ ↔ (0 < wOf c a ∧ 1 ≤ n ∧ n ≤ 64 ∧ p = n) := by
  unfold RW
  dsimp only
  repeat' (first | rw [if_pos (by omega)] | rw [if_neg (by omega)])
  try (unfold RI; dsimp only; repeat' (first | rw [if_pos (by omega)] | rw [if_neg (by omega)]))
set_option maxRecDepth 100000 in
set_option maxHeartbeats 3200000 in
theorem rinst_31_0 {W : World} {c : Cd} {x : Sl} (hx : CdAt W c x) (ok : c.ok) (_hst : c.st.length ≤ 8) (_hnm : c.nm.length ≤ 32) (w p a b k : Int) (n : Nat) (t : Int) (hpl : PlainR ⟨31, w, p, a, b, k, n, t⟩) (hat : plcB t = true) (_hn : n < 18446744073709551616) (a1 : ¬ (0 < wOf c a)) : InsC W c x ⟨31, w, p, a, b, k, n, t⟩ (B (RW c ⟨31, w, p, a, b, k, n, t⟩)) := by
  unfold InsC
  have hR := rw_31 c w p a b k n t
  generalize RW c ⟨31, w, p, a, b, k, n, t⟩ = E at hR ⊢
  obtain ⟨A, eA, iA, jA⟩ := wv ok a
  obtain ⟨Bw, eB, iB, jB⟩ := wv ok b
  obtain ⟨C, eC⟩ : ∃ C, cellR c a b = C := ⟨_, rfl⟩
  try simp only [eA] at hR
  replace hR := Lib.hid hR
  obtain ⟨X, hX, I⟩ := IS.new hx ⟨31, w, p, a, b, k, n, t⟩
  obtain ⟨e0, e1, e2, e3, e4, e5, e6, e7, v0, v1, v2, v3⟩ := I.cs
  try simp only [eA] at a1
  have ta1 : decide (0 < A) = false := by simpa using a1
  have hz : Hid (B E = false) := Lib.hid (B_not (fun h => by have h2 := hR.out.1 h; omega))
  clear hR a1
  go_enter Tryz.func38, Tryz.ntmps38
  go_upto_region 1 with fail
  simp only [hX.out]
  go_wp2_with fail
  refine (rplain_any ⟨31, w, p, a, b, k, n, t⟩).mono ?_
  rintro e w1 ⟨rfl, b1⟩
  rw [B_of hpl]
  clear e0 e1 e2 e3 e4 e5 e6 e7 v0 v1 v2 v3
  replace I := I.later b1
  obtain ⟨e0, e1, e2, e3, e4, e5, e6, e7, v0, v1, v2, v3⟩ := I.cs
  go_wp2_with fail
  refine (rplace_any _ _).mono ?_
  rintro e w2 ⟨rfl, rfl⟩
  rw [hat]
  go_wp2_with fail
  refine (rInt_any I.at_ a).mono ?_
  rintro e w2 ⟨rfl, b2⟩
  rw [eA]
  clear e0 e1 e2 e3 e4 e5 e6 e7 v0 v1 v2 v3
  replace I := I.later b2
  obtain ⟨e0, e1, e2, e3, e4, e5, e6, e7, v0, v1, v2, v3⟩ := I.cs
  go_wp2_with fail
  refine (rInt_any I.at_ b).mono ?_
  rintro e w3 ⟨rfl, b3⟩
  rw [eB]
  clear e0 e1 e2 e3 e4 e5 e6 e7 v0 v1 v2 v3
  replace I := I.later b3
  obtain ⟨e0, e1, e2, e3, e4, e5, e6, e7, v0, v1, v2, v3⟩ := I.cs
  go_wp2
  go_ret
  exact ⟨by rw [hz.out]; try rfl, I.bA⟩
set_option maxRecDepth 100000 in
set_option maxHeartbeats 3200000 in
theorem rinst_31_1 {W : World} {c : Cd} {x : Sl} (hx : CdAt W c x) (ok : c.ok) (_hst : c.st.length ≤ 8) (_hnm : c.nm.length ≤ 32) (w p a b k : Int) (n : Nat) (t : Int) (hpl : PlainR ⟨31, w, p, a, b, k, n, t⟩) (hat : plcB t = true) (hn : n < 18446744073709551616) (a1 : 0 < wOf c a) (a2 : ¬ (1 ≤ (n : Int))) : InsC W c x ⟨31, w, p, a, b, k, n, t⟩ (B (RW c ⟨31, w, p, a, b, k, n, t⟩)) := by
  unfold InsC
  have hR := rw_31 c w p a b k n t
  generalize RW c ⟨31, w, p, a, b, k, n, t⟩ = E at hR ⊢
  obtain ⟨A, eA, iA, jA⟩ := wv ok a
  obtain ⟨Bw, eB, iB, jB⟩ := wv ok b
  obtain ⟨C, eC⟩ : ∃ C, cellR c a b = C := ⟨_, rfl⟩
  try simp only [eA] at hR
  replace hR := Lib.hid hR
  obtain ⟨X, hX, I⟩ := IS.new hx ⟨31, w, p, a, b, k, n, t⟩
  obtain ⟨e0, e1, e2, e3, e4, e5, e6, e7, v0, v1, v2, v3⟩ := I.cs
  try simp only [eA] at a1 a2
  have ta1 : decide (0 < A) = true := by simpa using a1
  have ta2 : decide (1 ≤ (n : Int)) = false := by simpa using a2
  have hz : Hid (B E = false) := Lib.hid (B_not (fun h => by have h2 := hR.out.1 h; omega))
  clear hR a1 a2
  go_enter Tryz.func38, Tryz.ntmps38
  go_upto_region 1 with fail
  simp only [hX.out]
  go_wp2_with fail
  refine (rplain_any ⟨31, w, p, a, b, k, n, t⟩).mono ?_
  rintro e w1 ⟨rfl, b1⟩
  rw [B_of hpl]
  clear e0 e1 e2 e3 e4 e5 e6 e7 v0 v1 v2 v3
  replace I := I.later b1
  obtain ⟨e0, e1, e2, e3, e4, e5, e6, e7, v0, v1, v2, v3⟩ := I.cs
  go_wp2_with fail
  refine (rplace_any _ _).mono ?_
  rintro e w2 ⟨rfl, rfl⟩
  rw [hat]
  go_wp2_with fail
  refine (rInt_any I.at_ a).mono ?_
  rintro e w2 ⟨rfl, b2⟩
  rw [eA]
  clear e0 e1 e2 e3 e4 e5 e6 e7 v0 v1 v2 v3
  replace I := I.later b2
  obtain ⟨e0, e1, e2, e3, e4, e5, e6, e7, v0, v1, v2, v3⟩ := I.cs
  go_wp2_with fail
  refine (rInt_any I.at_ b).mono ?_
  rintro e w3 ⟨rfl, b3⟩
  rw [eB]
  clear e0 e1 e2 e3 e4 e5 e6 e7 v0 v1 v2 v3
  replace I := I.later b3
  obtain ⟨e0, e1, e2, e3, e4, e5, e6, e7, v0, v1, v2, v3⟩ := I.cs
  go_wp2
  go_ret
  exact ⟨by rw [hz.out]; try rfl, I.bA⟩
set_option maxRecDepth 100000 in
set_option maxHeartbeats 3200000 in
theorem rinst_31_2 {W : World} {c : Cd} {x : Sl} (hx : CdAt W c x) (ok : c.ok) (_hst : c.st.length ≤ 8) (_hnm : c.nm.length ≤ 32) (w p a b k : Int) (n : Nat) (t : Int) (hpl : PlainR ⟨31, w, p, a, b, k, n, t⟩) (hat : plcB t = true) (hn : n < 18446744073709551616) (a1 : 0 < wOf c a) (a2 : 1 ≤ (n : Int)) (a3 : ¬ ((n : Int) ≤ 64)) : InsC W c x ⟨31, w, p, a, b, k, n, t⟩ (B (RW c ⟨31, w, p, a, b, k, n, t⟩)) := by
  unfold InsC
  have hR := rw_31 c w p a b k n t
  generalize RW c ⟨31, w, p, a, b, k, n, t⟩ = E at hR ⊢
  obtain ⟨A, eA, iA, jA⟩ := wv ok a
  obtain ⟨Bw, eB, iB, jB⟩ := wv ok b
  obtain ⟨C, eC⟩ : ∃ C, cellR c a b = C := ⟨_, rfl⟩
  try simp only [eA] at hR
  replace hR := Lib.hid hR
  obtain ⟨X, hX, I⟩ := IS.new hx ⟨31, w, p, a, b, k, n, t⟩
  obtain ⟨e0, e1, e2, e3, e4, e5, e6, e7, v0, v1, v2, v3⟩ := I.cs
  try simp only [eA] at a1 a2 a3
  have ta1 : decide (0 < A) = true := by simpa using a1
  have ta2 : decide (1 ≤ (n : Int)) = true := by simpa using a2
  have ta3 : decide ((n : Int) ≤ 64) = false := by simpa using a3
  have hz : Hid (B E = false) := Lib.hid (B_not (fun h => by have h2 := hR.out.1 h; omega))
  clear hR a1 a2 a3
  go_enter Tryz.func38, Tryz.ntmps38
  go_upto_region 1 with fail
  simp only [hX.out]
  go_wp2_with fail
  refine (rplain_any ⟨31, w, p, a, b, k, n, t⟩).mono ?_
  rintro e w1 ⟨rfl, b1⟩
  rw [B_of hpl]
  clear e0 e1 e2 e3 e4 e5 e6 e7 v0 v1 v2 v3
  replace I := I.later b1
  obtain ⟨e0, e1, e2, e3, e4, e5, e6, e7, v0, v1, v2, v3⟩ := I.cs
  go_wp2_with fail
  refine (rplace_any _ _).mono ?_
  rintro e w2 ⟨rfl, rfl⟩
  rw [hat]
  go_wp2_with fail
  refine (rInt_any I.at_ a).mono ?_
  rintro e w2 ⟨rfl, b2⟩
  rw [eA]
  clear e0 e1 e2 e3 e4 e5 e6 e7 v0 v1 v2 v3
  replace I := I.later b2
  obtain ⟨e0, e1, e2, e3, e4, e5, e6, e7, v0, v1, v2, v3⟩ := I.cs
  go_wp2_with fail
  refine (rInt_any I.at_ b).mono ?_
  rintro e w3 ⟨rfl, b3⟩
  rw [eB]
  clear e0 e1 e2 e3 e4 e5 e6 e7 v0 v1 v2 v3
  replace I := I.later b3
  obtain ⟨e0, e1, e2, e3, e4, e5, e6, e7, v0, v1, v2, v3⟩ := I.cs
  go_wp2
  go_ret
  exact ⟨by rw [hz.out]; try rfl, I.bA⟩
set_option maxRecDepth 100000 in
set_option maxHeartbeats 3200000 in
theorem rinst_31_3 {W : World} {c : Cd} {x : Sl} (hx : CdAt W c x) (ok : c.ok) (_hst : c.st.length ≤ 8) (_hnm : c.nm.length ≤ 32) (w p a b k : Int) (n : Nat) (t : Int) (hpl : PlainR ⟨31, w, p, a, b, k, n, t⟩) (hat : plcB t = true) (hn : n < 18446744073709551616) (a1 : 0 < wOf c a) (a2 : 1 ≤ (n : Int)) (a3 : (n : Int) ≤ 64) : InsC W c x ⟨31, w, p, a, b, k, n, t⟩ (B (RW c ⟨31, w, p, a, b, k, n, t⟩)) := by
  unfold InsC
  have hR := rw_31 c w p a b k n t
  generalize RW c ⟨31, w, p, a, b, k, n, t⟩ = E at hR ⊢
  obtain ⟨A, eA, iA, jA⟩ := wv ok a
  obtain ⟨Bw, eB, iB, jB⟩ := wv ok b
  obtain ⟨C, eC⟩ : ∃ C, cellR c a b = C := ⟨_, rfl⟩
  try simp only [eA] at hR
  replace hR := Lib.hid hR
  obtain ⟨X, hX, I⟩ := IS.new hx ⟨31, w, p, a, b, k, n, t⟩
  obtain ⟨e0, e1, e2, e3, e4, e5, e6, e7, v0, v1, v2, v3⟩ := I.cs
  try simp only [eA] at a1 a2 a3
  have ta1 : decide (0 < A) = true := by simpa using a1
  have ta2 : decide (1 ≤ (n : Int)) = true := by simpa using a2
  have ta3 : decide ((n : Int) ≤ 64) = true := by simpa using a3
  have hz : Hid (B E = (p == wrap64 (n : Int))) := Lib.hid (by symm; apply B_eq; rw [hR.out]; rw [show wrap64 (n : Int) = n from by unfold wrap64; omega]; simp only [beq_iff_eq] <;> omega)
  clear hR a1 a2 a3
  go_enter Tryz.func38, Tryz.ntmps38
  go_upto_region 1 with fail
  simp only [hX.out]
  go_wp2_with fail
  refine (rplain_any ⟨31, w, p, a, b, k, n, t⟩).mono ?_
  rintro e w1 ⟨rfl, b1⟩
  rw [B_of hpl]
  clear e0 e1 e2 e3 e4 e5 e6 e7 v0 v1 v2 v3
  replace I := I.later b1
  obtain ⟨e0, e1, e2, e3, e4, e5, e6, e7, v0, v1, v2, v3⟩ := I.cs
  go_wp2_with fail
  refine (rplace_any _ _).mono ?_
  rintro e w2 ⟨rfl, rfl⟩
  rw [hat]
  go_wp2_with fail
  refine (rInt_any I.at_ a).mono ?_
  rintro e w2 ⟨rfl, b2⟩
  rw [eA]
  clear e0 e1 e2 e3 e4 e5 e6 e7 v0 v1 v2 v3
  replace I := I.later b2
  obtain ⟨e0, e1, e2, e3, e4, e5, e6, e7, v0, v1, v2, v3⟩ := I.cs
  go_wp2_with fail
  refine (rInt_any I.at_ b).mono ?_
  rintro e w3 ⟨rfl, b3⟩
  rw [eB]
  clear e0 e1 e2 e3 e4 e5 e6 e7 v0 v1 v2 v3
  replace I := I.later b3
  obtain ⟨e0, e1, e2, e3, e4, e5, e6, e7, v0, v1, v2, v3⟩ := I.cs
  go_wp2
  go_ret
  exact ⟨by rw [hz.out]; try rfl, I.bA⟩
theorem rinst_31 {W : World} {c : Cd} {x : Sl} (hx : CdAt W c x) (ok : c.ok) (hst : c.st.length ≤ 8) (hnm : c.nm.length ≤ 32) (w p a b k : Int) (n : Nat) (t : Int) (hpl : PlainR ⟨31, w, p, a, b, k, n, t⟩) (hat : plcB t = true) (hn : n < 18446744073709551616) : InsC W c x ⟨31, w, p, a, b, k, n, t⟩ (B (RW c ⟨31, w, p, a, b, k, n, t⟩)) := by
  refine (Classical.em (0 < wOf c a)).elim (fun a1 => ?_) (fun a1 => rinst_31_0 hx ok hst hnm w p a b k n t hpl hat hn  a1)
  refine (Classical.em (1 ≤ (n : Int))).elim (fun a2 => ?_) (fun a2 => rinst_31_1 hx ok hst hnm w p a b k n t hpl hat hn a1 a2)
  refine (Classical.em ((n : Int) ≤ 64)).elim (fun a3 => ?_) (fun a3 => rinst_31_2 hx ok hst hnm w p a b k n t hpl hat hn a1 a2 a3)
  exact rinst_31_3 hx ok hst hnm w p a b k n t hpl hat hn a1 a2 a3
theorem rw_32 (c : Cd) (w p a b k : Int) (n : Nat) (t : Int) : RW c ⟨32, w, p, a, b, k, n, t⟩ ↔ (n < c.st.length ∧ p = 65 + n) := by
  unfold RW
  dsimp only
  repeat' (first | rw [if_pos (by omega)] | rw [if_neg (by omega)])
  try (unfold RI; dsimp only; repeat' (first | rw [if_pos (by omega)] | rw [if_neg (by omega)]))
set_option maxRecDepth 100000 in
set_option maxHeartbeats 3200000 in
theorem rinst_32_0 {W : World} {c : Cd} {x : Sl} (hx : CdAt W c x) (ok : c.ok) (hst : c.st.length ≤ 8) (_hnm : c.nm.length ≤ 32) (w p a b k : Int) (n : Nat) (t : Int) (hpl : PlainR ⟨32, w, p, a, b, k, n, t⟩) (hat : plcB t = true) (_hn : n < 18446744073709551616) (a1 : ¬ (n < c.st.length)) : InsC W c x ⟨32, w, p, a, b, k, n, t⟩ (B (RW c ⟨32, w, p, a, b, k, n, t⟩)) := by
  unfold InsC
  have hR := rw_32 c w p a b k n t
  generalize RW c ⟨32, w, p, a, b, k, n, t⟩ = E at hR ⊢
  obtain ⟨A, eA, iA, jA⟩ := wv ok a
  obtain ⟨Bw, eB, iB, jB⟩ := wv ok b
  obtain ⟨C, eC⟩ : ∃ C, cellR c a b = C := ⟨_, rfl⟩
  try simp only [eA, eB, eC] at hR
  replace hR := Lib.hid hR
  obtain ⟨X, hX, I⟩ := IS.new hx ⟨32, w, p, a, b, k, n, t⟩
  obtain ⟨e0, e1, e2, e3, e4, e5, e6, e7, v0, v1, v2, v3⟩ := I.cs
  try simp only [eA, eB, eC] at a1
  have ta1 : decide (n < c.st.length) = false := by simpa using a1
  have hz : Hid (B E = false) := Lib.hid (B_not (fun h => by have h2 := hR.out.1 h; omega))
  clear hR a1
  go_enter Tryz.func38, Tryz.ntmps38
  go_upto_region 1 with fail
  simp only [hX.out]
  go_wp2_with fail
  refine (rplain_any ⟨32, w, p, a, b, k, n, t⟩).mono ?_
  rintro e w1 ⟨rfl, b1⟩
  rw [B_of hpl]
  clear e0 e1 e2 e3 e4 e5 e6 e7 v0 v1 v2 v3
  replace I := I.later b1
  obtain ⟨e0, e1, e2, e3, e4, e5, e6, e7, v0, v1, v2, v3⟩ := I.cs
  go_wp2_with fail
  refine (rplace_any _ _).mono ?_
  rintro e w2 ⟨rfl, rfl⟩
  rw [hat]
  go_wp2_with fail
  refine (rInt_any I.at_ a).mono ?_
  rintro e w2 ⟨rfl, b2⟩
  rw [eA]
  clear e0 e1 e2 e3 e4 e5 e6 e7 v0 v1 v2 v3
  replace I := I.later b2
  obtain ⟨e0, e1, e2, e3, e4, e5, e6, e7, v0, v1, v2, v3⟩ := I.cs
  go_wp2_with fail
  refine (rInt_any I.at_ b).mono ?_
  rintro e w3 ⟨rfl, b3⟩
  rw [eB]
  clear e0 e1 e2 e3 e4 e5 e6 e7 v0 v1 v2 v3
  replace I := I.later b3
  obtain ⟨e0, e1, e2, e3, e4, e5, e6, e7, v0, v1, v2, v3⟩ := I.cs
  go_wp2
  go_ret
  exact ⟨by rw [hz.out]; try rfl, I.bA⟩
set_option maxRecDepth 100000 in
set_option maxHeartbeats 3200000 in
theorem rinst_32_1 {W : World} {c : Cd} {x : Sl} (hx : CdAt W c x) (ok : c.ok) (hst : c.st.length ≤ 8) (_hnm : c.nm.length ≤ 32) (w p a b k : Int) (n : Nat) (t : Int) (hpl : PlainR ⟨32, w, p, a, b, k, n, t⟩) (hat : plcB t = true) (hn : n < 18446744073709551616) (a1 : n < c.st.length) : InsC W c x ⟨32, w, p, a, b, k, n, t⟩ (B (RW c ⟨32, w, p, a, b, k, n, t⟩)) := by
  unfold InsC
  have hR := rw_32 c w p a b k n t
  generalize RW c ⟨32, w, p, a, b, k, n, t⟩ = E at hR ⊢
  obtain ⟨A, eA, iA, jA⟩ := wv ok a
  obtain ⟨Bw, eB, iB, jB⟩ := wv ok b
  obtain ⟨C, eC⟩ : ∃ C, cellR c a b = C := ⟨_, rfl⟩
  try simp only [eA, eB, eC] at hR
  replace hR := Lib.hid hR
  obtain ⟨X, hX, I⟩ := IS.new hx ⟨32, w, p, a, b, k, n, t⟩
  obtain ⟨e0, e1, e2, e3, e4, e5, e6, e7, v0, v1, v2, v3⟩ := I.cs
  try simp only [eA, eB, eC] at a1
  have ta1 : decide (n < c.st.length) = true := by simpa using a1
  have hz : Hid (B E = (p == wrap64 (65 + wrap64 (n : Int)))) := Lib.hid (by symm; apply B_eq; rw [hR.out]; rw [show wrap64 (n : Int) = n from by unfold wrap64; omega, show wrap64 (65 + (n : Int)) = 65 + n from by unfold wrap64; omega]; simp only [beq_iff_eq] <;> omega)
  clear hR a1
  go_enter Tryz.func38, Tryz.ntmps38
  go_upto_region 1 with fail
  simp only [hX.out]
  go_wp2_with fail
  refine (rplain_any ⟨32, w, p, a, b, k, n, t⟩).mono ?_
  rintro e w1 ⟨rfl, b1⟩
  rw [B_of hpl]
  clear e0 e1 e2 e3 e4 e5 e6 e7 v0 v1 v2 v3
  replace I := I.later b1
  obtain ⟨e0, e1, e2, e3, e4, e5, e6, e7, v0, v1, v2, v3⟩ := I.cs
  go_wp2_with fail
  refine (rplace_any _ _).mono ?_
  rintro e w2 ⟨rfl, rfl⟩
  rw [hat]
  go_wp2_with fail
  refine (rInt_any I.at_ a).mono ?_
  rintro e w2 ⟨rfl, b2⟩
  rw [eA]
  clear e0 e1 e2 e3 e4 e5 e6 e7 v0 v1 v2 v3
  replace I := I.later b2
  obtain ⟨e0, e1, e2, e3, e4, e5, e6, e7, v0, v1, v2, v3⟩ := I.cs
  go_wp2_with fail
  refine (rInt_any I.at_ b).mono ?_
  rintro e w3 ⟨rfl, b3⟩
  rw [eB]
  clear e0 e1 e2 e3 e4 e5 e6 e7 v0 v1 v2 v3
  replace I := I.later b3
  obtain ⟨e0, e1, e2, e3, e4, e5, e6, e7, v0, v1, v2, v3⟩ := I.cs
  go_wp2
  go_ret
  exact ⟨by rw [hz.out]; try rfl, I.bA⟩
theorem rinst_32 {W : World} {c : Cd} {x : Sl} (hx : CdAt W c x) (ok : c.ok) (hst : c.st.length ≤ 8) (hnm : c.nm.length ≤ 32) (w p a b k : Int) (n : Nat) (t : Int) (hpl : PlainR ⟨32, w, p, a, b, k, n, t⟩) (hat : plcB t = true) (hn : n < 18446744073709551616) : InsC W c x ⟨32, w, p, a, b, k, n, t⟩ (B (RW c ⟨32, w, p, a, b, k, n, t⟩)) := by
  refine (Classical.em (n < c.st.length)).elim (fun a1 => ?_) (fun a1 => rinst_32_0 hx ok hst hnm w p a b k n t hpl hat hn  a1)
  exact rinst_32_1 hx ok hst hnm w p a b k n t hpl hat hn a1
theorem rw_35 (c : Cd) (w p a b k : Int) (n : Nat) (t : Int) : RW c ⟨35, w, p, a, b, k, n, t⟩ ↔ (0 < pOf c a) := by
  unfold RW
  dsimp only
  repeat' (first | rw [if_pos (by omega)] | rw [if_neg (by omega)])
  try (unfold RI; dsimp only; repeat' (first | rw [if_pos (by omega)] | rw [if_neg (by omega)]))
set_option maxRecDepth 100000 in
set_option maxHeartbeats 3200000 in
theorem rinst_35_0 {W : World} {c : Cd} {x : Sl} (hx : CdAt W c x) (ok : c.ok) (_hst : c.st.length ≤ 8) (_hnm : c.nm.length ≤ 32) (w p a b k : Int) (n : Nat) (t : Int) (hpl : PlainR ⟨35, w, p, a, b, k, n, t⟩) (hat : plcB t = true) (_hn : n < 18446744073709551616) : InsC W c x ⟨35, w, p, a, b, k, n, t⟩ (B (RW c ⟨35, w, p, a, b, k, n, t⟩)) := by
  unfold InsC
  have hR := rw_35 c w p a b k n t
  generalize RW c ⟨35, w, p, a, b, k, n, t⟩ = E at hR ⊢
  obtain ⟨A, eA, iA, jA⟩ := wv ok a
  obtain ⟨Bw, eB, iB, jB⟩ := wv ok b
  obtain ⟨C, eC⟩ : ∃ C, cellR c a b = C := ⟨_, rfl⟩
  try simp only [eA, eB, eC] at hR
  replace hR := Lib.hid hR
  obtain ⟨X, hX, I⟩ := IS.new hx ⟨35, w, p, a, b, k, n, t⟩
  obtain ⟨e0, e1, e2, e3, e4, e5, e6, e7, v0, v1, v2, v3⟩ := I.cs
  have hz : Hid (B E = decide (0 < pOf c a)) := Lib.hid (by symm; apply B_eq; rw [hR.out]; simp only [decide_eq_true_eq] <;> omega)
  clear hR
  go_enter Tryz.func38, Tryz.ntmps38
  go_upto_region 1 with fail
  simp only [hX.out]
  go_wp2_with fail
  refine (rplain_any ⟨35, w, p, a, b, k, n, t⟩).mono ?_
  rintro e w1 ⟨rfl, b1⟩
  rw [B_of hpl]
  clear e0 e1 e2 e3 e4 e5 e6 e7 v0 v1 v2 v3
  replace I := I.later b1
  obtain ⟨e0, e1, e2, e3, e4, e5, e6, e7, v0, v1, v2, v3⟩ := I.cs
  go_wp2_with fail
  refine (rplace_any _ _).mono ?_
  rintro e w2 ⟨rfl, rfl⟩
  rw [hat]
  go_wp2_with fail
  refine (rInt_any I.at_ a).mono ?_
  rintro e w2 ⟨rfl, b2⟩
  rw [eA]
  clear e0 e1 e2 e3 e4 e5 e6 e7 v0 v1 v2 v3
  replace I := I.later b2
  obtain ⟨e0, e1, e2, e3, e4, e5, e6, e7, v0, v1, v2, v3⟩ := I.cs
  go_wp2_with fail
  refine (rInt_any I.at_ b).mono ?_
  rintro e w3 ⟨rfl, b3⟩
  rw [eB]
  clear e0 e1 e2 e3 e4 e5 e6 e7 v0 v1 v2 v3
  replace I := I.later b3
  obtain ⟨e0, e1, e2, e3, e4, e5, e6, e7, v0, v1, v2, v3⟩ := I.cs
  go_wp2_with fail
  refine (rPointer_any I.at_ a).mono ?_
  rintro e' w4 ⟨rfl, b4⟩
  clear e0 e1 e2 e3 e4 e5 e6 e7 v0 v1 v2 v3
  replace I := I.later b4
  obtain ⟨e0, e1, e2, e3, e4, e5, e6, e7, v0, v1, v2, v3⟩ := I.cs
  go_wp2
  go_ret
  exact ⟨by rw [hz.out]; try rfl, I.bA⟩
theorem rinst_35 {W : World} {c : Cd} {x : Sl} (hx : CdAt W c x) (ok : c.ok) (hst : c.st.length ≤ 8) (hnm : c.nm.length ≤ 32) (w p a b k : Int) (n : Nat) (t : Int) (hpl : PlainR ⟨35, w, p, a, b, k, n, t⟩) (hat : plcB t = true) (hn : n < 18446744073709551616) : InsC W c x ⟨35, w, p, a, b, k, n, t⟩ (B (RW c ⟨35, w, p, a, b, k, n, t⟩)) := by
  exact rinst_35_0 hx ok hst hnm w p a b k n t hpl hat hn 
theorem rw_36 (c : Cd) (w p a b k : Int) (n : Nat) (t : Int) : RW c ⟨36, w, p, a, b, k, n, t⟩ ↔ (0 < wOf c a ∧ n < c.nm.length) := by
  unfold RW
  dsimp only
  repeat' (first | rw [if_pos (by omega)] | rw [if_neg (by omega)])
  try (unfold RI; dsimp only; repeat' (first | rw [if_pos (by omega)] | rw [if_neg (by omega)]))
set_option maxRecDepth 100000 in
set_option maxHeartbeats 3200000 in
theorem rinst_36_0 {W : World} {c : Cd} {x : Sl} (hx : CdAt W c x) (ok : c.ok) (_hst : c.st.length ≤ 8) (_hnm : c.nm.length ≤ 32) (w p a b k : Int) (n : Nat) (t : Int) (hpl : PlainR ⟨36, w, p, a, b, k, n, t⟩) (hat : plcB t = true) (_hn : n < 18446744073709551616) (a1 : ¬ (0 < wOf c a)) : InsC W c x ⟨36, w, p, a, b, k, n, t⟩ (B (RW c ⟨36, w, p, a, b, k, n, t⟩)) := by
  unfold InsC
  have hR := rw_36 c w p a b k n t
  generalize RW c ⟨36, w, p, a, b, k, n, t⟩ = E at hR ⊢
  obtain ⟨A, eA, iA, jA⟩ := wv ok a
  obtain ⟨Bw, eB, iB, jB⟩ := wv ok b
  obtain ⟨C, eC⟩ : ∃ C, cellR c a b = C := ⟨_, rfl⟩
  try simp only [eA] at hR
  replace hR := Lib.hid hR
  obtain ⟨X, hX, I⟩ := IS.new hx ⟨36, w, p, a, b, k, n, t⟩
  obtain ⟨e0, e1, e2, e3, e4, e5, e6, e7, v0, v1, v2, v3⟩ := I.cs
  try simp only [eA] at a1
  have ta1 : decide (0 < A) = false := by simpa using a1
  have hz : Hid (B E = false) := Lib.hid (B_not (fun h => by have h2 := hR.out.1 h; omega))
  clear hR a1
  go_enter Tryz.func38, Tryz.ntmps38
  go_upto_region 1 with fail
  simp only [hX.out]
  go_wp2_with fail
  refine (rplain_any ⟨36, w, p, a, b, k, n, t⟩).mono ?_
  rintro e w1 ⟨rfl, b1⟩
  rw [B_of hpl]
  clear e0 e1 e2 e3 e4 e5 e6 e7 v0 v1 v2 v3
  replace I := I.later b1
  obtain ⟨e0, e1, e2, e3, e4, e5, e6, e7, v0, v1, v2, v3⟩ := I.cs
  go_wp2_with fail
  refine (rplace_any _ _).mono ?_
  rintro e w2 ⟨rfl, rfl⟩
  rw [hat]
  go_wp2_with fail
  refine (rInt_any I.at_ a).mono ?_
  rintro e w2 ⟨rfl, b2⟩
  rw [eA]
  clear e0 e1 e2 e3 e4 e5 e6 e7 v0 v1 v2 v3
  replace I := I.later b2
  obtain ⟨e0, e1, e2, e3, e4, e5, e6, e7, v0, v1, v2, v3⟩ := I.cs
  go_wp2_with fail
  refine (rInt_any I.at_ b).mono ?_
  rintro e w3 ⟨rfl, b3⟩
  rw [eB]
  clear e0 e1 e2 e3 e4 e5 e6 e7 v0 v1 v2 v3
  replace I := I.later b3
  obtain ⟨e0, e1, e2, e3, e4, e5, e6, e7, v0, v1, v2, v3⟩ := I.cs
  go_wp2
  go_ret
  exact ⟨by rw [hz.out]; try rfl, I.bA⟩
set_option maxRecDepth 100000 in
set_option maxHeartbeats 3200000 in
theorem rinst_36_1 {W : World} {c : Cd} {x : Sl} (hx : CdAt W c x) (ok : c.ok) (_hst : c.st.length ≤ 8) (hnm : c.nm.length ≤ 32) (w p a b k : Int) (n : Nat) (t : Int) (hpl : PlainR ⟨36, w, p, a, b, k, n, t⟩) (hat : plcB t = true) (_hn : n < 18446744073709551616) (a1 : 0 < wOf c a) : InsC W c x ⟨36, w, p, a, b, k, n, t⟩ (B (RW c ⟨36, w, p, a, b, k, n, t⟩)) := by
  unfold InsC
  have hR := rw_36 c w p a b k n t
  generalize RW c ⟨36, w, p, a, b, k, n, t⟩ = E at hR ⊢
  obtain ⟨A, eA, iA, jA⟩ := wv ok a
  obtain ⟨Bw, eB, iB, jB⟩ := wv ok b
  obtain ⟨C, eC⟩ : ∃ C, cellR c a b = C := ⟨_, rfl⟩
  try simp only [eA] at hR
  replace hR := Lib.hid hR
  obtain ⟨X, hX, I⟩ := IS.new hx ⟨36, w, p, a, b, k, n, t⟩
  obtain ⟨e0, e1, e2, e3, e4, e5, e6, e7, v0, v1, v2, v3⟩ := I.cs
  try simp only [eA] at a1
  have ta1 : decide (0 < A) = true := by simpa using a1
  have hz : Hid (B E = decide (n < c.nm.length)) := Lib.hid (by symm; apply B_eq; rw [hR.out]; simp only [decide_eq_true_eq] <;> omega)
  clear hR a1
  go_enter Tryz.func38, Tryz.ntmps38
  go_upto_region 1 with fail
  simp only [hX.out]
  go_wp2_with fail
  refine (rplain_any ⟨36, w, p, a, b, k, n, t⟩).mono ?_
  rintro e w1 ⟨rfl, b1⟩
  rw [B_of hpl]
  clear e0 e1 e2 e3 e4 e5 e6 e7 v0 v1 v2 v3
  replace I := I.later b1
  obtain ⟨e0, e1, e2, e3, e4, e5, e6, e7, v0, v1, v2, v3⟩ := I.cs
  go_wp2_with fail
  refine (rplace_any _ _).mono ?_
  rintro e w2 ⟨rfl, rfl⟩
  rw [hat]
  go_wp2_with fail
  refine (rInt_any I.at_ a).mono ?_
  rintro e w2 ⟨rfl, b2⟩
  rw [eA]
  clear e0 e1 e2 e3 e4 e5 e6 e7 v0 v1 v2 v3
  replace I := I.later b2
  obtain ⟨e0, e1, e2, e3, e4, e5, e6, e7, v0, v1, v2, v3⟩ := I.cs
  go_wp2_with fail
  refine (rInt_any I.at_ b).mono ?_
  rintro e w3 ⟨rfl, b3⟩
  rw [eB]
  clear e0 e1 e2 e3 e4 e5 e6 e7 v0 v1 v2 v3
  replace I := I.later b3
  obtain ⟨e0, e1, e2, e3, e4, e5, e6, e7, v0, v1, v2, v3⟩ := I.cs
  go_wp2
  go_ret
  exact ⟨by rw [hz.out]; try rfl, I.bA⟩
theorem rinst_36 {W : World} {c : Cd} {x : Sl} (hx : CdAt W c x) (ok : c.ok) (hst : c.st.length ≤ 8) (hnm : c.nm.length ≤ 32) (w p a b k : Int) (n : Nat) (t : Int) (hpl : PlainR ⟨36, w, p, a, b, k, n, t⟩) (hat : plcB t = true) (hn : n < 18446744073709551616) : InsC W c x ⟨36, w, p, a, b, k, n, t⟩ (B (RW c ⟨36, w, p, a, b, k, n, t⟩)) := by
  refine (Classical.em (0 < wOf c a)).elim (fun a1 => ?_) (fun a1 => rinst_36_0 hx ok hst hnm w p a b k n t hpl hat hn  a1)
  exact rinst_36_1 hx ok hst hnm w p a b k n t hpl hat hn a1
end Go.Proofs.YtnbgadndkepomaaGreatDoor

namespace Go.Proofs.YtnbgadndkepomaaGreatDoor
open Go.RowKit

theorem rw_30 (c : Cd) (w p a b k : Int) (n : Nat) (t : Int) : RW c ⟨30, w, p, a, b, k, n, t⟩ ↔ ((Wid w ∧ p = 0) ∨ (w = 0 ∧ 1 ≤ p ∧ p ≤ 64 + c.st.length)) := by
  unfold RW
  dsimp only
  repeat' (first | rw [if_pos (by omega)] | rw [if_neg (by omega)])
  try (unfold RI; dsimp only; repeat' (first | rw [if_pos (by omega)] | rw [if_neg (by omega)]))
set_option maxRecDepth 100000 in
set_option maxHeartbeats 3200000 in
theorem rinst_30_0 {W : World} {c : Cd} {x : Sl} (hx : CdAt W c x) (ok : c.ok) (_hst : c.st.length ≤ 8) (_hnm : c.nm.length ≤ 32) (w p a b k : Int) (n : Nat) (t : Int) (hpl : PlainR ⟨30, w, p, a, b, k, n, t⟩) (hat : plcB t = true) (_hn : n < 18446744073709551616) (hw : widB w = true) (a1 : p = 0) : InsC W c x ⟨30, w, p, a, b, k, n, t⟩ (B (RW c ⟨30, w, p, a, b, k, n, t⟩)) := by
  unfold InsC
  have hR := rw_30 c w p a b k n t
  generalize RW c ⟨30, w, p, a, b, k, n, t⟩ = E at hR ⊢
  obtain ⟨A, eA, iA, jA⟩ := wv ok a
  obtain ⟨Bw, eB, iB, jB⟩ := wv ok b
  obtain ⟨C, eC⟩ : ∃ C, cellR c a b = C := ⟨_, rfl⟩
  try simp only [eA, eB, eC] at hR
  replace hR := Lib.hid hR
  obtain ⟨X, hX, I⟩ := IS.new hx ⟨30, w, p, a, b, k, n, t⟩
  obtain ⟨e0, e1, e2, e3, e4, e5, e6, e7, v0, v1, v2, v3⟩ := I.cs
  have t1 : (p == 0) = true := by simpa using a1
  have hz : Hid (B E = true) := Lib.hid (B_of (hR.out.2 (Or.inl ⟨wid_iff.1 hw, a1⟩)))
  clear hR a1
  go_enter Tryz.func38, Tryz.ntmps38
  go_upto_region 1 with fail
  simp only [hX.out]
  go_wp2_with fail
  refine (rplain_any ⟨30, w, p, a, b, k, n, t⟩).mono ?_
  rintro e w1 ⟨rfl, b1⟩
  rw [B_of hpl]
  clear e0 e1 e2 e3 e4 e5 e6 e7 v0 v1 v2 v3
  replace I := I.later b1
  obtain ⟨e0, e1, e2, e3, e4, e5, e6, e7, v0, v1, v2, v3⟩ := I.cs
  go_wp2_with fail
  refine (rplace_any _ _).mono ?_
  rintro e w2 ⟨rfl, rfl⟩
  rw [hat]
  go_wp2_with fail
  refine (rInt_any I.at_ a).mono ?_
  rintro e w2 ⟨rfl, b2⟩
  rw [eA]
  clear e0 e1 e2 e3 e4 e5 e6 e7 v0 v1 v2 v3
  replace I := I.later b2
  obtain ⟨e0, e1, e2, e3, e4, e5, e6, e7, v0, v1, v2, v3⟩ := I.cs
  go_wp2_with fail
  refine (rInt_any I.at_ b).mono ?_
  rintro e w3 ⟨rfl, b3⟩
  rw [eB]
  clear e0 e1 e2 e3 e4 e5 e6 e7 v0 v1 v2 v3
  replace I := I.later b3
  obtain ⟨e0, e1, e2, e3, e4, e5, e6, e7, v0, v1, v2, v3⟩ := I.cs
  go_wp2_with fail
  refine (rWidth_any _ _).mono ?_
  rintro e' w4 ⟨rfl, rfl⟩
  rw [hw]
  go_wp2
  go_ret
  exact ⟨by rw [hz.out]; try rfl, I.bA⟩
set_option maxRecDepth 100000 in
set_option maxHeartbeats 3200000 in
theorem rinst_30_1 {W : World} {c : Cd} {x : Sl} (hx : CdAt W c x) (ok : c.ok) (_hst : c.st.length ≤ 8) (_hnm : c.nm.length ≤ 32) (w p a b k : Int) (n : Nat) (t : Int) (hpl : PlainR ⟨30, w, p, a, b, k, n, t⟩) (hat : plcB t = true) (_hn : n < 18446744073709551616) (hw : widB w = true) (a1 : ¬ p = 0) : InsC W c x ⟨30, w, p, a, b, k, n, t⟩ (B (RW c ⟨30, w, p, a, b, k, n, t⟩)) := by
  unfold InsC
  have hR := rw_30 c w p a b k n t
  generalize RW c ⟨30, w, p, a, b, k, n, t⟩ = E at hR ⊢
  obtain ⟨A, eA, iA, jA⟩ := wv ok a
  obtain ⟨Bw, eB, iB, jB⟩ := wv ok b
  obtain ⟨C, eC⟩ : ∃ C, cellR c a b = C := ⟨_, rfl⟩
  try simp only [eA, eB, eC] at hR
  replace hR := Lib.hid hR
  obtain ⟨X, hX, I⟩ := IS.new hx ⟨30, w, p, a, b, k, n, t⟩
  obtain ⟨e0, e1, e2, e3, e4, e5, e6, e7, v0, v1, v2, v3⟩ := I.cs
  have t1 : (p == 0) = false := by simpa using a1
  have hw2 := wid_iff.1 hw
  unfold Wid at hw2
  have t2 : (w == 0) = false := by simp; omega
  have hz : Hid (B E = false) := Lib.hid (B_not (fun h0 => by have h2 := hR.out.1 h0; omega))
  clear hw2
  clear hR a1
  go_enter Tryz.func38, Tryz.ntmps38
  go_upto_region 1 with fail
  simp only [hX.out]
  go_wp2_with fail
  refine (rplain_any ⟨30, w, p, a, b, k, n, t⟩).mono ?_
  rintro e w1 ⟨rfl, b1⟩
  rw [B_of hpl]
  clear e0 e1 e2 e3 e4 e5 e6 e7 v0 v1 v2 v3
  replace I := I.later b1
  obtain ⟨e0, e1, e2, e3, e4, e5, e6, e7, v0, v1, v2, v3⟩ := I.cs
  go_wp2_with fail
  refine (rplace_any _ _).mono ?_
  rintro e w2 ⟨rfl, rfl⟩
  rw [hat]
  go_wp2_with fail
  refine (rInt_any I.at_ a).mono ?_
  rintro e w2 ⟨rfl, b2⟩
  rw [eA]
  clear e0 e1 e2 e3 e4 e5 e6 e7 v0 v1 v2 v3
  replace I := I.later b2
  obtain ⟨e0, e1, e2, e3, e4, e5, e6, e7, v0, v1, v2, v3⟩ := I.cs
  go_wp2_with fail
  refine (rInt_any I.at_ b).mono ?_
  rintro e w3 ⟨rfl, b3⟩
  rw [eB]
  clear e0 e1 e2 e3 e4 e5 e6 e7 v0 v1 v2 v3
  replace I := I.later b3
  obtain ⟨e0, e1, e2, e3, e4, e5, e6, e7, v0, v1, v2, v3⟩ := I.cs
  go_wp2_with fail
  refine (rWidth_any _ _).mono ?_
  rintro e' w4 ⟨rfl, rfl⟩
  rw [hw]
  go_wp2
  go_ret
  exact ⟨by rw [hz.out]; try rfl, I.bA⟩
set_option maxRecDepth 100000 in
set_option maxHeartbeats 3200000 in
theorem rinst_30_2 {W : World} {c : Cd} {x : Sl} (hx : CdAt W c x) (ok : c.ok) (_hst : c.st.length ≤ 8) (_hnm : c.nm.length ≤ 32) (w p a b k : Int) (n : Nat) (t : Int) (hpl : PlainR ⟨30, w, p, a, b, k, n, t⟩) (hat : plcB t = true) (_hn : n < 18446744073709551616) (hw : widB w = false) (a1 : ¬ w = 0) : InsC W c x ⟨30, w, p, a, b, k, n, t⟩ (B (RW c ⟨30, w, p, a, b, k, n, t⟩)) := by
  unfold InsC
  have hR := rw_30 c w p a b k n t
  generalize RW c ⟨30, w, p, a, b, k, n, t⟩ = E at hR ⊢
  obtain ⟨A, eA, iA, jA⟩ := wv ok a
  obtain ⟨Bw, eB, iB, jB⟩ := wv ok b
  obtain ⟨C, eC⟩ : ∃ C, cellR c a b = C := ⟨_, rfl⟩
  try simp only [eA, eB, eC] at hR
  replace hR := Lib.hid hR
  obtain ⟨X, hX, I⟩ := IS.new hx ⟨30, w, p, a, b, k, n, t⟩
  obtain ⟨e0, e1, e2, e3, e4, e5, e6, e7, v0, v1, v2, v3⟩ := I.cs
  have hw2 : ¬ Wid w := fun hh => by rw [wid_iff.2 hh] at hw; cases hw
  have t1 : (w == 0) = false := by simpa using a1
  have hz : Hid (B E = false) := Lib.hid (B_not (fun h0 => by have h2 := hR.out.1 h0; exact h2.elim (fun q => hw2 q.1) (fun q => by omega)))
  clear hw2
  clear hR a1
  go_enter Tryz.func38, Tryz.ntmps38
  go_upto_region 1 with fail
  simp only [hX.out]
  go_wp2_with fail
  refine (rplain_any ⟨30, w, p, a, b, k, n, t⟩).mono ?_
  rintro e w1 ⟨rfl, b1⟩
  rw [B_of hpl]
  clear e0 e1 e2 e3 e4 e5 e6 e7 v0 v1 v2 v3
  replace I := I.later b1
  obtain ⟨e0, e1, e2, e3, e4, e5, e6, e7, v0, v1, v2, v3⟩ := I.cs
  go_wp2_with fail
  refine (rplace_any _ _).mono ?_
  rintro e w2 ⟨rfl, rfl⟩
  rw [hat]
  go_wp2_with fail
  refine (rInt_any I.at_ a).mono ?_
  rintro e w2 ⟨rfl, b2⟩
  rw [eA]
  clear e0 e1 e2 e3 e4 e5 e6 e7 v0 v1 v2 v3
  replace I := I.later b2
  obtain ⟨e0, e1, e2, e3, e4, e5, e6, e7, v0, v1, v2, v3⟩ := I.cs
  go_wp2_with fail
  refine (rInt_any I.at_ b).mono ?_
  rintro e w3 ⟨rfl, b3⟩
  rw [eB]
  clear e0 e1 e2 e3 e4 e5 e6 e7 v0 v1 v2 v3
  replace I := I.later b3
  obtain ⟨e0, e1, e2, e3, e4, e5, e6, e7, v0, v1, v2, v3⟩ := I.cs
  go_wp2_with fail
  refine (rWidth_any _ _).mono ?_
  rintro e' w4 ⟨rfl, rfl⟩
  rw [hw]
  go_wp2
  go_ret
  exact ⟨by rw [hz.out]; try rfl, I.bA⟩
set_option maxRecDepth 100000 in
set_option maxHeartbeats 3200000 in
theorem rinst_30_3 {W : World} {c : Cd} {x : Sl} (hx : CdAt W c x) (ok : c.ok) (_hst : c.st.length ≤ 8) (_hnm : c.nm.length ≤ 32) (w p a b k : Int) (n : Nat) (t : Int) (hpl : PlainR ⟨30, w, p, a, b, k, n, t⟩) (hat : plcB t = true) (_hn : n < 18446744073709551616) (hw : widB w = false) (a1 : w = 0) (a2 : ¬ 1 ≤ p) : InsC W c x ⟨30, w, p, a, b, k, n, t⟩ (B (RW c ⟨30, w, p, a, b, k, n, t⟩)) := by
  unfold InsC
  have hR := rw_30 c w p a b k n t
  generalize RW c ⟨30, w, p, a, b, k, n, t⟩ = E at hR ⊢
  obtain ⟨A, eA, iA, jA⟩ := wv ok a
  obtain ⟨Bw, eB, iB, jB⟩ := wv ok b
  obtain ⟨C, eC⟩ : ∃ C, cellR c a b = C := ⟨_, rfl⟩
  try simp only [eA, eB, eC] at hR
  replace hR := Lib.hid hR
  obtain ⟨X, hX, I⟩ := IS.new hx ⟨30, w, p, a, b, k, n, t⟩
  obtain ⟨e0, e1, e2, e3, e4, e5, e6, e7, v0, v1, v2, v3⟩ := I.cs
  have hw2 : ¬ Wid w := fun hh => by rw [wid_iff.2 hh] at hw; cases hw
  have t1 : (w == 0) = true := by simpa using a1
  have t2 : decide (1 ≤ p) = false := by simpa using a2
  have hz : Hid (B E = false) := Lib.hid (B_not (fun h0 => by have h2 := hR.out.1 h0; exact h2.elim (fun q => hw2 q.1) (fun q => by omega)))
  clear hw2
  clear hR a1 a2
  go_enter Tryz.func38, Tryz.ntmps38
  go_upto_region 1 with fail
  simp only [hX.out]
  go_wp2_with fail
  refine (rplain_any ⟨30, w, p, a, b, k, n, t⟩).mono ?_
  rintro e w1 ⟨rfl, b1⟩
  rw [B_of hpl]
  clear e0 e1 e2 e3 e4 e5 e6 e7 v0 v1 v2 v3
  replace I := I.later b1
  obtain ⟨e0, e1, e2, e3, e4, e5, e6, e7, v0, v1, v2, v3⟩ := I.cs
  go_wp2_with fail
  refine (rplace_any _ _).mono ?_
  rintro e w2 ⟨rfl, rfl⟩
  rw [hat]
  go_wp2_with fail
  refine (rInt_any I.at_ a).mono ?_
  rintro e w2 ⟨rfl, b2⟩
  rw [eA]
  clear e0 e1 e2 e3 e4 e5 e6 e7 v0 v1 v2 v3
  replace I := I.later b2
  obtain ⟨e0, e1, e2, e3, e4, e5, e6, e7, v0, v1, v2, v3⟩ := I.cs
  go_wp2_with fail
  refine (rInt_any I.at_ b).mono ?_
  rintro e w3 ⟨rfl, b3⟩
  rw [eB]
  clear e0 e1 e2 e3 e4 e5 e6 e7 v0 v1 v2 v3
  replace I := I.later b3
  obtain ⟨e0, e1, e2, e3, e4, e5, e6, e7, v0, v1, v2, v3⟩ := I.cs
  go_wp2_with fail
  refine (rWidth_any _ _).mono ?_
  rintro e' w4 ⟨rfl, rfl⟩
  rw [hw]
  go_wp2
  go_ret
  exact ⟨by rw [hz.out]; try rfl, I.bA⟩
set_option maxRecDepth 100000 in
set_option maxHeartbeats 3200000 in
theorem rinst_30_4 {W : World} {c : Cd} {x : Sl} (hx : CdAt W c x) (ok : c.ok) (hst : c.st.length ≤ 8) (_hnm : c.nm.length ≤ 32) (w p a b k : Int) (n : Nat) (t : Int) (hpl : PlainR ⟨30, w, p, a, b, k, n, t⟩) (hat : plcB t = true) (_hn : n < 18446744073709551616) (hw : widB w = false) (a1 : w = 0) (a2 : 1 ≤ p) : InsC W c x ⟨30, w, p, a, b, k, n, t⟩ (B (RW c ⟨30, w, p, a, b, k, n, t⟩)) := by
  unfold InsC
  have hR := rw_30 c w p a b k n t
  generalize RW c ⟨30, w, p, a, b, k, n, t⟩ = E at hR ⊢
  obtain ⟨A, eA, iA, jA⟩ := wv ok a
  obtain ⟨Bw, eB, iB, jB⟩ := wv ok b
  obtain ⟨C, eC⟩ : ∃ C, cellR c a b = C := ⟨_, rfl⟩
  try simp only [eA, eB, eC] at hR
  replace hR := Lib.hid hR
  obtain ⟨X, hX, I⟩ := IS.new hx ⟨30, w, p, a, b, k, n, t⟩
  obtain ⟨e0, e1, e2, e3, e4, e5, e6, e7, v0, v1, v2, v3⟩ := I.cs
  have hw2 : ¬ Wid w := fun hh => by rw [wid_iff.2 hh] at hw; cases hw
  have t1 : (w == 0) = true := by simpa using a1
  have t2 : decide (1 ≤ p) = true := by simpa using a2
  have hs : IntKind.i64.wrap (64 + (c.st.length : Int)) = 64 + (c.st.length : Int) := IntWalk.i64_in _ (by omega)
  have hz : Hid (B E = decide (p ≤ 64 + (c.st.length : Int))) := Lib.hid (by
    symm; apply B_eq; rw [hR.out, decide_eq_true_iff]
    exact ⟨fun hh => Or.inr ⟨a1, a2, hh⟩, fun hh => hh.elim (fun hh => absurd hh.1 hw2) (fun hh => hh.2.2)⟩)
  clear hw2
  clear hR a1 a2
  go_enter Tryz.func38, Tryz.ntmps38
  go_upto_region 1 with fail
  simp only [hX.out]
  go_wp2_with fail
  refine (rplain_any ⟨30, w, p, a, b, k, n, t⟩).mono ?_
  rintro e w1 ⟨rfl, b1⟩
  rw [B_of hpl]
  clear e0 e1 e2 e3 e4 e5 e6 e7 v0 v1 v2 v3
  replace I := I.later b1
  obtain ⟨e0, e1, e2, e3, e4, e5, e6, e7, v0, v1, v2, v3⟩ := I.cs
  go_wp2_with fail
  refine (rplace_any _ _).mono ?_
  rintro e w2 ⟨rfl, rfl⟩
  rw [hat]
  go_wp2_with fail
  refine (rInt_any I.at_ a).mono ?_
  rintro e w2 ⟨rfl, b2⟩
  rw [eA]
  clear e0 e1 e2 e3 e4 e5 e6 e7 v0 v1 v2 v3
  replace I := I.later b2
  obtain ⟨e0, e1, e2, e3, e4, e5, e6, e7, v0, v1, v2, v3⟩ := I.cs
  go_wp2_with fail
  refine (rInt_any I.at_ b).mono ?_
  rintro e w3 ⟨rfl, b3⟩
  rw [eB]
  clear e0 e1 e2 e3 e4 e5 e6 e7 v0 v1 v2 v3
  replace I := I.later b3
  obtain ⟨e0, e1, e2, e3, e4, e5, e6, e7, v0, v1, v2, v3⟩ := I.cs
  go_wp2_with fail
  refine (rWidth_any _ _).mono ?_
  rintro e' w4 ⟨rfl, rfl⟩
  rw [hw]
  go_wp2
  go_ret
  exact ⟨by rw [hz.out]; try rfl, I.bA⟩
theorem rinst_30 {W : World} {c : Cd} {x : Sl} (hx : CdAt W c x) (ok : c.ok) (hst : c.st.length ≤ 8) (hnm : c.nm.length ≤ 32) (w p a b k : Int) (n : Nat) (t : Int) (hpl : PlainR ⟨30, w, p, a, b, k, n, t⟩) (hat : plcB t = true) (hn : n < 18446744073709551616) : InsC W c x ⟨30, w, p, a, b, k, n, t⟩ (B (RW c ⟨30, w, p, a, b, k, n, t⟩)) := by
  cases hw : widB w with
  | true =>
    by_cases a1 : p = 0
    · exact rinst_30_0 hx ok hst hnm w p a b k n t hpl hat hn hw a1
    · exact rinst_30_1 hx ok hst hnm w p a b k n t hpl hat hn hw a1
  | false =>
    by_cases a1 : w = 0
    · by_cases a2 : 1 ≤ p
      · exact rinst_30_4 hx ok hst hnm w p a b k n t hpl hat hn hw a1 a2
      · exact rinst_30_3 hx ok hst hnm w p a b k n t hpl hat hn hw a1 a2
    · exact rinst_30_2 hx ok hst hnm w p a b k n t hpl hat hn hw a1
theorem rw_bin (c : Cd) (op w p a b k : Int) (n : Nat) (t : Int) (h : 2 ≤ op ∧ op ≤ 11) : RW c ⟨op, w, p, a, b, k, n, t⟩ ↔ (2 ≤ op ∧ op ≤ 11 ∧ 0 < wOf c a ∧ wOf c a = wOf c b ∧ w = wOf c a) := by
  unfold RW
  dsimp only
  repeat' (first | rw [if_pos (by omega)] | rw [if_neg (by omega)])
  try (unfold RI; dsimp only; repeat' (first | rw [if_pos (by omega)] | rw [if_neg (by omega)]))
set_option maxRecDepth 100000 in
set_option maxHeartbeats 3200000 in
theorem rinst_bin_0 {W : World} {c : Cd} {x : Sl} (hx : CdAt W c x) (ok : c.ok) (_hst : c.st.length ≤ 8) (_hnm : c.nm.length ≤ 32) (op w p a b k : Int) (n : Nat) (t : Int) (hpl : PlainR ⟨op, w, p, a, b, k, n, t⟩) (hat : plcB t = true) (_hn : n < 18446744073709551616) (h : 2 ≤ op ∧ op ≤ 11) (a1 : ¬ (0 < wOf c a)) : InsC W c x ⟨op, w, p, a, b, k, n, t⟩ (B (RW c ⟨op, w, p, a, b, k, n, t⟩)) := by
  unfold InsC
  have hR := rw_bin c op w p a b k n t h
  generalize RW c ⟨op, w, p, a, b, k, n, t⟩ = E at hR ⊢
  obtain ⟨A, eA, iA, jA⟩ := wv ok a
  obtain ⟨Bw, eB, iB, jB⟩ := wv ok b
  obtain ⟨C, eC⟩ : ∃ C, cellR c a b = C := ⟨_, rfl⟩
  try simp only [eA, eB] at hR
  replace hR := Lib.hid hR
  obtain ⟨X, hX, I⟩ := IS.new hx ⟨op, w, p, a, b, k, n, t⟩
  obtain ⟨e0, e1, e2, e3, e4, e5, e6, e7, v0, v1, v2, v3⟩ := I.cs
  try simp only [eA] at a1
  have ta1 : decide (0 < A) = false := by simpa using a1
  have q1 : (op == 1) = false := by simp; omega
  have q12 : (op == 12) = false := by simp; omega
  have q13 : (op == 13) = false := by simp; omega
  have q14 : (op == 14) = false := by simp; omega
  have q15 : (op == 15) = false := by simp; omega
  have q16 : (op == 16) = false := by simp; omega
  have q17 : (op == 17) = false := by simp; omega
  have q18 : (op == 18) = false := by simp; omega
  have q19 : (op == 19) = false := by simp; omega
  have q21 : (op == 21) = false := by simp; omega
  have q22 : (op == 22) = false := by simp; omega
  have q30 : (op == 30) = false := by simp; omega
  have q31 : (op == 31) = false := by simp; omega
  have q32 : (op == 32) = false := by simp; omega
  have q33 : (op == 33) = false := by simp; omega
  have q34 : (op == 34) = false := by simp; omega
  have q35 : (op == 35) = false := by simp; omega
  have q36 : (op == 36) = false := by simp; omega
  have g1 : decide (2 ≤ op) = true := by simp; omega
  have g2 : decide (op ≤ 11) = true := by simp; omega
  have hz : Hid (B E = false) := Lib.hid (B_not (fun h => by have h2 := hR.out.1 h; omega))
  clear hR a1 h
  go_enter Tryz.func38, Tryz.ntmps38
  go_upto_region 1 with fail
  simp only [hX.out]
  go_wp2_with fail
  refine (rplain_any ⟨op, w, p, a, b, k, n, t⟩).mono ?_
  rintro e w1 ⟨rfl, b1⟩
  rw [B_of hpl]
  clear e0 e1 e2 e3 e4 e5 e6 e7 v0 v1 v2 v3
  replace I := I.later b1
  obtain ⟨e0, e1, e2, e3, e4, e5, e6, e7, v0, v1, v2, v3⟩ := I.cs
  go_wp2_with fail
  refine (rplace_any _ _).mono ?_
  rintro e w2 ⟨rfl, rfl⟩
  rw [hat]
  go_wp2_with fail
  refine (rInt_any I.at_ a).mono ?_
  rintro e w2 ⟨rfl, b2⟩
  rw [eA]
  clear e0 e1 e2 e3 e4 e5 e6 e7 v0 v1 v2 v3
  replace I := I.later b2
  obtain ⟨e0, e1, e2, e3, e4, e5, e6, e7, v0, v1, v2, v3⟩ := I.cs
  go_wp2_with fail
  refine (rInt_any I.at_ b).mono ?_
  rintro e w3 ⟨rfl, b3⟩
  rw [eB]
  clear e0 e1 e2 e3 e4 e5 e6 e7 v0 v1 v2 v3
  replace I := I.later b3
  obtain ⟨e0, e1, e2, e3, e4, e5, e6, e7, v0, v1, v2, v3⟩ := I.cs
  go_wp2
  go_ret
  exact ⟨by rw [hz.out]; try rfl, I.bA⟩
set_option maxRecDepth 100000 in
set_option maxHeartbeats 3200000 in
theorem rinst_bin_1 {W : World} {c : Cd} {x : Sl} (hx : CdAt W c x) (ok : c.ok) (_hst : c.st.length ≤ 8) (_hnm : c.nm.length ≤ 32) (op w p a b k : Int) (n : Nat) (t : Int) (hpl : PlainR ⟨op, w, p, a, b, k, n, t⟩) (hat : plcB t = true) (_hn : n < 18446744073709551616) (h : 2 ≤ op ∧ op ≤ 11) (a1 : 0 < wOf c a) (a2 : ¬ (wOf c a = wOf c b)) : InsC W c x ⟨op, w, p, a, b, k, n, t⟩ (B (RW c ⟨op, w, p, a, b, k, n, t⟩)) := by
  unfold InsC
  have hR := rw_bin c op w p a b k n t h
  generalize RW c ⟨op, w, p, a, b, k, n, t⟩ = E at hR ⊢
  obtain ⟨A, eA, iA, jA⟩ := wv ok a
  obtain ⟨Bw, eB, iB, jB⟩ := wv ok b
  obtain ⟨C, eC⟩ : ∃ C, cellR c a b = C := ⟨_, rfl⟩
  try simp only [eA, eB] at hR
  replace hR := Lib.hid hR
  obtain ⟨X, hX, I⟩ := IS.new hx ⟨op, w, p, a, b, k, n, t⟩
  obtain ⟨e0, e1, e2, e3, e4, e5, e6, e7, v0, v1, v2, v3⟩ := I.cs
  try simp only [eA, eB] at a1 a2
  have ta1 : decide (0 < A) = true := by simpa using a1
  have ta2 : (A == Bw) = false := by simpa using a2
  have q1 : (op == 1) = false := by simp; omega
  have q12 : (op == 12) = false := by simp; omega
  have q13 : (op == 13) = false := by simp; omega
  have q14 : (op == 14) = false := by simp; omega
  have q15 : (op == 15) = false := by simp; omega
  have q16 : (op == 16) = false := by simp; omega
  have q17 : (op == 17) = false := by simp; omega
  have q18 : (op == 18) = false := by simp; omega
  have q19 : (op == 19) = false := by simp; omega
  have q21 : (op == 21) = false := by simp; omega
  have q22 : (op == 22) = false := by simp; omega
  have q30 : (op == 30) = false := by simp; omega
  have q31 : (op == 31) = false := by simp; omega
  have q32 : (op == 32) = false := by simp; omega
  have q33 : (op == 33) = false := by simp; omega
  have q34 : (op == 34) = false := by simp; omega
  have q35 : (op == 35) = false := by simp; omega
  have q36 : (op == 36) = false := by simp; omega
  have g1 : decide (2 ≤ op) = true := by simp; omega
  have g2 : decide (op ≤ 11) = true := by simp; omega
  have hz : Hid (B E = false) := Lib.hid (B_not (fun h => by have h2 := hR.out.1 h; omega))
  clear hR a1 a2 h
  go_enter Tryz.func38, Tryz.ntmps38
  go_upto_region 1 with fail
  simp only [hX.out]
  go_wp2_with fail
  refine (rplain_any ⟨op, w, p, a, b, k, n, t⟩).mono ?_
  rintro e w1 ⟨rfl, b1⟩
  rw [B_of hpl]
  clear e0 e1 e2 e3 e4 e5 e6 e7 v0 v1 v2 v3
  replace I := I.later b1
  obtain ⟨e0, e1, e2, e3, e4, e5, e6, e7, v0, v1, v2, v3⟩ := I.cs
  go_wp2_with fail
  refine (rplace_any _ _).mono ?_
  rintro e w2 ⟨rfl, rfl⟩
  rw [hat]
  go_wp2_with fail
  refine (rInt_any I.at_ a).mono ?_
  rintro e w2 ⟨rfl, b2⟩
  rw [eA]
  clear e0 e1 e2 e3 e4 e5 e6 e7 v0 v1 v2 v3
  replace I := I.later b2
  obtain ⟨e0, e1, e2, e3, e4, e5, e6, e7, v0, v1, v2, v3⟩ := I.cs
  go_wp2_with fail
  refine (rInt_any I.at_ b).mono ?_
  rintro e w3 ⟨rfl, b3⟩
  rw [eB]
  clear e0 e1 e2 e3 e4 e5 e6 e7 v0 v1 v2 v3
  replace I := I.later b3
  obtain ⟨e0, e1, e2, e3, e4, e5, e6, e7, v0, v1, v2, v3⟩ := I.cs
  go_wp2
  go_ret
  exact ⟨by rw [hz.out]; try rfl, I.bA⟩
set_option maxRecDepth 100000 in
set_option maxHeartbeats 3200000 in
theorem rinst_bin_2 {W : World} {c : Cd} {x : Sl} (hx : CdAt W c x) (ok : c.ok) (_hst : c.st.length ≤ 8) (_hnm : c.nm.length ≤ 32) (op w p a b k : Int) (n : Nat) (t : Int) (hpl : PlainR ⟨op, w, p, a, b, k, n, t⟩) (hat : plcB t = true) (_hn : n < 18446744073709551616) (h : 2 ≤ op ∧ op ≤ 11) (a1 : 0 < wOf c a) (a2 : wOf c a = wOf c b) : InsC W c x ⟨op, w, p, a, b, k, n, t⟩ (B (RW c ⟨op, w, p, a, b, k, n, t⟩)) := by
  unfold InsC
  have hR := rw_bin c op w p a b k n t h
  generalize RW c ⟨op, w, p, a, b, k, n, t⟩ = E at hR ⊢
  obtain ⟨A, eA, iA, jA⟩ := wv ok a
  obtain ⟨Bw, eB, iB, jB⟩ := wv ok b
  obtain ⟨C, eC⟩ : ∃ C, cellR c a b = C := ⟨_, rfl⟩
  try simp only [eA, eB] at hR
  replace hR := Lib.hid hR
  obtain ⟨X, hX, I⟩ := IS.new hx ⟨op, w, p, a, b, k, n, t⟩
  obtain ⟨e0, e1, e2, e3, e4, e5, e6, e7, v0, v1, v2, v3⟩ := I.cs
  try simp only [eA, eB] at a1 a2
  have ta1 : decide (0 < A) = true := by simpa using a1
  have ta2 : (A == Bw) = true := by simpa using a2
  have q1 : (op == 1) = false := by simp; omega
  have q12 : (op == 12) = false := by simp; omega
  have q13 : (op == 13) = false := by simp; omega
  have q14 : (op == 14) = false := by simp; omega
  have q15 : (op == 15) = false := by simp; omega
  have q16 : (op == 16) = false := by simp; omega
  have q17 : (op == 17) = false := by simp; omega
  have q18 : (op == 18) = false := by simp; omega
  have q19 : (op == 19) = false := by simp; omega
  have q21 : (op == 21) = false := by simp; omega
  have q22 : (op == 22) = false := by simp; omega
  have q30 : (op == 30) = false := by simp; omega
  have q31 : (op == 31) = false := by simp; omega
  have q32 : (op == 32) = false := by simp; omega
  have q33 : (op == 33) = false := by simp; omega
  have q34 : (op == 34) = false := by simp; omega
  have q35 : (op == 35) = false := by simp; omega
  have q36 : (op == 36) = false := by simp; omega
  have g1 : decide (2 ≤ op) = true := by simp; omega
  have g2 : decide (op ≤ 11) = true := by simp; omega
  have hz : Hid (B E = (w == A)) := Lib.hid (by symm; apply B_eq; rw [hR.out]; simp only [beq_iff_eq] <;> omega)
  clear hR a1 a2 h
  go_enter Tryz.func38, Tryz.ntmps38
  go_upto_region 1 with fail
  simp only [hX.out]
  go_wp2_with fail
  refine (rplain_any ⟨op, w, p, a, b, k, n, t⟩).mono ?_
  rintro e w1 ⟨rfl, b1⟩
  rw [B_of hpl]
  clear e0 e1 e2 e3 e4 e5 e6 e7 v0 v1 v2 v3
  replace I := I.later b1
  obtain ⟨e0, e1, e2, e3, e4, e5, e6, e7, v0, v1, v2, v3⟩ := I.cs
  go_wp2_with fail
  refine (rplace_any _ _).mono ?_
  rintro e w2 ⟨rfl, rfl⟩
  rw [hat]
  go_wp2_with fail
  refine (rInt_any I.at_ a).mono ?_
  rintro e w2 ⟨rfl, b2⟩
  rw [eA]
  clear e0 e1 e2 e3 e4 e5 e6 e7 v0 v1 v2 v3
  replace I := I.later b2
  obtain ⟨e0, e1, e2, e3, e4, e5, e6, e7, v0, v1, v2, v3⟩ := I.cs
  go_wp2_with fail
  refine (rInt_any I.at_ b).mono ?_
  rintro e w3 ⟨rfl, b3⟩
  rw [eB]
  clear e0 e1 e2 e3 e4 e5 e6 e7 v0 v1 v2 v3
  replace I := I.later b3
  obtain ⟨e0, e1, e2, e3, e4, e5, e6, e7, v0, v1, v2, v3⟩ := I.cs
  go_wp2
  go_ret
  exact ⟨by rw [hz.out]; try rfl, I.bA⟩
theorem rinst_bin {W : World} {c : Cd} {x : Sl} (hx : CdAt W c x) (ok : c.ok) (hst : c.st.length ≤ 8) (hnm : c.nm.length ≤ 32) (op w p a b k : Int) (n : Nat) (t : Int) (hpl : PlainR ⟨op, w, p, a, b, k, n, t⟩) (hat : plcB t = true) (hn : n < 18446744073709551616) (h : 2 ≤ op ∧ op ≤ 11) : InsC W c x ⟨op, w, p, a, b, k, n, t⟩ (B (RW c ⟨op, w, p, a, b, k, n, t⟩)) := by
  refine (Classical.em (0 < wOf c a)).elim (fun a1 => ?_) (fun a1 => rinst_bin_0 hx ok hst hnm op w p a b k n t hpl hat hn h  a1)
  refine (Classical.em (wOf c a = wOf c b)).elim (fun a2 => ?_) (fun a2 => rinst_bin_1 hx ok hst hnm op w p a b k n t hpl hat hn h a1 a2)
  exact rinst_bin_2 hx ok hst hnm op w p a b k n t hpl hat hn h a1 a2
theorem rw_low (c : Cd) (op w p a b k : Int) (n : Nat) (t : Int) (h : op ≤ 0) : RW c ⟨op, w, p, a, b, k, n, t⟩ ↔ (2 ≤ op ∧ op ≤ 11 ∧ 0 < wOf c a ∧ wOf c a = wOf c b ∧ w = wOf c a) := by
  unfold RW
  dsimp only
  repeat' (first | rw [if_pos (by omega)] | rw [if_neg (by omega)])
  try (unfold RI; dsimp only; repeat' (first | rw [if_pos (by omega)] | rw [if_neg (by omega)]))
set_option maxRecDepth 100000 in
set_option maxHeartbeats 3200000 in
theorem rinst_low_0 {W : World} {c : Cd} {x : Sl} (hx : CdAt W c x) (ok : c.ok) (_hst : c.st.length ≤ 8) (_hnm : c.nm.length ≤ 32) (op w p a b k : Int) (n : Nat) (t : Int) (hpl : PlainR ⟨op, w, p, a, b, k, n, t⟩) (hat : plcB t = true) (_hn : n < 18446744073709551616) (h : op ≤ 0) : InsC W c x ⟨op, w, p, a, b, k, n, t⟩ (B (RW c ⟨op, w, p, a, b, k, n, t⟩)) := by
  unfold InsC
  have hR := rw_low c op w p a b k n t h
  generalize RW c ⟨op, w, p, a, b, k, n, t⟩ = E at hR ⊢
  obtain ⟨A, eA, iA, jA⟩ := wv ok a
  obtain ⟨Bw, eB, iB, jB⟩ := wv ok b
  obtain ⟨C, eC⟩ : ∃ C, cellR c a b = C := ⟨_, rfl⟩
  try simp only [eA, eB] at hR
  replace hR := Lib.hid hR
  obtain ⟨X, hX, I⟩ := IS.new hx ⟨op, w, p, a, b, k, n, t⟩
  obtain ⟨e0, e1, e2, e3, e4, e5, e6, e7, v0, v1, v2, v3⟩ := I.cs
  have q1 : (op == 1) = false := by simp; omega
  have q12 : (op == 12) = false := by simp; omega
  have q13 : (op == 13) = false := by simp; omega
  have q14 : (op == 14) = false := by simp; omega
  have q15 : (op == 15) = false := by simp; omega
  have q16 : (op == 16) = false := by simp; omega
  have q17 : (op == 17) = false := by simp; omega
  have q18 : (op == 18) = false := by simp; omega
  have q19 : (op == 19) = false := by simp; omega
  have q21 : (op == 21) = false := by simp; omega
  have q22 : (op == 22) = false := by simp; omega
  have q30 : (op == 30) = false := by simp; omega
  have q31 : (op == 31) = false := by simp; omega
  have q32 : (op == 32) = false := by simp; omega
  have q33 : (op == 33) = false := by simp; omega
  have q34 : (op == 34) = false := by simp; omega
  have q35 : (op == 35) = false := by simp; omega
  have q36 : (op == 36) = false := by simp; omega
  have g1 : decide (2 ≤ op) = false := by simp; omega
  have hz : Hid (B E = false) := Lib.hid (B_not (fun h0 => by have h2 := hR.out.1 h0; omega))
  clear hR h
  go_enter Tryz.func38, Tryz.ntmps38
  go_upto_region 1 with fail
  simp only [hX.out]
  go_wp2_with fail
  refine (rplain_any ⟨op, w, p, a, b, k, n, t⟩).mono ?_
  rintro e w1 ⟨rfl, b1⟩
  rw [B_of hpl]
  clear e0 e1 e2 e3 e4 e5 e6 e7 v0 v1 v2 v3
  replace I := I.later b1
  obtain ⟨e0, e1, e2, e3, e4, e5, e6, e7, v0, v1, v2, v3⟩ := I.cs
  go_wp2_with fail
  refine (rplace_any _ _).mono ?_
  rintro e w2 ⟨rfl, rfl⟩
  rw [hat]
  go_wp2_with fail
  refine (rInt_any I.at_ a).mono ?_
  rintro e w2 ⟨rfl, b2⟩
  rw [eA]
  clear e0 e1 e2 e3 e4 e5 e6 e7 v0 v1 v2 v3
  replace I := I.later b2
  obtain ⟨e0, e1, e2, e3, e4, e5, e6, e7, v0, v1, v2, v3⟩ := I.cs
  go_wp2_with fail
  refine (rInt_any I.at_ b).mono ?_
  rintro e w3 ⟨rfl, b3⟩
  rw [eB]
  clear e0 e1 e2 e3 e4 e5 e6 e7 v0 v1 v2 v3
  replace I := I.later b3
  obtain ⟨e0, e1, e2, e3, e4, e5, e6, e7, v0, v1, v2, v3⟩ := I.cs
  go_wp2
  go_ret
  exact ⟨by rw [hz.out]; try rfl, I.bA⟩
theorem rinst_low {W : World} {c : Cd} {x : Sl} (hx : CdAt W c x) (ok : c.ok) (hst : c.st.length ≤ 8) (hnm : c.nm.length ≤ 32) (op w p a b k : Int) (n : Nat) (t : Int) (hpl : PlainR ⟨op, w, p, a, b, k, n, t⟩) (hat : plcB t = true) (hn : n < 18446744073709551616) (h : op ≤ 0) : InsC W c x ⟨op, w, p, a, b, k, n, t⟩ (B (RW c ⟨op, w, p, a, b, k, n, t⟩)) := by
  exact rinst_low_0 hx ok hst hnm op w p a b k n t hpl hat hn h 
theorem rw_high (c : Cd) (op w p a b k : Int) (n : Nat) (t : Int) (h : op = 20 ∨ (23 ≤ op ∧ op ≤ 29) ∨ 37 ≤ op) : RW c ⟨op, w, p, a, b, k, n, t⟩ ↔ (2 ≤ op ∧ op ≤ 11 ∧ 0 < wOf c a ∧ wOf c a = wOf c b ∧ w = wOf c a) := by
  unfold RW
  dsimp only
  repeat' (first | rw [if_pos (by omega)] | rw [if_neg (by omega)])
  try (unfold RI; dsimp only; repeat' (first | rw [if_pos (by omega)] | rw [if_neg (by omega)]))
set_option maxRecDepth 100000 in
set_option maxHeartbeats 3200000 in
theorem rinst_high_0 {W : World} {c : Cd} {x : Sl} (hx : CdAt W c x) (ok : c.ok) (_hst : c.st.length ≤ 8) (_hnm : c.nm.length ≤ 32) (op w p a b k : Int) (n : Nat) (t : Int) (hpl : PlainR ⟨op, w, p, a, b, k, n, t⟩) (hat : plcB t = true) (_hn : n < 18446744073709551616) (h : op = 20 ∨ (23 ≤ op ∧ op ≤ 29) ∨ 37 ≤ op) : InsC W c x ⟨op, w, p, a, b, k, n, t⟩ (B (RW c ⟨op, w, p, a, b, k, n, t⟩)) := by
  unfold InsC
  have hR := rw_high c op w p a b k n t h
  generalize RW c ⟨op, w, p, a, b, k, n, t⟩ = E at hR ⊢
  obtain ⟨A, eA, iA, jA⟩ := wv ok a
  obtain ⟨Bw, eB, iB, jB⟩ := wv ok b
  obtain ⟨C, eC⟩ : ∃ C, cellR c a b = C := ⟨_, rfl⟩
  try simp only [eA, eB] at hR
  replace hR := Lib.hid hR
  obtain ⟨X, hX, I⟩ := IS.new hx ⟨op, w, p, a, b, k, n, t⟩
  obtain ⟨e0, e1, e2, e3, e4, e5, e6, e7, v0, v1, v2, v3⟩ := I.cs
  have q1 : (op == 1) = false := by simp; omega
  have q12 : (op == 12) = false := by simp; omega
  have q13 : (op == 13) = false := by simp; omega
  have q14 : (op == 14) = false := by simp; omega
  have q15 : (op == 15) = false := by simp; omega
  have q16 : (op == 16) = false := by simp; omega
  have q17 : (op == 17) = false := by simp; omega
  have q18 : (op == 18) = false := by simp; omega
  have q19 : (op == 19) = false := by simp; omega
  have q21 : (op == 21) = false := by simp; omega
  have q22 : (op == 22) = false := by simp; omega
  have q30 : (op == 30) = false := by simp; omega
  have q31 : (op == 31) = false := by simp; omega
  have q32 : (op == 32) = false := by simp; omega
  have q33 : (op == 33) = false := by simp; omega
  have q34 : (op == 34) = false := by simp; omega
  have q35 : (op == 35) = false := by simp; omega
  have q36 : (op == 36) = false := by simp; omega
  have g1 : decide (2 ≤ op) = true := by simp; omega
  have g2 : decide (op ≤ 11) = false := by simp; omega
  have hz : Hid (B E = false) := Lib.hid (B_not (fun h0 => by have h2 := hR.out.1 h0; omega))
  clear hR h
  go_enter Tryz.func38, Tryz.ntmps38
  go_upto_region 1 with fail
  simp only [hX.out]
  go_wp2_with fail
  refine (rplain_any ⟨op, w, p, a, b, k, n, t⟩).mono ?_
  rintro e w1 ⟨rfl, b1⟩
  rw [B_of hpl]
  clear e0 e1 e2 e3 e4 e5 e6 e7 v0 v1 v2 v3
  replace I := I.later b1
  obtain ⟨e0, e1, e2, e3, e4, e5, e6, e7, v0, v1, v2, v3⟩ := I.cs
  go_wp2_with fail
  refine (rplace_any _ _).mono ?_
  rintro e w2 ⟨rfl, rfl⟩
  rw [hat]
  go_wp2_with fail
  refine (rInt_any I.at_ a).mono ?_
  rintro e w2 ⟨rfl, b2⟩
  rw [eA]
  clear e0 e1 e2 e3 e4 e5 e6 e7 v0 v1 v2 v3
  replace I := I.later b2
  obtain ⟨e0, e1, e2, e3, e4, e5, e6, e7, v0, v1, v2, v3⟩ := I.cs
  go_wp2_with fail
  refine (rInt_any I.at_ b).mono ?_
  rintro e w3 ⟨rfl, b3⟩
  rw [eB]
  clear e0 e1 e2 e3 e4 e5 e6 e7 v0 v1 v2 v3
  replace I := I.later b3
  obtain ⟨e0, e1, e2, e3, e4, e5, e6, e7, v0, v1, v2, v3⟩ := I.cs
  go_wp2
  go_ret
  exact ⟨by rw [hz.out]; try rfl, I.bA⟩
theorem rinst_high {W : World} {c : Cd} {x : Sl} (hx : CdAt W c x) (ok : c.ok) (hst : c.st.length ≤ 8) (hnm : c.nm.length ≤ 32) (op w p a b k : Int) (n : Nat) (t : Int) (hpl : PlainR ⟨op, w, p, a, b, k, n, t⟩) (hat : plcB t = true) (hn : n < 18446744073709551616) (h : op = 20 ∨ (23 ≤ op ∧ op ≤ 29) ∨ 37 ≤ op) : InsC W c x ⟨op, w, p, a, b, k, n, t⟩ (B (RW c ⟨op, w, p, a, b, k, n, t⟩)) := by
  exact rinst_high_0 hx ok hst hnm op w p a b k n t hpl hat hn h 
end Go.Proofs.YtnbgadndkepomaaGreatDoor
