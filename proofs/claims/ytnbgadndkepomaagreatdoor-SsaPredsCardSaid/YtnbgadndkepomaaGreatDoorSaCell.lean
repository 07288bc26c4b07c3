/- ssa: the width of a cell. -/
import Derived.Test.YtnbgadndkepomaaGreatDoorSQB
namespace Go.Proofs.YtnbgadndkepomaaGreatDoor
open Go.RowKit

set_option maxRecDepth 100000 in
set_option maxHeartbeats 1600000 in
theorem cellWidth_any {W : World} {p : Nat} {c : Cd} {x : Sl} (h : PtAt W p c x) (ok : c.ok) (hok : c.st.length ≤ 8) (i : CIn) (ha : Ix i.a c.ins) (hb : Ix i.b c.ins) :
    Calls Tryz.prog 115 #[.pointer (some ⟨p, 0, none⟩), .agg #[.int .i64 i.op, .int .i64 i.w, .int .i64 i.p, .int .i64 i.a, .int .i64 i.b, .int .i64 i.c, .int .u64 i.n, .int .i64 i.at_]] W fun e w' => e = .returned (.int .i64 (cellW c i.a i.b)) ∧ Below W.heap.size W w' := by
  obtain ⟨op, iw, ip, a, b, ic, n, at_⟩ := i
  simp only at ha hb ⊢
  obtain ⟨ka, rfl, hka⟩ := ix_nat ha
  obtain ⟨kb, rfl, hkb⟩ := ix_nat hb
  obtain ⟨R, hR⟩ : ∃ R, Hid (cellW c ka kb = R) := ⟨_, Lib.hid rfl⟩
  rw [hR.out]
  have hRR : Hid (R = if Wid c.ins[kb].w then (if Wid c.ins[ka].p then c.ins[ka].p else if 65 ≤ c.ins[ka].p ∧ c.ins[kb].op = 1 then (((c.st[(c.ins[ka].p - 65).toNat]?).getD [])[c.ins[kb].n]?).getD 0 else 0) else 0) := Lib.hid (by
    rw [← hR.out]; unfold cellW; rw [wOf_nat hkb, pOf_nat hka, opOf_nat hkb, nOf_nat hkb])
  clear hR
  have pa := ok.ins _ (List.getElem_mem hka)
  have pb := ok.ins _ (List.getElem_mem hkb)
  have N0 := Box.new W 47 #[.int .i64 op, .int .i64 iw, .int .i64 ip, .int .i64 ka, .int .i64 kb, .int .i64 ic, .int .u64 n, .int .i64 at_]
  have bA : Below W.heap.size W (W.alloc (.cells #[.int .i64 op, .int .i64 iw, .int .i64 ip, .int .i64 ka, .int .i64 kb, .int .i64 ic, .int .u64 n, .int .i64 at_] 47)) := (Below.refl _ _).alloc (Nat.le_refl _) _
  have hA := h.later bA
  obtain ⟨g, o, hs, hi⟩ := hA.inst ka hka
  obtain ⟨g2, o2, hs2, hj⟩ := hA.inst kb hkb
  obtain ⟨e1, e2⟩ : g = g2 ∧ o = o2 := by rw [hs] at hs2; simpa using hs2
  subst e1 e2
  clear hs2
  obtain ⟨i0, i1, i2, i3, i4, i5, i6, i7⟩ := hi
  obtain ⟨j0, j1, j2, j3, j4, j5, j6, j7⟩ := hj
  obtain ⟨ya, hya⟩ : ∃ y, Hid (c.ins[ka] = y) := ⟨_, Lib.hid rfl⟩
  obtain ⟨yb, hyb⟩ : ∃ y, Hid (c.ins[kb] = y) := ⟨_, Lib.hid rfl⟩
  rw [hya.out] at i0 i1 i2 i3 i4 i5 i6 i7 pa
  rw [hyb.out] at j0 j1 j2 j3 j4 j5 j6 j7 pb
  have hRR : Hid (R = if Wid yb.w then (if Wid ya.p then ya.p else if 65 ≤ ya.p ∧ yb.op = 1 then (((c.st[(ya.p - 65).toNat]?).getD [])[yb.n]?).getD 0 else 0) else 0) := Lib.hid (by rw [hRR.out, hya.out, hyb.out])
  clear hya hyb
  have n3 := N0.cell 3
  have n4 := N0.cell 4
  have hla : (ka : Int) < c.ins.length := by omega
  have hlb : (kb : Int) < c.ins.length := by omega
  go_enter Tryz.func115, Tryz.ntmps115
  go_upto_region 1 with fail
  obtain ⟨w0, hw0⟩ : ∃ Y, W.alloc (.cells #[.int .i64 op, .int .i64 iw, .int .i64 ip, .int .i64 ka, .int .i64 kb, .int .i64 ic, .int .u64 n, .int .i64 at_] 47) = Y := ⟨_, rfl⟩
  rw [hw0] at N0 bA hA hs i0 i1 i2 i3 i4 i5 i6 i7 j0 j1 j2 j3 j4 j5 j6 j7 n3 n4
  simp only [hw0]
  clear hw0
  have hmk : ∀ X, Bel w0 X → X.cell? ⟨p, 2, none⟩ = some (.slice (some ⟨g, o, none⟩) c.ins.length x.ic) ∧ X.cell? ⟨W.heap.size, 3, none⟩ = some (.int .i64 (ka : Nat)) ∧ X.cell? ⟨W.heap.size, 4, none⟩ = some (.int .i64 (kb : Nat)) ∧ X.cell? ⟨g, o + ka * 8, none⟩ = some (.int .i64 ya.op) ∧ X.cell? ⟨g, o + ka * 8 + 1, none⟩ = some (.int .i64 ya.w) ∧ X.cell? ⟨g, o + ka * 8 + 2, none⟩ = some (.int .i64 ya.p) ∧ X.cell? ⟨g, o + ka * 8 + 3, none⟩ = some (.int .i64 ya.a) ∧ X.cell? ⟨g, o + ka * 8 + 4, none⟩ = some (.int .i64 ya.b) ∧ X.cell? ⟨g, o + ka * 8 + 5, none⟩ = some (.int .i64 ya.c) ∧ X.cell? ⟨g, o + ka * 8 + 6, none⟩ = some (.int .u64 ya.n) ∧ X.cell? ⟨g, o + ka * 8 + 7, none⟩ = some (.int .i64 ya.at_) ∧ X.cell? ⟨g, o + kb * 8, none⟩ = some (.int .i64 yb.op) ∧ X.cell? ⟨g, o + kb * 8 + 1, none⟩ = some (.int .i64 yb.w) ∧ X.cell? ⟨g, o + kb * 8 + 2, none⟩ = some (.int .i64 yb.p) ∧ X.cell? ⟨g, o + kb * 8 + 3, none⟩ = some (.int .i64 yb.a) ∧ X.cell? ⟨g, o + kb * 8 + 4, none⟩ = some (.int .i64 yb.b) ∧ X.cell? ⟨g, o + kb * 8 + 5, none⟩ = some (.int .i64 yb.c) ∧ X.cell? ⟨g, o + kb * 8 + 6, none⟩ = some (.int .u64 yb.n) ∧ X.cell? ⟨g, o + kb * 8 + 7, none⟩ = some (.int .i64 yb.at_) ∧ Bel w0 X := fun X h => ⟨h.cell hs, h.cell n3, h.cell n4, h.cell i0, h.cell i1, h.cell i2, h.cell i3, h.cell i4, h.cell i5, h.cell i6, h.cell i7, h.cell j0, h.cell j1, h.cell j2, h.cell j3, h.cell j4, h.cell j5, h.cell j6, h.cell j7, h⟩
  have hget : ∀ X, (X.cell? ⟨p, 2, none⟩ = some (.slice (some ⟨g, o, none⟩) c.ins.length x.ic) ∧ X.cell? ⟨W.heap.size, 3, none⟩ = some (.int .i64 (ka : Nat)) ∧ X.cell? ⟨W.heap.size, 4, none⟩ = some (.int .i64 (kb : Nat)) ∧ X.cell? ⟨g, o + ka * 8, none⟩ = some (.int .i64 ya.op) ∧ X.cell? ⟨g, o + ka * 8 + 1, none⟩ = some (.int .i64 ya.w) ∧ X.cell? ⟨g, o + ka * 8 + 2, none⟩ = some (.int .i64 ya.p) ∧ X.cell? ⟨g, o + ka * 8 + 3, none⟩ = some (.int .i64 ya.a) ∧ X.cell? ⟨g, o + ka * 8 + 4, none⟩ = some (.int .i64 ya.b) ∧ X.cell? ⟨g, o + ka * 8 + 5, none⟩ = some (.int .i64 ya.c) ∧ X.cell? ⟨g, o + ka * 8 + 6, none⟩ = some (.int .u64 ya.n) ∧ X.cell? ⟨g, o + ka * 8 + 7, none⟩ = some (.int .i64 ya.at_) ∧ X.cell? ⟨g, o + kb * 8, none⟩ = some (.int .i64 yb.op) ∧ X.cell? ⟨g, o + kb * 8 + 1, none⟩ = some (.int .i64 yb.w) ∧ X.cell? ⟨g, o + kb * 8 + 2, none⟩ = some (.int .i64 yb.p) ∧ X.cell? ⟨g, o + kb * 8 + 3, none⟩ = some (.int .i64 yb.a) ∧ X.cell? ⟨g, o + kb * 8 + 4, none⟩ = some (.int .i64 yb.b) ∧ X.cell? ⟨g, o + kb * 8 + 5, none⟩ = some (.int .i64 yb.c) ∧ X.cell? ⟨g, o + kb * 8 + 6, none⟩ = some (.int .u64 yb.n) ∧ X.cell? ⟨g, o + kb * 8 + 7, none⟩ = some (.int .i64 yb.at_) ∧ Bel w0 X) → Bel w0 X := fun X h => h.2.2.2.2.2.2.2.2.2.2.2.2.2.2.2.2.2.2.2
  have hq0 := Bel.refl w0
  go_region_held3 (fun w' => w'.cell? ⟨p, 2, none⟩ = some (.slice (some ⟨g, o, none⟩) c.ins.length x.ic) ∧ w'.cell? ⟨W.heap.size, 3, none⟩ = some (.int .i64 (ka : Nat)) ∧ w'.cell? ⟨W.heap.size, 4, none⟩ = some (.int .i64 (kb : Nat)) ∧ w'.cell? ⟨g, o + ka * 8, none⟩ = some (.int .i64 ya.op) ∧ w'.cell? ⟨g, o + ka * 8 + 1, none⟩ = some (.int .i64 ya.w) ∧ w'.cell? ⟨g, o + ka * 8 + 2, none⟩ = some (.int .i64 ya.p) ∧ w'.cell? ⟨g, o + ka * 8 + 3, none⟩ = some (.int .i64 ya.a) ∧ w'.cell? ⟨g, o + ka * 8 + 4, none⟩ = some (.int .i64 ya.b) ∧ w'.cell? ⟨g, o + ka * 8 + 5, none⟩ = some (.int .i64 ya.c) ∧ w'.cell? ⟨g, o + ka * 8 + 6, none⟩ = some (.int .u64 ya.n) ∧ w'.cell? ⟨g, o + ka * 8 + 7, none⟩ = some (.int .i64 ya.at_) ∧ w'.cell? ⟨g, o + kb * 8, none⟩ = some (.int .i64 yb.op) ∧ w'.cell? ⟨g, o + kb * 8 + 1, none⟩ = some (.int .i64 yb.w) ∧ w'.cell? ⟨g, o + kb * 8 + 2, none⟩ = some (.int .i64 yb.p) ∧ w'.cell? ⟨g, o + kb * 8 + 3, none⟩ = some (.int .i64 yb.a) ∧ w'.cell? ⟨g, o + kb * 8 + 4, none⟩ = some (.int .i64 yb.b) ∧ w'.cell? ⟨g, o + kb * 8 + 5, none⟩ = some (.int .i64 yb.c) ∧ w'.cell? ⟨g, o + kb * 8 + 6, none⟩ = some (.int .u64 yb.n) ∧ w'.cell? ⟨g, o + kb * 8 + 7, none⟩ = some (.int .i64 yb.at_) ∧ Bel w0 w') ((first | assumption | (refine hmk _ ?_; repeat (first | exact hq0 | refine Bel.drew ?_ | refine Bel.alloc ?_ _)))) (fail)
  all_goals clear hget hmk hs i0 i1 i2 i3 i4 i5 i6 i7 j0 j1 j2 j3 j4 j5 j6 j7 n3 n4 hq0
  have Y5 : Box (((w0.alloc (.cells #[.int .i64 ya.op, .int .i64 ya.w, .int .i64 ya.p, .int .i64 ya.a, .int .i64 ya.b, .int .i64 ya.c, .int .u64 ya.n, .int .i64 ya.at_] 47)).alloc (.cells #[.int .i64 yb.op, .int .i64 yb.w, .int .i64 yb.p, .int .i64 yb.a, .int .i64 yb.b, .int .i64 yb.c, .int .u64 yb.n, .int .i64 yb.at_] 47)).drew) w0.heap.size 47 #[.int .i64 ya.op, .int .i64 ya.w, .int .i64 ya.p, .int .i64 ya.a, .int .i64 ya.b, .int .i64 ya.c, .int .u64 ya.n, .int .i64 ya.at_] := ((Box.new w0 47 #[.int .i64 ya.op, .int .i64 ya.w, .int .i64 ya.p, .int .i64 ya.a, .int .i64 ya.b, .int .i64 ya.c, .int .u64 ya.n, .int .i64 ya.at_]).alloc _).drewN 1
  have Y6 : Box (((w0.alloc (.cells #[.int .i64 ya.op, .int .i64 ya.w, .int .i64 ya.p, .int .i64 ya.a, .int .i64 ya.b, .int .i64 ya.c, .int .u64 ya.n, .int .i64 ya.at_] 47)).alloc (.cells #[.int .i64 yb.op, .int .i64 yb.w, .int .i64 yb.p, .int .i64 yb.a, .int .i64 yb.b, .int .i64 yb.c, .int .u64 yb.n, .int .i64 yb.at_] 47)).drew) (w0.heap.size + 1) 47 #[.int .i64 yb.op, .int .i64 yb.w, .int .i64 yb.p, .int .i64 yb.a, .int .i64 yb.b, .int .i64 yb.c, .int .u64 yb.n, .int .i64 yb.at_] := (Box.newAt (by simp) 47 #[.int .i64 yb.op, .int .i64 yb.w, .int .i64 yb.p, .int .i64 yb.a, .int .i64 yb.b, .int .i64 yb.c, .int .u64 yb.n, .int .i64 yb.at_]).drewN 1
  have bX : Bel w0 (((w0.alloc (.cells #[.int .i64 ya.op, .int .i64 ya.w, .int .i64 ya.p, .int .i64 ya.a, .int .i64 ya.b, .int .i64 ya.c, .int .u64 ya.n, .int .i64 ya.at_] 47)).alloc (.cells #[.int .i64 yb.op, .int .i64 yb.w, .int .i64 yb.p, .int .i64 yb.a, .int .i64 yb.b, .int .i64 yb.c, .int .u64 yb.n, .int .i64 yb.at_] 47)).drew) := (((Bel.refl w0).alloc _).alloc _).drew
  obtain ⟨X, hX⟩ : ∃ Y, (((w0.alloc (.cells #[.int .i64 ya.op, .int .i64 ya.w, .int .i64 ya.p, .int .i64 ya.a, .int .i64 ya.b, .int .i64 ya.c, .int .u64 ya.n, .int .i64 ya.at_] 47)).alloc (.cells #[.int .i64 yb.op, .int .i64 yb.w, .int .i64 yb.p, .int .i64 yb.a, .int .i64 yb.b, .int .i64 yb.c, .int .u64 yb.n, .int .i64 yb.at_] 47)).drew) = Y := ⟨_, rfl⟩
  rw [hX] at Y5 Y6 bX
  simp only [hX]
  clear hX
  rotate_left 1
  have Y6 : Box (((w0.alloc (.cells #[.int .i64 yb.op, .int .i64 yb.w, .int .i64 yb.p, .int .i64 yb.a, .int .i64 yb.b, .int .i64 yb.c, .int .u64 yb.n, .int .i64 yb.at_] 47)).alloc (.cells #[.int .i64 ya.op, .int .i64 ya.w, .int .i64 ya.p, .int .i64 ya.a, .int .i64 ya.b, .int .i64 ya.c, .int .u64 ya.n, .int .i64 ya.at_] 47)).drew) w0.heap.size 47 #[.int .i64 yb.op, .int .i64 yb.w, .int .i64 yb.p, .int .i64 yb.a, .int .i64 yb.b, .int .i64 yb.c, .int .u64 yb.n, .int .i64 yb.at_] := ((Box.new w0 47 #[.int .i64 yb.op, .int .i64 yb.w, .int .i64 yb.p, .int .i64 yb.a, .int .i64 yb.b, .int .i64 yb.c, .int .u64 yb.n, .int .i64 yb.at_]).alloc _).drewN 1
  have Y5 : Box (((w0.alloc (.cells #[.int .i64 yb.op, .int .i64 yb.w, .int .i64 yb.p, .int .i64 yb.a, .int .i64 yb.b, .int .i64 yb.c, .int .u64 yb.n, .int .i64 yb.at_] 47)).alloc (.cells #[.int .i64 ya.op, .int .i64 ya.w, .int .i64 ya.p, .int .i64 ya.a, .int .i64 ya.b, .int .i64 ya.c, .int .u64 ya.n, .int .i64 ya.at_] 47)).drew) (w0.heap.size + 1) 47 #[.int .i64 ya.op, .int .i64 ya.w, .int .i64 ya.p, .int .i64 ya.a, .int .i64 ya.b, .int .i64 ya.c, .int .u64 ya.n, .int .i64 ya.at_] := (Box.newAt (by simp) 47 #[.int .i64 ya.op, .int .i64 ya.w, .int .i64 ya.p, .int .i64 ya.a, .int .i64 ya.b, .int .i64 ya.c, .int .u64 ya.n, .int .i64 ya.at_]).drewN 1
  have bX : Bel w0 (((w0.alloc (.cells #[.int .i64 yb.op, .int .i64 yb.w, .int .i64 yb.p, .int .i64 yb.a, .int .i64 yb.b, .int .i64 yb.c, .int .u64 yb.n, .int .i64 yb.at_] 47)).alloc (.cells #[.int .i64 ya.op, .int .i64 ya.w, .int .i64 ya.p, .int .i64 ya.a, .int .i64 ya.b, .int .i64 ya.c, .int .u64 ya.n, .int .i64 ya.at_] 47)).drew) := (((Bel.refl w0).alloc _).alloc _).drew
  obtain ⟨X, hX⟩ : ∃ Y, (((w0.alloc (.cells #[.int .i64 yb.op, .int .i64 yb.w, .int .i64 yb.p, .int .i64 yb.a, .int .i64 yb.b, .int .i64 yb.c, .int .u64 yb.n, .int .i64 yb.at_] 47)).alloc (.cells #[.int .i64 ya.op, .int .i64 ya.w, .int .i64 ya.p, .int .i64 ya.a, .int .i64 ya.b, .int .i64 ya.c, .int .u64 ya.n, .int .i64 ya.at_] 47)).drew) = Y := ⟨_, rfl⟩
  rw [hX] at Y5 Y6 bX
  simp only [hX]
  clear hX
  rotate_left 1
  all_goals
    have bW : Below W.heap.size W X := bA.trans (Below.mono bX bA.size)
    have hP := hA.later bX
    have p0 := Y5.cell 0
    have p2 := Y5.cell 2
    have k0 := Y6.cell 0
    have k1 := Y6.cell 1
    have k6 := Y6.cell 6
    go_wp2_with fail
    refine (isKind_any hP hok ya.p pa.2.2.1).mono ?_
    rintro e w' ⟨rfl, rfl⟩
    by_cases h1 : KindP c ya.p
    rotate_left 1
    · have hQ : Hid (R = 0) := Lib.hid (by
        rw [hRR.out]
        have n1 : ¬ Wid ya.p := fun h => h1 (.inl h)
        rw [if_neg n1]
        split
        · by_cases h65 : 65 ≤ ya.p
          · have : ¬ (ya.p - 65 < c.st.length) := fun h => h1 (.inr ⟨h65, h⟩)
            rw [show c.st[(ya.p - 65).toNat]? = none from List.getElem?_eq_none (by omega)]
            simp
          · rw [if_neg (fun h => h65 h.1)]
        · rfl)
      rw [B_not h1]
      clear hRR h1
      go_wp2
      go_ret
      exact ⟨by rw [hQ.out]; rfl, bW⟩
    rw [B_of h1]
    go_wp2_with fail
    refine (isWidth_any yb.w _).mono ?_
    rintro e w' ⟨rfl, rfl⟩
    by_cases h2 : Wid yb.w
    rotate_left 1
    · have hQ : Hid (R = 0) := Lib.hid (by rw [hRR.out, if_neg h2])
      rw [B_not h2]
      clear hRR h1 h2
      go_wp2
      go_ret
      exact ⟨by rw [hQ.out]; rfl, bW⟩
    rw [B_of h2]
    go_wp2_with fail
    refine (isWidth_any ya.p _).mono ?_
    rintro e w' ⟨rfl, rfl⟩
    by_cases h3 : Wid ya.p
    · have hQ : Hid (R = ya.p) := Lib.hid (by rw [hRR.out, if_pos h2, if_pos h3])
      rw [B_of h3]
      clear hRR h1 h2 h3
      go_wp2
      go_ret
      exact ⟨by rw [hQ.out]; rfl, bW⟩
    rw [B_not h3]
    obtain ⟨m, hm, hml⟩ : ∃ m : Nat, ya.p = ((m + 65 : Nat) : Int) ∧ m < c.st.length := by
      rcases h1 with h1 | ⟨h1, h4⟩
      · exact absurd h1 h3
      · exact ⟨(ya.p - 65).toNat, by omega, by omega⟩
    obtain ⟨G, O, A', c', eS, hc1, hc2, hc3, hrow⟩ := hP.at_.s m hml
    have s0 := hP.s0
    rw [eS] at s0
    have hRR : Hid (R = if yb.op = 1 then ((c.st[m])[yb.n]?).getD 0 else 0) := Lib.hid (by
      rw [hRR.out, if_pos h2, if_neg h3]
      have e1 : (ya.p - 65).toNat = m := by omega
      rw [e1, List.getElem?_eq_getElem hml]
      by_cases h : yb.op = 1
      · rw [if_pos h, if_pos ⟨by omega, h⟩]; rfl
      · rw [if_neg h, if_neg (fun q => h q.2)])
    obtain ⟨L, hL⟩ : ∃ L, Hid (c.st[m] = L) := ⟨_, Lib.hid rfl⟩
    rw [hL.out] at hc1 hc2 hrow
    have hRR : Hid (R = if yb.op = 1 then (L[yb.n]?).getD 0 else 0) := Lib.hid (by rw [hRR.out, hL.out])
    rw [hm] at p2
    have hm8 : (m : Int) < c.st.length := by omega
    clear h1 h2 h3 hL
    have hwr : IntKind.i64.wrap (((m + 65 : Nat) : Int) - 65) = (m : Int) := by rw [IntWalk.i64_in _ (by omega)]; omega
    have hLc : L.length ≤ 9223372036854775807 := by unfold maxLen at hc3; omega
    go_wp2_with fail
    go_quiet (fail)
    by_cases h4 : yb.op = 1
    rotate_left 1
    · have hQ : Hid (R = 0) := Lib.hid (by rw [hRR.out, if_neg h4])
      have b1 : (yb.op != 1) = true := by simpa using h4
      clear hRR h4 hwr
      go_wp2
      go_ret
      exact ⟨by rw [hQ.out]; rfl, Below.trans bW ((Drew.below ⟨_, rfl⟩).mono bW.size)⟩
    have b1 : (yb.op != 1) = false := by simpa using h4
    have hRR : Hid (R = (L[yb.n]?).getD 0) := Lib.hid (by rw [hRR.out, if_pos h4])
    clear h4 hwr
    go_wp2_with fail
    refine (isIndexU_int yb.n _ _ _ hLc _).mono ?_
    rintro e w' ⟨rfl, rfl⟩
    by_cases h5 : yb.n < L.length
    rotate_left 1
    · have hQ : Hid (R = 0) := Lib.hid (by rw [hRR.out, List.getElem?_eq_none (by omega)]; rfl)
      rw [B_not h5]
      clear hRR h5
      go_wp2
      go_ret
      exact ⟨by rw [hQ.out]; rfl, Below.trans bW ((Drew.below ⟨_, rfl⟩).mono bW.size)⟩
    rw [B_of h5]
    obtain ⟨G2, O2, rfl, hc6⟩ := hrow yb.n h5
    have hQ : Hid (R = L[yb.n]) := Lib.hid (by rw [hRR.out, List.getElem?_eq_getElem h5]; rfl)
    obtain ⟨r, hr⟩ : ∃ r, Hid (L[yb.n] = r) := ⟨_, Lib.hid rfl⟩
    rw [hr.out] at hc6
    have hQ : Hid (R = r) := Lib.hid (hQ.out.trans hr.out)
    have h5' : (yb.n : Int) < L.length := by omega
    clear hRR hr
    go_wp2
    go_ret
    exact ⟨by rw [hQ.out]; rfl, Below.trans bW ((Drew.below ⟨_, rfl⟩).mono bW.size)⟩
end Go.Proofs.YtnbgadndkepomaaGreatDoor
