/- ssa: whether arguments fit. -/
import Derived.Test.YtnbgadndkepomaaGreatDoorSaEnf
namespace Go.Proofs.YtnbgadndkepomaaGreatDoor
open Go.RowKit

theorem parN_le2 {c : Cd} {b : CBk} {f t : Nat} (hf : b.frm = f) (ht : b.til = t) : parN c b ≤ t - f := by
  unfold parN insOf
  rw [hf, ht]
  have h1 : ((c.ins.drop ((f : Nat) : Int).toNat).take (((t : Nat) : Int).toNat - ((f : Nat) : Int).toNat)).countP isPar ≤ ((c.ins.drop ((f : Nat) : Int).toNat).take (((t : Nat) : Int).toNat - ((f : Nat) : Int).toNat)).length := List.countP_le_length
  rw [List.length_take] at h1
  simp at h1 ⊢
  omega
def ArgTo (c : Cd) (f : Nat) (args : List Int) (j : Nat) : Prop := ∀ (n : Nat) (h : n < args.length), n < j → wOf c args[n] = wOf c ((f : Int) + n) ∧ pOf c args[n] = pOf c ((f : Int) + n)
set_option maxRecDepth 100000 in
set_option maxHeartbeats 3200000 in
theorem isUnfit_any {W : World} {p : Nat} {c : Cd} {x : Sl} (h : PtAt W p c x) (hl : ListsP c) (hb : BlocksP c) (k : Nat) (args : List Int) (hk : k < c.bk.length) (hlen : args.length = parN c c.bk[k]) (hargs : ∀ v ∈ args, Ix v c.ins) (TA : Option Addr) (tc : Nat) (hr : IRow W TA args) :
    Calls Tryz.prog 107 #[.pointer (some ⟨p, 0, none⟩), .agg #[.int .i64 k, .slice TA args.length tc]] W fun r w' => r = .returned (.bool (!B (ArgP c ⟨k, args⟩))) ∧ Below W.heap.size W w' := by
  have l2 := hl.2.2.2.1
  have l3 := hl.2.2.1.2
  obtain ⟨f, t, hf, ht, hft, htn⟩ := bk_nat hb hk
  have hpl := parN_le2 (c := c) hf ht
  have hal : args.length ≤ t - f := by omega
  clear hlen hpl
  obtain ⟨R, hR⟩ : ∃ R, Hid ((!B (ArgP c ⟨k, args⟩)) = R) := ⟨_, Lib.hid rfl⟩
  rw [hR.out]
  have hRR : Hid (R = (!B (ArgTo c f args args.length))) := Lib.hid (by
    rw [← hR.out]
    congr 1
    refine B_congr ?_
    unfold ArgP ArgTo
    constructor
    · intro hh n hn _
      have := hh (by simpa using hk) n hn
      simpa [hf] using this
    · intro hh _ n hn
      have := hh n hn hn
      simpa [hf] using this)
  clear hR
  have N0 := Box.new W 100 #[.int .i64 k, .slice TA args.length tc]
  have bA : Below W.heap.size W (W.alloc (.cells #[.int .i64 k, .slice TA args.length tc] 100)) := (Below.refl _ _).alloc (Nat.le_refl _) _
  have hA := h.later bA
  have hrA := Lib.hid (hr.later bA)
  obtain ⟨w0, hw0⟩ : ∃ Y, Hid (W.alloc (.cells #[.int .i64 k, .slice TA args.length tc] 100) = Y) := ⟨_, Lib.hid rfl⟩
  rw [hw0.out] at N0 bA hA hrA
  have n0 := N0.cell 0
  have n1 := N0.cell 1
  obtain ⟨g, o, TA', EA', tc', ec', eK, ⟨c0, cr⟩, hle⟩ := hA.at_.k k hk
  rw [hf] at c0
  have s3 := hA.s3
  have hkc : (k : Int) < c.bk.length := by omega
  clear cr hle h
  go_enter Tryz.func107, Tryz.ntmps107
  go_upto_region 1 with fail
  simp only [hw0.out]
  clear hw0
  go_quiet (fail)
  have bq : Below w0.heap.size w0 (w0.drewN nq) := Drew.below ⟨_, rfl⟩
  obtain ⟨w1, hw1⟩ : ∃ Y, w0.drewN nq = Y := ⟨_, rfl⟩
  rw [hw1] at bq
  simp only [hw1]
  clear hw1 n0 c0 s3
  replace n1 := cell_later bq n1
  have hA1 := hA.later bq
  have hr1 := Lib.hid (hrA.out.later bq)
  have b1 := bA.trans (bq.mono bA.size)
  clear hA hrA N0 bA bq
  go_wp2_with fail
  clear n1
  go_loopw [23] (fun v wr => ∃ j : Nat, j ≤ args.length ∧ v = .int .i64 j ∧ Hid (ArgTo c f args j) ∧ Below w1.heap.size w1 wr) (fun v _ => args.length - iOf v)
  case atStart => exact ⟨0, Nat.zero_le _, rfl, Lib.hid (fun n _ h => by omega), Below.refl _ _⟩
  case round =>
    rename_i wr
    obtain ⟨j, hj, rfl, hI, hbw⟩ := hrel
    by_cases hlt : j < args.length
    · have hC := hA1.later hbw
      obtain ⟨ga, oa, eT, ca⟩ := (hr1.out.later hbw) j hlt
      have hix := hargs _ (List.getElem_mem hlt)
      have hno : Hid ((¬ (wOf c args[j] = wOf c ((f : Int) + j) ∧ pOf c args[j] = pOf c ((f : Int) + j))) → R = true) := Lib.hid (fun hn => by rw [hRR.out, B_not (fun h => hn (h j hlt hlt))]; rfl)
      have hst : Hid ((wOf c args[j] = wOf c ((f : Int) + j) ∧ pOf c args[j] = pOf c ((f : Int) + j)) → ArgTo c f args (j + 1)) := Lib.hid (fun hy n hn hnj => by
        by_cases e : n = j
        · subst e; exact hy
        · exact hI.out n hn (by omega))
      obtain ⟨v, hv, hvl⟩ := ix_nat hix
      obtain ⟨z, hz⟩ : ∃ t, Hid (args[j] = t) := ⟨_, Lib.hid rfl⟩
      simp only [hz.out] at ca hv hno hst
      subst hv
      obtain ⟨m, hm⟩ : ∃ m : Nat, m = f + j := ⟨_, rfl⟩
      have hfj : m < c.ins.length := by omega
      have e1 : (f : Int) + (j : Int) = (m : Int) := by omega
      rw [e1, wOf_nat hvl, pOf_nat hvl, wOf_nat hfj, pOf_nat hfj] at hno hst
      have hwr : IntKind.i64.wrap ((f : Int) + (j : Int)) = (m : Int) := by rw [IntWalk.i64_in _ (by omega)]; omega
      have hwj : IntKind.i64.wrap ((j : Int) + 1) = ((j + 1 : Nat) : Int) := by rw [IntWalk.i64_in _ (by omega)]; omega
      obtain ⟨g, o, hs, i0, i1, i2, i3, i4, i5, i6, i7⟩ := hC.inst v hvl
      obtain ⟨g2, o2, hs2, j0, j1, j2, j3, j4, j5, j6, j7⟩ := hC.inst m hfj
      obtain ⟨x1, x2⟩ : g = g2 ∧ o = o2 := by rw [hs] at hs2; simpa using hs2
      subst x1 x2
      obtain ⟨ya, hya⟩ : ∃ y, Hid (c.ins[v] = y) := ⟨_, Lib.hid rfl⟩
      obtain ⟨yb, hyb⟩ : ∃ y, Hid (c.ins[m] = y) := ⟨_, Lib.hid rfl⟩
      simp only [hya.out] at i0 i1 i2 i3 i4 i5 i6 i7 hno hst
      simp only [hyb.out] at j0 j1 j2 j3 j4 j5 j6 j7 hno hst
      have hla : (v : Int) < c.ins.length := by omega
      have hlb : (m : Int) < c.ins.length := by omega
      have hjc : (j : Int) < args.length := by omega
      clear hya hyb hs2 e1 hI hm
      go_upto_region 5 with fail
      try simp only [← eT]
      clear eT
      have hmk : ∀ X, Bel wr X → X.cell? ⟨p, 2, none⟩ = some (.slice (some ⟨g, o, none⟩) c.ins.length x.ic) ∧ X.cell? ⟨g, o + v * 8, none⟩ = some (.int .i64 ya.op) ∧ X.cell? ⟨g, o + v * 8 + 1, none⟩ = some (.int .i64 ya.w) ∧ X.cell? ⟨g, o + v * 8 + 2, none⟩ = some (.int .i64 ya.p) ∧ X.cell? ⟨g, o + v * 8 + 3, none⟩ = some (.int .i64 ya.a) ∧ X.cell? ⟨g, o + v * 8 + 4, none⟩ = some (.int .i64 ya.b) ∧ X.cell? ⟨g, o + v * 8 + 5, none⟩ = some (.int .i64 ya.c) ∧ X.cell? ⟨g, o + v * 8 + 6, none⟩ = some (.int .u64 ya.n) ∧ X.cell? ⟨g, o + v * 8 + 7, none⟩ = some (.int .i64 ya.at_) ∧ X.cell? ⟨g, o + m * 8, none⟩ = some (.int .i64 yb.op) ∧ X.cell? ⟨g, o + m * 8 + 1, none⟩ = some (.int .i64 yb.w) ∧ X.cell? ⟨g, o + m * 8 + 2, none⟩ = some (.int .i64 yb.p) ∧ X.cell? ⟨g, o + m * 8 + 3, none⟩ = some (.int .i64 yb.a) ∧ X.cell? ⟨g, o + m * 8 + 4, none⟩ = some (.int .i64 yb.b) ∧ X.cell? ⟨g, o + m * 8 + 5, none⟩ = some (.int .i64 yb.c) ∧ X.cell? ⟨g, o + m * 8 + 6, none⟩ = some (.int .u64 yb.n) ∧ X.cell? ⟨g, o + m * 8 + 7, none⟩ = some (.int .i64 yb.at_) ∧ Bel wr X := fun X h => ⟨h.cell hs, h.cell i0, h.cell i1, h.cell i2, h.cell i3, h.cell i4, h.cell i5, h.cell i6, h.cell i7, h.cell j0, h.cell j1, h.cell j2, h.cell j3, h.cell j4, h.cell j5, h.cell j6, h.cell j7, h⟩
      have hq0 := Bel.refl wr
      go_region_held3 (fun w' => w'.cell? ⟨p, 2, none⟩ = some (.slice (some ⟨g, o, none⟩) c.ins.length x.ic) ∧ w'.cell? ⟨g, o + v * 8, none⟩ = some (.int .i64 ya.op) ∧ w'.cell? ⟨g, o + v * 8 + 1, none⟩ = some (.int .i64 ya.w) ∧ w'.cell? ⟨g, o + v * 8 + 2, none⟩ = some (.int .i64 ya.p) ∧ w'.cell? ⟨g, o + v * 8 + 3, none⟩ = some (.int .i64 ya.a) ∧ w'.cell? ⟨g, o + v * 8 + 4, none⟩ = some (.int .i64 ya.b) ∧ w'.cell? ⟨g, o + v * 8 + 5, none⟩ = some (.int .i64 ya.c) ∧ w'.cell? ⟨g, o + v * 8 + 6, none⟩ = some (.int .u64 ya.n) ∧ w'.cell? ⟨g, o + v * 8 + 7, none⟩ = some (.int .i64 ya.at_) ∧ w'.cell? ⟨g, o + m * 8, none⟩ = some (.int .i64 yb.op) ∧ w'.cell? ⟨g, o + m * 8 + 1, none⟩ = some (.int .i64 yb.w) ∧ w'.cell? ⟨g, o + m * 8 + 2, none⟩ = some (.int .i64 yb.p) ∧ w'.cell? ⟨g, o + m * 8 + 3, none⟩ = some (.int .i64 yb.a) ∧ w'.cell? ⟨g, o + m * 8 + 4, none⟩ = some (.int .i64 yb.b) ∧ w'.cell? ⟨g, o + m * 8 + 5, none⟩ = some (.int .i64 yb.c) ∧ w'.cell? ⟨g, o + m * 8 + 6, none⟩ = some (.int .u64 yb.n) ∧ w'.cell? ⟨g, o + m * 8 + 7, none⟩ = some (.int .i64 yb.at_) ∧ Bel wr w') ((first | assumption | (refine hmk _ ?_; repeat (first | exact hq0 | refine Bel.drew ?_ | refine Bel.alloc ?_ _)))) (fail)
      all_goals clear hmk hs i0 i1 i2 i3 i4 i5 i6 i7 j0 j1 j2 j3 j4 j5 j6 j7 hq0 ca hC
      have Y5 : Box (((wr.alloc (.cells #[.int .i64 ya.op, .int .i64 ya.w, .int .i64 ya.p, .int .i64 ya.a, .int .i64 ya.b, .int .i64 ya.c, .int .u64 ya.n, .int .i64 ya.at_] 47)).alloc (.cells #[.int .i64 yb.op, .int .i64 yb.w, .int .i64 yb.p, .int .i64 yb.a, .int .i64 yb.b, .int .i64 yb.c, .int .u64 yb.n, .int .i64 yb.at_] 47)).drew) wr.heap.size 47 #[.int .i64 ya.op, .int .i64 ya.w, .int .i64 ya.p, .int .i64 ya.a, .int .i64 ya.b, .int .i64 ya.c, .int .u64 ya.n, .int .i64 ya.at_] := ((Box.new wr 47 #[.int .i64 ya.op, .int .i64 ya.w, .int .i64 ya.p, .int .i64 ya.a, .int .i64 ya.b, .int .i64 ya.c, .int .u64 ya.n, .int .i64 ya.at_]).alloc _).drewN 1
      have Y6 : Box (((wr.alloc (.cells #[.int .i64 ya.op, .int .i64 ya.w, .int .i64 ya.p, .int .i64 ya.a, .int .i64 ya.b, .int .i64 ya.c, .int .u64 ya.n, .int .i64 ya.at_] 47)).alloc (.cells #[.int .i64 yb.op, .int .i64 yb.w, .int .i64 yb.p, .int .i64 yb.a, .int .i64 yb.b, .int .i64 yb.c, .int .u64 yb.n, .int .i64 yb.at_] 47)).drew) (wr.heap.size + 1) 47 #[.int .i64 yb.op, .int .i64 yb.w, .int .i64 yb.p, .int .i64 yb.a, .int .i64 yb.b, .int .i64 yb.c, .int .u64 yb.n, .int .i64 yb.at_] := (Box.newAt (by simp) 47 #[.int .i64 yb.op, .int .i64 yb.w, .int .i64 yb.p, .int .i64 yb.a, .int .i64 yb.b, .int .i64 yb.c, .int .u64 yb.n, .int .i64 yb.at_]).drewN 1
      have bX : Bel wr (((wr.alloc (.cells #[.int .i64 ya.op, .int .i64 ya.w, .int .i64 ya.p, .int .i64 ya.a, .int .i64 ya.b, .int .i64 ya.c, .int .u64 ya.n, .int .i64 ya.at_] 47)).alloc (.cells #[.int .i64 yb.op, .int .i64 yb.w, .int .i64 yb.p, .int .i64 yb.a, .int .i64 yb.b, .int .i64 yb.c, .int .u64 yb.n, .int .i64 yb.at_] 47)).drew) := (((Bel.refl wr).alloc _).alloc _).drew
      obtain ⟨X, hX⟩ : ∃ Y, (((wr.alloc (.cells #[.int .i64 ya.op, .int .i64 ya.w, .int .i64 ya.p, .int .i64 ya.a, .int .i64 ya.b, .int .i64 ya.c, .int .u64 ya.n, .int .i64 ya.at_] 47)).alloc (.cells #[.int .i64 yb.op, .int .i64 yb.w, .int .i64 yb.p, .int .i64 yb.a, .int .i64 yb.b, .int .i64 yb.c, .int .u64 yb.n, .int .i64 yb.at_] 47)).drew) = Y := ⟨_, rfl⟩
      rw [hX] at Y5 Y6 bX
      simp only [hX]
      clear hX
      rotate_left 1
      have Y6 : Box (((wr.alloc (.cells #[.int .i64 yb.op, .int .i64 yb.w, .int .i64 yb.p, .int .i64 yb.a, .int .i64 yb.b, .int .i64 yb.c, .int .u64 yb.n, .int .i64 yb.at_] 47)).alloc (.cells #[.int .i64 ya.op, .int .i64 ya.w, .int .i64 ya.p, .int .i64 ya.a, .int .i64 ya.b, .int .i64 ya.c, .int .u64 ya.n, .int .i64 ya.at_] 47)).drew) wr.heap.size 47 #[.int .i64 yb.op, .int .i64 yb.w, .int .i64 yb.p, .int .i64 yb.a, .int .i64 yb.b, .int .i64 yb.c, .int .u64 yb.n, .int .i64 yb.at_] := ((Box.new wr 47 #[.int .i64 yb.op, .int .i64 yb.w, .int .i64 yb.p, .int .i64 yb.a, .int .i64 yb.b, .int .i64 yb.c, .int .u64 yb.n, .int .i64 yb.at_]).alloc _).drewN 1
      have Y5 : Box (((wr.alloc (.cells #[.int .i64 yb.op, .int .i64 yb.w, .int .i64 yb.p, .int .i64 yb.a, .int .i64 yb.b, .int .i64 yb.c, .int .u64 yb.n, .int .i64 yb.at_] 47)).alloc (.cells #[.int .i64 ya.op, .int .i64 ya.w, .int .i64 ya.p, .int .i64 ya.a, .int .i64 ya.b, .int .i64 ya.c, .int .u64 ya.n, .int .i64 ya.at_] 47)).drew) (wr.heap.size + 1) 47 #[.int .i64 ya.op, .int .i64 ya.w, .int .i64 ya.p, .int .i64 ya.a, .int .i64 ya.b, .int .i64 ya.c, .int .u64 ya.n, .int .i64 ya.at_] := (Box.newAt (by simp) 47 #[.int .i64 ya.op, .int .i64 ya.w, .int .i64 ya.p, .int .i64 ya.a, .int .i64 ya.b, .int .i64 ya.c, .int .u64 ya.n, .int .i64 ya.at_]).drewN 1
      have bX : Bel wr (((wr.alloc (.cells #[.int .i64 yb.op, .int .i64 yb.w, .int .i64 yb.p, .int .i64 yb.a, .int .i64 yb.b, .int .i64 yb.c, .int .u64 yb.n, .int .i64 yb.at_] 47)).alloc (.cells #[.int .i64 ya.op, .int .i64 ya.w, .int .i64 ya.p, .int .i64 ya.a, .int .i64 ya.b, .int .i64 ya.c, .int .u64 ya.n, .int .i64 ya.at_] 47)).drew) := (((Bel.refl wr).alloc _).alloc _).drew
      obtain ⟨X, hX⟩ : ∃ Y, (((wr.alloc (.cells #[.int .i64 yb.op, .int .i64 yb.w, .int .i64 yb.p, .int .i64 yb.a, .int .i64 yb.b, .int .i64 yb.c, .int .u64 yb.n, .int .i64 yb.at_] 47)).alloc (.cells #[.int .i64 ya.op, .int .i64 ya.w, .int .i64 ya.p, .int .i64 ya.a, .int .i64 ya.b, .int .i64 ya.c, .int .u64 ya.n, .int .i64 ya.at_] 47)).drew) = Y := ⟨_, rfl⟩
      rw [hX] at Y5 Y6 bX
      simp only [hX]
      clear hX
      rotate_left 1
      all_goals
        have bW := hbw.trans (Below.mono bX hbw.size)
        have p1 := Y5.cell 1
        have p2 := Y5.cell 2
        have k1 := Y6.cell 1
        have k2 := Y6.cell 2
        by_cases q1 : ya.w = yb.w
        rotate_left 1
        · have b1 : (ya.w != yb.w) = true := by simpa using q1
          have hQ := Lib.hid (hno.out (fun h => q1 h.1))
          clear hno hst q1 hRR
          go_wp2
          go_ret
          exact ⟨by rw [hQ.out]; rfl, Below.trans ‹Below W.heap.size W w1› (bW.mono (Below.size ‹Below W.heap.size W w1›))⟩
        have b1' : (ya.w != yb.w) = false := by simpa using q1
        by_cases q2 : ya.p = yb.p
        · have b2 : (ya.p != yb.p) = false := by simpa using q2
          have hN := Lib.hid (hst.out ⟨q1, q2⟩)
          clear hno hst q1 q2
          go_wp2_with fail
          go_roundw
          case rel => exact ⟨j + 1, hlt, by go_num, hN, bW⟩
          case measure => simp only [iOf]; omega
        · have b2 : (ya.p != yb.p) = true := by simpa using q2
          have hQ := Lib.hid (hno.out (fun h => q2 h.2))
          clear hno hst q1 q2 hRR
          go_wp2
          go_ret
          exact ⟨by rw [hQ.out]; rfl, Below.trans ‹Below W.heap.size W w1› (bW.mono (Below.size ‹Below W.heap.size W w1›))⟩
    · have hie : j = args.length := by omega
      subst hie
      have hQ : Hid (R = false) := Lib.hid (by rw [hRR.out, B_of hI.out]; rfl)
      clear hI hRR
      go_wp2
      go_ret
      exact ⟨by rw [hQ.out]; rfl, b1.trans (hbw.mono b1.size)⟩
end Go.Proofs.YtnbgadndkepomaaGreatDoor
