/- The reference of layer 9: Load and Put. -/
import Derived.Test.YteekppohhjlmmaaHpRfn
import Derived.Deep.RegionWith
namespace Go.Proofs.Yteekppohhjlmmaa
open Go.RowKit

def LdAns (R : (Int × Int) × Int × Int) (w : World) (e : Ending) (w' : World) : Prop := e = .returned (.tuple #[.agg #[.int .i64 R.1.1, .int .u64 R.1.2], .int .i64 R.2.1, .int .i64 R.2.2]) ∧ Below w.heap.size w w'
set_option maxRecDepth 100000 in
set_option maxHeartbeats 1600000 in
theorem RLoad_any (l : List Ob) (obj : Int) (k : Nat) (w : World) (A : Option Addr) (c : Nat) (hs : ObSl w A c l) (ho : oks l) : Calls Try.prog 18 #[.slice A l.length c, .int .i64 obj, .int .u64 (k : Nat)] w (LdAns (loadR l obj k) w) := by
  have hH : ∀ w1, Below w.heap.size w w1 → _ := fun w1 h1 => has_any l obj w1 A c (hs.later h1) ho
  have bA : Below w.heap.size w (w.alloc (.cells #[.int .i64 0, .int .u64 0] 32)) := (Below.refl _ _).alloc (Nat.le_refl _) _
  have N := Box.new w 32 #[.int .i64 0, .int .u64 0]
  have hH := hH _ bA
  cases hh : hasO l obj with
  | false =>
    have hR : loadR l obj k = ((0, 0), 0, 1) := by unfold loadR; rw [if_pos hh]
    rw [hh] at hH
    rw [hR]
    clear hs ho hh hR
    go_enter Try.func18, Try.ntmps18
    go_wp2_with fail
    refine hH.mono ?_
    rintro e w1 ⟨rfl, b1⟩
    have N1 := N.below b1
    have n0 := N1.free 0
    have n1 := N1.free 1
    have m0 := N1.cell 0
    have m1 := N1.cell 1
    have bW : Below w.heap.size w w1 := bA.trans (b1.mono bA.size)
    clear hH N bA b1
    go_wp2
    refine bodyPost_ret (v := .tuple #[.agg #[.int .i64 0, .int .u64 0], .int .i64 0, .int .i64 1]) (by simp [results, Try.results18, go_sem, m0, m1]) rfl ⟨rfl, ?_⟩
    exact (bW.setCell (Nat.le_refl _) _).setCell (Nat.le_refl _) _
  | true =>
    rw [hh] at hH
    obtain ⟨t, rfl⟩ : ∃ t : Nat, obj = t := ⟨obj.toNat, by have := (hasO_iff.1 hh).2; omega⟩
    have ht : t < l.length := by have := (hasO_iff.1 hh).2; omega
    have htc : (t : Int) < l.length := by omega
    obtain ⟨g, o, A', c', eA, k0, k1, ks⟩ := hs.at_ ht
    subst eA
    have hlen : (obAt l t).c.length ≤ 16 := obV_len (obsV_mem (hasO_iff.1 hh).1 _ (obAt_mem ht))
    have hFa := fun w => fault_any A' (obAt l t).c.length c' k (obAt l t).g w (by omega)
    have hcase : (faultR (obAt l t).g (obAt l t).c.length k ≠ 0 ∧ loadR l (t : Int) (k : Int) = ((0, 0), faultR (obAt l t).g (obAt l t).c.length k, 0)) ∨ (faultR (obAt l t).g (obAt l t).c.length k = 0 ∧ k < (obAt l t).c.length ∧ loadR l (t : Int) (k : Int) = if (ceAt (obAt l t).c k).s = true then (((ceAt (obAt l t).c k).w, (ceAt (obAt l t).c k).v), 0, 0) else ((0, 0), 4, 0)) := by
      cases hg : (obAt l t).g with
      | true => exact Or.inl ⟨show (3 : Int) ≠ 0 by decide, gone_load hh (by simpa using hg) k⟩
      | false =>
        by_cases hk : k < (obAt l t).c.length
        · have hz : faultR false (obAt l t).c.length k = 0 := by unfold faultR; rw [if_neg (by decide), if_neg (by omega)]
          refine Or.inr ⟨hz, hk, ?_⟩
          unfold loadR
          rw [if_neg (by rw [hh]; decide)]
          simp only [Int.toNat_natCast, hg]
          rw [if_neg (by decide), if_neg (by omega)]
        · have hz : faultR false (obAt l t).c.length k = 2 := by unfold faultR; rw [if_neg (by decide), if_pos (by omega)]
          rw [hz]
          exact Or.inl ⟨by decide, out_load hh (by simpa using hg) (by simp; omega)⟩
    rcases hcase with ⟨hf, hR⟩ | ⟨hf, hk, hR⟩
    · rw [hR]
      generalize faultR (obAt l t).g (obAt l t).c.length k = f at hFa hf
      have hq : (f != 0) = true := by simpa using hf
      generalize (obAt l t).c.length = n at k0 hFa
      generalize (obAt l t).g = gi at k1 hFa
      clear hs ho hh hR hf hlen ks
      go_enter Try.func18, Try.ntmps18
      go_wp2_with fail
      refine hH.mono ?_
      rintro e w1 ⟨rfl, b1⟩
      have N1 := N.below b1
      have bW : Below w.heap.size w w1 := bA.trans (b1.mono bA.size)
      have k0 := cell_later bW k0
      have k1 := cell_later bW k1
      clear hH N bA b1
      go_wp2_with fail
      refine (hFa _).mono ?_
      rintro e w2 ⟨rfl, b2⟩
      have N2 := N1.below b2
      have n0 := N2.free 0
      have n1 := N2.free 1
      have m0 := N2.cell 0
      have m1 := N2.cell 1
      have bW2 := bW.trans (b2.mono bW.size)
      clear hFa N1 bW b2
      go_wp2
      refine bodyPost_ret (v := .tuple #[.agg #[.int .i64 0, .int .u64 0], .int .i64 f, .int .i64 0]) (by simp [results, Try.results18, go_sem, m0, m1]) rfl ⟨rfl, ?_⟩
      exact (bW2.setCell (Nat.le_refl _) _).setCell (Nat.le_refl _) _
    · rw [hR]
      rw [hf] at hFa
      have hkc : (k : Int) < (obAt l t).c.length := by omega
      obtain ⟨gc, oc, eA, c0, c1, c2⟩ := ks.at_ hk
      subst eA
      generalize ceAt (obAt l t).c k = x at c0 c1 c2
      generalize (obAt l t).c.length = n at k0 hFa hkc
      generalize (obAt l t).g = gi at k1 hFa
      obtain ⟨xn, xs, xv⟩ := x
      simp only at c0 c1 c2
      clear hs ho hh hR hf hlen ks hk
      cases xs with
      | true =>
        rw [if_pos rfl]
        go_enter Try.func18, Try.ntmps18
        go_wp2_with fail
        refine hH.mono ?_
        rintro e w1 ⟨rfl, b1⟩
        have N1 := N.below b1
        have bW : Below w.heap.size w w1 := bA.trans (b1.mono bA.size)
        have k0 := cell_later bW k0
        have k1 := cell_later bW k1
        clear hH N bA b1
        go_wp2_with fail
        refine (hFa _).mono ?_
        rintro e w2 ⟨rfl, b2⟩
        have N2 := N1.below b2
        have n0 := N2.free 0
        have n1 := N2.free 1
        have m0 := N2.cell 0
        have m1 := N2.cell 1
        have bW2 := bW.trans (b2.mono bW.size)
        have k0 := cell_later b2 k0
        have c0 := cell_later bW2 c0
        have c1 := cell_later bW2 c1
        have c2 := cell_later bW2 c2
        have hz := N2.lt
        clear hFa N1 bW b2
        go_wp2
        refine bodyPost_ret (v := .tuple #[.agg #[.int .i64 xn, .int .u64 xv], .int .i64 0, .int .i64 0]) (by simp [results, Try.results18, go_sem, m0, m1, hz]) rfl ⟨rfl, ?_⟩
        refine Below.alloc (Below.setCell (Below.setCell bW2 ?_ _) ?_ _) ?_ _
        all_goals first | exact Nat.le_refl _ | (have := bW2.size; simp; omega)
      | false =>
        rw [if_neg (show ¬ (false = true) by decide)]
        go_enter Try.func18, Try.ntmps18
        go_wp2_with fail
        refine hH.mono ?_
        rintro e w1 ⟨rfl, b1⟩
        have N1 := N.below b1
        have bW : Below w.heap.size w w1 := bA.trans (b1.mono bA.size)
        have k0 := cell_later bW k0
        have k1 := cell_later bW k1
        clear hH N bA b1
        go_wp2_with fail
        refine (hFa _).mono ?_
        rintro e w2 ⟨rfl, b2⟩
        have N2 := N1.below b2
        have n0 := N2.free 0
        have n1 := N2.free 1
        have m0 := N2.cell 0
        have m1 := N2.cell 1
        have bW2 := bW.trans (b2.mono bW.size)
        have k0 := cell_later b2 k0
        have c0 := cell_later bW2 c0
        have c1 := cell_later bW2 c1
        have c2 := cell_later bW2 c2
        have hz := N2.lt
        clear hFa N1 bW b2
        go_wp2
        refine bodyPost_ret (v := .tuple #[.agg #[.int .i64 0, .int .u64 0], .int .i64 4, .int .i64 0]) (by simp [results, Try.results18, go_sem, m0, m1, hz]) rfl ⟨rfl, ?_⟩
        refine Below.alloc (Below.setCell (Below.setCell bW2 ?_ _) ?_ _) ?_ _
        all_goals first | exact Nat.le_refl _ | (have := bW2.size; simp; omega)
end Go.Proofs.Yteekppohhjlmmaa
