/- BitsOrder: for every input the statement's function returns true, and the input reads afterwards as it read before. No condition. -/
import Derived.Test.YteibkmignbbekaaOrder
import Derived.Test.YteibkmignbbekaaOrderM
import Derived.Test.YteibkmignbbekaaFrame
import Derived.ProofKit
import Derived.Lib.SmallJoins
namespace Go.Proofs.Yteibkmignbbekaa
open Go.ChangeShapes Go.WideShapes Go.ChangeAt Go.RowKit Go.Joins

theorem ord_facts (f : Int → Int) (a b c : Int) (inj : f a = f b → a = b) :
    ((bit (decide (f a < f b)) = 1 ∧ bit (decide (f b < f a)) = 0 ∧ bit (decide (a = b)) = 0) ∨ (bit (decide (f a < f b)) = 0 ∧ bit (decide (f b < f a)) = 1 ∧ bit (decide (a = b)) = 0) ∨ (bit (decide (f a < f b)) = 0 ∧ bit (decide (f b < f a)) = 0 ∧ bit (decide (a = b)) = 1)) ∧
    (bit (decide (f b < f c)) = 0 ∨ bit (decide (f b < f c)) = 1) ∧ (bit (decide (f a < f b)) = 1 → bit (decide (f b < f c)) = 1 → bit (decide (f a < f c)) = 1) := by
  have b1 : ∀ p : Prop, [Decidable p] → p → bit (decide p) = 1 := fun p _ h => by simp [bit, h]
  have b0 : ∀ p : Prop, [Decidable p] → ¬ p → bit (decide p) = 0 := fun p _ h => by simp [bit, h]
  have b2 : ∀ p : Prop, [Decidable p] → bit (decide p) = 1 → p := fun p _ h => by
    apply Classical.byContradiction; intro hn; rw [b0 p hn] at h; exact absurd h (by decide)
  refine ⟨?_, ?_, ?_⟩
  · by_cases h1 : f a < f b
    · exact Or.inl ⟨b1 _ h1, b0 _ (by omega), b0 _ (fun e => by rw [e] at h1; omega)⟩
    · by_cases h2 : f b < f a
      · exact Or.inr (Or.inl ⟨b0 _ h1, b1 _ h2, b0 _ (fun e => by rw [e] at h2; omega)⟩)
      · exact Or.inr (Or.inr ⟨b0 _ h1, b0 _ h2, b1 _ (inj (by omega))⟩)
  · by_cases h : f b < f c
    · exact Or.inr (b1 _ h)
    · exact Or.inl (b0 _ h)
  · intro h1 h2
    have := b2 _ h1
    have := b2 _ h2
    exact b1 _ (by omega)

theorem order_any (n a m b k c : Int) (w : World) (ha : 0 ≤ a ∧ a < 18446744073709551616) (hb : 0 ≤ b ∧ b < 18446744073709551616) (hc : 0 ≤ c ∧ c < 18446744073709551616) :
    Calls Try.prog 8 #[.agg #[.int .i64 n, .int .u64 a], .agg #[.int .i64 m, .int .u64 b], .agg #[.int .i64 k, .int .u64 c]] w fun e w' => e = .returned (.bool true) ∧ Below w.heap.size w w' := by
  cases h : sameV n a m b
  · exact order_no1 n a m b k c w ha.1 hb.1 hc.1 h
  cases h2 : sameV m b k c
  · exact order_no2 n a m b k c w ha.1 hb.1 hc.1 h h2
  obtain ⟨va, vb, rfl⟩ := sameV_true h
  obtain ⟨_, vc, rfl⟩ := sameV_true h2
  obtain ⟨n1, n2, a1⟩ := (vB_iff _ _).1 va
  have b1 := ((vB_iff _ _).1 vb).2.2
  have hp := p2 (n.toNat - 1)
  have hlt := pow_lt (n.toNat - 1) n.toNat (by omega)
  have h64 := pow_le n.toNat 64 (by omega)
  have vH : vB n (2 ^ (n.toNat - 1)) = true := (vB_iff _ _).2 ⟨n1, n2, hlt⟩
  have ok := fun x => low_ok n x n1 n2
  have lt : ∀ x y, vB n x = true → vB n y = true → BinC 13 n x y 1 (bit (decide (x < y))) := fun x y hx hy => binC_of (fun w => by have h := bin_13 n x y w hx hy; rwa [cmp_lt] at h)
  have sl : ∀ x y, vB n x = true → vB n y = true → BinC 14 n x y 1 (bit (decide (sgn n x < sgn n y))) := fun x y hx hy => binC_of (fun w => by have h := bin_14 n x y w hx hy; rwa [cmp_lt] at h)
  have eq : BinC 12 n a b 1 (bit (decide (a = b))) := binC_of (fun w => by have h := bin_12 n a b w va vb; rwa [cmp_eq] at h)
  have xo : ∀ x, vB n x = true → BinC 9 n x (2 ^ (n.toNat - 1)) n (low n (bits .xor .u64 x (2 ^ (n.toNat - 1)))) := fun x hx => binC_of (fun w => bin_9 n x _ w hx vH)
  have HO : OrdOps n a b c := fun o ho => by
    rcases ho with rfl | rfl
    · obtain ⟨f1, f2, f3⟩ := ord_facts (fun x => x) a b c (fun e => e)
      exact ⟨_, _, _, _, _, Lib.hid (lt a b va vb), Lib.hid (lt b a vb va), Lib.hid eq, Lib.hid (lt b c vb vc), Lib.hid (lt a c va vc), f1, f2, f3⟩
    · obtain ⟨f1, f2, f3⟩ := ord_facts (fun x => sgn n x) a b c (fun e => sgn_inj n a b n1 n2 ha.1 a1 hb.1 b1 e)
      exact ⟨_, _, _, _, _, Lib.hid (sl a b va vb), Lib.hid (sl b a vb va), Lib.hid eq, Lib.hid (sl b c vb vc), Lib.hid (sl a c va vc), f1, f2, f3⟩
  have C13 := lt _ _ (ok (bits .xor .u64 a (2 ^ (n.toNat - 1)))) (ok (bits .xor .u64 b (2 ^ (n.toNat - 1))))
  rw [flip_order n a b n1 n2 ha.1 a1 hb.1 b1] at C13
  exact order_walk n a b c (2 ^ (n.toNat - 1)) (bit (decide (sgn n a < sgn n b))) _ _ w ha.1 hb.1 hc.1 h h2 n1 n2 (wrap_small _ (by omega) (by omega)) (Lib.hid HO) (Lib.hid (sl a b va vb)) (Lib.hid (xo a va)) (Lib.hid (xo b vb)) (Lib.hid C13)

set_option maxRecDepth 100000 in
theorem bitsOrder_lifted (os : Os) (started : os.Started) (H : Type) (enc : TypeId × Value → H) :
    ReturnsInHanded {} Try.checked os 8 .any (Rows.bitsOrderSpec.pre6 enc Try.prog Try.f8 Rows.bitsOrderRow.domain false) (Rows.bitsOrderSpec.post enc Try.prog Try.f8 false true false false) := by
  refine returnsInHanded_of_change (C := Try.checked) Try.own started (by kernel_rfl) Try.func8
    (ChangeSpec.witness6 (enc := enc) (C := Try.checked) false ⟨#[], #[.agg #[.int .i64 0, .int .u64 0], .agg #[.int .i64 0, .int .u64 0], .agg #[.int .i64 0, .int .u64 0]], []⟩ 8 (by kernel_rfl) (by kernel_rfl) (by kernel_rfl) (by kernel_rfl)) ?_
  intro W base args ds gs before hval0 hW hcnd _
  have hval : ∀ (j : Nat) t v, Try.f8.params[j]? = some t → args[j]? = some v → Value.okWide Try.prog W .any base t v := hval0
  have hW' := hW
  obtain ⟨p, q, hA0, hV, rfl, hfz, hnd⟩ := hW
  have hA : DataW.TrodAll enc Try.prog W 0 (fun _ => true) true Try.f8.params.toList args.toList ds p := hA0
  rw [Try.params8] at hA hval
  obtain ⟨v0, vs0, d0, ds0, p0, q0, hargs, rfl, rfl, h0, r0⟩ := trodAll_cons hA
  obtain ⟨v1, vs1, d1, ds1, p1, q1, rfl, rfl, rfl, h1, r1⟩ := trodAll_cons r0
  obtain ⟨v2, vs2, d2, ds2, p2, q2, rfl, rfl, rfl, h2, r2⟩ := trodAll_cons r1
  obtain ⟨rfl, rfl, rfl⟩ := trodAll_nil r2
  obtain rfl : args = #[v0, v1, v2] := by cases args; simp_all
  obtain ⟨rfl, rfl⟩ := trodVars_none hV
  simp only [List.append_nil] at hW'
  have hlt : ∀ x ∈ p0 ++ (p1 ++ (p2)), x.block < W.heap.size := fun x hx => by simpa using hW'.lt x hx
  have h0k := h0
  obtain ⟨c0, e0, y0, z0, m0, rfl, rfl, hp0, hy0, hz0⟩ := open_agg2 Try.underlying24 (by kernel_rfl) Try.cellsBits (hval 0 24 v0 rfl rfl) h0
  obtain ⟨x0, ey0, _, wx0⟩ := DataW.trod_int Try.underlying3 hy0
  obtain ⟨u0, ez0, _, wu0⟩ := DataW.trod_int Try.underlying22 hz0
  simp at ey0 ez0
  subst ey0 ez0
  have h1k := h1
  obtain ⟨c1, e1, y1, z1, m1, rfl, rfl, hp1, hy1, hz1⟩ := open_agg2 Try.underlying24 (by kernel_rfl) Try.cellsBits (hval 1 24 v1 rfl rfl) h1
  obtain ⟨x1, ey1, _, wx1⟩ := DataW.trod_int Try.underlying3 hy1
  obtain ⟨u1, ez1, _, wu1⟩ := DataW.trod_int Try.underlying22 hz1
  simp at ey1 ez1
  subst ey1 ez1
  have h2k := h2
  obtain ⟨c2, e2, y2, z2, m2, rfl, rfl, hp2, hy2, hz2⟩ := open_agg2 Try.underlying24 (by kernel_rfl) Try.cellsBits (hval 2 24 v2 rfl rfl) h2
  obtain ⟨x2, ey2, _, wx2⟩ := DataW.trod_int Try.underlying3 hy2
  obtain ⟨u2, ez2, _, wu2⟩ := DataW.trod_int Try.underlying22 hz2
  simp at ey2 ez2
  subst ey2 ez2
  clear hA0 hval0
  refine (order_any x0 u0 x1 u1 x2 u2 W (wf_u64 wu0) (wf_u64 wu1) (wf_u64 wu2)).mono fun e W' ⟨he, hB⟩ => ?_
  subst he
  refine ⟨_, rfl, _, _, _, [], p0 ++ (p1 ++ (p2 ++ [])), [], hW', trodAll_mk1 (shut_bool Try.underlying4 _), ?_, rfl, hB.frame _, fun h => by cases h⟩
  exact trodAll_cons_mk (Below.trod Try.laidOut (by kernel_rfl) (of_decide_eq_true (by kernel_rfl)) h0k hB (fun x hx => hlt x (by simp [hx]))) (trodAll_cons_mk (Below.trod Try.laidOut (by kernel_rfl) (of_decide_eq_true (by kernel_rfl)) h1k hB (fun x hx => hlt x (by simp [hx]))) (trodAll_cons_mk (Below.trod Try.laidOut (by kernel_rfl) (of_decide_eq_true (by kernel_rfl)) h2k hB (fun x hx => hlt x (by simp [hx]))) (trodAll_mk0)))

theorem bitsOrder_holds : Rows.BitsOrderSaid :=
  OpenClaim.holds_of_wide 8 Try.f8 rfl rfl rfl rfl rfl rfl rfl ⟨rfl, rfl, rfl, rfl, rfl⟩ rfl rfl rfl rfl rfl (by kernel_rfl) Try.func8 (by kernel_rfl)
    (of_decide_eq_true (by kernel_rfl)) (by unfold Func.isWrapper; rw [if_neg (of_decide_eq_false (by kernel_rfl))]; exact ⟨rfl, rfl⟩)
    (fun os started H enc _ => bitsOrder_lifted os started H enc)
#print axioms bitsOrder_holds
end Go.Proofs.Yteibkmignbbekaa
