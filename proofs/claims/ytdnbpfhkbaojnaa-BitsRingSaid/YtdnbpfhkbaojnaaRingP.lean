/- BitsRing: for every input the statement's function returns true, and the input reads afterwards as it read before. No condition. -/
import Derived.Test.YtdnbpfhkbaojnaaRing
import Derived.Test.YtdnbpfhkbaojnaaFrame
import Derived.ProofKit
import Derived.Lib.SmallJoins
namespace Go.Proofs.Ytdnbpfhkbaojnaa
open Go.ChangeShapes Go.WideShapes Go.ChangeAt Go.RowKit Go.Joins

theorem ring_any (n a m b k c : Int) (w : World) (ha : 0 ≤ a ∧ a < 18446744073709551616) (hb : 0 ≤ b ∧ b < 18446744073709551616) (hc : 0 ≤ c ∧ c < 18446744073709551616) :
    Calls Try.prog 4 #[.agg #[.int .i64 n, .int .u64 a], .agg #[.int .i64 m, .int .u64 b], .agg #[.int .i64 k, .int .u64 c]] w fun e w' => e = .returned (.bool true) ∧ Below w.heap.size w w' := by
  cases h : sameV n a m b
  · exact ring_no1 n a m b k c w ha.1 hb.1 hc.1 h
  · cases h2 : sameV m b k c
    · exact ring_no2 n a m b k c w ha.1 hb.1 hc.1 h h2
    · obtain ⟨va, vb, rfl⟩ := sameV_true h
      obtain ⟨_, vc, rfl⟩ := sameV_true h2
      obtain ⟨h1, h2', _⟩ := vB_true va
      have ok := fun x => low_ok n x h1 h2'
      have nn := fun x => low_nonneg n x
      have add : ∀ x y z, vB n x = true → vB n y = true → low n (x + y) = z → BinC 2 n x y n z := fun x y z hx hy hz => binC_of (fun w => by have := bin_2 n x y w hx hy; rwa [hz] at this)
      have sub : ∀ x y z, vB n x = true → vB n y = true → low n (x - y) = z → BinC 3 n x y n z := fun x y z hx hy hz => binC_of (fun w => by have := bin_3 n x y w hx hy; rwa [hz] at this)
      have mul : ∀ x y z, vB n x = true → vB n y = true → low n (x * y) = z → BinC 4 n x y n z := fun x y z hx hy hz => binC_of (fun w => by have := bin_4 n x y w hx hy; rwa [hz] at this)
      exact ring_walk n a b c (low n (a + b)) (low n (b + c)) (low n (a * b)) (low n (b * c)) (low n (a * c)) (low n (a + b + c)) (low n (a * b * c)) (low n (a * b + a * c)) w ha.1 hb.1 hc.1 h h2 (ok _) (nn _)
        (add _ _ _ va vb rfl) (add _ _ _ vb va (by rw [Int.add_comm])) (mul _ _ _ va vb rfl) (mul _ _ _ vb va (by rw [Int.mul_comm])) (add _ _ _ vb vc rfl)
        (add _ _ _ (ok _) vc (low_add_l _ _ _)) (add _ _ _ va (ok _) (by rw [low_add_r, Int.add_assoc])) (mul _ _ _ vb vc rfl) (mul _ _ _ (ok _) vc (low_mul_l _ _ _)) (mul _ _ _ va (ok _) (by rw [low_mul_r, Int.mul_assoc]))
        (mul _ _ _ va (ok _) (by rw [low_mul_r, Int.mul_add])) (mul _ _ _ va vc rfl) (add _ _ _ (ok _) (ok _) (by rw [low_add_l, low_add_r])) (sub _ _ _ (ok _) vb (by rw [low_sub_l, show a + b - b = a by omega]; exact low_id va ha.1))

set_option maxRecDepth 100000 in
theorem bitsRing_lifted (os : Os) (started : os.Started) (H : Type) (enc : TypeId × Value → H) :
    ReturnsInHanded {} Try.checked os 4 .any (Rows.bitsRingSpec.pre6 enc Try.prog Try.f4 Rows.bitsRingRow.domain false) (Rows.bitsRingSpec.post enc Try.prog Try.f4 false true false false) := by
  refine returnsInHanded_of_change (C := Try.checked) Try.own started (by kernel_rfl) Try.func4
    (ChangeSpec.witness6 (enc := enc) (C := Try.checked) false ⟨#[], #[.agg #[.int .i64 0, .int .u64 0], .agg #[.int .i64 0, .int .u64 0], .agg #[.int .i64 0, .int .u64 0]], []⟩ 8 (by kernel_rfl) (by kernel_rfl) (by kernel_rfl) (by kernel_rfl)) ?_
  intro W base args ds gs before hval0 hW hcnd _
  have hval : ∀ (j : Nat) t v, Try.f4.params[j]? = some t → args[j]? = some v → Value.okWide Try.prog W .any base t v := hval0
  have hW' := hW
  obtain ⟨p, q, hA0, hV, rfl, hfz, hnd⟩ := hW
  have hA : DataW.TrodAll enc Try.prog W 0 (fun _ => true) true Try.f4.params.toList args.toList ds p := hA0
  rw [Try.params4] at hA hval
  obtain ⟨v0, vs0, d0, ds0, p0, q0, hargs, rfl, rfl, h0, r0⟩ := trodAll_cons hA
  obtain ⟨v1, vs1, d1, ds1, p1, q1, rfl, rfl, rfl, h1, r1⟩ := trodAll_cons r0
  obtain ⟨v2, vs2, d2, ds2, p2, q2, rfl, rfl, rfl, h2, r2⟩ := trodAll_cons r1
  obtain ⟨rfl, rfl, rfl⟩ := trodAll_nil r2
  obtain rfl : args = #[v0, v1, v2] := by cases args; simp_all
  obtain ⟨rfl, rfl⟩ := trodVars_none hV
  simp only [List.append_nil] at hW'
  have hlt : ∀ x ∈ p0 ++ (p1 ++ (p2)), x.block < W.heap.size := fun x hx => by simpa using hW'.lt x hx
  have h0k := h0
  obtain ⟨c0, e0, y0, z0, m0, rfl, rfl, hp0, hy0, hz0⟩ := open_agg2 Try.underlying24 (by kernel_rfl) Try.cellsBits (hval 0 24 v0 rfl rfl) h0
  obtain ⟨x0, ey0, _, wx0⟩ := DataW.trod_int Try.underlying3 hy0
  obtain ⟨u0, ez0, _, wu0⟩ := DataW.trod_int Try.underlying22 hz0
  simp at ey0 ez0
  subst ey0 ez0
  have h1k := h1
  obtain ⟨c1, e1, y1, z1, m1, rfl, rfl, hp1, hy1, hz1⟩ := open_agg2 Try.underlying24 (by kernel_rfl) Try.cellsBits (hval 1 24 v1 rfl rfl) h1
  obtain ⟨x1, ey1, _, wx1⟩ := DataW.trod_int Try.underlying3 hy1
  obtain ⟨u1, ez1, _, wu1⟩ := DataW.trod_int Try.underlying22 hz1
  simp at ey1 ez1
  subst ey1 ez1
  have h2k := h2
  obtain ⟨c2, e2, y2, z2, m2, rfl, rfl, hp2, hy2, hz2⟩ := open_agg2 Try.underlying24 (by kernel_rfl) Try.cellsBits (hval 2 24 v2 rfl rfl) h2
  obtain ⟨x2, ey2, _, wx2⟩ := DataW.trod_int Try.underlying3 hy2
  obtain ⟨u2, ez2, _, wu2⟩ := DataW.trod_int Try.underlying22 hz2
  simp at ey2 ez2
  subst ey2 ez2
  clear hA0 hval0
  refine (ring_any x0 u0 x1 u1 x2 u2 W (wf_u64 wu0) (wf_u64 wu1) (wf_u64 wu2)).mono fun e W' ⟨he, hB⟩ => ?_
  subst he
  refine ⟨_, rfl, _, _, _, [], p0 ++ (p1 ++ (p2 ++ [])), [], hW', trodAll_mk1 (shut_bool Try.underlying4 _), ?_, rfl, hB.frame _, fun h => by cases h⟩
  exact trodAll_cons_mk (Below.trod Try.laidOut (by kernel_rfl) (of_decide_eq_true (by kernel_rfl)) h0k hB (fun x hx => hlt x (by simp [hx]))) (trodAll_cons_mk (Below.trod Try.laidOut (by kernel_rfl) (of_decide_eq_true (by kernel_rfl)) h1k hB (fun x hx => hlt x (by simp [hx]))) (trodAll_cons_mk (Below.trod Try.laidOut (by kernel_rfl) (of_decide_eq_true (by kernel_rfl)) h2k hB (fun x hx => hlt x (by simp [hx]))) (trodAll_mk0)))

theorem bitsRing_holds : Rows.BitsRingSaid :=
  OpenClaim.holds_of_wide 4 Try.f4 rfl rfl rfl rfl rfl rfl rfl ⟨rfl, rfl, rfl, rfl, rfl⟩ rfl rfl rfl rfl rfl (by kernel_rfl) Try.func4 (by kernel_rfl)
    (of_decide_eq_true (by kernel_rfl)) (by unfold Func.isWrapper; rw [if_neg (of_decide_eq_false (by kernel_rfl))]; exact ⟨rfl, rfl⟩)
    (fun os started H enc _ => bitsRing_lifted os started H enc)
#print axioms bitsRing_holds
end Go.Proofs.Ytdnbpfhkbaojnaa
