/- BitsMatchesReference: for every input the statement's function returns true, and the input reads afterwards as it read before. No condition. -/
import Derived.Test.YtdnbpfhkbaojnaaRef12
import Derived.Test.YtdnbpfhkbaojnaaFrame
import Derived.ProofKit
import Derived.Lib.SmallJoins
namespace Go.Proofs.Ytdnbpfhkbaojnaa
open Go.ChangeShapes Go.WideShapes Go.ChangeAt Go.RowKit Go.Joins

theorem ref_any (op n a m b l k : Int) (w : World) (_ho : -9223372036854775808 ≤ op ∧ op ≤ 9223372036854775807) (ha : 0 ≤ a ∧ a < 18446744073709551616) (hb : 0 ≤ b ∧ b < 18446744073709551616) (_hl : -9223372036854775808 ≤ l ∧ l ≤ 9223372036854775807) (_hk : -9223372036854775808 ≤ k ∧ k ≤ 9223372036854775807) :
    Calls Try.prog 3 #[.int .i64 op, .agg #[.int .i64 n, .int .u64 a], .agg #[.int .i64 m, .int .u64 b], .int .i64 l, .int .i64 k] w fun e w' => e = .returned (.bool true) ∧ Below w.heap.size w w' := by
  obtain ⟨x1, y1, e1, B1, R1⟩ := bin_pair op n a m b ha.1 hb.1
  obtain ⟨x2, y2, e2, B2, R2⟩ := not_pair n a ha.1
  obtain ⟨x3, y3, e3, B3, R3⟩ := zext_pair n a k ha.1
  obtain ⟨x4, y4, e4, B4, R4⟩ := sext_pair n a k ha.1
  obtain ⟨x5, y5, e5, B5, R5⟩ := part_pair n a l k ha.1
  obtain ⟨x6, y6, e6, B6, R6⟩ := join_pair n a m b ha.1 hb.1
  have VR := fun w => ref_valid_any n a w ha.1
  cases hv : vB n a with
  | false =>
    rw [hv] at VR
    exact ref_walk false op n a m b l k x1 y1 e1 x2 y2 e2 x3 y3 e3 x4 y4 e4 x5 y5 e5 x6 y6 e6 w (Lib.hid (fun w => valid_no n a w hv)) (Lib.hid VR) (Lib.hid B1) (Lib.hid R1) (Lib.hid B2) (Lib.hid R2) (Lib.hid B3) (Lib.hid R3) (Lib.hid B4) (Lib.hid R4) (Lib.hid B5) (Lib.hid R5) (Lib.hid B6) (Lib.hid R6)
  | true =>
    rw [hv] at VR
    exact ref_walk true op n a m b l k x1 y1 e1 x2 y2 e2 x3 y3 e3 x4 y4 e4 x5 y5 e5 x6 y6 e6 w (Lib.hid (fun w => valid_yes n a w hv)) (Lib.hid VR) (Lib.hid B1) (Lib.hid R1) (Lib.hid B2) (Lib.hid R2) (Lib.hid B3) (Lib.hid R3) (Lib.hid B4) (Lib.hid R4) (Lib.hid B5) (Lib.hid R5) (Lib.hid B6) (Lib.hid R6)

set_option maxRecDepth 100000 in
theorem bitsMatchesReference_lifted (os : Os) (started : os.Started) (H : Type) (enc : TypeId × Value → H) :
    ReturnsInHanded {} Try.checked os 3 .any (Rows.bitsMatchesReferenceSpec.pre6 enc Try.prog Try.f3 Rows.bitsMatchesReferenceRow.domain false) (Rows.bitsMatchesReferenceSpec.post enc Try.prog Try.f3 false true false false) := by
  refine returnsInHanded_of_change (C := Try.checked) Try.own started (by kernel_rfl) Try.func3
    (ChangeSpec.witness6 (enc := enc) (C := Try.checked) false ⟨#[], #[.int .i64 0, .agg #[.int .i64 0, .int .u64 0], .agg #[.int .i64 0, .int .u64 0], .int .i64 0, .int .i64 0], []⟩ 8 (by kernel_rfl) (by kernel_rfl) (by kernel_rfl) (by kernel_rfl)) ?_
  intro W base args ds gs before hval0 hW hcnd _
  have hval : ∀ (j : Nat) t v, Try.f3.params[j]? = some t → args[j]? = some v → Value.okWide Try.prog W .any base t v := hval0
  have hW' := hW
  obtain ⟨p, q, hA0, hV, rfl, hfz, hnd⟩ := hW
  have hA : DataW.TrodAll enc Try.prog W 0 (fun _ => true) true Try.f3.params.toList args.toList ds p := hA0
  rw [Try.params3] at hA hval
  obtain ⟨v0, vs0, d0, ds0, p0, q0, hargs, rfl, rfl, h0, r0⟩ := trodAll_cons hA
  obtain ⟨v1, vs1, d1, ds1, p1, q1, rfl, rfl, rfl, h1, r1⟩ := trodAll_cons r0
  obtain ⟨v2, vs2, d2, ds2, p2, q2, rfl, rfl, rfl, h2, r2⟩ := trodAll_cons r1
  obtain ⟨v3, vs3, d3, ds3, p3, q3, rfl, rfl, rfl, h3, r3⟩ := trodAll_cons r2
  obtain ⟨v4, vs4, d4, ds4, p4, q4, rfl, rfl, rfl, h4, r4⟩ := trodAll_cons r3
  obtain ⟨rfl, rfl, rfl⟩ := trodAll_nil r4
  obtain rfl : args = #[v0, v1, v2, v3, v4] := by cases args; simp_all
  obtain ⟨rfl, rfl⟩ := trodVars_none hV
  simp only [List.append_nil] at hW'
  have hlt : ∀ x ∈ p0 ++ (p1 ++ (p2 ++ (p3 ++ (p4)))), x.block < W.heap.size := fun x hx => by simpa using hW'.lt x hx
  have h0k := h0
  obtain ⟨x0, rfl, rfl, hp0, wx0⟩ := open_int Try.underlying3 (hval 0 3 v0 rfl rfl) h0
  have h1k := h1
  obtain ⟨c1, e1, y1, z1, m1, rfl, rfl, hp1, hy1, hz1⟩ := open_agg2 Try.underlying24 (by kernel_rfl) Try.cellsBits (hval 1 24 v1 rfl rfl) h1
  obtain ⟨x1, ey1, _, wx1⟩ := DataW.trod_int Try.underlying3 hy1
  obtain ⟨u1, ez1, _, wu1⟩ := DataW.trod_int Try.underlying22 hz1
  simp at ey1 ez1
  subst ey1 ez1
  have h2k := h2
  obtain ⟨c2, e2, y2, z2, m2, rfl, rfl, hp2, hy2, hz2⟩ := open_agg2 Try.underlying24 (by kernel_rfl) Try.cellsBits (hval 2 24 v2 rfl rfl) h2
  obtain ⟨x2, ey2, _, wx2⟩ := DataW.trod_int Try.underlying3 hy2
  obtain ⟨u2, ez2, _, wu2⟩ := DataW.trod_int Try.underlying22 hz2
  simp at ey2 ez2
  subst ey2 ez2
  have h3k := h3
  obtain ⟨x3, rfl, rfl, hp3, wx3⟩ := open_int Try.underlying3 (hval 3 3 v3 rfl rfl) h3
  have h4k := h4
  obtain ⟨x4, rfl, rfl, hp4, wx4⟩ := open_int Try.underlying3 (hval 4 3 v4 rfl rfl) h4
  clear hA0 hval0
  refine (ref_any x0 x1 u1 x2 u2 x3 x4 W (wf_i64 wx0) (wf_u64 wu1) (wf_u64 wu2) (wf_i64 wx3) (wf_i64 wx4)).mono fun e W' ⟨he, hB⟩ => ?_
  subst he
  refine ⟨_, rfl, _, _, _, [], p0 ++ (p1 ++ (p2 ++ (p3 ++ (p4 ++ [])))), [], hW', trodAll_mk1 (shut_bool Try.underlying4 _), ?_, rfl, hB.frame _, fun h => by cases h⟩
  exact trodAll_cons_mk (Below.trod Try.laidOut (by kernel_rfl) (of_decide_eq_true (by kernel_rfl)) h0k hB (fun x hx => hlt x (by simp [hx]))) (trodAll_cons_mk (Below.trod Try.laidOut (by kernel_rfl) (of_decide_eq_true (by kernel_rfl)) h1k hB (fun x hx => hlt x (by simp [hx]))) (trodAll_cons_mk (Below.trod Try.laidOut (by kernel_rfl) (of_decide_eq_true (by kernel_rfl)) h2k hB (fun x hx => hlt x (by simp [hx]))) (trodAll_cons_mk (Below.trod Try.laidOut (by kernel_rfl) (of_decide_eq_true (by kernel_rfl)) h3k hB (fun x hx => hlt x (by simp [hx]))) (trodAll_cons_mk (Below.trod Try.laidOut (by kernel_rfl) (of_decide_eq_true (by kernel_rfl)) h4k hB (fun x hx => hlt x (by simp [hx]))) (trodAll_mk0)))))

theorem bitsMatchesReference_holds : Rows.BitsMatchesReferenceSaid :=
  OpenClaim.holds_of_wide 3 Try.f3 rfl rfl rfl rfl rfl rfl rfl ⟨rfl, rfl, rfl, rfl, rfl⟩ rfl rfl rfl rfl rfl (by kernel_rfl) Try.func3 (by kernel_rfl)
    (of_decide_eq_true (by kernel_rfl)) (by unfold Func.isWrapper; rw [if_neg (of_decide_eq_false (by kernel_rfl))]; exact ⟨rfl, rfl⟩)
    (fun os started H enc _ => bitsMatchesReference_lifted os started H enc)
#print axioms bitsMatchesReference_holds
end Go.Proofs.Ytdnbpfhkbaojnaa
