/- BitsShifts: for every input the statement's function returns true, and the input reads afterwards as it read before. No condition. -/
import Derived.Test.YtdnbpfhkbaojnaaShift
import Derived.Test.YtdnbpfhkbaojnaaShiftM
import Derived.Test.YtdnbpfhkbaojnaaFrame
import Derived.ProofKit
import Derived.Lib.SmallJoins
namespace Go.Proofs.Ytdnbpfhkbaojnaa
open Go.ChangeShapes Go.WideShapes Go.ChangeAt Go.RowKit Go.Joins

theorem shifts_any (n a m b : Int) (w : World) (ha : 0 ≤ a ∧ a < 18446744073709551616) (hb : 0 ≤ b ∧ b < 18446744073709551616) :
    Calls Try.prog 7 #[.agg #[.int .i64 n, .int .u64 a], .agg #[.int .i64 m, .int .u64 b]] w fun e w' => e = .returned (.bool true) ∧ Below w.heap.size w w' := by
  cases h : sameV n a m b
  · exact shifts_no n a m b w ha.1 hb.1 h
  · obtain ⟨va, vb, rfl⟩ := sameV_true h
    obtain ⟨h1, h2, h3⟩ := (vB_iff _ _).1 va
    have hw := wrap_small n (by omega) (by omega)
    by_cases hn : n ≤ b
    · exact shifts_big n a b w ha.1 hb.1 h hw hn
        (binC_of fun w => by have := bin_10 n a b w va vb ha.1 hb.1; rwa [shl_out n a _ (by omega)] at this)
        (binC_of fun w => by have := bin_11 n a b w va vb ha.1 hb.1; rwa [shr_out n a _ (by omega) ha.1 h3] at this)
    · have hk : min b.toNat 64 = b.toNat := by omega
      have p0 : (0 : Int) < 2 ^ b.toNat := Int.pow_pos (by decide)
      have p1 := pow_lt b.toNat n.toNat (by omega)
      have p2 := pow_lt b.toNat 64 (by omega)
      have vp : vB n (2 ^ b.toNat) = true := (vB_iff _ _).2 ⟨h1, h2, p1⟩
      exact shifts_small n a b (2 ^ b.toNat) (low n (a * 2 ^ b.toNat)) (low n (a / 2 ^ b.toNat)) w ha.1 hb.1 h hw hn (by omega) (wrap_small _ (by omega) p2)
        (binC_of fun w => by have := bin_10 n a b w va vb ha.1 hb.1; rwa [hk] at this)
        (binC_of fun w => bin_4 n a _ w va vp)
        (binC_of fun w => by have := bin_11 n a b w va vb ha.1 hb.1; rwa [hk] at this)
        (binC_of fun w => by have := bin_5 n a _ w va vp ha.1 (by omega); rwa [show quoV n a (2 ^ b.toNat) = low n (a / 2 ^ b.toNat) from if_neg (by omega)] at this)

set_option maxRecDepth 100000 in
theorem bitsShifts_lifted (os : Os) (started : os.Started) (H : Type) (enc : TypeId × Value → H) :
    ReturnsInHanded {} Try.checked os 7 .any (Rows.bitsShiftsSpec.pre6 enc Try.prog Try.f7 Rows.bitsShiftsRow.domain false) (Rows.bitsShiftsSpec.post enc Try.prog Try.f7 false true false false) := by
  refine returnsInHanded_of_change (C := Try.checked) Try.own started (by kernel_rfl) Try.func7
    (ChangeSpec.witness6 (enc := enc) (C := Try.checked) false ⟨#[], #[.agg #[.int .i64 0, .int .u64 0], .agg #[.int .i64 0, .int .u64 0]], []⟩ 8 (by kernel_rfl) (by kernel_rfl) (by kernel_rfl) (by kernel_rfl)) ?_
  intro W base args ds gs before hval0 hW hcnd _
  have hval : ∀ (j : Nat) t v, Try.f7.params[j]? = some t → args[j]? = some v → Value.okWide Try.prog W .any base t v := hval0
  have hW' := hW
  obtain ⟨p, q, hA0, hV, rfl, hfz, hnd⟩ := hW
  have hA : DataW.TrodAll enc Try.prog W 0 (fun _ => true) true Try.f7.params.toList args.toList ds p := hA0
  rw [Try.params7] at hA hval
  obtain ⟨v0, vs0, d0, ds0, p0, q0, hargs, rfl, rfl, h0, r0⟩ := trodAll_cons hA
  obtain ⟨v1, vs1, d1, ds1, p1, q1, rfl, rfl, rfl, h1, r1⟩ := trodAll_cons r0
  obtain ⟨rfl, rfl, rfl⟩ := trodAll_nil r1
  obtain rfl : args = #[v0, v1] := by cases args; simp_all
  obtain ⟨rfl, rfl⟩ := trodVars_none hV
  simp only [List.append_nil] at hW'
  have hlt : ∀ x ∈ p0 ++ (p1), x.block < W.heap.size := fun x hx => by simpa using hW'.lt x hx
  have h0k := h0
  obtain ⟨c0, e0, y0, z0, m0, rfl, rfl, hp0, hy0, hz0⟩ := open_agg2 Try.underlying24 (by kernel_rfl) Try.cellsBits (hval 0 24 v0 rfl rfl) h0
  obtain ⟨x0, ey0, _, wx0⟩ := DataW.trod_int Try.underlying3 hy0
  obtain ⟨u0, ez0, _, wu0⟩ := DataW.trod_int Try.underlying22 hz0
  simp at ey0 ez0
  subst ey0 ez0
  have h1k := h1
  obtain ⟨c1, e1, y1, z1, m1, rfl, rfl, hp1, hy1, hz1⟩ := open_agg2 Try.underlying24 (by kernel_rfl) Try.cellsBits (hval 1 24 v1 rfl rfl) h1
  obtain ⟨x1, ey1, _, wx1⟩ := DataW.trod_int Try.underlying3 hy1
  obtain ⟨u1, ez1, _, wu1⟩ := DataW.trod_int Try.underlying22 hz1
  simp at ey1 ez1
  subst ey1 ez1
  clear hA0 hval0
  refine (shifts_any x0 u0 x1 u1 W (wf_u64 wu0) (wf_u64 wu1)).mono fun e W' ⟨he, hB⟩ => ?_
  subst he
  refine ⟨_, rfl, _, _, _, [], p0 ++ (p1 ++ []), [], hW', trodAll_mk1 (shut_bool Try.underlying4 _), ?_, rfl, hB.frame _, fun h => by cases h⟩
  exact trodAll_cons_mk (Below.trod Try.laidOut (by kernel_rfl) (of_decide_eq_true (by kernel_rfl)) h0k hB (fun x hx => hlt x (by simp [hx]))) (trodAll_cons_mk (Below.trod Try.laidOut (by kernel_rfl) (of_decide_eq_true (by kernel_rfl)) h1k hB (fun x hx => hlt x (by simp [hx]))) (trodAll_mk0))

theorem bitsShifts_holds : Rows.BitsShiftsSaid :=
  OpenClaim.holds_of_wide 7 Try.f7 rfl rfl rfl rfl rfl rfl rfl ⟨rfl, rfl, rfl, rfl, rfl⟩ rfl rfl rfl rfl rfl (by kernel_rfl) Try.func7 (by kernel_rfl)
    (of_decide_eq_true (by kernel_rfl)) (by unfold Func.isWrapper; rw [if_neg (of_decide_eq_false (by kernel_rfl))]; exact ⟨rfl, rfl⟩)
    (fun os started H enc _ => bitsShifts_lifted os started H enc)
#print axioms bitsShifts_holds
end Go.Proofs.Ytdnbpfhkbaojnaa
