/- BitsDivision: for every input the statement's function returns true, and the input reads afterwards as it read before. No condition. -/
import Derived.Test.YtdnbpfhkbaojnaaDiv
import Derived.Test.YtdnbpfhkbaojnaaLogicP
import Derived.ProofKit
import Derived.Lib.SmallJoins
namespace Go.Proofs.Ytdnbpfhkbaojnaa
open Go.ChangeShapes Go.WideShapes Go.ChangeAt Go.RowKit Go.Joins

theorem div_any (n a m b : Int) (w : World) (ha : 0 ≤ a ∧ a < 18446744073709551616) (hb : 0 ≤ b ∧ b < 18446744073709551616) :
    Calls Try.prog 6 #[.agg #[.int .i64 n, .int .u64 a], .agg #[.int .i64 m, .int .u64 b]] w fun e w' => e = .returned (.bool true) ∧ Below w.heap.size w w' := by
  cases h : sameV n a m b
  · exact div_no n a m b w ha.1 hb.1 h
  · obtain ⟨va, vb, rfl⟩ := sameV_true h
    obtain ⟨h1, h2, h3⟩ := (vB_iff _ _).1 va
    by_cases hz : b = 0
    · subst hz
      have hp := Nat.two_pow_pos n.toNat
      have e1 : low n (hiw n) = hiw n := by
        unfold low hiw; rw [← pow_cast]; exact Int.emod_eq_of_lt (by omega) (by omega)
      have e2 : low n (bits .xor .u64 IntKind.u64.max 0) = hiw n := by
        have e := not_nat n 0 (by decide)
        have s := nx_add n.toNat 0 (by omega) hp
        rw [Nat.zero_add] at s
        rw [s] at e
        rw [show ((0 : Nat) : Int) = 0 from rfl] at e
        rw [e]; unfold hiw; rw [← pow_cast]; omega
      exact div_zero n a (hiw n) w ha.1 h
        (Lib.hid (binC_of fun w => by have h := bin_5_zero n a w va vb; rwa [e1] at h))
        (Lib.hid (binC_of fun w => bin_6_zero n a w va vb))
        (Lib.hid (show NotC n 0 (hiw n) from fun w => by have h := not_yes n 0 w vb; rwa [e2] at h))
    · have hb1 : 1 ≤ b := by omega
      have q0 : 0 ≤ a / b := Int.ediv_nonneg ha.1 hb.1
      have q1 : a / b ≤ a := Int.ediv_le_self _ ha.1
      have r0 : 0 ≤ a % b := Int.emod_nonneg _ (by omega)
      have r1 : a % b < b := Int.emod_lt_of_pos _ (by omega)
      have hdm : b * (a / b) + a % b = a := Int.mul_ediv_add_emod a b
      have qb0 : 0 ≤ b * (a / b) := Int.mul_nonneg hb.1 q0
      have id : ∀ x, 0 ≤ x → x ≤ a → low n x = x := fun x x0 x1 => Int.emod_eq_of_lt x0 (by omega)
      have ok : ∀ x, x ≤ a → vB n x = true := fun x x1 => (vB_iff _ _).2 ⟨h1, h2, by omega⟩
      have eq := id _ q0 q1
      have er := id _ r0 (by omega)
      have em : low n (a / b * b) = b * (a / b) := by rw [Int.mul_comm]; exact id _ qb0 (by omega)
      have ea : low n (b * (a / b) + a % b) = a := by rw [hdm]; exact id _ ha.1 (Int.le_refl _)
      exact div_walk n a b (a / b) (a % b) (b * (a / b)) w ha.1 hb.1 h (by simpa using hz) r1 q1
        (Lib.hid (binC_of fun w => by have h := bin_5_some n a b w va vb ha.1 hb1; rwa [eq] at h))
        (Lib.hid (binC_of fun w => by have h := bin_6_some n a b w va vb ha.1 hb1; rwa [er] at h))
        (Lib.hid (binC_of fun w => by have h := bin_4 n (a / b) b w (ok _ q1) vb; rwa [em] at h))
        (Lib.hid (binC_of fun w => by have h := bin_2 n (b * (a / b)) (a % b) w (ok _ (by omega)) (ok _ (by omega)); rwa [ea] at h))

set_option maxRecDepth 100000 in
theorem bitsDivision_lifted (os : Os) (started : os.Started) (H : Type) (enc : TypeId × Value → H) :
    ReturnsInHanded {} Try.checked os 6 .any (Rows.bitsDivisionSpec.pre6 enc Try.prog Try.f6 Rows.bitsDivisionRow.domain false) (Rows.bitsDivisionSpec.post enc Try.prog Try.f6 false true false false) := by
  refine returnsInHanded_of_change (C := Try.checked) Try.own started (by kernel_rfl) Try.func6
    (ChangeSpec.witness6 (enc := enc) (C := Try.checked) false ⟨#[], #[.agg #[.int .i64 0, .int .u64 0], .agg #[.int .i64 0, .int .u64 0]], []⟩ 8 (by kernel_rfl) (by kernel_rfl) (by kernel_rfl) (by kernel_rfl)) ?_
  intro W base args ds gs before hval0 hW hcnd _
  have hval : ∀ (j : Nat) t v, Try.f6.params[j]? = some t → args[j]? = some v → Value.okWide Try.prog W .any base t v := hval0
  have hW' := hW
  obtain ⟨p, q, hA0, hV, rfl, hfz, hnd⟩ := hW
  have hA : DataW.TrodAll enc Try.prog W 0 (fun _ => true) true Try.f6.params.toList args.toList ds p := hA0
  rw [Try.params6] at hA hval
  obtain ⟨v0, vs0, d0, ds0, p0, q0, hargs, rfl, rfl, h0, r0⟩ := trodAll_cons hA
  obtain ⟨v1, vs1, d1, ds1, p1, q1, rfl, rfl, rfl, h1, r1⟩ := trodAll_cons r0
  obtain ⟨rfl, rfl, rfl⟩ := trodAll_nil r1
  obtain rfl : args = #[v0, v1] := by cases args; simp_all
  obtain ⟨rfl, rfl⟩ := trodVars_none hV
  simp only [List.append_nil] at hW'
  have hlt : ∀ x ∈ p0 ++ (p1), x.block < W.heap.size := fun x hx => by simpa using hW'.lt x hx
  have h0k := h0
  obtain ⟨c0, e0, y0, z0, m0, rfl, rfl, hp0, hy0, hz0⟩ := open_agg2 Try.underlying24 (by kernel_rfl) Try.cellsBits (hval 0 24 v0 rfl rfl) h0
  obtain ⟨x0, ey0, _, wx0⟩ := DataW.trod_int Try.underlying3 hy0
  obtain ⟨u0, ez0, _, wu0⟩ := DataW.trod_int Try.underlying22 hz0
  simp at ey0 ez0
  subst ey0 ez0
  have h1k := h1
  obtain ⟨c1, e1, y1, z1, m1, rfl, rfl, hp1, hy1, hz1⟩ := open_agg2 Try.underlying24 (by kernel_rfl) Try.cellsBits (hval 1 24 v1 rfl rfl) h1
  obtain ⟨x1, ey1, _, wx1⟩ := DataW.trod_int Try.underlying3 hy1
  obtain ⟨u1, ez1, _, wu1⟩ := DataW.trod_int Try.underlying22 hz1
  simp at ey1 ez1
  subst ey1 ez1
  clear hA0 hval0
  refine (div_any x0 u0 x1 u1 W (wf_u64 wu0) (wf_u64 wu1)).mono fun e W' ⟨he, hB⟩ => ?_
  subst he
  refine ⟨_, rfl, _, _, _, [], p0 ++ (p1 ++ []), [], hW', trodAll_mk1 (shut_bool Try.underlying4 _), ?_, rfl, hB.frame _, fun h => by cases h⟩
  exact trodAll_cons_mk (Below.trod Try.laidOut (by kernel_rfl) (of_decide_eq_true (by kernel_rfl)) h0k hB (fun x hx => hlt x (by simp [hx]))) (trodAll_cons_mk (Below.trod Try.laidOut (by kernel_rfl) (of_decide_eq_true (by kernel_rfl)) h1k hB (fun x hx => hlt x (by simp [hx]))) (trodAll_mk0))

theorem bitsDivision_holds : Rows.BitsDivisionSaid :=
  OpenClaim.holds_of_wide 6 Try.f6 rfl rfl rfl rfl rfl rfl rfl ⟨rfl, rfl, rfl, rfl, rfl⟩ rfl rfl rfl rfl rfl (by kernel_rfl) Try.func6 (by kernel_rfl)
    (of_decide_eq_true (by kernel_rfl)) (by unfold Func.isWrapper; rw [if_neg (of_decide_eq_false (by kernel_rfl))]; exact ⟨rfl, rfl⟩)
    (fun os started H enc _ => bitsDivision_lifted os started H enc)
#print axioms bitsDivision_holds
end Go.Proofs.Ytdnbpfhkbaojnaa
