/- BitsParts: for every input the statement's function returns true, and the input reads afterwards as it read before. No condition. -/
import Derived.Test.YtdnbpfhkbaojnaaParts
import Derived.Test.YtdnbpfhkbaojnaaPartsM
import Derived.Test.YtdnbpfhkbaojnaaFrame
import Derived.ProofKit
import Derived.Lib.SmallJoins
namespace Go.Proofs.Ytdnbpfhkbaojnaa
open Go.ChangeShapes Go.WideShapes Go.ChangeAt Go.RowKit Go.Joins

theorem joinC_cut (n a k : Int) (k1 : 1 ≤ k) (k2 : k < n) (h : n ≤ 64) (a0 : 0 ≤ a) (a1 : a < 2 ^ n.toNat) : JoinC (n - k) (low (n - k) (a / 2 ^ k.toNat)) k (low k (a / 2 ^ (0 : Int).toNat)) n a 0 := fun w => by
  have h := join_ok (n - k) (low (n - k) (a / 2 ^ k.toNat)) k (low k (a / 2 ^ (0 : Int).toNat)) w (low_ok _ _ (by omega) (by omega)) (low_ok _ _ (by omega) (by omega)) (by omega)
  rwa [cut_join n a k k1 k2 (by omega) a0 a1, show n - k + k = n by omega] at h
theorem partC_z (n a k i : Int) (n1 : 1 ≤ n) (nk : n ≤ k) (k64 : k ≤ 64) (i0 : 0 ≤ i) (ik : i < k) (a0 : 0 ≤ a) (a1 : a < 2 ^ n.toNat) : PartC k (low k a) i 1 (if i < n then bitV a i else 0) := fun w => by
  have h := part_ok k (low k a) i 1 w (low_ok _ _ (by omega) k64) (low_nonneg _ _) i0 (by decide) (by omega)
  rwa [zext_bit n a i k (by omega) nk a0 a1] at h
theorem partC_s (n a k i : Int) (n1 : 1 ≤ n) (n2 : n ≤ 64) (nk : n ≤ k) (k64 : k ≤ 64) (i0 : 0 ≤ i) (ik : i < k) (a0 : 0 ≤ a) (a1 : a < 2 ^ n.toNat) : PartC k (low k (sgn n a)) i 1 (if i < n then bitV a i else bitV a (n - 1)) := fun w => by
  have h := part_ok k (low k (sgn n a)) i 1 w (low_ok _ _ (by omega) k64) (low_nonneg _ _) i0 (by decide) (by omega)
  rwa [sext_bit n a i k n1 n2 nk i0 ik a0 a1] at h
theorem partC_j (n a m b : Int) (n1 : 1 ≤ n) (m1 : 1 ≤ m) (hj : n + m ≤ 64) (a0 : 0 ≤ a) (a1 : a < 2 ^ n.toNat) (b0 : 0 ≤ b) (b1 : b < 2 ^ m.toNat) : PartC (n + m) (joinV n a m b) 0 m b ∧ PartC (n + m) (joinV n a m b) m n a := by
  obtain ⟨je, jl⟩ := joinV_eq n a m b (by omega) (by omega) hj a0 a1 b0 b1
  have j0 : 0 ≤ a * 2 ^ m.toNat := Int.mul_nonneg a0 (Int.le_of_lt (p2 m.toNat))
  have jok : vB (n + m) (joinV n a m b) = true := (vB_iff _ _).2 ⟨by omega, hj, by rw [je]; exact jl⟩
  have jn : 0 ≤ joinV n a m b := by rw [je]; omega
  clear jl j0
  constructor
  · intro w
    have h := part_ok (n + m) (joinV n a m b) 0 m w jok jn (by decide) m1 (by omega)
    rwa [show low m (joinV n a m b / 2 ^ (0 : Int).toNat) = b by rw [je]; exact jpart_low m a b b0 b1] at h
  · intro w
    have h := part_ok (n + m) (joinV n a m b) m n w jok jn (by omega) n1 (by omega)
    rwa [show low n (joinV n a m b / 2 ^ m.toNat) = a by rw [je]; exact jpart_high n m a b a0 a1 b0 b1] at h
set_option maxHeartbeats 1000000 in
theorem parts_any (n a m b c d : Int) (w : World) (ha : 0 ≤ a ∧ a < 18446744073709551616) (hb : 0 ≤ b ∧ b < 18446744073709551616) (hc : 0 ≤ c ∧ c < 256) (hd : 0 ≤ d ∧ d < 256) :
    Calls Try.prog 9 #[.agg #[.int .i64 n, .int .u64 a], .agg #[.int .i64 m, .int .u64 b], .int .u8 c, .int .u8 d] w fun e w' => e = .returned (.bool true) ∧ Below w.heap.size w w' := by
  cases va : vB n a
  · exact parts_no1 n a m b c d w ha.1 hb.1 va
  cases vb : vB m b
  · exact parts_no2 n a m b c d w ha.1 hb.1 va vb
  obtain ⟨n1, n2, a1⟩ := (vB_iff _ _).1 va
  obtain ⟨m1, m2, b1⟩ := (vB_iff _ _).1 vb
  have hcw : wrap64 c = c := IntWalk.wrap64_in c ⟨by omega, by omega⟩
  have hdw : wrap64 d = d := IntWalk.wrap64_in d ⟨by omega, by omega⟩
  obtain ⟨r, hdt⟩ : ∃ r, d.tmod (64 - n + 1) = r := ⟨_, rfl⟩
  have hr : r = d % (64 - n + 1) := by rw [← hdt]; exact Int.tmod_eq_emod_of_nonneg hd.1
  have hr0 : 0 ≤ r := by rw [hr]; exact Int.emod_nonneg _ (by omega)
  have hr1 : r < 64 - n + 1 := by rw [hr]; exact Int.emod_lt_of_pos _ (by omega)
  clear hr
  have hCZ : ZextC n a (n + r) (low (n + r) a) := fun w => zext_ok n a (n + r) w va ha.1 (by omega) (by omega)
  have hCS : SextC n a (n + r) (low (n + r) (sgn n a)) := fun w => sext_ok n a (n + r) w va (by omega) (by omega)
  have hHB : ∀ i : Int, 0 ≤ i → i < n + r → RowKit.Hid (PartC (n + r) (low (n + r) a) i 1 (if i < n then bitV a i else 0)) ∧ RowKit.Hid (PartC (n + r) (low (n + r) (sgn n a)) i 1 (if i < n then bitV a i else bitV a (n - 1))) := fun i i0 i1 =>
    ⟨Lib.hid (partC_z n a (n + r) i n1 (by omega) (by omega) i0 i1 ha.1 a1), Lib.hid (partC_s n a (n + r) i n1 n2 (by omega) (by omega) i0 i1 ha.1 a1)⟩
  by_cases hj : n + m ≤ 64
  · have hCJ : JoinC n a m b (n + m) (joinV n a m b) 0 := fun w => join_ok n a m b w va vb hj
    obtain ⟨hCX, hCY⟩ := partC_j n a m b n1 m1 hj ha.1 a1 hb.1 b1
    by_cases hk : 1 < n
    · obtain ⟨t, hkt⟩ : ∃ t, c.tmod (n - 1) = t := ⟨_, rfl⟩
      have ht : t = c % (n - 1) := by rw [← hkt]; exact Int.tmod_eq_emod_of_nonneg hc.1
      have ht0 : 0 ≤ t := by rw [ht]; exact Int.emod_nonneg _ (by omega)
      have ht1 : t < n - 1 := by rw [ht]; exact Int.emod_lt_of_pos _ (by omega)
      clear ht
      have hCL : PartC n a 0 (1 + t) (low (1 + t) (a / 2 ^ (0 : Int).toNat)) := fun w => part_ok n a 0 (1 + t) w va ha.1 (by decide) (by omega) (by omega)
      have hCH : PartC n a (1 + t) (n - (1 + t)) (low (n - (1 + t)) (a / 2 ^ (1 + t).toNat)) := fun w => part_ok n a (1 + t) (n - (1 + t)) w va ha.1 (by omega) (by omega) (by omega)
      have hCA : JoinC (n - (1 + t)) (low (n - (1 + t)) (a / 2 ^ (1 + t).toNat)) (1 + t) (low (1 + t) (a / 2 ^ (0 : Int).toNat)) n a 0 := joinC_cut n a (1 + t) (by omega) (by omega) n2 ha.1 a1
      exact parts_jk n a m b c d r (low (n + r) a) (low (n + r) (sgn n a)) (joinV n a m b) t (low (1 + t) (a / 2 ^ (0 : Int).toNat)) (low (n - (1 + t)) (a / 2 ^ (1 + t).toNat)) w ha.1 hb.1 va vb n2 n1 m1 m2 hj (Lib.hid hCJ) (Lib.hid hCX) (Lib.hid hCY) hk hcw hkt ht0 ht1 (Lib.hid hCL) (Lib.hid hCH) (Lib.hid hCA) hdw hdt hr0 hr1 (Lib.hid hCZ) (Lib.hid hCS) (Lib.hid hHB)
    · exact parts_jo n a m b c d r (low (n + r) a) (low (n + r) (sgn n a)) (joinV n a m b) w ha.1 hb.1 va vb n2 n1 m1 m2 hj (Lib.hid hCJ) (Lib.hid hCX) (Lib.hid hCY) hk hdw hdt hr0 hr1 (Lib.hid hCZ) (Lib.hid hCS) (Lib.hid hHB)
  · have hCJ : JoinC n a m b 0 0 13 := fun w => join_width n a m b w va vb (by omega)
    have hj' : decide (n + m ≤ 64) = false := by simpa using hj
    by_cases hk : 1 < n
    · obtain ⟨t, hkt⟩ : ∃ t, c.tmod (n - 1) = t := ⟨_, rfl⟩
      have ht : t = c % (n - 1) := by rw [← hkt]; exact Int.tmod_eq_emod_of_nonneg hc.1
      have ht0 : 0 ≤ t := by rw [ht]; exact Int.emod_nonneg _ (by omega)
      have ht1 : t < n - 1 := by rw [ht]; exact Int.emod_lt_of_pos _ (by omega)
      clear ht
      have hCL : PartC n a 0 (1 + t) (low (1 + t) (a / 2 ^ (0 : Int).toNat)) := fun w => part_ok n a 0 (1 + t) w va ha.1 (by decide) (by omega) (by omega)
      have hCH : PartC n a (1 + t) (n - (1 + t)) (low (n - (1 + t)) (a / 2 ^ (1 + t).toNat)) := fun w => part_ok n a (1 + t) (n - (1 + t)) w va ha.1 (by omega) (by omega) (by omega)
      have hCA : JoinC (n - (1 + t)) (low (n - (1 + t)) (a / 2 ^ (1 + t).toNat)) (1 + t) (low (1 + t) (a / 2 ^ (0 : Int).toNat)) n a 0 := joinC_cut n a (1 + t) (by omega) (by omega) n2 ha.1 a1
      exact parts_wk n a m b c d r (low (n + r) a) (low (n + r) (sgn n a)) t (low (1 + t) (a / 2 ^ (0 : Int).toNat)) (low (n - (1 + t)) (a / 2 ^ (1 + t).toNat)) w ha.1 hb.1 va vb n2 n1 m1 m2 hj' (Lib.hid hCJ) hk hcw hkt ht0 ht1 (Lib.hid hCL) (Lib.hid hCH) (Lib.hid hCA) hdw hdt hr0 hr1 (Lib.hid hCZ) (Lib.hid hCS) (Lib.hid hHB)
    · exact parts_wo n a m b c d r (low (n + r) a) (low (n + r) (sgn n a)) w ha.1 hb.1 va vb n2 n1 m1 m2 hj' (Lib.hid hCJ) hk hdw hdt hr0 hr1 (Lib.hid hCZ) (Lib.hid hCS) (Lib.hid hHB)


set_option maxRecDepth 100000 in
theorem bitsParts_lifted (os : Os) (started : os.Started) (H : Type) (enc : TypeId × Value → H) :
    ReturnsInHanded {} Try.checked os 9 .any (Rows.bitsPartsSpec.pre6 enc Try.prog Try.f9 Rows.bitsPartsRow.domain false) (Rows.bitsPartsSpec.post enc Try.prog Try.f9 false true false false) := by
  refine returnsInHanded_of_change (C := Try.checked) Try.own started (by kernel_rfl) Try.func9
    (ChangeSpec.witness6 (enc := enc) (C := Try.checked) false ⟨#[], #[.agg #[.int .i64 0, .int .u64 0], .agg #[.int .i64 0, .int .u64 0], .int .u8 0, .int .u8 0], []⟩ 8 (by kernel_rfl) (by kernel_rfl) (by kernel_rfl) (by kernel_rfl)) ?_
  intro W base args ds gs before hval0 hW hcnd _
  have hval : ∀ (j : Nat) t v, Try.f9.params[j]? = some t → args[j]? = some v → Value.okWide Try.prog W .any base t v := hval0
  have hW' := hW
  obtain ⟨p, q, hA0, hV, rfl, hfz, hnd⟩ := hW
  have hA : DataW.TrodAll enc Try.prog W 0 (fun _ => true) true Try.f9.params.toList args.toList ds p := hA0
  rw [Try.params9] at hA hval
  obtain ⟨v0, vs0, d0, ds0, p0, q0, hargs, rfl, rfl, h0, r0⟩ := trodAll_cons hA
  obtain ⟨v1, vs1, d1, ds1, p1, q1, rfl, rfl, rfl, h1, r1⟩ := trodAll_cons r0
  obtain ⟨v2, vs2, d2, ds2, p2, q2, rfl, rfl, rfl, h2, r2⟩ := trodAll_cons r1
  obtain ⟨v3, vs3, d3, ds3, p3, q3, rfl, rfl, rfl, h3, r3⟩ := trodAll_cons r2
  obtain ⟨rfl, rfl, rfl⟩ := trodAll_nil r3
  obtain rfl : args = #[v0, v1, v2, v3] := by cases args; simp_all
  obtain ⟨rfl, rfl⟩ := trodVars_none hV
  simp only [List.append_nil] at hW'
  have hlt : ∀ x ∈ p0 ++ (p1 ++ (p2 ++ (p3))), x.block < W.heap.size := fun x hx => by simpa using hW'.lt x hx
  have h0k := h0
  obtain ⟨c0, e0, y0, z0, m0, rfl, rfl, hp0, hy0, hz0⟩ := open_agg2 Try.underlying24 (by kernel_rfl) Try.cellsBits (hval 0 24 v0 rfl rfl) h0
  obtain ⟨x0, ey0, _, wx0⟩ := DataW.trod_int Try.underlying3 hy0
  obtain ⟨u0, ez0, _, wu0⟩ := DataW.trod_int Try.underlying22 hz0
  simp at ey0 ez0
  subst ey0 ez0
  have h1k := h1
  obtain ⟨c1, e1, y1, z1, m1, rfl, rfl, hp1, hy1, hz1⟩ := open_agg2 Try.underlying24 (by kernel_rfl) Try.cellsBits (hval 1 24 v1 rfl rfl) h1
  obtain ⟨x1, ey1, _, wx1⟩ := DataW.trod_int Try.underlying3 hy1
  obtain ⟨u1, ez1, _, wu1⟩ := DataW.trod_int Try.underlying22 hz1
  simp at ey1 ez1
  subst ey1 ez1
  have h2k := h2
  obtain ⟨x2, rfl, rfl, hp2, wx2⟩ := open_int Try.underlying5 (hval 2 5 v2 rfl rfl) h2
  have h3k := h3
  obtain ⟨x3, rfl, rfl, hp3, wx3⟩ := open_int Try.underlying5 (hval 3 5 v3 rfl rfl) h3
  clear hA0 hval0
  refine (parts_any x0 u0 x1 u1 x2 x3 W (wf_u64 wu0) (wf_u64 wu1) (wf_u8 wx2) (wf_u8 wx3)).mono fun e W' ⟨he, hB⟩ => ?_
  subst he
  refine ⟨_, rfl, _, _, _, [], p0 ++ (p1 ++ (p2 ++ (p3 ++ []))), [], hW', trodAll_mk1 (shut_bool Try.underlying4 _), ?_, rfl, hB.frame _, fun h => by cases h⟩
  exact trodAll_cons_mk (Below.trod Try.laidOut (by kernel_rfl) (of_decide_eq_true (by kernel_rfl)) h0k hB (fun x hx => hlt x (by simp [hx]))) (trodAll_cons_mk (Below.trod Try.laidOut (by kernel_rfl) (of_decide_eq_true (by kernel_rfl)) h1k hB (fun x hx => hlt x (by simp [hx]))) (trodAll_cons_mk (Below.trod Try.laidOut (by kernel_rfl) (of_decide_eq_true (by kernel_rfl)) h2k hB (fun x hx => hlt x (by simp [hx]))) (trodAll_cons_mk (Below.trod Try.laidOut (by kernel_rfl) (of_decide_eq_true (by kernel_rfl)) h3k hB (fun x hx => hlt x (by simp [hx]))) (trodAll_mk0))))

theorem bitsParts_holds : Rows.BitsPartsSaid :=
  OpenClaim.holds_of_wide 9 Try.f9 rfl rfl rfl rfl rfl rfl rfl ⟨rfl, rfl, rfl, rfl, rfl⟩ rfl rfl rfl rfl rfl (by kernel_rfl) Try.func9 (by kernel_rfl)
    (of_decide_eq_true (by kernel_rfl)) (by unfold Func.isWrapper; rw [if_neg (of_decide_eq_false (by kernel_rfl))]; exact ⟨rfl, rfl⟩)
    (fun os started H enc _ => bitsParts_lifted os started H enc)
#print axioms bitsParts_holds
end Go.Proofs.Ytdnbpfhkbaojnaa
