/- BitsLogic: for every input the statement's function returns true, and the input reads afterwards as it read before. No condition. -/
import Derived.Test.YtdnbpfhkbaojnaaLogic
import Derived.Test.YtdnbpfhkbaojnaaLogicM
import Derived.Test.YtdnbpfhkbaojnaaShiftM
import Derived.Test.YtdnbpfhkbaojnaaFrame
import Derived.ProofKit
import Derived.Lib.SmallJoins
namespace Go.Proofs.Ytdnbpfhkbaojnaa
open Go.ChangeShapes Go.WideShapes Go.ChangeAt Go.RowKit Go.Joins

theorem low_nat (n : Int) (X : Nat) : low n (X : Int) = ((X % 2 ^ n.toNat : Nat) : Int) := by unfold low; rw [Int.natCast_emod]; simp
theorem not_nat (n : Int) (A : Nat) (hA : A < 18446744073709551616) : low n (bits .xor .u64 IntKind.u64.max (A : Int)) = (nx n.toNat A : Int) := by
  have e : (IntKind.u64.max : Int) = ((18446744073709551615 : Nat) : Int) := by decide
  rw [e, u64_xor_nat _ _ (by decide) hA, low_nat]; rfl
theorem or_nat (n : Int) (A B : Nat) (hA : A < 18446744073709551616) (hB : B < 18446744073709551616) : low n (bits .or .u64 (A : Int) (B : Int)) = (((A ||| B) % 2 ^ n.toNat : Nat) : Int) := by rw [u64_or_nat _ _ hA hB, low_nat]
theorem and_nat (n : Int) (A B : Nat) (hA : A < 18446744073709551616) (hB : B < 18446744073709551616) : low n (bits .and .u64 (A : Int) (B : Int)) = (((A &&& B) % 2 ^ n.toNat : Nat) : Int) := by rw [u64_and_nat _ _ hA hB, low_nat]
theorem xor_nat (n : Int) (A B : Nat) (hA : A < 18446744073709551616) (hB : B < 18446744073709551616) : low n (bits .xor .u64 (A : Int) (B : Int)) = (((A ^^^ B) % 2 ^ n.toNat : Nat) : Int) := by rw [u64_xor_nat _ _ hA hB, low_nat]
theorem pow_cast (n : Int) : ((2 ^ n.toNat : Nat) : Int) = 2 ^ n.toNat := by simp

theorem logic_any (n a m b : Int) (w : World) (ha : 0 ≤ a ∧ a < 18446744073709551616) (hb : 0 ≤ b ∧ b < 18446744073709551616) :
    Calls Try.prog 5 #[.agg #[.int .i64 n, .int .u64 a], .agg #[.int .i64 m, .int .u64 b]] w fun e w' => e = .returned (.bool true) ∧ Below w.heap.size w w' := by
  cases h : sameV n a m b
  · exact logic_no n a m b w ha.1 hb.1 h
  · obtain ⟨va, vb, rfl⟩ := sameV_true h
    obtain ⟨h1, h2, ha3⟩ := (vB_iff _ _).1 va
    have hb3 := ((vB_iff _ _).1 vb).2.2
    obtain ⟨A, rfl⟩ := Int.eq_ofNat_of_zero_le ha.1
    obtain ⟨B, rfl⟩ := Int.eq_ofNat_of_zero_le hb.1
    have hN : n.toNat ≤ 64 := by omega
    have hp : (2 : Nat) ^ n.toNat ≤ 2 ^ 64 := Nat.pow_le_pow_right (by decide) hN
    rw [← pow_cast] at ha3 hb3
    have hA : A < 2 ^ n.toNat := by omega
    have hB : B < 2 ^ n.toNat := by omega
    have hA' : A < 18446744073709551616 := by omega
    have hB' : B < 18446744073709551616 := by omega
    have ok : ∀ X : Nat, X < 2 ^ n.toNat → vB n (X : Int) = true := fun X hX => (vB_iff _ _).2 ⟨h1, h2, by rw [← pow_cast]; omega⟩
    have md : ∀ X : Nat, X % 2 ^ n.toNat < 2 ^ n.toNat := fun X => Nat.mod_lt _ (Nat.two_pow_pos _)
    have lt : ∀ X : Nat, X < 2 ^ n.toNat → X < 18446744073709551616 := fun X hX => by omega
    have nxl : ∀ X : Nat, nx n.toNat X < 2 ^ n.toNat := fun X => md _
    have not : ∀ (X : Nat) (z : Int), X < 2 ^ n.toNat → (nx n.toNat X : Int) = z → NotC n X z := fun X z hX hz w => by
      have := not_yes n X w (ok X hX); rwa [not_nat n X (lt X hX), hz] at this
    have add : ∀ (x y z : Int), vB n x = true → vB n y = true → low n (x + y) = z → BinC 2 n x y n z := fun x y z hx hy hz => binC_of (fun w => by have := bin_2 n x y w hx hy; rwa [hz] at this)
    have sub : ∀ (x y z : Int), vB n x = true → vB n y = true → low n (x - y) = z → BinC 3 n x y n z := fun x y z hx hy hz => binC_of (fun w => by have := bin_3 n x y w hx hy; rwa [hz] at this)
    have and : ∀ (X Y : Nat) (z : Int), X < 2 ^ n.toNat → Y < 2 ^ n.toNat → (((X &&& Y) % 2 ^ n.toNat : Nat) : Int) = z → BinC 7 n X Y n z := fun X Y z hX hY hz => binC_of (fun w => by have := bin_7 n X Y w (ok X hX) (ok Y hY); rwa [and_nat n X Y (lt X hX) (lt Y hY), hz] at this)
    have or : ∀ (X Y : Nat) (z : Int), X < 2 ^ n.toNat → Y < 2 ^ n.toNat → (((X ||| Y) % 2 ^ n.toNat : Nat) : Int) = z → BinC 8 n X Y n z := fun X Y z hX hY hz => binC_of (fun w => by have := bin_8 n X Y w (ok X hX) (ok Y hY); rwa [or_nat n X Y (lt X hX) (lt Y hY), hz] at this)
    have xor : ∀ (X Y : Nat) (z : Int), X < 2 ^ n.toNat → Y < 2 ^ n.toNat → (((X ^^^ Y) % 2 ^ n.toNat : Nat) : Int) = z → BinC 9 n X Y n z := fun X Y z hX hY hz => binC_of (fun w => by have := bin_9 n X Y w (ok X hX) (ok Y hY); rwa [xor_nat n X Y (lt X hX) (lt Y hY), hz] at this)
    have one : vB n 1 = true := (vB_iff _ _).2 ⟨h1, h2, by have := pow_lt 0 n.toNat (by omega); simpa using this⟩
    have okl : ∀ x, vB n (low n x) = true := fun x => low_ok n x h1 h2
    have hand := Nat.and_lt_two_pow A hB
    have hor := Nat.or_lt_two_pow hA hB
    have hxo := Nat.xor_lt_two_pow hA hB
    have hsum := xor_add_and A B hA' hB'
    have hnb := nx_add n.toNat B hN hB
    refine logic_walk n A B (nx n.toNat A : Nat) (nx n.toNat B : Nat) (nx n.toNat ((A &&& B) % 2 ^ n.toNat) : Nat) (((A ^^^ B) % 2 ^ n.toNat : Nat) : Int) (((A ||| B) % 2 ^ n.toNat : Nat) : Int) (((A &&& B) % 2 ^ n.toNat : Nat) : Int)
      (low n ((A : Int) - B)) (low n ((nx n.toNat B : Nat) + 1)) (((A ^^^ nx n.toNat A) % 2 ^ n.toNat : Nat) : Int) w ha.1 hb.1 h
      (not A _ hA rfl) (not B _ hB rfl) (not _ _ (nxl A) (by rw [nx_nx _ _ hN hA])) (not _ _ (md _) rfl)
      (or _ _ _ (nxl A) (nxl B) (by rw [nx_and _ _ _ hN])) (xor _ _ _ hA hB rfl) (or _ _ _ hA hB rfl) (and _ _ _ hA hB rfl)
      (sub _ _ _ (ok _ (md _)) (ok _ (md _)) ?_) (sub _ _ _ va vb rfl) (add _ _ _ (ok _ (nxl B)) one rfl) (add _ _ _ va (okl _) ?_) (xor _ _ _ hA (nxl A) rfl) (or _ _ _ hA (nxl A) (by rw [nx_or _ _ hN]))
    · rw [Nat.mod_eq_of_lt hand, Nat.mod_eq_of_lt hor, show ((A ||| B : Nat) : Int) - ((A &&& B : Nat) : Int) = ((A ^^^ B : Nat) : Int) by omega, low_nat]
    · rw [low_add_r]
      have e : (A : Int) + ((nx n.toNat B : Nat) + 1) = (A - B) + 2 ^ n.toNat := by
        rw [← pow_cast]
        have := Nat.two_pow_pos n.toNat
        omega
      rw [e]; unfold low; simp

set_option maxRecDepth 100000 in
theorem bitsLogic_lifted (os : Os) (started : os.Started) (H : Type) (enc : TypeId × Value → H) :
    ReturnsInHanded {} Try.checked os 5 .any (Rows.bitsLogicSpec.pre6 enc Try.prog Try.f5 Rows.bitsLogicRow.domain false) (Rows.bitsLogicSpec.post enc Try.prog Try.f5 false true false false) := by
  refine returnsInHanded_of_change (C := Try.checked) Try.own started (by kernel_rfl) Try.func5
    (ChangeSpec.witness6 (enc := enc) (C := Try.checked) false ⟨#[], #[.agg #[.int .i64 0, .int .u64 0], .agg #[.int .i64 0, .int .u64 0]], []⟩ 8 (by kernel_rfl) (by kernel_rfl) (by kernel_rfl) (by kernel_rfl)) ?_
  intro W base args ds gs before hval0 hW hcnd _
  have hval : ∀ (j : Nat) t v, Try.f5.params[j]? = some t → args[j]? = some v → Value.okWide Try.prog W .any base t v := hval0
  have hW' := hW
  obtain ⟨p, q, hA0, hV, rfl, hfz, hnd⟩ := hW
  have hA : DataW.TrodAll enc Try.prog W 0 (fun _ => true) true Try.f5.params.toList args.toList ds p := hA0
  rw [Try.params5] at hA hval
  obtain ⟨v0, vs0, d0, ds0, p0, q0, hargs, rfl, rfl, h0, r0⟩ := trodAll_cons hA
  obtain ⟨v1, vs1, d1, ds1, p1, q1, rfl, rfl, rfl, h1, r1⟩ := trodAll_cons r0
  obtain ⟨rfl, rfl, rfl⟩ := trodAll_nil r1
  obtain rfl : args = #[v0, v1] := by cases args; simp_all
  obtain ⟨rfl, rfl⟩ := trodVars_none hV
  simp only [List.append_nil] at hW'
  have hlt : ∀ x ∈ p0 ++ (p1), x.block < W.heap.size := fun x hx => by simpa using hW'.lt x hx
  have h0k := h0
  obtain ⟨c0, e0, y0, z0, m0, rfl, rfl, hp0, hy0, hz0⟩ := open_agg2 Try.underlying24 (by kernel_rfl) Try.cellsBits (hval 0 24 v0 rfl rfl) h0
  obtain ⟨x0, ey0, _, wx0⟩ := DataW.trod_int Try.underlying3 hy0
  obtain ⟨u0, ez0, _, wu0⟩ := DataW.trod_int Try.underlying22 hz0
  simp at ey0 ez0
  subst ey0 ez0
  have h1k := h1
  obtain ⟨c1, e1, y1, z1, m1, rfl, rfl, hp1, hy1, hz1⟩ := open_agg2 Try.underlying24 (by kernel_rfl) Try.cellsBits (hval 1 24 v1 rfl rfl) h1
  obtain ⟨x1, ey1, _, wx1⟩ := DataW.trod_int Try.underlying3 hy1
  obtain ⟨u1, ez1, _, wu1⟩ := DataW.trod_int Try.underlying22 hz1
  simp at ey1 ez1
  subst ey1 ez1
  clear hA0 hval0
  refine (logic_any x0 u0 x1 u1 W (wf_u64 wu0) (wf_u64 wu1)).mono fun e W' ⟨he, hB⟩ => ?_
  subst he
  refine ⟨_, rfl, _, _, _, [], p0 ++ (p1 ++ []), [], hW', trodAll_mk1 (shut_bool Try.underlying4 _), ?_, rfl, hB.frame _, fun h => by cases h⟩
  exact trodAll_cons_mk (Below.trod Try.laidOut (by kernel_rfl) (of_decide_eq_true (by kernel_rfl)) h0k hB (fun x hx => hlt x (by simp [hx]))) (trodAll_cons_mk (Below.trod Try.laidOut (by kernel_rfl) (of_decide_eq_true (by kernel_rfl)) h1k hB (fun x hx => hlt x (by simp [hx]))) (trodAll_mk0))

theorem bitsLogic_holds : Rows.BitsLogicSaid :=
  OpenClaim.holds_of_wide 5 Try.f5 rfl rfl rfl rfl rfl rfl rfl ⟨rfl, rfl, rfl, rfl, rfl⟩ rfl rfl rfl rfl rfl (by kernel_rfl) Try.func5 (by kernel_rfl)
    (of_decide_eq_true (by kernel_rfl)) (by unfold Func.isWrapper; rw [if_neg (of_decide_eq_false (by kernel_rfl))]; exact ⟨rfl, rfl⟩)
    (fun os started H enc _ => bitsLogic_lifted os started H enc)
#print axioms bitsLogic_holds
end Go.Proofs.Ytdnbpfhkbaojnaa
