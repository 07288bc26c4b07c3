/- HeapOrder: for every input the statement's function returns true, and the input reads afterwards as it read before. No condition. -/
import Derived.Test.YteekppohhjlmmaaHpHd
import Derived.Test.YteekppohhjlmmaaHpSam
import Derived.Test.YteekppohhjlmmaaHpMis
import Derived.Test.YteekppohhjlmmaaHpFr
import Derived.ProofKit
import Derived.Lib.SmallJoins
namespace Go.Proofs.Yteekppohhjlmmaa
open Go.ChangeShapes Go.WideShapes Go.ChangeAt Go.RowKit Go.Joins

set_option maxRecDepth 100000 in
set_option maxHeartbeats 4800000 in
theorem HeapOrder_any (l : List Ob) (one two : Int) (i k : Nat) (v u : Int) (w : World) (A : Option Addr) (c : Nat) (hs : ObSl w A c l) (ho : oks l) (hv : U64 v) (hu : U64 u) :
    Calls Try.prog 8 #[.slice A l.length c, .int .i64 one, .int .i64 two, .int .u64 (i : Nat), .int .u64 (k : Nat), .int .u64 v, .int .u64 u] w fun e w' => e = .returned (.bool true) ∧ Below w.heap.size w w' := by
  have hU : ∀ w1, Below w.heap.size w w1 → _ := fun w1 h1 => usable_any l one w1 A c (hs.later h1) ho
  have hT : ∀ w1, Below w.heap.size w w1 → _ := fun w1 h1 => usable_any l two w1 A c (hs.later h1) ho
  cases h1 : hasO l one with
  | false =>
    rw [h1] at hU
    clear hs ho h1 hT
    go_enter Try.func8, Try.ntmps8
    go_wp2_with fail
    refine (head_any _).mono ?_
    rintro e w1 ⟨rfl, b1⟩
    have hU := hU w1 b1
    go_wp2_with fail
    refine hU.mono ?_
    rintro e w2 ⟨rfl, b2⟩
    have b2 := b1.trans (b2.mono b1.size)
    clear hU b1
    go_wp2
    go_ret
    exact ⟨rfl, b2⟩
  | true =>
    rw [h1] at hU
    cases h2 : hasO l two with
    | false =>
      rw [h2] at hT
      clear hs ho h1 h2
      go_enter Try.func8, Try.ntmps8
      go_wp2_with fail
      refine (head_any _).mono ?_
      rintro e w1 ⟨rfl, b1⟩
      have hU := hU w1 b1
      go_wp2_with fail
      refine hU.mono ?_
      rintro e w2 ⟨rfl, b2⟩
      have b2 := b1.trans (b2.mono b1.size)
      clear hU b1
      have hT := hT w2 b2
      go_wp2_with fail
      refine hT.mono ?_
      rintro e w3 ⟨rfl, b3⟩
      have b3 := b2.trans (b3.mono b2.size)
      clear hT b2
      go_wp2
      go_ret
      exact ⟨rfl, b3⟩
    | true =>
      rw [h2] at hT
      by_cases hsame : one = two ∧ i = k
      · obtain ⟨rfl, rfl⟩ := hsame
        clear hs ho h1 h2
        go_enter Try.func8, Try.ntmps8
        go_wp2_with fail
        refine (head_any _).mono ?_
        rintro e w1 ⟨rfl, b1⟩
        have hU := hU w1 b1
        go_wp2_with fail
        refine hU.mono ?_
        rintro e w2 ⟨rfl, b2⟩
        have b2 := b1.trans (b2.mono b1.size)
        clear hU b1
        have hT := hT w2 b2
        go_wp2_with fail
        refine hT.mono ?_
        rintro e w3 ⟨rfl, b3⟩
        have b3 := b2.trans (b3.mono b2.size)
        clear hT b2
        go_wp2
        go_ret
        exact ⟨rfl, b3⟩
      · have hP : ∀ w1, Below w.heap.size w w1 → _ := fun w1 h1 => Put_any l one i v w1 A c (hs.later h1) hv
        have hQ : ∀ w1, Below w.heap.size w w1 → _ := fun w1 h1 => Put_any l two k u w1 A c (hs.later h1) hu
        unfold ObAns at hP hQ
        have hl8 := obsV_len (hasO_iff.1 h1).1
        have hor : ((one == two) = false) ∨ ((one == two) = true ∧ ¬ i = k) := by
          by_cases e : one = two
          · exact Or.inr ⟨by simpa using e, fun e2 => hsame ⟨e, e2⟩⟩
          · exact Or.inl (by simpa using e)
        by_cases hi1 : Hit l one i
        · by_cases hi2 : Hit l two k
          · obtain ⟨hsw, hz⟩ := put_swap hi1 hi2 (by omega) (by omega) (fun h => hsame ⟨h.1, by omega⟩) v u
            have ok1 : oks (putR l one i v).1 := by rw [hit_put hi1]; exact hit_oks hi1 (by omega) ho v
            have ok2 : oks (putR l two k u).1 := by rw [hit_put hi2]; exact hit_oks hi2 (by omega) ho u
            have z1 : (putR l one i v).2 = (0, 0) := by rw [hit_put hi1]
            have z2 : (putR l two k u).2 = (0, 0) := by rw [hit_put hi2]
            have hX : ∃ d, putR (putR l one i v).1 two k u = (d, 0, 0) ∧ putR (putR l two k u).1 one i v = (d, 0, 0) ∧ d.length ≤ 100 ∧ ∀ t, t < d.length → (obAt d t).c.length ≤ 100 := by
              have hv1 := hit_valid hi1 (by omega) v
              have hh := hit_after (v := v) hi1 (by omega) hi2
              have hv2 := hit_valid hh (by omega) u
              refine ⟨_, ?_, ?_, Nat.le_trans (obsV_len hv2) (by decide), fun t ht => Nat.le_trans (obV_len (obsV_mem hv2 _ (obAt_mem ht))) (by decide)⟩
              · rw [hit_put hi1]; exact hit_put hh u
              · rw [← hsw, hit_put hi1]; exact hit_put hh u
            obtain ⟨d, e1, e2, hd1, hd2⟩ := hX
            generalize putR l one i v = R1 at hP ok1 z1 e1
            generalize putR l two k u = R2 at hQ ok2 z2 e2
            obtain ⟨m1, f1, r1⟩ := R1
            obtain ⟨m2, f2, r2⟩ := R2
            simp only [Prod.mk.injEq] at hP hQ ok1 ok2 z1 z2 e1 e2
            obtain ⟨rfl, rfl⟩ := z1
            obtain ⟨rfl, rfl⟩ := z2
            clear hs ho h1 h2 hi1 hi2 hsw hz hsame
            rcases hor with hq | ⟨hq, hik⟩
            all_goals
              go_enter Try.func8, Try.ntmps8
              go_wp2_with fail
              refine (head_any _).mono ?_
              rintro e w1 ⟨rfl, b1⟩
              have hU := hU w1 b1
              go_wp2_with fail
              refine hU.mono ?_
              rintro e w2 ⟨rfl, b2⟩
              have b2 := b1.trans (b2.mono b1.size)
              clear hU b1
              have hT := hT w2 b2
              go_wp2_with fail
              refine hT.mono ?_
              rintro e w3 ⟨rfl, b3⟩
              have b3 := b2.trans (b3.mono b2.size)
              clear hT b2
              have hP := hP w3 b3
              go_wp2_with fail
              refine hP.mono ?_
              rintro e w4 ⟨A4, c4, rfl, hm4, b4⟩
              have b4 := b3.trans (b4.mono b3.size)
              have hQ := hQ w4 b4
              clear hP b3
              go_wp2_with fail
              refine hQ.mono ?_
              rintro e w5 ⟨A5, c5, rfl, hm5, b5⟩
              have hm4 := hm4.later b5
              have b5 := b4.trans (b5.mono b4.size)
              clear hQ b4
              have hC := Put_any m1 two k u w5 A4 c4 hm4 hu
              unfold ObAns at hC
              rw [e1] at hC
              simp only at hC
              clear hm4
              go_wp2_with fail
              refine hC.mono ?_
              rintro e w6 ⟨A6, c6, rfl, hm6, b6⟩
              have hm5 := hm5.later b6
              have b6 := b5.trans (b6.mono b5.size)
              have hC := Put_any m2 one i v w6 A5 c5 hm5 hv
              unfold ObAns at hC
              rw [e2] at hC
              simp only at hC
              clear hm5 b5
              go_wp2_with fail
              refine hC.mono ?_
              rintro e w7 ⟨A7, c7, rfl, hm7, b7⟩
              have hm6 := hm6.later b7
              have b7 := b6.trans (b7.mono b6.size)
              have hS := Same_eq d w7 A6 A7 c6 c7 hm6 hm7 hd1 hd2
              clear hC b6 hm6 hm7 e1 e2 ok1 ok2
              go_wp2_with fail
              refine hS.mono ?_
              rintro e w8 ⟨rfl, b8⟩
              have b8 := b7.trans (b8.mono b7.size)
              clear hS b7
              go_wp2
              go_ret
              exact ⟨rfl, b8⟩
          · obtain ⟨g, hR2, hg⟩ := put_miss h2 hi2 u
            have hR1 := hit_put hi1 v
            have ln1 : (l.set one.toNat (putOb (obAt l one.toNat) ((i : Nat) : Int).toNat v)).length = l.length := List.length_set
            rw [hR1] at hP
            rw [hR2] at hQ
            generalize l.set one.toNat _ = m1 at hP ln1
            simp only at hP hQ
            have hgz : (g != 0) = true := by simpa using hg
            clear hs ho h1 h2 hi1 hi2 hsame hR1 hR2 hg
            rcases hor with hq | ⟨hq, hik⟩
            all_goals
              go_enter Try.func8, Try.ntmps8
              go_wp2_with fail
              refine (head_any _).mono ?_
              rintro e w1 ⟨rfl, b1⟩
              have hU := hU w1 b1
              go_wp2_with fail
              refine hU.mono ?_
              rintro e w2 ⟨rfl, b2⟩
              have b2 := b1.trans (b2.mono b1.size)
              clear hU b1
              have hT := hT w2 b2
              go_wp2_with fail
              refine hT.mono ?_
              rintro e w3 ⟨rfl, b3⟩
              have b3 := b2.trans (b3.mono b2.size)
              clear hT b2
              have hP := hP w3 b3
              go_wp2_with fail
              refine hP.mono ?_
              rintro e w4 ⟨A4, c4, rfl, hm4, b4⟩
              have b4 := b3.trans (b4.mono b3.size)
              have hQ := hQ w4 b4
              clear hP b3
              go_wp2_with fail
              refine hQ.mono ?_
              rintro e w5 ⟨A5, c5, rfl, hm5, b5⟩
              have hm4 := hm4.later b5
              have b5 := b4.trans (b5.mono b4.size)
              clear hQ b4
              clear hm4 hm5
              go_wp2
              go_ret
              exact ⟨rfl, b5⟩
        · obtain ⟨f, hR1, hf⟩ := put_miss h1 hi1 v
          have hfz : (f != 0) = true := by simpa using hf
          by_cases hi2 : Hit l two k
          · have hR2 := hit_put hi2 u
            have ln2 : (l.set two.toNat (putOb (obAt l two.toNat) ((k : Nat) : Int).toNat u)).length = l.length := List.length_set
            rw [hR1] at hP
            rw [hR2] at hQ
            generalize l.set two.toNat _ = m2 at hQ ln2
            simp only at hP hQ
            clear hs ho h1 h2 hi1 hi2 hsame hR1 hR2 hf
            rcases hor with hq | ⟨hq, hik⟩
            all_goals
              go_enter Try.func8, Try.ntmps8
              go_wp2_with fail
              refine (head_any _).mono ?_
              rintro e w1 ⟨rfl, b1⟩
              have hU := hU w1 b1
              go_wp2_with fail
              refine hU.mono ?_
              rintro e w2 ⟨rfl, b2⟩
              have b2 := b1.trans (b2.mono b1.size)
              clear hU b1
              have hT := hT w2 b2
              go_wp2_with fail
              refine hT.mono ?_
              rintro e w3 ⟨rfl, b3⟩
              have b3 := b2.trans (b3.mono b2.size)
              clear hT b2
              have hP := hP w3 b3
              go_wp2_with fail
              refine hP.mono ?_
              rintro e w4 ⟨A4, c4, rfl, hm4, b4⟩
              have b4 := b3.trans (b4.mono b3.size)
              have hQ := hQ w4 b4
              clear hP b3
              go_wp2_with fail
              refine hQ.mono ?_
              rintro e w5 ⟨A5, c5, rfl, hm5, b5⟩
              have hm4 := hm4.later b5
              have b5 := b4.trans (b5.mono b4.size)
              clear hQ b4
              clear hm4 hm5
              go_wp2
              go_ret
              exact ⟨rfl, b5⟩
          · obtain ⟨g, hR2, hg⟩ := put_miss h2 hi2 u
            rw [hR1] at hP
            rw [hR2] at hQ
            simp only at hP hQ
            have hgz : (g != 0) = true := by simpa using hg
            clear hs ho h1 h2 hi1 hi2 hsame hR1 hR2 hf hg
            rcases hor with hq | ⟨hq, hik⟩
            all_goals
              go_enter Try.func8, Try.ntmps8
              go_wp2_with fail
              refine (head_any _).mono ?_
              rintro e w1 ⟨rfl, b1⟩
              have hU := hU w1 b1
              go_wp2_with fail
              refine hU.mono ?_
              rintro e w2 ⟨rfl, b2⟩
              have b2 := b1.trans (b2.mono b1.size)
              clear hU b1
              have hT := hT w2 b2
              go_wp2_with fail
              refine hT.mono ?_
              rintro e w3 ⟨rfl, b3⟩
              have b3 := b2.trans (b3.mono b2.size)
              clear hT b2
              have hP := hP w3 b3
              go_wp2_with fail
              refine hP.mono ?_
              rintro e w4 ⟨A4, c4, rfl, hm4, b4⟩
              have b4 := b3.trans (b4.mono b3.size)
              have hQ := hQ w4 b4
              clear hP b3
              go_wp2_with fail
              refine hQ.mono ?_
              rintro e w5 ⟨A5, c5, rfl, hm5, b5⟩
              have hm4 := hm4.later b5
              have b5 := b4.trans (b5.mono b4.size)
              clear hQ b4
              clear hm4 hm5
              go_wp2
              go_ret
              exact ⟨rfl, b5⟩

set_option maxRecDepth 100000 in
theorem heapOrder_lifted (os : Os) (started : os.Started) (H : Type) (enc : TypeId × Value → H) :
    ReturnsInHanded {} Try.checked os 8 .any (Rows.heapOrderSpec.pre6 enc Try.prog Try.f8 Rows.heapOrderRow.domain false) (Rows.heapOrderSpec.post enc Try.prog Try.f8 false true false false) := by
  refine returnsInHanded_of_change (C := Try.checked) Try.own started (by kernel_rfl) Try.func8
    (ChangeSpec.witness6 (enc := enc) (C := Try.checked) false ⟨#[], #[.slice none 0 0, .int .i64 0, .int .i64 0, .int .u64 0, .int .u64 0, .int .u64 0, .int .u64 0], []⟩ 8 (by kernel_rfl) (by kernel_rfl) (by kernel_rfl) (by kernel_rfl)) ?_
  intro W base args ds gs before hval0 hW hcnd _
  have hval : ∀ (j : Nat) t v, Try.f8.params[j]? = some t → args[j]? = some v → Value.okWide Try.prog W .any base t v := hval0
  have hW' := hW
  obtain ⟨p, q, hA0, hV, rfl, hfz, hnd⟩ := hW
  have hA : DataW.TrodAll enc Try.prog W 0 (fun _ => true) true Try.f8.params.toList args.toList ds p := hA0
  rw [Try.params8] at hA hval
  obtain ⟨v0, vs0, d0, ds0, p0, q0, hargs, rfl, rfl, h0, r0⟩ := trodAll_cons hA
  obtain ⟨v1, vs1, d1, ds1, p1, q1, rfl, rfl, rfl, h1, r1⟩ := trodAll_cons r0
  obtain ⟨v2, vs2, d2, ds2, p2, q2, rfl, rfl, rfl, h2, r2⟩ := trodAll_cons r1
  obtain ⟨v3, vs3, d3, ds3, p3, q3, rfl, rfl, rfl, h3, r3⟩ := trodAll_cons r2
  obtain ⟨v4, vs4, d4, ds4, p4, q4, rfl, rfl, rfl, h4, r4⟩ := trodAll_cons r3
  obtain ⟨v5, vs5, d5, ds5, p5, q5, rfl, rfl, rfl, h5, r5⟩ := trodAll_cons r4
  obtain ⟨v6, vs6, d6, ds6, p6, q6, rfl, rfl, rfl, h6, r6⟩ := trodAll_cons r5
  obtain ⟨rfl, rfl, rfl⟩ := trodAll_nil r6
  obtain rfl : args = #[v0, v1, v2, v3, v4, v5, v6] := by cases args; simp_all
  obtain ⟨rfl, rfl⟩ := trodVars_none hV
  simp only [List.append_nil] at hW'
  have hlt : ∀ x ∈ p0 ++ (p1 ++ (p2 ++ (p3 ++ (p4 ++ (p5 ++ (p6)))))), x.block < W.heap.size := fun x hx => by simpa using hW'.lt x hx
  have h0k := h0
  obtain ⟨l0, A0, c0, rfl, hs0, ho0⟩ := obs_open (hval 0 22 v0 rfl rfl) h0
  have h1k := h1
  obtain ⟨x1, rfl, rfl, hp1, wx1⟩ := open_int (show Try.prog.underlying 3 = some (.int .i64) by kernel_rfl) (hval 1 3 v1 rfl rfl) h1
  have h2k := h2
  obtain ⟨x2, rfl, rfl, hp2, wx2⟩ := open_int (show Try.prog.underlying 3 = some (.int .i64) by kernel_rfl) (hval 2 3 v2 rfl rfl) h2
  have h3k := h3
  obtain ⟨x3, rfl, rfl, hp3, wx3⟩ := open_int (show Try.prog.underlying 24 = some (.int .u64) by kernel_rfl) (hval 3 24 v3 rfl rfl) h3
  obtain ⟨n3, rfl, hu3⟩ := u64_nat wx3
  have h4k := h4
  obtain ⟨x4, rfl, rfl, hp4, wx4⟩ := open_int (show Try.prog.underlying 24 = some (.int .u64) by kernel_rfl) (hval 4 24 v4 rfl rfl) h4
  obtain ⟨n4, rfl, hu4⟩ := u64_nat wx4
  have h5k := h5
  obtain ⟨x5, rfl, rfl, hp5, wx5⟩ := open_int (show Try.prog.underlying 24 = some (.int .u64) by kernel_rfl) (hval 5 24 v5 rfl rfl) h5
  have hu5 := wf_u64 wx5
  have h6k := h6
  obtain ⟨x6, rfl, rfl, hp6, wx6⟩ := open_int (show Try.prog.underlying 24 = some (.int .u64) by kernel_rfl) (hval 6 24 v6 rfl rfl) h6
  have hu6 := wf_u64 wx6
  clear hA0 hval0
  refine (HeapOrder_any l0 x1 x2 n3 n4 x5 x6 W A0 c0 hs0 ho0 hu5 hu6).mono fun e W' ⟨he, hB⟩ => ?_
  subst he
  refine ⟨_, rfl, _, _, _, [], p0 ++ (p1 ++ (p2 ++ (p3 ++ (p4 ++ (p5 ++ (p6 ++ [])))))), [], hW', trodAll_mk1 (shut_bool Try.underlying4 _), ?_, rfl, hB.frame _, fun h => by cases h⟩
  exact trodAll_cons_mk (Below.trod Try.laidOut (by kernel_rfl) (of_decide_eq_true (by kernel_rfl)) h0k hB (fun x hx => hlt x (by simp [hx]))) (trodAll_cons_mk (Below.trod Try.laidOut (by kernel_rfl) (of_decide_eq_true (by kernel_rfl)) h1k hB (fun x hx => hlt x (by simp [hx]))) (trodAll_cons_mk (Below.trod Try.laidOut (by kernel_rfl) (of_decide_eq_true (by kernel_rfl)) h2k hB (fun x hx => hlt x (by simp [hx]))) (trodAll_cons_mk (Below.trod Try.laidOut (by kernel_rfl) (of_decide_eq_true (by kernel_rfl)) h3k hB (fun x hx => hlt x (by simp [hx]))) (trodAll_cons_mk (Below.trod Try.laidOut (by kernel_rfl) (of_decide_eq_true (by kernel_rfl)) h4k hB (fun x hx => hlt x (by simp [hx]))) (trodAll_cons_mk (Below.trod Try.laidOut (by kernel_rfl) (of_decide_eq_true (by kernel_rfl)) h5k hB (fun x hx => hlt x (by simp [hx]))) (trodAll_cons_mk (Below.trod Try.laidOut (by kernel_rfl) (of_decide_eq_true (by kernel_rfl)) h6k hB (fun x hx => hlt x (by simp [hx]))) (trodAll_mk0)))))))

theorem heapOrder_holds : Rows.HeapOrderSaid :=
  OpenClaim.holds_of_wide 8 Try.f8 rfl rfl rfl rfl rfl rfl rfl ⟨rfl, rfl, rfl, rfl, rfl⟩ rfl rfl rfl rfl rfl (by kernel_rfl) Try.func8 (by kernel_rfl)
    (of_decide_eq_true (by kernel_rfl)) (by unfold Func.isWrapper; first | (rw [if_neg (of_decide_eq_false (by kernel_rfl))]; exact ⟨rfl, rfl⟩) | (rw [if_pos (by decide +kernel)]; kernel_rfl) | (rw [if_neg (by decide +kernel)]; exact ⟨rfl, rfl⟩))
    (fun os started H enc _ => heapOrder_lifted os started H enc)
#print axioms heapOrder_holds
end Go.Proofs.Yteekppohhjlmmaa
