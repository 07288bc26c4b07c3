/- HeapGone: for every input the statement's function returns true, and the input reads afterwards as it read before. No condition. -/
import Derived.Test.YteekppohhjlmmaaHpHd
import Derived.Test.YteekppohhjlmmaaHpFr
import Derived.ProofKit
import Derived.Lib.SmallJoins
namespace Go.Proofs.Yteekppohhjlmmaa
open Go.ChangeShapes Go.WideShapes Go.ChangeAt Go.RowKit Go.Joins

set_option maxRecDepth 100000 in
set_option maxHeartbeats 1600000 in
theorem HeapGone_any (l : List Ob) (obj : Int) (k : Nat) (v : Int) (w : World) (A : Option Addr) (c : Nat) (hs : ObSl w A c l) (ho : oks l) (hv : U64 v) :
    Calls Try.prog 6 #[.slice A l.length c, .int .i64 obj, .int .u64 (k : Nat), .int .u64 v] w fun e w' => e = .returned (.bool true) ∧ Below w.heap.size w w' := by
  have hU : ∀ w1, Below w.heap.size w w1 → _ := fun w1 h1 => usable_any l obj w1 A c (hs.later h1) ho
  cases hh : hasO l obj with
  | false =>
    rw [hh] at hU
    clear hs ho hv hh
    go_enter Try.func6, Try.ntmps6
    go_wp2_with fail
    refine (head_any _).mono ?_
    rintro e w1 ⟨rfl, b1⟩
    have hU := hU w1 b1
    go_wp2_with fail
    refine hU.mono ?_
    rintro e w2 ⟨rfl, b2⟩
    clear hU
    go_wp2
    go_ret
    exact ⟨rfl, b1.trans (b2.mono b1.size)⟩
  | true =>
    rw [hh] at hU
    obtain ⟨t, rfl⟩ : ∃ t : Nat, obj = t := ⟨obj.toNat, by have := (hasO_iff.1 hh).2; omega⟩
    have ht : t < l.length := by have := (hasO_iff.1 hh).2; omega
    have htc : (t : Int) < l.length := by omega
    have hl8 := obsV_len (hasO_iff.1 hh).1
    obtain ⟨g, o, A', c', eA, k0, k1, _⟩ := hs.at_ ht
    subst eA
    have hF : ∀ w1, Below w.heap.size w w1 → _ := fun w1 h1 => Free_any l t w1 _ c (hs.later h1)
    have hg2 : (obAt l ((t : Nat) : Int).toNat).g = (obAt l t).g := by simp
    unfold ObAns at hF
    cases hg : (obAt l t).g with
    | true =>
      rw [hg] at k1 hg2
      rw [gone_free hh hg2] at hF
      simp only at hF
      clear hs ho hv hh hg hg2 k0
      go_enter Try.func6, Try.ntmps6
      go_wp2_with fail
      refine (head_any _).mono ?_
      rintro e w1 ⟨rfl, b1⟩
      have hU := hU w1 b1
      go_wp2_with fail
      refine hU.mono ?_
      rintro e w2 ⟨rfl, b2⟩
      have b2 := b1.trans (b2.mono b1.size)
      clear hU b1
      have hF := hF w2 b2
      go_wp2_with fail
      refine hF.mono ?_
      rintro e w3 ⟨A3, c3, rfl, _, b3⟩
      have b3 := b2.trans (b3.mono b2.size)
      have k3 := cell_later b3 k1
      clear hF k1 b2
      go_wp2
      go_ret
      exact ⟨rfl, b3⟩
    | false =>
      rw [hg] at k1 hg2
      rw [free_has hh hg2] at hF
      obtain ⟨q1, q2⟩ := free_gone (l := l) (obj := (t : Int)) hh
      have hoth := fun (o j : Int) (h0 : 0 ≤ o) (h1 : o ≠ (t : Int)) => free_other (j := j) hh h0 h1
      have hml : (l.set ((t : Nat) : Int).toNat ⟨(obAt l ((t : Nat) : Int).toNat).c, true⟩).length = l.length := List.length_set
      generalize l.set ((t : Nat) : Int).toNat ⟨(obAt l ((t : Nat) : Int).toNat).c, true⟩ = m at hF q1 q2 hoth hml
      simp only at hF
      have hG := gone_free q1 q2
      have hPt := gone_put q1 q2 k v
      have hLd : faultsB (loadR m (t : Int) k) 3 = true := by rw [gone_load q1 q2]; rfl
      have hoth := Lib.hid hoth
      clear hh hg hg2 k0 q1 q2
      go_enter Try.func6, Try.ntmps6
      go_wp2_with fail
      refine (head_any _).mono ?_
      rintro e w1 ⟨rfl, b1⟩
      have hU := hU w1 b1
      go_wp2_with fail
      refine hU.mono ?_
      rintro e w2 ⟨rfl, b2⟩
      have b2 := b1.trans (b2.mono b1.size)
      clear hU b1
      have hF := hF w2 b2
      go_wp2_with fail
      refine hF.mono ?_
      rintro e w3 ⟨A3, c3, rfl, hm, b3⟩
      have b3 := b2.trans (b3.mono b2.size)
      have k3 := cell_later b3 k1
      rw [hml]
      have hP := Put_any m t k v w3 A3 c3 hm hv
      unfold ObAns at hP
      rw [hPt, hml] at hP
      simp only at hP
      clear hF k1 b2 hPt
      go_wp2_with fail
      refine hP.mono ?_
      rintro e w4 ⟨A4, c4, rfl, _, b4⟩
      have hm := hm.later b4
      have b4 := b3.trans (b4.mono b3.size)
      have hF := Free_any m t w4 A3 c3 hm
      unfold ObAns at hF
      rw [hG, hml] at hF
      simp only at hF
      clear hP k3 b3 hG
      go_wp2_with fail
      refine hF.mono ?_
      rintro e w5 ⟨A5, c5, rfl, _, b5⟩
      have hm := hm.later b5
      have b5 := b4.trans (b5.mono b4.size)
      clear hF b4
      go_wp2_with fail
      go_loopw [92] (fun v wr => ∃ i : Nat, i ≤ l.length ∧ v = .int .i64 i ∧ Below w.heap.size w wr ∧ ObSl wr A3 c3 m) (fun v _ => l.length - iOf v)
      case atStart => exact ⟨0, Nat.zero_le _, rfl, b5, hm⟩
      case round =>
        rename_i wr
        clear b5 hm
        obtain ⟨i, hi, rfl, bW, hm⟩ := hrel
        by_cases hlt : i < l.length
        · have hlc : (i : Int) < l.length := by omega
          have hwi : IntKind.i64.wrap ((i : Int) + 1) = ((i + 1 : Nat) : Int) := by rw [IntWalk.i64_in _ (by omega)]; omega
          obtain ⟨g', o', Ai, ci, e, j0, j1, js⟩ := hs.at_ hlt
          simp at e
          obtain ⟨rfl, rfl⟩ := e
          have j0 := cell_later bW j0
          have j1 := cell_later bW j1
          have hn : (obAt l i).c.length ≤ maxLen := Nat.le_trans js.1 js.2.1
          generalize (obAt l i).c.length = n at j0 hn
          generalize (obAt l i).g = gi at j1
          clear js
          have N := Box.new wr 42 #[.slice Ai n ci, .bool gi]
          have bA : Below wr.heap.size wr (wr.alloc (.cells #[.slice Ai n ci, .bool gi] 42)) := (Below.refl _ _).alloc (Nat.le_refl _) _
          have hm2 := hm.later bA
          have bW2 := bW.trans (bA.mono bW.size)
          have m0 := N.cell 0
          go_upto_region 14 with fail
          obtain ⟨X, hX⟩ : ∃ Y, wr.alloc (.cells #[.slice Ai n ci, .bool gi] 42) = Y := ⟨_, rfl⟩
          rw [hX] at hm2 bW2 m0
          simp only [hX]
          clear hX N bA hm bW j0 j1
          go_wp2_with fail
          go_loopw [100] (fun v wq => ∃ q : Nat, q ≤ n ∧ v = .int .i64 q ∧ Below w.heap.size w wq ∧ ObSl wq A3 c3 m) (fun v _ => n - iOf v)
          case atStart => exact ⟨0, Nat.zero_le _, rfl, bW2, hm2⟩
          case round =>
            clear bW2 hm2 m0
            obtain ⟨q, hq, rfl, bW, hm⟩ := hrel
            by_cases hql : q < n
            · have hqc : (q : Int) < n := by omega
              have hwq : IntKind.i64.wrap ((q : Int) + 1) = ((q + 1 : Nat) : Int) := by unfold maxLen at hn; rw [IntWalk.i64_in _ (by omega)]; omega
              have hwu : IntKind.u64.wrap (q : Int) = q := by unfold maxLen at hn; exact IntWalk.u64_in _ (by omega)
              by_cases e : i = t
              · subst e
                go_wp2_with fail
                go_roundw
                case rel => exact ⟨q + 1, hql, rfl, bW, hm⟩
                case measure => simp only [iOf]; omega
              · have hS := same_any l m i q wr _ A3 c c3 (hs.later bW) hm (hoth.out i q (by omega) (by omega)).symm
                rw [hml] at hS
                go_wp2_with fail
                refine hS.mono ?_
                rintro e w6 ⟨rfl, b6⟩
                have hm6 := hm.later b6
                have b6 := bW.trans (b6.mono bW.size)
                clear hS hm bW
                go_wp2_with fail
                go_roundw
                case rel => exact ⟨q + 1, hql, rfl, b6, hm6⟩
                case measure => simp only [iOf]; omega
            · have hie : q = n := by omega
              subst hie
              go_wp2_with fail
              go_roundw
              case rel => exact ⟨i + 1, hlt, rfl, bW, hm⟩
              case measure => simp only [iOf]; omega
        · have hie : i = l.length := by omega
          subst hie
          have hL := faults_any m t k 3 wr A3 c3 hm
          rw [hLd, hml] at hL
          clear hs hm ho hU hF
          go_wp2_with fail
          refine hL.mono ?_
          rintro e w6 ⟨rfl, b6⟩
          clear hL
          go_wp2
          go_ret
          exact ⟨rfl, bW.trans (b6.mono bW.size)⟩

set_option maxRecDepth 100000 in
theorem heapGone_lifted (os : Os) (started : os.Started) (H : Type) (enc : TypeId × Value → H) :
    ReturnsInHanded {} Try.checked os 6 .any (Rows.heapGoneSpec.pre6 enc Try.prog Try.f6 Rows.heapGoneRow.domain false) (Rows.heapGoneSpec.post enc Try.prog Try.f6 false true false false) := by
  refine returnsInHanded_of_change (C := Try.checked) Try.own started (by kernel_rfl) Try.func6
    (ChangeSpec.witness6 (enc := enc) (C := Try.checked) false ⟨#[], #[.slice none 0 0, .int .i64 0, .int .u64 0, .int .u64 0], []⟩ 8 (by kernel_rfl) (by kernel_rfl) (by kernel_rfl) (by kernel_rfl)) ?_
  intro W base args ds gs before hval0 hW hcnd _
  have hval : ∀ (j : Nat) t v, Try.f6.params[j]? = some t → args[j]? = some v → Value.okWide Try.prog W .any base t v := hval0
  have hW' := hW
  obtain ⟨p, q, hA0, hV, rfl, hfz, hnd⟩ := hW
  have hA : DataW.TrodAll enc Try.prog W 0 (fun _ => true) true Try.f6.params.toList args.toList ds p := hA0
  rw [Try.params6] at hA hval
  obtain ⟨v0, vs0, d0, ds0, p0, q0, hargs, rfl, rfl, h0, r0⟩ := trodAll_cons hA
  obtain ⟨v1, vs1, d1, ds1, p1, q1, rfl, rfl, rfl, h1, r1⟩ := trodAll_cons r0
  obtain ⟨v2, vs2, d2, ds2, p2, q2, rfl, rfl, rfl, h2, r2⟩ := trodAll_cons r1
  obtain ⟨v3, vs3, d3, ds3, p3, q3, rfl, rfl, rfl, h3, r3⟩ := trodAll_cons r2
  obtain ⟨rfl, rfl, rfl⟩ := trodAll_nil r3
  obtain rfl : args = #[v0, v1, v2, v3] := by cases args; simp_all
  obtain ⟨rfl, rfl⟩ := trodVars_none hV
  simp only [List.append_nil] at hW'
  have hlt : ∀ x ∈ p0 ++ (p1 ++ (p2 ++ (p3))), x.block < W.heap.size := fun x hx => by simpa using hW'.lt x hx
  have h0k := h0
  obtain ⟨l0, A0, c0, rfl, hs0, ho0⟩ := obs_open (hval 0 22 v0 rfl rfl) h0
  have h1k := h1
  obtain ⟨x1, rfl, rfl, hp1, wx1⟩ := open_int (show Try.prog.underlying 3 = some (.int .i64) by kernel_rfl) (hval 1 3 v1 rfl rfl) h1
  have h2k := h2
  obtain ⟨x2, rfl, rfl, hp2, wx2⟩ := open_int (show Try.prog.underlying 24 = some (.int .u64) by kernel_rfl) (hval 2 24 v2 rfl rfl) h2
  obtain ⟨n2, rfl, hu2⟩ := u64_nat wx2
  have h3k := h3
  obtain ⟨x3, rfl, rfl, hp3, wx3⟩ := open_int (show Try.prog.underlying 24 = some (.int .u64) by kernel_rfl) (hval 3 24 v3 rfl rfl) h3
  have hu3 := wf_u64 wx3
  clear hA0 hval0
  refine (HeapGone_any l0 x1 n2 x3 W A0 c0 hs0 ho0 hu3).mono fun e W' ⟨he, hB⟩ => ?_
  subst he
  refine ⟨_, rfl, _, _, _, [], p0 ++ (p1 ++ (p2 ++ (p3 ++ []))), [], hW', trodAll_mk1 (shut_bool Try.underlying4 _), ?_, rfl, hB.frame _, fun h => by cases h⟩
  exact trodAll_cons_mk (Below.trod Try.laidOut (by kernel_rfl) (of_decide_eq_true (by kernel_rfl)) h0k hB (fun x hx => hlt x (by simp [hx]))) (trodAll_cons_mk (Below.trod Try.laidOut (by kernel_rfl) (of_decide_eq_true (by kernel_rfl)) h1k hB (fun x hx => hlt x (by simp [hx]))) (trodAll_cons_mk (Below.trod Try.laidOut (by kernel_rfl) (of_decide_eq_true (by kernel_rfl)) h2k hB (fun x hx => hlt x (by simp [hx]))) (trodAll_cons_mk (Below.trod Try.laidOut (by kernel_rfl) (of_decide_eq_true (by kernel_rfl)) h3k hB (fun x hx => hlt x (by simp [hx]))) (trodAll_mk0))))

theorem heapGone_holds : Rows.HeapGoneSaid :=
  OpenClaim.holds_of_wide 6 Try.f6 rfl rfl rfl rfl rfl rfl rfl ⟨rfl, rfl, rfl, rfl, rfl⟩ rfl rfl rfl rfl rfl (by kernel_rfl) Try.func6 (by kernel_rfl)
    (of_decide_eq_true (by kernel_rfl)) (by unfold Func.isWrapper; first | (rw [if_neg (of_decide_eq_false (by kernel_rfl))]; exact ⟨rfl, rfl⟩) | (rw [if_pos (by decide +kernel)]; kernel_rfl) | (rw [if_neg (by decide +kernel)]; exact ⟨rfl, rfl⟩))
    (fun os started H enc _ => heapGone_lifted os started H enc)
#print axioms heapGone_holds
end Go.Proofs.Yteekppohhjlmmaa
