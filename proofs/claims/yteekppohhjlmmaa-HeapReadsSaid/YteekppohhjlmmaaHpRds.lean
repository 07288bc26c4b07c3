/- HeapReads: for every input the statement's function returns true, and the input reads afterwards as it read before. No condition. -/
import Derived.Test.YteekppohhjlmmaaHpHd
import Derived.Test.YteekppohhjlmmaaHpMis
import Derived.Test.YteekppohhjlmmaaHpFr
import Derived.ProofKit
import Derived.Lib.SmallJoins
namespace Go.Proofs.Yteekppohhjlmmaa
open Go.ChangeShapes Go.WideShapes Go.ChangeAt Go.RowKit Go.Joins

theorem reads_plain {l : List Ob} {obj k : Int} (h : Hit l obj k) (h0 : 0 ≤ k) (v u : Int) : ∃ m1 n1, putR l obj k v = (m1, 0, 0) ∧ putR m1 obj k u = (n1, 0, 0) ∧ loadR n1 obj k = (((ceAt (obAt l obj.toNat).c k.toNat).w, low (ceAt (obAt l obj.toNat).c k.toNat).w u), 0, 0) ∧ m1.length = l.length ∧ n1.length = l.length ∧ ∀ o j : Int, 0 ≤ o → 0 ≤ j → ¬ (o = obj ∧ j = k) → loadR l o j = loadR n1 o j := by
  have hh := hit_after (v := v) h h0 h
  have hw : (ceAt (obAt (l.set obj.toNat (putOb (obAt l obj.toNat) k.toNat v)) obj.toNat).c k.toNat).w = (ceAt (obAt l obj.toNat).c k.toNat).w := by
    rw [obAt_set l (hit_t h), if_pos rfl]
    unfold putOb
    rw [ceAt_set _ (hit_k h h0), if_pos rfl]
  refine ⟨_, _, hit_put h v, hit_put hh u, ?_, by simp, by simp, fun o j ho hj hne => ?_⟩
  · rw [load_same hh h0, hw]
  · rw [load_other hh h0 ho hj hne, load_other h h0 ho hj hne]
set_option maxRecDepth 100000 in
set_option maxHeartbeats 1600000 in
theorem HeapReads_any (l : List Ob) (obj : Int) (k : Nat) (v u : Int) (w : World) (A : Option Addr) (c : Nat) (hs : ObSl w A c l) (ho : oks l) (hv : U64 v) (hu : U64 u) :
    Calls Try.prog 4 #[.slice A l.length c, .int .i64 obj, .int .u64 (k : Nat), .int .u64 v, .int .u64 u] w fun e w' => e = .returned (.bool true) ∧ Below w.heap.size w w' := by
  have hU : ∀ w1, Below w.heap.size w w1 → _ := fun w1 h1 => usable_any l obj w1 A c (hs.later h1) ho
  cases hh : hasO l obj with
  | false =>
    rw [hh] at hU
    clear hs ho hv hh
    go_enter Try.func4, Try.ntmps4
    go_wp2_with fail
    refine (head_any _).mono ?_
    rintro e w1 ⟨rfl, b1⟩
    have hU := hU w1 b1
    go_wp2_with fail
    refine hU.mono ?_
    rintro e w2 ⟨rfl, b2⟩
    clear hU
    go_wp2
    go_ret
    exact ⟨rfl, b1.trans (b2.mono b1.size)⟩
  | true =>
    rw [hh] at hU
    obtain ⟨t, rfl⟩ : ∃ t : Nat, obj = t := ⟨obj.toNat, by have := (hasO_iff.1 hh).2; omega⟩
    have ht : t < l.length := by have := (hasO_iff.1 hh).2; omega
    have htc : (t : Int) < l.length := by omega
    have hl8 := obsV_len (hasO_iff.1 hh).1
    obtain ⟨g, o, A', c', eA, k0, k1, _⟩ := hs.at_ ht
    subst eA
    have hP : ∀ w1, Below w.heap.size w w1 → _ := fun w1 h1 => Put_any l t k v w1 _ c (hs.later h1) hv
    unfold ObAns at hP
    by_cases hit : Hit l (t : Int) (k : Int)
    · obtain ⟨m1, n1, e1, e2, e3, ln1, ln2, hoth⟩ := reads_plain hit (by omega) v u
      have hkl : k < (obAt l t).c.length := by have := hit_k hit (by omega); simpa using this
      have hwd := width_of (hasO_iff.1 hh).1 ht hkl
      simp only [Int.toNat_natCast] at e3
      obtain ⟨gq, oq, Aq, cq, eq, _, _, hcs⟩ := hs.at_ ht
      simp at eq
      obtain ⟨rfl, rfl⟩ := eq
      obtain ⟨gc, oc, eA, d0, _, _⟩ := hcs.at_ hkl
      have hO := fun w => Of_any (ceAt (obAt l t).c k).w u w ⟨by omega, hwd.2⟩ hu.1
      have hlen : (obAt l t).c.length ≤ 16 := obV_len (obsV_mem (hasO_iff.1 hh).1 _ (obAt_mem ht))
      rw [e1] at hP
      simp only at hP
      have hoth := Lib.hid hoth
      have hhs := Lib.hid hs
      rename_i ks0 _ _ _
      subst eA
      generalize (ceAt (obAt l t).c k).w = n at e3 d0 hO hwd
      have hw : IntKind.u64.wrap ((obAt l t).c.length : Int) = (obAt l t).c.length := IntWalk.u64_in _ (by omega)
      have hnk : ¬ (obAt l t).c.length ≤ k := by omega
      have hkc : (k : Int) < (obAt l t).c.length := by omega
      generalize (obAt l t).c.length = nl at ks0 hw hnk hkc hlen
      have hO := Lib.hid hO
      clear hh k0 k1 hit hkl hcs hwd e1 ho
      go_enter Try.func4, Try.ntmps4
      go_wp2_with fail
      refine (head_any _).mono ?_
      rintro e w1 ⟨rfl, b1⟩
      have hU := hU w1 b1
      go_wp2_with fail
      refine hU.mono ?_
      rintro e w2 ⟨rfl, b2⟩
      have b2 := b1.trans (b2.mono b1.size)
      clear hU b1
      have hP := hP w2 b2
      go_wp2_with fail
      refine hP.mono ?_
      rintro e w3 ⟨A3, c3, rfl, hm, b3⟩
      have b3 := b2.trans (b3.mono b2.size)
      have hQ := Put_any m1 t k u w3 A3 c3 hm hu
      unfold ObAns at hQ
      rw [e2, ln1] at hQ
      simp only at hQ
      clear hP b2 hm e2
      go_wp2_with fail
      refine hQ.mono ?_
      rintro e w4 ⟨A4, c4, rfl, hn, b4⟩
      have b4 := b3.trans (b4.mono b3.size)
      have hL := Load_any n1 t k w4 A4 c4 hn
      rw [e3, ln2] at hL
      simp only at hL
      clear hQ b3 e3
      go_wp2_with fail
      refine hL.mono ?_
      rintro e w5 ⟨rfl, b5⟩
      have hn := hn.later b5
      have b5 := b4.trans (b5.mono b4.size)
      clear hL b4
      have N := Box.new w5 32 #[.int .i64 n, .int .u64 (low n u)]
      have bA : Below w5.heap.size w5 (w5.alloc (.cells #[.int .i64 n, .int .u64 (low n u)] 32)) := (Below.refl _ _).alloc (Nat.le_refl _) _
      have hn := hn.later bA
      have b6 := b5.trans (bA.mono b5.size)
      go_upto_region 9 with fail
      obtain ⟨X, hX⟩ : ∃ Y, w5.alloc (.cells #[.int .i64 n, .int .u64 (low n u)] 32) = Y := ⟨_, rfl⟩
      rw [hX] at hn b6 N
      simp only [hX]
      obtain ⟨B, hB⟩ : ∃ b, Hid (w5.heap.size = b) := ⟨_, Lib.hid rfl⟩
      rw [hB.out] at N
      simp only [hB.out]
      clear hX bA b5 hB
      have x0 := cell_later b6 ks0
      have x1 := cell_later b6 d0
      have x2 : X.cell? ⟨B, 0, none⟩ = some (.int .i64 n) := N.cell 0
      have x3 : X.cell? ⟨B, 1, none⟩ = some (.int .u64 (low n u)) := N.cell 1
      have hmk : Hid (∀ w', Bel X w' → (w'.cell? ⟨g, o + t * 2, none⟩ = some (.slice (some ⟨gc, oc, none⟩) nl cq) ∧ w'.cell? ⟨gc, oc + k * 3, none⟩ = some (.int .i64 n) ∧ w'.cell? ⟨B, 0, none⟩ = some (.int .i64 n) ∧ w'.cell? ⟨B, 1, none⟩ = some (.int .u64 (low n u)) ∧ Bel X w')) := Lib.hid (fun w' h => ⟨h.cell x0, h.cell x1, h.cell x2, h.cell x3, h⟩)
      have hq0 := Bel.refl X
      clear N
      go_region_held3 (fun w' => w'.cell? ⟨g, o + t * 2, none⟩ = some (.slice (some ⟨gc, oc, none⟩) nl cq) ∧ w'.cell? ⟨gc, oc + k * 3, none⟩ = some (.int .i64 n) ∧ w'.cell? ⟨B, 0, none⟩ = some (.int .i64 n) ∧ w'.cell? ⟨B, 1, none⟩ = some (.int .u64 (low n u)) ∧ Bel X w') ((first | assumption | (refine hmk.out _ ?_; repeat (first | assumption | exact hq0 | refine Bel.drew ?_)))) (first | (go_at_call 24; refine (hO.out _).mono ?_; rintro e w7 ⟨rfl, b7⟩; have hS7 : Bel X w7 := Bel.below (by first | assumption | exact Bel.drew hq0) b7))
      have hn := hn.later hS7
      have b7 := b6.trans (Below.mono hS7 b6.size)
      clear hmk x0 x1 x2 x3 hO b6 hP ks0 d0 hU
      rename_i hHeld
      clear hHeld
      have hs := hhs.out
      go_wp2_with fail
      go_loopw [114] (fun v wr => ∃ i : Nat, i ≤ l.length ∧ v = .int .i64 i ∧ Below w.heap.size w wr ∧ ObSl wr A4 c4 n1) (fun v _ => l.length - iOf v)
      case atStart => exact ⟨0, Nat.zero_le _, rfl, b7, hn⟩
      case round =>
        rename_i wr
        clear b7 hn
        obtain ⟨i, hi, rfl, bW, hm⟩ := hrel
        by_cases hlt : i < l.length
        · have hlc : (i : Int) < l.length := by omega
          have hwi : IntKind.i64.wrap ((i : Int) + 1) = ((i + 1 : Nat) : Int) := by rw [IntWalk.i64_in _ (by omega)]; omega
          obtain ⟨g', o', Ai, ci, e, j0, j1, js⟩ := hs.at_ hlt
          simp at e
          obtain ⟨rfl, rfl⟩ := e
          have j0 := cell_later bW j0
          have j1 := cell_later bW j1
          have hn : (obAt l i).c.length ≤ maxLen := Nat.le_trans js.1 js.2.1
          generalize (obAt l i).c.length = ni at j0 hn
          generalize (obAt l i).g = gi at j1
          clear js
          have N := Box.new wr 42 #[.slice Ai ni ci, .bool gi]
          have bA : Below wr.heap.size wr (wr.alloc (.cells #[.slice Ai ni ci, .bool gi] 42)) := (Below.refl _ _).alloc (Nat.le_refl _) _
          have hm2 := hm.later bA
          have bW2 := bW.trans (bA.mono bW.size)
          have m0 := N.cell 0
          go_upto_region 14 with fail
          obtain ⟨X2, hX⟩ : ∃ Y, wr.alloc (.cells #[.slice Ai ni ci, .bool gi] 42) = Y := ⟨_, rfl⟩
          rw [hX] at hm2 bW2 m0
          simp only [hX]
          clear hX N bA hm bW j0 j1
          go_wp2_with fail
          go_loopw [122] (fun v wq => ∃ q : Nat, q ≤ ni ∧ v = .int .i64 q ∧ Below w.heap.size w wq ∧ ObSl wq A4 c4 n1) (fun v _ => ni - iOf v)
          case atStart => exact ⟨0, Nat.zero_le _, rfl, bW2, hm2⟩
          case round =>
            clear bW2 hm2 m0
            obtain ⟨q, hq, rfl, bW, hm⟩ := hrel
            by_cases hql : q < ni
            · have hqc : (q : Int) < ni := by omega
              have hwq : IntKind.i64.wrap ((q : Int) + 1) = ((q + 1 : Nat) : Int) := by unfold maxLen at hn; rw [IntWalk.i64_in _ (by omega)]; omega
              have hwu : IntKind.u64.wrap (q : Int) = q := by unfold maxLen at hn; exact IntWalk.u64_in _ (by omega)
              by_cases e : i = t
              · subst e
                by_cases e2 : q = k
                · subst e2
                  go_wp2_with fail
                  go_roundw
                  case rel => exact ⟨q + 1, hql, rfl, bW, hm⟩
                  case measure => simp only [iOf]; omega
                · have hS := same_any l n1 i q wr _ A4 c c4 (hs.later bW) hm (hoth.out i q (by omega) (by omega) (by omega))
                  rw [ln2] at hS
                  go_wp2_with fail
                  refine hS.mono ?_
                  rintro e w6 ⟨rfl, b6⟩
                  have hm6 := hm.later b6
                  have b6 := bW.trans (b6.mono bW.size)
                  clear hS hm bW
                  go_wp2_with fail
                  go_roundw
                  case rel => exact ⟨q + 1, hql, rfl, b6, hm6⟩
                  case measure => simp only [iOf]; omega
              · have hS := same_any l n1 i q wr _ A4 c c4 (hs.later bW) hm (hoth.out i q (by omega) (by omega) (by omega))
                rw [ln2] at hS
                go_wp2_with fail
                refine hS.mono ?_
                rintro e w6 ⟨rfl, b6⟩
                have hm6 := hm.later b6
                have b6 := bW.trans (b6.mono bW.size)
                clear hS hm bW
                go_wp2_with fail
                go_roundw
                case rel => exact ⟨q + 1, hql, rfl, b6, hm6⟩
                case measure => simp only [iOf]; omega
            · have hie : q = ni := by omega
              subst hie
              go_wp2_with fail
              go_roundw
              case rel => exact ⟨i + 1, hlt, rfl, bW, hm⟩
              case measure => simp only [iOf]; omega
        · have hie : i = l.length := by omega
          subst hie
          clear hs hm
          go_wp2
          go_ret
          exact ⟨rfl, bW⟩
    · obtain ⟨f, hR, hf⟩ := put_miss hh hit v
      rw [hR] at hP
      simp only at hP
      have hfz : (f != 0) = true := by simpa using hf
      clear hs ho hh hR hf k0 k1 hit hv hu
      go_enter Try.func4, Try.ntmps4
      go_wp2_with fail
      refine (head_any _).mono ?_
      rintro e w1 ⟨rfl, b1⟩
      have hU := hU w1 b1
      go_wp2_with fail
      refine hU.mono ?_
      rintro e w2 ⟨rfl, b2⟩
      have b2 := b1.trans (b2.mono b1.size)
      clear hU b1
      have hP := hP w2 b2
      go_wp2_with fail
      refine hP.mono ?_
      rintro e w3 ⟨A3, c3, rfl, _, b3⟩
      clear hP
      go_wp2
      go_ret
      exact ⟨rfl, b2.trans (b3.mono b2.size)⟩

set_option maxRecDepth 100000 in
theorem heapReads_lifted (os : Os) (started : os.Started) (H : Type) (enc : TypeId × Value → H) :
    ReturnsInHanded {} Try.checked os 4 .any (Rows.heapReadsSpec.pre6 enc Try.prog Try.f4 Rows.heapReadsRow.domain false) (Rows.heapReadsSpec.post enc Try.prog Try.f4 false true false false) := by
  refine returnsInHanded_of_change (C := Try.checked) Try.own started (by kernel_rfl) Try.func4
    (ChangeSpec.witness6 (enc := enc) (C := Try.checked) false ⟨#[], #[.slice none 0 0, .int .i64 0, .int .u64 0, .int .u64 0, .int .u64 0], []⟩ 8 (by kernel_rfl) (by kernel_rfl) (by kernel_rfl) (by kernel_rfl)) ?_
  intro W base args ds gs before hval0 hW hcnd _
  have hval : ∀ (j : Nat) t v, Try.f4.params[j]? = some t → args[j]? = some v → Value.okWide Try.prog W .any base t v := hval0
  have hW' := hW
  obtain ⟨p, q, hA0, hV, rfl, hfz, hnd⟩ := hW
  have hA : DataW.TrodAll enc Try.prog W 0 (fun _ => true) true Try.f4.params.toList args.toList ds p := hA0
  rw [Try.params4] at hA hval
  obtain ⟨v0, vs0, d0, ds0, p0, q0, hargs, rfl, rfl, h0, r0⟩ := trodAll_cons hA
  obtain ⟨v1, vs1, d1, ds1, p1, q1, rfl, rfl, rfl, h1, r1⟩ := trodAll_cons r0
  obtain ⟨v2, vs2, d2, ds2, p2, q2, rfl, rfl, rfl, h2, r2⟩ := trodAll_cons r1
  obtain ⟨v3, vs3, d3, ds3, p3, q3, rfl, rfl, rfl, h3, r3⟩ := trodAll_cons r2
  obtain ⟨v4, vs4, d4, ds4, p4, q4, rfl, rfl, rfl, h4, r4⟩ := trodAll_cons r3
  obtain ⟨rfl, rfl, rfl⟩ := trodAll_nil r4
  obtain rfl : args = #[v0, v1, v2, v3, v4] := by cases args; simp_all
  obtain ⟨rfl, rfl⟩ := trodVars_none hV
  simp only [List.append_nil] at hW'
  have hlt : ∀ x ∈ p0 ++ (p1 ++ (p2 ++ (p3 ++ (p4)))), x.block < W.heap.size := fun x hx => by simpa using hW'.lt x hx
  have h0k := h0
  obtain ⟨l0, A0, c0, rfl, hs0, ho0⟩ := obs_open (hval 0 22 v0 rfl rfl) h0
  have h1k := h1
  obtain ⟨x1, rfl, rfl, hp1, wx1⟩ := open_int (show Try.prog.underlying 3 = some (.int .i64) by kernel_rfl) (hval 1 3 v1 rfl rfl) h1
  have h2k := h2
  obtain ⟨x2, rfl, rfl, hp2, wx2⟩ := open_int (show Try.prog.underlying 24 = some (.int .u64) by kernel_rfl) (hval 2 24 v2 rfl rfl) h2
  obtain ⟨n2, rfl, hu2⟩ := u64_nat wx2
  have h3k := h3
  obtain ⟨x3, rfl, rfl, hp3, wx3⟩ := open_int (show Try.prog.underlying 24 = some (.int .u64) by kernel_rfl) (hval 3 24 v3 rfl rfl) h3
  have hu3 := wf_u64 wx3
  have h4k := h4
  obtain ⟨x4, rfl, rfl, hp4, wx4⟩ := open_int (show Try.prog.underlying 24 = some (.int .u64) by kernel_rfl) (hval 4 24 v4 rfl rfl) h4
  have hu4 := wf_u64 wx4
  clear hA0 hval0
  refine (HeapReads_any l0 x1 n2 x3 x4 W A0 c0 hs0 ho0 hu3 hu4).mono fun e W' ⟨he, hB⟩ => ?_
  subst he
  refine ⟨_, rfl, _, _, _, [], p0 ++ (p1 ++ (p2 ++ (p3 ++ (p4 ++ [])))), [], hW', trodAll_mk1 (shut_bool Try.underlying4 _), ?_, rfl, hB.frame _, fun h => by cases h⟩
  exact trodAll_cons_mk (Below.trod Try.laidOut (by kernel_rfl) (of_decide_eq_true (by kernel_rfl)) h0k hB (fun x hx => hlt x (by simp [hx]))) (trodAll_cons_mk (Below.trod Try.laidOut (by kernel_rfl) (of_decide_eq_true (by kernel_rfl)) h1k hB (fun x hx => hlt x (by simp [hx]))) (trodAll_cons_mk (Below.trod Try.laidOut (by kernel_rfl) (of_decide_eq_true (by kernel_rfl)) h2k hB (fun x hx => hlt x (by simp [hx]))) (trodAll_cons_mk (Below.trod Try.laidOut (by kernel_rfl) (of_decide_eq_true (by kernel_rfl)) h3k hB (fun x hx => hlt x (by simp [hx]))) (trodAll_cons_mk (Below.trod Try.laidOut (by kernel_rfl) (of_decide_eq_true (by kernel_rfl)) h4k hB (fun x hx => hlt x (by simp [hx]))) (trodAll_mk0)))))

theorem heapReads_holds : Rows.HeapReadsSaid :=
  OpenClaim.holds_of_wide 4 Try.f4 rfl rfl rfl rfl rfl rfl rfl ⟨rfl, rfl, rfl, rfl, rfl⟩ rfl rfl rfl rfl rfl (by kernel_rfl) Try.func4 (by kernel_rfl)
    (of_decide_eq_true (by kernel_rfl)) (by unfold Func.isWrapper; first | (rw [if_neg (of_decide_eq_false (by kernel_rfl))]; exact ⟨rfl, rfl⟩) | (rw [if_pos (by decide +kernel)]; kernel_rfl) | (rw [if_neg (by decide +kernel)]; exact ⟨rfl, rfl⟩))
    (fun os started H enc _ => heapReads_lifted os started H enc)
#print axioms heapReads_holds
end Go.Proofs.Yteekppohhjlmmaa
