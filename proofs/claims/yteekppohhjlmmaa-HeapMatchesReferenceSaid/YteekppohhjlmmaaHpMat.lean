/- HeapMatchesReference: for every input the statement's function returns true, and the input reads afterwards as it read before. No condition. -/
import Derived.Test.YteekppohhjlmmaaHpHd
import Derived.Test.YteekppohhjlmmaaHpSam
import Derived.Test.YteekppohhjlmmaaHpMis
import Derived.Test.YteekppohhjlmmaaHpRnw
import Derived.Test.YteekppohhjlmmaaHpFr
import Derived.ProofKit
import Derived.Lib.SmallJoins
namespace Go.Proofs.Yteekppohhjlmmaa
open Go.ChangeShapes Go.WideShapes Go.ChangeAt Go.RowKit Go.Joins

def Small (m : List Ob) : Prop := m.length ≤ 100 ∧ ∀ t, t < m.length → (obAt m t).c.length ≤ 100
theorem small_nil : Small [] := ⟨by simp, fun t ht => absurd ht (by simp)⟩
theorem small_valid {m : List Ob} (h : obsV m = true) : Small m := ⟨Nat.le_trans (obsV_len h) (by decide), fun t ht => Nat.le_trans (obV_len (obsV_mem h _ (obAt_mem ht))) (by decide)⟩
theorem small_new (l : List Ob) (ws : List Int) : Small (newR l ws).1 := by
  by_cases h : (obsV l && ws.all wV) = false
  · have : newR l ws = ([], 0, 0, 1) := by unfold newR; rw [if_pos h]
    rw [this]; exact small_nil
  · have h2 : (obsV l && ws.all wV) = true := by simpa using h
    obtain ⟨hv, hw⟩ := Bool.and_eq_true _ _ ▸ h2
    by_cases hf : l.length = 8 ∨ 16 < ws.length
    · rw [new_full hv hw hf]; exact small_nil
    · rw [new_ok hv hw (by omega) (by omega)]
      exact small_valid (new_valid hv hw (by omega) (by omega))
theorem small_put (l : List Ob) (obj k v : Int) (h0 : 0 ≤ k) : Small (putR l obj k v).1 := by
  cases hh : hasO l obj with
  | false =>
    have : putR l obj k v = ([], 0, 1) := by unfold putR; rw [if_pos hh]
    rw [this]; exact small_nil
  | true =>
    by_cases hit : Hit l obj k
    · rw [hit_put hit]; exact small_valid (hit_valid hit h0 v)
    · obtain ⟨f, hR, _⟩ := put_miss hh hit v
      rw [hR]; exact small_nil
theorem small_free (l : List Ob) (obj : Int) : Small (freeR l obj).1 := by
  cases hh : hasO l obj with
  | false =>
    have : freeR l obj = ([], 0, 1) := by unfold freeR; rw [if_pos hh]
    rw [this]; exact small_nil
  | true =>
    cases hg : (obAt l obj.toNat).g with
    | true => rw [gone_free hh hg]; exact small_nil
    | false => rw [free_has hh hg]; exact small_valid (free_valid hh)
set_option maxRecDepth 100000 in
set_option maxHeartbeats 4800000 in
theorem Matches_any (l : List Ob) (ws : List Int) (obj : Int) (k : Nat) (v : Int) (w : World) (A Aw : Option Addr) (c cw : Nat) (hs : ObSl w A c l) (ho : oks l) (hr : IRow w Aw ws) (hw : ws.length ≤ maxLen) (hv : U64 v) :
    Calls Try.prog 3 #[.slice A l.length c, .slice Aw ws.length cw, .int .i64 obj, .int .u64 (k : Nat), .int .u64 v] w fun e w' => e = .returned (.bool true) ∧ Below w.heap.size w w' := by
  have hF : ∀ w1, Below w.heap.size w w1 → _ := fun w1 h1 => Few_any l w1 A c (hs.later h1)
  cases hf : fewO l with
  | false =>
    rw [hf] at hF
    clear hs ho hr hf
    go_enter Try.func3, Try.ntmps3
    go_wp2_with fail
    refine (head_any _).mono ?_
    rintro e w1 ⟨rfl, b1⟩
    have hF := hF w1 b1
    go_wp2_with fail
    refine hF.mono ?_
    rintro e w2 ⟨rfl, b2⟩
    have b2 := b1.trans (b2.mono b1.size)
    clear hF b1
    go_wp2
    go_ret
    exact ⟨rfl, b2⟩
  | true =>
    rw [hf] at hF
    by_cases h40 : 40 < ws.length
    · have hd : (40 : Int) < (ws.length : Int) := by omega
      clear hs ho hr hf h40
      go_enter Try.func3, Try.ntmps3
      go_wp2_with fail
      refine (head_any _).mono ?_
      rintro e w1 ⟨rfl, b1⟩
      have hF := hF w1 b1
      go_wp2_with fail
      refine hF.mono ?_
      rintro e w2 ⟨rfl, b2⟩
      have b2 := b1.trans (b2.mono b1.size)
      clear hF b1
      go_wp2
      go_ret
      exact ⟨rfl, b2⟩
    · have hd : ¬ (40 : Int) < (ws.length : Int) := by omega
      have hN1 : ∀ w1, Below w.heap.size w w1 → _ := fun w1 h1 => New_any l ws w1 A Aw c cw (hs.later h1) (hr.later h1) hw
      have hN2 : ∀ w1, Below w.heap.size w w1 → _ := fun w1 h1 => RNew_any l ws w1 A Aw c cw (hs.later h1) ho (hr.later h1) (by omega)
      have hL1 : ∀ w1, Below w.heap.size w w1 → _ := fun w1 h1 => Load_any l obj k w1 A c (hs.later h1)
      have hL2 : ∀ w1, Below w.heap.size w w1 → _ := fun w1 h1 => RLoad_any l obj k w1 A c (hs.later h1) ho
      have hP1 : ∀ w1, Below w.heap.size w w1 → _ := fun w1 h1 => Put_any l obj k v w1 A c (hs.later h1) hv
      have hP2 : ∀ w1, Below w.heap.size w w1 → _ := fun w1 h1 => RPut_any l obj k v w1 A c (hs.later h1) ho hv
      have hF1 : ∀ w1, Below w.heap.size w w1 → _ := fun w1 h1 => Free_any l obj w1 A c (hs.later h1)
      have hF2 : ∀ w1, Below w.heap.size w w1 → _ := fun w1 h1 => RFree_any l obj w1 A c (hs.later h1) ho
      have hV1 : ∀ w1, Below w.heap.size w w1 → _ := fun w1 h1 => Valid_any l w1 A c (hs.later h1)
      have hV2 : ∀ w1, Below w.heap.size w w1 → _ := fun w1 h1 => RValid_any l w1 A c (hs.later h1) ho
      have sN := small_new l ws
      have sP := small_put l obj k v (by omega)
      have sF := small_free l obj
      unfold NewAns at hN1 hN2
      unfold ObAns at hP1 hP2 hF1 hF2
      unfold LdAns at hL2
      generalize newR l ws = R1 at hN1 hN2 sN
      generalize loadR l obj (k : Int) = R2 at hL1 hL2
      generalize putR l obj (k : Int) v = R3 at hP1 hP2 sP
      generalize freeR l obj = R4 at hF1 hF2 sF
      generalize obsV l = bv at hV1 hV2
      obtain ⟨m1, n1, f1, r1⟩ := R1
      obtain ⟨⟨x2, y2⟩, f2, r2⟩ := R2
      obtain ⟨m3, f3, r3⟩ := R3
      obtain ⟨m4, f4, r4⟩ := R4
      simp only at hN1 hN2 hL1 hL2 hP1 hP2 hF1 hF2 sN sP sF
      replace sN := Lib.hid sN
      replace sP := Lib.hid sP
      replace sF := Lib.hid sF
      clear hs ho hr hf h40 hw hv
      go_enter Try.func3, Try.ntmps3
      go_wp2_with fail
      refine (head_any _).mono ?_
      rintro e w1 ⟨rfl, b1⟩
      have hF := hF w1 b1
      go_wp2_with fail
      refine hF.mono ?_
      rintro e w2 ⟨rfl, b2⟩
      have b2 := b1.trans (b2.mono b1.size)
      clear hF b1
      have hK := hN1 w2 b2
      go_wp2_with fail
      refine hK.mono ?_
      rintro e w3 ⟨A1, c1, rfl, h1, b3⟩
      have b3 := b2.trans (b3.mono b2.size)
      clear hK hN1
      have hK := hN2 w3 b3
      go_wp2_with fail
      refine hK.mono ?_
      rintro e w4 ⟨A2, c2, rfl, h2, b4⟩
      have h1 := h1.later b4
      have b4 := b3.trans (b4.mono b3.size)
      clear hK hN2
      have hK := Same_eq m1 w4 A1 A2 c1 c2 h1 h2 sN.out.1 sN.out.2
      go_wp2_with fail
      refine hK.mono ?_
      rintro e w5 ⟨rfl, b5⟩
      have b5 := b4.trans (b5.mono b4.size)
      clear hK h1 h2
      have hK := hV1 w5 b5
      go_wp2_with fail
      refine hK.mono ?_
      rintro e w6 ⟨rfl, b6⟩
      have b6 := b5.trans (b6.mono b5.size)
      clear hK hV1
      have hK := hV2 w6 b6
      go_wp2_with fail
      refine hK.mono ?_
      rintro e w7 ⟨rfl, b7⟩
      have b7 := b6.trans (b7.mono b6.size)
      clear hK hV2
      have hK := hL1 w7 b7
      go_wp2_with fail
      refine hK.mono ?_
      rintro e w8 ⟨rfl, b8⟩
      have b8 := b7.trans (b8.mono b7.size)
      clear hK hL1
      have N := Box.new w8 32 #[.int .i64 x2, .int .u64 y2]
      have bA : Below w8.heap.size w8 (w8.alloc (.cells #[.int .i64 x2, .int .u64 y2] 32)) := (Below.refl _ _).alloc (Nat.le_refl _) _
      have hK := hL2 _ (b8.trans (bA.mono b8.size))
      go_wp2_with fail
      refine hK.mono ?_
      rintro e w9 ⟨rfl, b9⟩
      have N9 := (N.below b9).alloc (.cells #[.int .i64 x2, .int .u64 y2] 32)
      have M9 := Box.new w9 32 #[.int .i64 x2, .int .u64 y2]
      have b9 := (b8.trans (bA.mono b8.size)).trans (b9.mono (b8.trans (bA.mono b8.size)).size)
      have b9 : Below w.heap.size w (w9.alloc (.cells #[.int .i64 x2, .int .u64 y2] 32)) := b9.alloc b9.size _
      have n0 := N9.cell 0
      have n1 := N9.cell 1
      have p0 := M9.cell 0
      have p1 := M9.cell 1
      clear hK hL2 N M9 N9 bA
      go_upto_region 9 with fail
      obtain ⟨w10, hX⟩ : ∃ Y, w9.alloc (.cells #[.int .i64 x2, .int .u64 y2] 32) = Y := ⟨_, rfl⟩
      rw [hX] at n0 n1 p0 p1 b9
      simp only [hX]
      have b10 := b9
      clear hX b9
      have hK := hP1 w10 b10
      go_wp2_with fail
      refine hK.mono ?_
      rintro e w11 ⟨A3, c3, rfl, h1, b11⟩
      have b11 := b10.trans (b11.mono b10.size)
      clear hK hP1 n0 n1 p0 p1
      have hK := hP2 w11 b11
      go_wp2_with fail
      refine hK.mono ?_
      rintro e w12 ⟨A4, c4, rfl, h2, b12⟩
      have h1 := h1.later b12
      have b12 := b11.trans (b12.mono b11.size)
      clear hK hP2
      have hK := Same_eq m3 w12 A3 A4 c3 c4 h1 h2 sP.out.1 sP.out.2
      go_wp2_with fail
      refine hK.mono ?_
      rintro e w13 ⟨rfl, b13⟩
      have b13 := b12.trans (b13.mono b12.size)
      clear hK h1 h2
      have hK := hF1 w13 b13
      go_wp2_with fail
      refine hK.mono ?_
      rintro e w14 ⟨A5, c5, rfl, h1, b14⟩
      have b14 := b13.trans (b14.mono b13.size)
      clear hK hF1
      have hK := hF2 w14 b14
      go_wp2_with fail
      refine hK.mono ?_
      rintro e w15 ⟨A6, c6, rfl, h2, b15⟩
      have h1 := h1.later b15
      have b15 := b14.trans (b15.mono b14.size)
      clear hK hF2
      have hK := Same_eq m4 w15 A5 A6 c5 c6 h1 h2 sF.out.1 sF.out.2
      go_wp2_with fail
      refine hK.mono ?_
      rintro e w16 ⟨rfl, b16⟩
      have b16 := b15.trans (b16.mono b15.size)
      clear hK h1 h2
      go_wp2
      go_ret
      exact ⟨rfl, b16⟩

set_option maxRecDepth 100000 in
theorem heapMatchesReference_lifted (os : Os) (started : os.Started) (H : Type) (enc : TypeId × Value → H) :
    ReturnsInHanded {} Try.checked os 3 .any (Rows.heapMatchesReferenceSpec.pre6 enc Try.prog Try.f3 Rows.heapMatchesReferenceRow.domain false) (Rows.heapMatchesReferenceSpec.post enc Try.prog Try.f3 false true false false) := by
  refine returnsInHanded_of_change (C := Try.checked) Try.own started (by kernel_rfl) Try.func3
    (ChangeSpec.witness6 (enc := enc) (C := Try.checked) false ⟨#[], #[.slice none 0 0, .slice none 0 0, .int .i64 0, .int .u64 0, .int .u64 0], []⟩ 8 (by kernel_rfl) (by kernel_rfl) (by kernel_rfl) (by kernel_rfl)) ?_
  intro W base args ds gs before hval0 hW hcnd _
  have hval : ∀ (j : Nat) t v, Try.f3.params[j]? = some t → args[j]? = some v → Value.okWide Try.prog W .any base t v := hval0
  have hW' := hW
  obtain ⟨p, q, hA0, hV, rfl, hfz, hnd⟩ := hW
  have hA : DataW.TrodAll enc Try.prog W 0 (fun _ => true) true Try.f3.params.toList args.toList ds p := hA0
  rw [Try.params3] at hA hval
  obtain ⟨v0, vs0, d0, ds0, p0, q0, hargs, rfl, rfl, h0, r0⟩ := trodAll_cons hA
  obtain ⟨v1, vs1, d1, ds1, p1, q1, rfl, rfl, rfl, h1, r1⟩ := trodAll_cons r0
  obtain ⟨v2, vs2, d2, ds2, p2, q2, rfl, rfl, rfl, h2, r2⟩ := trodAll_cons r1
  obtain ⟨v3, vs3, d3, ds3, p3, q3, rfl, rfl, rfl, h3, r3⟩ := trodAll_cons r2
  obtain ⟨v4, vs4, d4, ds4, p4, q4, rfl, rfl, rfl, h4, r4⟩ := trodAll_cons r3
  obtain ⟨rfl, rfl, rfl⟩ := trodAll_nil r4
  obtain rfl : args = #[v0, v1, v2, v3, v4] := by cases args; simp_all
  obtain ⟨rfl, rfl⟩ := trodVars_none hV
  simp only [List.append_nil] at hW'
  have hlt : ∀ x ∈ p0 ++ (p1 ++ (p2 ++ (p3 ++ (p4)))), x.block < W.heap.size := fun x hx => by simpa using hW'.lt x hx
  have h0k := h0
  obtain ⟨l0, A0, c0, rfl, hs0, ho0⟩ := obs_open (hval 0 22 v0 rfl rfl) h0
  have h1k := h1
  obtain ⟨l1, A1, c1, rfl, hr1, hi1, hl1⟩ := ints_open (hval 1 23 v1 rfl rfl) h1
  have h2k := h2
  obtain ⟨x2, rfl, rfl, hp2, wx2⟩ := open_int (show Try.prog.underlying 3 = some (.int .i64) by kernel_rfl) (hval 2 3 v2 rfl rfl) h2
  have h3k := h3
  obtain ⟨x3, rfl, rfl, hp3, wx3⟩ := open_int (show Try.prog.underlying 24 = some (.int .u64) by kernel_rfl) (hval 3 24 v3 rfl rfl) h3
  obtain ⟨n3, rfl, hu3⟩ := u64_nat wx3
  have h4k := h4
  obtain ⟨x4, rfl, rfl, hp4, wx4⟩ := open_int (show Try.prog.underlying 24 = some (.int .u64) by kernel_rfl) (hval 4 24 v4 rfl rfl) h4
  have hu4 := wf_u64 wx4
  clear hA0 hval0
  refine (Matches_any l0 l1 x2 n3 x4 W A0 A1 c0 c1 hs0 ho0 hr1 hl1 hu4).mono fun e W' ⟨he, hB⟩ => ?_
  subst he
  refine ⟨_, rfl, _, _, _, [], p0 ++ (p1 ++ (p2 ++ (p3 ++ (p4 ++ [])))), [], hW', trodAll_mk1 (shut_bool Try.underlying4 _), ?_, rfl, hB.frame _, fun h => by cases h⟩
  exact trodAll_cons_mk (Below.trod Try.laidOut (by kernel_rfl) (of_decide_eq_true (by kernel_rfl)) h0k hB (fun x hx => hlt x (by simp [hx]))) (trodAll_cons_mk (Below.trod Try.laidOut (by kernel_rfl) (of_decide_eq_true (by kernel_rfl)) h1k hB (fun x hx => hlt x (by simp [hx]))) (trodAll_cons_mk (Below.trod Try.laidOut (by kernel_rfl) (of_decide_eq_true (by kernel_rfl)) h2k hB (fun x hx => hlt x (by simp [hx]))) (trodAll_cons_mk (Below.trod Try.laidOut (by kernel_rfl) (of_decide_eq_true (by kernel_rfl)) h3k hB (fun x hx => hlt x (by simp [hx]))) (trodAll_cons_mk (Below.trod Try.laidOut (by kernel_rfl) (of_decide_eq_true (by kernel_rfl)) h4k hB (fun x hx => hlt x (by simp [hx]))) (trodAll_mk0)))))

theorem heapMatchesReference_holds : Rows.HeapMatchesReferenceSaid :=
  OpenClaim.holds_of_wide 3 Try.f3 rfl rfl rfl rfl rfl rfl rfl ⟨rfl, rfl, rfl, rfl, rfl⟩ rfl rfl rfl rfl rfl (by kernel_rfl) Try.func3 (by kernel_rfl)
    (of_decide_eq_true (by kernel_rfl)) (by unfold Func.isWrapper; first | (rw [if_neg (of_decide_eq_false (by kernel_rfl))]; exact ⟨rfl, rfl⟩) | (rw [if_pos (by decide +kernel)]; kernel_rfl) | (rw [if_neg (by decide +kernel)]; exact ⟨rfl, rfl⟩))
    (fun os started H enc _ => heapMatchesReference_lifted os started H enc)
#print axioms heapMatchesReference_holds
end Go.Proofs.Yteekppohhjlmmaa
