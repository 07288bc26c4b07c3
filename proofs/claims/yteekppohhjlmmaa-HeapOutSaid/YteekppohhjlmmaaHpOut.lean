/- HeapOut: for every input the statement's function returns true, and the input reads afterwards as it read before. No condition. -/
import Derived.Test.YteekppohhjlmmaaHpHd
import Derived.Test.YteekppohhjlmmaaHpFr
import Derived.ProofKit
import Derived.Lib.SmallJoins
namespace Go.Proofs.Yteekppohhjlmmaa
open Go.ChangeShapes Go.WideShapes Go.ChangeAt Go.RowKit Go.Joins

set_option maxRecDepth 100000 in
set_option maxHeartbeats 1600000 in
theorem HeapOut_any (l : List Ob) (obj : Int) (k : Nat) (v : Int) (w : World) (A : Option Addr) (c : Nat) (hs : ObSl w A c l) (ho : oks l) (hv : U64 v) :
    Calls Try.prog 7 #[.slice A l.length c, .int .i64 obj, .int .u64 (k : Nat), .int .u64 v] w fun e w' => e = .returned (.bool true) ∧ Below w.heap.size w w' := by
  have hU : ∀ w1, Below w.heap.size w w1 → _ := fun w1 h1 => usable_any l obj w1 A c (hs.later h1) ho
  cases hh : hasO l obj with
  | false =>
    rw [hh] at hU
    clear hs ho hv hh
    go_enter Try.func7, Try.ntmps7
    go_wp2_with fail
    refine (head_any _).mono ?_
    rintro e w1 ⟨rfl, b1⟩
    have hU := hU w1 b1
    go_wp2_with fail
    refine hU.mono ?_
    rintro e w2 ⟨rfl, b2⟩
    clear hU
    go_wp2
    go_ret
    exact ⟨rfl, b1.trans (b2.mono b1.size)⟩
  | true =>
    rw [hh] at hU
    obtain ⟨t, rfl⟩ : ∃ t : Nat, obj = t := ⟨obj.toNat, by have := (hasO_iff.1 hh).2; omega⟩
    have ht : t < l.length := by have := (hasO_iff.1 hh).2; omega
    have htc : (t : Int) < l.length := by omega
    obtain ⟨g, o, A', c', eA, k0, k1, _⟩ := hs.at_ ht
    subst eA
    cases hg : (obAt l t).g with
    | true =>
      rw [hg] at k1
      clear hs ho hv hh hg k0
      go_enter Try.func7, Try.ntmps7
      go_wp2_with fail
      refine (head_any _).mono ?_
      rintro e w1 ⟨rfl, b1⟩
      have hU := hU w1 b1
      go_wp2_with fail
      refine hU.mono ?_
      rintro e w2 ⟨rfl, b2⟩
      have b2 := b1.trans (b2.mono b1.size)
      have k2 := cell_later b2 k1
      clear hU k1
      go_wp2
      go_ret
      exact ⟨rfl, b2⟩
    | false =>
      rw [hg] at k1
      have hP : ∀ w1, Below w.heap.size w w1 → _ := fun w1 h1 => Put_any l t k v w1 _ c (hs.later h1) hv
      have hL : ∀ w1, Below w.heap.size w w1 → _ := fun w1 h1 => Load_any l t k w1 _ c (hs.later h1)
      have hlen : (obAt l t).c.length ≤ 16 := obV_len (obsV_mem (hasO_iff.1 hh).1 _ (obAt_mem ht))
      have hw : IntKind.u64.wrap ((obAt l t).c.length : Int) = (obAt l t).c.length := IntWalk.u64_in _ (by omega)
      have hg2 : (obAt l ((t : Nat) : Int).toNat).g = false := by simpa using hg
      by_cases hlt : k < (obAt l t).c.length
      · have hit : Hit l (t : Int) (k : Int) := ⟨hh, hg2, by simp; omega⟩
        have hR := hit_put hit v
        have hS := hit_load hit
        have hd : ¬ (obAt l t).c.length ≤ k := by omega
        unfold ObAns at hP
        rw [hR] at hP
        generalize loadR l (t : Int) (k : Int) = R at hL hS
        obtain ⟨⟨a, b⟩, f, e0⟩ := R
        simp only at hL hS hP
        obtain ⟨rfl, hf⟩ := hS
        generalize l.set ((t : Nat) : Int).toNat _ = m at hP
        have hf2 : (f == 2) = false := by rcases hf with rfl | rfl <;> rfl
        generalize (obAt l t).c.length = n at k0 hw hd
        clear hs ho hv hh hg hg2 hit hR hf hlen hlt
        go_enter Try.func7, Try.ntmps7
        go_wp2_with fail
        refine (head_any _).mono ?_
        rintro e w1 ⟨rfl, b1⟩
        have hU := hU w1 b1
        go_wp2_with fail
        refine hU.mono ?_
        rintro e w2 ⟨rfl, b2⟩
        have b2 := b1.trans (b2.mono b1.size)
        have k2 := cell_later b2 k1
        have hP := hP w2 b2
        clear hU k1 b1
        go_wp2_with fail
        refine hP.mono ?_
        rintro e w3 ⟨A3, c3, rfl, _, b3⟩
        have b3 := b2.trans (b3.mono b2.size)
        have hL := hL w3 b3
        clear hP b2 k2
        go_wp2_with fail
        refine hL.mono ?_
        rintro e w4 ⟨rfl, b4⟩
        have b4 := b3.trans (b4.mono b3.size)
        have k4 := Lib.cell?_alloc_some (.cells #[.int .i64 a, .int .u64 b] 32) (cell_later b4 k0)
        clear hL b3 k0
        go_wp2
        go_ret
        exact ⟨rfl, b4.alloc b4.size _⟩
      · have hR := out_put hh hg2 (k := (k : Int)) (by simp; omega) v
        have hS := out_load hh hg2 (k := (k : Int)) (by simp; omega)
        have hd : (obAt l t).c.length ≤ k := by omega
        unfold ObAns at hP
        rw [hR] at hP
        rw [hS] at hL
        simp only at hL hP
        generalize (obAt l t).c.length = n at k0 hw hd
        clear hs ho hv hh hg hg2 hR hS hlen hlt
        go_enter Try.func7, Try.ntmps7
        go_wp2_with fail
        refine (head_any _).mono ?_
        rintro e w1 ⟨rfl, b1⟩
        have hU := hU w1 b1
        go_wp2_with fail
        refine hU.mono ?_
        rintro e w2 ⟨rfl, b2⟩
        have b2 := b1.trans (b2.mono b1.size)
        have k2 := cell_later b2 k1
        have hP := hP w2 b2
        clear hU k1 b1
        go_wp2_with fail
        refine hP.mono ?_
        rintro e w3 ⟨A3, c3, rfl, _, b3⟩
        have b3 := b2.trans (b3.mono b2.size)
        have hL := hL w3 b3
        clear hP b2 k2
        go_wp2_with fail
        refine hL.mono ?_
        rintro e w4 ⟨rfl, b4⟩
        have b4 := b3.trans (b4.mono b3.size)
        have k4 := Lib.cell?_alloc_some (.cells #[.int .i64 0, .int .u64 0] 32) (cell_later b4 k0)
        clear hL b3 k0
        go_wp2
        go_ret
        exact ⟨rfl, b4.alloc b4.size _⟩

set_option maxRecDepth 100000 in
theorem heapOut_lifted (os : Os) (started : os.Started) (H : Type) (enc : TypeId × Value → H) :
    ReturnsInHanded {} Try.checked os 7 .any (Rows.heapOutSpec.pre6 enc Try.prog Try.f7 Rows.heapOutRow.domain false) (Rows.heapOutSpec.post enc Try.prog Try.f7 false true false false) := by
  refine returnsInHanded_of_change (C := Try.checked) Try.own started (by kernel_rfl) Try.func7
    (ChangeSpec.witness6 (enc := enc) (C := Try.checked) false ⟨#[], #[.slice none 0 0, .int .i64 0, .int .u64 0, .int .u64 0], []⟩ 8 (by kernel_rfl) (by kernel_rfl) (by kernel_rfl) (by kernel_rfl)) ?_
  intro W base args ds gs before hval0 hW hcnd _
  have hval : ∀ (j : Nat) t v, Try.f7.params[j]? = some t → args[j]? = some v → Value.okWide Try.prog W .any base t v := hval0
  have hW' := hW
  obtain ⟨p, q, hA0, hV, rfl, hfz, hnd⟩ := hW
  have hA : DataW.TrodAll enc Try.prog W 0 (fun _ => true) true Try.f7.params.toList args.toList ds p := hA0
  rw [Try.params7] at hA hval
  obtain ⟨v0, vs0, d0, ds0, p0, q0, hargs, rfl, rfl, h0, r0⟩ := trodAll_cons hA
  obtain ⟨v1, vs1, d1, ds1, p1, q1, rfl, rfl, rfl, h1, r1⟩ := trodAll_cons r0
  obtain ⟨v2, vs2, d2, ds2, p2, q2, rfl, rfl, rfl, h2, r2⟩ := trodAll_cons r1
  obtain ⟨v3, vs3, d3, ds3, p3, q3, rfl, rfl, rfl, h3, r3⟩ := trodAll_cons r2
  obtain ⟨rfl, rfl, rfl⟩ := trodAll_nil r3
  obtain rfl : args = #[v0, v1, v2, v3] := by cases args; simp_all
  obtain ⟨rfl, rfl⟩ := trodVars_none hV
  simp only [List.append_nil] at hW'
  have hlt : ∀ x ∈ p0 ++ (p1 ++ (p2 ++ (p3))), x.block < W.heap.size := fun x hx => by simpa using hW'.lt x hx
  have h0k := h0
  obtain ⟨l0, A0, c0, rfl, hs0, ho0⟩ := obs_open (hval 0 22 v0 rfl rfl) h0
  have h1k := h1
  obtain ⟨x1, rfl, rfl, hp1, wx1⟩ := open_int (show Try.prog.underlying 3 = some (.int .i64) by kernel_rfl) (hval 1 3 v1 rfl rfl) h1
  have h2k := h2
  obtain ⟨x2, rfl, rfl, hp2, wx2⟩ := open_int (show Try.prog.underlying 24 = some (.int .u64) by kernel_rfl) (hval 2 24 v2 rfl rfl) h2
  obtain ⟨n2, rfl, hu2⟩ := u64_nat wx2
  have h3k := h3
  obtain ⟨x3, rfl, rfl, hp3, wx3⟩ := open_int (show Try.prog.underlying 24 = some (.int .u64) by kernel_rfl) (hval 3 24 v3 rfl rfl) h3
  have hu3 := wf_u64 wx3
  clear hA0 hval0
  refine (HeapOut_any l0 x1 n2 x3 W A0 c0 hs0 ho0 hu3).mono fun e W' ⟨he, hB⟩ => ?_
  subst he
  refine ⟨_, rfl, _, _, _, [], p0 ++ (p1 ++ (p2 ++ (p3 ++ []))), [], hW', trodAll_mk1 (shut_bool Try.underlying4 _), ?_, rfl, hB.frame _, fun h => by cases h⟩
  exact trodAll_cons_mk (Below.trod Try.laidOut (by kernel_rfl) (of_decide_eq_true (by kernel_rfl)) h0k hB (fun x hx => hlt x (by simp [hx]))) (trodAll_cons_mk (Below.trod Try.laidOut (by kernel_rfl) (of_decide_eq_true (by kernel_rfl)) h1k hB (fun x hx => hlt x (by simp [hx]))) (trodAll_cons_mk (Below.trod Try.laidOut (by kernel_rfl) (of_decide_eq_true (by kernel_rfl)) h2k hB (fun x hx => hlt x (by simp [hx]))) (trodAll_cons_mk (Below.trod Try.laidOut (by kernel_rfl) (of_decide_eq_true (by kernel_rfl)) h3k hB (fun x hx => hlt x (by simp [hx]))) (trodAll_mk0))))

theorem heapOut_holds : Rows.HeapOutSaid :=
  OpenClaim.holds_of_wide 7 Try.f7 rfl rfl rfl rfl rfl rfl rfl ⟨rfl, rfl, rfl, rfl, rfl⟩ rfl rfl rfl rfl rfl (by kernel_rfl) Try.func7 (by kernel_rfl)
    (of_decide_eq_true (by kernel_rfl)) (by unfold Func.isWrapper; first | (rw [if_neg (of_decide_eq_false (by kernel_rfl))]; exact ⟨rfl, rfl⟩) | (rw [if_pos (by decide +kernel)]; kernel_rfl) | (rw [if_neg (by decide +kernel)]; exact ⟨rfl, rfl⟩))
    (fun os started H enc _ => heapOut_lifted os started H enc)
#print axioms heapOut_holds
end Go.Proofs.Yteekppohhjlmmaa
