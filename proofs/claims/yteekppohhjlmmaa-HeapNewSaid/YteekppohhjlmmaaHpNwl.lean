/- HeapNew: for every input the statement's function returns true, and the input reads afterwards as it read before. No condition. -/
import Derived.Test.YteekppohhjlmmaaHpHd
import Derived.Test.YteekppohhjlmmaaHpSam
import Derived.Test.YteekppohhjlmmaaHpFr
import Derived.ProofKit
import Derived.Lib.SmallJoins
namespace Go.Proofs.Yteekppohhjlmmaa
open Go.ChangeShapes Go.WideShapes Go.ChangeAt Go.RowKit Go.Joins

theorem new_plain {l : List Ob} {ws : List Int} (hv : obsV l = true) (hw : ws.all wV = true) (h8 : l.length ≠ 8) (h16 : ws.length ≤ 16) (v : Int) : ∃ m, newR l ws = (m, (l.length : Int), 0, 0) ∧ m = l ++ [newOb ws] ∧ faultsB (loadR m l.length ws.length) 2 = true ∧
    ∀ (i : Nat) (h : i < ws.length), ∃ m1, putR m l.length i v = (m1, 0, 0) ∧ loadR m1 l.length i = ((ws[i], low ws[i] v), 0, 0) ∧ faultsB (loadR m l.length i) 4 = true ∧ m1.length = m.length := by
  have hm := new_valid hv hw h8 h16
  have hat : obAt (l ++ [newOb ws]) ((l.length : Nat) : Int).toNat = newOb ws := by
    rw [Int.toNat_natCast, obAt_append, if_neg (by omega), Nat.sub_self]; rfl
  have hh : hasO (l ++ [newOb ws]) (l.length : Int) = true := hasO_iff.2 ⟨hm, by omega, by simp; omega⟩
  have hl : (newOb ws).c.length = ws.length := by simp [newOb]
  refine ⟨_, new_ok hv hw h8 h16, rfl, ?_, fun i hi => ?_⟩
  · rw [out_load hh (by rw [hat]; rfl) (by rw [hat, hl]; omega)]; rfl
  · have hit : Hit (l ++ [newOb ws]) (l.length : Int) (i : Int) := ⟨hh, by rw [hat]; rfl, by rw [hat, hl]; omega⟩
    have hc : ceAt (newOb ws).c i = ⟨ws[i], false, 0⟩ := by
      rw [ceAt_eq (by rw [hl]; exact hi)]; simp [newOb]
    refine ⟨_, hit_put hit v, ?_, ?_, by simp⟩
    · have h1 := load_same (v := v) hit (by omega)
      rw [h1, hat]
      simp only [Int.toNat_natCast]
      rw [hc]
    · unfold loadR
      rw [if_neg (by rw [hh]; decide), hat]
      simp only [Int.toNat_natCast]
      rw [hc, hl, if_neg (show ¬ ((newOb ws).g = true) by simp [newOb])]
      simp only [Bool.false_eq_true, if_false]
      rw [if_neg (by omega)]
      rfl
theorem obSl_prefix {w : World} {A : Option Addr} {c : Nat} {l : List Ob} {x : Ob} (h : ObSl w A c (l ++ [x])) : ObSl w A c l := by
  refine ⟨Nat.le_trans (by simp) h.1, h.2.1, h.2.2.1, fun i hi => ?_⟩
  have h1 := h.2.2.2 i (by simp; omega)
  rw [List.getElem_append_left hi] at h1
  exact h1
set_option maxRecDepth 100000 in
set_option maxHeartbeats 4800000 in
theorem HeapNew_any (l : List Ob) (ws : List Int) (v : Int) (w : World) (A Aw : Option Addr) (c cw : Nat) (hs : ObSl w A c l) (ho : oks l) (hr : IRow w Aw ws) (hw : ws.length ≤ maxLen) (hv : U64 v) :
    Calls Try.prog 5 #[.slice A l.length c, .slice Aw ws.length cw, .int .u64 v] w fun e w' => e = .returned (.bool true) ∧ Below w.heap.size w w' := by
  have hF : ∀ w1, Below w.heap.size w w1 → _ := fun w1 h1 => Few_any l w1 A c (hs.later h1)
  have hV : ∀ w1, Below w.heap.size w w1 → _ := fun w1 h1 => RValid_any l w1 A c (hs.later h1) ho
  cases hf : fewO l with
  | false =>
    rw [hf] at hF
    clear hV hs ho hr hf
    go_enter Try.func5, Try.ntmps5
    go_wp2_with fail
    refine (head_any _).mono ?_
    rintro e w1 ⟨rfl, b1⟩
    have hF := hF w1 b1
    go_wp2_with fail
    refine hF.mono ?_
    rintro e w2 ⟨rfl, b2⟩
    have b2 := b1.trans (b2.mono b1.size)
    clear hF b1
    go_wp2
    go_ret
    exact ⟨rfl, b2⟩
  | true =>
    rw [hf] at hF
    cases hva : obsV l with
    | false =>
      rw [hva] at hV
      clear hs ho hr hf hva
      go_enter Try.func5, Try.ntmps5
      go_wp2_with fail
      refine (head_any _).mono ?_
      rintro e w1 ⟨rfl, b1⟩
      have hF := hF w1 b1
      go_wp2_with fail
      refine hF.mono ?_
      rintro e w2 ⟨rfl, b2⟩
      have b2 := b1.trans (b2.mono b1.size)
      clear hF b1
      have hV := hV w2 b2
      go_wp2_with fail
      refine hV.mono ?_
      rintro e w3 ⟨rfl, b3⟩
      have b3 := b2.trans (b3.mono b2.size)
      clear hV b2
      go_wp2
      go_ret
      exact ⟨rfl, b3⟩
    | true =>
      rw [hva] at hV
      by_cases h40 : 40 < ws.length
      · have hd : (40 : Int) < (ws.length : Int) := by omega
        clear hs ho hr hf hva h40
        go_enter Try.func5, Try.ntmps5
        go_wp2_with fail
        refine (head_any _).mono ?_
        rintro e w1 ⟨rfl, b1⟩
        have hF := hF w1 b1
        go_wp2_with fail
        refine hF.mono ?_
        rintro e w2 ⟨rfl, b2⟩
        have b2 := b1.trans (b2.mono b1.size)
        clear hF b1
        have hV := hV w2 b2
        go_wp2_with fail
        refine hV.mono ?_
        rintro e w3 ⟨rfl, b3⟩
        have b3 := b2.trans (b3.mono b2.size)
        clear hV b2
        go_wp2
        go_ret
        exact ⟨rfl, b3⟩
      · have hd : ¬ (40 : Int) < (ws.length : Int) := by omega
        have hl8 := obsV_len hva
        have hN : ∀ w1, Below w.heap.size w w1 → _ := fun w1 h1 => New_any l ws w1 A Aw c cw (hs.later h1) (hr.later h1) hw
        unfold NewAns at hN
        have hhs := Lib.hid hs
        have hhr := Lib.hid hr
        have hhv := Lib.hid hv
        have hva := Lib.hid hva
        clear ho hf hw hs hv
        go_enter Try.func5, Try.ntmps5
        go_wp2_with fail
        refine (head_any _).mono ?_
        rintro e w1 ⟨rfl, b1⟩
        have hF := hF w1 b1
        go_wp2_with fail
        refine hF.mono ?_
        rintro e w2 ⟨rfl, b2⟩
        have b2 := b1.trans (b2.mono b1.size)
        clear hF b1
        have hV := hV w2 b2
        go_wp2_with fail
        refine hV.mono ?_
        rintro e w3 ⟨rfl, b3⟩
        have b3 := b2.trans (b3.mono b2.size)
        clear hV b2
        go_wp2_with fail
        go_loopw [39] (fun x wr => ∃ i : Nat, i ≤ ws.length ∧ x = .int .i64 i ∧ Hid ((ws.take i).all wV = true) ∧ Below w.heap.size w wr) (fun x _ => ws.length - iOf x)
        case atStart => exact ⟨0, Nat.zero_le _, rfl, Lib.hid (by simp), b3⟩
        case round =>
          rename_i wr
          clear b3
          obtain ⟨i, hi, rfl, hA, b3⟩ := hrel
          by_cases hlt : i < ws.length
          · have hlc : (i : Int) < ws.length := by omega
            have hwi : IntKind.i64.wrap ((i : Int) + 1) = ((i + 1 : Nat) : Int) := by rw [IntWalk.i64_in _ (by omega)]; omega
            obtain ⟨g, o, rfl, k0⟩ := hhr.out i hlt
            have k0 := cell_later b3 k0
            have hsn := Lib.hid (all_snoc wV ws i hlt hA.out)
            obtain ⟨n, hn⟩ : ∃ n, Hid (ws[i] = n) := ⟨_, Lib.hid rfl⟩
            rw [hn.out] at k0
            rw [hn.out] at hsn
            clear hA hn hr
            by_cases n1 : n < 1
            · go_wp2
              go_ret
              exact ⟨rfl, b3⟩
            · by_cases n2 : 64 < n
              · go_wp2
                go_ret
                exact ⟨rfl, b3⟩
              · have hA : Hid ((ws.take (i + 1)).all wV = true) := Lib.hid (by rw [hsn.out]; exact wV_iff.2 ⟨by omega, by omega⟩)
                go_wp2_with fail
                go_roundw
                case rel => exact ⟨i + 1, hlt, rfl, hA, b3⟩
                case measure => simp only [iOf]; omega
          · have hie : i = ws.length := by omega
            subst hie
            have hA := hA.out
            rw [List.take_length] at hA
            have hN := hN wr b3
            clear hr hi hlt
            by_cases hfull : l.length = 8 ∨ 16 < ws.length
            · rw [new_full hva.out hA hfull] at hN
              simp only at hN
              have hfl : ((16 : Int) < (ws.length : Int)) ∨ (¬ (16 : Int) < (ws.length : Int) ∧ (8 : Int) ≤ (l.length : Int)) := by omega
              clear hA hfull hl8
              rcases hfl with q1 | ⟨q1, q2⟩
              all_goals
                go_wp2_with fail
                refine hN.mono ?_
                rintro e w4 ⟨A4, c4, rfl, _, b4⟩
                have b4 := b3.trans (b4.mono b3.size)
                clear hN b3
                go_wp2
                go_ret
                exact ⟨rfl, b4⟩
            · obtain ⟨m, e1, e2, e3, e4⟩ := new_plain hva.out hA (by omega) (by omega) v
              rw [e1] at hN
              simp only at hN
              have e4 := Lib.hid e4
              have q1 : ¬ (16 : Int) < (ws.length : Int) := by omega
              have q2 : ¬ (8 : Int) ≤ (l.length : Int) := by omega
              have hml : m.length = l.length + 1 := by rw [e2]; simp
              have hAll := Lib.hid hA
              have e2 := Lib.hid e2
              clear hfull hA e1
              go_wp2_with fail
              refine hN.mono ?_
              rintro e w4 ⟨A4, c4, rfl, hm, b4⟩
              have b4 := b3.trans (b4.mono b3.size)
              clear hN b3
              obtain ⟨g, o, _, _, eA, _⟩ := hm.at_ (t := 0) (by omega)
              subst eA
              have hpre : ObSl w4 (some ⟨g, o, none⟩) c4 l := obSl_prefix (by rw [← e2.out]; exact hm)
              have hcap := hm.1
              have hcap2 := hm.2.1
              have hS := Same_eq l w4 _ A c4 c hpre (hhs.out.later b4) (by omega) (fun t ht => Nat.le_trans (obV_len (obsV_mem hva.out _ (obAt_mem ht))) (by decide))
              have hwl : IntKind.i64.wrap ((l.length : Int) + 1) = ((l.length + 1 : Nat) : Int) := by rw [IntWalk.i64_in _ (by omega)]; omega
              have hwu : IntKind.u64.wrap (ws.length : Int) = ws.length := IntWalk.u64_in _ (by omega)
              go_wp2_with fail
              refine hS.mono ?_
              rintro e w5 ⟨rfl, b5⟩
              have hm := hm.later b5
              have b5 := b4.trans (b5.mono b4.size)
              have hX := faults_any m l.length ws.length 2 w5 _ c4 hm
              rw [e3, hml] at hX
              clear hS b4 hpre
              go_wp2_with fail
              refine hX.mono ?_
              rintro e w6 ⟨rfl, b6⟩
              have hm := hm.later b6
              have b6 := b5.trans (b6.mono b5.size)
              clear hX b5
              go_wp2_with fail
              go_loopw [122] (fun x wr => ∃ i : Nat, i ≤ ws.length ∧ x = .int .i64 i ∧ Below w.heap.size w wr ∧ ObSl wr (some ⟨g, o, none⟩) c4 m) (fun x _ => ws.length - iOf x)
              case atStart => exact ⟨0, Nat.zero_le _, rfl, b6, hm⟩
              case round =>
                clear b6 hm
                obtain ⟨i, hi, rfl, b6, hm⟩ := hrel
                by_cases hlt : i < ws.length
                · have hlc : (i : Int) < ws.length := by omega
                  have hwi : IntKind.i64.wrap ((i : Int) + 1) = ((i + 1 : Nat) : Int) := by rw [IntWalk.i64_in _ (by omega)]; omega
                  have hwu2 : IntKind.u64.wrap (i : Int) = i := IntWalk.u64_in _ (by omega)
                  obtain ⟨gw, ow, rfl, k0⟩ := hhr.out i hlt
                  have k0 := cell_later b6 k0
                  obtain ⟨m1, p1, p2, p3, p4⟩ := e4.out i hlt
                  have hwn := wV_iff.1 (List.all_eq_true.1 hAll.out ws[i] (List.getElem_mem hlt))
                  generalize ws[i] = n at k0 p2 hwn
                  have hP := Put_any m l.length i v wr _ c4 hm hhv.out
                  unfold ObAns at hP
                  rw [p1, hml] at hP
                  simp only at hP
                  rw [p4, hml] at hP
                  have hO := fun w => Of_any n v w ⟨by omega, hwn.2⟩ hhv.out.1
                  have hO := Lib.hid hO
                  clear hwn p1
                  go_wp2_with fail
                  refine hP.mono ?_
                  rintro e w7 ⟨A7, c7, rfl, hm7, b7⟩
                  have hm := hm.later b7
                  have b7 := b6.trans (b7.mono b6.size)
                  have hL := Load_any m1 l.length i w7 A7 c7 hm7
                  rw [p2, p4, hml] at hL
                  simp only at hL
                  have k1 := k0
                  clear hP b6
                  go_wp2_with fail
                  refine hL.mono ?_
                  rintro e w8 ⟨rfl, b8⟩
                  have hm := hm.later b8
                  have b8 := b7.trans (b8.mono b7.size)
                  clear hL b7 hm7 p2
                  have N := Box.new w8 32 #[.int .i64 n, .int .u64 (low n v)]
                  have bA : Below w8.heap.size w8 (w8.alloc (.cells #[.int .i64 n, .int .u64 (low n v)] 32)) := (Below.refl _ _).alloc (Nat.le_refl _) _
                  have hm := hm.later bA
                  have b9 := b8.trans (bA.mono b8.size)
                  go_upto_region 22 with fail
                  obtain ⟨X, hX⟩ : ∃ Y, w8.alloc (.cells #[.int .i64 n, .int .u64 (low n v)] 32) = Y := ⟨_, rfl⟩
                  rw [hX] at hm b9 N
                  simp only [hX]
                  obtain ⟨B, hB⟩ : ∃ b, Hid (w8.heap.size = b) := ⟨_, Lib.hid rfl⟩
                  rw [hB.out] at N
                  simp only [hB.out]
                  clear hX bA b8 hB k0 k1
                  have x2 : X.cell? ⟨B, 0, none⟩ = some (.int .i64 n) := N.cell 0
                  have x3 : X.cell? ⟨B, 1, none⟩ = some (.int .u64 (low n v)) := N.cell 1
                  have hmk : Hid (∀ w', Bel X w' → (w'.cell? ⟨B, 0, none⟩ = some (.int .i64 n) ∧ w'.cell? ⟨B, 1, none⟩ = some (.int .u64 (low n v)) ∧ Bel X w')) := Lib.hid (fun w' h => ⟨h.cell x2, h.cell x3, h⟩)
                  have hFa : Hid (∀ w', Bel X w' → Calls Try.prog 26 #[.slice (some ⟨g, o, none⟩) (l.length + 1) c4, .int .i64 l.length, .int .u64 (i : Nat), .int .i64 4] w' fun e w2 => e = .returned (.bool true) ∧ Below w'.heap.size w' w2) := Lib.hid (fun w' h => by
                    have hf := faults_any m l.length i 4 w' _ c4 (hm.later h)
                    rw [p3, hml] at hf
                    exact hf)
                  have hq0 := Bel.refl X
                  clear N
                  go_region_held3 (fun w' => w'.cell? ⟨B, 0, none⟩ = some (.int .i64 n) ∧ w'.cell? ⟨B, 1, none⟩ = some (.int .u64 (low n v)) ∧ Bel X w') ((first | assumption | (refine hmk.out _ ?_; repeat (first | assumption | exact hq0 | refine Bel.drew ?_)))) (first | (go_at_call 24; refine (hO.out _).mono ?_; rintro e w10 ⟨rfl, b10⟩; have hS10 : Bel X w10 := Bel.below (by first | assumption | exact Bel.drew hq0) b10) | (go_at_call 26; refine (hFa.out _ (by first | assumption | exact Bel.drew hq0)).mono ?_; rintro e w11 ⟨rfl, b11⟩; have hS11 : Bel X w11 := Bel.below (by first | assumption | exact Bel.drew hq0) b11))
                  all_goals
                    have hm11 := hm.later hS11
                    have b12 := b9.trans (Below.mono hS11 b9.size)
                    clear hmk hFa x2 x3 b9 hm
                    go_wp2_with fail
                    go_roundw
                    case rel => exact ⟨i + 1, hlt, rfl, b12, hm11⟩
                    case measure => simp only [iOf]; omega
                · have hie : i = ws.length := by omega
                  subst hie
                  go_wp2
                  go_ret
                  exact ⟨rfl, b6⟩

set_option maxRecDepth 100000 in
theorem heapNew_lifted (os : Os) (started : os.Started) (H : Type) (enc : TypeId × Value → H) :
    ReturnsInHanded {} Try.checked os 5 .any (Rows.heapNewSpec.pre6 enc Try.prog Try.f5 Rows.heapNewRow.domain false) (Rows.heapNewSpec.post enc Try.prog Try.f5 false true false false) := by
  refine returnsInHanded_of_change (C := Try.checked) Try.own started (by kernel_rfl) Try.func5
    (ChangeSpec.witness6 (enc := enc) (C := Try.checked) false ⟨#[], #[.slice none 0 0, .slice none 0 0, .int .u64 0], []⟩ 8 (by kernel_rfl) (by kernel_rfl) (by kernel_rfl) (by kernel_rfl)) ?_
  intro W base args ds gs before hval0 hW hcnd _
  have hval : ∀ (j : Nat) t v, Try.f5.params[j]? = some t → args[j]? = some v → Value.okWide Try.prog W .any base t v := hval0
  have hW' := hW
  obtain ⟨p, q, hA0, hV, rfl, hfz, hnd⟩ := hW
  have hA : DataW.TrodAll enc Try.prog W 0 (fun _ => true) true Try.f5.params.toList args.toList ds p := hA0
  rw [Try.params5] at hA hval
  obtain ⟨v0, vs0, d0, ds0, p0, q0, hargs, rfl, rfl, h0, r0⟩ := trodAll_cons hA
  obtain ⟨v1, vs1, d1, ds1, p1, q1, rfl, rfl, rfl, h1, r1⟩ := trodAll_cons r0
  obtain ⟨v2, vs2, d2, ds2, p2, q2, rfl, rfl, rfl, h2, r2⟩ := trodAll_cons r1
  obtain ⟨rfl, rfl, rfl⟩ := trodAll_nil r2
  obtain rfl : args = #[v0, v1, v2] := by cases args; simp_all
  obtain ⟨rfl, rfl⟩ := trodVars_none hV
  simp only [List.append_nil] at hW'
  have hlt : ∀ x ∈ p0 ++ (p1 ++ (p2)), x.block < W.heap.size := fun x hx => by simpa using hW'.lt x hx
  have h0k := h0
  obtain ⟨l0, A0, c0, rfl, hs0, ho0⟩ := obs_open (hval 0 22 v0 rfl rfl) h0
  have h1k := h1
  obtain ⟨l1, A1, c1, rfl, hr1, hi1, hl1⟩ := ints_open (hval 1 23 v1 rfl rfl) h1
  have h2k := h2
  obtain ⟨x2, rfl, rfl, hp2, wx2⟩ := open_int (show Try.prog.underlying 24 = some (.int .u64) by kernel_rfl) (hval 2 24 v2 rfl rfl) h2
  have hu2 := wf_u64 wx2
  clear hA0 hval0
  refine (HeapNew_any l0 l1 x2 W A0 A1 c0 c1 hs0 ho0 hr1 hl1 hu2).mono fun e W' ⟨he, hB⟩ => ?_
  subst he
  refine ⟨_, rfl, _, _, _, [], p0 ++ (p1 ++ (p2 ++ [])), [], hW', trodAll_mk1 (shut_bool Try.underlying4 _), ?_, rfl, hB.frame _, fun h => by cases h⟩
  exact trodAll_cons_mk (Below.trod Try.laidOut (by kernel_rfl) (of_decide_eq_true (by kernel_rfl)) h0k hB (fun x hx => hlt x (by simp [hx]))) (trodAll_cons_mk (Below.trod Try.laidOut (by kernel_rfl) (of_decide_eq_true (by kernel_rfl)) h1k hB (fun x hx => hlt x (by simp [hx]))) (trodAll_cons_mk (Below.trod Try.laidOut (by kernel_rfl) (of_decide_eq_true (by kernel_rfl)) h2k hB (fun x hx => hlt x (by simp [hx]))) (trodAll_mk0)))

theorem heapNew_holds : Rows.HeapNewSaid :=
  OpenClaim.holds_of_wide 5 Try.f5 rfl rfl rfl rfl rfl rfl rfl ⟨rfl, rfl, rfl, rfl, rfl⟩ rfl rfl rfl rfl rfl (by kernel_rfl) Try.func5 (by kernel_rfl)
    (of_decide_eq_true (by kernel_rfl)) (by unfold Func.isWrapper; first | (rw [if_neg (of_decide_eq_false (by kernel_rfl))]; exact ⟨rfl, rfl⟩) | (rw [if_pos (by decide +kernel)]; kernel_rfl) | (rw [if_neg (by decide +kernel)]; exact ⟨rfl, rfl⟩))
    (fun os started H enc _ => heapNew_lifted os started H enc)
#print axioms heapNew_holds
end Go.Proofs.Yteekppohhjlmmaa
