/- ssa: whether all instructions fit. -/
import Derived.Test.YtnbgadndkepomaaGreatDoorSaIns
import Derived.Test.YtnbgadndkepomaaGreatDoorSQF
namespace Go.Proofs.YtnbgadndkepomaaGreatDoor
open Go.RowKit

theorem fn_in : ∀ k : Nat, k < 37 → ∀ f, fnL.getD k none = some f → f = 66 ∨ f = 67 ∨ f = 68 ∨ f = 69 ∨ f = 70 ∨ f = 71 ∨ f = 72 ∨ f = 73 ∨ f = 74 ∨ f = 75 ∨ f = 76 ∨ f = 77 ∨ f = 78 ∨ f = 79 ∨ f = 80 ∨ f = 81 := by
  intro k hk f h
  have h2 : ((fnL.getD k none).all fun f => [66, 67, 68, 69, 70, 71, 72, 73, 74, 75, 76, 77, 78, 79, 80, 81].contains f) = true := (by decide : ∀ k : Nat, k < 37 → ((fnL.getD k none).all fun f => [66, 67, 68, 69, 70, 71, 72, 73, 74, 75, 76, 77, 78, 79, 80, 81].contains f) = true) k hk
  rw [h] at h2
  simpa using h2
set_option maxRecDepth 100000 in
set_option maxHeartbeats 3200000 in
theorem instructionsFit_any {W0 W : World} {p : Nat} {c : Cd} {x : Sl} {cs : Array Value} (h : Cod W0 W p c x cs) (ok : c.ok) (hl : ListsP c) (hop : ∀ i ∈ c.ins, OpP i.op) (hargs : ∀ i ∈ c.ins, ∀ v ∈ argsOf i, Ix v c.ins) :
    Calls Tryz.prog 52 #[.pointer (some ⟨p, 0, none⟩)] W fun e w' => e = .returned (.bool (B (InstrP c))) ∧ Below W.heap.size W w' := by
  have l2 := hl.2.2.2.1
  obtain ⟨R, hR⟩ : ∃ R, Hid (B (InstrP c) = R) := ⟨_, Lib.hid rfl⟩
  rw [hR.out]
  have s2 := h.pt.s2
  replace ok := Lib.hid ok
  replace hl := Lib.hid hl
  replace hop := Lib.hid hop
  replace hargs := Lib.hid hargs
  go_enter Tryz.func52, Tryz.ntmps52
  go_wp2_with fail
  clear s2
  go_loopw [11] (fun v wr => ∃ i : Nat, i ≤ c.ins.length ∧ v = .int .i64 i ∧ Hid (∀ (j : Nat) (hj : j < c.ins.length), j < i → InstP c c.ins[j]) ∧ Below W.heap.size W wr) (fun v _ => c.ins.length - iOf v)
  case atStart => exact ⟨0, Nat.zero_le _, rfl, Lib.hid (fun j _ h => by omega), Below.refl _ _⟩
  case round =>
    rename_i wr
    obtain ⟨i, hi, rfl, hI, hbw⟩ := hrel
    have hC := h.later hbw
    by_cases hlt : i < c.ins.length
    · obtain ⟨g, o, eI, c0, c1, c2, c3, c4, c5, c6, c7⟩ := hC.at_.i i hlt
      have hlc : (i : Int) < c.ins.length := by omega
      have hwi : IntKind.i64.wrap ((i : Int) + 1) = ((i + 1 : Nat) : Int) := by rw [IntWalk.i64_in _ (by omega)]; omega
      have hno : Hid (¬ InstP c c.ins[i] → R = false) := Lib.hid (fun hn => by rw [← hR.out]; exact B_not (fun h => hn (h _ (List.getElem_mem hlt))))
      have hst : Hid (InstP c c.ins[i] → ∀ (j : Nat) (hj : j < c.ins.length), j < i + 1 → InstP c c.ins[j]) := Lib.hid (fun hy j hj hji => by
        by_cases e : j = i
        · subst e; exact hy
        · exact hI.out j hj (by omega))
      have hyok := Lib.hid (ok.out.ins _ (List.getElem_mem hlt))
      have hyop := hop.out _ (List.getElem_mem hlt)
      have hyar := Lib.hid (hargs.out _ (List.getElem_mem hlt))
      obtain ⟨⟨op, iw, ip, ia, ib, ic, inn, iat⟩, hy⟩ : ∃ t, Hid (c.ins[i] = t) := ⟨_, Lib.hid rfl⟩
      simp only [hy.out] at c0 c1 c2 c3 c4 c5 c6 c7 hyok hyop hyar hno hst
      obtain ⟨k, rfl, hkl⟩ : ∃ k : Nat, op = k ∧ k < 37 := ⟨op.toNat, by have := op_lt hyop; omega, by have := op_lt hyop; omega⟩
      have N0 := Box.new wr 47 #[.int .i64 (k : Nat), .int .i64 iw, .int .i64 ip, .int .i64 ia, .int .i64 ib, .int .i64 ic, .int .u64 inn, .int .i64 iat]
      have bN : Below wr.heap.size wr (wr.alloc (.cells #[.int .i64 (k : Nat), .int .i64 iw, .int .i64 ip, .int .i64 ia, .int .i64 ib, .int .i64 ic, .int .u64 inn, .int .i64 iat] 47)) := (Below.refl _ _).alloc (Nat.le_refl _) _
      have hC3 := hC.later bN
      go_upto_region 4 with fail
      obtain ⟨w3, hw3⟩ : ∃ Y, wr.alloc (.cells #[.int .i64 (k : Nat), .int .i64 iw, .int .i64 ip, .int .i64 ia, .int .i64 ib, .int .i64 ic, .int .u64 inn, .int .i64 iat] 47) = Y := ⟨_, rfl⟩
      rw [hw3] at N0 bN hC3
      simp only [hw3]
      clear hw3 c0 c1 c2 c3 c4 c5 c6 c7 hC eI
      have bW3 := hbw.trans (bN.mono hbw.size)
      obtain ⟨bc, hbc⟩ : ∃ b, Hid (wr.heap.size = b) := ⟨_, Lib.hid rfl⟩
      rw [hbc.out] at N0
      simp only [hbc.out]
      have r2 := hC3.rown k hkl
      obtain ⟨fi, hfi⟩ : ∃ f, fnL.getD k none = some f := by
        have := row_op k hkl
        rw [decide_eq_true hyop] at this
        exact Option.isSome_iff_exists.1 this
      rw [hfi] at r2
      replace r2 : w3.cell? ⟨p, 4 + k * 3 + 2, none⟩ = some (.func (.func fi) #[] #[]) := r2
      have hcall : Hid (∀ X, Bel w3 X → Calls Tryz.prog fi #[.pointer (some ⟨p, 0, none⟩), .agg #[.int .i64 (k : Nat), .int .i64 iw, .int .i64 ip, .int .i64 ia, .int .i64 ib, .int .i64 ic, .int .u64 inn, .int .i64 iat]] X fun e w' => e = .returned (.bool (B (InstP c ⟨k, iw, ip, ia, ib, ic, inn, iat⟩))) ∧ Below X.heap.size X w') :=
        Lib.hid (fun X hX => fits_any (hC3.pt.later hX) ok.out hl.out.1 hl.out.2.1 ⟨k, iw, ip, ia, ib, ic, inn, iat⟩ hyok.out k rfl hyop hyar.out fi hfi)
      have hcase := fn_in k hkl fi hfi
      have hkk : (k : Int) < 37 := by omega
      obtain ⟨O, hO⟩ : ∃ O, Hid (B (InstP c ⟨k, iw, ip, ia, ib, ic, inn, iat⟩) = O) := ⟨_, Lib.hid rfl⟩
      simp only [hO.out] at hcall
      have hmk : ∀ X, Bel w3 X → X.cell? ⟨bc, 0, none⟩ = some (.int .i64 (k : Nat)) ∧ X.cell? ⟨bc, 1, none⟩ = some (.int .i64 iw) ∧ X.cell? ⟨bc, 2, none⟩ = some (.int .i64 ip) ∧ X.cell? ⟨bc, 3, none⟩ = some (.int .i64 ia) ∧ X.cell? ⟨bc, 4, none⟩ = some (.int .i64 ib) ∧ X.cell? ⟨bc, 5, none⟩ = some (.int .i64 ic) ∧ X.cell? ⟨bc, 6, none⟩ = some (.int .u64 inn) ∧ X.cell? ⟨bc, 7, none⟩ = some (.int .i64 iat) ∧ X.cell? ⟨p, 4 + k * 3 + 2, none⟩ = some (.func (.func fi) #[] #[]) ∧ Bel w3 X := fun X h => ⟨h.cell (N0.cell 0), h.cell (N0.cell 1), h.cell (N0.cell 2), h.cell (N0.cell 3), h.cell (N0.cell 4), h.cell (N0.cell 5), h.cell (N0.cell 6), h.cell (N0.cell 7), h.cell r2, h⟩
      have hq0 := Bel.refl w3
      replace hI := hI
      clear hyop hyar hyok hy hfi r2 hC3 N0 bN hI hR
      rcases hcase with rfl | rfl | rfl | rfl | rfl | rfl | rfl | rfl | rfl | rfl | rfl | rfl | rfl | rfl | rfl | rfl
      · go_region_held3 (fun w' => w'.cell? ⟨bc, 0, none⟩ = some (.int .i64 (k : Nat)) ∧ w'.cell? ⟨bc, 1, none⟩ = some (.int .i64 iw) ∧ w'.cell? ⟨bc, 2, none⟩ = some (.int .i64 ip) ∧ w'.cell? ⟨bc, 3, none⟩ = some (.int .i64 ia) ∧ w'.cell? ⟨bc, 4, none⟩ = some (.int .i64 ib) ∧ w'.cell? ⟨bc, 5, none⟩ = some (.int .i64 ic) ∧ w'.cell? ⟨bc, 6, none⟩ = some (.int .u64 inn) ∧ w'.cell? ⟨bc, 7, none⟩ = some (.int .i64 iat) ∧ w'.cell? ⟨p, 4 + k * 3 + 2, none⟩ = some (.func (.func 66) #[] #[]) ∧ Bel w3 w') ((first | assumption | (refine hmk _ ?_; repeat (first | assumption | exact hq0 | refine Bel.drew ?_)))) (first | (go_at_call 66; refine (hcall.out _ (by first | assumption | exact Bel.drew hq0)).mono ?_; rintro e w6 ⟨rfl, b6⟩; have hS6 : Bel w3 w6 := Bel.below (Bel.drew hq0) b6))
        cases O with
        | false =>
          have hQ := Lib.hid (hno.out (B_false.1 hO.out))
          clear hst hno hO hmk hcall
          go_wp2
          go_ret
          exact ⟨by rw [hQ.out]; rfl, bW3.trans (Below.mono hS6 bW3.size)⟩
        | true =>
          have hN := Lib.hid (hst.out (B_true.1 hO.out))
          clear hst hno hO hmk hcall
          go_wp2_with fail
          go_roundw
          case rel => exact ⟨i + 1, hlt, by go_num, hN, bW3.trans (Below.mono hS6 bW3.size)⟩
          case measure => simp only [iOf]; omega
      · go_region_held3 (fun w' => w'.cell? ⟨bc, 0, none⟩ = some (.int .i64 (k : Nat)) ∧ w'.cell? ⟨bc, 1, none⟩ = some (.int .i64 iw) ∧ w'.cell? ⟨bc, 2, none⟩ = some (.int .i64 ip) ∧ w'.cell? ⟨bc, 3, none⟩ = some (.int .i64 ia) ∧ w'.cell? ⟨bc, 4, none⟩ = some (.int .i64 ib) ∧ w'.cell? ⟨bc, 5, none⟩ = some (.int .i64 ic) ∧ w'.cell? ⟨bc, 6, none⟩ = some (.int .u64 inn) ∧ w'.cell? ⟨bc, 7, none⟩ = some (.int .i64 iat) ∧ w'.cell? ⟨p, 4 + k * 3 + 2, none⟩ = some (.func (.func 67) #[] #[]) ∧ Bel w3 w') ((first | assumption | (refine hmk _ ?_; repeat (first | assumption | exact hq0 | refine Bel.drew ?_)))) (first | (go_at_call 67; refine (hcall.out _ (by first | assumption | exact Bel.drew hq0)).mono ?_; rintro e w6 ⟨rfl, b6⟩; have hS6 : Bel w3 w6 := Bel.below (Bel.drew hq0) b6))
        cases O with
        | false =>
          have hQ := Lib.hid (hno.out (B_false.1 hO.out))
          clear hst hno hO hmk hcall
          go_wp2
          go_ret
          exact ⟨by rw [hQ.out]; rfl, bW3.trans (Below.mono hS6 bW3.size)⟩
        | true =>
          have hN := Lib.hid (hst.out (B_true.1 hO.out))
          clear hst hno hO hmk hcall
          go_wp2_with fail
          go_roundw
          case rel => exact ⟨i + 1, hlt, by go_num, hN, bW3.trans (Below.mono hS6 bW3.size)⟩
          case measure => simp only [iOf]; omega
      · go_region_held3 (fun w' => w'.cell? ⟨bc, 0, none⟩ = some (.int .i64 (k : Nat)) ∧ w'.cell? ⟨bc, 1, none⟩ = some (.int .i64 iw) ∧ w'.cell? ⟨bc, 2, none⟩ = some (.int .i64 ip) ∧ w'.cell? ⟨bc, 3, none⟩ = some (.int .i64 ia) ∧ w'.cell? ⟨bc, 4, none⟩ = some (.int .i64 ib) ∧ w'.cell? ⟨bc, 5, none⟩ = some (.int .i64 ic) ∧ w'.cell? ⟨bc, 6, none⟩ = some (.int .u64 inn) ∧ w'.cell? ⟨bc, 7, none⟩ = some (.int .i64 iat) ∧ w'.cell? ⟨p, 4 + k * 3 + 2, none⟩ = some (.func (.func 68) #[] #[]) ∧ Bel w3 w') ((first | assumption | (refine hmk _ ?_; repeat (first | assumption | exact hq0 | refine Bel.drew ?_)))) (first | (go_at_call 68; refine (hcall.out _ (by first | assumption | exact Bel.drew hq0)).mono ?_; rintro e w6 ⟨rfl, b6⟩; have hS6 : Bel w3 w6 := Bel.below (Bel.drew hq0) b6))
        cases O with
        | false =>
          have hQ := Lib.hid (hno.out (B_false.1 hO.out))
          clear hst hno hO hmk hcall
          go_wp2
          go_ret
          exact ⟨by rw [hQ.out]; rfl, bW3.trans (Below.mono hS6 bW3.size)⟩
        | true =>
          have hN := Lib.hid (hst.out (B_true.1 hO.out))
          clear hst hno hO hmk hcall
          go_wp2_with fail
          go_roundw
          case rel => exact ⟨i + 1, hlt, by go_num, hN, bW3.trans (Below.mono hS6 bW3.size)⟩
          case measure => simp only [iOf]; omega
      · go_region_held3 (fun w' => w'.cell? ⟨bc, 0, none⟩ = some (.int .i64 (k : Nat)) ∧ w'.cell? ⟨bc, 1, none⟩ = some (.int .i64 iw) ∧ w'.cell? ⟨bc, 2, none⟩ = some (.int .i64 ip) ∧ w'.cell? ⟨bc, 3, none⟩ = some (.int .i64 ia) ∧ w'.cell? ⟨bc, 4, none⟩ = some (.int .i64 ib) ∧ w'.cell? ⟨bc, 5, none⟩ = some (.int .i64 ic) ∧ w'.cell? ⟨bc, 6, none⟩ = some (.int .u64 inn) ∧ w'.cell? ⟨bc, 7, none⟩ = some (.int .i64 iat) ∧ w'.cell? ⟨p, 4 + k * 3 + 2, none⟩ = some (.func (.func 69) #[] #[]) ∧ Bel w3 w') ((first | assumption | (refine hmk _ ?_; repeat (first | assumption | exact hq0 | refine Bel.drew ?_)))) (first | (go_at_call 69; refine (hcall.out _ (by first | assumption | exact Bel.drew hq0)).mono ?_; rintro e w6 ⟨rfl, b6⟩; have hS6 : Bel w3 w6 := Bel.below (Bel.drew hq0) b6))
        cases O with
        | false =>
          have hQ := Lib.hid (hno.out (B_false.1 hO.out))
          clear hst hno hO hmk hcall
          go_wp2
          go_ret
          exact ⟨by rw [hQ.out]; rfl, bW3.trans (Below.mono hS6 bW3.size)⟩
        | true =>
          have hN := Lib.hid (hst.out (B_true.1 hO.out))
          clear hst hno hO hmk hcall
          go_wp2_with fail
          go_roundw
          case rel => exact ⟨i + 1, hlt, by go_num, hN, bW3.trans (Below.mono hS6 bW3.size)⟩
          case measure => simp only [iOf]; omega
      · go_region_held3 (fun w' => w'.cell? ⟨bc, 0, none⟩ = some (.int .i64 (k : Nat)) ∧ w'.cell? ⟨bc, 1, none⟩ = some (.int .i64 iw) ∧ w'.cell? ⟨bc, 2, none⟩ = some (.int .i64 ip) ∧ w'.cell? ⟨bc, 3, none⟩ = some (.int .i64 ia) ∧ w'.cell? ⟨bc, 4, none⟩ = some (.int .i64 ib) ∧ w'.cell? ⟨bc, 5, none⟩ = some (.int .i64 ic) ∧ w'.cell? ⟨bc, 6, none⟩ = some (.int .u64 inn) ∧ w'.cell? ⟨bc, 7, none⟩ = some (.int .i64 iat) ∧ w'.cell? ⟨p, 4 + k * 3 + 2, none⟩ = some (.func (.func 70) #[] #[]) ∧ Bel w3 w') ((first | assumption | (refine hmk _ ?_; repeat (first | assumption | exact hq0 | refine Bel.drew ?_)))) (first | (go_at_call 70; refine (hcall.out _ (by first | assumption | exact Bel.drew hq0)).mono ?_; rintro e w6 ⟨rfl, b6⟩; have hS6 : Bel w3 w6 := Bel.below (Bel.drew hq0) b6))
        cases O with
        | false =>
          have hQ := Lib.hid (hno.out (B_false.1 hO.out))
          clear hst hno hO hmk hcall
          go_wp2
          go_ret
          exact ⟨by rw [hQ.out]; rfl, bW3.trans (Below.mono hS6 bW3.size)⟩
        | true =>
          have hN := Lib.hid (hst.out (B_true.1 hO.out))
          clear hst hno hO hmk hcall
          go_wp2_with fail
          go_roundw
          case rel => exact ⟨i + 1, hlt, by go_num, hN, bW3.trans (Below.mono hS6 bW3.size)⟩
          case measure => simp only [iOf]; omega
      · go_region_held3 (fun w' => w'.cell? ⟨bc, 0, none⟩ = some (.int .i64 (k : Nat)) ∧ w'.cell? ⟨bc, 1, none⟩ = some (.int .i64 iw) ∧ w'.cell? ⟨bc, 2, none⟩ = some (.int .i64 ip) ∧ w'.cell? ⟨bc, 3, none⟩ = some (.int .i64 ia) ∧ w'.cell? ⟨bc, 4, none⟩ = some (.int .i64 ib) ∧ w'.cell? ⟨bc, 5, none⟩ = some (.int .i64 ic) ∧ w'.cell? ⟨bc, 6, none⟩ = some (.int .u64 inn) ∧ w'.cell? ⟨bc, 7, none⟩ = some (.int .i64 iat) ∧ w'.cell? ⟨p, 4 + k * 3 + 2, none⟩ = some (.func (.func 71) #[] #[]) ∧ Bel w3 w') ((first | assumption | (refine hmk _ ?_; repeat (first | assumption | exact hq0 | refine Bel.drew ?_)))) (first | (go_at_call 71; refine (hcall.out _ (by first | assumption | exact Bel.drew hq0)).mono ?_; rintro e w6 ⟨rfl, b6⟩; have hS6 : Bel w3 w6 := Bel.below (Bel.drew hq0) b6))
        cases O with
        | false =>
          have hQ := Lib.hid (hno.out (B_false.1 hO.out))
          clear hst hno hO hmk hcall
          go_wp2
          go_ret
          exact ⟨by rw [hQ.out]; rfl, bW3.trans (Below.mono hS6 bW3.size)⟩
        | true =>
          have hN := Lib.hid (hst.out (B_true.1 hO.out))
          clear hst hno hO hmk hcall
          go_wp2_with fail
          go_roundw
          case rel => exact ⟨i + 1, hlt, by go_num, hN, bW3.trans (Below.mono hS6 bW3.size)⟩
          case measure => simp only [iOf]; omega
      · go_region_held3 (fun w' => w'.cell? ⟨bc, 0, none⟩ = some (.int .i64 (k : Nat)) ∧ w'.cell? ⟨bc, 1, none⟩ = some (.int .i64 iw) ∧ w'.cell? ⟨bc, 2, none⟩ = some (.int .i64 ip) ∧ w'.cell? ⟨bc, 3, none⟩ = some (.int .i64 ia) ∧ w'.cell? ⟨bc, 4, none⟩ = some (.int .i64 ib) ∧ w'.cell? ⟨bc, 5, none⟩ = some (.int .i64 ic) ∧ w'.cell? ⟨bc, 6, none⟩ = some (.int .u64 inn) ∧ w'.cell? ⟨bc, 7, none⟩ = some (.int .i64 iat) ∧ w'.cell? ⟨p, 4 + k * 3 + 2, none⟩ = some (.func (.func 72) #[] #[]) ∧ Bel w3 w') ((first | assumption | (refine hmk _ ?_; repeat (first | assumption | exact hq0 | refine Bel.drew ?_)))) (first | (go_at_call 72; refine (hcall.out _ (by first | assumption | exact Bel.drew hq0)).mono ?_; rintro e w6 ⟨rfl, b6⟩; have hS6 : Bel w3 w6 := Bel.below (Bel.drew hq0) b6))
        cases O with
        | false =>
          have hQ := Lib.hid (hno.out (B_false.1 hO.out))
          clear hst hno hO hmk hcall
          go_wp2
          go_ret
          exact ⟨by rw [hQ.out]; rfl, bW3.trans (Below.mono hS6 bW3.size)⟩
        | true =>
          have hN := Lib.hid (hst.out (B_true.1 hO.out))
          clear hst hno hO hmk hcall
          go_wp2_with fail
          go_roundw
          case rel => exact ⟨i + 1, hlt, by go_num, hN, bW3.trans (Below.mono hS6 bW3.size)⟩
          case measure => simp only [iOf]; omega
      · go_region_held3 (fun w' => w'.cell? ⟨bc, 0, none⟩ = some (.int .i64 (k : Nat)) ∧ w'.cell? ⟨bc, 1, none⟩ = some (.int .i64 iw) ∧ w'.cell? ⟨bc, 2, none⟩ = some (.int .i64 ip) ∧ w'.cell? ⟨bc, 3, none⟩ = some (.int .i64 ia) ∧ w'.cell? ⟨bc, 4, none⟩ = some (.int .i64 ib) ∧ w'.cell? ⟨bc, 5, none⟩ = some (.int .i64 ic) ∧ w'.cell? ⟨bc, 6, none⟩ = some (.int .u64 inn) ∧ w'.cell? ⟨bc, 7, none⟩ = some (.int .i64 iat) ∧ w'.cell? ⟨p, 4 + k * 3 + 2, none⟩ = some (.func (.func 73) #[] #[]) ∧ Bel w3 w') ((first | assumption | (refine hmk _ ?_; repeat (first | assumption | exact hq0 | refine Bel.drew ?_)))) (first | (go_at_call 73; refine (hcall.out _ (by first | assumption | exact Bel.drew hq0)).mono ?_; rintro e w6 ⟨rfl, b6⟩; have hS6 : Bel w3 w6 := Bel.below (Bel.drew hq0) b6))
        cases O with
        | false =>
          have hQ := Lib.hid (hno.out (B_false.1 hO.out))
          clear hst hno hO hmk hcall
          go_wp2
          go_ret
          exact ⟨by rw [hQ.out]; rfl, bW3.trans (Below.mono hS6 bW3.size)⟩
        | true =>
          have hN := Lib.hid (hst.out (B_true.1 hO.out))
          clear hst hno hO hmk hcall
          go_wp2_with fail
          go_roundw
          case rel => exact ⟨i + 1, hlt, by go_num, hN, bW3.trans (Below.mono hS6 bW3.size)⟩
          case measure => simp only [iOf]; omega
      · go_region_held3 (fun w' => w'.cell? ⟨bc, 0, none⟩ = some (.int .i64 (k : Nat)) ∧ w'.cell? ⟨bc, 1, none⟩ = some (.int .i64 iw) ∧ w'.cell? ⟨bc, 2, none⟩ = some (.int .i64 ip) ∧ w'.cell? ⟨bc, 3, none⟩ = some (.int .i64 ia) ∧ w'.cell? ⟨bc, 4, none⟩ = some (.int .i64 ib) ∧ w'.cell? ⟨bc, 5, none⟩ = some (.int .i64 ic) ∧ w'.cell? ⟨bc, 6, none⟩ = some (.int .u64 inn) ∧ w'.cell? ⟨bc, 7, none⟩ = some (.int .i64 iat) ∧ w'.cell? ⟨p, 4 + k * 3 + 2, none⟩ = some (.func (.func 74) #[] #[]) ∧ Bel w3 w') ((first | assumption | (refine hmk _ ?_; repeat (first | assumption | exact hq0 | refine Bel.drew ?_)))) (first | (go_at_call 74; refine (hcall.out _ (by first | assumption | exact Bel.drew hq0)).mono ?_; rintro e w6 ⟨rfl, b6⟩; have hS6 : Bel w3 w6 := Bel.below (Bel.drew hq0) b6))
        cases O with
        | false =>
          have hQ := Lib.hid (hno.out (B_false.1 hO.out))
          clear hst hno hO hmk hcall
          go_wp2
          go_ret
          exact ⟨by rw [hQ.out]; rfl, bW3.trans (Below.mono hS6 bW3.size)⟩
        | true =>
          have hN := Lib.hid (hst.out (B_true.1 hO.out))
          clear hst hno hO hmk hcall
          go_wp2_with fail
          go_roundw
          case rel => exact ⟨i + 1, hlt, by go_num, hN, bW3.trans (Below.mono hS6 bW3.size)⟩
          case measure => simp only [iOf]; omega
      · go_region_held3 (fun w' => w'.cell? ⟨bc, 0, none⟩ = some (.int .i64 (k : Nat)) ∧ w'.cell? ⟨bc, 1, none⟩ = some (.int .i64 iw) ∧ w'.cell? ⟨bc, 2, none⟩ = some (.int .i64 ip) ∧ w'.cell? ⟨bc, 3, none⟩ = some (.int .i64 ia) ∧ w'.cell? ⟨bc, 4, none⟩ = some (.int .i64 ib) ∧ w'.cell? ⟨bc, 5, none⟩ = some (.int .i64 ic) ∧ w'.cell? ⟨bc, 6, none⟩ = some (.int .u64 inn) ∧ w'.cell? ⟨bc, 7, none⟩ = some (.int .i64 iat) ∧ w'.cell? ⟨p, 4 + k * 3 + 2, none⟩ = some (.func (.func 75) #[] #[]) ∧ Bel w3 w') ((first | assumption | (refine hmk _ ?_; repeat (first | assumption | exact hq0 | refine Bel.drew ?_)))) (first | (go_at_call 75; refine (hcall.out _ (by first | assumption | exact Bel.drew hq0)).mono ?_; rintro e w6 ⟨rfl, b6⟩; have hS6 : Bel w3 w6 := Bel.below (Bel.drew hq0) b6))
        cases O with
        | false =>
          have hQ := Lib.hid (hno.out (B_false.1 hO.out))
          clear hst hno hO hmk hcall
          go_wp2
          go_ret
          exact ⟨by rw [hQ.out]; rfl, bW3.trans (Below.mono hS6 bW3.size)⟩
        | true =>
          have hN := Lib.hid (hst.out (B_true.1 hO.out))
          clear hst hno hO hmk hcall
          go_wp2_with fail
          go_roundw
          case rel => exact ⟨i + 1, hlt, by go_num, hN, bW3.trans (Below.mono hS6 bW3.size)⟩
          case measure => simp only [iOf]; omega
      · go_region_held3 (fun w' => w'.cell? ⟨bc, 0, none⟩ = some (.int .i64 (k : Nat)) ∧ w'.cell? ⟨bc, 1, none⟩ = some (.int .i64 iw) ∧ w'.cell? ⟨bc, 2, none⟩ = some (.int .i64 ip) ∧ w'.cell? ⟨bc, 3, none⟩ = some (.int .i64 ia) ∧ w'.cell? ⟨bc, 4, none⟩ = some (.int .i64 ib) ∧ w'.cell? ⟨bc, 5, none⟩ = some (.int .i64 ic) ∧ w'.cell? ⟨bc, 6, none⟩ = some (.int .u64 inn) ∧ w'.cell? ⟨bc, 7, none⟩ = some (.int .i64 iat) ∧ w'.cell? ⟨p, 4 + k * 3 + 2, none⟩ = some (.func (.func 76) #[] #[]) ∧ Bel w3 w') ((first | assumption | (refine hmk _ ?_; repeat (first | assumption | exact hq0 | refine Bel.drew ?_)))) (first | (go_at_call 76; refine (hcall.out _ (by first | assumption | exact Bel.drew hq0)).mono ?_; rintro e w6 ⟨rfl, b6⟩; have hS6 : Bel w3 w6 := Bel.below (Bel.drew hq0) b6))
        cases O with
        | false =>
          have hQ := Lib.hid (hno.out (B_false.1 hO.out))
          clear hst hno hO hmk hcall
          go_wp2
          go_ret
          exact ⟨by rw [hQ.out]; rfl, bW3.trans (Below.mono hS6 bW3.size)⟩
        | true =>
          have hN := Lib.hid (hst.out (B_true.1 hO.out))
          clear hst hno hO hmk hcall
          go_wp2_with fail
          go_roundw
          case rel => exact ⟨i + 1, hlt, by go_num, hN, bW3.trans (Below.mono hS6 bW3.size)⟩
          case measure => simp only [iOf]; omega
      · go_region_held3 (fun w' => w'.cell? ⟨bc, 0, none⟩ = some (.int .i64 (k : Nat)) ∧ w'.cell? ⟨bc, 1, none⟩ = some (.int .i64 iw) ∧ w'.cell? ⟨bc, 2, none⟩ = some (.int .i64 ip) ∧ w'.cell? ⟨bc, 3, none⟩ = some (.int .i64 ia) ∧ w'.cell? ⟨bc, 4, none⟩ = some (.int .i64 ib) ∧ w'.cell? ⟨bc, 5, none⟩ = some (.int .i64 ic) ∧ w'.cell? ⟨bc, 6, none⟩ = some (.int .u64 inn) ∧ w'.cell? ⟨bc, 7, none⟩ = some (.int .i64 iat) ∧ w'.cell? ⟨p, 4 + k * 3 + 2, none⟩ = some (.func (.func 77) #[] #[]) ∧ Bel w3 w') ((first | assumption | (refine hmk _ ?_; repeat (first | assumption | exact hq0 | refine Bel.drew ?_)))) (first | (go_at_call 77; refine (hcall.out _ (by first | assumption | exact Bel.drew hq0)).mono ?_; rintro e w6 ⟨rfl, b6⟩; have hS6 : Bel w3 w6 := Bel.below (Bel.drew hq0) b6))
        cases O with
        | false =>
          have hQ := Lib.hid (hno.out (B_false.1 hO.out))
          clear hst hno hO hmk hcall
          go_wp2
          go_ret
          exact ⟨by rw [hQ.out]; rfl, bW3.trans (Below.mono hS6 bW3.size)⟩
        | true =>
          have hN := Lib.hid (hst.out (B_true.1 hO.out))
          clear hst hno hO hmk hcall
          go_wp2_with fail
          go_roundw
          case rel => exact ⟨i + 1, hlt, by go_num, hN, bW3.trans (Below.mono hS6 bW3.size)⟩
          case measure => simp only [iOf]; omega
      · go_region_held3 (fun w' => w'.cell? ⟨bc, 0, none⟩ = some (.int .i64 (k : Nat)) ∧ w'.cell? ⟨bc, 1, none⟩ = some (.int .i64 iw) ∧ w'.cell? ⟨bc, 2, none⟩ = some (.int .i64 ip) ∧ w'.cell? ⟨bc, 3, none⟩ = some (.int .i64 ia) ∧ w'.cell? ⟨bc, 4, none⟩ = some (.int .i64 ib) ∧ w'.cell? ⟨bc, 5, none⟩ = some (.int .i64 ic) ∧ w'.cell? ⟨bc, 6, none⟩ = some (.int .u64 inn) ∧ w'.cell? ⟨bc, 7, none⟩ = some (.int .i64 iat) ∧ w'.cell? ⟨p, 4 + k * 3 + 2, none⟩ = some (.func (.func 78) #[] #[]) ∧ Bel w3 w') ((first | assumption | (refine hmk _ ?_; repeat (first | assumption | exact hq0 | refine Bel.drew ?_)))) (first | (go_at_call 78; refine (hcall.out _ (by first | assumption | exact Bel.drew hq0)).mono ?_; rintro e w6 ⟨rfl, b6⟩; have hS6 : Bel w3 w6 := Bel.below (Bel.drew hq0) b6))
        cases O with
        | false =>
          have hQ := Lib.hid (hno.out (B_false.1 hO.out))
          clear hst hno hO hmk hcall
          go_wp2
          go_ret
          exact ⟨by rw [hQ.out]; rfl, bW3.trans (Below.mono hS6 bW3.size)⟩
        | true =>
          have hN := Lib.hid (hst.out (B_true.1 hO.out))
          clear hst hno hO hmk hcall
          go_wp2_with fail
          go_roundw
          case rel => exact ⟨i + 1, hlt, by go_num, hN, bW3.trans (Below.mono hS6 bW3.size)⟩
          case measure => simp only [iOf]; omega
      · go_region_held3 (fun w' => w'.cell? ⟨bc, 0, none⟩ = some (.int .i64 (k : Nat)) ∧ w'.cell? ⟨bc, 1, none⟩ = some (.int .i64 iw) ∧ w'.cell? ⟨bc, 2, none⟩ = some (.int .i64 ip) ∧ w'.cell? ⟨bc, 3, none⟩ = some (.int .i64 ia) ∧ w'.cell? ⟨bc, 4, none⟩ = some (.int .i64 ib) ∧ w'.cell? ⟨bc, 5, none⟩ = some (.int .i64 ic) ∧ w'.cell? ⟨bc, 6, none⟩ = some (.int .u64 inn) ∧ w'.cell? ⟨bc, 7, none⟩ = some (.int .i64 iat) ∧ w'.cell? ⟨p, 4 + k * 3 + 2, none⟩ = some (.func (.func 79) #[] #[]) ∧ Bel w3 w') ((first | assumption | (refine hmk _ ?_; repeat (first | assumption | exact hq0 | refine Bel.drew ?_)))) (first | (go_at_call 79; refine (hcall.out _ (by first | assumption | exact Bel.drew hq0)).mono ?_; rintro e w6 ⟨rfl, b6⟩; have hS6 : Bel w3 w6 := Bel.below (Bel.drew hq0) b6))
        cases O with
        | false =>
          have hQ := Lib.hid (hno.out (B_false.1 hO.out))
          clear hst hno hO hmk hcall
          go_wp2
          go_ret
          exact ⟨by rw [hQ.out]; rfl, bW3.trans (Below.mono hS6 bW3.size)⟩
        | true =>
          have hN := Lib.hid (hst.out (B_true.1 hO.out))
          clear hst hno hO hmk hcall
          go_wp2_with fail
          go_roundw
          case rel => exact ⟨i + 1, hlt, by go_num, hN, bW3.trans (Below.mono hS6 bW3.size)⟩
          case measure => simp only [iOf]; omega
      · go_region_held3 (fun w' => w'.cell? ⟨bc, 0, none⟩ = some (.int .i64 (k : Nat)) ∧ w'.cell? ⟨bc, 1, none⟩ = some (.int .i64 iw) ∧ w'.cell? ⟨bc, 2, none⟩ = some (.int .i64 ip) ∧ w'.cell? ⟨bc, 3, none⟩ = some (.int .i64 ia) ∧ w'.cell? ⟨bc, 4, none⟩ = some (.int .i64 ib) ∧ w'.cell? ⟨bc, 5, none⟩ = some (.int .i64 ic) ∧ w'.cell? ⟨bc, 6, none⟩ = some (.int .u64 inn) ∧ w'.cell? ⟨bc, 7, none⟩ = some (.int .i64 iat) ∧ w'.cell? ⟨p, 4 + k * 3 + 2, none⟩ = some (.func (.func 80) #[] #[]) ∧ Bel w3 w') ((first | assumption | (refine hmk _ ?_; repeat (first | assumption | exact hq0 | refine Bel.drew ?_)))) (first | (go_at_call 80; refine (hcall.out _ (by first | assumption | exact Bel.drew hq0)).mono ?_; rintro e w6 ⟨rfl, b6⟩; have hS6 : Bel w3 w6 := Bel.below (Bel.drew hq0) b6))
        cases O with
        | false =>
          have hQ := Lib.hid (hno.out (B_false.1 hO.out))
          clear hst hno hO hmk hcall
          go_wp2
          go_ret
          exact ⟨by rw [hQ.out]; rfl, bW3.trans (Below.mono hS6 bW3.size)⟩
        | true =>
          have hN := Lib.hid (hst.out (B_true.1 hO.out))
          clear hst hno hO hmk hcall
          go_wp2_with fail
          go_roundw
          case rel => exact ⟨i + 1, hlt, by go_num, hN, bW3.trans (Below.mono hS6 bW3.size)⟩
          case measure => simp only [iOf]; omega
      · go_region_held3 (fun w' => w'.cell? ⟨bc, 0, none⟩ = some (.int .i64 (k : Nat)) ∧ w'.cell? ⟨bc, 1, none⟩ = some (.int .i64 iw) ∧ w'.cell? ⟨bc, 2, none⟩ = some (.int .i64 ip) ∧ w'.cell? ⟨bc, 3, none⟩ = some (.int .i64 ia) ∧ w'.cell? ⟨bc, 4, none⟩ = some (.int .i64 ib) ∧ w'.cell? ⟨bc, 5, none⟩ = some (.int .i64 ic) ∧ w'.cell? ⟨bc, 6, none⟩ = some (.int .u64 inn) ∧ w'.cell? ⟨bc, 7, none⟩ = some (.int .i64 iat) ∧ w'.cell? ⟨p, 4 + k * 3 + 2, none⟩ = some (.func (.func 81) #[] #[]) ∧ Bel w3 w') ((first | assumption | (refine hmk _ ?_; repeat (first | assumption | exact hq0 | refine Bel.drew ?_)))) (first | (go_at_call 81; refine (hcall.out _ (by first | assumption | exact Bel.drew hq0)).mono ?_; rintro e w6 ⟨rfl, b6⟩; have hS6 : Bel w3 w6 := Bel.below (Bel.drew hq0) b6))
        cases O with
        | false =>
          have hQ := Lib.hid (hno.out (B_false.1 hO.out))
          clear hst hno hO hmk hcall
          go_wp2
          go_ret
          exact ⟨by rw [hQ.out]; rfl, bW3.trans (Below.mono hS6 bW3.size)⟩
        | true =>
          have hN := Lib.hid (hst.out (B_true.1 hO.out))
          clear hst hno hO hmk hcall
          go_wp2_with fail
          go_roundw
          case rel => exact ⟨i + 1, hlt, by go_num, hN, bW3.trans (Below.mono hS6 bW3.size)⟩
          case measure => simp only [iOf]; omega
    · have hie : i = c.ins.length := by omega
      subst hie
      have hQ : Hid (R = true) := Lib.hid (by
        rw [← hR.out]
        refine B_of (fun z hz => ?_)
        obtain ⟨j, hj, rfl⟩ := List.getElem_of_mem hz
        exact hI.out j hj hj)
      clear hI hR
      go_wp2
      go_ret
      exact ⟨by rw [hQ.out]; rfl, hbw⟩
end Go.Proofs.YtnbgadndkepomaaGreatDoor
