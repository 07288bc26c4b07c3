/- ssa: whether the fields fit. -/
import Derived.Test.YtnbgadndkepomaaGreatDoorSQI
import Derived.Test.YtnbgadndkepomaaGreatDoorSaOut2
namespace Go.Proofs.YtnbgadndkepomaaGreatDoor
open Go.RowKit

theorem eql_nn_in (d : Nat) (w : World) : (Op.equalIn (d + 1) 66 .nilFunc .nilFunc).run Tryz.prog w = .ok true w := by
  simp [Op.equalIn, run_underlying Tryz.underlying66]
theorem eql_nn (w : World) : (binOp .eql 66 .nilFunc .nilFunc).run Tryz.prog w = .ok (.bool true) w := by
  have h : (Op.equal 66 .nilFunc .nilFunc).run Tryz.prog w = .ok true w := eql_nn_in 9999 w
  simp only [binOp]
  simp [h]
theorem eql_fn_in (fi : Nat) (d : Nat) (w : World) : (Op.equalIn (d + 1) 66 (.func (.func fi) #[] #[]) .nilFunc).run Tryz.prog w = .ok false w := by
  simp [Op.equalIn, run_underlying Tryz.underlying66]
theorem eql_fn (fi : Nat) (w : World) : (binOp .eql 66 (.func (.func fi) #[] #[]) .nilFunc).run Tryz.prog w = .ok (.bool false) w := by
  have h : (Op.equal 66 (.func (.func fi) #[] #[]) .nilFunc).run Tryz.prog w = .ok false w := eql_fn_in fi 9999 w
  simp only [binOp]
  simp [h]
def FldI (c : Cd) (i : Nat) : Prop := ∃ h : i < c.ins.length, Plc c.ins[i].at_ ∧ OpP c.ins[i].op ∧ (c.ins[i].op = 30 ↔ IsParP c i) ∧ OutP c.ins[i]
theorem isPar_iff {c : Cd} (hb : BlocksP c) {b i : Nat} (hbl : b < c.bk.length) (h : InBk c.bk[b] i) : IsParP c i ↔ (i : Int) < c.bk[b].frm + parN c c.bk[b] := by
  have e := home_is hb hbl h
  unfold IsParP
  simp only [e]
  exact ⟨fun ⟨_, h⟩ => h, fun h => ⟨hbl, h⟩⟩
theorem fields_iff {c : Cd} (hb : BlocksP c) (h1 : 1 ≤ c.bk.length) : FieldsP c ↔ (∀ i, i < c.ins.length → FldI c i) ∧ parN c (c.bk[0]'(by omega)) = 0 := by
  constructor
  · rintro ⟨ha, hp, hz⟩
    refine ⟨fun i hi => ⟨hi, (ha i hi).1, (ha i hi).2.1, ?_, (ha i hi).2.2⟩, hz (by omega)⟩
    obtain ⟨hh, hin⟩ := home_lt hb hi
    rw [isPar_iff hb hh hin]
    exact hp _ (List.getElem_mem hh) i hi hin
  · rintro ⟨ha, hz⟩
    refine ⟨fun i hi => ?_, fun b hbm i hi hin => ?_, fun _ => hz⟩
    · obtain ⟨_, h1, h2, _, h4⟩ := ha i hi
      exact ⟨h1, h2, h4⟩
    · obtain ⟨_, _, _, h3, _⟩ := ha i hi
      obtain ⟨n, hn, rfl⟩ := List.getElem_of_mem hbm
      rw [h3]
      exact isPar_iff hb hn hin
theorem out_iff {k : Nat} (hk : k < 37) (ho : OpP (k : Int)) (y : CIn) (hy : y.op = k) : OutV (rvL.getD k 0) ((rfL.getD k 0).testBit 0) ((rfL.getD k 0).testBit 1) ((rfL.getD k 0).testBit 2) y ↔ OutP y := by
  obtain ⟨e1, e2, e3, e4⟩ := row_val k hk ho
  unfold OutV OutP
  rw [e1, e2, e3, e4, hy]
  have hv : valN (k : Int) ≤ 3 := by unfold valN; split <;> (try split) <;> (try split) <;> omega
  have hd : (∀ z ∈ [y.a, y.b, y.c].drop (valN (k : Int)), z = 0) ↔ (valN (k : Int) ≤ 0 → y.a = 0) ∧ (valN (k : Int) ≤ 1 → y.b = 0) ∧ (valN (k : Int) ≤ 2 → y.c = 0) := by
    have : valN (k : Int) = 0 ∨ valN (k : Int) = 1 ∨ valN (k : Int) = 2 ∨ valN (k : Int) = 3 := by omega
    rcases this with e | e | e | e <;> rw [e] <;> simp
  rw [hd]
  simp [and_assoc]
theorem row_vf : ∀ k : Nat, k < 37 → OpP (k : Int) → VF (rvL.getD k 0) (rfL.getD k 0) := by
  have h : ∀ k : Nat, k < 37 → OpP (k : Int) → decide ((rvL.getD k 0, rfL.getD k 0) ∈ [(2, 1), (0, 5), (1, 1), (1, 5), (0, 1), (0, 3), (1, 6), (0, 6), (3, 0), (1, 0), (1, 4)]) = true := by decide
  intro k hk ho
  have := h k hk ho
  simp only [decide_eq_true_eq, List.mem_cons, Prod.mk.injEq, List.not_mem_nil, or_false] at this
  exact this
set_option maxRecDepth 100000 in
set_option maxHeartbeats 3200000 in
theorem fieldsFit_any {W0 W : World} {p : Nat} {c : Cd} {x : Sl} {cs : Array Value} {b1 b2 : Nat} {P H : List Int} (h : Cod W0 W p c x cs) (ok : c.ok) (hl : ListsP c) (hb : BlocksP c) (hp : Pre W p c b1 b2 P H) :
    Calls Tryz.prog 46 #[.pointer (some ⟨p, 0, none⟩)] W fun e w' => e = .returned (.bool (B (FieldsP c))) ∧ Below W.heap.size W w' := by
  have l2 := hl.2.2.2.1
  have l3 := hl.2.2.1.2
  have l31 := hl.2.2.1.1
  obtain ⟨R, hR⟩ : ∃ R, Hid (B (FieldsP c) = R) := ⟨_, Lib.hid rfl⟩
  rw [hR.out]
  have hRR : Hid (R = B ((∀ i, i < c.ins.length → FldI c i) ∧ parN c (c.bk[0]'(by omega)) = 0)) := Lib.hid (by rw [← hR.out]; exact B_congr (fields_iff hb l31))
  clear hR
  have s2 := h.pt.s2
  replace ok := Lib.hid ok
  replace hl := Lib.hid hl
  replace hb := Lib.hid hb
  have en1 := eql_nn
  have en2 := eql_fn
  go_enter Tryz.func46, Tryz.ntmps46
  go_wp2_with fail
  clear s2
  go_loopw [11] (fun v wr => ∃ i : Nat, i ≤ c.ins.length ∧ v = .int .i64 i ∧ Hid (∀ j, j < i → FldI c j) ∧ Below W.heap.size W wr) (fun v _ => c.ins.length - iOf v)
  case atStart => exact ⟨0, Nat.zero_le _, rfl, Lib.hid (fun j h => by omega), Below.refl _ _⟩
  case round =>
    rename_i wr
    obtain ⟨i, hi, rfl, hI, hbw⟩ := hrel
    have hC := h.later hbw
    have hPr := hp.later hbw
    by_cases hlt : i < c.ins.length
    · obtain ⟨g, o, eI, c0, c1, c2, c3, c4, c5, c6, c7⟩ := hC.at_.i i hlt
      have hlc : (i : Int) < c.ins.length := by omega
      have hwi : IntKind.i64.wrap ((i : Int) + 1) = ((i + 1 : Nat) : Int) := by rw [IntWalk.i64_in _ (by omega)]; omega
      have hno : Hid (¬ FldI c i → R = false) := Lib.hid (fun hn => by rw [hRR.out]; exact B_not (fun h => hn (h.1 i hlt)))
      have hst : Hid (FldI c i → ∀ j, j < i + 1 → FldI c j) := Lib.hid (fun hy j hj => by
        by_cases e : j = i
        · rw [e]; exact hy
        · exact hI.out j (by omega))
      have hyok := (ok.out.ins _ (List.getElem_mem hlt)).1
      obtain ⟨⟨op, iw, ip, ia, ib, ic, inn, iat⟩, hy⟩ : ∃ t, Hid (c.ins[i] = t) := ⟨_, Lib.hid rfl⟩
      simp only [hy.out] at c0 c1 c2 c3 c4 c5 c6 c7 hyok
      have hF : Hid (FldI c i ↔ Plc iat ∧ OpP op ∧ (op = 30 ↔ IsParP c i) ∧ OutP ⟨op, iw, ip, ia, ib, ic, inn, iat⟩) := Lib.hid (by
        have e := hy.out
        constructor
        · rintro ⟨_, h⟩; rw [e] at h; exact h
        · intro h; refine ⟨hlt, ?_⟩; rw [e]; exact h)
      have N0 := Box.new wr 47 #[.int .i64 op, .int .i64 iw, .int .i64 ip, .int .i64 ia, .int .i64 ib, .int .i64 ic, .int .u64 inn, .int .i64 iat]
      have bN : Below wr.heap.size wr (wr.alloc (.cells #[.int .i64 op, .int .i64 iw, .int .i64 ip, .int .i64 ia, .int .i64 ib, .int .i64 ic, .int .u64 inn, .int .i64 iat] 47)) := (Below.refl _ _).alloc (Nat.le_refl _) _
      have hC3 := hC.later bN
      have hP3 := hPr.later bN
      go_upto_region 4 with fail
      obtain ⟨w3, hw3⟩ : ∃ Y, wr.alloc (.cells #[.int .i64 op, .int .i64 iw, .int .i64 ip, .int .i64 ia, .int .i64 ib, .int .i64 ic, .int .u64 inn, .int .i64 iat] 47) = Y := ⟨_, rfl⟩
      rw [hw3] at N0 bN hC3 hP3
      simp only [hw3]
      clear hw3 c0 c1 c2 c3 c4 c5 c6 c7 hC hPr eI
      have bW3 := hbw.trans (bN.mono hbw.size)
      obtain ⟨bc, hbc⟩ : ∃ b, Hid (wr.heap.size = b) := ⟨_, Lib.hid rfl⟩
      rw [hbc.out] at N0
      simp only [hbc.out]
      have n0 := N0.cell 0
      have n7 := N0.cell 7
      by_cases qa : Plc iat
      rotate_left 1
      · have hQ := Lib.hid (hno.out (fun h => qa (hF.out.1 h).1))
        have k0 := fun m => isPlace_any iat (w3.drewN m)
        simp only [B_not qa] at k0
        clear qa hno hst hF hRR hI
        go_quiet (first | (go_at_call 86; with_reducible exact quiet_same' (k0 _)))
        go_wp2
        go_ret
        exact ⟨by rw [hQ.out]; rfl, bW3.trans ((Drew.below ⟨_, rfl⟩).mono bW3.size)⟩
      have k0 := fun m => isPlace_any iat (w3.drewN m)
      simp only [B_of qa] at k0
      by_cases qb : 0 ≤ op ∧ op < 37
      rotate_left 1
      · have hQ := Lib.hid (hno.out (fun h => qb (by have := op_lt (hF.out.1 h).2.1; omega)))
        have k1 := fun m => isIndex_row op hyok (some ⟨p, 4, none⟩) 37 37 (by omega) (w3.drewN m)
        simp only [B_not (show ¬ (0 ≤ op ∧ op < ((37 : Nat) : Int)) from fun h => qb (by omega))] at k1
        clear qa qb hno hst hF hRR hI
        go_quiet (first | (go_at_call 86; with_reducible exact quiet_same' (k0 _)) | (go_at_call 87; exact quiet_same' (k1 _)))
        go_wp2
        go_ret
        exact ⟨by rw [hQ.out]; rfl, bW3.trans ((Drew.below ⟨_, rfl⟩).mono bW3.size)⟩
      obtain ⟨k, rfl, hkl⟩ : ∃ k : Nat, op = k ∧ k < 37 := ⟨op.toNat, by omega, by omega⟩
      have k1 := fun m => isIndex_row (k : Int) hyok (some ⟨p, 4, none⟩) 37 37 (by omega) (w3.drewN m)
      simp only [B_of (show 0 ≤ (k : Int) ∧ (k : Int) < ((37 : Nat) : Int) by omega)] at k1
      have r2 := hC3.rown k hkl
      have hop := row_op k hkl
      have hkk : (k : Int) < 37 := by omega
      obtain ⟨fo, hfo⟩ : ∃ t, Hid (fnL.getD k none = t) := ⟨_, Lib.hid rfl⟩
      rw [hfo.out] at r2 hop
      cases fo with
      | none =>
        have hQ := Lib.hid (hno.out (fun h => by have := (hF.out.1 h).2.1; rw [decide_eq_true this] at hop; cases hop))
        replace r2 : w3.cell? ⟨p, 4 + k * 3 + 2, none⟩ = some .nilFunc := r2
        clear qa qb hno hst hF hRR hI hop
        go_quiet (first | (go_at_call 86; with_reducible exact quiet_same' (k0 _)) | (go_at_call 87; exact quiet_same' (k1 _)))
        go_wp2
        go_ret
        exact ⟨by rw [hQ.out]; rfl, bW3.trans ((Drew.below ⟨_, rfl⟩).mono bW3.size)⟩
      | some fi =>
        replace r2 : w3.cell? ⟨p, 4 + k * 3 + 2, none⟩ = some (.func (.func fi) #[] #[]) := r2
        have hOp : OpP (k : Int) := by
          apply Classical.byContradiction
          intro hn
          rw [decide_eq_false hn] at hop; cases hop
        have hF2 : Hid (FldI c i ↔ (((k : Int) = 30) ↔ IsParP c i) ∧ OutP ⟨k, iw, ip, ia, ib, ic, inn, iat⟩) := Lib.hid (hF.out.trans ⟨fun h => h.2.2, fun h => ⟨qa, hOp, h⟩⟩)
        have hvf := Lib.hid (row_vf k hkl hOp)
        have hoi := Lib.hid (out_iff hkl hOp ⟨k, iw, ip, ia, ib, ic, inn, iat⟩ rfl)
        have r0 := hC3.rowv k hkl
        have r1 := hC3.rowf k hkl
        obtain ⟨v, hv⟩ : ∃ t, Hid (rvL.getD k 0 = t) := ⟨_, Lib.hid rfl⟩
        obtain ⟨f, hf⟩ : ∃ t, Hid (rfL.getD k 0 = t) := ⟨_, Lib.hid rfl⟩
        rw [hv.out] at r0 hvf hoi
        rw [hf.out] at r1 hvf hoi
        clear qa qb hF hI hop hv hf
        go_quiet (first | (go_at_call 86; with_reducible exact quiet_same' (k0 _)) | (go_at_call 87; exact quiet_same' (k1 _)))
        have bq : Below w3.heap.size w3 (w3.drewN nq) := Drew.below ⟨_, rfl⟩
        obtain ⟨w4, hw4⟩ : ∃ Y, w3.drewN nq = Y := ⟨_, rfl⟩
        rw [hw4] at bq
        simp only [hw4]
        clear hw4 k0 k1 n0 n7
        have N4 := N0.below bq
        have hC4 := hC3.later bq
        have hP4 := hP3.later bq
        replace r0 := cell_later bq r0
        replace r1 := cell_later bq r1
        replace r2 := cell_later bq r2
        have bW4 := bW3.trans (bq.mono bW3.size)
        clear bq
        have hip := fun m => isParameter_any (hC4.pt.drewN m) (hP4.later (Drew.below ⟨m, rfl⟩)) hl.out hb.out i hlt
        by_cases qc : ((k : Int) = 30) ↔ IsParP c i
        rotate_left 1
        · have hQ := Lib.hid (hno.out (fun h => qc (hF2.out.1 h).1))
          by_cases q30 : (k : Int) = 30
          · have qn : ¬ IsParP c i := fun h => qc ⟨fun _ => h, fun _ => q30⟩
            simp only [B_not qn] at hip
            have n0 : w4.cell? ⟨bc, 0, none⟩ = some (.int .i64 30) := by rw [← q30]; exact N4.cell 0
            replace hip := Lib.hid hip
            clear q30 qc qn hno hst hF2 hRR
            go_wp2_with fail
            go_quiet (first | (go_at_call 88; exact Calls.quiet_of (hip.out _)))
            go_wp2
            go_ret
            exact ⟨by rw [hQ.out]; rfl, bW4.trans ((Drew.below ⟨_, rfl⟩).mono bW4.size)⟩
          · have qn : IsParP c i := Classical.byContradiction fun h => qc ⟨fun e => absurd e q30, fun e => absurd e h⟩
            simp only [B_of qn] at hip
            have n0 : w4.cell? ⟨bc, 0, none⟩ = some (.int .i64 (k : Nat)) := N4.cell 0
            have b30 : ((k : Int) == 30) = false := by simpa using q30
            replace hip := Lib.hid hip
            clear q30 qc qn hno hst hF2 hRR
            go_wp2_with fail
            go_quiet (first | (go_at_call 88; exact Calls.quiet_of (hip.out _)))
            go_wp2
            go_ret
            exact ⟨by rw [hQ.out]; rfl, bW4.trans ((Drew.below ⟨_, rfl⟩).mono bW4.size)⟩
        have hmk : ∀ X, Bel w4 X → X.cell? ⟨bc, 0, none⟩ = some (.int .i64 (k : Nat)) ∧ X.cell? ⟨bc, 1, none⟩ = some (.int .i64 iw) ∧ X.cell? ⟨bc, 2, none⟩ = some (.int .i64 ip) ∧ X.cell? ⟨bc, 3, none⟩ = some (.int .i64 ia) ∧ X.cell? ⟨bc, 4, none⟩ = some (.int .i64 ib) ∧ X.cell? ⟨bc, 5, none⟩ = some (.int .i64 ic) ∧ X.cell? ⟨bc, 6, none⟩ = some (.int .u64 inn) ∧ X.cell? ⟨bc, 7, none⟩ = some (.int .i64 iat) ∧ X.cell? ⟨p, 4 + k * 3, none⟩ = some (.int .i64 (v : Nat)) ∧ X.cell? ⟨p, 4 + k * 3 + 1, none⟩ = some (.int .i64 (f : Nat)) ∧ X.cell? ⟨p, 4 + k * 3 + 2, none⟩ = some (.func (.func fi) #[] #[]) ∧ Bel w4 X := fun X h => ⟨h.cell (N4.cell 0), h.cell (N4.cell 1), h.cell (N4.cell 2), h.cell (N4.cell 3), h.cell (N4.cell 4), h.cell (N4.cell 5), h.cell (N4.cell 6), h.cell (N4.cell 7), h.cell r0, h.cell r1, h.cell r2, h⟩
        have hq0 := Bel.refl w4
        have hipX : ∀ X, Bel w4 X → Calls Tryz.prog 88 #[.pointer (some ⟨p, 0, none⟩), .int .i64 i] X fun e w' => e = .returned (.bool (B (IsParP c i))) ∧ Drew X w' := fun X h => isParameter_any (hC4.pt.later h) (hP4.later h) hl.out hb.out i hlt
        have hlo : ∀ X, Calls Tryz.prog 89 #[.agg #[.int .i64 (v : Nat), .int .i64 (f : Nat), .func (.func fi) #[] #[]], .agg #[.int .i64 (k : Nat), .int .i64 iw, .int .i64 ip, .int .i64 ia, .int .i64 ib, .int .i64 ic, .int .u64 inn, .int .i64 iat]] X fun e w' => e = .returned (.bool (B (OutP ⟨k, iw, ip, ia, ib, ic, inn, iat⟩))) ∧ Below X.heap.size X w' := fun X => by
          rw [← B_congr hoi.out]
          exact leavesOut_any ⟨k, iw, ip, ia, ib, ic, inn, iat⟩ v f hvf.out _
        have hRi : Hid ((OutP ⟨k, iw, ip, ia, ib, ic, inn, iat⟩ → ∀ j, j < i + 1 → FldI c j) ∧ (¬ OutP ⟨k, iw, ip, ia, ib, ic, inn, iat⟩ → R = false)) := Lib.hid ⟨fun h => hst.out (hF2.out.2 ⟨qc, h⟩), fun h => hno.out (fun h2 => h (hF2.out.1 h2).2)⟩
        have b30 : (∃ b : Bool, ((k : Int) == 30) = b ∧ Hid (B (IsParP c i) = b)) := by
          by_cases q30 : (k : Int) = 30
          · exact ⟨true, by simpa using q30, Lib.hid (B_of (qc.1 q30))⟩
          · exact ⟨false, by simpa using q30, Lib.hid (B_not (fun h => q30 (qc.2 h)))⟩
        obtain ⟨b, hb1, hb2⟩ := b30
        simp only [hb2.out] at hipX
        obtain ⟨O, hO⟩ : ∃ O, Hid (B (OutP ⟨k, iw, ip, ia, ib, ic, inn, iat⟩) = O) := ⟨_, Lib.hid rfl⟩
        simp only [hO.out] at hlo
        replace hipX := Lib.hid hipX
        replace hlo := Lib.hid hlo
        clear hip hno hst hF2 qc hvf hoi hb2 r0 r1 r2 hC3 hP3 N0 bN
        cases b
        all_goals
          go_wp2_with fail
          go_region_held3 (fun w' => w'.cell? ⟨bc, 0, none⟩ = some (.int .i64 (k : Nat)) ∧ w'.cell? ⟨bc, 1, none⟩ = some (.int .i64 iw) ∧ w'.cell? ⟨bc, 2, none⟩ = some (.int .i64 ip) ∧ w'.cell? ⟨bc, 3, none⟩ = some (.int .i64 ia) ∧ w'.cell? ⟨bc, 4, none⟩ = some (.int .i64 ib) ∧ w'.cell? ⟨bc, 5, none⟩ = some (.int .i64 ic) ∧ w'.cell? ⟨bc, 6, none⟩ = some (.int .u64 inn) ∧ w'.cell? ⟨bc, 7, none⟩ = some (.int .i64 iat) ∧ w'.cell? ⟨p, 4 + k * 3, none⟩ = some (.int .i64 (v : Nat)) ∧ w'.cell? ⟨p, 4 + k * 3 + 1, none⟩ = some (.int .i64 (f : Nat)) ∧ w'.cell? ⟨p, 4 + k * 3 + 2, none⟩ = some (.func (.func fi) #[] #[]) ∧ Bel w4 w') ((first | assumption | (refine hmk _ ?_; repeat (first | assumption | exact hq0 | refine Bel.drew ?_)))) (first | (go_at_call 88; refine (hipX.out _ (by first | assumption | exact Bel.drew hq0)).mono ?_; rintro e w5 ⟨rfl, d5⟩; have hS5 : Bel w4 w5 := Bel.below (Bel.drew hq0) d5.below) | (go_at_call 89; refine (hlo.out _).mono ?_; rintro e w6 ⟨rfl, b6⟩; have hS6 : Bel w4 w6 := Bel.below (by assumption) b6))
          cases O with
          | false =>
            have hQ := Lib.hid (hRi.out.2 (B_false.1 hO.out))
            clear hRi hO hmk
            go_wp2
            go_ret
            exact ⟨by rw [hQ.out]; rfl, bW4.trans (Below.mono hS6 bW4.size)⟩
          | true =>
            have hN := Lib.hid (hRi.out.1 (B_true.1 hO.out))
            clear hRi hO hmk
            go_wp2_with fail
            go_roundw
            case rel => exact ⟨i + 1, hlt, by go_num, hN, bW4.trans (Below.mono hS6 bW4.size)⟩
            case measure => simp only [iOf]; omega
    · have hie : i = c.ins.length := by omega
      subst hie
      have m0 := hPr.par 0 (by omega)
      have e5 := hPr.e5
      have hQ : Hid (R = ((parN c (c.bk[0]'(by omega)) : Int) == 0)) := Lib.hid (by rw [hRR.out]; exact (B_eq (by rw [beq_iff_eq]; exact ⟨fun h => ⟨fun j hj => hI.out j hj, by omega⟩, fun h => by have := h.2; omega⟩)).symm)
      have hb0 : (0 : Int) < c.bk.length := by omega
      obtain ⟨z, hz⟩ : ∃ t, Hid (parN c (c.bk[0]'(by omega)) = t) := ⟨_, Lib.hid rfl⟩
      rw [hz.out] at m0 hQ
      clear hI hRR hz
      go_wp2
      go_ret
      exact ⟨by rw [hQ.out]; rfl, hbw⟩
end Go.Proofs.YtnbgadndkepomaaGreatDoor
