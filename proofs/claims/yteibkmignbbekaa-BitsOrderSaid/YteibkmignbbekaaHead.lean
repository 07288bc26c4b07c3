/- The fixed examples that every statement begins with: their contract. -/
import Derived.Test.YteibkmignbbekaaErr
import Derived.Deep.DeepCutAuto
namespace Go.Proofs.Yteibkmignbbekaa
open Go.RowKit

theorem new0 (V : World) (x y : Value) (t : TypeId) : (V.alloc (.cells #[x, y] t)).cell? ⟨V.heap.size, 0, none⟩ = some x := by simp [go_sem]
theorem new1 (V : World) (x y : Value) (t : TypeId) : (V.alloc (.cells #[x, y] t)).cell? ⟨V.heap.size, 1, none⟩ = some y := by simp [go_sem]
theorem frozen_later {V w1 : World} {a : Addr} {v : Value} (hb : Below V.heap.size V w1) (h : V.cell? a = some v) (hf : V.frozen? a = false) : w1.frozen? a = false := by
  rw [hb.frozen (World.block_lt_of_cell? V _ h)]; exact hf
theorem frozen_new {V w1 : World} {x y : Value} {t : TypeId} {o : Nat} (hb : Below (V.alloc (.cells #[x, y] t)).heap.size (V.alloc (.cells #[x, y] t)) w1) : w1.frozen? ⟨V.heap.size, o, none⟩ = false := by
  rw [hb.frozen (by simp)]; simp [go_sem]
theorem alloc_then {V w1 : World} {o : Obj} (hb : Below (V.alloc o).heap.size (V.alloc o) w1) : Below V.heap.size V w1 := below1 hb
theorem in_alloc {V : World} {a : Addr} {v : Value} (o : Obj) (h : V.cell? a = some v) : (V.alloc o).cell? a = some v := cell_later ((Below.refl _ _).alloc (Nat.le_refl _) o) h
theorem h_add : BinIs 2 8 200 8 100 8 44 0 := fun w => bin_2 8 200 100 w (by decide) (by decide)
theorem h_div : BinIs 5 8 7 8 0 8 255 0 := fun w => bin_5 8 7 0 w (by decide) (by decide) (by decide) (by decide)
theorem e_slt : bit (cmpI (sgn 8 255) (sgn 8 1) == (-1)) = 1 := by decide +kernel
theorem h_slt : BinIs 14 8 255 8 1 1 1 0 := fun w => by have h := bin_14 8 255 1 w (by decide) (by decide); rwa [e_slt] at h
theorem h_shl : BinIs 10 8 3 8 8 8 0 0 := fun w => bin_10 8 3 8 w (by decide) (by decide) (by decide) (by decide)
theorem h_wid : BinIs 2 8 1 4 10 0 0 13 := fun w => binE_w 2 8 1 4 10 w (by decide) (by decide) (by decide) (by decide)
theorem h_not : BinIs 15 8 1 8 1 0 0 1 := fun w => binE_op 15 8 1 8 1 w (by decide)

theorem e_sext : low 8 (sgn 4 8) = 248 := by decide +kernel
theorem h_sext (w : World) : Calls Try.prog 19 #[.agg #[.int .i64 4, .int .u64 8], .int .i64 8] w fun e w' => e = .returned (.tuple #[.agg #[.int .i64 8, .int .u64 248], .int .i64 0]) ∧ Below w.heap.size w w' := by
  have h := sext_ok 4 8 8 w (by decide) (by decide) (by decide); rwa [e_sext] at h
theorem e_part : low 4 (171 / 2 ^ (4 : Int).toNat) = 10 := by decide +kernel
theorem h_part (w : World) : Calls Try.prog 21 #[.agg #[.int .i64 8, .int .u64 171], .int .i64 4, .int .i64 4] w fun e w' => e = .returned (.tuple #[.agg #[.int .i64 4, .int .u64 10], .int .i64 0]) ∧ Below w.heap.size w w' := by
  have h := part_ok 8 171 4 4 w (by decide) (by decide) (by decide) (by decide) (by decide); rwa [e_part] at h
theorem e_join : joinV 4 10 4 11 = 171 := by decide +kernel
theorem h_join (w : World) : Calls Try.prog 23 #[.agg #[.int .i64 4, .int .u64 10], .agg #[.int .i64 4, .int .u64 11]] w fun e w' => e = .returned (.tuple #[.agg #[.int .i64 8, .int .u64 171], .int .i64 0]) ∧ Below w.heap.size w w' := by
  have h := join_ok 4 10 4 11 w (by decide) (by decide) (by decide); rwa [e_join] at h

theorem h_wid' (w : World) : Calls Try.prog 11 #[.int .i64 2, .agg #[.int .i64 8, .int .u64 1], .agg #[.int .i64 4, .int .u64 10]] w fun e w' => e = .returned (.tuple #[.agg #[.int .i64 0, .int .u64 0], .int .i64 13]) ∧ Below w.heap.size w w' := h_wid w
theorem h_not' (w : World) : Calls Try.prog 11 #[.int .i64 15, .agg #[.int .i64 8, .int .u64 1], .agg #[.int .i64 8, .int .u64 1]] w fun e w' => e = .returned (.tuple #[.agg #[.int .i64 0, .int .u64 0], .int .i64 1]) ∧ Below w.heap.size w w' := h_not w
set_option maxRecDepth 100000 in
set_option maxHeartbeats 1000000 in
theorem head_any (w : World) :
    Calls Try.prog 10 #[] w fun e w' => e = .returned (.bool true) ∧ Below w.heap.size w w' := by
  go_enter Try.func10, Try.ntmps10
  go_wp2_with fail
  refine (byt_any 200 _).mono ?_
  rintro e w1 ⟨rfl, hb1⟩
  have g1 := hb1
  go_wp2_with fail
  refine (byt_any 100 _).mono ?_
  rintro e w2 ⟨rfl, hb2⟩
  have g2 := g1.trans (hb2.mono g1.size)
  clear g1 hb2
  go_wp2_with fail
  refine (byt_any 44 _).mono ?_
  rintro e w3 ⟨rfl, hb3⟩
  have g3 := g2.trans (hb3.mono g2.size)
  clear g2 hb3
  go_wp2_with fail
  refine (is_yes 2 8 200 8 100 8 44 _ h_add).mono ?_
  rintro e w4 ⟨rfl, hb4⟩
  have g4 := g3.trans (hb4.mono g3.size)
  clear g3 hb4
  go_wp2_with fail
  refine (byt_any 7 _).mono ?_
  rintro e w5 ⟨rfl, hb5⟩
  have g5 := g4.trans (hb5.mono g4.size)
  clear g4 hb5
  go_wp2_with fail
  refine (byt_any 0 _).mono ?_
  rintro e w6 ⟨rfl, hb6⟩
  have g6 := g5.trans (hb6.mono g5.size)
  clear g5 hb6
  go_wp2_with fail
  refine (byt_any 255 _).mono ?_
  rintro e w7 ⟨rfl, hb7⟩
  have g7 := g6.trans (hb7.mono g6.size)
  clear g6 hb7
  go_wp2_with fail
  refine (is_yes 5 8 7 8 0 8 255 _ h_div).mono ?_
  rintro e w8 ⟨rfl, hb8⟩
  have g8 := g7.trans (hb8.mono g7.size)
  clear g7 hb8
  go_wp2_with fail
  refine (byt_any 255 _).mono ?_
  rintro e w9 ⟨rfl, hb9⟩
  have g9 := g8.trans (hb9.mono g8.size)
  clear g8 hb9
  go_wp2_with fail
  refine (byt_any 1 _).mono ?_
  rintro e w10 ⟨rfl, hb10⟩
  have g10 := g9.trans (hb10.mono g9.size)
  clear g9 hb10
  go_wp2_with fail
  refine (is_yes 14 8 255 8 1 1 1 _ h_slt).mono ?_
  rintro e w11 ⟨rfl, hb11⟩
  have g11 := g10.trans (hb11.mono g10.size)
  clear g10 hb11
  go_wp2_with fail
  refine (byt_any 3 _).mono ?_
  rintro e w12 ⟨rfl, hb12⟩
  have g12 := g11.trans (hb12.mono g11.size)
  clear g11 hb12
  go_wp2_with fail
  refine (byt_any 8 _).mono ?_
  rintro e w13 ⟨rfl, hb13⟩
  have g13 := g12.trans (hb13.mono g12.size)
  clear g12 hb13
  go_wp2_with fail
  refine (byt_any 0 _).mono ?_
  rintro e w14 ⟨rfl, hb14⟩
  have g14 := g13.trans (hb14.mono g13.size)
  clear g13 hb14
  go_wp2_with fail
  refine (is_yes 10 8 3 8 8 8 0 _ h_shl).mono ?_
  rintro e w15 ⟨rfl, hb15⟩
  have g15 := g14.trans (hb15.mono g14.size)
  clear g14 hb15
  go_wp2_with fail
  refine (h_sext _).mono ?_
  rintro e w16 ⟨rfl, hb16⟩
  have g16 := g15.trans (hb16.mono g15.size)
  clear g15 hb16
  go_wp2_with fail
  refine (byt_any 171 _).mono ?_
  rintro e w17 ⟨rfl, hb17⟩
  go_wp2_with fail
  refine (h_part _).mono ?_
  rintro e w18 ⟨rfl, hb18⟩
  go_wp2_with fail
  refine (h_join _).mono ?_
  rintro e w19 ⟨rfl, hb19⟩
  go_wp2
  have a0 : w17.cell? ⟨w16.heap.size, 0, none⟩ = some (.int .i64 8) := cell_later hb17 (by simp [go_sem])
  have a1 : w17.cell? ⟨w16.heap.size, 1, none⟩ = some (.int .u64 248) := cell_later hb17 (by simp [go_sem])
  have a2 := cell_later hb18 a0
  have a3 := cell_later hb18 a1
  have al := World.block_lt_of_cell? w18 _ a2
  have a4 : w19.cell? ⟨w16.heap.size, 0, none⟩ = some (.int .i64 8) := cell_later (((Below.refl _ _).alloc (Nat.le_refl _) _).trans (hb19.mono (by simp))) a2
  have a5 : w19.cell? ⟨w16.heap.size, 1, none⟩ = some (.int .u64 248) := cell_later (((Below.refl _ _).alloc (Nat.le_refl _) _).trans (hb19.mono (by simp))) a3
  have b0 : w19.cell? ⟨w18.heap.size, 0, none⟩ = some (.int .i64 4) := cell_later hb19 (by simp [go_sem])
  have b1 : w19.cell? ⟨w18.heap.size, 1, none⟩ = some (.int .u64 10) := cell_later hb19 (by simp [go_sem])
  have c0 : (w19.alloc (.cells #[.int .i64 8, .int .u64 171] 24)).cell? ⟨w16.heap.size, 0, none⟩ = some (.int .i64 8) := cell_later ((Below.refl _ _).alloc (Nat.le_refl _) _) a4
  have c1 : (w19.alloc (.cells #[.int .i64 8, .int .u64 171] 24)).cell? ⟨w16.heap.size, 1, none⟩ = some (.int .u64 248) := cell_later ((Below.refl _ _).alloc (Nat.le_refl _) _) a5
  have c2 : (w19.alloc (.cells #[.int .i64 8, .int .u64 171] 24)).cell? ⟨w18.heap.size, 0, none⟩ = some (.int .i64 4) := cell_later ((Below.refl _ _).alloc (Nat.le_refl _) _) b0
  have c3 : (w19.alloc (.cells #[.int .i64 8, .int .u64 171] 24)).cell? ⟨w18.heap.size, 1, none⟩ = some (.int .u64 10) := cell_later ((Below.refl _ _).alloc (Nat.le_refl _) _) b1
  have c4 : (w19.alloc (.cells #[.int .i64 8, .int .u64 171] 24)).cell? ⟨w19.heap.size, 0, none⟩ = some (.int .i64 8) := (by simp [go_sem])
  have c5 : (w19.alloc (.cells #[.int .i64 8, .int .u64 171] 24)).cell? ⟨w19.heap.size, 1, none⟩ = some (.int .u64 171) := (by simp [go_sem])
  have g20 : Below w.heap.size w (w19.alloc (.cells #[.int .i64 8, .int .u64 171] 24)) := ((((g16.alloc g16.size _).trans (hb17.mono (by have := g16.size; simp; omega))).trans (hb18.mono (by have := g16.size; have := hb17.size; simp at this; omega))).alloc (by have := g16.size; have := hb17.size; have := hb18.size; simp at *; omega) _ |>.trans (hb19.mono (by have := g16.size; have := hb17.size; have := hb18.size; simp at *; omega))).alloc (by have := g16.size; have := hb17.size; have := hb18.size; have := hb19.size; simp at *; omega) _
  clear hb17 hb18 hb19 a0 a1 a2 a3 a4 a5 b0 b1 al g16
  generalize (w19.alloc (.cells #[.int .i64 8, .int .u64 171] 24)) = V at *
  have lV : w18.heap.size < V.heap.size := World.block_lt_of_cell? V _ c2
  have mV := Nat.lt_succ_of_lt lV
  have nV := Nat.ne_of_lt lV
  have oV := (Nat.ne_of_lt lV).symm
  go_cut [9] (fun s9 wx => s9 = .int .i64 13 ∧ Below V.heap.size V wx)
  case first =>
    go_region_held3 (fun w' => w'.cell? ⟨w18.heap.size, 0, none⟩ = some (.int .i64 4) ∧ w'.cell? ⟨w18.heap.size, 1, none⟩ = some (.int .u64 10)) (go_keep)
      (first
        | (go_at_call 29; refine (byt_any 1 _).mono ?_; rintro e w20 ⟨rfl, hb20⟩; obtain ⟨hc20, hf20⟩ := bcell hb20; have d2 : w20.cell? ⟨w18.heap.size, 0, none⟩ = some (.int .i64 4) := (by first | exact cell_later (undrew hb20) c2 | exact cell_later hb20 c2 | exact cell_later hb20 (in_alloc _ c2) | exact cell_later (undrew hb20) (in_alloc _ c2)); have d3 : w20.cell? ⟨w18.heap.size, 1, none⟩ = some (.int .u64 10) := (by first | exact cell_later (undrew hb20) c3 | exact cell_later hb20 c3 | exact cell_later hb20 (in_alloc _ c3) | exact cell_later (undrew hb20) (in_alloc _ c3)); have B20 : Below V.heap.size V w20 := (by first | exact undrew hb20 | exact hb20 | exact alloc_then (undrew hb20) | exact alloc_then hb20); have s20 := B20.size; (try simp at s20); (first | (have t0 : w20.cell? ⟨V.heap.size, 0, none⟩ = some (.int .i64 0) := cell_later hb20 (new0 _ _ _ _); have z0 : w20.frozen? ⟨V.heap.size, 0, none⟩ = false := frozen_new hb20; have t1 : w20.cell? ⟨V.heap.size, 1, none⟩ = some (.int .u64 0) := cell_later hb20 (new1 _ _ _ _); have z1 : w20.frozen? ⟨V.heap.size, 1, none⟩ = false := frozen_new hb20) | (have t0 : w20.cell? ⟨V.heap.size, 0, none⟩ = some (.int .i64 0) := cell_later (undrew hb20) (new0 _ _ _ _); have z0 : w20.frozen? ⟨V.heap.size, 0, none⟩ = false := frozen_new (undrew hb20); have t1 : w20.cell? ⟨V.heap.size, 1, none⟩ = some (.int .u64 0) := cell_later (undrew hb20) (new1 _ _ _ _); have z1 : w20.frozen? ⟨V.heap.size, 1, none⟩ = false := frozen_new (undrew hb20)) | skip); have lw20 : w18.heap.size < w20.heap.size := (by omega); have mw20 := Nat.lt_succ_of_lt lw20; have nw20 := Nat.ne_of_lt lw20; have ow20 := (Nat.ne_of_lt lw20).symm)
        | (go_at_call 11; refine (h_wid' _).mono ?_; rintro e w21 ⟨rfl, hb21⟩; obtain ⟨hc21, hf21⟩ := bcell hb21; have e2 : w21.cell? ⟨w18.heap.size, 0, none⟩ = some (.int .i64 4) := (by first | exact cell_later hb21 d2 | exact cell_later (undrew hb21) d2 | exact cell_later hb21 (in_alloc _ d2) | exact cell_later (undrew hb21) (in_alloc _ d2)); have e3 : w21.cell? ⟨w18.heap.size, 1, none⟩ = some (.int .u64 10) := (by first | exact cell_later hb21 d3 | exact cell_later (undrew hb21) d3 | exact cell_later hb21 (in_alloc _ d3) | exact cell_later (undrew hb21) (in_alloc _ d3)); have B21 : Below V.heap.size V w21 := (by first | exact B20.trans (hb21.mono B20.size) | exact B20.trans ((undrew hb21).mono B20.size) | exact B20.trans ((alloc_then hb21).mono B20.size) | exact B20.trans ((alloc_then (undrew hb21)).mono B20.size)); have s21 := hb21.size; (try simp at s21); (first | (have u0 : w21.cell? ⟨w20.heap.size, 0, none⟩ = some (.int .i64 0) := cell_later hb21 (new0 _ _ _ _); have y0 : w21.frozen? ⟨w20.heap.size, 0, none⟩ = false := frozen_new hb21; have u1 : w21.cell? ⟨w20.heap.size, 1, none⟩ = some (.int .u64 0) := cell_later hb21 (new1 _ _ _ _); have y1 : w21.frozen? ⟨w20.heap.size, 1, none⟩ = false := frozen_new hb21) | (have u0 : w21.cell? ⟨V.heap.size, 0, none⟩ = some (.int .i64 0) := cell_later hb21 t0; have y0 : w21.frozen? ⟨V.heap.size, 0, none⟩ = false := frozen_later hb21 t0 z0; have u1 : w21.cell? ⟨V.heap.size, 1, none⟩ = some (.int .u64 0) := cell_later hb21 t1; have y1 : w21.frozen? ⟨V.heap.size, 1, none⟩ = false := frozen_later hb21 t1 z1) | skip); clear hc21 hf21; have lw21 : w18.heap.size < w21.heap.size := (by omega); have mw21 := Nat.lt_succ_of_lt lw21; have nw21 := Nat.ne_of_lt lw21; have ow21 := (Nat.ne_of_lt lw21).symm))
    all_goals (go_wp2_with fail; go_meet)
    all_goals (refine ⟨rfl, ?_⟩; first | exact B21.alloc B21.size _ | exact (B21.setCell s20 _).setCell s20 _ | exact (B21.setCell (Nat.le_refl _) _).setCell (Nat.le_refl _) _)
  case rest =>
  obtain ⟨rfl, G⟩ := hcut
  generalize hV1 : wc = V1 at *
  clear hV1
  have p0 : V1.cell? ⟨w16.heap.size, 0, none⟩ = some (.int .i64 8) := cell_later G c0
  have p1 : V1.cell? ⟨w16.heap.size, 1, none⟩ = some (.int .u64 248) := cell_later G c1
  have p2 : V1.cell? ⟨w18.heap.size, 0, none⟩ = some (.int .i64 4) := cell_later G c2
  have p3 : V1.cell? ⟨w18.heap.size, 1, none⟩ = some (.int .u64 10) := cell_later G c3
  have p4 : V1.cell? ⟨w19.heap.size, 0, none⟩ = some (.int .i64 8) := cell_later G c4
  have p5 : V1.cell? ⟨w19.heap.size, 1, none⟩ = some (.int .u64 171) := cell_later G c5
  have g22 : Below w.heap.size w V1 := g20.trans (G.mono g20.size)
  clear c0 c1 c2 c3 c4 c5 g20 lV mV nV oV G
  go_wp2_with fail
  refine (byt_any 1 _).mono ?_
  rintro e w22 ⟨rfl, hb22⟩
  go_wp2_with fail
  refine (byt_any 1 _).mono ?_
  rintro e w23 ⟨rfl, hb23⟩
  go_wp2_with fail
  refine (h_not' _).mono ?_
  rintro e w24 ⟨rfl, hb24⟩
  go_wp2_with fail
  have q0 : (w24.alloc (.cells #[.int .i64 0, .int .u64 0] 24)).cell? ⟨w16.heap.size, 0, none⟩ = some (.int .i64 8) := in_alloc _ (cell_later hb24 (cell_later hb23 (cell_later hb22 p0)))
  have q1 : (w24.alloc (.cells #[.int .i64 0, .int .u64 0] 24)).cell? ⟨w16.heap.size, 1, none⟩ = some (.int .u64 248) := in_alloc _ (cell_later hb24 (cell_later hb23 (cell_later hb22 p1)))
  have q2 : (w24.alloc (.cells #[.int .i64 0, .int .u64 0] 24)).cell? ⟨w18.heap.size, 0, none⟩ = some (.int .i64 4) := in_alloc _ (cell_later hb24 (cell_later hb23 (cell_later hb22 p2)))
  have q3 : (w24.alloc (.cells #[.int .i64 0, .int .u64 0] 24)).cell? ⟨w18.heap.size, 1, none⟩ = some (.int .u64 10) := in_alloc _ (cell_later hb24 (cell_later hb23 (cell_later hb22 p3)))
  have q4 : (w24.alloc (.cells #[.int .i64 0, .int .u64 0] 24)).cell? ⟨w19.heap.size, 0, none⟩ = some (.int .i64 8) := in_alloc _ (cell_later hb24 (cell_later hb23 (cell_later hb22 p4)))
  have q5 : (w24.alloc (.cells #[.int .i64 0, .int .u64 0] 24)).cell? ⟨w19.heap.size, 1, none⟩ = some (.int .u64 171) := in_alloc _ (cell_later hb24 (cell_later hb23 (cell_later hb22 p5)))
  have g25 : Below w.heap.size w (w24.alloc (.cells #[.int .i64 0, .int .u64 0] 24)) := (((g22.trans (hb22.mono g22.size)).trans (hb23.mono (by have := g22.size; have := hb22.size; omega))).trans (hb24.mono (by have := g22.size; have := hb22.size; have := hb23.size; omega))).alloc (by have := g22.size; have := hb22.size; have := hb23.size; have := hb24.size; omega) _
  clear p0 p1 p2 p3 p4 p5 g22 hb22 hb23 hb24
  generalize (w24.alloc (.cells #[.int .i64 0, .int .u64 0] 24)) = V2 at *
  go_region_held3 (fun w' => w'.cell? ⟨w16.heap.size, 0, none⟩ = some (.int .i64 8) ∧ w'.cell? ⟨w16.heap.size, 1, none⟩ = some (.int .u64 248) ∧ w'.cell? ⟨w18.heap.size, 0, none⟩ = some (.int .i64 4) ∧ w'.cell? ⟨w18.heap.size, 1, none⟩ = some (.int .u64 10) ∧ w'.cell? ⟨w19.heap.size, 0, none⟩ = some (.int .i64 8) ∧ w'.cell? ⟨w19.heap.size, 1, none⟩ = some (.int .u64 171)) (go_keep)
    (first
      | (go_at_call 29; ((with_reducible refine (byt_any 248 _).mono ?_); rintro e w25 ⟨rfl, hb25⟩); have d0 := cell_later (undrew hb25) q0; have d1 := cell_later (undrew hb25) q1; have d2 := cell_later (undrew hb25) q2; have d3 := cell_later (undrew hb25) q3; have d4 := cell_later (undrew hb25) q4; have d5 := cell_later (undrew hb25) q5)
      | (go_at_call 29; ((with_reducible refine (byt_any 171 _).mono ?_); rintro e w26 ⟨rfl, hb26⟩); have f0 := cell_later hb26 d0; have f1 := cell_later hb26 d1; have f2 := cell_later hb26 d2; have f3 := cell_later hb26 d3; have f4 := cell_later hb26 d4; have f5 := cell_later hb26 d5))
  go_wp2_with fail
  have g26 : Below w.heap.size w w26 := (g25.trans ((undrew hb25).mono g25.size)).trans (hb26.mono (by have := g25.size; have h := hb25.size; simp at h; omega))
  clear d0 d1 d2 d3 d4 d5 f0 f1 f2 f3 f4 f5 q0 q1 q2 q3 q4 q5 hb25 hb26 g25
  refine (byt_any 255 _).mono ?_
  rintro e w27 ⟨rfl, hb27⟩
  have g27 := g26.trans (hb27.mono g26.size)
  clear g26 hb27
  go_wp2_with fail
  refine (valid_yes 8 255 _ (by decide)).mono ?_
  rintro e w28 ⟨rfl, hb28⟩
  have g28 := g27.trans (hb28.mono g27.size)
  clear g27 hb28
  go_wp2_with fail
  refine (byt_any 256 _).mono ?_
  rintro e w29 ⟨rfl, hb29⟩
  have g29 := g28.trans (hb29.mono g28.size)
  clear g28 hb29
  go_wp2_with fail
  refine (valid_no 8 256 _ (by decide)).mono ?_
  rintro e w30 ⟨rfl, hb30⟩
  have g30 := g29.trans (hb30.mono g29.size)
  clear g29 hb30
  go_wp2_with fail
  refine (valid_no 0 0 _ (by decide)).mono ?_
  rintro e w31 ⟨rfl, hb31⟩
  have g31 := g30.trans (hb31.mono g30.size)
  clear g30 hb31
  go_wp2_with fail
  go_ret
  exact ⟨rfl, g31⟩
end Go.Proofs.Yteibkmignbbekaa
