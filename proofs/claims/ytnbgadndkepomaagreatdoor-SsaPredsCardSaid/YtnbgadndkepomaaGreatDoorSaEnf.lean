/- ssa: whether the ends fit. -/
import Derived.Test.YtnbgadndkepomaaGreatDoorSaIxf
import Derived.Test.YtnbgadndkepomaaGreatDoorSQI
import Derived.Test.YtnbgadndkepomaaGreatDoorSaOut2
namespace Go.Proofs.YtnbgadndkepomaaGreatDoor
open Go.RowKit

set_option maxRecDepth 100000 in
set_option maxHeartbeats 1600000 in
theorem isNoEdge_any {W : World} {p : Nat} {c : Cd} {x : Sl} {b1 b2 : Nat} {P H : List Int} (h : PtAt W p c x) (hp : Pre W p c b1 b2 P H) (hl : ListsP c) (e : Edge) (he : I64 e.to) (TA : Option Addr) (tc : Nat) (hal : e.args.length ≤ 9223372036854775807) :
    Calls Tryz.prog 95 #[.pointer (some ⟨p, 0, none⟩), .agg #[.int .i64 e.to, .slice TA e.args.length tc]] W fun r w' => r = .returned (.bool (!B (EdgeP c e))) ∧ Below W.heap.size W w' := by
  have l3 := hl.2.2.1.2
  have l2 := hl.2.2.2.1
  obtain ⟨tg, args⟩ := e
  simp only at he hal ⊢
  obtain ⟨R, hR⟩ : ∃ R, Hid ((!B (EdgeP c ⟨tg, args⟩)) = R) := ⟨_, Lib.hid rfl⟩
  rw [hR.out]
  have N0 := Box.new W 100 #[.int .i64 tg, .slice TA args.length tc]
  have bA : Below W.heap.size W (W.alloc (.cells #[.int .i64 tg, .slice TA args.length tc] 100)) := (Below.refl _ _).alloc (Nat.le_refl _) _
  have hA := h.later bA
  have hP := hp.later bA
  have n0 := N0.cell 0
  have n1 := N0.cell 1
  have s3 := hA.s3
  by_cases q0 : tg = 0
  · have hQ : Hid (R = true) := Lib.hid (by rw [← hR.out, B_not (fun h => h.1 q0)]; rfl)
    have b0 : (tg == 0) = true := by simpa using q0
    clear hR q0
    go_enter Tryz.func95, Tryz.ntmps95
    go_wp2_with fail
    go_quiet (fail)
    go_wp2
    go_ret
    exact ⟨by rw [hQ.out]; rfl, Below.trans bA ((Drew.below ⟨_, rfl⟩).mono bA.size)⟩
  have b0 : (tg == 0) = false := by simpa using q0
  have k1 := fun m => isIndex_block tg he x.K c.bk.length x.kc (by omega) ((W.alloc (.cells #[.int .i64 tg, .slice TA args.length tc] 100)).drewN m)
  by_cases q1 : 0 ≤ tg ∧ tg < c.bk.length
  rotate_left 1
  · have hQ : Hid (R = true) := Lib.hid (by rw [← hR.out, B_not (fun ⟨_, h1, h2, _⟩ => q1 ⟨h2, by simp only at h1 h2; omega⟩)]; rfl)
    simp only [B_not q1] at k1
    clear hR q0 q1
    go_enter Tryz.func95, Tryz.ntmps95
    go_wp2_with fail
    go_quiet (first | (go_at_call 125; with_reducible exact quiet_same' (k1 _)))
    go_wp2
    go_ret
    exact ⟨by rw [hQ.out]; rfl, Below.trans bA ((Drew.below ⟨_, rfl⟩).mono bA.size)⟩
  simp only [B_of q1] at k1
  obtain ⟨k, rfl, hk⟩ : ∃ k : Nat, tg = k ∧ k < c.bk.length := ⟨tg.toNat, by omega, by omega⟩
  have m1 := hP.par k hk
  have e5 := hP.e5
  have hQ : Hid (R = ((args.length : Int) != ((parN c c.bk[k] : Nat) : Int))) := Lib.hid (by
    rw [← hR.out]
    have : ((args.length : Int) != ((parN c c.bk[k] : Nat) : Int)) = !((args.length : Int) == ((parN c c.bk[k] : Nat) : Int)) := rfl
    rw [this]
    congr 1
    refine (B_eq ?_).symm
    rw [beq_iff_eq]
    exact ⟨fun h => ⟨q0, (by simpa using hk), by simp only; omega, by simp; omega⟩, fun ⟨_, _, _, h⟩ => by simp at h; omega⟩)
  obtain ⟨z, hz⟩ : ∃ t, Hid (parN c c.bk[k] = t) := ⟨_, Lib.hid rfl⟩
  rw [hz.out] at m1 hQ
  have hkc : (k : Int) < c.bk.length := by omega
  clear hR q0 q1 hz
  go_enter Tryz.func95, Tryz.ntmps95
  go_wp2_with fail
  go_quiet (first | (go_at_call 125; with_reducible exact quiet_same' (k1 _)))
  go_wp2
  go_ret
  exact ⟨by rw [hQ.out]; rfl, Below.trans bA ((Drew.below ⟨_, rfl⟩).mono bA.size)⟩
theorem any_notB {α : Type} (P : α → Prop) (l : List α) : l.any (fun v => !B (P v)) = !B (∀ w ∈ l, P w) := by
  rw [Bool.eq_iff_iff]
  simp only [List.any_eq_true, Bool.not_eq_true', B_false]
  constructor
  · rintro ⟨x, hx, h⟩ hall; exact h (hall x hx)
  · intro h
    apply Classical.byContradiction
    intro hn
    exact h (fun w hw => Classical.byContradiction fun hc => hn ⟨w, hw, hc⟩)
theorem edges_len (e : CEn) : (edges e).length ≤ 2 := by unfold edges; split <;> (try split) <;> simp
theorem edges_ok {e : CEn} (h : e.ok) : ∀ t ∈ edges e, I64 t.to ∧ (∀ v ∈ t.args, I64 v) := by
  intro t ht
  unfold edges at ht
  split at ht
  · simp only [List.mem_singleton] at ht; subst ht; exact ⟨h.2.2.1, h.2.2.2.2.1⟩
  · split at ht
    · simp only [List.mem_cons, List.not_mem_nil, or_false] at ht
      rcases ht with rfl | rfl
      · exact ⟨h.2.2.1, h.2.2.2.2.1⟩
      · exact ⟨h.2.2.2.1, h.2.2.2.2.2.1⟩
    · cases ht
/-- A block's end is as it must be. -/
def BkE (c : Cd) (y : CBk) : Prop := Plc y.en.at_ ∧ EndP y.en ∧ ∀ e ∈ edges y.en, EdgeP c e
set_option maxRecDepth 100000 in
set_option maxHeartbeats 3200000 in
theorem endsFit1_any {W : World} {p : Nat} {c : Cd} {x : Sl} {b1 b2 : Nat} {P H : List Int} (h : PtAt W p c x) (hp : Pre W p c b1 b2 P H) (hl : ListsP c) (y : CBk) (yok : y.ok) (TA EA : Option Addr) (tc ec : Nat) (hle : EndL W y.en TA EA tc ec) (q : Nat) (hq : W.cell? ⟨q, 0, none⟩ = some (.pointer (some ⟨p, 0, none⟩))) :
    Calls Tryz.prog 91 #[.agg #[.int .i64 y.frm, .int .i64 y.til, .int .i64 y.en.kind, .int .i64 y.en.a, .int .i64 y.en.to, .int .i64 y.en.els, .slice TA y.en.ta.length tc, .slice EA y.en.ea.length ec, .int .i64 y.en.n, .int .i64 y.en.at_], .pointer (some ⟨q, 0, none⟩)] W fun r w' => r = .returned (.bool (!B (BkE c y))) ∧ Below W.heap.size W w' := by
  have hmf : ∀ (fn : Fn) (first cap : Array Value) (w : World), (Instr.makeFunc fn first cap).run Tryz.prog w = .ok (.func fn first cap) w := fun _ _ _ _ => rfl
  obtain ⟨R, hR⟩ : ∃ R, Hid ((!B (BkE c y)) = R) := ⟨_, Lib.hid rfl⟩
  rw [hR.out]
  have N0 := Box.new W 43 #[.int .i64 y.frm, .int .i64 y.til, .int .i64 y.en.kind, .int .i64 y.en.a, .int .i64 y.en.to, .int .i64 y.en.els, .slice TA y.en.ta.length tc, .slice EA y.en.ea.length ec, .int .i64 y.en.n, .int .i64 y.en.at_]
  have bA : Below W.heap.size W (W.alloc (.cells #[.int .i64 y.frm, .int .i64 y.til, .int .i64 y.en.kind, .int .i64 y.en.a, .int .i64 y.en.to, .int .i64 y.en.els, .slice TA y.en.ta.length tc, .slice EA y.en.ea.length ec, .int .i64 y.en.n, .int .i64 y.en.at_] 43)) := (Below.refl _ _).alloc (Nat.le_refl _) _
  have hA := h.later bA
  have hP := hp.later bA
  replace hq := cell_later bA hq
  have hle2 := hle.later bA
  go_enter Tryz.func91, Tryz.ntmps91
  go_upto_region 1 with fail
  obtain ⟨w3, hw3⟩ : ∃ Y, W.alloc (.cells #[.int .i64 y.frm, .int .i64 y.til, .int .i64 y.en.kind, .int .i64 y.en.a, .int .i64 y.en.to, .int .i64 y.en.els, .slice TA y.en.ta.length tc, .slice EA y.en.ea.length ec, .int .i64 y.en.n, .int .i64 y.en.at_] 43) = Y := ⟨_, rfl⟩
  rw [hw3] at N0 bA hA hP hq hle2
  simp only [hw3]
  clear hw3
  obtain ⟨bc, hbc⟩ : ∃ b, Hid (W.heap.size = b) := ⟨_, Lib.hid rfl⟩
  rw [hbc.out] at N0
  simp only [hbc.out]
  have hq0 := Bel.refl w3
  have hmk : ∀ X, Bel w3 X → X.cell? ⟨bc, 0, none⟩ = some (.int .i64 y.frm) ∧ X.cell? ⟨bc, 1, none⟩ = some (.int .i64 y.til) ∧ X.cell? ⟨bc, 2, none⟩ = some (.int .i64 y.en.kind) ∧ X.cell? ⟨bc, 3, none⟩ = some (.int .i64 y.en.a) ∧ X.cell? ⟨bc, 4, none⟩ = some (.int .i64 y.en.to) ∧ X.cell? ⟨bc, 5, none⟩ = some (.int .i64 y.en.els) ∧ X.cell? ⟨bc, 6, none⟩ = some (.slice TA y.en.ta.length tc) ∧ X.cell? ⟨bc, 7, none⟩ = some (.slice EA y.en.ea.length ec) ∧ X.cell? ⟨bc, 8, none⟩ = some (.int .i64 y.en.n) ∧ X.cell? ⟨bc, 9, none⟩ = some (.int .i64 y.en.at_) ∧ X.cell? ⟨q, 0, none⟩ = some (.pointer (some ⟨p, 0, none⟩)) ∧ Bel w3 X := fun X h => ⟨h.cell (N0.cell 0), h.cell (N0.cell 1), h.cell (N0.cell 2), h.cell (N0.cell 3), h.cell (N0.cell 4), h.cell (N0.cell 5), h.cell (N0.cell 6), h.cell (N0.cell 7), h.cell (N0.cell 8), h.cell (N0.cell 9), h.cell hq, h⟩
  have kPl : Hid (∀ X, Calls Tryz.prog 86 #[.int .i64 y.en.at_] X fun e w' => e = .returned (.bool (B (Plc y.en.at_))) ∧ X = w') := Lib.hid (fun X => isPlace_any _ X)
  have kEf : Hid (∀ X : World, Calls Tryz.prog 92 #[.agg #[.int .i64 y.en.kind, .int .i64 y.en.a, .int .i64 y.en.to, .int .i64 y.en.els, .slice TA y.en.ta.length tc, .slice EA y.en.ea.length ec, .int .i64 y.en.n, .int .i64 y.en.at_]] X fun e w' => e = .returned (.bool (B (EndP y.en))) ∧ Below X.heap.size X w') := Lib.hid (fun X => endFits_any y.en TA EA tc ec)
  have kEd : Hid (∀ X : World, Bel w3 X → Calls Tryz.prog 94 #[.agg #[.int .i64 y.en.kind, .int .i64 y.en.a, .int .i64 y.en.to, .int .i64 y.en.els, .slice TA y.en.ta.length tc, .slice EA y.en.ea.length ec, .int .i64 y.en.n, .int .i64 y.en.at_]] X (EdgesPost X y.en)) := Lib.hid (fun X hX => edgesOf_any y.en TA EA tc ec (hle2.later hX))
  have kCo : Hid (∀ (X : World) (A : Option Addr) (c6 : Nat), Bel w3 X → EdgeRow X A (edges y.en) → Calls Tryz.prog 93 #[.slice A (edges y.en).length c6, .func (.func 95) #[.pointer (some ⟨p, 0, none⟩)] #[]] X fun e w' => e = .returned (.bool (!B (∀ e ∈ edges y.en, EdgeP c e))) ∧ Below X.heap.size X w') := Lib.hid (fun X A c6 hX hr => by
    have := edges_len y.en
    have hC := contains_edgeN (edges y.en) (fun e => !B (EdgeP c e)) (.pointer (some ⟨p, 0, none⟩)) X A c6 (by omega) hr (fun t ht w hw TA' tc' l1 m1 _ => isNoEdge_any ((hA.later hX).later hw) ((hP.later hX).later hw) hl t (edges_ok yok.2.2 t ht).1 TA' tc' (by unfold maxLen at m1; omega))
    rw [any_notB] at hC
    exact hC)
  by_cases qa : Plc y.en.at_
  rotate_left 1
  · have hQ : Hid (R = true) := Lib.hid (by rw [← hR.out, B_not (fun h => qa h.1)]; rfl)
    rw [B_not qa] at kPl
    have n9 := N0.cell 9
    clear hR qa hA hP hle2 hq h hp hl hle hmk kEf kEd kCo
    go_quiet (first | (go_at_call 86; with_reducible exact quiet_same' (kPl.out _)))
    go_wp2
    go_ret
    exact ⟨by rw [hQ.out]; rfl, bA.trans ((Drew.below ⟨_, rfl⟩).mono bA.size)⟩
  rw [B_of qa] at kPl
  by_cases qb : EndP y.en
  rotate_left 1
  · have hQ : Hid (R = true) := Lib.hid (by rw [← hR.out, B_not (fun h => qb h.2.1)]; rfl)
    simp only [B_not qb] at kEf
    have n9 := N0.cell 9
    clear hR qa qb hA hP hle2 hq h hp hl hle kEd kCo
    go_wp2_with fail
    refine wp_region_held_drew (S := (fun w' => w'.cell? ⟨bc, 0, none⟩ = some (.int .i64 y.frm) ∧ w'.cell? ⟨bc, 1, none⟩ = some (.int .i64 y.til) ∧ w'.cell? ⟨bc, 2, none⟩ = some (.int .i64 y.en.kind) ∧ w'.cell? ⟨bc, 3, none⟩ = some (.int .i64 y.en.a) ∧ w'.cell? ⟨bc, 4, none⟩ = some (.int .i64 y.en.to) ∧ w'.cell? ⟨bc, 5, none⟩ = some (.int .i64 y.en.els) ∧ w'.cell? ⟨bc, 6, none⟩ = some (.slice TA y.en.ta.length tc) ∧ w'.cell? ⟨bc, 7, none⟩ = some (.slice EA y.en.ea.length ec) ∧ w'.cell? ⟨bc, 8, none⟩ = some (.int .i64 y.en.n) ∧ w'.cell? ⟨bc, 9, none⟩ = some (.int .i64 y.en.at_) ∧ w'.cell? ⟨q, 0, none⟩ = some (.pointer (some ⟨p, 0, none⟩)) ∧ Bel w3 w')) (by kernel_rfl) (hmk _ (Bel.drew hq0)) (fun hHeld => ?_)
    refine wpAnyH_take (i := 0) (v := ?_) rfl (by kernel_rfl) (by kernel_rfl) (by kernel_rfl) (fun _ _ _ h => h) (Or.inl ⟨by rfl, ?_⟩) (by assumption) ?_
    rotate_left
    · (intro w hSw; (try dsimp only at hSw); go_simp; try (with_reducible rfl))
    try simp only [Act.put, List.getElem_toArray, List.getElem_cons_zero, List.setIfInBounds_toArray, List.set_cons_zero, List.set_cons_succ]
    refine wpAnyH_take (i := 1) (v := ?_) rfl (by kernel_rfl) (by kernel_rfl) (by kernel_rfl) (fun _ _ _ h => h) (Or.inl ⟨by rfl, ?_⟩) (by assumption) ?_
    rotate_left
    · (intro w hSw; (try dsimp only at hSw); go_simp; try (with_reducible rfl))
    try simp only [Act.put, List.getElem_toArray, List.getElem_cons_zero, List.getElem_cons_succ, List.setIfInBounds_toArray, List.set_cons_zero, List.set_cons_succ]
    refine wpAnyH_take (i := 2) (v := ?_) rfl (by kernel_rfl) (by kernel_rfl) (by kernel_rfl) (fun _ _ _ h => h) (Or.inl ⟨by rfl, ?_⟩) (by assumption) ?_
    rotate_left
    · (intro w hSw; (try dsimp only at hSw); go_simp; try (with_reducible rfl))
    try simp only [Act.put, List.getElem_toArray, List.getElem_cons_zero, List.getElem_cons_succ, List.setIfInBounds_toArray, List.set_cons_zero, List.set_cons_succ]
    refine wpAnyH_ready (rs := [3]) (by kernel_rfl) (by simp) ?_
    refine AllReadyH.cons rfl (fun K hK => ?_) AllReadyH.nil
    go_simp
    refine (kPl.out _).mono ?_
    rintro e w5 ⟨rfl, rfl⟩
    refine hK.out _ _ (by assumption) (fun hHeld => ?_)
    clear hK
    try simp only [Act.put, List.getElem_toArray, List.getElem_cons_zero, List.getElem_cons_succ, List.setIfInBounds_toArray, List.set_cons_zero, List.set_cons_succ]
    refine wpAnyH_take (i := 4) (v := ?_) rfl (by kernel_rfl) (by kernel_rfl) (by kernel_rfl) (fun _ _ _ h => h) (Or.inl ⟨by rfl, ?_⟩) (by assumption) ?_
    rotate_left
    · (intro w hSw; (try dsimp only at hSw); go_simp; try (with_reducible rfl))
    try simp only [Act.put, List.getElem_toArray, List.getElem_cons_zero, List.getElem_cons_succ, List.setIfInBounds_toArray, List.set_cons_zero, List.set_cons_succ]
    refine wpAnyH_take (i := 5) (v := ?_) rfl (by kernel_rfl) (by kernel_rfl) (by kernel_rfl) (fun _ _ _ h => h) (Or.inl ⟨by rfl, ?_⟩) (by assumption) ?_
    rotate_left
    · (intro w hSw; (try dsimp only at hSw); go_simp; try (with_reducible rfl))
    try simp only [Act.put, List.getElem_toArray, List.getElem_cons_zero, List.getElem_cons_succ, List.setIfInBounds_toArray, List.set_cons_zero, List.set_cons_succ]
    refine wpAnyH_take (i := 6) (v := ?_) rfl (by kernel_rfl) (by kernel_rfl) (by kernel_rfl) (fun _ _ _ h => h) (Or.inl ⟨by rfl, ?_⟩) (by assumption) ?_
    rotate_left
    · (intro w hSw; (try dsimp only at hSw); go_simp; try (with_reducible rfl))
    try simp only [Act.put, List.getElem_toArray, List.getElem_cons_zero, List.getElem_cons_succ, List.setIfInBounds_toArray, List.set_cons_zero, List.set_cons_succ]
    refine wpAnyH_take (i := 7) (v := ?_) rfl (by kernel_rfl) (by kernel_rfl) (by kernel_rfl) (fun _ _ _ h => h) (Or.inl ⟨by rfl, ?_⟩) (by assumption) ?_
    rotate_left
    · (intro w hSw; (try dsimp only at hSw); go_simp; try (with_reducible rfl))
    try simp only [Act.put, List.getElem_toArray, List.getElem_cons_zero, List.getElem_cons_succ, List.setIfInBounds_toArray, List.set_cons_zero, List.set_cons_succ]
    refine wpAnyH_ready (rs := [8]) (by kernel_rfl) (by simp) ?_
    refine AllReadyH.cons rfl (fun K hK => ?_) AllReadyH.nil
    go_simp
    refine (kEf.out _).mono ?_
    rintro e w5 ⟨rfl, b5⟩
    have hS5 : Bel w3 w5 := Bel.below (Bel.drew hq0) b5
    refine hK.out _ _ (hmk _ hS5) (fun hHeld => ?_)
    clear hK
    try simp only [Act.put, List.getElem_toArray, List.getElem_cons_zero, List.getElem_cons_succ, List.setIfInBounds_toArray, List.set_cons_zero, List.set_cons_succ]
    refine wpAnyH_take (i := 9) (v := ?_) rfl (by kernel_rfl) (by kernel_rfl) (by kernel_rfl) (fun _ _ _ h => h) (Or.inl ⟨by rfl, ?_⟩) (by assumption) ?_
    rotate_left
    · (intro w hSw; (try dsimp only at hSw); go_simp; try (with_reducible rfl))
    try simp only [Act.put, List.getElem_toArray, List.getElem_cons_zero, List.getElem_cons_succ, List.setIfInBounds_toArray, List.set_cons_zero, List.set_cons_succ]
    refine wpAnyH_take (i := 10) (v := ?_) rfl (by kernel_rfl) (by kernel_rfl) (by kernel_rfl) (fun _ _ _ h => h) (Or.inl ⟨by rfl, ?_⟩) (by assumption) ?_
    rotate_left
    · (intro w hSw; (try dsimp only at hSw); go_simp; try (with_reducible rfl))
    try simp only [Act.put, List.getElem_toArray, List.getElem_cons_zero, List.getElem_cons_succ, List.setIfInBounds_toArray, List.set_cons_zero, List.set_cons_succ]
    refine wpAnyH_take (i := 11) (v := ?_) rfl (by kernel_rfl) (by kernel_rfl) (by kernel_rfl) (fun _ _ _ h => h) (Or.inl ⟨by rfl, ?_⟩) (by assumption) ?_
    rotate_left
    · (intro w hSw; (try dsimp only at hSw); go_simp; try (with_reducible rfl))
    try simp only [Act.put, List.getElem_toArray, List.getElem_cons_zero, List.getElem_cons_succ, List.setIfInBounds_toArray, List.set_cons_zero, List.set_cons_succ]
    refine wpAnyH_take (i := 12) (v := undef) rfl (by kernel_rfl) (by kernel_rfl) (by kernel_rfl) (fun _ _ _ h => h) (Or.inr ⟨by rfl, rfl⟩) (by assumption) ?_
    try simp only [Act.put, List.getElem_toArray, List.getElem_cons_zero, List.getElem_cons_succ, List.setIfInBounds_toArray, List.set_cons_zero, List.set_cons_succ]
    refine wpAnyH_take (i := 13) (v := undef) rfl (by kernel_rfl) (by kernel_rfl) (by kernel_rfl) (fun _ _ _ h => h) (Or.inr ⟨by rfl, rfl⟩) (by assumption) ?_
    try simp only [Act.put, List.getElem_toArray, List.getElem_cons_zero, List.getElem_cons_succ, List.setIfInBounds_toArray, List.set_cons_zero, List.set_cons_succ]
    refine wpAnyH_take (i := 14) (v := undef) rfl (by kernel_rfl) (by kernel_rfl) (by kernel_rfl) (fun _ _ _ h => h) (Or.inr ⟨by rfl, rfl⟩) (by assumption) ?_
    try simp only [Act.put, List.getElem_toArray, List.getElem_cons_zero, List.getElem_cons_succ, List.setIfInBounds_toArray, List.set_cons_zero, List.set_cons_succ]
    refine wpAnyH_take (i := 15) (v := undef) rfl (by kernel_rfl) (by kernel_rfl) (by kernel_rfl) (fun _ _ _ h => h) (Or.inr ⟨by rfl, rfl⟩) (by assumption) ?_
    try simp only [Act.put, List.getElem_toArray, List.getElem_cons_zero, List.getElem_cons_succ, List.setIfInBounds_toArray, List.set_cons_zero, List.set_cons_succ]
    refine wpAnyH_take (i := 16) (v := undef) rfl (by kernel_rfl) (by kernel_rfl) (by kernel_rfl) (fun _ _ _ h => h) (Or.inr ⟨by rfl, rfl⟩) (by assumption) ?_
    try simp only [Act.put, List.getElem_toArray, List.getElem_cons_zero, List.getElem_cons_succ, List.setIfInBounds_toArray, List.set_cons_zero, List.set_cons_succ]
    refine wpAnyH_take (i := 17) (v := undef) rfl (by kernel_rfl) (by kernel_rfl) (by kernel_rfl) (fun _ _ _ h => h) (Or.inr ⟨by rfl, rfl⟩) (by assumption) ?_
    try simp only [Act.put, List.getElem_toArray, List.getElem_cons_zero, List.getElem_cons_succ, List.setIfInBounds_toArray, List.set_cons_zero, List.set_cons_succ]
    refine wpAnyH_take (i := 18) (v := ?_) rfl (by kernel_rfl) (by kernel_rfl) (by kernel_rfl) (fun _ _ _ h => h) (Or.inl ⟨by rfl, ?_⟩) (by assumption) ?_
    rotate_left
    · (intro w hSw; (try dsimp only at hSw); go_simp; try (with_reducible rfl))
    try simp only [Act.put, List.getElem_toArray, List.getElem_cons_zero, List.getElem_cons_succ, List.setIfInBounds_toArray, List.set_cons_zero, List.set_cons_succ]
    refine wpAnyH_take (i := 19) (v := ?_) rfl (by kernel_rfl) (by kernel_rfl) (by kernel_rfl) (fun _ _ _ h => h) (Or.inl ⟨by rfl, ?_⟩) (by assumption) ?_
    rotate_left
    · (intro w hSw; (try dsimp only at hSw); go_simp; try (with_reducible rfl))
    try simp only [Act.put, List.getElem_toArray, List.getElem_cons_zero, List.getElem_cons_succ, List.setIfInBounds_toArray, List.set_cons_zero, List.set_cons_succ]
    refine wpAnyH_done (by kernel_rfl) ?_ _
    clear hmk
    go_wp2
    go_ret
    exact ⟨by rw [hQ.out]; rfl, bA.trans (Below.mono hS5 bA.size)⟩
  simp only [B_of qb] at kEf
  have hQ : Hid (R = (!B (∀ e ∈ edges y.en, EdgeP c e))) := Lib.hid (by rw [← hR.out]; congr 1; exact B_congr ⟨fun h => h.2.2, fun h => ⟨qa, qb, h⟩⟩)
  clear hR qa qb hA hP hle2 N0 hq h hp hl hle
  go_region_held3 (fun w' => w'.cell? ⟨bc, 0, none⟩ = some (.int .i64 y.frm) ∧ w'.cell? ⟨bc, 1, none⟩ = some (.int .i64 y.til) ∧ w'.cell? ⟨bc, 2, none⟩ = some (.int .i64 y.en.kind) ∧ w'.cell? ⟨bc, 3, none⟩ = some (.int .i64 y.en.a) ∧ w'.cell? ⟨bc, 4, none⟩ = some (.int .i64 y.en.to) ∧ w'.cell? ⟨bc, 5, none⟩ = some (.int .i64 y.en.els) ∧ w'.cell? ⟨bc, 6, none⟩ = some (.slice TA y.en.ta.length tc) ∧ w'.cell? ⟨bc, 7, none⟩ = some (.slice EA y.en.ea.length ec) ∧ w'.cell? ⟨bc, 8, none⟩ = some (.int .i64 y.en.n) ∧ w'.cell? ⟨bc, 9, none⟩ = some (.int .i64 y.en.at_) ∧ w'.cell? ⟨q, 0, none⟩ = some (.pointer (some ⟨p, 0, none⟩)) ∧ Bel w3 w') ((first | assumption | (refine hmk _ ?_; repeat (first | assumption | exact hq0 | refine Bel.drew ?_)))) (first | (go_at_call 86; with_reducible refine (kPl.out _).mono ?_; rintro e w5 ⟨rfl, rfl⟩) | (go_at_call 92; refine (kEf.out _).mono ?_; rintro e w5 ⟨rfl, b5⟩; have hS5 : Bel w3 w5 := Bel.below (by first | assumption | exact Bel.drew hq0) b5) | (go_at_call 94; refine (kEd.out _ (by first | assumption | exact Bel.drew hq0)).mono ?_; rintro e w6 ⟨A6, c6, rfl, l6, m6, r6, b6⟩; have hS6 : Bel w3 w6 := Bel.below (by first | assumption | exact Bel.drew hq0) b6; replace r6 := Lib.hid r6; replace l6 := Lib.hid l6; replace m6 := Lib.hid m6) | (go_at_call 93; refine (kCo.out _ _ _ (by assumption) r6.out).mono ?_; rintro e w7 ⟨rfl, b7⟩; have hS7 : Bel w3 w7 := Bel.below (by assumption) b7))
  all_goals
    clear hmk
    go_wp2
    go_ret
    exact ⟨by rw [hQ.out]; rfl, bA.trans (Below.mono hS7 bA.size)⟩
set_option maxRecDepth 100000 in
set_option maxHeartbeats 1600000 in
theorem endsFit_any {W : World} {p : Nat} {c : Cd} {x : Sl} {b1 b2 : Nat} {P H : List Int} (h : PtAt W p c x) (hp : Pre W p c b1 b2 P H) (hl : ListsP c) (ok : c.ok) :
    Calls Tryz.prog 47 #[.pointer (some ⟨p, 0, none⟩)] W fun r w' => r = .returned (.bool (B (EndsP c))) ∧ Below W.heap.size W w' := by
  have hmf : ∀ (fn : Fn) (first cap : Array Value) (w : World), (Instr.makeFunc fn first cap).run Tryz.prog w = .ok (.func fn first cap) w := fun _ _ _ _ => rfl
  have l3 := hl.2.2.1.2
  have N0 := Box.new W 63 #[.pointer (some ⟨p, 0, none⟩)]
  have bA : Below W.heap.size W (W.alloc (.cells #[.pointer (some ⟨p, 0, none⟩)] 63)) := (Below.refl _ _).alloc (Nat.le_refl _) _
  have hA := h.later bA
  have hP := hp.later bA
  have n0 := N0.cell 0
  have s3 := hA.s3
  have hC := contains_blockE c.bk (fun y => !B (BkE c y)) (.pointer (some ⟨W.heap.size, 0, none⟩)) (W.alloc (.cells #[.pointer (some ⟨p, 0, none⟩)] 63)) x.K x.kc (by omega) hA.at_.k
    (fun t ht w hw TA EA tc ec hle => endsFit1_any (hA.later hw) (hP.later hw) hl t (ok.bk t ht) TA EA tc ec hle W.heap.size (cell_later hw n0))
  rw [any_notB] at hC
  have hQ : Hid (B (EndsP c) = B (∀ y ∈ c.bk, BkE c y)) := Lib.hid rfl
  rw [hQ.out]
  replace hC := Lib.hid hC
  clear hA hP h hp
  go_enter Tryz.func47, Tryz.ntmps47
  go_wp2_with fail
  refine hC.out.mono ?_
  rintro e w1 ⟨rfl, b1⟩
  clear hC
  go_wp2
  go_ret
  exact ⟨by simp, bA.trans (b1.mono bA.size)⟩
end Go.Proofs.YtnbgadndkepomaaGreatDoor
