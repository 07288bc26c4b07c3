/- ssa: whether all arguments fit. -/
import Derived.Test.YtnbgadndkepomaaGreatDoorSaUnf
namespace Go.Proofs.YtnbgadndkepomaaGreatDoor
open Go.RowKit

/-- The arguments of a block's end fit. -/
def BkA (c : Cd) (y : CBk) : Prop := (y.en.kind = 2 → wOf c y.en.a = 1) ∧ ∀ e ∈ edges y.en, ArgP c e
set_option maxRecDepth 100000 in
set_option maxHeartbeats 3200000 in
theorem argumentsFit1_any {W : World} {p : Nat} {c : Cd} {x : Sl} (h : PtAt W p c x) (hl : ListsP c) (hb : BlocksP c) (y : CBk) (hE : ∀ e ∈ edges y.en, EdgeP c e) (hv : ∀ v ∈ endArgs y.en, Ix v c.ins) (TA EA : Option Addr) (tc ec : Nat) (hle : EndL W y.en TA EA tc ec) (q : Nat) (hq : W.cell? ⟨q, 0, none⟩ = some (.pointer (some ⟨p, 0, none⟩))) :
    Calls Tryz.prog 105 #[.agg #[.int .i64 y.frm, .int .i64 y.til, .int .i64 y.en.kind, .int .i64 y.en.a, .int .i64 y.en.to, .int .i64 y.en.els, .slice TA y.en.ta.length tc, .slice EA y.en.ea.length ec, .int .i64 y.en.n, .int .i64 y.en.at_], .pointer (some ⟨q, 0, none⟩)] W fun r w' => r = .returned (.bool (!B (BkA c y))) ∧ Below W.heap.size W w' := by
  have hmf : ∀ (fn : Fn) (first cap : Array Value) (w : World), (Instr.makeFunc fn first cap).run Tryz.prog w = .ok (.func fn first cap) w := fun _ _ _ _ => rfl
  obtain ⟨R, hR⟩ : ∃ R, Hid ((!B (BkA c y)) = R) := ⟨_, Lib.hid rfl⟩
  rw [hR.out]
  have N0 := Box.new W 43 #[.int .i64 y.frm, .int .i64 y.til, .int .i64 y.en.kind, .int .i64 y.en.a, .int .i64 y.en.to, .int .i64 y.en.els, .slice TA y.en.ta.length tc, .slice EA y.en.ea.length ec, .int .i64 y.en.n, .int .i64 y.en.at_]
  have bA : Below W.heap.size W (W.alloc (.cells #[.int .i64 y.frm, .int .i64 y.til, .int .i64 y.en.kind, .int .i64 y.en.a, .int .i64 y.en.to, .int .i64 y.en.els, .slice TA y.en.ta.length tc, .slice EA y.en.ea.length ec, .int .i64 y.en.n, .int .i64 y.en.at_] 43)) := (Below.refl _ _).alloc (Nat.le_refl _) _
  have hA := h.later bA
  replace hq := cell_later bA hq
  have hle2 := hle.later bA
  go_enter Tryz.func105, Tryz.ntmps105
  go_upto_region 1 with fail
  obtain ⟨w3, hw3⟩ : ∃ Y, W.alloc (.cells #[.int .i64 y.frm, .int .i64 y.til, .int .i64 y.en.kind, .int .i64 y.en.a, .int .i64 y.en.to, .int .i64 y.en.els, .slice TA y.en.ta.length tc, .slice EA y.en.ea.length ec, .int .i64 y.en.n, .int .i64 y.en.at_] 43) = Y := ⟨_, rfl⟩
  rw [hw3] at N0 bA hA hq hle2
  simp only [hw3]
  clear hw3
  obtain ⟨bc, hbc⟩ : ∃ b, Hid (W.heap.size = b) := ⟨_, Lib.hid rfl⟩
  rw [hbc.out] at N0
  simp only [hbc.out]
  have hq0 := Bel.refl w3
  have hmk : ∀ X, Bel w3 X → X.cell? ⟨bc, 0, none⟩ = some (.int .i64 y.frm) ∧ X.cell? ⟨bc, 1, none⟩ = some (.int .i64 y.til) ∧ X.cell? ⟨bc, 2, none⟩ = some (.int .i64 y.en.kind) ∧ X.cell? ⟨bc, 3, none⟩ = some (.int .i64 y.en.a) ∧ X.cell? ⟨bc, 4, none⟩ = some (.int .i64 y.en.to) ∧ X.cell? ⟨bc, 5, none⟩ = some (.int .i64 y.en.els) ∧ X.cell? ⟨bc, 6, none⟩ = some (.slice TA y.en.ta.length tc) ∧ X.cell? ⟨bc, 7, none⟩ = some (.slice EA y.en.ea.length ec) ∧ X.cell? ⟨bc, 8, none⟩ = some (.int .i64 y.en.n) ∧ X.cell? ⟨bc, 9, none⟩ = some (.int .i64 y.en.at_) ∧ X.cell? ⟨q, 0, none⟩ = some (.pointer (some ⟨p, 0, none⟩)) ∧ Bel w3 X := fun X h => ⟨h.cell (N0.cell 0), h.cell (N0.cell 1), h.cell (N0.cell 2), h.cell (N0.cell 3), h.cell (N0.cell 4), h.cell (N0.cell 5), h.cell (N0.cell 6), h.cell (N0.cell 7), h.cell (N0.cell 8), h.cell (N0.cell 9), h.cell hq, h⟩
  have kEd : Hid (∀ X : World, Bel w3 X → Calls Tryz.prog 94 #[.agg #[.int .i64 y.en.kind, .int .i64 y.en.a, .int .i64 y.en.to, .int .i64 y.en.els, .slice TA y.en.ta.length tc, .slice EA y.en.ea.length ec, .int .i64 y.en.n, .int .i64 y.en.at_]] X (EdgesPost X y.en)) := Lib.hid (fun X hX => edgesOf_any y.en TA EA tc ec (hle2.later hX))
  have kCo : Hid (∀ (X : World) (A : Option Addr) (c6 : Nat), Bel w3 X → EdgeRow X A (edges y.en) → Calls Tryz.prog 93 #[.slice A (edges y.en).length c6, .func (.func 107) #[.pointer (some ⟨p, 0, none⟩)] #[]] X fun e w' => e = .returned (.bool (!B (∀ e ∈ edges y.en, ArgP c e))) ∧ Below X.heap.size X w') := Lib.hid (fun X A c6 hX hr => by
    have := edges_len y.en
    have hC := contains_edgeU (edges y.en) (fun e => !B (ArgP c e)) (.pointer (some ⟨p, 0, none⟩)) X A c6 (by omega) hr (fun t ht w hw TA' tc' l1 m1 r1 => by
      obtain ⟨_, hk, h0, hlen⟩ := hE t ht
      obtain ⟨tg, args⟩ := t
      obtain ⟨k, rfl⟩ : ∃ k : Nat, tg = k := ⟨tg.toNat, by simp only at h0; omega⟩
      exact isUnfit_any ((hA.later hX).later hw) hl hb k args (by simpa using hk) (by simpa using hlen) (fun v hvm => hv v (by
        unfold endArgs
        exact List.mem_append_right _ (List.mem_flatten.2 ⟨args, List.mem_map.2 ⟨_, ht, rfl⟩, hvm⟩))) TA' tc' r1)
    rw [any_notB] at hC
    exact hC)
  by_cases qk : y.en.kind = 2
  · have bk : (y.en.kind == 2) = true := by simpa using qk
    have hix : Ix y.en.a c.ins := hv _ (by unfold endArgs; rw [if_pos qk]; simp)
    have kWd : Hid (∀ X : World, Bel w3 X → Calls Tryz.prog 106 #[.pointer (some ⟨p, 0, none⟩), .int .i64 y.en.a] X fun e w' => e = .returned (.int .i64 (wOf c y.en.a)) ∧ X = w') := Lib.hid (fun X hX => width_any (hA.later hX) _ hix)
    by_cases q1 : wOf c y.en.a = 1
    · have b1 : (wOf c y.en.a != 1) = false := by simpa using q1
      have hQ : Hid (R = (!B (∀ e ∈ edges y.en, ArgP c e))) := Lib.hid (by rw [← hR.out]; congr 1; exact B_congr ⟨fun h => h.2, fun h => ⟨fun _ => q1, h⟩⟩)
      rw [q1] at kWd
      clear hR qk q1 hA hle2 N0 hq h hl hb hle hE hv hix b1
      go_region_held3 (fun w' => w'.cell? ⟨bc, 0, none⟩ = some (.int .i64 y.frm) ∧ w'.cell? ⟨bc, 1, none⟩ = some (.int .i64 y.til) ∧ w'.cell? ⟨bc, 2, none⟩ = some (.int .i64 y.en.kind) ∧ w'.cell? ⟨bc, 3, none⟩ = some (.int .i64 y.en.a) ∧ w'.cell? ⟨bc, 4, none⟩ = some (.int .i64 y.en.to) ∧ w'.cell? ⟨bc, 5, none⟩ = some (.int .i64 y.en.els) ∧ w'.cell? ⟨bc, 6, none⟩ = some (.slice TA y.en.ta.length tc) ∧ w'.cell? ⟨bc, 7, none⟩ = some (.slice EA y.en.ea.length ec) ∧ w'.cell? ⟨bc, 8, none⟩ = some (.int .i64 y.en.n) ∧ w'.cell? ⟨bc, 9, none⟩ = some (.int .i64 y.en.at_) ∧ w'.cell? ⟨q, 0, none⟩ = some (.pointer (some ⟨p, 0, none⟩)) ∧ Bel w3 w') ((first | assumption | (refine hmk _ ?_; repeat (first | assumption | exact hq0 | refine Bel.drew ?_)))) (first | (go_at_call 106; refine (kWd.out _ (by first | assumption | exact Bel.drew hq0)).mono ?_; rintro e w5 ⟨rfl, rfl⟩) | (go_at_call 94; refine (kEd.out _ (by first | assumption | exact Bel.drew hq0)).mono ?_; rintro e w6 ⟨A6, c6, rfl, l6, m6, r6, b6⟩; have hS6 : Bel w3 w6 := Bel.below (by first | assumption | exact Bel.drew hq0) b6; replace r6 := Lib.hid r6; replace l6 := Lib.hid l6; replace m6 := Lib.hid m6) | (go_at_call 93; refine (kCo.out _ _ _ (by assumption) r6.out).mono ?_; rintro e w7 ⟨rfl, b7⟩; have hS7 : Bel w3 w7 := Bel.below (by assumption) b7))
      all_goals
        clear hmk
        go_wp2
        go_ret
        exact ⟨by rw [hQ.out]; rfl, bA.trans (Below.mono hS7 bA.size)⟩
    · have b1 : (wOf c y.en.a != 1) = true := by simpa using q1
      have hQ : Hid (R = true) := Lib.hid (by rw [← hR.out, B_not (fun h => q1 (h.1 qk))]; rfl)
      have kk := fun m => width_any (hA.drewN m) y.en.a hix
      have n2 := N0.cell 2
      have n3 := N0.cell 3
      clear hR qk q1 hA hle2 h hl hb hle hE hv hix kWd kEd kCo hmk
      go_quiet (first | (go_at_call 106; with_reducible exact quiet_same' (kk _)))
      go_wp2
      go_ret
      exact ⟨by rw [hQ.out]; rfl, bA.trans ((Drew.below ⟨_, rfl⟩).mono bA.size)⟩
  · have bk : (y.en.kind == 2) = false := by simpa using qk
    have hQ : Hid (R = (!B (∀ e ∈ edges y.en, ArgP c e))) := Lib.hid (by rw [← hR.out]; congr 1; exact B_congr ⟨fun h => h.2, fun h => ⟨fun e => absurd e qk, h⟩⟩)
    clear hR qk hA hle2 N0 hq h hl hb hle hE hv
    go_wp2_with fail
    refine wp_region_held_drew (S := (fun w' => w'.cell? ⟨bc, 0, none⟩ = some (.int .i64 y.frm) ∧ w'.cell? ⟨bc, 1, none⟩ = some (.int .i64 y.til) ∧ w'.cell? ⟨bc, 2, none⟩ = some (.int .i64 y.en.kind) ∧ w'.cell? ⟨bc, 3, none⟩ = some (.int .i64 y.en.a) ∧ w'.cell? ⟨bc, 4, none⟩ = some (.int .i64 y.en.to) ∧ w'.cell? ⟨bc, 5, none⟩ = some (.int .i64 y.en.els) ∧ w'.cell? ⟨bc, 6, none⟩ = some (.slice TA y.en.ta.length tc) ∧ w'.cell? ⟨bc, 7, none⟩ = some (.slice EA y.en.ea.length ec) ∧ w'.cell? ⟨bc, 8, none⟩ = some (.int .i64 y.en.n) ∧ w'.cell? ⟨bc, 9, none⟩ = some (.int .i64 y.en.at_) ∧ w'.cell? ⟨q, 0, none⟩ = some (.pointer (some ⟨p, 0, none⟩)) ∧ Bel w3 w')) (by kernel_rfl) (hmk _ (Bel.drew hq0)) (fun hHeld => ?_)
    refine wpAnyH_take (i := 0) (v := ?_) rfl (by kernel_rfl) (by kernel_rfl) (by kernel_rfl) (fun _ _ _ h => h) (Or.inl ⟨by rfl, ?_⟩) (by assumption) ?_
    rotate_left
    · (intro w hSw; (try dsimp only at hSw); go_simp; try (with_reducible rfl))
    try simp only [Act.put, List.getElem_toArray, List.getElem_cons_zero, List.setIfInBounds_toArray, List.set_cons_zero, List.set_cons_succ]
    refine wpAnyH_take (i := 1) (v := ?_) rfl (by kernel_rfl) (by kernel_rfl) (by kernel_rfl) (fun _ _ _ h => h) (Or.inl ⟨by rfl, ?_⟩) (by assumption) ?_
    rotate_left
    · (intro w hSw; (try dsimp only at hSw); go_simp; try (with_reducible rfl))
    try simp only [Act.put, List.getElem_toArray, List.getElem_cons_zero, List.getElem_cons_succ, List.setIfInBounds_toArray, List.set_cons_zero, List.set_cons_succ]
    refine wpAnyH_take (i := 2) (v := ?_) rfl (by kernel_rfl) (by kernel_rfl) (by kernel_rfl) (fun _ _ _ h => h) (Or.inl ⟨by rfl, ?_⟩) (by assumption) ?_
    rotate_left
    · (intro w hSw; (try dsimp only at hSw); go_simp; try (with_reducible rfl))
    try simp only [Act.put, List.getElem_toArray, List.getElem_cons_zero, List.getElem_cons_succ, List.setIfInBounds_toArray, List.set_cons_zero, List.set_cons_succ]
    refine wpAnyH_take (i := 3) (v := ?_) rfl (by kernel_rfl) (by kernel_rfl) (by kernel_rfl) (fun _ _ _ h => h) (Or.inl ⟨by rfl, ?_⟩) (by assumption) ?_
    rotate_left
    · (intro w hSw; (try dsimp only at hSw); go_simp; try (with_reducible rfl))
    try simp only [Act.put, List.getElem_toArray, List.getElem_cons_zero, List.getElem_cons_succ, List.setIfInBounds_toArray, List.set_cons_zero, List.set_cons_succ]
    refine wpAnyH_take (i := 4) (v := ?_) rfl (by kernel_rfl) (by kernel_rfl) (by kernel_rfl) (fun _ _ _ h => h) (Or.inl ⟨by rfl, ?_⟩) (by assumption) ?_
    rotate_left
    · (intro w hSw; (try dsimp only at hSw); go_simp; try (with_reducible rfl))
    try simp only [Act.put, List.getElem_toArray, List.getElem_cons_zero, List.getElem_cons_succ, List.setIfInBounds_toArray, List.set_cons_zero, List.set_cons_succ]
    refine wpAnyH_take (i := 5) (v := undef) rfl (by kernel_rfl) (by kernel_rfl) (by kernel_rfl) (fun _ _ _ h => h) (Or.inr ⟨by rfl, rfl⟩) (by assumption) ?_
    try simp only [Act.put, List.getElem_toArray, List.getElem_cons_zero, List.getElem_cons_succ, List.setIfInBounds_toArray, List.set_cons_zero, List.set_cons_succ]
    refine wpAnyH_take (i := 6) (v := undef) rfl (by kernel_rfl) (by kernel_rfl) (by kernel_rfl) (fun _ _ _ h => h) (Or.inr ⟨by rfl, rfl⟩) (by assumption) ?_
    try simp only [Act.put, List.getElem_toArray, List.getElem_cons_zero, List.getElem_cons_succ, List.setIfInBounds_toArray, List.set_cons_zero, List.set_cons_succ]
    refine wpAnyH_take (i := 7) (v := undef) rfl (by kernel_rfl) (by kernel_rfl) (by kernel_rfl) (fun _ _ _ h => h) (Or.inr ⟨by rfl, rfl⟩) (by assumption) ?_
    try simp only [Act.put, List.getElem_toArray, List.getElem_cons_zero, List.getElem_cons_succ, List.setIfInBounds_toArray, List.set_cons_zero, List.set_cons_succ]
    refine wpAnyH_take (i := 8) (v := undef) rfl (by kernel_rfl) (by kernel_rfl) (by kernel_rfl) (fun _ _ _ h => h) (Or.inr ⟨by rfl, rfl⟩) (by assumption) ?_
    try simp only [Act.put, List.getElem_toArray, List.getElem_cons_zero, List.getElem_cons_succ, List.setIfInBounds_toArray, List.set_cons_zero, List.set_cons_succ]
    refine wpAnyH_take (i := 9) (v := undef) rfl (by kernel_rfl) (by kernel_rfl) (by kernel_rfl) (fun _ _ _ h => h) (Or.inr ⟨by rfl, rfl⟩) (by assumption) ?_
    try simp only [Act.put, List.getElem_toArray, List.getElem_cons_zero, List.getElem_cons_succ, List.setIfInBounds_toArray, List.set_cons_zero, List.set_cons_succ]
    refine wpAnyH_take (i := 10) (v := undef) rfl (by kernel_rfl) (by kernel_rfl) (by kernel_rfl) (fun _ _ _ h => h) (Or.inr ⟨by rfl, rfl⟩) (by assumption) ?_
    try simp only [Act.put, List.getElem_toArray, List.getElem_cons_zero, List.getElem_cons_succ, List.setIfInBounds_toArray, List.set_cons_zero, List.set_cons_succ]
    refine wpAnyH_take (i := 11) (v := ?_) rfl (by kernel_rfl) (by kernel_rfl) (by kernel_rfl) (fun _ _ _ h => h) (Or.inl ⟨by rfl, ?_⟩) (by assumption) ?_
    rotate_left
    · (intro w hSw; (try dsimp only at hSw); go_simp; try (with_reducible rfl))
    try simp only [Act.put, List.getElem_toArray, List.getElem_cons_zero, List.getElem_cons_succ, List.setIfInBounds_toArray, List.set_cons_zero, List.set_cons_succ]
    refine wpAnyH_take (i := 12) (v := ?_) rfl (by kernel_rfl) (by kernel_rfl) (by kernel_rfl) (fun _ _ _ h => h) (Or.inl ⟨by rfl, ?_⟩) (by assumption) ?_
    rotate_left
    · (intro w hSw; (try dsimp only at hSw); go_simp; try (with_reducible rfl))
    try simp only [Act.put, List.getElem_toArray, List.getElem_cons_zero, List.getElem_cons_succ, List.setIfInBounds_toArray, List.set_cons_zero, List.set_cons_succ]
    refine wpAnyH_take (i := 13) (v := ?_) rfl (by kernel_rfl) (by kernel_rfl) (by kernel_rfl) (fun _ _ _ h => h) (Or.inl ⟨by rfl, ?_⟩) (by assumption) ?_
    rotate_left
    · (intro w hSw; (try dsimp only at hSw); go_simp; try (with_reducible rfl))
    try simp only [Act.put, List.getElem_toArray, List.getElem_cons_zero, List.getElem_cons_succ, List.setIfInBounds_toArray, List.set_cons_zero, List.set_cons_succ]
    refine wpAnyH_take (i := 14) (v := ?_) rfl (by kernel_rfl) (by kernel_rfl) (by kernel_rfl) (fun _ _ _ h => h) (Or.inl ⟨by rfl, ?_⟩) (by assumption) ?_
    rotate_left
    · (intro w hSw; (try dsimp only at hSw); go_simp; try (with_reducible rfl))
    try simp only [Act.put, List.getElem_toArray, List.getElem_cons_zero, List.getElem_cons_succ, List.setIfInBounds_toArray, List.set_cons_zero, List.set_cons_succ]
    refine wpAnyH_take (i := 16) (v := ?_) rfl (by kernel_rfl) (by kernel_rfl) (by kernel_rfl) (fun _ _ _ h => h) (Or.inl ⟨by rfl, ?_⟩) (by assumption) ?_
    rotate_left
    · (intro w hSw; (try dsimp only at hSw); go_simp; try (with_reducible rfl))
    try simp only [Act.put, List.getElem_toArray, List.getElem_cons_zero, List.getElem_cons_succ, List.setIfInBounds_toArray, List.set_cons_zero, List.set_cons_succ]
    refine wpAnyH_take (i := 17) (v := ?_) rfl (by kernel_rfl) (by kernel_rfl) (by kernel_rfl) (fun _ _ _ h => h) (Or.inl ⟨by rfl, ?_⟩) (by assumption) ?_
    rotate_left
    · (intro w hSw; (try dsimp only at hSw); go_simp; try (with_reducible rfl))
    try simp only [Act.put, List.getElem_toArray, List.getElem_cons_zero, List.getElem_cons_succ, List.setIfInBounds_toArray, List.set_cons_zero, List.set_cons_succ]
    refine wpAnyH_ready (rs := [15]) (by kernel_rfl) (by simp) ?_
    refine AllReadyH.cons rfl (fun K hK => ?_) AllReadyH.nil
    go_simp
    refine (kEd.out _ (Bel.drew hq0)).mono ?_
    rintro e w6 ⟨A6, c6, rfl, l6, m6, r6, b6⟩
    have hS6 : Bel w3 w6 := Bel.below (Bel.drew hq0) b6
    replace r6 := Lib.hid r6
    replace l6 := Lib.hid l6
    replace m6 := Lib.hid m6
    refine hK.out _ _ (hmk _ hS6) (fun hHeld => ?_)
    clear hK
    try simp only [Act.put, List.getElem_toArray, List.getElem_cons_zero, List.getElem_cons_succ, List.setIfInBounds_toArray, List.set_cons_zero, List.set_cons_succ]
    refine wpAnyH_ready (rs := [18]) (by kernel_rfl) (by simp) ?_
    refine AllReadyH.cons rfl (fun K hK => ?_) AllReadyH.nil
    go_simp
    refine (kCo.out _ _ _ hS6 r6.out).mono ?_
    rintro e w7 ⟨rfl, b7⟩
    have hS7 : Bel w3 w7 := Bel.below hS6 b7
    refine hK.out _ _ (hmk _ hS7) (fun hHeld => ?_)
    clear hK
    try simp only [Act.put, List.getElem_toArray, List.getElem_cons_zero, List.getElem_cons_succ, List.setIfInBounds_toArray, List.set_cons_zero, List.set_cons_succ]
    refine wpAnyH_take (i := 19) (v := ?_) rfl (by kernel_rfl) (by kernel_rfl) (by kernel_rfl) (fun _ _ _ h => h) (Or.inl ⟨by rfl, ?_⟩) (by assumption) ?_
    rotate_left
    · (intro w hSw; (try dsimp only at hSw); go_simp; try (with_reducible rfl))
    try simp only [Act.put, List.getElem_toArray, List.getElem_cons_zero, List.getElem_cons_succ, List.setIfInBounds_toArray, List.set_cons_zero, List.set_cons_succ]
    refine wpAnyH_take (i := 20) (v := ?_) rfl (by kernel_rfl) (by kernel_rfl) (by kernel_rfl) (fun _ _ _ h => h) (Or.inl ⟨by rfl, ?_⟩) (by assumption) ?_
    rotate_left
    · (intro w hSw; (try dsimp only at hSw); go_simp; try (with_reducible rfl))
    try simp only [Act.put, List.getElem_toArray, List.getElem_cons_zero, List.getElem_cons_succ, List.setIfInBounds_toArray, List.set_cons_zero, List.set_cons_succ]
    refine wpAnyH_done (by kernel_rfl) ?_ _
    clear hmk
    go_wp2
    go_ret
    exact ⟨by rw [hQ.out]; rfl, bA.trans (Below.mono hS7 bA.size)⟩
set_option maxRecDepth 100000 in
set_option maxHeartbeats 1600000 in
theorem argumentsFit_any {W : World} {p : Nat} {c : Cd} {x : Sl} (h : PtAt W p c x) (hl : ListsP c) (hb : BlocksP c) (hE : EndsP c) (hv : ∀ y ∈ c.bk, ∀ v ∈ endArgs y.en, Ix v c.ins) :
    Calls Tryz.prog 53 #[.pointer (some ⟨p, 0, none⟩)] W fun r w' => r = .returned (.bool (B (ArgsP c))) ∧ Below W.heap.size W w' := by
  have hmf : ∀ (fn : Fn) (first cap : Array Value) (w : World), (Instr.makeFunc fn first cap).run Tryz.prog w = .ok (.func fn first cap) w := fun _ _ _ _ => rfl
  have l3 := hl.2.2.1.2
  have N0 := Box.new W 63 #[.pointer (some ⟨p, 0, none⟩)]
  have bA : Below W.heap.size W (W.alloc (.cells #[.pointer (some ⟨p, 0, none⟩)] 63)) := (Below.refl _ _).alloc (Nat.le_refl _) _
  have hA := h.later bA
  have n0 := N0.cell 0
  have s3 := hA.s3
  have hC := contains_blockA c.bk (fun y => !B (BkA c y)) (.pointer (some ⟨W.heap.size, 0, none⟩)) (W.alloc (.cells #[.pointer (some ⟨p, 0, none⟩)] 63)) x.K x.kc (by omega) hA.at_.k
    (fun t ht w hw TA EA tc ec hle => argumentsFit1_any (hA.later hw) hl hb t (hE t ht).2.2 (hv t ht) TA EA tc ec hle W.heap.size (cell_later hw n0))
  rw [any_notB] at hC
  have hQ : Hid (B (ArgsP c) = B (∀ y ∈ c.bk, BkA c y)) := Lib.hid rfl
  rw [hQ.out]
  replace hC := Lib.hid hC
  clear hA h
  go_enter Tryz.func53, Tryz.ntmps53
  go_wp2_with fail
  refine hC.out.mono ?_
  rintro e w1 ⟨rfl, b1⟩
  clear hC
  go_wp2
  go_ret
  exact ⟨by simp, bA.trans (b1.mono bA.size)⟩
end Go.Proofs.YtnbgadndkepomaaGreatDoor
