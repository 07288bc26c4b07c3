/- Joined texts: SaRv6, SaRi6. -/
import Derived.Test.YtnbgadndkepomaaGreatDoorSQO
import Derived.Test.YtnbgadndkepomaaGreatDoorSQW

namespace Go.Proofs.YtnbgadndkepomaaGreatDoor
open Go.RowKit

theorem pOf_i64 {c : Cd} (ok : c.ok) (a : Int) : I64 (pOf c a) := by
  unfold pOf
  by_cases h : 0 ≤ a
  · rw [if_pos h]
    cases e : c.ins[a.toNat]? with
    | none => exact ⟨by decide, by decide⟩
    | some y => exact (ok.ins y (List.mem_of_getElem? e)).2.2.1
  · rw [if_neg h]; exact ⟨by decide, by decide⟩
theorem wOf_in {c : Cd} {b : Int} (h : wOf c b ≠ 0) : 0 ≤ b ∧ b < c.ins.length := by
  unfold wOf at h
  by_cases h0 : 0 ≤ b
  · rw [if_pos h0] at h
    by_cases h1 : b.toNat < c.ins.length
    · exact ⟨h0, by omega⟩
    · rw [List.getElem?_eq_none (by omega)] at h; exact absurd rfl h
  · rw [if_neg h0] at h; exact absurd rfl h
theorem on_at {c : Cd} {k : Nat} (h : k < c.ins.length) : opOf c k = c.ins[k].op ∧ nOf c k = c.ins[k].n := by
  unfold opOf nOf
  rw [if_pos (by omega), if_pos (by omega), Int.toNat_natCast, List.getElem?_eq_getElem h]
  exact ⟨rfl, rfl⟩
set_option maxRecDepth 100000 in
set_option maxHeartbeats 6400000 in
theorem rCell_any {W : World} {c : Cd} {x : Sl} (hx : CdAt W c x) (ok : c.ok) (a b : Int) :
    Calls Tryz.prog 62 #[.agg #[.slice x.S c.st.length x.sc, .slice x.N c.nm.length x.nc, .slice x.I c.ins.length x.ic, .slice x.K c.bk.length x.kc], .int .i64 a, .int .i64 b] W fun e w' => e = .returned (.int .i64 (cellR c a b)) ∧ Below W.heap.size W w' := by
  have hp := PtAt.new hx
  have bA : Below W.heap.size W (W.alloc (.cells #[.slice x.S c.st.length x.sc, .slice x.N c.nm.length x.nc, .slice x.I c.ins.length x.ic, .slice x.K c.bk.length x.kc] 27)) := (Below.refl _ _).alloc (Nat.le_refl _) _
  have hP := rPointer_any (hx.later bA) a
  have hpi := pOf_i64 ok a
  unfold I64 at hpi
  obtain ⟨p, hpe⟩ : ∃ p, pOf c a = p := ⟨_, rfl⟩
  rw [hpe] at hP hpi
  by_cases h0 : p ≤ 64
  · have hz : Hid (cellR c a b = p) := Lib.hid (by unfold cellR; rw [hpe, if_pos h0])
    have d0 : decide (p ≤ 64) = true := by simpa using h0
    have s0 := hp.s0
    have s1 := hp.s1
    have s2 := hp.s2
    have s3 := hp.s3
    clear h0 hpe hpi hp hx
    go_enter Tryz.func62, Tryz.ntmps62
    go_wp2_with fail
    refine hP.mono ?_
    rintro e w1 ⟨rfl, b1⟩
    clear hP
    go_wp2
    go_ret
    exact ⟨by rw [hz.out]; rfl, bA.trans (b1.mono bA.size)⟩
  · have d0 : decide (p ≤ 64) = false := by simpa using h0
    obtain ⟨K, hK⟩ : ∃ K : Nat, p - 65 = K := ⟨(p - 65).toNat, by omega⟩
    obtain ⟨q, hq⟩ : ∃ q, p - 64 = q := ⟨_, rfl⟩
    have hw1 : IntKind.i64.wrap (p - 64) = q := by rw [IntWalk.i64_in _ (by omega)]; omega
    have hw2 : IntKind.i64.wrap (q - 1) = (K : Int) := by rw [IntWalk.i64_in _ (by omega)]; omega
    have s0 := hp.s0
    have s1 := hp.s1
    have s2 := hp.s2
    have s3 := hp.s3
    by_cases hk : c.st.length ≤ K
    · have hz : Hid (cellR c a b = 0) := Lib.hid (by unfold cellR; rw [hpe, if_neg h0, if_pos (Or.inl (by omega))])
      have dk : decide (c.st.length ≤ K) = true := by simpa using hk
      clear h0 hpe hpi hx hK hq hk
      go_enter Tryz.func62, Tryz.ntmps62
      go_wp2_with fail
      refine hP.mono ?_
      rintro e w1 ⟨rfl, b1⟩
      have hp := hp.later b1
      have b1 := bA.trans (b1.mono bA.size)
      have s0 := hp.s0
      have s1 := hp.s1
      have s2 := hp.s2
      have s3 := hp.s3
      clear hP hp bA
      go_wp2_with fail
      go_quiet (fail)
      go_wp2
      go_ret
      exact ⟨by rw [hz.out]; rfl, below_drewN b1 _⟩
    · have dk : decide (c.st.length ≤ K) = false := by simpa using hk
      have hkl : K < c.st.length := by omega
      have hcell : Hid (cellR c a b = if wOf c b = 0 ∨ opOf c b ≠ 1 ∨ c.st[K].length ≤ nOf c b then 0 else (c.st[K][nOf c b]?).getD 0) := Lib.hid (by
        unfold cellR
        rw [hpe, if_neg h0, hK, Int.toNat_natCast, List.getElem?_eq_getElem hkl, Option.getD_some]
        by_cases e : wOf c b = 0 ∨ opOf c b ≠ 1 ∨ c.st[K].length ≤ nOf c b
        · rw [if_pos (Or.inr e), if_pos e]
        · rw [if_neg e, if_neg (fun h => h.elim (fun h => by omega) e)])
      go_enter Tryz.func62, Tryz.ntmps62
      go_wp2_with fail
      refine hP.mono ?_
      rintro e w1 ⟨rfl, b1⟩
      have hp := hp.later b1
      have b1 := bA.trans (b1.mono bA.size)
      have s0 := hp.s0
      have s1 := hp.s1
      have s2 := hp.s2
      have s3 := hp.s3
      have hx1 := hp.at_
      clear hP hp bA h0 hpe hpi hx hK hq hk
      go_wp2_with fail
      by_cases z0 : wOf c b = 0
      · have dz : (wOf c b == 0) = true := by simpa using z0
        have hz : Hid (cellR c a b = 0) := Lib.hid (by rw [hcell.out, if_pos (Or.inl z0)])
        clear hcell z0
        have hmk : ∀ w', Below w1.heap.size w1 w' → w'.cell? ⟨W.heap.size, 0, none⟩ = some (.slice x.S c.st.length x.sc) ∧ w'.cell? ⟨W.heap.size, 1, none⟩ = some (.slice x.N c.nm.length x.nc) ∧ w'.cell? ⟨W.heap.size, 2, none⟩ = some (.slice x.I c.ins.length x.ic) ∧ w'.cell? ⟨W.heap.size, 3, none⟩ = some (.slice x.K c.bk.length x.kc) ∧ Below w1.heap.size w1 w' := fun w' hb => ⟨cell_later hb s0, cell_later hb s1, cell_later hb s2, cell_later hb s3, hb⟩
        clear s0 s1 s2 s3
        have kI := rInt_any (hx1.later (Drew.below ⟨1, rfl⟩)) b
        generalize wOf c b = z at kI dz
        clear hx1
        refine wp_region_held_drew (S := (fun w' => w'.cell? ⟨W.heap.size, 0, none⟩ = some (.slice x.S c.st.length x.sc) ∧ w'.cell? ⟨W.heap.size, 1, none⟩ = some (.slice x.N c.nm.length x.nc) ∧ w'.cell? ⟨W.heap.size, 2, none⟩ = some (.slice x.I c.ins.length x.ic) ∧ w'.cell? ⟨W.heap.size, 3, none⟩ = some (.slice x.K c.bk.length x.kc) ∧ Below w1.heap.size w1 w')) (by kernel_rfl) (hmk _ (Drew.below ⟨1, rfl⟩)) (fun hHeld => ?_)
        refine wpAnyH_take (i := 0) (v := ?_) rfl (by kernel_rfl) (by kernel_rfl) (by kernel_rfl) (fun _ _ _ h => h) (Or.inl ⟨by rfl, ?_⟩) (by assumption) ?_
        rotate_left
        · (intro w hSw; (try dsimp only at hSw); go_simp; try (with_reducible rfl))
        try simp only [sm]
        refine wpAnyH_take (i := 1) (v := ?_) rfl (by kernel_rfl) (by kernel_rfl) (by kernel_rfl) (fun _ _ _ h => h) (Or.inl ⟨by rfl, ?_⟩) (by assumption) ?_
        rotate_left
        · (intro w hSw; (try dsimp only at hSw); go_simp; try (with_reducible rfl))
        try simp only [sm]
        refine wpAnyH_take (i := 2) (v := ?_) rfl (by kernel_rfl) (by kernel_rfl) (by kernel_rfl) (fun _ _ _ h => h) (Or.inl ⟨by rfl, ?_⟩) (by assumption) ?_
        rotate_left
        · (intro w hSw; (try dsimp only at hSw); go_simp; try (with_reducible rfl))
        try simp only [sm]
        refine wpAnyH_take (i := 3) (v := ?_) rfl (by kernel_rfl) (by kernel_rfl) (by kernel_rfl) (fun _ _ _ h => h) (Or.inl ⟨by rfl, ?_⟩) (by assumption) ?_
        rotate_left
        · (intro w hSw; (try dsimp only at hSw); go_simp; try (with_reducible rfl))
        try simp only [sm]
        refine wpAnyH_take (i := 4) (v := ?_) rfl (by kernel_rfl) (by kernel_rfl) (by kernel_rfl) (fun _ _ _ h => h) (Or.inl ⟨by rfl, ?_⟩) (by assumption) ?_
        rotate_left
        · (intro w hSw; (try dsimp only at hSw); go_simp; try (with_reducible rfl))
        try simp only [sm]
        refine wpAnyH_take (i := 5) (v := ?_) rfl (by kernel_rfl) (by kernel_rfl) (by kernel_rfl) (fun _ _ _ h => h) (Or.inl ⟨by rfl, ?_⟩) (by assumption) ?_
        rotate_left
        · (intro w hSw; (try dsimp only at hSw); go_simp; try (with_reducible rfl))
        try simp only [sm]
        refine wpAnyH_take (i := 6) (v := ?_) rfl (by kernel_rfl) (by kernel_rfl) (by kernel_rfl) (fun _ _ _ h => h) (Or.inl ⟨by rfl, ?_⟩) (by assumption) ?_
        rotate_left
        · (intro w hSw; (try dsimp only at hSw); go_simp; try (with_reducible rfl))
        try simp only [sm]
        refine wpAnyH_take (i := 7) (v := ?_) rfl (by kernel_rfl) (by kernel_rfl) (by kernel_rfl) (fun _ _ _ h => h) (Or.inl ⟨by rfl, ?_⟩) (by assumption) ?_
        rotate_left
        · (intro w hSw; (try dsimp only at hSw); go_simp; try (with_reducible rfl))
        try simp only [sm]
        refine wpAnyH_ready (rs := [8]) (by kernel_rfl) (by simp) ?_
        refine AllReadyH.cons rfl (fun K hK => ?_) AllReadyH.nil
        go_simp
        refine kI.mono ?_
        rintro e w5 ⟨rfl, b5⟩
        have hS5 : Below w1.heap.size w1 w5 := (Drew.below ⟨1, rfl⟩).trans (b5.mono (Nat.le_refl _))
        refine hK.out _ _ (hmk _ hS5) (fun hHeld => ?_)
        clear hK
        try simp only [sm]
        refine wpAnyH_take (i := 9) (v := ?_) rfl (by kernel_rfl) (by kernel_rfl) (by kernel_rfl) (fun _ _ _ h => h) (Or.inl ⟨by rfl, ?_⟩) (by assumption) ?_
        rotate_left
        · (intro w hSw; (try dsimp only at hSw); go_simp; try (with_reducible rfl))
        try simp only [sm]
        refine wpAnyH_take (i := 10) (v := ?_) rfl (by kernel_rfl) (by kernel_rfl) (by kernel_rfl) (fun _ _ _ h => h) (Or.inl ⟨by rfl, ?_⟩) (by assumption) ?_
        rotate_left
        · (intro w hSw; (try dsimp only at hSw); go_simp; try (with_reducible rfl))
        try simp only [sm]
        refine wpAnyH_take (i := 11) (v := ?_) rfl (by kernel_rfl) (by kernel_rfl) (by kernel_rfl) (fun _ _ _ h => h) (Or.inl ⟨by rfl, ?_⟩) (by assumption) ?_
        rotate_left
        · (intro w hSw; (try dsimp only at hSw); go_simp; try (with_reducible rfl))
        try simp only [sm]
        refine wpAnyH_take (i := 12) (v := undef) rfl (by kernel_rfl) (by kernel_rfl) (by kernel_rfl) (fun _ _ _ h => h) (Or.inr ⟨by rfl, rfl⟩) (by assumption) ?_
        try simp only [sm]
        refine wpAnyH_take (i := 13) (v := undef) rfl (by kernel_rfl) (by kernel_rfl) (by kernel_rfl) (fun _ _ _ h => h) (Or.inr ⟨by rfl, rfl⟩) (by assumption) ?_
        try simp only [sm]
        refine wpAnyH_take (i := 14) (v := undef) rfl (by kernel_rfl) (by kernel_rfl) (by kernel_rfl) (fun _ _ _ h => h) (Or.inr ⟨by rfl, rfl⟩) (by assumption) ?_
        try simp only [sm]
        refine wpAnyH_take (i := 15) (v := undef) rfl (by kernel_rfl) (by kernel_rfl) (by kernel_rfl) (fun _ _ _ h => h) (Or.inr ⟨by rfl, rfl⟩) (by assumption) ?_
        try simp only [sm]
        refine wpAnyH_take (i := 16) (v := undef) rfl (by kernel_rfl) (by kernel_rfl) (by kernel_rfl) (fun _ _ _ h => h) (Or.inr ⟨by rfl, rfl⟩) (by assumption) ?_
        try simp only [sm]
        refine wpAnyH_take (i := 17) (v := undef) rfl (by kernel_rfl) (by kernel_rfl) (by kernel_rfl) (fun _ _ _ h => h) (Or.inr ⟨by rfl, rfl⟩) (by assumption) ?_
        try simp only [sm]
        refine wpAnyH_take (i := 18) (v := undef) rfl (by kernel_rfl) (by kernel_rfl) (by kernel_rfl) (fun _ _ _ h => h) (Or.inr ⟨by rfl, rfl⟩) (by assumption) ?_
        try simp only [sm]
        refine wpAnyH_take (i := 19) (v := ?_) rfl (by kernel_rfl) (by kernel_rfl) (by kernel_rfl) (fun _ _ _ h => h) (Or.inl ⟨by rfl, ?_⟩) (by assumption) ?_
        rotate_left
        · (intro w hSw; (try dsimp only at hSw); go_simp; try (with_reducible rfl))
        try simp only [sm]
        refine wpAnyH_take (i := 20) (v := ?_) rfl (by kernel_rfl) (by kernel_rfl) (by kernel_rfl) (fun _ _ _ h => h) (Or.inl ⟨by rfl, ?_⟩) (by assumption) ?_
        rotate_left
        · (intro w hSw; (try dsimp only at hSw); go_simp; try (with_reducible rfl))
        try simp only [sm]
        refine wpAnyH_take (i := 21) (v := undef) rfl (by kernel_rfl) (by kernel_rfl) (by kernel_rfl) (fun _ _ _ h => h) (Or.inr ⟨by rfl, rfl⟩) (by assumption) ?_
        try simp only [sm]
        refine wpAnyH_take (i := 22) (v := undef) rfl (by kernel_rfl) (by kernel_rfl) (by kernel_rfl) (fun _ _ _ h => h) (Or.inr ⟨by rfl, rfl⟩) (by assumption) ?_
        try simp only [sm]
        refine wpAnyH_take (i := 23) (v := undef) rfl (by kernel_rfl) (by kernel_rfl) (by kernel_rfl) (fun _ _ _ h => h) (Or.inr ⟨by rfl, rfl⟩) (by assumption) ?_
        try simp only [sm]
        refine wpAnyH_take (i := 24) (v := undef) rfl (by kernel_rfl) (by kernel_rfl) (by kernel_rfl) (fun _ _ _ h => h) (Or.inr ⟨by rfl, rfl⟩) (by assumption) ?_
        try simp only [sm]
        refine wpAnyH_take (i := 25) (v := undef) rfl (by kernel_rfl) (by kernel_rfl) (by kernel_rfl) (fun _ _ _ h => h) (Or.inr ⟨by rfl, rfl⟩) (by assumption) ?_
        try simp only [sm]
        refine wpAnyH_take (i := 26) (v := undef) rfl (by kernel_rfl) (by kernel_rfl) (by kernel_rfl) (fun _ _ _ h => h) (Or.inr ⟨by rfl, rfl⟩) (by assumption) ?_
        try simp only [sm]
        refine wpAnyH_take (i := 27) (v := undef) rfl (by kernel_rfl) (by kernel_rfl) (by kernel_rfl) (fun _ _ _ h => h) (Or.inr ⟨by rfl, rfl⟩) (by assumption) ?_
        try simp only [sm]
        refine wpAnyH_take (i := 28) (v := undef) rfl (by kernel_rfl) (by kernel_rfl) (by kernel_rfl) (fun _ _ _ h => h) (Or.inr ⟨by rfl, rfl⟩) (by assumption) ?_
        try simp only [sm]
        refine wpAnyH_take (i := 29) (v := undef) rfl (by kernel_rfl) (by kernel_rfl) (by kernel_rfl) (fun _ _ _ h => h) (Or.inr ⟨by rfl, rfl⟩) (by assumption) ?_
        try simp only [sm]
        refine wpAnyH_take (i := 30) (v := undef) rfl (by kernel_rfl) (by kernel_rfl) (by kernel_rfl) (fun _ _ _ h => h) (Or.inr ⟨by rfl, rfl⟩) (by assumption) ?_
        try simp only [sm]
        refine wpAnyH_take (i := 31) (v := undef) rfl (by kernel_rfl) (by kernel_rfl) (by kernel_rfl) (fun _ _ _ h => h) (Or.inr ⟨by rfl, rfl⟩) (by assumption) ?_
        try simp only [sm]
        refine wpAnyH_take (i := 32) (v := undef) rfl (by kernel_rfl) (by kernel_rfl) (by kernel_rfl) (fun _ _ _ h => h) (Or.inr ⟨by rfl, rfl⟩) (by assumption) ?_
        try simp only [sm]
        refine wpAnyH_take (i := 33) (v := undef) rfl (by kernel_rfl) (by kernel_rfl) (by kernel_rfl) (fun _ _ _ h => h) (Or.inr ⟨by rfl, rfl⟩) (by assumption) ?_
        try simp only [sm]
        refine wpAnyH_take (i := 34) (v := undef) rfl (by kernel_rfl) (by kernel_rfl) (by kernel_rfl) (fun _ _ _ h => h) (Or.inr ⟨by rfl, rfl⟩) (by assumption) ?_
        try simp only [sm]
        refine wpAnyH_take (i := 35) (v := ?_) rfl (by kernel_rfl) (by kernel_rfl) (by kernel_rfl) (fun _ _ _ h => h) (Or.inl ⟨by rfl, ?_⟩) (by assumption) ?_
        rotate_left
        · (intro w hSw; (try dsimp only at hSw); go_simp; try (with_reducible rfl))
        try simp only [sm]
        refine wpAnyH_done (by kernel_rfl) ?_ _
        clear hmk
        go_wp2
        go_ret
        exact ⟨by rw [hz.out]; rfl, b1.trans (hS5.mono b1.size)⟩
      · have dz : (wOf c b == 0) = false := by simpa using z0
        obtain ⟨hb0, hb1⟩ := wOf_in z0
        obtain ⟨V, rfl⟩ : ∃ V : Nat, b = V := ⟨b.toNat, by omega⟩
        have hV : V < c.ins.length := by omega
        obtain ⟨gi, oi, ei, i0, _, _, _, _, _, i6, _⟩ := hx1.i V hV
        rw [ei] at s2
        have hon := on_at hV
        rw [hon.1, hon.2] at hcell
        generalize c.ins[V].op = o at i0 hcell
        generalize c.ins[V].n = n at i6 hcell
        have hVc : (V : Int) < (c.ins.length : Int) := by omega
        clear hon hb0 hb1
        by_cases o1 : o = 1
        · have d1 : (o != 1) = false := by simpa using o1
          obtain ⟨gs, os, A', c', es, r0, hl1, hl2, hrow⟩ := hx1.s K hkl
          rw [es] at s0
          obtain ⟨l, hl⟩ : ∃ l, c.st[K] = l := ⟨_, rfl⟩
          rw [hl] at r0 hrow hl1 hcell
          obtain ⟨L, hL⟩ : ∃ L, l.length = L := ⟨_, rfl⟩
          rw [hL] at r0 hl1
          have hcv : IntKind.u64.wrap (L : Int) = (L : Int) := by unfold maxLen at hl2; simp [IntKind.wrap, IntKind.signed, IntKind.bits]; omega
          by_cases n1 : L ≤ n
          · have dn : decide (L ≤ n) = true := by simpa using n1
            have hz : Hid (cellR c a V = 0) := Lib.hid (by rw [hcell.out, if_pos (Or.inr (Or.inr (by omega)))])
            clear hcell z0 o1 n1 hrow hl hL hl1 hl2
            have hmk : ∀ w', Below w1.heap.size w1 w' → w'.cell? ⟨W.heap.size, 0, none⟩ = some (.slice (some ⟨gs, os, none⟩) c.st.length x.sc) ∧ w'.cell? ⟨W.heap.size, 1, none⟩ = some (.slice x.N c.nm.length x.nc) ∧ w'.cell? ⟨W.heap.size, 2, none⟩ = some (.slice (some ⟨gi, oi, none⟩) c.ins.length x.ic) ∧ w'.cell? ⟨W.heap.size, 3, none⟩ = some (.slice x.K c.bk.length x.kc) ∧ w'.cell? ⟨gi, oi + V * 8, none⟩ = some (.int .i64 o) ∧ w'.cell? ⟨gi, oi + V * 8 + 6, none⟩ = some (.int .u64 (n : Int)) ∧ w'.cell? ⟨gs, os + K, none⟩ = some (.slice A' L c') ∧ Below w1.heap.size w1 w' := fun w' hb => ⟨cell_later hb s0, cell_later hb s1, cell_later hb s2, cell_later hb s3, cell_later hb i0, cell_later hb i6, cell_later hb r0, hb⟩
            clear s0 s1 s2 s3 i0 i6 r0
            have kI := rInt_any (hx1.later (Drew.below ⟨1, rfl⟩)) (V : Int)
            generalize wOf c (V : Int) = z at kI dz
            rw [ei, es] at kI
            clear ei es
            clear hx1
            refine wp_region_held_drew (S := (fun w' => w'.cell? ⟨W.heap.size, 0, none⟩ = some (.slice (some ⟨gs, os, none⟩) c.st.length x.sc) ∧ w'.cell? ⟨W.heap.size, 1, none⟩ = some (.slice x.N c.nm.length x.nc) ∧ w'.cell? ⟨W.heap.size, 2, none⟩ = some (.slice (some ⟨gi, oi, none⟩) c.ins.length x.ic) ∧ w'.cell? ⟨W.heap.size, 3, none⟩ = some (.slice x.K c.bk.length x.kc) ∧ w'.cell? ⟨gi, oi + V * 8, none⟩ = some (.int .i64 o) ∧ w'.cell? ⟨gi, oi + V * 8 + 6, none⟩ = some (.int .u64 (n : Int)) ∧ w'.cell? ⟨gs, os + K, none⟩ = some (.slice A' L c') ∧ Below w1.heap.size w1 w')) (by kernel_rfl) (hmk _ (Drew.below ⟨1, rfl⟩)) (fun hHeld => ?_)
            refine wpAnyH_take (i := 0) (v := ?_) rfl (by kernel_rfl) (by kernel_rfl) (by kernel_rfl) (fun _ _ _ h => h) (Or.inl ⟨by rfl, ?_⟩) (by assumption) ?_
            rotate_left
            · (intro w hSw; (try dsimp only at hSw); go_simp; try (with_reducible rfl))
            try simp only [sm]
            refine wpAnyH_take (i := 1) (v := ?_) rfl (by kernel_rfl) (by kernel_rfl) (by kernel_rfl) (fun _ _ _ h => h) (Or.inl ⟨by rfl, ?_⟩) (by assumption) ?_
            rotate_left
            · (intro w hSw; (try dsimp only at hSw); go_simp; try (with_reducible rfl))
            try simp only [sm]
            refine wpAnyH_take (i := 2) (v := ?_) rfl (by kernel_rfl) (by kernel_rfl) (by kernel_rfl) (fun _ _ _ h => h) (Or.inl ⟨by rfl, ?_⟩) (by assumption) ?_
            rotate_left
            · (intro w hSw; (try dsimp only at hSw); go_simp; try (with_reducible rfl))
            try simp only [sm]
            refine wpAnyH_take (i := 3) (v := ?_) rfl (by kernel_rfl) (by kernel_rfl) (by kernel_rfl) (fun _ _ _ h => h) (Or.inl ⟨by rfl, ?_⟩) (by assumption) ?_
            rotate_left
            · (intro w hSw; (try dsimp only at hSw); go_simp; try (with_reducible rfl))
            try simp only [sm]
            refine wpAnyH_take (i := 4) (v := ?_) rfl (by kernel_rfl) (by kernel_rfl) (by kernel_rfl) (fun _ _ _ h => h) (Or.inl ⟨by rfl, ?_⟩) (by assumption) ?_
            rotate_left
            · (intro w hSw; (try dsimp only at hSw); go_simp; try (with_reducible rfl))
            try simp only [sm]
            refine wpAnyH_take (i := 5) (v := ?_) rfl (by kernel_rfl) (by kernel_rfl) (by kernel_rfl) (fun _ _ _ h => h) (Or.inl ⟨by rfl, ?_⟩) (by assumption) ?_
            rotate_left
            · (intro w hSw; (try dsimp only at hSw); go_simp; try (with_reducible rfl))
            try simp only [sm]
            refine wpAnyH_take (i := 6) (v := ?_) rfl (by kernel_rfl) (by kernel_rfl) (by kernel_rfl) (fun _ _ _ h => h) (Or.inl ⟨by rfl, ?_⟩) (by assumption) ?_
            rotate_left
            · (intro w hSw; (try dsimp only at hSw); go_simp; try (with_reducible rfl))
            try simp only [sm]
            refine wpAnyH_take (i := 7) (v := ?_) rfl (by kernel_rfl) (by kernel_rfl) (by kernel_rfl) (fun _ _ _ h => h) (Or.inl ⟨by rfl, ?_⟩) (by assumption) ?_
            rotate_left
            · (intro w hSw; (try dsimp only at hSw); go_simp; try (with_reducible rfl))
            try simp only [sm]
            refine wpAnyH_ready (rs := [8]) (by kernel_rfl) (by simp) ?_
            refine AllReadyH.cons rfl (fun K hK => ?_) AllReadyH.nil
            go_simp
            refine kI.mono ?_
            rintro e w5 ⟨rfl, b5⟩
            have hS5 : Below w1.heap.size w1 w5 := (Drew.below ⟨1, rfl⟩).trans (b5.mono (Nat.le_refl _))
            refine hK.out _ _ (hmk _ hS5) (fun hHeld => ?_)
            clear hK
            try simp only [sm]
            refine wpAnyH_take (i := 9) (v := ?_) rfl (by kernel_rfl) (by kernel_rfl) (by kernel_rfl) (fun _ _ _ h => h) (Or.inl ⟨by rfl, ?_⟩) (by assumption) ?_
            rotate_left
            · (intro w hSw; (try dsimp only at hSw); go_simp; try (with_reducible rfl))
            try simp only [sm]
            refine wpAnyH_take (i := 10) (v := ?_) rfl (by kernel_rfl) (by kernel_rfl) (by kernel_rfl) (fun _ _ _ h => h) (Or.inl ⟨by rfl, ?_⟩) (by assumption) ?_
            rotate_left
            · (intro w hSw; (try dsimp only at hSw); go_simp; try (with_reducible rfl))
            try simp only [sm]
            refine wpAnyH_take (i := 11) (v := ?_) rfl (by kernel_rfl) (by kernel_rfl) (by kernel_rfl) (fun _ _ _ h => h) (Or.inl ⟨by rfl, ?_⟩) (by assumption) ?_
            rotate_left
            · (intro w hSw; (try dsimp only at hSw); go_simp; try (with_reducible rfl))
            try simp only [sm]
            refine wpAnyH_take (i := 12) (v := ?_) rfl (by kernel_rfl) (by kernel_rfl) (by kernel_rfl) (fun _ _ _ h => h) (Or.inl ⟨by rfl, ?_⟩) (by assumption) ?_
            rotate_left
            · (intro w hSw; (try dsimp only at hSw); go_simp; try (with_reducible rfl))
            try simp only [sm]
            refine wpAnyH_take (i := 13) (v := ?_) rfl (by kernel_rfl) (by kernel_rfl) (by kernel_rfl) (fun _ _ _ h => h) (Or.inl ⟨by rfl, ?_⟩) (by assumption) ?_
            rotate_left
            · (intro w hSw; (try dsimp only at hSw); go_simp; try (with_reducible rfl))
            try simp only [sm]
            refine wpAnyH_take (i := 14) (v := ?_) rfl (by kernel_rfl) (by kernel_rfl) (by kernel_rfl) (fun _ _ _ h => h) (Or.inl ⟨by rfl, ?_⟩) (by assumption) ?_
            rotate_left
            · (intro w hSw; (try dsimp only at hSw); go_simp; try (with_reducible rfl))
            try simp only [sm]
            refine wpAnyH_take (i := 15) (v := ?_) rfl (by kernel_rfl) (by kernel_rfl) (by kernel_rfl) (fun _ _ _ h => h) (Or.inl ⟨by rfl, ?_⟩) (by assumption) ?_
            rotate_left
            · (intro w hSw; (try dsimp only at hSw); go_simp; try (with_reducible rfl))
            try simp only [sm]
            refine wpAnyH_take (i := 16) (v := ?_) rfl (by kernel_rfl) (by kernel_rfl) (by kernel_rfl) (fun _ _ _ h => h) (Or.inl ⟨by rfl, ?_⟩) (by assumption) ?_
            rotate_left
            · (intro w hSw; (try dsimp only at hSw); go_simp; try (with_reducible rfl))
            try simp only [sm]
            refine wpAnyH_take (i := 17) (v := ?_) rfl (by kernel_rfl) (by kernel_rfl) (by kernel_rfl) (fun _ _ _ h => h) (Or.inl ⟨by rfl, ?_⟩) (by assumption) ?_
            rotate_left
            · (intro w hSw; (try dsimp only at hSw); go_simp; try (with_reducible rfl))
            try simp only [sm]
            refine wpAnyH_take (i := 18) (v := ?_) rfl (by kernel_rfl) (by kernel_rfl) (by kernel_rfl) (fun _ _ _ h => h) (Or.inl ⟨by rfl, ?_⟩) (by assumption) ?_
            rotate_left
            · (intro w hSw; (try dsimp only at hSw); go_simp; try (with_reducible rfl))
            try simp only [sm]
            refine wpAnyH_take (i := 19) (v := ?_) rfl (by kernel_rfl) (by kernel_rfl) (by kernel_rfl) (fun _ _ _ h => h) (Or.inl ⟨by rfl, ?_⟩) (by assumption) ?_
            rotate_left
            · (intro w hSw; (try dsimp only at hSw); go_simp; try (with_reducible rfl))
            try simp only [sm]
            refine wpAnyH_take (i := 20) (v := ?_) rfl (by kernel_rfl) (by kernel_rfl) (by kernel_rfl) (fun _ _ _ h => h) (Or.inl ⟨by rfl, ?_⟩) (by assumption) ?_
            rotate_left
            · (intro w hSw; (try dsimp only at hSw); go_simp; try (with_reducible rfl))
            try simp only [sm]
            refine wpAnyH_take (i := 21) (v := ?_) rfl (by kernel_rfl) (by kernel_rfl) (by kernel_rfl) (fun _ _ _ h => h) (Or.inl ⟨by rfl, ?_⟩) (by assumption) ?_
            rotate_left
            · (intro w hSw; (try dsimp only at hSw); go_simp; try (with_reducible rfl))
            try simp only [sm]
            refine wpAnyH_take (i := 22) (v := ?_) rfl (by kernel_rfl) (by kernel_rfl) (by kernel_rfl) (fun _ _ _ h => h) (Or.inl ⟨by rfl, ?_⟩) (by assumption) ?_
            rotate_left
            · (intro w hSw; (try dsimp only at hSw); go_simp; try (with_reducible rfl))
            try simp only [sm]
            refine wpAnyH_take (i := 23) (v := ?_) rfl (by kernel_rfl) (by kernel_rfl) (by kernel_rfl) (fun _ _ _ h => h) (Or.inl ⟨by rfl, ?_⟩) (by assumption) ?_
            rotate_left
            · (intro w hSw; (try dsimp only at hSw); go_simp; try (with_reducible rfl))
            try simp only [sm]
            refine wpAnyH_take (i := 24) (v := ?_) rfl (by kernel_rfl) (by kernel_rfl) (by kernel_rfl) (fun _ _ _ h => h) (Or.inl ⟨by rfl, ?_⟩) (by assumption) ?_
            rotate_left
            · (intro w hSw; (try dsimp only at hSw); go_simp; try (with_reducible rfl))
            try simp only [sm]
            refine wpAnyH_take (i := 25) (v := ?_) rfl (by kernel_rfl) (by kernel_rfl) (by kernel_rfl) (fun _ _ _ h => h) (Or.inl ⟨by rfl, ?_⟩) (by assumption) ?_
            rotate_left
            · (intro w hSw; (try dsimp only at hSw); go_simp; try (with_reducible rfl))
            try simp only [sm]
            refine wpAnyH_take (i := 26) (v := ?_) rfl (by kernel_rfl) (by kernel_rfl) (by kernel_rfl) (fun _ _ _ h => h) (Or.inl ⟨by rfl, ?_⟩) (by assumption) ?_
            rotate_left
            · (intro w hSw; (try dsimp only at hSw); go_simp; try (with_reducible rfl))
            try simp only [sm]
            refine wpAnyH_take (i := 27) (v := ?_) rfl (by kernel_rfl) (by kernel_rfl) (by kernel_rfl) (fun _ _ _ h => h) (Or.inl ⟨by rfl, ?_⟩) (by assumption) ?_
            rotate_left
            · (intro w hSw; (try dsimp only at hSw); go_simp; try (with_reducible rfl))
            try simp only [sm]
            refine wpAnyH_take (i := 28) (v := ?_) rfl (by kernel_rfl) (by kernel_rfl) (by kernel_rfl) (fun _ _ _ h => h) (Or.inl ⟨by rfl, ?_⟩) (by assumption) ?_
            rotate_left
            · (intro w hSw; (try dsimp only at hSw); go_simp; try (with_reducible rfl))
            try simp only [sm]
            refine wpAnyH_take (i := 29) (v := ?_) rfl (by kernel_rfl) (by kernel_rfl) (by kernel_rfl) (fun _ _ _ h => h) (Or.inl ⟨by rfl, ?_⟩) (by assumption) ?_
            rotate_left
            · (intro w hSw; (try dsimp only at hSw); go_simp; try (with_reducible rfl))
            try simp only [sm]
            refine wpAnyH_take (i := 30) (v := ?_) rfl (by kernel_rfl) (by kernel_rfl) (by kernel_rfl) (fun _ _ _ h => h) (Or.inl ⟨by rfl, ?_⟩) (by assumption) ?_
            rotate_left
            · (intro w hSw; (try dsimp only at hSw); go_simp; try (with_reducible rfl))
            try simp only [sm]
            refine wpAnyH_take (i := 31) (v := ?_) rfl (by kernel_rfl) (by kernel_rfl) (by kernel_rfl) (fun _ _ _ h => h) (Or.inl ⟨by rfl, ?_⟩) (by assumption) ?_
            rotate_left
            · (intro w hSw; (try dsimp only at hSw); go_simp; try (with_reducible rfl))
            try simp only [sm]
            refine wpAnyH_take (i := 32) (v := ?_) rfl (by kernel_rfl) (by kernel_rfl) (by kernel_rfl) (fun _ _ _ h => h) (Or.inl ⟨by rfl, ?_⟩) (by assumption) ?_
            rotate_left
            · (intro w hSw; (try dsimp only at hSw); go_simp; try (with_reducible rfl))
            try simp only [sm]
            refine wpAnyH_take (i := 33) (v := ?_) rfl (by kernel_rfl) (by kernel_rfl) (by kernel_rfl) (fun _ _ _ h => h) (Or.inl ⟨by rfl, ?_⟩) (by assumption) ?_
            rotate_left
            · (intro w hSw; (try dsimp only at hSw); go_simp; try (with_reducible rfl))
            try simp only [sm]
            refine wpAnyH_take (i := 34) (v := ?_) rfl (by kernel_rfl) (by kernel_rfl) (by kernel_rfl) (fun _ _ _ h => h) (Or.inl ⟨by rfl, ?_⟩) (by assumption) ?_
            rotate_left
            · (intro w hSw; (try dsimp only at hSw); go_simp; try (with_reducible rfl))
            try simp only [sm]
            refine wpAnyH_take (i := 35) (v := ?_) rfl (by kernel_rfl) (by kernel_rfl) (by kernel_rfl) (fun _ _ _ h => h) (Or.inl ⟨by rfl, ?_⟩) (by assumption) ?_
            rotate_left
            · (intro w hSw; (try dsimp only at hSw); go_simp; try (with_reducible rfl))
            try simp only [sm]
            refine wpAnyH_done (by kernel_rfl) ?_ _
            clear hmk
            go_wp2
            go_ret
            exact ⟨by rw [hz.out]; rfl, b1.trans (hS5.mono b1.size)⟩
          · have dn : decide (L ≤ n) = false := by simpa using n1
            have hnl : n < l.length := by omega
            have hnL : n < L := by omega
            have hnc : (n : Int) < (L : Int) := by omega
            obtain ⟨ge, oe, ee, e0⟩ := hrow n hnl
            have hz : Hid (cellR c a V = l[n]) := Lib.hid (by rw [hcell.out, if_neg (by rintro (h | h | h); exact z0 h; exact h o1; omega), List.getElem?_eq_getElem hnl]; rfl)
            generalize l[n] = v at e0 hz
            subst ee
            clear hcell z0 o1 n1 hrow hl hL hl1 hl2 hnl
            have hmk : ∀ w', Below w1.heap.size w1 w' → w'.cell? ⟨W.heap.size, 0, none⟩ = some (.slice (some ⟨gs, os, none⟩) c.st.length x.sc) ∧ w'.cell? ⟨W.heap.size, 1, none⟩ = some (.slice x.N c.nm.length x.nc) ∧ w'.cell? ⟨W.heap.size, 2, none⟩ = some (.slice (some ⟨gi, oi, none⟩) c.ins.length x.ic) ∧ w'.cell? ⟨W.heap.size, 3, none⟩ = some (.slice x.K c.bk.length x.kc) ∧ w'.cell? ⟨gi, oi + V * 8, none⟩ = some (.int .i64 o) ∧ w'.cell? ⟨gi, oi + V * 8 + 6, none⟩ = some (.int .u64 (n : Int)) ∧ w'.cell? ⟨gs, os + K, none⟩ = some (.slice (some ⟨ge, oe, none⟩) L c') ∧ Below w1.heap.size w1 w' := fun w' hb => ⟨cell_later hb s0, cell_later hb s1, cell_later hb s2, cell_later hb s3, cell_later hb i0, cell_later hb i6, cell_later hb r0, hb⟩
            clear s0 s1 s2 s3 i0 i6 r0
            have kI := rInt_any (hx1.later (Drew.below ⟨1, rfl⟩)) (V : Int)
            generalize wOf c (V : Int) = z at kI dz
            rw [ei, es] at kI
            clear ei es
            clear hx1
            refine wp_region_held_drew (S := (fun w' => w'.cell? ⟨W.heap.size, 0, none⟩ = some (.slice (some ⟨gs, os, none⟩) c.st.length x.sc) ∧ w'.cell? ⟨W.heap.size, 1, none⟩ = some (.slice x.N c.nm.length x.nc) ∧ w'.cell? ⟨W.heap.size, 2, none⟩ = some (.slice (some ⟨gi, oi, none⟩) c.ins.length x.ic) ∧ w'.cell? ⟨W.heap.size, 3, none⟩ = some (.slice x.K c.bk.length x.kc) ∧ w'.cell? ⟨gi, oi + V * 8, none⟩ = some (.int .i64 o) ∧ w'.cell? ⟨gi, oi + V * 8 + 6, none⟩ = some (.int .u64 (n : Int)) ∧ w'.cell? ⟨gs, os + K, none⟩ = some (.slice (some ⟨ge, oe, none⟩) L c') ∧ Below w1.heap.size w1 w')) (by kernel_rfl) (hmk _ (Drew.below ⟨1, rfl⟩)) (fun hHeld => ?_)
            refine wpAnyH_take (i := 0) (v := ?_) rfl (by kernel_rfl) (by kernel_rfl) (by kernel_rfl) (fun _ _ _ h => h) (Or.inl ⟨by rfl, ?_⟩) (by assumption) ?_
            rotate_left
            · (intro w hSw; (try dsimp only at hSw); go_simp; try (with_reducible rfl))
            try simp only [sm]
            refine wpAnyH_take (i := 1) (v := ?_) rfl (by kernel_rfl) (by kernel_rfl) (by kernel_rfl) (fun _ _ _ h => h) (Or.inl ⟨by rfl, ?_⟩) (by assumption) ?_
            rotate_left
            · (intro w hSw; (try dsimp only at hSw); go_simp; try (with_reducible rfl))
            try simp only [sm]
            refine wpAnyH_take (i := 2) (v := ?_) rfl (by kernel_rfl) (by kernel_rfl) (by kernel_rfl) (fun _ _ _ h => h) (Or.inl ⟨by rfl, ?_⟩) (by assumption) ?_
            rotate_left
            · (intro w hSw; (try dsimp only at hSw); go_simp; try (with_reducible rfl))
            try simp only [sm]
            refine wpAnyH_take (i := 3) (v := ?_) rfl (by kernel_rfl) (by kernel_rfl) (by kernel_rfl) (fun _ _ _ h => h) (Or.inl ⟨by rfl, ?_⟩) (by assumption) ?_
            rotate_left
            · (intro w hSw; (try dsimp only at hSw); go_simp; try (with_reducible rfl))
            try simp only [sm]
            refine wpAnyH_take (i := 4) (v := ?_) rfl (by kernel_rfl) (by kernel_rfl) (by kernel_rfl) (fun _ _ _ h => h) (Or.inl ⟨by rfl, ?_⟩) (by assumption) ?_
            rotate_left
            · (intro w hSw; (try dsimp only at hSw); go_simp; try (with_reducible rfl))
            try simp only [sm]
            refine wpAnyH_take (i := 5) (v := ?_) rfl (by kernel_rfl) (by kernel_rfl) (by kernel_rfl) (fun _ _ _ h => h) (Or.inl ⟨by rfl, ?_⟩) (by assumption) ?_
            rotate_left
            · (intro w hSw; (try dsimp only at hSw); go_simp; try (with_reducible rfl))
            try simp only [sm]
            refine wpAnyH_take (i := 6) (v := ?_) rfl (by kernel_rfl) (by kernel_rfl) (by kernel_rfl) (fun _ _ _ h => h) (Or.inl ⟨by rfl, ?_⟩) (by assumption) ?_
            rotate_left
            · (intro w hSw; (try dsimp only at hSw); go_simp; try (with_reducible rfl))
            try simp only [sm]
            refine wpAnyH_take (i := 7) (v := ?_) rfl (by kernel_rfl) (by kernel_rfl) (by kernel_rfl) (fun _ _ _ h => h) (Or.inl ⟨by rfl, ?_⟩) (by assumption) ?_
            rotate_left
            · (intro w hSw; (try dsimp only at hSw); go_simp; try (with_reducible rfl))
            try simp only [sm]
            refine wpAnyH_ready (rs := [8]) (by kernel_rfl) (by simp) ?_
            refine AllReadyH.cons rfl (fun K hK => ?_) AllReadyH.nil
            go_simp
            refine kI.mono ?_
            rintro e w5 ⟨rfl, b5⟩
            have hS5 : Below w1.heap.size w1 w5 := (Drew.below ⟨1, rfl⟩).trans (b5.mono (Nat.le_refl _))
            refine hK.out _ _ (hmk _ hS5) (fun hHeld => ?_)
            clear hK
            try simp only [sm]
            refine wpAnyH_take (i := 9) (v := ?_) rfl (by kernel_rfl) (by kernel_rfl) (by kernel_rfl) (fun _ _ _ h => h) (Or.inl ⟨by rfl, ?_⟩) (by assumption) ?_
            rotate_left
            · (intro w hSw; (try dsimp only at hSw); go_simp; try (with_reducible rfl))
            try simp only [sm]
            refine wpAnyH_take (i := 10) (v := ?_) rfl (by kernel_rfl) (by kernel_rfl) (by kernel_rfl) (fun _ _ _ h => h) (Or.inl ⟨by rfl, ?_⟩) (by assumption) ?_
            rotate_left
            · (intro w hSw; (try dsimp only at hSw); go_simp; try (with_reducible rfl))
            try simp only [sm]
            refine wpAnyH_take (i := 11) (v := ?_) rfl (by kernel_rfl) (by kernel_rfl) (by kernel_rfl) (fun _ _ _ h => h) (Or.inl ⟨by rfl, ?_⟩) (by assumption) ?_
            rotate_left
            · (intro w hSw; (try dsimp only at hSw); go_simp; try (with_reducible rfl))
            try simp only [sm]
            refine wpAnyH_take (i := 12) (v := ?_) rfl (by kernel_rfl) (by kernel_rfl) (by kernel_rfl) (fun _ _ _ h => h) (Or.inl ⟨by rfl, ?_⟩) (by assumption) ?_
            rotate_left
            · (intro w hSw; (try dsimp only at hSw); go_simp; try (with_reducible rfl))
            try simp only [sm]
            refine wpAnyH_take (i := 13) (v := ?_) rfl (by kernel_rfl) (by kernel_rfl) (by kernel_rfl) (fun _ _ _ h => h) (Or.inl ⟨by rfl, ?_⟩) (by assumption) ?_
            rotate_left
            · (intro w hSw; (try dsimp only at hSw); go_simp; try (with_reducible rfl))
            try simp only [sm]
            refine wpAnyH_take (i := 14) (v := ?_) rfl (by kernel_rfl) (by kernel_rfl) (by kernel_rfl) (fun _ _ _ h => h) (Or.inl ⟨by rfl, ?_⟩) (by assumption) ?_
            rotate_left
            · (intro w hSw; (try dsimp only at hSw); go_simp; try (with_reducible rfl))
            try simp only [sm]
            refine wpAnyH_take (i := 15) (v := ?_) rfl (by kernel_rfl) (by kernel_rfl) (by kernel_rfl) (fun _ _ _ h => h) (Or.inl ⟨by rfl, ?_⟩) (by assumption) ?_
            rotate_left
            · (intro w hSw; (try dsimp only at hSw); go_simp; try (with_reducible rfl))
            try simp only [sm]
            refine wpAnyH_take (i := 16) (v := ?_) rfl (by kernel_rfl) (by kernel_rfl) (by kernel_rfl) (fun _ _ _ h => h) (Or.inl ⟨by rfl, ?_⟩) (by assumption) ?_
            rotate_left
            · (intro w hSw; (try dsimp only at hSw); go_simp; try (with_reducible rfl))
            try simp only [sm]
            refine wpAnyH_take (i := 17) (v := ?_) rfl (by kernel_rfl) (by kernel_rfl) (by kernel_rfl) (fun _ _ _ h => h) (Or.inl ⟨by rfl, ?_⟩) (by assumption) ?_
            rotate_left
            · (intro w hSw; (try dsimp only at hSw); go_simp; try (with_reducible rfl))
            try simp only [sm]
            refine wpAnyH_take (i := 18) (v := ?_) rfl (by kernel_rfl) (by kernel_rfl) (by kernel_rfl) (fun _ _ _ h => h) (Or.inl ⟨by rfl, ?_⟩) (by assumption) ?_
            rotate_left
            · (intro w hSw; (try dsimp only at hSw); go_simp; try (with_reducible rfl))
            try simp only [sm]
            refine wpAnyH_take (i := 19) (v := ?_) rfl (by kernel_rfl) (by kernel_rfl) (by kernel_rfl) (fun _ _ _ h => h) (Or.inl ⟨by rfl, ?_⟩) (by assumption) ?_
            rotate_left
            · (intro w hSw; (try dsimp only at hSw); go_simp; try (with_reducible rfl))
            try simp only [sm]
            refine wpAnyH_take (i := 20) (v := ?_) rfl (by kernel_rfl) (by kernel_rfl) (by kernel_rfl) (fun _ _ _ h => h) (Or.inl ⟨by rfl, ?_⟩) (by assumption) ?_
            rotate_left
            · (intro w hSw; (try dsimp only at hSw); go_simp; try (with_reducible rfl))
            try simp only [sm]
            refine wpAnyH_take (i := 21) (v := ?_) rfl (by kernel_rfl) (by kernel_rfl) (by kernel_rfl) (fun _ _ _ h => h) (Or.inl ⟨by rfl, ?_⟩) (by assumption) ?_
            rotate_left
            · (intro w hSw; (try dsimp only at hSw); go_simp; try (with_reducible rfl))
            try simp only [sm]
            refine wpAnyH_take (i := 22) (v := ?_) rfl (by kernel_rfl) (by kernel_rfl) (by kernel_rfl) (fun _ _ _ h => h) (Or.inl ⟨by rfl, ?_⟩) (by assumption) ?_
            rotate_left
            · (intro w hSw; (try dsimp only at hSw); go_simp; try (with_reducible rfl))
            try simp only [sm]
            refine wpAnyH_take (i := 23) (v := ?_) rfl (by kernel_rfl) (by kernel_rfl) (by kernel_rfl) (fun _ _ _ h => h) (Or.inl ⟨by rfl, ?_⟩) (by assumption) ?_
            rotate_left
            · (intro w hSw; (try dsimp only at hSw); go_simp; try (with_reducible rfl))
            try simp only [sm]
            refine wpAnyH_take (i := 24) (v := ?_) rfl (by kernel_rfl) (by kernel_rfl) (by kernel_rfl) (fun _ _ _ h => h) (Or.inl ⟨by rfl, ?_⟩) (by assumption) ?_
            rotate_left
            · (intro w hSw; (try dsimp only at hSw); go_simp; try (with_reducible rfl))
            try simp only [sm]
            refine wpAnyH_take (i := 25) (v := ?_) rfl (by kernel_rfl) (by kernel_rfl) (by kernel_rfl) (fun _ _ _ h => h) (Or.inl ⟨by rfl, ?_⟩) (by assumption) ?_
            rotate_left
            · (intro w hSw; (try dsimp only at hSw); go_simp; try (with_reducible rfl))
            try simp only [sm]
            refine wpAnyH_take (i := 26) (v := ?_) rfl (by kernel_rfl) (by kernel_rfl) (by kernel_rfl) (fun _ _ _ h => h) (Or.inl ⟨by rfl, ?_⟩) (by assumption) ?_
            rotate_left
            · (intro w hSw; (try dsimp only at hSw); go_simp; try (with_reducible rfl))
            try simp only [sm]
            refine wpAnyH_take (i := 27) (v := ?_) rfl (by kernel_rfl) (by kernel_rfl) (by kernel_rfl) (fun _ _ _ h => h) (Or.inl ⟨by rfl, ?_⟩) (by assumption) ?_
            rotate_left
            · (intro w hSw; (try dsimp only at hSw); go_simp; try (with_reducible rfl))
            try simp only [sm]
            refine wpAnyH_take (i := 28) (v := ?_) rfl (by kernel_rfl) (by kernel_rfl) (by kernel_rfl) (fun _ _ _ h => h) (Or.inl ⟨by rfl, ?_⟩) (by assumption) ?_
            rotate_left
            · (intro w hSw; (try dsimp only at hSw); go_simp; try (with_reducible rfl))
            try simp only [sm]
            refine wpAnyH_take (i := 29) (v := ?_) rfl (by kernel_rfl) (by kernel_rfl) (by kernel_rfl) (fun _ _ _ h => h) (Or.inl ⟨by rfl, ?_⟩) (by assumption) ?_
            rotate_left
            · (intro w hSw; (try dsimp only at hSw); go_simp; try (with_reducible rfl))
            try simp only [sm]
            refine wpAnyH_take (i := 30) (v := ?_) rfl (by kernel_rfl) (by kernel_rfl) (by kernel_rfl) (fun _ _ _ h => h) (Or.inl ⟨by rfl, ?_⟩) (by assumption) ?_
            rotate_left
            · (intro w hSw; (try dsimp only at hSw); go_simp; try (with_reducible rfl))
            try simp only [sm]
            refine wpAnyH_take (i := 31) (v := ?_) rfl (by kernel_rfl) (by kernel_rfl) (by kernel_rfl) (fun _ _ _ h => h) (Or.inl ⟨by rfl, ?_⟩) (by assumption) ?_
            rotate_left
            · (intro w hSw; (try dsimp only at hSw); go_simp; try (with_reducible rfl))
            try simp only [sm]
            refine wpAnyH_take (i := 32) (v := ?_) rfl (by kernel_rfl) (by kernel_rfl) (by kernel_rfl) (fun _ _ _ h => h) (Or.inl ⟨by rfl, ?_⟩) (by assumption) ?_
            rotate_left
            · (intro w hSw; (try dsimp only at hSw); go_simp; try (with_reducible rfl))
            try simp only [sm]
            refine wpAnyH_take (i := 33) (v := ?_) rfl (by kernel_rfl) (by kernel_rfl) (by kernel_rfl) (fun _ _ _ h => h) (Or.inl ⟨by rfl, ?_⟩) (by assumption) ?_
            rotate_left
            · (intro w hSw; (try dsimp only at hSw); go_simp; try (with_reducible rfl))
            try simp only [sm]
            refine wpAnyH_take (i := 34) (v := ?_) rfl (by kernel_rfl) (by kernel_rfl) (by kernel_rfl) (fun _ _ _ h => h) (Or.inl ⟨by rfl, ?_⟩) (by assumption) ?_
            rotate_left
            · (intro w hSw; (try dsimp only at hSw); go_simp; try (with_reducible rfl))
            try simp only [sm]
            refine wpAnyH_take (i := 35) (v := ?_) rfl (by kernel_rfl) (by kernel_rfl) (by kernel_rfl) (fun _ _ _ h => h) (Or.inl ⟨by rfl, ?_⟩) (by assumption) ?_
            rotate_left
            · (intro w hSw; (try dsimp only at hSw); go_simp; try (with_reducible rfl))
            try simp only [sm]
            refine wpAnyH_done (by kernel_rfl) ?_ _
            obtain ⟨t0, t1, t2, t3, t4, t5, t6, _⟩ := hmk _ hS5
            have t7 := cell_later hS5 e0
            clear hmk e0 hHeld
            go_wp2_with fail
            go_quiet (fail)
            go_wp2
            go_ret
            exact ⟨by rw [hz.out]; rfl, below_drewN (b1.trans (hS5.mono b1.size)) _⟩
        · have d1 : (o != 1) = true := by simpa using o1
          have hz : Hid (cellR c a V = 0) := Lib.hid (by rw [hcell.out, if_pos (Or.inr (Or.inl o1))])
          clear hcell z0 o1 i6
          have hmk : ∀ w', Below w1.heap.size w1 w' → w'.cell? ⟨W.heap.size, 0, none⟩ = some (.slice x.S c.st.length x.sc) ∧ w'.cell? ⟨W.heap.size, 1, none⟩ = some (.slice x.N c.nm.length x.nc) ∧ w'.cell? ⟨W.heap.size, 2, none⟩ = some (.slice (some ⟨gi, oi, none⟩) c.ins.length x.ic) ∧ w'.cell? ⟨W.heap.size, 3, none⟩ = some (.slice x.K c.bk.length x.kc) ∧ w'.cell? ⟨gi, oi + V * 8, none⟩ = some (.int .i64 o) ∧ Below w1.heap.size w1 w' := fun w' hb => ⟨cell_later hb s0, cell_later hb s1, cell_later hb s2, cell_later hb s3, cell_later hb i0, hb⟩
          clear s0 s1 s2 s3 i0
          have kI := rInt_any (hx1.later (Drew.below ⟨1, rfl⟩)) (V : Int)
          generalize wOf c (V : Int) = z at kI dz
          rw [ei] at kI
          clear ei
          clear hx1
          refine wp_region_held_drew (S := (fun w' => w'.cell? ⟨W.heap.size, 0, none⟩ = some (.slice x.S c.st.length x.sc) ∧ w'.cell? ⟨W.heap.size, 1, none⟩ = some (.slice x.N c.nm.length x.nc) ∧ w'.cell? ⟨W.heap.size, 2, none⟩ = some (.slice (some ⟨gi, oi, none⟩) c.ins.length x.ic) ∧ w'.cell? ⟨W.heap.size, 3, none⟩ = some (.slice x.K c.bk.length x.kc) ∧ w'.cell? ⟨gi, oi + V * 8, none⟩ = some (.int .i64 o) ∧ Below w1.heap.size w1 w')) (by kernel_rfl) (hmk _ (Drew.below ⟨1, rfl⟩)) (fun hHeld => ?_)
          refine wpAnyH_take (i := 0) (v := ?_) rfl (by kernel_rfl) (by kernel_rfl) (by kernel_rfl) (fun _ _ _ h => h) (Or.inl ⟨by rfl, ?_⟩) (by assumption) ?_
          rotate_left
          · (intro w hSw; (try dsimp only at hSw); go_simp; try (with_reducible rfl))
          try simp only [sm]
          refine wpAnyH_take (i := 1) (v := ?_) rfl (by kernel_rfl) (by kernel_rfl) (by kernel_rfl) (fun _ _ _ h => h) (Or.inl ⟨by rfl, ?_⟩) (by assumption) ?_
          rotate_left
          · (intro w hSw; (try dsimp only at hSw); go_simp; try (with_reducible rfl))
          try simp only [sm]
          refine wpAnyH_take (i := 2) (v := ?_) rfl (by kernel_rfl) (by kernel_rfl) (by kernel_rfl) (fun _ _ _ h => h) (Or.inl ⟨by rfl, ?_⟩) (by assumption) ?_
          rotate_left
          · (intro w hSw; (try dsimp only at hSw); go_simp; try (with_reducible rfl))
          try simp only [sm]
          refine wpAnyH_take (i := 3) (v := ?_) rfl (by kernel_rfl) (by kernel_rfl) (by kernel_rfl) (fun _ _ _ h => h) (Or.inl ⟨by rfl, ?_⟩) (by assumption) ?_
          rotate_left
          · (intro w hSw; (try dsimp only at hSw); go_simp; try (with_reducible rfl))
          try simp only [sm]
          refine wpAnyH_take (i := 4) (v := ?_) rfl (by kernel_rfl) (by kernel_rfl) (by kernel_rfl) (fun _ _ _ h => h) (Or.inl ⟨by rfl, ?_⟩) (by assumption) ?_
          rotate_left
          · (intro w hSw; (try dsimp only at hSw); go_simp; try (with_reducible rfl))
          try simp only [sm]
          refine wpAnyH_take (i := 5) (v := ?_) rfl (by kernel_rfl) (by kernel_rfl) (by kernel_rfl) (fun _ _ _ h => h) (Or.inl ⟨by rfl, ?_⟩) (by assumption) ?_
          rotate_left
          · (intro w hSw; (try dsimp only at hSw); go_simp; try (with_reducible rfl))
          try simp only [sm]
          refine wpAnyH_take (i := 6) (v := ?_) rfl (by kernel_rfl) (by kernel_rfl) (by kernel_rfl) (fun _ _ _ h => h) (Or.inl ⟨by rfl, ?_⟩) (by assumption) ?_
          rotate_left
          · (intro w hSw; (try dsimp only at hSw); go_simp; try (with_reducible rfl))
          try simp only [sm]
          refine wpAnyH_take (i := 7) (v := ?_) rfl (by kernel_rfl) (by kernel_rfl) (by kernel_rfl) (fun _ _ _ h => h) (Or.inl ⟨by rfl, ?_⟩) (by assumption) ?_
          rotate_left
          · (intro w hSw; (try dsimp only at hSw); go_simp; try (with_reducible rfl))
          try simp only [sm]
          refine wpAnyH_ready (rs := [8]) (by kernel_rfl) (by simp) ?_
          refine AllReadyH.cons rfl (fun K hK => ?_) AllReadyH.nil
          go_simp
          refine kI.mono ?_
          rintro e w5 ⟨rfl, b5⟩
          have hS5 : Below w1.heap.size w1 w5 := (Drew.below ⟨1, rfl⟩).trans (b5.mono (Nat.le_refl _))
          refine hK.out _ _ (hmk _ hS5) (fun hHeld => ?_)
          clear hK
          try simp only [sm]
          refine wpAnyH_take (i := 9) (v := ?_) rfl (by kernel_rfl) (by kernel_rfl) (by kernel_rfl) (fun _ _ _ h => h) (Or.inl ⟨by rfl, ?_⟩) (by assumption) ?_
          rotate_left
          · (intro w hSw; (try dsimp only at hSw); go_simp; try (with_reducible rfl))
          try simp only [sm]
          refine wpAnyH_take (i := 10) (v := ?_) rfl (by kernel_rfl) (by kernel_rfl) (by kernel_rfl) (fun _ _ _ h => h) (Or.inl ⟨by rfl, ?_⟩) (by assumption) ?_
          rotate_left
          · (intro w hSw; (try dsimp only at hSw); go_simp; try (with_reducible rfl))
          try simp only [sm]
          refine wpAnyH_take (i := 11) (v := ?_) rfl (by kernel_rfl) (by kernel_rfl) (by kernel_rfl) (fun _ _ _ h => h) (Or.inl ⟨by rfl, ?_⟩) (by assumption) ?_
          rotate_left
          · (intro w hSw; (try dsimp only at hSw); go_simp; try (with_reducible rfl))
          try simp only [sm]
          refine wpAnyH_take (i := 12) (v := ?_) rfl (by kernel_rfl) (by kernel_rfl) (by kernel_rfl) (fun _ _ _ h => h) (Or.inl ⟨by rfl, ?_⟩) (by assumption) ?_
          rotate_left
          · (intro w hSw; (try dsimp only at hSw); go_simp; try (with_reducible rfl))
          try simp only [sm]
          refine wpAnyH_take (i := 13) (v := ?_) rfl (by kernel_rfl) (by kernel_rfl) (by kernel_rfl) (fun _ _ _ h => h) (Or.inl ⟨by rfl, ?_⟩) (by assumption) ?_
          rotate_left
          · (intro w hSw; (try dsimp only at hSw); go_simp; try (with_reducible rfl))
          try simp only [sm]
          refine wpAnyH_take (i := 14) (v := ?_) rfl (by kernel_rfl) (by kernel_rfl) (by kernel_rfl) (fun _ _ _ h => h) (Or.inl ⟨by rfl, ?_⟩) (by assumption) ?_
          rotate_left
          · (intro w hSw; (try dsimp only at hSw); go_simp; try (with_reducible rfl))
          try simp only [sm]
          refine wpAnyH_take (i := 15) (v := ?_) rfl (by kernel_rfl) (by kernel_rfl) (by kernel_rfl) (fun _ _ _ h => h) (Or.inl ⟨by rfl, ?_⟩) (by assumption) ?_
          rotate_left
          · (intro w hSw; (try dsimp only at hSw); go_simp; try (with_reducible rfl))
          try simp only [sm]
          refine wpAnyH_take (i := 16) (v := ?_) rfl (by kernel_rfl) (by kernel_rfl) (by kernel_rfl) (fun _ _ _ h => h) (Or.inl ⟨by rfl, ?_⟩) (by assumption) ?_
          rotate_left
          · (intro w hSw; (try dsimp only at hSw); go_simp; try (with_reducible rfl))
          try simp only [sm]
          refine wpAnyH_take (i := 17) (v := ?_) rfl (by kernel_rfl) (by kernel_rfl) (by kernel_rfl) (fun _ _ _ h => h) (Or.inl ⟨by rfl, ?_⟩) (by assumption) ?_
          rotate_left
          · (intro w hSw; (try dsimp only at hSw); go_simp; try (with_reducible rfl))
          try simp only [sm]
          refine wpAnyH_take (i := 18) (v := ?_) rfl (by kernel_rfl) (by kernel_rfl) (by kernel_rfl) (fun _ _ _ h => h) (Or.inl ⟨by rfl, ?_⟩) (by assumption) ?_
          rotate_left
          · (intro w hSw; (try dsimp only at hSw); go_simp; try (with_reducible rfl))
          try simp only [sm]
          refine wpAnyH_take (i := 19) (v := ?_) rfl (by kernel_rfl) (by kernel_rfl) (by kernel_rfl) (fun _ _ _ h => h) (Or.inl ⟨by rfl, ?_⟩) (by assumption) ?_
          rotate_left
          · (intro w hSw; (try dsimp only at hSw); go_simp; try (with_reducible rfl))
          try simp only [sm]
          refine wpAnyH_take (i := 20) (v := ?_) rfl (by kernel_rfl) (by kernel_rfl) (by kernel_rfl) (fun _ _ _ h => h) (Or.inl ⟨by rfl, ?_⟩) (by assumption) ?_
          rotate_left
          · (intro w hSw; (try dsimp only at hSw); go_simp; try (with_reducible rfl))
          try simp only [sm]
          refine wpAnyH_take (i := 21) (v := undef) rfl (by kernel_rfl) (by kernel_rfl) (by kernel_rfl) (fun _ _ _ h => h) (Or.inr ⟨by rfl, rfl⟩) (by assumption) ?_
          try simp only [sm]
          refine wpAnyH_take (i := 22) (v := undef) rfl (by kernel_rfl) (by kernel_rfl) (by kernel_rfl) (fun _ _ _ h => h) (Or.inr ⟨by rfl, rfl⟩) (by assumption) ?_
          try simp only [sm]
          refine wpAnyH_take (i := 23) (v := undef) rfl (by kernel_rfl) (by kernel_rfl) (by kernel_rfl) (fun _ _ _ h => h) (Or.inr ⟨by rfl, rfl⟩) (by assumption) ?_
          try simp only [sm]
          refine wpAnyH_take (i := 24) (v := undef) rfl (by kernel_rfl) (by kernel_rfl) (by kernel_rfl) (fun _ _ _ h => h) (Or.inr ⟨by rfl, rfl⟩) (by assumption) ?_
          try simp only [sm]
          refine wpAnyH_take (i := 25) (v := undef) rfl (by kernel_rfl) (by kernel_rfl) (by kernel_rfl) (fun _ _ _ h => h) (Or.inr ⟨by rfl, rfl⟩) (by assumption) ?_
          try simp only [sm]
          refine wpAnyH_take (i := 26) (v := undef) rfl (by kernel_rfl) (by kernel_rfl) (by kernel_rfl) (fun _ _ _ h => h) (Or.inr ⟨by rfl, rfl⟩) (by assumption) ?_
          try simp only [sm]
          refine wpAnyH_take (i := 27) (v := undef) rfl (by kernel_rfl) (by kernel_rfl) (by kernel_rfl) (fun _ _ _ h => h) (Or.inr ⟨by rfl, rfl⟩) (by assumption) ?_
          try simp only [sm]
          refine wpAnyH_take (i := 28) (v := undef) rfl (by kernel_rfl) (by kernel_rfl) (by kernel_rfl) (fun _ _ _ h => h) (Or.inr ⟨by rfl, rfl⟩) (by assumption) ?_
          try simp only [sm]
          refine wpAnyH_take (i := 29) (v := undef) rfl (by kernel_rfl) (by kernel_rfl) (by kernel_rfl) (fun _ _ _ h => h) (Or.inr ⟨by rfl, rfl⟩) (by assumption) ?_
          try simp only [sm]
          refine wpAnyH_take (i := 30) (v := undef) rfl (by kernel_rfl) (by kernel_rfl) (by kernel_rfl) (fun _ _ _ h => h) (Or.inr ⟨by rfl, rfl⟩) (by assumption) ?_
          try simp only [sm]
          refine wpAnyH_take (i := 31) (v := undef) rfl (by kernel_rfl) (by kernel_rfl) (by kernel_rfl) (fun _ _ _ h => h) (Or.inr ⟨by rfl, rfl⟩) (by assumption) ?_
          try simp only [sm]
          refine wpAnyH_take (i := 32) (v := undef) rfl (by kernel_rfl) (by kernel_rfl) (by kernel_rfl) (fun _ _ _ h => h) (Or.inr ⟨by rfl, rfl⟩) (by assumption) ?_
          try simp only [sm]
          refine wpAnyH_take (i := 33) (v := undef) rfl (by kernel_rfl) (by kernel_rfl) (by kernel_rfl) (fun _ _ _ h => h) (Or.inr ⟨by rfl, rfl⟩) (by assumption) ?_
          try simp only [sm]
          refine wpAnyH_take (i := 34) (v := undef) rfl (by kernel_rfl) (by kernel_rfl) (by kernel_rfl) (fun _ _ _ h => h) (Or.inr ⟨by rfl, rfl⟩) (by assumption) ?_
          try simp only [sm]
          refine wpAnyH_take (i := 35) (v := ?_) rfl (by kernel_rfl) (by kernel_rfl) (by kernel_rfl) (fun _ _ _ h => h) (Or.inl ⟨by rfl, ?_⟩) (by assumption) ?_
          rotate_left
          · (intro w hSw; (try dsimp only at hSw); go_simp; try (with_reducible rfl))
          try simp only [sm]
          refine wpAnyH_done (by kernel_rfl) ?_ _
          clear hmk
          go_wp2
          go_ret
          exact ⟨by rw [hz.out]; rfl, b1.trans (hS5.mono b1.size)⟩
end Go.Proofs.YtnbgadndkepomaaGreatDoor

namespace Go.Proofs.YtnbgadndkepomaaGreatDoor
open Go.RowKit

theorem rw_33 (c : Cd) (w p a b k : Int) (n : Nat) (t : Int) : RW c ⟨33, w, p, a, b, k, n, t⟩ ↔ (0 < wOf c b ∧ 0 < cellR c a b ∧ w = cellR c a b) := by
  unfold RW
  dsimp only
  repeat' (first | rw [if_pos (by omega)] | rw [if_neg (by omega)])
  try (unfold RI; dsimp only; repeat' (first | rw [if_pos (by omega)] | rw [if_neg (by omega)]))
set_option maxRecDepth 100000 in
set_option maxHeartbeats 3200000 in
theorem rinst_33_0 {W : World} {c : Cd} {x : Sl} (hx : CdAt W c x) (ok : c.ok) (_hst : c.st.length ≤ 8) (_hnm : c.nm.length ≤ 32) (w p a b k : Int) (n : Nat) (t : Int) (hpl : PlainR ⟨33, w, p, a, b, k, n, t⟩) (hat : plcB t = true) (_hn : n < 18446744073709551616) (a1 : ¬ (0 < wOf c b)) : InsC W c x ⟨33, w, p, a, b, k, n, t⟩ (B (RW c ⟨33, w, p, a, b, k, n, t⟩)) := by
  unfold InsC
  have hR := rw_33 c w p a b k n t
  generalize RW c ⟨33, w, p, a, b, k, n, t⟩ = E at hR ⊢
  obtain ⟨A, eA, iA, jA⟩ := wv ok a
  obtain ⟨Bw, eB, iB, jB⟩ := wv ok b
  obtain ⟨C, eC⟩ : ∃ C, cellR c a b = C := ⟨_, rfl⟩
  try simp only [eB, eC] at hR
  replace hR := Lib.hid hR
  obtain ⟨X, hX, I⟩ := IS.new hx ⟨33, w, p, a, b, k, n, t⟩
  obtain ⟨e0, e1, e2, e3, e4, e5, e6, e7, v0, v1, v2, v3⟩ := I.cs
  try simp only [eB] at a1
  have ta1 : decide (0 < Bw) = false := by simpa using a1
  have hz : Hid (B E = false) := Lib.hid (B_not (fun h => by have h2 := hR.out.1 h; omega))
  clear hR a1
  go_enter Tryz.func38, Tryz.ntmps38
  go_upto_region 1 with fail
  simp only [hX.out]
  go_wp2_with fail
  refine (rplain_any ⟨33, w, p, a, b, k, n, t⟩).mono ?_
  rintro e w1 ⟨rfl, b1⟩
  rw [B_of hpl]
  clear e0 e1 e2 e3 e4 e5 e6 e7 v0 v1 v2 v3
  replace I := I.later b1
  obtain ⟨e0, e1, e2, e3, e4, e5, e6, e7, v0, v1, v2, v3⟩ := I.cs
  go_wp2_with fail
  refine (rplace_any _ _).mono ?_
  rintro e w2 ⟨rfl, rfl⟩
  rw [hat]
  go_wp2_with fail
  refine (rInt_any I.at_ a).mono ?_
  rintro e w2 ⟨rfl, b2⟩
  rw [eA]
  clear e0 e1 e2 e3 e4 e5 e6 e7 v0 v1 v2 v3
  replace I := I.later b2
  obtain ⟨e0, e1, e2, e3, e4, e5, e6, e7, v0, v1, v2, v3⟩ := I.cs
  go_wp2_with fail
  refine (rInt_any I.at_ b).mono ?_
  rintro e w3 ⟨rfl, b3⟩
  rw [eB]
  clear e0 e1 e2 e3 e4 e5 e6 e7 v0 v1 v2 v3
  replace I := I.later b3
  obtain ⟨e0, e1, e2, e3, e4, e5, e6, e7, v0, v1, v2, v3⟩ := I.cs
  go_wp2_with fail
  refine (rCell_any I.at_ ok a b).mono ?_
  rintro e' w4 ⟨rfl, b4⟩
  rw [eC]
  clear e0 e1 e2 e3 e4 e5 e6 e7 v0 v1 v2 v3
  replace I := I.later b4
  obtain ⟨e0, e1, e2, e3, e4, e5, e6, e7, v0, v1, v2, v3⟩ := I.cs
  go_wp2
  go_ret
  exact ⟨by rw [hz.out]; try rfl, I.bA⟩
set_option maxRecDepth 100000 in
set_option maxHeartbeats 3200000 in
theorem rinst_33_1 {W : World} {c : Cd} {x : Sl} (hx : CdAt W c x) (ok : c.ok) (_hst : c.st.length ≤ 8) (_hnm : c.nm.length ≤ 32) (w p a b k : Int) (n : Nat) (t : Int) (hpl : PlainR ⟨33, w, p, a, b, k, n, t⟩) (hat : plcB t = true) (_hn : n < 18446744073709551616) (a1 : 0 < wOf c b) (a2 : ¬ (0 < cellR c a b)) : InsC W c x ⟨33, w, p, a, b, k, n, t⟩ (B (RW c ⟨33, w, p, a, b, k, n, t⟩)) := by
  unfold InsC
  have hR := rw_33 c w p a b k n t
  generalize RW c ⟨33, w, p, a, b, k, n, t⟩ = E at hR ⊢
  obtain ⟨A, eA, iA, jA⟩ := wv ok a
  obtain ⟨Bw, eB, iB, jB⟩ := wv ok b
  obtain ⟨C, eC⟩ : ∃ C, cellR c a b = C := ⟨_, rfl⟩
  try simp only [eB, eC] at hR
  replace hR := Lib.hid hR
  obtain ⟨X, hX, I⟩ := IS.new hx ⟨33, w, p, a, b, k, n, t⟩
  obtain ⟨e0, e1, e2, e3, e4, e5, e6, e7, v0, v1, v2, v3⟩ := I.cs
  try simp only [eB, eC] at a1 a2
  have ta1 : decide (0 < Bw) = true := by simpa using a1
  have ta2 : decide (0 < C) = false := by simpa using a2
  have hz : Hid (B E = false) := Lib.hid (B_not (fun h => by have h2 := hR.out.1 h; omega))
  clear hR a1 a2
  go_enter Tryz.func38, Tryz.ntmps38
  go_upto_region 1 with fail
  simp only [hX.out]
  go_wp2_with fail
  refine (rplain_any ⟨33, w, p, a, b, k, n, t⟩).mono ?_
  rintro e w1 ⟨rfl, b1⟩
  rw [B_of hpl]
  clear e0 e1 e2 e3 e4 e5 e6 e7 v0 v1 v2 v3
  replace I := I.later b1
  obtain ⟨e0, e1, e2, e3, e4, e5, e6, e7, v0, v1, v2, v3⟩ := I.cs
  go_wp2_with fail
  refine (rplace_any _ _).mono ?_
  rintro e w2 ⟨rfl, rfl⟩
  rw [hat]
  go_wp2_with fail
  refine (rInt_any I.at_ a).mono ?_
  rintro e w2 ⟨rfl, b2⟩
  rw [eA]
  clear e0 e1 e2 e3 e4 e5 e6 e7 v0 v1 v2 v3
  replace I := I.later b2
  obtain ⟨e0, e1, e2, e3, e4, e5, e6, e7, v0, v1, v2, v3⟩ := I.cs
  go_wp2_with fail
  refine (rInt_any I.at_ b).mono ?_
  rintro e w3 ⟨rfl, b3⟩
  rw [eB]
  clear e0 e1 e2 e3 e4 e5 e6 e7 v0 v1 v2 v3
  replace I := I.later b3
  obtain ⟨e0, e1, e2, e3, e4, e5, e6, e7, v0, v1, v2, v3⟩ := I.cs
  go_wp2_with fail
  refine (rCell_any I.at_ ok a b).mono ?_
  rintro e' w4 ⟨rfl, b4⟩
  rw [eC]
  clear e0 e1 e2 e3 e4 e5 e6 e7 v0 v1 v2 v3
  replace I := I.later b4
  obtain ⟨e0, e1, e2, e3, e4, e5, e6, e7, v0, v1, v2, v3⟩ := I.cs
  go_wp2
  go_ret
  exact ⟨by rw [hz.out]; try rfl, I.bA⟩
set_option maxRecDepth 100000 in
set_option maxHeartbeats 3200000 in
theorem rinst_33_2 {W : World} {c : Cd} {x : Sl} (hx : CdAt W c x) (ok : c.ok) (_hst : c.st.length ≤ 8) (_hnm : c.nm.length ≤ 32) (w p a b k : Int) (n : Nat) (t : Int) (hpl : PlainR ⟨33, w, p, a, b, k, n, t⟩) (hat : plcB t = true) (_hn : n < 18446744073709551616) (a1 : 0 < wOf c b) (a2 : 0 < cellR c a b) : InsC W c x ⟨33, w, p, a, b, k, n, t⟩ (B (RW c ⟨33, w, p, a, b, k, n, t⟩)) := by
  unfold InsC
  have hR := rw_33 c w p a b k n t
  generalize RW c ⟨33, w, p, a, b, k, n, t⟩ = E at hR ⊢
  obtain ⟨A, eA, iA, jA⟩ := wv ok a
  obtain ⟨Bw, eB, iB, jB⟩ := wv ok b
  obtain ⟨C, eC⟩ : ∃ C, cellR c a b = C := ⟨_, rfl⟩
  try simp only [eB, eC] at hR
  replace hR := Lib.hid hR
  obtain ⟨X, hX, I⟩ := IS.new hx ⟨33, w, p, a, b, k, n, t⟩
  obtain ⟨e0, e1, e2, e3, e4, e5, e6, e7, v0, v1, v2, v3⟩ := I.cs
  try simp only [eB, eC] at a1 a2
  have ta1 : decide (0 < Bw) = true := by simpa using a1
  have ta2 : decide (0 < C) = true := by simpa using a2
  have hz : Hid (B E = (w == C)) := Lib.hid (by symm; apply B_eq; rw [hR.out]; simp only [beq_iff_eq] <;> omega)
  clear hR a1 a2
  go_enter Tryz.func38, Tryz.ntmps38
  go_upto_region 1 with fail
  simp only [hX.out]
  go_wp2_with fail
  refine (rplain_any ⟨33, w, p, a, b, k, n, t⟩).mono ?_
  rintro e w1 ⟨rfl, b1⟩
  rw [B_of hpl]
  clear e0 e1 e2 e3 e4 e5 e6 e7 v0 v1 v2 v3
  replace I := I.later b1
  obtain ⟨e0, e1, e2, e3, e4, e5, e6, e7, v0, v1, v2, v3⟩ := I.cs
  go_wp2_with fail
  refine (rplace_any _ _).mono ?_
  rintro e w2 ⟨rfl, rfl⟩
  rw [hat]
  go_wp2_with fail
  refine (rInt_any I.at_ a).mono ?_
  rintro e w2 ⟨rfl, b2⟩
  rw [eA]
  clear e0 e1 e2 e3 e4 e5 e6 e7 v0 v1 v2 v3
  replace I := I.later b2
  obtain ⟨e0, e1, e2, e3, e4, e5, e6, e7, v0, v1, v2, v3⟩ := I.cs
  go_wp2_with fail
  refine (rInt_any I.at_ b).mono ?_
  rintro e w3 ⟨rfl, b3⟩
  rw [eB]
  clear e0 e1 e2 e3 e4 e5 e6 e7 v0 v1 v2 v3
  replace I := I.later b3
  obtain ⟨e0, e1, e2, e3, e4, e5, e6, e7, v0, v1, v2, v3⟩ := I.cs
  go_wp2_with fail
  refine (rCell_any I.at_ ok a b).mono ?_
  rintro e' w4 ⟨rfl, b4⟩
  rw [eC]
  clear e0 e1 e2 e3 e4 e5 e6 e7 v0 v1 v2 v3
  replace I := I.later b4
  obtain ⟨e0, e1, e2, e3, e4, e5, e6, e7, v0, v1, v2, v3⟩ := I.cs
  go_wp2
  go_ret
  exact ⟨by rw [hz.out]; try rfl, I.bA⟩
theorem rinst_33 {W : World} {c : Cd} {x : Sl} (hx : CdAt W c x) (ok : c.ok) (hst : c.st.length ≤ 8) (hnm : c.nm.length ≤ 32) (w p a b k : Int) (n : Nat) (t : Int) (hpl : PlainR ⟨33, w, p, a, b, k, n, t⟩) (hat : plcB t = true) (hn : n < 18446744073709551616) : InsC W c x ⟨33, w, p, a, b, k, n, t⟩ (B (RW c ⟨33, w, p, a, b, k, n, t⟩)) := by
  refine (Classical.em (0 < wOf c b)).elim (fun a1 => ?_) (fun a1 => rinst_33_0 hx ok hst hnm w p a b k n t hpl hat hn  a1)
  refine (Classical.em (0 < cellR c a b)).elim (fun a2 => ?_) (fun a2 => rinst_33_1 hx ok hst hnm w p a b k n t hpl hat hn a1 a2)
  exact rinst_33_2 hx ok hst hnm w p a b k n t hpl hat hn a1 a2
theorem rw_34 (c : Cd) (w p a b k : Int) (n : Nat) (t : Int) : RW c ⟨34, w, p, a, b, k, n, t⟩ ↔ (0 < wOf c b ∧ 0 < cellR c a b ∧ wOf c k = cellR c a b) := by
  unfold RW
  dsimp only
  repeat' (first | rw [if_pos (by omega)] | rw [if_neg (by omega)])
  try (unfold RI; dsimp only; repeat' (first | rw [if_pos (by omega)] | rw [if_neg (by omega)]))
set_option maxRecDepth 100000 in
set_option maxHeartbeats 3200000 in
theorem rinst_34_0 {W : World} {c : Cd} {x : Sl} (hx : CdAt W c x) (ok : c.ok) (_hst : c.st.length ≤ 8) (_hnm : c.nm.length ≤ 32) (w p a b k : Int) (n : Nat) (t : Int) (hpl : PlainR ⟨34, w, p, a, b, k, n, t⟩) (hat : plcB t = true) (_hn : n < 18446744073709551616) (a1 : ¬ (0 < wOf c b)) : InsC W c x ⟨34, w, p, a, b, k, n, t⟩ (B (RW c ⟨34, w, p, a, b, k, n, t⟩)) := by
  unfold InsC
  have hR := rw_34 c w p a b k n t
  generalize RW c ⟨34, w, p, a, b, k, n, t⟩ = E at hR ⊢
  obtain ⟨A, eA, iA, jA⟩ := wv ok a
  obtain ⟨Bw, eB, iB, jB⟩ := wv ok b
  obtain ⟨C, eC⟩ : ∃ C, cellR c a b = C := ⟨_, rfl⟩
  try simp only [eB, eC] at hR
  replace hR := Lib.hid hR
  obtain ⟨X, hX, I⟩ := IS.new hx ⟨34, w, p, a, b, k, n, t⟩
  obtain ⟨e0, e1, e2, e3, e4, e5, e6, e7, v0, v1, v2, v3⟩ := I.cs
  try simp only [eB] at a1
  have ta1 : decide (0 < Bw) = false := by simpa using a1
  have hz : Hid (B E = false) := Lib.hid (B_not (fun h => by have h2 := hR.out.1 h; omega))
  clear hR a1
  go_enter Tryz.func38, Tryz.ntmps38
  go_upto_region 1 with fail
  simp only [hX.out]
  go_wp2_with fail
  refine (rplain_any ⟨34, w, p, a, b, k, n, t⟩).mono ?_
  rintro e w1 ⟨rfl, b1⟩
  rw [B_of hpl]
  clear e0 e1 e2 e3 e4 e5 e6 e7 v0 v1 v2 v3
  replace I := I.later b1
  obtain ⟨e0, e1, e2, e3, e4, e5, e6, e7, v0, v1, v2, v3⟩ := I.cs
  go_wp2_with fail
  refine (rplace_any _ _).mono ?_
  rintro e w2 ⟨rfl, rfl⟩
  rw [hat]
  go_wp2_with fail
  refine (rInt_any I.at_ a).mono ?_
  rintro e w2 ⟨rfl, b2⟩
  rw [eA]
  clear e0 e1 e2 e3 e4 e5 e6 e7 v0 v1 v2 v3
  replace I := I.later b2
  obtain ⟨e0, e1, e2, e3, e4, e5, e6, e7, v0, v1, v2, v3⟩ := I.cs
  go_wp2_with fail
  refine (rInt_any I.at_ b).mono ?_
  rintro e w3 ⟨rfl, b3⟩
  rw [eB]
  clear e0 e1 e2 e3 e4 e5 e6 e7 v0 v1 v2 v3
  replace I := I.later b3
  obtain ⟨e0, e1, e2, e3, e4, e5, e6, e7, v0, v1, v2, v3⟩ := I.cs
  go_wp2_with fail
  refine (rCell_any I.at_ ok a b).mono ?_
  rintro e' w4 ⟨rfl, b4⟩
  rw [eC]
  clear e0 e1 e2 e3 e4 e5 e6 e7 v0 v1 v2 v3
  replace I := I.later b4
  obtain ⟨e0, e1, e2, e3, e4, e5, e6, e7, v0, v1, v2, v3⟩ := I.cs
  go_wp2
  go_ret
  exact ⟨by rw [hz.out]; try rfl, I.bA⟩
set_option maxRecDepth 100000 in
set_option maxHeartbeats 3200000 in
theorem rinst_34_1 {W : World} {c : Cd} {x : Sl} (hx : CdAt W c x) (ok : c.ok) (_hst : c.st.length ≤ 8) (_hnm : c.nm.length ≤ 32) (w p a b k : Int) (n : Nat) (t : Int) (hpl : PlainR ⟨34, w, p, a, b, k, n, t⟩) (hat : plcB t = true) (_hn : n < 18446744073709551616) (a1 : 0 < wOf c b) (a2 : ¬ (0 < cellR c a b)) : InsC W c x ⟨34, w, p, a, b, k, n, t⟩ (B (RW c ⟨34, w, p, a, b, k, n, t⟩)) := by
  unfold InsC
  have hR := rw_34 c w p a b k n t
  generalize RW c ⟨34, w, p, a, b, k, n, t⟩ = E at hR ⊢
  obtain ⟨A, eA, iA, jA⟩ := wv ok a
  obtain ⟨Bw, eB, iB, jB⟩ := wv ok b
  obtain ⟨C, eC⟩ : ∃ C, cellR c a b = C := ⟨_, rfl⟩
  try simp only [eB, eC] at hR
  replace hR := Lib.hid hR
  obtain ⟨X, hX, I⟩ := IS.new hx ⟨34, w, p, a, b, k, n, t⟩
  obtain ⟨e0, e1, e2, e3, e4, e5, e6, e7, v0, v1, v2, v3⟩ := I.cs
  try simp only [eB, eC] at a1 a2
  have ta1 : decide (0 < Bw) = true := by simpa using a1
  have ta2 : decide (0 < C) = false := by simpa using a2
  have hz : Hid (B E = false) := Lib.hid (B_not (fun h => by have h2 := hR.out.1 h; omega))
  clear hR a1 a2
  go_enter Tryz.func38, Tryz.ntmps38
  go_upto_region 1 with fail
  simp only [hX.out]
  go_wp2_with fail
  refine (rplain_any ⟨34, w, p, a, b, k, n, t⟩).mono ?_
  rintro e w1 ⟨rfl, b1⟩
  rw [B_of hpl]
  clear e0 e1 e2 e3 e4 e5 e6 e7 v0 v1 v2 v3
  replace I := I.later b1
  obtain ⟨e0, e1, e2, e3, e4, e5, e6, e7, v0, v1, v2, v3⟩ := I.cs
  go_wp2_with fail
  refine (rplace_any _ _).mono ?_
  rintro e w2 ⟨rfl, rfl⟩
  rw [hat]
  go_wp2_with fail
  refine (rInt_any I.at_ a).mono ?_
  rintro e w2 ⟨rfl, b2⟩
  rw [eA]
  clear e0 e1 e2 e3 e4 e5 e6 e7 v0 v1 v2 v3
  replace I := I.later b2
  obtain ⟨e0, e1, e2, e3, e4, e5, e6, e7, v0, v1, v2, v3⟩ := I.cs
  go_wp2_with fail
  refine (rInt_any I.at_ b).mono ?_
  rintro e w3 ⟨rfl, b3⟩
  rw [eB]
  clear e0 e1 e2 e3 e4 e5 e6 e7 v0 v1 v2 v3
  replace I := I.later b3
  obtain ⟨e0, e1, e2, e3, e4, e5, e6, e7, v0, v1, v2, v3⟩ := I.cs
  go_wp2_with fail
  refine (rCell_any I.at_ ok a b).mono ?_
  rintro e' w4 ⟨rfl, b4⟩
  rw [eC]
  clear e0 e1 e2 e3 e4 e5 e6 e7 v0 v1 v2 v3
  replace I := I.later b4
  obtain ⟨e0, e1, e2, e3, e4, e5, e6, e7, v0, v1, v2, v3⟩ := I.cs
  go_wp2
  go_ret
  exact ⟨by rw [hz.out]; try rfl, I.bA⟩
set_option maxRecDepth 100000 in
set_option maxHeartbeats 3200000 in
theorem rinst_34_2 {W : World} {c : Cd} {x : Sl} (hx : CdAt W c x) (ok : c.ok) (_hst : c.st.length ≤ 8) (_hnm : c.nm.length ≤ 32) (w p a b k : Int) (n : Nat) (t : Int) (hpl : PlainR ⟨34, w, p, a, b, k, n, t⟩) (hat : plcB t = true) (_hn : n < 18446744073709551616) (a1 : 0 < wOf c b) (a2 : 0 < cellR c a b) : InsC W c x ⟨34, w, p, a, b, k, n, t⟩ (B (RW c ⟨34, w, p, a, b, k, n, t⟩)) := by
  unfold InsC
  have hR := rw_34 c w p a b k n t
  generalize RW c ⟨34, w, p, a, b, k, n, t⟩ = E at hR ⊢
  obtain ⟨A, eA, iA, jA⟩ := wv ok a
  obtain ⟨Bw, eB, iB, jB⟩ := wv ok b
  obtain ⟨C, eC⟩ : ∃ C, cellR c a b = C := ⟨_, rfl⟩
  try simp only [eB, eC] at hR
  replace hR := Lib.hid hR
  obtain ⟨X, hX, I⟩ := IS.new hx ⟨34, w, p, a, b, k, n, t⟩
  obtain ⟨e0, e1, e2, e3, e4, e5, e6, e7, v0, v1, v2, v3⟩ := I.cs
  try simp only [eB, eC] at a1 a2
  have ta1 : decide (0 < Bw) = true := by simpa using a1
  have ta2 : decide (0 < C) = true := by simpa using a2
  have hz : Hid (B E = (wOf c k == C)) := Lib.hid (by symm; apply B_eq; rw [hR.out]; simp only [beq_iff_eq] <;> omega)
  clear hR a1 a2
  go_enter Tryz.func38, Tryz.ntmps38
  go_upto_region 1 with fail
  simp only [hX.out]
  go_wp2_with fail
  refine (rplain_any ⟨34, w, p, a, b, k, n, t⟩).mono ?_
  rintro e w1 ⟨rfl, b1⟩
  rw [B_of hpl]
  clear e0 e1 e2 e3 e4 e5 e6 e7 v0 v1 v2 v3
  replace I := I.later b1
  obtain ⟨e0, e1, e2, e3, e4, e5, e6, e7, v0, v1, v2, v3⟩ := I.cs
  go_wp2_with fail
  refine (rplace_any _ _).mono ?_
  rintro e w2 ⟨rfl, rfl⟩
  rw [hat]
  go_wp2_with fail
  refine (rInt_any I.at_ a).mono ?_
  rintro e w2 ⟨rfl, b2⟩
  rw [eA]
  clear e0 e1 e2 e3 e4 e5 e6 e7 v0 v1 v2 v3
  replace I := I.later b2
  obtain ⟨e0, e1, e2, e3, e4, e5, e6, e7, v0, v1, v2, v3⟩ := I.cs
  go_wp2_with fail
  refine (rInt_any I.at_ b).mono ?_
  rintro e w3 ⟨rfl, b3⟩
  rw [eB]
  clear e0 e1 e2 e3 e4 e5 e6 e7 v0 v1 v2 v3
  replace I := I.later b3
  obtain ⟨e0, e1, e2, e3, e4, e5, e6, e7, v0, v1, v2, v3⟩ := I.cs
  go_wp2_with fail
  refine (rCell_any I.at_ ok a b).mono ?_
  rintro e' w4 ⟨rfl, b4⟩
  rw [eC]
  clear e0 e1 e2 e3 e4 e5 e6 e7 v0 v1 v2 v3
  replace I := I.later b4
  obtain ⟨e0, e1, e2, e3, e4, e5, e6, e7, v0, v1, v2, v3⟩ := I.cs
  go_wp2_with fail
  refine (rInt_any I.at_ k).mono ?_
  rintro e' w5 ⟨rfl, b5⟩
  clear e0 e1 e2 e3 e4 e5 e6 e7 v0 v1 v2 v3
  replace I := I.later b5
  obtain ⟨e0, e1, e2, e3, e4, e5, e6, e7, v0, v1, v2, v3⟩ := I.cs
  go_wp2
  go_ret
  exact ⟨by rw [hz.out]; try rfl, I.bA⟩
theorem rinst_34 {W : World} {c : Cd} {x : Sl} (hx : CdAt W c x) (ok : c.ok) (hst : c.st.length ≤ 8) (hnm : c.nm.length ≤ 32) (w p a b k : Int) (n : Nat) (t : Int) (hpl : PlainR ⟨34, w, p, a, b, k, n, t⟩) (hat : plcB t = true) (hn : n < 18446744073709551616) : InsC W c x ⟨34, w, p, a, b, k, n, t⟩ (B (RW c ⟨34, w, p, a, b, k, n, t⟩)) := by
  refine (Classical.em (0 < wOf c b)).elim (fun a1 => ?_) (fun a1 => rinst_34_0 hx ok hst hnm w p a b k n t hpl hat hn  a1)
  refine (Classical.em (0 < cellR c a b)).elim (fun a2 => ?_) (fun a2 => rinst_34_1 hx ok hst hnm w p a b k n t hpl hat hn a1 a2)
  exact rinst_34_2 hx ok hst hnm w p a b k n t hpl hat hn a1 a2
end Go.Proofs.YtnbgadndkepomaaGreatDoor
