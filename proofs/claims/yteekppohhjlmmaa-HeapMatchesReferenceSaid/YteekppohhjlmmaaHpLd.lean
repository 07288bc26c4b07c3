/- heap: Load, Put and Free. -/
import Derived.Test.YteekppohhjlmmaaHpWc
namespace Go.Proofs.Yteekppohhjlmmaa
open Go.RowKit

theorem OTab.slot {w : World} {B g cap : Nat} {V : Nat → Value} {l : List Ob} (h : OTab w B (.slice (some ⟨g, 0, none⟩) l.length cap) V l) {t : Nat} (ht : t < l.length) : w.cell? ⟨g, t * 2, none⟩ = some (V t) ∧ w.cell? ⟨g, t * 2 + 1, none⟩ = some (.bool (obAt l t).g) := by
  have h0 := World.ownsRow.cellAt h.row (t * 2) (by omega)
  have h1 := World.ownsRow.cellAt h.row (t * 2 + 1) (by omega)
  unfold oflat at h0 h1
  rw [tab_get _ (by omega), obv0] at h0
  rw [tab_get _ (by omega), obv1] at h1
  exact ⟨h0, h1⟩
theorem OTab.cell {w : World} {B : Nat} {v : Value} {V : Nat → Value} {l : List Ob} (h : OTab w B v V l) {t k : Nat} (ht : t < l.length) (hk : k < (obAt l t).c.length) :
    ∃ gc cc, V t = .slice (some ⟨gc, 0, none⟩) (obAt l t).c.length cc ∧ B ≤ gc ∧ CeAt w gc (0 + k * 3) (ceAt (obAt l t).c k) ∧ (∀ j, w.frozen? ⟨gc, j, none⟩ = false) ∧ ∀ b cs, Box w b 62 cs → b ≠ gc := by
  have h0 := h.own t ht
  obtain ⟨gc, cc, e, q1, q2⟩ := World.ownsRow.form h0 (by omega)
  unfold COwn at h0
  have hne := fun b cs (hX : Box w b 62 cs) => own_box h0 hX (by decide)
  rw [e] at h0 hne
  obtain ⟨A, c, e2, hs⟩ := COwn.sl (l := (obAt l t).c) h0
  simp at e2
  obtain ⟨rfl, rfl⟩ := e2
  obtain ⟨g', o', e3, hc⟩ := hs.at_ hk
  simp at e3
  obtain ⟨rfl, rfl⟩ := e3
  refine ⟨gc, cc, e, q1, hc, fun j => World.ownsRow.frozenAt h0 j, fun b cs hX e => ?_⟩
  rcases hne b cs hX with hn | hn
  · simp [Value.ownBlock] at hn
  · exact hn (by simp [Value.ownBlock, e])
theorem KeepM.below {w w' : World} (h : Below w.heap.size w w') : KeepM w w' := fun _ _ hX => hX.below h
theorem KeepM.set {w : World} {g i : Nat} {v : Value} (h : ∀ b cs, Box w b 62 cs → b ≠ g) : KeepM w (w.setCell ⟨g, i, none⟩ v) := fun b cs hX => hX.far (h b cs hX) v
theorem KeepM.trans {a b c : World} (h : KeepM a b) (k : KeepM b c) : KeepM a c := fun p cs hX => k p cs (h p cs hX)
theorem KeepM.set2 {w : World} {g i j : Nat} {u v : Value} (h : ∀ b cs, Box w b 62 cs → b ≠ g) (_k : ∀ b, b ≠ g → ∀ cs, Box (w.setCell ⟨g, i, none⟩ u) b 62 cs → True) : KeepM w ((w.setCell ⟨g, i, none⟩ u).setCell ⟨g, j, none⟩ v) := fun b cs hX => (hX.far (h b cs hX) u).far (h b cs hX) v
theorem But.may {p : Nat} {W w w' : World} (h : But p W w) (hb : MayM W.heap.size w w') : But p W w' :=
  ⟨hb.os.trans h.os, hb.tape.trans h.tape, hb.output.trans h.output, Nat.le_trans h.size hb.size, fun k hk hn => (hb.block k (by have := h.size; omega) (Or.inl hk)).trans (h.block k hk hn)⟩

/-! ### Load -/
/-- What withCell answers to Load. -/
def LoadMid (l : List Ob) (obj k : Int) (r : Nat) (w : World) (e : Ending) (w' : World) : Prop := ∃ A n c, e = .returned (.agg #[.int .i64 (loadR l obj k).2.2, .int .i64 (loadR l obj k).2.1, .slice A n c]) ∧ Box w' r 32 #[.int .i64 (loadR l obj k).1.1, .int .u64 (loadR l obj k).1.2] ∧ But r w w'
theorem load_mid {l : List Ob} {obj : Int} {k r : Nat} {A : Option Addr} {c : Nat} {w : World} (hs : ObSl w A c l) (hr : Box w r 32 #[.int .i64 0, .int .u64 0]) :
    Calls Try.prog 35 #[.slice A l.length c, .int .i64 obj, .int .u64 (k : Nat), .func (.func 36) #[] #[.pointer (some ⟨r, 0, none⟩)]] w (LoadMid l obj k r w) := by
  cases hh : hasO l obj with
  | false =>
    have hR : loadR l obj k = ((0, 0), 0, 1) := by unfold loadR; rw [if_pos hh]
    refine (withCell_no_load l obj k r A c w 1 0 (find_no hs hh)).mono ?_
    rintro e w1 ⟨rfl, b1⟩
    unfold LoadMid
    rw [hR]
    exact ⟨_, _, _, rfl, hr.below b1, But.of b1⟩
  | true =>
    obtain ⟨t, rfl⟩ : ∃ t : Nat, obj = t := ⟨obj.toNat, by have := (hasO_iff.1 hh).2; omega⟩
    have ht : t < l.length := by have := (hasO_iff.1 hh).2; omega
    have hv := (hasO_iff.1 hh).1
    have hlen : (obAt l t).c.length ≤ 100 := Nat.le_trans (obV_len (obsV_mem hv _ (obAt_mem ht))) (by decide)
    cases hg : (obAt l t).g with
    | true =>
      have hR := gone_load (l := l) (obj := (t : Int)) hh (by simpa using hg) k
      refine (withCell_no_load l t k r A c w 0 3 (find_no2 hs hh hg)).mono ?_
      rintro e w1 ⟨rfl, b1⟩
      unfold LoadMid
      rw [hR]
      exact ⟨_, _, _, rfl, hr.below b1, But.of b1⟩
    | false =>
      have hF := find_yes hs hh hg
      by_cases hk : k < (obAt l t).c.length
      · have hR : loadR l (t : Int) (k : Int) = if (ceAt (obAt l t).c k).s = true then (((ceAt (obAt l t).c k).w, (ceAt (obAt l t).c k).v), 0, 0) else ((0, 0), 4, 0) := by
          unfold loadR
          rw [if_neg (by rw [hh]; decide)]
          simp only [Int.toNat_natCast, hg]
          rw [if_neg (by decide), if_neg (by omega)]
        cases hset : (ceAt (obAt l t).c k).s with
        | true =>
          rw [if_pos hset] at hR
          refine (withCell_load l t k r A c w (fun f _ _ w2 => f = 0 ∧ But r w w2 ∧ Box w2 r 32 #[.int .i64 (ceAt (obAt l t).c k).w, .int .u64 (ceAt (obAt l t).c k).v]) hF ?_).mono ?_
          · intro w1 g cap V p q h1 hT hp hq
            obtain ⟨gc, cc, eV, _, hC, hfz, hne⟩ := hT.cell ht hk
            have hsl := (hT.slot ht).1
            rw [eV] at hsl
            have hr1 := hr.below h1
            refine cell_load g (t * 2) (obAt l t).c.length cc k p q gc 0 r w1 _ hsl hp hq hlen hk ?_
            intro w2 hD
            have h2 := Drew.below hD
            refine (load_act_set gc (0 + k * 3) r _ w2 (hC.later h2) hset (hr1.below h2)).mono ?_
            rintro e w4 ⟨rfl, w3, b3, rfl⟩
            have hr3 := (hr1.below h2).below b3
            have hb3 : Below w.heap.size w w3 := (h1.trans (h2.mono h1.size)).trans (b3.mono (Nat.le_trans h1.size h2.size))
            refine ⟨0, rfl, ⟨rfl, ((But.of hb3).trans (But.set _)).trans (But.set _), ?_⟩, ?_⟩
            · exact (hr3.set 0 _).set 1 _
            · refine KeepM.trans (KeepM.below (h2.trans (b3.mono h2.size))) (KeepM.set2 (fun b cs hX e => ?_) (fun _ _ _ _ => trivial))
              subst e
              unfold Box at hX hr3
              rw [hr3] at hX
              simp at hX
          · rintro e w' ⟨f, g, cap, w2, rfl, ⟨rfl, hb, hX⟩, hM⟩
            unfold LoadMid
            rw [hR, MemV_zero]
            exact ⟨_, _, _, rfl, hX.may hM (by decide), hb.may hM⟩
        | false =>
          rw [if_neg (by rw [hset]; decide)] at hR
          refine (withCell_load l t k r A c w (fun f _ _ w2 => f = 4 ∧ Below w.heap.size w w2) hF ?_).mono ?_
          · intro w1 g cap V p q h1 hT hp hq
            obtain ⟨gc, cc, eV, _, hC, hfz, hne⟩ := hT.cell ht hk
            have hsl := (hT.slot ht).1
            rw [eV] at hsl
            refine cell_load g (t * 2) (obAt l t).c.length cc k p q gc 0 r w1 _ hsl hp hq hlen hk ?_
            intro w2 hD
            have h2 := Drew.below hD
            refine (load_act_raw gc (0 + k * 3) r _ w2 (hC.later h2) hset).mono ?_
            rintro e w4 ⟨rfl, rfl⟩
            exact ⟨4, rfl, ⟨rfl, h1.trans (h2.mono h1.size)⟩, KeepM.below h2⟩
          · rintro e w' ⟨f, g, cap, w2, rfl, ⟨rfl, hb⟩, hM⟩
            unfold LoadMid
            rw [hR, MemV_fault (by decide)]
            have hb' := Below.may hb hM (Nat.le_refl _)
            exact ⟨_, _, _, rfl, hr.below hb', But.of hb'⟩
      · have hR := out_load (l := l) (obj := (t : Int)) (k := (k : Int)) hh (by simpa using hg) (by simp; omega)
        refine (withCell_load l t k r A c w (fun f _ _ w2 => f = 2 ∧ Below w.heap.size w w2) hF ?_).mono ?_
        · intro w1 g cap V p q h1 hT hp hq
          obtain ⟨A2, c2, eV, _⟩ := (hT.own t ht).sl
          have hsl := (hT.slot ht).1
          rw [eV] at hsl
          refine (cell_out g (t * 2) (obAt l t).c.length c2 k p q A2 w1 _ hsl hp hq hlen (by omega)).mono ?_
          rintro e w2 ⟨rfl, b2⟩
          exact ⟨2, rfl, ⟨rfl, h1.trans (b2.mono h1.size)⟩, KeepM.below b2⟩
        · rintro e w' ⟨f, g, cap, w2, rfl, ⟨rfl, hb⟩, hM⟩
          unfold LoadMid
          rw [hR, MemV_fault (by decide)]
          have hb' := Below.may hb hM (Nat.le_refl _)
          exact ⟨_, _, _, rfl, hr.below hb', But.of hb'⟩
set_option maxRecDepth 100000 in
set_option maxHeartbeats 1600000 in
theorem Load_any (l : List Ob) (obj : Int) (k : Nat) (w : World) (A : Option Addr) (c : Nat) (hs : ObSl w A c l) :
    Calls Try.prog 17 #[.slice A l.length c, .int .i64 obj, .int .u64 (k : Nat)] w fun e w' => e = .returned (.tuple #[.agg #[.int .i64 (loadR l obj k).1.1, .int .u64 (loadR l obj k).1.2], .int .i64 (loadR l obj k).2.1, .int .i64 (loadR l obj k).2.2]) ∧ Below w.heap.size w w' := by
  have bA : Below w.heap.size w ((w.alloc (.cells #[.int .i64 0, .int .u64 0] 32)).alloc (.cells #[.int .i64 0, .int .u64 0] 32)) := ((Below.refl _ _).alloc (Nat.le_refl _) _).alloc (by simp) _
  have N := Box.newAt (X := w.alloc (.cells #[.int .i64 0, .int .u64 0] 32)) (n := w.heap.size + 1) (by simp) 32 #[.int .i64 0, .int .u64 0]
  have N0 := (Box.new w 32 #[.int .i64 0, .int .u64 0]).alloc (.cells #[.int .i64 0, .int .u64 0] 32)
  have hC := load_mid (obj := obj) (k := k) (hs.later bA) N
  unfold LoadMid at hC
  generalize loadR l obj (k : Int) = R at hC ⊢
  obtain ⟨⟨a, b⟩, f, e0⟩ := R
  simp only at hC ⊢
  clear hs
  go_enter Try.func17, Try.ntmps17
  go_wp2_with fail
  refine hC.mono ?_
  rintro e w1 ⟨A', n', c', rfl, hX, hB⟩
  have N1 : Box w1 w.heap.size 32 #[.int .i64 0, .int .u64 0] := (hB.block _ N0.lt (by omega)).trans N0
  have bW : Below w.heap.size w w1 := ⟨hB.os.trans bA.os, hB.tape.trans bA.tape, hB.output.trans bA.output, Nat.le_trans bA.size hB.size, fun k hk => (hB.block k (by have := bA.size; omega) (by omega)).trans (bA.block k hk)⟩
  clear hC N N0 bA hB
  have bM : Below w1.heap.size w1 (w1.alloc (.cells #[.int .i64 e0, .int .i64 f, .slice A' n' c'] 62)) := (Below.refl _ _).alloc (Nat.le_refl _) _
  have N2 := Box.new w1 62 #[.int .i64 e0, .int .i64 f, .slice A' n' c']
  have N3 := N1.below bM
  have X3 := hX.below bM
  have bW3 := bW.trans (bM.mono bW.size)
  go_upto_region 3 with fail
  obtain ⟨w3, hw3⟩ : ∃ Y, w1.alloc (.cells #[.int .i64 e0, .int .i64 f, .slice A' n' c'] 62) = Y := ⟨_, rfl⟩
  rw [hw3] at N2 N3 X3 bW3
  simp only [hw3]
  obtain ⟨B3, hB3⟩ : ∃ b, Hid (w1.heap.size = b) := ⟨_, Lib.hid rfl⟩
  have hlt3 : w.heap.size < w1.heap.size := N1.lt
  rw [hB3.out] at N2 hlt3
  have hne3 : ¬ w.heap.size = B3 := by omega
  have hne4 : ¬ B3 = w.heap.size := by omega
  simp only [hB3.out]
  clear hw3 bM N1 hX bW
  have f0 := N3.free 0
  have f1 := N3.free 1
  have c0 := N3.cell 0
  have c1 := N3.cell 1
  have d0 := X3.cell 0
  have d1 := X3.cell 1
  have g0 := N2.cell 0
  have g1 := N2.cell 1
  go_region
  all_goals
    go_wp2
    refine bodyPost_ret (v := .tuple #[.agg #[.int .i64 a, .int .u64 b], .int .i64 f, .int .i64 e0]) (by simp [results, Try.results17, go_sem, c0, c1]) rfl ⟨rfl, ?_⟩
    exact ((below_drewN bW3 _).setCell (Nat.le_refl _) _).setCell (Nat.le_refl _) _
end Go.Proofs.Yteekppohhjlmmaa
