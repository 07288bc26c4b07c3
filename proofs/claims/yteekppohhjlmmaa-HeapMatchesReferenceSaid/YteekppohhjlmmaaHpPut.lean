/- heap: Put and Free. -/
import Derived.Test.YteekppohhjlmmaaHpLd
namespace Go.Proofs.Yteekppohhjlmmaa
open Go.RowKit

/-- Objects in a memory; objects, a fault and an error that are answered. -/
def ObMid (R : List Ob × Int × Int) (w : World) (e : Ending) (w' : World) : Prop := ∃ A c, e = .returned (.agg #[.int .i64 R.2.2, .int .i64 R.2.1, .slice A R.1.length c]) ∧ ObSl w' A c R.1 ∧ Below w.heap.size w w'
def ObAns (R : List Ob × Int × Int) (w : World) (e : Ending) (w' : World) : Prop := ∃ A c, e = .returned (.tuple #[.slice A R.1.length c, .int .i64 R.2.1, .int .i64 R.2.2]) ∧ ObSl w' A c R.1 ∧ Below w.heap.size w w'
theorem ObMid.no {w w' : World} (f e0 : Int) (h : Below w.heap.size w w') : ObMid ([], f, e0) w (.returned (.agg #[.int .i64 e0, .int .i64 f, .slice none 0 0])) w' := ⟨none, 0, rfl, ObSl.nil _, h⟩
theorem ObMid.tab {w w' : World} {B g n cap : Nat} {V : Nat → Value} {l : List Ob} (h : OTab w' B (.slice (some ⟨g, 0, none⟩) n cap) V l) (hn : n = l.length) (hb : Below w.heap.size w w') : ObMid (l, 0, 0) w (.returned (MemV 0 g n cap)) w' := by
  obtain ⟨A, c, e, hs⟩ := h.sl
  simp at e
  obtain ⟨rfl, rfl, rfl⟩ := e
  rw [MemV_zero]
  exact ⟨_, _, rfl, hs, hb⟩
theorem put_mid {l : List Ob} {obj : Int} {k r : Nat} {v : Int} {A : Option Addr} {c : Nat} {w : World} (hs : ObSl w A c l) (hr : w.cell? ⟨r, 0, none⟩ = some (.int .u64 v)) (hv0 : U64 v) :
    Calls Try.prog 35 #[.slice A l.length c, .int .i64 obj, .int .u64 (k : Nat), .func (.func 40) #[] #[.pointer (some ⟨r, 0, none⟩)]] w (ObMid (putR l obj k v) w) := by
  cases hh : hasO l obj with
  | false =>
    have hR : putR l obj k v = ([], 0, 1) := by unfold putR; rw [if_pos hh]
    refine (withCell_no_put l obj k r A c w 1 0 (find_no hs hh)).mono ?_
    rintro e w1 ⟨rfl, b1⟩
    rw [hR]
    exact ObMid.no _ _ b1
  | true =>
    obtain ⟨t, rfl⟩ : ∃ t : Nat, obj = t := ⟨obj.toNat, by have := (hasO_iff.1 hh).2; omega⟩
    have ht : t < l.length := by have := (hasO_iff.1 hh).2; omega
    have hv := (hasO_iff.1 hh).1
    have hlen : (obAt l t).c.length ≤ 100 := Nat.le_trans (obV_len (obsV_mem hv _ (obAt_mem ht))) (by decide)
    cases hg : (obAt l t).g with
    | true =>
      have hR := gone_put (l := l) (obj := (t : Int)) hh (by simpa using hg) k v
      refine (withCell_no_put l t k r A c w 0 3 (find_no2 hs hh hg)).mono ?_
      rintro e w1 ⟨rfl, b1⟩
      rw [hR]
      exact ObMid.no _ _ b1
    | false =>
      have hF := find_yes hs hh hg
      by_cases hk : k < (obAt l t).c.length
      · have hR := hit_put (l := l) (obj := (t : Int)) (k := (k : Int)) ⟨hh, by simpa using hg, by simp; omega⟩ v
        simp only [Int.toNat_natCast] at hR
        have hwd := width_of hv ht hk
        refine (withCell_put l t k r A c w (fun f g cap w2 => f = 0 ∧ Below w.heap.size w w2 ∧ ∃ V, OTab w2 w.heap.size (.slice (some ⟨g, 0, none⟩) l.length cap) V (l.set t (putOb (obAt l t) k v))) hF ?_).mono ?_
        · intro w1 g cap V p q h1 hT hp hq
          obtain ⟨gc, cc, eV, q1, hC, hfz, hne⟩ := hT.cell ht hk
          have hsl := (hT.slot ht).1
          rw [eV] at hsl
          have hr1 := cell_later h1 hr
          refine cell_put g (t * 2) (obAt l t).c.length cc k p q gc 0 r w1 _ hsl hp hq hlen hk ?_
          intro w2 hD
          have h2 := Drew.below hD
          have hC2 := hC.later h2
          refine (put_act gc (0 + k * 3) r (ceAt (obAt l t).c k) v w2 hC2 (cell_later h2 hr1) hwd hv0 ((h2.frozen (p := ⟨gc, _, none⟩) (cell_lt hC.2.1)).trans (hfz _)) ((h2.frozen (p := ⟨gc, _, none⟩) (cell_lt hC.2.2)).trans (hfz _))).mono ?_
          rintro e w4 ⟨rfl, w3, b3, rfl⟩
          have hT3 := (hT.later h2).later b3
          have hb3 : Below w.heap.size w w3 := (h1.trans (h2.mono h1.size)).trans (b3.mono (Nat.le_trans h1.size h2.size))
          refine ⟨0, rfl, ⟨rfl, (hb3.setCell q1 _).setCell q1 _, V, ?_⟩, ?_⟩
          · have hP := hT3.put ht eV hk (low (ceAt (obAt l t).c k).w v)
            rw [Nat.zero_add]
            exact hP
          · refine KeepM.trans (KeepM.below (h2.trans (b3.mono h2.size))) (KeepM.set2 (fun b cs hX e => ?_) (fun _ _ _ _ => trivial))
            obtain ⟨gc', cc', eV', _, _, _, hne'⟩ := hT3.cell ht hk
            rw [eV] at eV'
            simp at eV'
            exact hne' b cs hX (e.trans eV'.1)
        · rintro e w' ⟨f, g, cap, w2, rfl, ⟨rfl, hb, V, hT⟩, hM⟩
          rw [hR]
          exact ObMid.tab (hT.may hM) (by rw [List.length_set]) (Below.may hb hM (Nat.le_refl _))
      · have hR := out_put (l := l) (obj := (t : Int)) (k := (k : Int)) hh (by simpa using hg) (by simp; omega) v
        refine (withCell_put l t k r A c w (fun f _ _ w2 => f = 2 ∧ Below w.heap.size w w2) hF ?_).mono ?_
        · intro w1 g cap V p q h1 hT hp hq
          obtain ⟨A2, c2, eV, _⟩ := (hT.own t ht).sl
          have hsl := (hT.slot ht).1
          rw [eV] at hsl
          refine (cell_out g (t * 2) (obAt l t).c.length c2 k p q A2 w1 _ hsl hp hq hlen (by omega)).mono ?_
          rintro e w2 ⟨rfl, b2⟩
          exact ⟨2, rfl, ⟨rfl, h1.trans (b2.mono h1.size)⟩, KeepM.below b2⟩
        · rintro e w' ⟨f, g, cap, w2, rfl, ⟨rfl, hb⟩, hM⟩
          rw [hR, MemV_fault (by decide)]
          exact ObMid.no _ _ (Below.may hb hM (Nat.le_refl _))
theorem free_mid {l : List Ob} {obj : Int} {A : Option Addr} {c : Nat} {w : World} (hs : ObSl w A c l) :
    Calls Try.prog 43 #[.slice A l.length c, .int .i64 obj, .func (.func 44) #[] #[]] w (ObMid (freeR l obj) w) := by
  cases hh : hasO l obj with
  | false =>
    have hR : freeR l obj = ([], 0, 1) := by unfold freeR; rw [if_pos hh]
    refine (withObject_no l obj A c w 1 0 _ (find_no hs hh)).mono ?_
    rintro e w1 ⟨rfl, b1⟩
    rw [hR]
    exact ObMid.no _ _ b1
  | true =>
    obtain ⟨t, rfl⟩ : ∃ t : Nat, obj = t := ⟨obj.toNat, by have := (hasO_iff.1 hh).2; omega⟩
    have ht : t < l.length := by have := (hasO_iff.1 hh).2; omega
    cases hg : (obAt l t).g with
    | true =>
      have hR := gone_free (l := l) (obj := (t : Int)) hh (by simpa using hg)
      refine (withObject_no l t A c w 0 3 _ (find_no2 hs hh hg)).mono ?_
      rintro e w1 ⟨rfl, b1⟩
      rw [hR]
      exact ObMid.no _ _ b1
    | false =>
      have hR := free_has (l := l) (obj := (t : Int)) hh (by simpa using hg)
      simp only [Int.toNat_natCast] at hR
      refine (withObject_free l t A c w (fun f g cap w2 => f = 0 ∧ Below w.heap.size w w2 ∧ ∃ V, OTab w2 w.heap.size (.slice (some ⟨g, 0, none⟩) l.length cap) V (l.set t ⟨(obAt l t).c, true⟩)) (find_yes hs hh hg) ?_).mono ?_
      · intro w1 g cap V h1 hT
        have hlt : w.heap.size ≤ g := (World.ownsRow.lt hT.row g rfl).1
        refine (free_act g (t * 2) _ w1 (hT.slot ht).2 (World.ownsRow.frozenAt hT.row _)).mono ?_
        rintro e w2 ⟨rfl, rfl⟩
        refine ⟨0, rfl, ⟨rfl, h1.setCell hlt _, V, hT.free ht⟩, KeepM.set (fun b cs hX e => ?_)⟩
        subst e
        rcases own_box hT.row hX (by decide) with q | q
        · simp [Value.ownBlock] at q
        · exact q rfl
      · rintro e w' ⟨f, g, cap, w2, b, cs, rfl, ⟨rfl, hb, V, hT⟩, hX, hle, hB⟩
        have hM := MayM.of_but hle hX hB
        rw [hR]
        exact ObMid.tab (hT.may hM) (by rw [List.length_set]) (Below.may hb hM (Nat.le_refl _))
set_option maxRecDepth 100000 in
set_option maxHeartbeats 1600000 in
theorem Put_any (l : List Ob) (obj : Int) (k : Nat) (v : Int) (w : World) (A : Option Addr) (c : Nat) (hs : ObSl w A c l) (hv : U64 v) :
    Calls Try.prog 19 #[.slice A l.length c, .int .i64 obj, .int .u64 (k : Nat), .int .u64 v] w (ObAns (putR l obj k v) w) := by
  have bA : Below w.heap.size w (w.alloc (.cells #[.int .u64 v] 24)) := (Below.refl _ _).alloc (Nat.le_refl _) _
  have hC := put_mid (obj := obj) (k := k) (r := w.heap.size) (hs.later bA) (by simp [go_sem]) hv
  unfold ObMid at hC
  unfold ObAns
  generalize putR l obj k v = R at hC ⊢
  obtain ⟨m, f, e0⟩ := R
  simp only at hC ⊢
  clear hs
  go_enter Try.func19, Try.ntmps19
  go_wp2_with fail
  refine hC.mono ?_
  rintro e w1 ⟨A', c', rfl, hS, hB⟩
  have bW : Below w.heap.size w w1 := bA.trans (hB.mono bA.size)
  clear hC bA hB
  have bM : Below w1.heap.size w1 (w1.alloc (.cells #[.int .i64 e0, .int .i64 f, .slice A' m.length c'] 62)) := (Below.refl _ _).alloc (Nat.le_refl _) _
  have N2 := Box.new w1 62 #[.int .i64 e0, .int .i64 f, .slice A' m.length c']
  have S3 := hS.later bM
  have bW3 := bW.trans (bM.mono bW.size)
  go_upto_region 2 with fail
  obtain ⟨w3, hw3⟩ : ∃ Y, w1.alloc (.cells #[.int .i64 e0, .int .i64 f, .slice A' m.length c'] 62) = Y := ⟨_, rfl⟩
  rw [hw3] at N2 S3 bW3
  simp only [hw3]
  obtain ⟨B3, hB3⟩ : ∃ b, Hid (w1.heap.size = b) := ⟨_, Lib.hid rfl⟩
  rw [hB3.out] at N2
  simp only [hB3.out]
  clear hw3 bM hS bW
  have g0 := N2.cell 0
  have g1 := N2.cell 1
  have g2 := N2.cell 2
  go_quiet (fail)
  go_wp2
  refine bodyPost_ret (v := .tuple #[.slice A' m.length c', .int .i64 f, .int .i64 e0]) (by simp [results, Try.results19, go_sem]) rfl ?_
  exact ⟨A', c', rfl, S3.later (Drew.below ⟨_, rfl⟩), below_drewN bW3 _⟩
set_option maxRecDepth 100000 in
set_option maxHeartbeats 1600000 in
theorem Free_any (l : List Ob) (obj : Int)  (w : World) (A : Option Addr) (c : Nat) (hs : ObSl w A c l)  :
    Calls Try.prog 21 #[.slice A l.length c, .int .i64 obj] w (ObAns (freeR l obj) w) := by
  have bA : Below w.heap.size w w := Below.refl _ _
  have hC := free_mid (obj := obj) hs
  unfold ObMid at hC
  unfold ObAns
  generalize freeR l obj = R at hC ⊢
  obtain ⟨m, f, e0⟩ := R
  simp only at hC ⊢
  clear hs
  go_enter Try.func21, Try.ntmps21
  go_wp2_with fail
  refine hC.mono ?_
  rintro e w1 ⟨A', c', rfl, hS, hB⟩
  have bW : Below w.heap.size w w1 := bA.trans (hB.mono bA.size)
  clear hC bA hB
  have bM : Below w1.heap.size w1 (w1.alloc (.cells #[.int .i64 e0, .int .i64 f, .slice A' m.length c'] 62)) := (Below.refl _ _).alloc (Nat.le_refl _) _
  have N2 := Box.new w1 62 #[.int .i64 e0, .int .i64 f, .slice A' m.length c']
  have S3 := hS.later bM
  have bW3 := bW.trans (bM.mono bW.size)
  go_upto_region 2 with fail
  obtain ⟨w3, hw3⟩ : ∃ Y, w1.alloc (.cells #[.int .i64 e0, .int .i64 f, .slice A' m.length c'] 62) = Y := ⟨_, rfl⟩
  rw [hw3] at N2 S3 bW3
  simp only [hw3]
  obtain ⟨B3, hB3⟩ : ∃ b, Hid (w1.heap.size = b) := ⟨_, Lib.hid rfl⟩
  rw [hB3.out] at N2
  simp only [hB3.out]
  clear hw3 bM hS bW
  have g0 := N2.cell 0
  have g1 := N2.cell 1
  have g2 := N2.cell 2
  go_quiet (fail)
  go_wp2
  refine bodyPost_ret (v := .tuple #[.slice A' m.length c', .int .i64 f, .int .i64 e0]) (by simp [results, Try.results21, go_sem]) rfl ?_
  exact ⟨A', c', rfl, S3.later (Drew.below ⟨_, rfl⟩), below_drewN bW3 _⟩
end Go.Proofs.Yteekppohhjlmmaa
