/- The reference of layer 9: New. -/
import Derived.Test.YteekppohhjlmmaaHpRpt
import Derived.Deep.RegionLaw
namespace Go.Proofs.Yteekppohhjlmmaa
open Go.RowKit

theorem Box.grown {w w' : World} {b : Nat} {T : TypeId} {cs : Array Value} {row : Option Nat} (h : Box w b T cs) (hg : w.grownBy w' row) (hne : row ≠ some b) : Box w' b T cs := by
  unfold Box at *
  rw [hg.block b (Array.getElem?_eq_some_iff.1 h).1 (fun e => hne e.symm)]
  exact h
theorem newOb_snoc (ws : List Int) {i : Nat} (h : i < ws.length) : (newOb (ws.take (i + 1))).c = (newOb (ws.take i)).c ++ [⟨ws[i], false, 0⟩] := by
  simp only [newOb]
  rw [List.take_succ_eq_append_getElem h, List.map_append]; rfl
/-- The state of the reference's loop. -/
def RnR (ws : List Int) (w : World) (bx i : Nat) (wr : World) : Prop := ∃ v, Box wr bx 42 #[v, .bool false] ∧ COwn wr w.heap.size v (newOb (ws.take i)).c ∧ Below w.heap.size w wr ∧ w.heap.size ≤ bx
theorem RnR.step {ws : List Int} {w wA : World} {bx i : Nat} {v v' : Value} (hi : i < ws.length) (hX : Box wA bx 42 #[v, .bool false]) (hO : wA.ownsRow w.heap.size 45 3 v' (i + 1) (flat (newOb (ws.take i)).c ++ [.int .i64 ws[i], .bool false, .int .u64 0])) (hb : Below w.heap.size w wA) (hle : w.heap.size ≤ bx) : RnR ws w bx (i + 1) (wA.setCell ⟨bx, 0, none⟩ v') := by
  have hO2 : COwn wA w.heap.size v' (newOb (ws.take (i + 1))).c := by
    unfold COwn
    rw [newOb_snoc ws hi, flat_snoc, List.length_append]
    have : (newOb (ws.take i)).c.length = i := by simp [newOb]; omega
    rw [this]
    exact hO
  have hS : But bx wA (wA.setCell ⟨bx, 0, none⟩ v') := But.set _
  exact ⟨v', hX.set 0 v', World.ownsRow.kept hO2 hS.grownBy (own_box hO2 hX (by decide)), hb.setCell hle _, hle⟩
theorem rn_fin {l : List Ob} {ws : List Int} {w X wA : World} {V : Nat → Value} {Ac Ax : Option Addr} {cc cx nx g cap B2 : Nat} (hT : OTab X w.heap.size (.slice Ac l.length cc) V l) (hO : COwn X B2 (.slice Ax nx cx) (newOb ws).c) (hB2 : w.heap.size ≤ B2) (hb : Below w.heap.size w X)
    (gr : X.grownBy wA (Value.ownBlock (.slice Ac l.length cc))) (o2 : wA.ownsRow w.heap.size 42 2 (.slice (some ⟨g, 0, none⟩) (l.length + 1) cap) (l.length + 1) (oflat V l ++ [.slice Ax nx cx, .bool false])) :
    NewAns (l ++ [newOb ws], (l.length : Int), 0, 0) w (.returned (.tuple #[.slice (some ⟨g, 0, none⟩) (l.length + 1) cap, .int .i64 l.length, .int .i64 0, .int .i64 0])) wA := by
  obtain ⟨A5, c5, e5, hS⟩ := sl_of (V := fun t => if t = l.length then .slice Ax nx cx else V t) (l := l ++ [newOb ws]) (B := w.heap.size) (B' := w.heap.size) (v := .slice (some ⟨g, 0, none⟩) (l.length + 1) cap) (w := wA) (by rw [oflat_snoc, List.length_append]; exact o2) (fun t ht => by
    by_cases e : t = l.length
    · subst e
      rw [if_pos rfl, obAt_append, if_neg (by omega), Nat.sub_self]
      exact World.ownsRow.kept (own_mono hO hB2) gr (own_ne hO hT.row (by decide))
    · have ht2 : t < l.length := by rw [List.length_append] at ht; simp at ht; omega
      rw [if_neg e, obAt_append, if_pos ht2]
      exact World.ownsRow.kept (hT.own t ht2) gr (own_ne (hT.own t ht2) hT.row (by decide)))
  simp at e5
  obtain ⟨e5a, e5b⟩ := e5
  subst e5a
  subst e5b
  exact ⟨_, _, by simp, hS, hb.grown gr hb.size (fun k hk => (World.ownsRow.lt hT.row k hk).1)⟩
set_option maxRecDepth 100000 in
set_option maxHeartbeats 4800000 in
theorem RNew_any (l : List Ob) (ws : List Int) (w : World) (A Aw : Option Addr) (c cw : Nat) (hs : ObSl w A c l) (ho : oks l) (hr : IRow w Aw ws) (hw : ws.length ≤ 40) :
    Calls Try.prog 13 #[.slice A l.length c, .slice Aw ws.length cw] w (NewAns (newR l ws) w) := by
  have hV := RValid_any l w A c hs ho
  cases hv : obsV l with
  | false =>
    have hR : newR l ws = ([], 0, 0, 1) := by unfold newR; rw [if_pos (by rw [hv]; rfl)]
    rw [hv] at hV
    rw [hR]
    clear hr hw hR hv hs ho
    go_enter Try.func13, Try.ntmps13
    go_wp2_with fail
    refine hV.mono ?_
    rintro e w1 ⟨rfl, b1⟩
    clear hV
    go_wp2
    refine bodyPost_ret (v := .tuple #[.slice none 0 0, .int .i64 0, .int .i64 0, .int .i64 1]) (by simp [results, Try.results13, go_sem]) rfl ?_
    exact ⟨none, 0, rfl, ObSl.nil _, b1⟩
  | true =>
    rw [hv] at hV
    have hC : ∀ w1, Below w.heap.size w w1 → _ := fun w1 h1 => RCopy_any l w1 A c (hs.later h1) (few_of_valid hv)
    have hl8 := obsV_len hv
    have hbad : ws.all wV = false → newR l ws = ([], 0, 0, 1) := fun ha => by unfold newR; rw [if_pos (by rw [hv, ha]; rfl)]
    have hbad := Lib.hid hbad
    have hful := Lib.hid (fun ha => new_full hv ha (ws := ws))
    have hnew := Lib.hid (fun ha => new_ok hv ha (ws := ws))
    have hanyf := Lib.hid (all_false wV ws)
    obtain ⟨R, hR⟩ : ∃ R, Hid (newR l ws = R) := ⟨_, Lib.hid rfl⟩
    rw [hR.out]
    rw [hR.out] at hbad hful hnew
    have hhr := Lib.hid hr
    clear hs ho hv hr hR
    go_enter Try.func13, Try.ntmps13
    go_wp2_with fail
    refine hV.mono ?_
    rintro e w1 ⟨rfl, b1⟩
    have N := Box.new w1 42 #[.slice none 0 0, .bool false]
    have bA : Below w.heap.size w (w1.alloc (.cells #[.slice none 0 0, .bool false] 42)) := b1.alloc b1.size _
    have hz1 := b1.size
    have R0 : RnR ws w w1.heap.size 0 (w1.alloc (.cells #[.slice none 0 0, .bool false] 42)) := ⟨_, N, World.ownsRow_nil _ _ _ _, bA, hz1⟩
    clear hV N bA b1
    go_upto_region 4 with fail
    obtain ⟨w2, hw2⟩ : ∃ Y, w1.alloc (.cells #[.slice none 0 0, .bool false] 42) = Y := ⟨_, rfl⟩
    rw [hw2] at R0
    simp only [hw2]
    obtain ⟨bx, hbx⟩ : ∃ b, Hid (w1.heap.size = b) := ⟨_, Lib.hid rfl⟩
    rw [hbx.out] at R0
    simp only [hbx.out]
    clear hw2 hz1 hbx
    go_wp2_with fail
    go_loopw [9] (fun x wr => ∃ i : Nat, i ≤ ws.length ∧ x = .int .i64 i ∧ Hid ((ws.take i).all wV = true) ∧ RnR ws w bx i wr) (fun x _ => ws.length - iOf x)
    case atStart => exact ⟨0, Nat.zero_le _, rfl, Lib.hid (by simp), R0⟩
    case round =>
      rename_i wr
      clear R0
      obtain ⟨i, hi, rfl, hA, v, N, hO, bW, hle⟩ := hrel
      obtain ⟨Ax, cx, ev, _⟩ := hO.sl
      have hni : (newOb (ws.take i)).c.length = i := by simp [newOb]; omega
      rw [hni] at ev
      subst ev
      by_cases hlt : i < ws.length
      · have hlc : (i : Int) < ws.length := by omega
        have hwi : IntKind.i64.wrap ((i : Int) + 1) = ((i + 1 : Nat) : Int) := by rw [IntWalk.i64_in _ (by omega)]; omega
        obtain ⟨gw, ow, rfl, k0⟩ := hhr.out i hlt
        have k0 := cell_later bW k0
        have hsn := Lib.hid (all_snoc wV ws i hlt hA.out)
        have hnf := Lib.hid (hanyf.out i hlt)
        have hstep := Lib.hid (fun (wA : World) (v' : Value) hX hO2 hb => RnR.step (v := .slice Ax i cx) (v' := v') (wA := wA) (w := w) (bx := bx) hlt hX hO2 hb hle)
        obtain ⟨n, hn⟩ : ∃ n, Hid (ws[i] = n) := ⟨_, Lib.hid rfl⟩
        rw [hn.out] at k0
        rw [hn.out] at hsn hnf
        simp only [hn.out] at hstep
        clear hA hn
        by_cases n1 : n < 1
        · have hR1 := Lib.hid (hbad.out (hnf.out (Bool.eq_false_iff.2 (fun h => by have := wV_iff.1 h; omega))))
          clear hbad hful hnew hnf hsn hstep hO N
          go_wp2
          refine bodyPost_ret (v := .tuple #[.slice none 0 0, .int .i64 0, .int .i64 0, .int .i64 1]) (by simp [results, Try.results13, go_sem]) rfl ?_
          rw [hR1.out]
          exact ⟨none, 0, rfl, ObSl.nil _, bW⟩
        · by_cases n2 : 64 < n
          · have hR1 := Lib.hid (hbad.out (hnf.out (Bool.eq_false_iff.2 (fun h => by have := wV_iff.1 h; omega))))
            clear hbad hful hnew hnf hsn hstep hO N
            go_wp2
            refine bodyPost_ret (v := .tuple #[.slice none 0 0, .int .i64 0, .int .i64 0, .int .i64 1]) (by simp [results, Try.results13, go_sem]) rfl ?_
            rw [hR1.out]
            exact ⟨none, 0, rfl, ObSl.nil _, bW⟩
          · have hA : Hid ((ws.take (i + 1)).all wV = true) := Lib.hid (by rw [hsn.out]; exact wV_iff.2 ⟨by omega, by omega⟩)
            have hrow : wr.ownsRow w.heap.size 45 3 (.slice Ax i cx) i (flat (newOb (ws.take i)).c) := by
              unfold COwn at hO
              rw [hni] at hO
              exact hO
            have hne : Value.ownBlock (.slice Ax i cx) ≠ some bx := by
              rcases own_box hrow N (by decide) with q | q
              · rw [q]; simp
              · exact q
            have hbl : ∀ k, Value.ownBlock (.slice Ax i cx) = some k → w.heap.size ≤ k := fun k hk => (World.ownsRow.lt hrow k hk).1
            have n0 := N.cell 0
            have f0 := N.free 0
            have hsz := bW.size
            clear hO hsn hnf hbad hful hnew hni
            have bX0 : Below w.heap.size w (wr.alloc (.cells #[.int .i64 n, .bool false, .int .u64 0] 45)) := bW.alloc hsz _
            have bX : Below w.heap.size w (wr.alloc (.cells #[.int .i64 n, .bool false, .int .u64 0] 45)).drew := Below.trans bX0 ((Drew.below ⟨1, rfl⟩).mono bX0.size)
            have hrX : (wr.alloc (.cells #[.int .i64 n, .bool false, .int .u64 0] 45)).drew.ownsRow w.heap.size 45 3 (.slice Ax i cx) i (flat (newOb (ws.take i)).c) := World.ownsRow.alloc hrow _
            have NX : Box (wr.alloc (.cells #[.int .i64 n, .bool false, .int .u64 0] 45)).drew bx 42 #[.slice Ax i cx, .bool false] := Box.alloc N _
            have hzX : w.heap.size ≤ (wr.alloc (.cells #[.int .i64 n, .bool false, .int .u64 0] 45)).drew.heap.size := bX.size
            have hb7 : (i + 1) * 24 ≤ 140737488355328 := by omega
            have hm7 : i + 1 ≤ maxLen := by unfold maxLen; omega
            have nX0 := (Box.alloc N (.cells #[.int .i64 n, .bool false, .int .u64 0] 45)).cell 0
            have kX0 := Lib.cell?_alloc_some (.cells #[.int .i64 n, .bool false, .int .u64 0] 45) k0
            replace bX := Lib.hid bX
            replace hrX := Lib.hid hrX
            replace NX := Lib.hid NX
            replace hzX := Lib.hid hzX
            replace hb7 := Lib.hid hb7
            replace hm7 := Lib.hid hm7
            clear bX0
            go_wp2_with fail
            go_region_law (first
              | (refine step_append_lies _ rfl (.tmp 32) (.tmp 38) 40 rfl w.heap.size 45 Try.t45 (.agg #[.int .i64 0, .bool false, .int .u64 0]) 3 24 Try.underlying40 (by kernel_rfl) (by kernel_rfl) rfl rfl rfl (by decide) (.slice Ax i cx) i (flat (newOb (ws.take i)).c) (by simp [Act.eval]) hrX.out ⟨wr.heap.size, 0, none⟩ 1 1 [.int .i64 n, .bool false, .int .u64 0] (by simp [Act.eval]) rfl (by exact World.news_of_block (heap_alloc_new _ _)) (by intro u hu; simp at hu; rcases hu with rfl | rfl | rfl <;> rfl) (by decide) hm7.out hb7.out hzX.out _ rfl ?_; intro g2 cap wA o2 gr p2 z2; have NA := Box.grown NX.out gr hne; have nA := NA.cell 0; have fA := NA.free 0; have bG := Below.grown bX.out gr hzX.out hbl))
            all_goals
              have R2 := hstep.out wA _ NA o2 bG
              clear hstep NA o2 gr p2 z2 nA fA bG bX hrX NX hzX nX0 kX0 N n0 f0 hrow hne hbl
              go_wp2_with fail
              go_roundw
              case rel => exact ⟨i + 1, hlt, rfl, hA, R2⟩
              case measure => simp only [iOf]; omega
      · have hie : i = ws.length := by omega
        subst hie
        have hA := hA.out
        rw [List.take_length] at hA hO
        clear hhr hanyf hbad hni hi hlt
        by_cases hfull : l.length = 8 ∨ 16 < ws.length
        · have hR1 := Lib.hid (hful.out hA hfull)
          have hfl : ((16 : Int) < (ws.length : Int)) ∨ (¬ (16 : Int) < (ws.length : Int) ∧ (8 : Int) ≤ (l.length : Int)) := by omega
          clear hA hfull hl8 hful hnew hC N hO
          rcases hfl with q1 | ⟨q1, q2⟩
          all_goals
            go_wp2
            refine bodyPost_ret (v := .tuple #[.slice none 0 0, .int .i64 0, .int .i64 5, .int .i64 0]) (by simp [results, Try.results13, go_sem]) rfl ?_
            rw [hR1.out]
            exact ⟨none, 0, rfl, ObSl.nil _, bW⟩
        · have hR1 := Lib.hid (hnew.out hA (by omega) (by omega))
          have q1 : ¬ (16 : Int) < (ws.length : Int) := by omega
          have q2 : ¬ (8 : Int) ≤ (l.length : Int) := by omega
          have hCd := hC wr.drew (Below.trans bW ((Drew.below ⟨1, rfl⟩).mono bW.size))
          have hCd := Lib.hid hCd
          have bE0 : Below w.heap.size w (wr.alloc (.cells #[.slice Ax ws.length cx, .bool false] 42)) := bW.alloc bW.size _
          have hCe := hC (wr.alloc (.cells #[.slice Ax ws.length cx, .bool false] 42)).drew (Below.trans bE0 ((Drew.below ⟨1, rfl⟩).mono bE0.size))
          replace hCe := Lib.hid hCe
          have hzE : w.heap.size ≤ (wr.alloc (.cells #[.slice Ax ws.length cx, .bool false] 42)).drew.heap.size := bE0.size
          replace hzE := Lib.hid hzE
          have hNE : Box (wr.alloc (.cells #[.slice Ax ws.length cx, .bool false] 42)).drew wr.heap.size 42 #[.slice Ax ws.length cx, .bool false] := Box.new wr _ _
          replace hNE := Lib.hid hNE
          clear bE0
          have n0 := N.cell 0
          have n1 := N.cell 1
          have hsz := bW.size
          have hl32 : (l.length + 1) * 32 ≤ 140737488355328 := by omega
          have hlm : l.length + 1 ≤ maxLen := by unfold maxLen; omega
          replace hl32 := Lib.hid hl32
          replace hlm := Lib.hid hlm
          replace hO := Lib.hid hO
          clear hA hfull hful hnew hC
          go_wp2_with fail
          go_region_law (first
            | (go_simp; go_at_call 27; refine hCd.out.mono ?_; rintro e w5 ⟨⟨vv, V, rfl, hT0⟩, b5⟩; have hT : OTab w5 w.heap.size vv V l := OTab.mono hT0 hsz; obtain ⟨Ac, cc, ec, _⟩ := hT.sl; subst ec; have N5 : Box w5 bx 42 #[.slice Ax ws.length cx, .bool false] := Box.below (w := wr.drew) N b5; have x0 := N5.cell 0; have x1 := N5.cell 1; have hz5 : wr.heap.size ≤ w5.heap.size := b5.size)
            | (go_simp; go_at_call 27; refine hCe.out.mono ?_; rintro e w6 ⟨⟨vv, V6, rfl, hT0⟩, b6⟩; have hT6 : OTab w6 w.heap.size vv V6 l := OTab.mono hT0 hzE.out; obtain ⟨A6, c6, ec, _⟩ := hT6.sl; subst ec; have N6 := Box.below hNE.out b6; have hz6 := b6.size)
            | (refine step_append_lies _ rfl (.tmp 50) (.tmp 52) 22 rfl w.heap.size 42 Try.t42 (.agg #[.slice none 0 0, .bool false]) 2 32 Try.underlying22 (by kernel_rfl) (by kernel_rfl) rfl rfl rfl (by decide) (.slice A6 l.length c6) l.length (oflat V6 l) (by simp [Act.eval]) (by first | exact hT6.row | exact World.ownsRow.drew hT6.row) ⟨wr.heap.size, 0, none⟩ 1 1 [.slice Ax ws.length cx, .bool false] (by simp [Act.eval]) rfl (by exact World.news_of_block N6) (by intro u hu; simp at hu; rcases hu with rfl | rfl <;> rfl) (by decide) hlm.out hl32.out (by simp at hz6 ⊢; omega) _ rfl ?_; intro g3 cap3 wB o3 gr3 p3 z3)
            | (refine step_append_lies _ rfl (.tmp 50) (.tmp 52) 22 rfl w.heap.size 42 Try.t42 (.agg #[.slice none 0 0, .bool false]) 2 32 Try.underlying22 (by kernel_rfl) (by kernel_rfl) rfl rfl rfl (by decide) (.slice Ac l.length cc) l.length (oflat V l) (by simp [Act.eval]) (World.ownsRow.drew (World.ownsRow.alloc hT.row _)) ⟨w5.heap.size, 0, none⟩ 1 1 [.slice Ax ws.length cx, .bool false] (by simp [Act.eval]) rfl (by exact World.news_of_block (heap_alloc_new _ _)) (by intro u hu; simp at hu; rcases hu with rfl | rfl <;> rfl) (by decide) hlm.out hl32.out (by simp; omega) _ rfl ?_; intro g2 cap wA o2 gr p2 z2))
          all_goals
            go_wp2
          all_goals first
            | (refine bodyPost_ret (v := .tuple #[.slice (some ⟨g2, 0, none⟩) (l.length + 1) cap, .int .i64 l.length, .int .i64 0, .int .i64 0]) (by simp [results, Try.results13, go_sem]) rfl ?_
               rw [hR1.out]
               have hb5 : Below w.heap.size w w5 := Below.trans (Below.trans bW ((Drew.below ⟨1, rfl⟩).mono bW.size)) (b5.mono bW.size)
               have hO5 : COwn w5 w.heap.size (.slice Ax ws.length cx) (newOb ws).c := own_later (w := wr.drew) hO.out b5
               exact rn_fin (hT.later ((Below.refl _ _).alloc (Nat.le_refl _) _)) (World.ownsRow.alloc hO5 _) (Nat.le_refl _) (hb5.alloc hb5.size _) gr o2)
            | (refine bodyPost_ret (v := .tuple #[.slice (some ⟨g3, 0, none⟩) (l.length + 1) cap3, .int .i64 l.length, .int .i64 0, .int .i64 0]) (by simp [results, Try.results13, go_sem]) rfl ?_
               rw [hR1.out]
               have hbE : Below w.heap.size w (wr.alloc (.cells #[.slice Ax ws.length cx, .bool false] 42)).drew := Below.trans (bW.alloc bW.size _) ((Drew.below ⟨1, rfl⟩).mono hzE.out)
               have hb6 : Below w.heap.size w w6 := hbE.trans (b6.mono hzE.out)
               have hOE : COwn (wr.alloc (.cells #[.slice Ax ws.length cx, .bool false] 42)).drew w.heap.size (.slice Ax ws.length cx) (newOb ws).c := World.ownsRow.alloc hO.out _
               have hO6 : COwn w6 w.heap.size (.slice Ax ws.length cx) (newOb ws).c := own_later hOE b6
               exact rn_fin hT6 hO6 (Nat.le_refl _) hb6 gr3 o3)
end Go.Proofs.Yteekppohhjlmmaa
