/- The laws' head answers true. -/
import Derived.Test.YtnbgadndkepomaaGreatDoorSQK
import Derived.Test.YtnbgadndkepomaaGreatDoorSQM
namespace Go.Proofs.YtnbgadndkepomaaGreatDoor
open Go.RowKit

/-- The example in memory, with the copy of its slices. -/
structure Exm (w : World) (w2 : Int) (b bi bk : Nat) : Prop where
  bX : Box w b 27 #[.slice none 0 0, .slice none 0 0, .slice (some ⟨bi, 0, none⟩) 3 3, .slice (some ⟨bk, 0, none⟩) 3 3]
  bI : Box w bi 47 (exIc w2)
  bK : Box w bk 43 exKc
theorem Exm.later {w w' : World} {w2 : Int} {b bi bk : Nat} (h : Exm w w2 b bi bk) (hb : Below w.heap.size w w') : Exm w' w2 b bi bk := ⟨h.bX.below hb, h.bI.below hb, h.bK.below hb⟩
theorem Exm.set {w : World} {b bi bk : Nat} (h : Exm w 1 b bi bk) : Exm (w.setCell ⟨bi, 17, none⟩ (.int .i64 2)) 2 b bi bk :=
  ⟨h.bX.far (fun e => by subst e; exact absurd (h.bX.type h.bI) (by decide)) _, h.bI.set 17 (.int .i64 2), h.bK.far (fun e => by subst e; exact absurd (h.bK.type h.bI) (by decide)) _⟩
theorem Exm.far {w : World} {w2 : Int} {b bi bk q i : Nat} (h : Exm w w2 b bi bk) (h1 : b ≠ q) (h2 : bi ≠ q) (h3 : bk ≠ q) (v : Value) : Exm (w.setCell ⟨q, i, none⟩ v) w2 b bi bk := ⟨h.bX.far h1 v, h.bI.far h2 v, h.bK.far h3 v⟩
theorem IRow.far {w : World} {A : Option Addr} {l : List Int} {q i : Nat} (h : IRow w A l) (hq : ∀ g o, A = some ⟨g, o, none⟩ → g ≠ q) (v : Value) : IRow (w.setCell ⟨q, i, none⟩ v) A l := fun j hj => by
  obtain ⟨g, o, e, hc⟩ := h j hj
  exact ⟨g, o, e, (But.set v : But q w _).cell hc (hq g o e)⟩
theorem rows3 {w : World} {b1 b2 b3 : Nat} (h1 : Box w b1 3 (ints [0])) (h2 : Box w b2 3 (ints [0])) (h3 : Box w b3 30 #[.slice none 0 0, .slice (some ⟨b1, 0, none⟩) 1 1, .slice (some ⟨b2, 0, none⟩) 1 1]) : LRow w (some ⟨b3, 0, none⟩) [[], [0], [0]] := fun i hi => by
  have h4 : i < 3 := hi
  match i, h4 with
  | 0, _ => exact ⟨b3, 0, none, 0, rfl, h3.cell 0, Nat.le_refl _, by unfold maxLen; omega, fun j hj => by simp at hj⟩
  | 1, _ => exact ⟨b3, 0, some ⟨b1, 0, none⟩, 1, rfl, h3.cell 1, Nat.le_refl _, by unfold maxLen; omega, h1.irow⟩
  | 2, _ => exact ⟨b3, 0, some ⟨b2, 0, none⟩, 1, rfl, h3.cell 2, Nat.le_refl _, by unfold maxLen; omega, h2.irow⟩
set_option maxRecDepth 100000 in
set_option maxHeartbeats 3200000 in
theorem head_any : HeadC := by
  intro W hv
  go_enter Tryz.func11, Tryz.ntmps11
  go_wp2_with fail
  refine example_any.mono ?_
  rintro e w1 ⟨bi, bk, rfl, hbi, hbk, I1, K1, b1⟩
  have hv1 := hv.later b1
  have N := Box.new w1 27 #[.slice none 0 0, .slice none 0 0, .slice (some ⟨bi, 0, none⟩) 3 3, .slice (some ⟨bk, 0, none⟩) 3 3]
  have bN : Below w1.heap.size w1 (w1.alloc (.cells #[.slice none 0 0, .slice none 0 0, .slice (some ⟨bi, 0, none⟩) 3 3, .slice (some ⟨bk, 0, none⟩) 3 3] 27)) := (Below.refl _ _).alloc (Nat.le_refl _) _
  go_upto_region 2 with fail
  obtain ⟨bx, hbx⟩ : ∃ b, Hid (w1.heap.size = b) := ⟨_, Lib.hid rfl⟩
  obtain ⟨w2, hw2⟩ : ∃ Y, w1.alloc (.cells #[.slice none 0 0, .slice none 0 0, .slice (some ⟨bi, 0, none⟩) 3 3, .slice (some ⟨bk, 0, none⟩) 3 3] 27) = Y := ⟨_, rfl⟩
  have E2 : Exm (w1.alloc (.cells #[.slice none 0 0, .slice none 0 0, .slice (some ⟨bi, 0, none⟩) 3 3, .slice (some ⟨bk, 0, none⟩) 3 3] 27)) 1 w1.heap.size bi bk := ⟨N, I1.below bN, K1.below bN⟩
  have hv2 := hv1.later bN
  have B2 := b1.trans (bN.mono b1.size)
  rw [hw2] at E2 hv2 B2
  rw [hbx.out] at E2
  simp only [hw2, hbx.out]
  clear hw2 bN N I1 K1 hv1 b1
  have n0 := E2.bX.cell 0
  have n1 := E2.bX.cell 1
  have n2 := E2.bX.cell 2
  have n3 := E2.bX.cell 3
  have c1 := Lib.hid (Order_ex E2.bI E2.bK hv2)
  go_wp2_with fail
  refine c1.out.mono ?_
  rintro e w3 ⟨A1, q1, rfl, l1, l1', r1, b3⟩
  have E3 := E2.later b3
  have hv3 := hv2.later b3
  have B3 := B2.trans (b3.mono B2.size)
  clear c1 n0 n1 n2 n3 E2 hv2 B2 b3
  have n0 := E3.bX.cell 0
  have n1 := E3.bX.cell 1
  have n2 := E3.bX.cell 2
  have n3 := E3.bX.cell 3
  have c1 := Lib.hid (Preds_ex E3.bI E3.bK hv3)
  go_wp2_with fail
  refine c1.out.mono ?_
  rintro e w4 ⟨A2, q2, rfl, l2, l2', r2, b4⟩
  have E4 := E3.later b4
  have hv4 := hv3.later b4
  have B4 := B3.trans (b4.mono B3.size)
  have r14 := r1.later b4
  clear c1 n0 n1 n2 n3 E3 hv3 B3 b4 r1
  have n0 := E4.bX.cell 0
  have n1 := E4.bX.cell 1
  have n2 := E4.bX.cell 2
  have n3 := E4.bX.cell 3
  have c1 := Lib.hid (Uses_ex E4.bI E4.bK hv4)
  go_wp2_with fail
  refine c1.out.mono ?_
  rintro e w5 ⟨A3, q3, rfl, l3, l3', r3, b5⟩
  have E5 := E4.later b5
  have hv5 := hv4.later b5
  have B5 := B4.trans (b5.mono B4.size)
  have r15 := r14.later b5
  have r25 := r2.later b5
  clear c1 n0 n1 n2 n3 E4 hv4 B4 b5 r14 r2
  have c1 := Lib.hid (example_any (W := w5))
  go_wp2_with fail
  refine c1.out.mono ?_
  rintro e w6 ⟨ci, ck, rfl, hci, hck, I6, K6, b6⟩
  clear c1
  have N := Box.new w6 27 #[.slice none 0 0, .slice none 0 0, .slice (some ⟨ci, 0, none⟩) 3 3, .slice (some ⟨ck, 0, none⟩) 3 3]
  have bN : Below w6.heap.size w6 (w6.alloc (.cells #[.slice none 0 0, .slice none 0 0, .slice (some ⟨ci, 0, none⟩) 3 3, .slice (some ⟨ck, 0, none⟩) 3 3] 27)) := (Below.refl _ _).alloc (Nat.le_refl _) _
  have F7 : Exm (w6.alloc (.cells #[.slice none 0 0, .slice none 0 0, .slice (some ⟨ci, 0, none⟩) 3 3, .slice (some ⟨ck, 0, none⟩) 3 3] 27)) 1 w6.heap.size ci ck := ⟨N, I6.below bN, K6.below bN⟩
  have b57 := b6.trans (bN.mono b6.size)
  go_upto_region 6 with fail
  obtain ⟨cx, hcx⟩ : ∃ b, Hid (w6.heap.size = b) := ⟨_, Lib.hid rfl⟩
  obtain ⟨w7, hw7⟩ : ∃ Y, w6.alloc (.cells #[.slice none 0 0, .slice none 0 0, .slice (some ⟨ci, 0, none⟩) 3 3, .slice (some ⟨ck, 0, none⟩) 3 3] 27) = Y := ⟨_, rfl⟩
  rw [hw7] at F7 b57
  rw [hcx.out] at F7
  simp only [hw7, hcx.out]
  clear hw7 bN N I6 K6 b6
  have m2 := F7.bX.cell 2
  have i17 : w7.cell? ⟨ci, 17, none⟩ = some (.int .i64 1) := F7.bI.cell 17
  have f17 := F7.bI.free 17
  have b58 : Below w5.heap.size w5 (w7.setCell ⟨ci, 17, none⟩ (.int .i64 2)) := b57.setCell hci _
  have F8 := F7.set
  have hc2 : (2 : Int) < (3 : Int) := by omega
  go_upto_region 7 with fail
  obtain ⟨w8, hw8⟩ : ∃ Y, w7.setCell ⟨ci, 17, none⟩ (.int .i64 2) = Y := ⟨_, rfl⟩
  rw [hw8] at F8 b58
  simp only [hw8]
  clear hw8 m2 i17 f17 F7 b57 hc2
  have E8 := E5.later b58
  have hv8 := hv5.later b58
  have B8 := B5.trans (b58.mono B5.size)
  have r18 := r15.later b58
  have r28 := r25.later b58
  have r38 := r3.later b58
  clear E5 hv5 B5 r15 r25 r3 b58
  have n0 := F8.bX.cell 0
  have n1 := F8.bX.cell 1
  have n2 := F8.bX.cell 2
  have n3 := F8.bX.cell 3
  have c1 := Lib.hid (Order_wr F8.bI F8.bK hv8)
  go_wp2_with fail
  refine c1.out.mono ?_
  rintro e w9 ⟨A4, q4, rfl, l4, l4', r4, b9⟩
  have E9 := E8.later b9
  have F9 := F8.later b9
  have hv9 := hv8.later b9
  have B9 := B8.trans (b9.mono B8.size)
  have r19 := r18.later b9
  have r29 := r28.later b9
  have r39 := r38.later b9
  clear c1 n0 n1 n2 n3 E8 F8 hv8 B8 r18 r28 r38 b9 r4 l4 l4'
  have n0 := E9.bX.cell 0
  have n1 := E9.bX.cell 1
  have n2 := E9.bX.cell 2
  have n3 := E9.bX.cell 3
  have c1 := Lib.hid (Valid_ex E9.bI E9.bK hv9)
  go_wp2_with fail
  refine c1.out.mono ?_
  rintro e wa ⟨rfl, ba⟩
  have Fa := F9.later ba
  have hva := hv9.later ba
  have Ba := B9.trans (ba.mono B9.size)
  have r1a := r19.later ba
  have r2a := r29.later ba
  have r3a := r39.later ba
  clear c1 n0 n1 n2 n3 E9 F9 hv9 B9 r19 r29 r39 ba
  have n0 := Fa.bX.cell 0
  have n1 := Fa.bX.cell 1
  have n2 := Fa.bX.cell 2
  have n3 := Fa.bX.cell 3
  have c1 := Lib.hid (Valid_wr Fa.bI Fa.bK hva)
  go_wp2_with fail
  refine c1.out.mono ?_
  rintro e wb ⟨rfl, bb⟩
  have hvb := hva.later bb
  have Bb := Ba.trans (bb.mono Ba.size)
  have r1b := r1a.later bb
  have r2b := r2a.later bb
  have r3b := r3a.later bb
  clear c1 n0 n1 n2 n3 Fa hva Ba r1a r2a r3a bb
  have c1 := Lib.hid (Valid_em hvb)
  go_wp2_with fail
  refine c1.out.mono ?_
  rintro e wc ⟨rfl, bc⟩
  have Bc := Bb.trans (bc.mono Bb.size)
  have r1c := r1b.later bc
  have r2c := r2b.later bc
  have r3c := r3b.later bc
  clear c1 hvb Bb r1b r2b r3b bc
  have bd : Below wc.heap.size wc (wc.alloc (.cells (ints [0, 2, 1]) 3)) := (Below.refl _ _).alloc (Nat.le_refl _) _
  have c1 := Lib.hid (Ints_any [0, 2, 1] [0, 2, 1] A1 (some ⟨wc.heap.size, 0, none⟩) q1 3 (r1c.later bd) (Box.new wc 3 (ints [0, 2, 1])).irow ⟨l1, l1'⟩ ⟨by simp, by unfold maxLen; omega⟩)
  rw [sameB_of rfl] at c1
  have Bd := Bc.trans (bd.mono Bc.size)
  have r2d := r2c.later bd
  have r3d := r3c.later bd
  clear Bc r1c r2c r3c bd
  go_wp2_with fail
  refine c1.out.mono ?_
  rintro e we ⟨rfl, be⟩
  have Be := Bd.trans (be.mono Bd.size)
  have r2e := r2d.later be
  have r3e := r3d.later be
  clear c1 Bd r2d r3d be
  have M1 := ((Box.new we 3 (ints [0])).alloc (.cells (ints [0]) 3)).alloc (.cells #[.slice none 0 0, .slice (some ⟨we.heap.size, 0, none⟩) 1 1, .slice (some ⟨we.heap.size + 1, 0, none⟩) 1 1] 30)
  have M2 := (Box.newAt (X := we.alloc (.cells (ints [0]) 3)) (n := we.heap.size + 1) (by simp) 3 (ints [0])).alloc (.cells #[.slice none 0 0, .slice (some ⟨we.heap.size, 0, none⟩) 1 1, .slice (some ⟨we.heap.size + 1, 0, none⟩) 1 1] 30)
  have M3 := Box.newAt (X := (we.alloc (.cells (ints [0]) 3)).alloc (.cells (ints [0]) 3)) (n := we.heap.size + 1 + 1) (by simp) 30 #[.slice none 0 0, .slice (some ⟨we.heap.size, 0, none⟩) 1 1, .slice (some ⟨we.heap.size + 1, 0, none⟩) 1 1]
  have bf : Below we.heap.size we (((we.alloc (.cells (ints [0]) 3)).alloc (.cells (ints [0]) 3)).alloc (.cells #[.slice none 0 0, .slice (some ⟨we.heap.size, 0, none⟩) 1 1, .slice (some ⟨we.heap.size + 1, 0, none⟩) 1 1] 30)) := (((Below.refl _ _).alloc (Nat.le_refl _) _).alloc (by simp) _).alloc (by simp; omega) _
  have c1 := Lib.hid (Lists_any [[], [0], [0]] [[], [0], [0]] A2 (some ⟨we.heap.size + 1 + 1, 0, none⟩) q2 3 (r2e.later bf) (rows3 M1 M2 M3) ⟨l2, l2'⟩ ⟨by simp, by unfold maxLen; omega⟩)
  rw [sameB_of rfl] at c1
  have Bf := Be.trans (bf.mono Be.size)
  have r3f := r3e.later bf
  clear Be r2e r3e bf M1 M2 M3
  go_wp2_with fail
  refine c1.out.mono ?_
  rintro e wg ⟨rfl, bg⟩
  have Bg := Bf.trans (bg.mono Bf.size)
  have r3g := r3f.later bg
  clear c1 Bf r3f bg
  have bh : Below wg.heap.size wg (wg.alloc (.cells (ints [1, 1, 1]) 3)) := (Below.refl _ _).alloc (Nat.le_refl _) _
  have c1 := Lib.hid (Ints_any [1, 1, 1] [1, 1, 1] A3 (some ⟨wg.heap.size, 0, none⟩) q3 3 (r3g.later bh) (Box.new wg 3 (ints [1, 1, 1])).irow ⟨l3, l3'⟩ ⟨by simp, by unfold maxLen; omega⟩)
  rw [sameB_of rfl] at c1
  have Bh := Bg.trans (bh.mono Bg.size)
  clear Bg r3g bh
  go_wp2_with fail
  refine c1.out.mono ?_
  rintro e wi ⟨rfl, bi2⟩
  have Bi := Bh.trans (bi2.mono Bh.size)
  clear c1
  go_wp2
  go_ret
  exact ⟨rfl, Bi⟩
/-- The law holds of every code that can be read. -/
theorem SsaDefined_any {W : World} {c : Cd} {x : Sl} (hx : CdAt W c x) (ok : c.ok) (hv : ErrV W) (ch : List Bool) (CA : Option Addr) (cc : Nat) (hch : BRow W CA ch) (hcl : ch.length ≤ cc ∧ cc ≤ maxLen) :
    Calls Tryz.prog 4 #[.agg #[.slice x.S c.st.length x.sc, .slice x.N c.nm.length x.nc, .slice x.I c.ins.length x.ic, .slice x.K c.bk.length x.kc], .slice CA ch.length cc] W fun e w' => e = .returned (.bool true) ∧ Below W.heap.size W w' :=
  defined_any head_any hx ok hv ch CA cc hch hcl
end Go.Proofs.YtnbgadndkepomaaGreatDoor
