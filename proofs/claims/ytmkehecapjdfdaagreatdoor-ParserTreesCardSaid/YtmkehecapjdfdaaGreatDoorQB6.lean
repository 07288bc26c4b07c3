/- Joined texts: PIff, PCast. -/
import Derived.Test.YtmkehecapjdfdaaGreatDoorQB5
import Derived.Deep.RegionLaw
import Derived.Deep.AppendLies

/- A statement with two or three kids. -/
namespace Go.Proofs.YtmkehecapjdfdaaGreatDoor
open Go.RowKit

set_option maxRecDepth 100000 in
set_option maxHeartbeats 6400000 in
theorem readIf_any {E : Env} {W : World} {dp : Nat} {s : St} {x y : PM T} (he : CE E dp x) (hb : CB E dp y) (h : RS E 20 W dp s) :
    Calls Tryz.prog 108 #[.pointer (some ⟨E.r, 0, none⟩)] W (PostR E W dp (RNodeX W.heap.size) (readIf E.ts x y s)) := by
  have A0 := At.start h
  have HQ0 : Hid (readIf E.ts x y s = bnd (begin_ E.ts 15 kIf) (fun n => bnd x fun a => bnd y fun k => ifRest E.ts y n.at_ a k) s) := Lib.hid rfl
  generalize hM : readIf E.ts x y s = M at *
  clear hM
  have hb1 := A0.size
  have B2 := Box.new (W) 25 #[Value.int IntKind.i64 0, Value.string { data := #[] }, Value.string { data := #[] }, Value.int IntKind.u64 0, Value.int IntKind.i64 0, Value.int IntKind.i64 0, Value.slice none 0 0]
  have A3 := A0.alloc (Obj.cells #[Value.int IntKind.i64 0, Value.string { data := #[] }, Value.string { data := #[] }, Value.int IntKind.u64 0, Value.int IntKind.i64 0, Value.int IntKind.i64 0, Value.slice none 0 0] 25)
  have sz4 : (W.alloc (Obj.cells #[Value.int IntKind.i64 0, Value.string { data := #[] }, Value.string { data := #[] }, Value.int IntKind.u64 0, Value.int IntKind.i64 0, Value.int IntKind.i64 0, Value.slice none 0 0] 25)).heap.size = W.heap.size + 1 := by simp
  obtain ⟨i0, hi, hz0, hz1, hz2⟩ := info_parts Tryz.infoNode
  go_enter Tryz.func108, Tryz.ntmps108
  go_wp2_with fail
  refine (begin_any 15 kIf (by decide) A3.rs).mono ?_
  intro e w1 H
  rcases H.cases with ⟨n, s1, v, hm5, rfl, ⟨a, rfl, rfl⟩, R, K⟩ | ⟨l, s', ch, hm, rfl, H1⟩
  rotate_left 1
  · exact ⟨rfl, A3.out HQ0 hm H1⟩
  have A6 := A3.call R K
  have HQ7 := hq_ok HQ0 hm5
  have B8 : Box w1 (W.heap.size) 25 #[Value.int IntKind.i64 0, Value.string { data := #[] }, Value.string { data := #[] }, Value.int IntKind.u64 0, Value.int IntKind.i64 0, Value.int IntKind.i64 0, Value.slice none 0 0] := B2.kept K (by decide)
  have sz9 := K.size
  clear HQ0 hm5 H R K
  have hb10 := A6.size
  have B11 := B8.alloc (Obj.cells #[Value.int IntKind.i64 15, Value.string { data := #[] }, Value.string { data := #[] }, Value.int IntKind.u64 0, Value.int IntKind.i64 0, Value.int IntKind.i64 a, Value.slice none 0 0] 25)
  have lt12 := B8.lt
  have B13 := Box.new (w1) 25 #[Value.int IntKind.i64 15, Value.string { data := #[] }, Value.string { data := #[] }, Value.int IntKind.u64 0, Value.int IntKind.i64 0, Value.int IntKind.i64 a, Value.slice none 0 0]
  have A14 := A6.alloc (Obj.cells #[Value.int IntKind.i64 15, Value.string { data := #[] }, Value.string { data := #[] }, Value.int IntKind.u64 0, Value.int IntKind.i64 0, Value.int IntKind.i64 a, Value.slice none 0 0] 25)
  have sz15 : (w1.alloc (Obj.cells #[Value.int IntKind.i64 15, Value.string { data := #[] }, Value.string { data := #[] }, Value.int IntKind.u64 0, Value.int IntKind.i64 0, Value.int IntKind.i64 a, Value.slice none 0 0] 25)).heap.size = w1.heap.size + 1 := by simp
  go_wp2_with fail
  obtain ⟨w2, hy16⟩ : ∃ Y, (w1.alloc (Obj.cells #[Value.int IntKind.i64 15, Value.string { data := #[] }, Value.string { data := #[] }, Value.int IntKind.u64 0, Value.int IntKind.i64 0, Value.int IntKind.i64 a, Value.slice none 0 0] 25)) = Y := ⟨_, rfl⟩
  rw [hy16] at A14 sz15 B11 B13  ⊢
  clear hy16
  have B17 : Box w2 (W.heap.size) 25 #[Value.int IntKind.i64 0, Value.string { data := #[] }, Value.string { data := #[] }, Value.int IntKind.u64 0, Value.int IntKind.i64 0, Value.int IntKind.i64 0, Value.slice none 0 0] := B11
  have B18 : Box w2 (w1.heap.size) 25 #[Value.int IntKind.i64 15, Value.string { data := #[] }, Value.string { data := #[] }, Value.int IntKind.u64 0, Value.int IntKind.i64 0, Value.int IntKind.i64 a, Value.slice none 0 0] := B13
  have c19 : w2.cell? ⟨w1.heap.size, 6, none⟩ = some (Value.slice none 0 0) := B18.cell 6
  have fz20 := B18.free
  have ltr := A14.rs.lt
  have hMs : w1.heap.size + 1 ≤ w2.heap.size := by omega
  go_region_law (first
    | (go_simp; go_at_call 161; refine (he _ _ A14.drew.rs).mono ?_; intro e w3 H; rcases H.cases with ⟨t1, s3, v, hm, rfl, ⟨KA1, KC1, rfl, nd1⟩, R, K⟩ | ⟨l, s', ch, hm, rfl, H1⟩; rotate_left 1; exact ⟨rfl, A14.drew.out HQ7 hm H1⟩; have AR1 := A14.drew.call R K; have HQR1 := hq_ok HQ7 hm; have BRres1 : Box w3 (W.heap.size) 25 #[Value.int IntKind.i64 0, Value.string { data := #[] }, Value.string { data := #[] }, Value.int IntKind.u64 0, Value.int IntKind.i64 0, Value.int IntKind.i64 0, Value.slice none 0 0] := Box.kept (w := w2.drew) B17 K (by decide); have BRn1 : Box w3 (w1.heap.size) 25 #[Value.int IntKind.i64 15, Value.string { data := #[] }, Value.string { data := #[] }, Value.int IntKind.u64 0, Value.int IntKind.i64 0, Value.int IntKind.i64 a, Value.slice none 0 0] := Box.kept (w := w2.drew) B18 K (by decide); have q01 : ∀ o, (w3.alloc o).cell? ⟨w1.heap.size, 6, none⟩ = some (Value.slice none 0 0) := fun o => (BRn1.alloc o).cell 6; have q001 := BRn1.cell 6; have szR1 : w2.heap.size ≤ w3.heap.size := K.size; clear K R H hm)
    | (go_simp; go_at_call 157; refine (hb _ _ AR1.rs).mono ?_; intro e w4 H; rcases H.cases with ⟨t2, s4, v, hm, rfl, ⟨KA2, KC2, rfl, nd2⟩, R, K⟩ | ⟨l, s', ch, hm, rfl, H1⟩; rotate_left 1; exact ⟨rfl, AR1.out HQR1 hm H1⟩; have AR2 := AR1.call R K; have HQR2 := hq_ok HQR1 hm; have BRres2 : Box w4 (W.heap.size) 25 #[Value.int IntKind.i64 0, Value.string { data := #[] }, Value.string { data := #[] }, Value.int IntKind.u64 0, Value.int IntKind.i64 0, Value.int IntKind.i64 0, Value.slice none 0 0] := Box.kept (w := w3) BRres1 K (by decide); have BRn2 : Box w4 (w1.heap.size) 25 #[Value.int IntKind.i64 15, Value.string { data := #[] }, Value.string { data := #[] }, Value.int IntKind.u64 0, Value.int IntKind.i64 0, Value.int IntKind.i64 a, Value.slice none 0 0] := Box.kept (w := w3) BRn1 K (by decide); have q02 : ∀ o, (w4.alloc o).cell? ⟨w1.heap.size, 6, none⟩ = some (Value.slice none 0 0) := fun o => (BRn2.alloc o).cell 6; have q002 := BRn2.cell 6; have szR2 : w3.heap.size ≤ w4.heap.size := K.size; have nd1k2 := nodeAt_kept K nd1; clear K R H hm)
    | (refine step_append_lies _ rfl (.tmp 7) (.tmp 12) 23 rfl (w1.heap.size + 1) 25 i0 _ 7 88 Tryz.underlying23 hi hz0 hz1 hz2 rfl (by decide) (Value.slice none 0 0) 0 [] (by simp [Act.eval]) (World.ownsRow.alloc (World.ownsRow_nil _ _ _ _) _) ⟨w4.heap.size, 0, none⟩ 2 2 (nodeCells t1 (.slice KA1 (t1).kids.length KC1) ++ nodeCells t2 (.slice KA2 (t2).kids.length KC2)) (by simp [Act.eval]) rfl (by exact World.news_of_block (heap_alloc_new _ _)) (nodeCells_two _ _ _ _ _ _ _ _) (by decide) (by unfold maxLen; omega) (by omega) (by first | omega | (simp <;> omega)) _ rfl ?_; intro gA capA wA o2 g2 p2 z2; have ap := appended AR2 (by omega) (World.ownsRow_nil _ _ _ _) (show rowAt _ _ [] [] from rfl) (rowAt_append [t1] [t2] _ _ (rowAt_fresh nd1k2 (by first | omega | (simp <;> omega)) no_own) (rowAt_fresh nd2 (by first | omega | (simp <;> omega)) no_own)) o2 g2 p2; have q1 : wA.cell? ⟨w1.heap.size, 6, none⟩ = some (Value.slice none 0 0) := (ap.box BRn2 (by omega)).cell 6; have q2 := (ap.box BRn2 (by omega)).free 6))
  all_goals
    have szA : w4.heap.size ≤ wA.heap.size := by have := g2.size; simp at this; omega
    clear q01 q001 q02 q002 q1 q2 o2 g2 p2
    have BSres := ap.box BRres2 (by omega)
    have BSn := ap.box BRn2 (by omega)
    have KS := ap.kids
    have AS := ap.at_
    have A21 := AS.set BSn hb10 6 (Value.slice (some { block := gA, off := 0 }) (0 + 2) capA)
    have B22 := BSres.far (b' := w1.heap.size) (i := 6) (by omega) (Value.slice (some { block := gA, off := 0 }) (0 + 2) capA)
    have B23 := BSn.set 6 (Value.slice (some { block := gA, off := 0 }) (0 + 2) capA)
    have sz24 : (wA.setCell { block := w1.heap.size, off := 6 } (Value.slice (some { block := gA, off := 0 }) (0 + 2) capA)).heap.size = wA.heap.size := by simp [World.setCell]
    have KF := Kids.far (b := w1.heap.size) (i := 6) (by omega) (Value.slice (some { block := gA, off := 0 }) (0 + 2) capA) KS
    obtain ⟨w5, hy25⟩ : ∃ Y, (wA.setCell { block := w1.heap.size, off := 6 } (Value.slice (some { block := gA, off := 0 }) (0 + 2) capA)) = Y := ⟨_, rfl⟩
    rw [hy25] at A21 sz24 B22 B23 KF ⊢
    clear hy25
    have B26 : Box w5 (W.heap.size) 25 #[Value.int IntKind.i64 0, Value.string { data := #[] }, Value.string { data := #[] }, Value.int IntKind.u64 0, Value.int IntKind.i64 0, Value.int IntKind.i64 0, Value.slice none 0 0] := B22
    have B27 : Box w5 (w1.heap.size) 25 #[Value.int IntKind.i64 15, Value.string { data := #[] }, Value.string { data := #[] }, Value.int IntKind.u64 0, Value.int IntKind.i64 0, Value.int IntKind.i64 a, Value.slice (some { block := gA, off := 0 }) (0 + 2) capA] := B23
    have hif : ∀ (a b : T) (q : Nat) (s : St), ifRest E.ts y q a b s = if wd E.ts s.nx = kElse then bnd (take E.ts kElse) (fun _ => bnd y fun k2 => ret (.mk 15 [] [] 0 0 q [a, b, k2])) s else .ok (.mk 15 [] [] 0 0 q [a, b]) s := fun _ _ _ _ => rfl
    go_wp2_with fail
    refine (word_any A21.rs).mono ?_
    rintro e w6 ⟨rfl, D⟩
    have AD := A21.later D.below
    have BDres : Box w6 W.heap.size 25 #[Value.int IntKind.i64 0, Value.string { data := #[] }, Value.string { data := #[] }, Value.int IntKind.u64 0, Value.int IntKind.i64 0, Value.int IntKind.i64 0, Value.slice none 0 0] := B26.below D.below
    have BDn : Box w6 w1.heap.size 25 #[Value.int IntKind.i64 15, Value.string { data := #[] }, Value.string { data := #[] }, Value.int IntKind.u64 0, Value.int IntKind.i64 0, Value.int IntKind.i64 a, Value.slice (some { block := gA, off := 0 }) (0 + 2) capA] := B27.below D.below
    have KD : Kids w6 (w1.heap.size + 1) [t1, t2] (Value.slice (some { block := gA, off := 0 }) (0 + 2) capA) := Kids.later KF (Kept.of D.below (Nat.zero_le _))
    have szD : w5.heap.size ≤ w6.heap.size := D.below.size
    clear D
    have HF := Lib.hid (HQR2.out.trans (hif _ _ _ _))
    by_cases hel : wd E.ts s4.nx = kElse
    · have hel1 : (wd E.ts s4.nx == [101, 108, 115, 101]) = true := by rw [hel]; rfl
      have HY := Lib.hid (HF.out.trans (if_pos hel))
      go_wp2_with fail
      refine (take_any kElse (by decide) AD.rs).mono ?_
      intro e w7 H
      rcases H.cases with ⟨t3, s7, v, hm28, rfl, rfl, R, K⟩ | ⟨l, s', ch, hm9, rfl, H1⟩
      rotate_left 1
      · exact ⟨rfl, AD.out HY hm9 H1⟩
      have A29 := AD.call R K
      have HQ30 := hq_ok HY hm28
      have B31 : Box w7 (W.heap.size) 25 #[Value.int IntKind.i64 0, Value.string { data := #[] }, Value.string { data := #[] }, Value.int IntKind.u64 0, Value.int IntKind.i64 0, Value.int IntKind.i64 0, Value.slice none 0 0] := BDres.kept K (by decide)
      have B32 : Box w7 (w1.heap.size) 25 #[Value.int IntKind.i64 15, Value.string { data := #[] }, Value.string { data := #[] }, Value.int IntKind.u64 0, Value.int IntKind.i64 0, Value.int IntKind.i64 a, Value.slice (some { block := gA, off := 0 }) (0 + 2) capA] := BDn.kept K (by decide)
      have Q33 := Kids.later KD K
      have sz34 := K.size
      clear HY hm28 H R K
      have c35 : w7.cell? ⟨w1.heap.size, 6, none⟩ = some (Value.slice (some { block := gA, off := 0 }) (0 + 2) capA) := B32.cell 6
      have fz36 := B32.free
      go_wp2_with fail
      have c37 : w7.cell? ⟨w1.heap.size, 6, none⟩ = some (Value.slice (some { block := gA, off := 0 }) (0 + 2) capA) := B32.cell 6
      have fz38 := B32.free
      have ltr9 := A29.rs.lt
      have hMs9 : w1.heap.size + 1 ≤ w7.heap.size := by omega
      obtain ⟨kc9, ko09, kr09⟩ := Q33
      go_region_law (first
        | (go_simp; go_at_call 157; refine (hb _ _ A29.drew.rs).mono ?_; intro e w8 H; rcases H.cases with ⟨t9, s8, v, hm9, rfl, ⟨KA9, KC9, rfl, nd9⟩, R, K⟩ | ⟨l, s', ch, hm9, rfl, H1⟩; rotate_left 1; exact ⟨rfl, A29.drew.out HQ30 hm9 H1⟩; have AR9 := A29.drew.call R K; have HQR9 := hq_ok HQ30 hm9; have BRres9 : Box w8 (W.heap.size) 25 #[Value.int IntKind.i64 0, Value.string { data := #[] }, Value.string { data := #[] }, Value.int IntKind.u64 0, Value.int IntKind.i64 0, Value.int IntKind.i64 0, Value.slice none 0 0] := Box.kept (w := w7.drew) B31 K (by decide); have BRn9 : Box w8 (w1.heap.size) 25 #[Value.int IntKind.i64 15, Value.string { data := #[] }, Value.string { data := #[] }, Value.int IntKind.u64 0, Value.int IntKind.i64 0, Value.int IntKind.i64 a, Value.slice (some { block := gA, off := 0 }) (0 + 2) capA] := Box.kept (w := w7.drew) B32 K (by decide); have q09 : ∀ o, (w8.alloc o).cell? ⟨w1.heap.size, 6, none⟩ = some (Value.slice (some { block := gA, off := 0 }) (0 + 2) capA) := fun o => (BRn9.alloc o).cell 6; have q009 := BRn9.cell 6; have szR9 : w7.heap.size ≤ w8.heap.size := K.size; have ko9 := Kept.own K (w := w7.drew) (ownsDrew ko09) NT_ne.1 NT_ne.2; have kr9 := rowAt_kept K (w := w7.drew) (rowDrew kr09); clear K R H hm9)
        | (refine step_append_lies _ rfl (.tmp 21) (.tmp 24) 23 rfl (w1.heap.size + 1) 25 i0 _ 7 88 Tryz.underlying23 hi hz0 hz1 hz2 rfl (by decide) (Value.slice (some { block := gA, off := 0 }) (0 + 2) capA) 2 kc9 (by simp [Act.eval]) (World.ownsRow.alloc ko9 _) ⟨w8.heap.size, 0, none⟩ 1 1 (nodeCells t9 (.slice KA9 (t9).kids.length KC9)) (by simp [Act.eval]) rfl (by exact World.news_of_block (heap_alloc_new _ _)) (nodeCells_one _ _ _ _) (by decide) (by unfold maxLen; omega) (by omega) (by first | omega | (simp <;> omega)) _ rfl ?_; intro g9 cap9 wA9 o29 g29 p29 z29; have ap9 := appended AR9 (by omega) ko9 kr9 (rowAt_fresh nd9 (by first | omega | (simp <;> omega)) (fun g9 hg => (ko09.lt g9 hg).2)) o29 g29 p29; have q19 : wA9.cell? ⟨w1.heap.size, 6, none⟩ = some (Value.slice (some { block := gA, off := 0 }) (0 + 2) capA) := (ap9.box BRn9 (by omega)).cell 6; have q29 := (ap9.box BRn9 (by omega)).free 6))
      all_goals
        have szA9 : w8.heap.size ≤ wA9.heap.size := by have := g29.size; simp at this; omega
        clear q09 q009 q19 q29 o29 g29 p29
        have BSres9 := ap9.box BRres9 (by omega)
        have BSn9 := ap9.box BRn9 (by omega)
        have KS9 := ap9.kids
        have AS9 := ap9.at_
        have A39 := AS9.set BSn9 hb10 6 (Value.slice (some { block := g9, off := 0 }) (2 + 1) cap9)
        have B40 := BSres9.far (b' := w1.heap.size) (i := 6) (by omega) (Value.slice (some { block := g9, off := 0 }) (2 + 1) cap9)
        have B41 := BSn9.set 6 (Value.slice (some { block := g9, off := 0 }) (2 + 1) cap9)
        have sz42 : (wA9.setCell { block := w1.heap.size, off := 6 } (Value.slice (some { block := g9, off := 0 }) (2 + 1) cap9)).heap.size = wA9.heap.size := by simp [World.setCell]
        have KF9 := Kids.far (b := w1.heap.size) (i := 6) (by omega) (Value.slice (some { block := g9, off := 0 }) (2 + 1) cap9) KS9
        obtain ⟨w9, hy43⟩ : ∃ Y, (wA9.setCell { block := w1.heap.size, off := 6 } (Value.slice (some { block := g9, off := 0 }) (2 + 1) cap9)) = Y := ⟨_, rfl⟩
        rw [hy43] at A39 sz42 B40 B41 KF9 ⊢
        clear hy43
        have B44 : Box w9 (W.heap.size) 25 #[Value.int IntKind.i64 0, Value.string { data := #[] }, Value.string { data := #[] }, Value.int IntKind.u64 0, Value.int IntKind.i64 0, Value.int IntKind.i64 0, Value.slice none 0 0] := B40
        have B45 : Box w9 (w1.heap.size) 25 #[Value.int IntKind.i64 15, Value.string { data := #[] }, Value.string { data := #[] }, Value.int IntKind.u64 0, Value.int IntKind.i64 0, Value.int IntKind.i64 a, Value.slice (some { block := g9, off := 0 }) (2 + 1) cap9] := B41
        have c46 : w9.cell? ⟨w1.heap.size, 0, none⟩ = some (Value.int IntKind.i64 15) := B45.cell 0
        have c47 : w9.cell? ⟨w1.heap.size, 1, none⟩ = some (Value.string { data := #[] }) := B45.cell 1
        have c48 : w9.cell? ⟨w1.heap.size, 2, none⟩ = some (Value.string { data := #[] }) := B45.cell 2
        have c49 : w9.cell? ⟨w1.heap.size, 3, none⟩ = some (Value.int IntKind.u64 0) := B45.cell 3
        have c50 : w9.cell? ⟨w1.heap.size, 4, none⟩ = some (Value.int IntKind.i64 0) := B45.cell 4
        have c51 : w9.cell? ⟨w1.heap.size, 5, none⟩ = some (Value.int IntKind.i64 a) := B45.cell 5
        have c52 : w9.cell? ⟨w1.heap.size, 6, none⟩ = some (Value.slice (some { block := g9, off := 0 }) (2 + 1) cap9) := B45.cell 6
        have fz53 := B45.free
        have c54 : w9.cell? ⟨W.heap.size, 0, none⟩ = some (Value.int IntKind.i64 0) := B44.cell 0
        have c55 : w9.cell? ⟨W.heap.size, 1, none⟩ = some (Value.string { data := #[] }) := B44.cell 1
        have c56 : w9.cell? ⟨W.heap.size, 2, none⟩ = some (Value.string { data := #[] }) := B44.cell 2
        have c57 : w9.cell? ⟨W.heap.size, 3, none⟩ = some (Value.int IntKind.u64 0) := B44.cell 3
        have c58 : w9.cell? ⟨W.heap.size, 4, none⟩ = some (Value.int IntKind.i64 0) := B44.cell 4
        have c59 : w9.cell? ⟨W.heap.size, 5, none⟩ = some (Value.int IntKind.i64 0) := B44.cell 5
        have c60 : w9.cell? ⟨W.heap.size, 6, none⟩ = some (Value.slice none 0 0) := B44.cell 6
        have fz61 := B44.free
        go_wp2
        refine bodyPost_ret (v := .agg #[Value.int IntKind.i64 15, Value.string { data := #[] }, Value.string { data := #[] }, Value.int IntKind.u64 0, Value.int IntKind.i64 0, Value.int IntKind.i64 a, Value.slice (some { block := g9, off := 0 }) (2 + 1) cap9]) ?_ rfl ?_
        · simp [results, Tryz.results108, go_sem, c54, c55, c56, c57, c58, c59, c60]
        · exact (A39.fill B44 (Nat.le_refl _) _ _ _ _ _ _ _).ok HQR9 ⟨_, _, rfl, nodeAt_le (M := w1.heap.size + 1) (by omega) (nodeAt_fill (M := w1.heap.size + 1) (by omega) _ _ _ _ _ _ _ (KF9.node _ _ _ _ _ _))⟩
    · have hel1 : (wd E.ts s4.nx == [101, 108, 115, 101]) = false := by simpa [kElse] using hel
      have HY := Lib.hid (HF.out.trans (if_neg hel))
      have c28 : w6.cell? ⟨w1.heap.size, 0, none⟩ = some (Value.int IntKind.i64 15) := BDn.cell 0
      have c29 : w6.cell? ⟨w1.heap.size, 1, none⟩ = some (Value.string { data := #[] }) := BDn.cell 1
      have c30 : w6.cell? ⟨w1.heap.size, 2, none⟩ = some (Value.string { data := #[] }) := BDn.cell 2
      have c31 : w6.cell? ⟨w1.heap.size, 3, none⟩ = some (Value.int IntKind.u64 0) := BDn.cell 3
      have c32 : w6.cell? ⟨w1.heap.size, 4, none⟩ = some (Value.int IntKind.i64 0) := BDn.cell 4
      have c33 : w6.cell? ⟨w1.heap.size, 5, none⟩ = some (Value.int IntKind.i64 a) := BDn.cell 5
      have c34 : w6.cell? ⟨w1.heap.size, 6, none⟩ = some (Value.slice (some { block := gA, off := 0 }) (0 + 2) capA) := BDn.cell 6
      have fz35 := BDn.free
      have c36 : w6.cell? ⟨W.heap.size, 0, none⟩ = some (Value.int IntKind.i64 0) := BDres.cell 0
      have c37 : w6.cell? ⟨W.heap.size, 1, none⟩ = some (Value.string { data := #[] }) := BDres.cell 1
      have c38 : w6.cell? ⟨W.heap.size, 2, none⟩ = some (Value.string { data := #[] }) := BDres.cell 2
      have c39 : w6.cell? ⟨W.heap.size, 3, none⟩ = some (Value.int IntKind.u64 0) := BDres.cell 3
      have c40 : w6.cell? ⟨W.heap.size, 4, none⟩ = some (Value.int IntKind.i64 0) := BDres.cell 4
      have c41 : w6.cell? ⟨W.heap.size, 5, none⟩ = some (Value.int IntKind.i64 0) := BDres.cell 5
      have c42 : w6.cell? ⟨W.heap.size, 6, none⟩ = some (Value.slice none 0 0) := BDres.cell 6
      have fz43 := BDres.free
      go_wp2
      refine bodyPost_ret (v := .agg #[Value.int IntKind.i64 15, Value.string { data := #[] }, Value.string { data := #[] }, Value.int IntKind.u64 0, Value.int IntKind.i64 0, Value.int IntKind.i64 a, Value.slice (some { block := gA, off := 0 }) (0 + 2) capA]) ?_ rfl ?_
      · simp [results, Tryz.results108, go_sem, c36, c37, c38, c39, c40, c41, c42]
      · exact (AD.fill BDres (Nat.le_refl _) _ _ _ _ _ _ _).ok HY ⟨_, _, rfl, nodeAt_le (M := w1.heap.size + 1) (by omega) (nodeAt_fill (M := w1.heap.size + 1) (by omega) _ _ _ _ _ _ _ (KD.node _ _ _ _ _ _))⟩

end Go.Proofs.YtmkehecapjdfdaaGreatDoor

/- Conversions. -/
namespace Go.Proofs.YtmkehecapjdfdaaGreatDoor
open Go.RowKit

set_option maxRecDepth 100000 in
set_option maxHeartbeats 1600000 in
theorem cast_any {E : Env} {W : World} {dp : Nat} {s : St} (kind a0 : Nat) {x : PM T} (he : CE E dp x) (h : RS E 20 W dp s) :
    Calls Tryz.prog 165 #[.pointer (some ⟨E.r, 0, none⟩), .agg #[Value.int IntKind.i64 kind, Value.string { data := #[] }, Value.string { data := #[] }, Value.int IntKind.u64 0, Value.int IntKind.i64 0, Value.int IntKind.i64 a0, Value.slice none 0 0]] W (PostR E W dp (RNodeX W.heap.size) (cast E.ts x kind a0 s)) := by
  have A0 := At.start h
  have HQ0 : Hid (cast E.ts x kind a0 s = bnd (width E.ts) (fun z => bnd (take E.ts pLP) fun _ => bnd x fun a => bnd (take E.ts pRP) fun _ => ret (.mk kind [] [] 0 z a0 [a])) s) := Lib.hid rfl
  generalize hM : cast E.ts x kind a0 s = M at *
  clear hM
  have hb1 := A0.size
  have B2 := Box.new (W) 25 #[Value.int IntKind.i64 kind, Value.string { data := #[] }, Value.string { data := #[] }, Value.int IntKind.u64 0, Value.int IntKind.i64 0, Value.int IntKind.i64 a0, Value.slice none 0 0]
  have A3 := A0.alloc (Obj.cells #[Value.int IntKind.i64 kind, Value.string { data := #[] }, Value.string { data := #[] }, Value.int IntKind.u64 0, Value.int IntKind.i64 0, Value.int IntKind.i64 a0, Value.slice none 0 0] 25)
  have sz4 : (W.alloc (Obj.cells #[Value.int IntKind.i64 kind, Value.string { data := #[] }, Value.string { data := #[] }, Value.int IntKind.u64 0, Value.int IntKind.i64 0, Value.int IntKind.i64 a0, Value.slice none 0 0] 25)).heap.size = W.heap.size + 1 := by simp
  have B5 := B2.alloc (Obj.cells #[Value.int IntKind.i64 0, Value.string { data := #[] }, Value.string { data := #[] }, Value.int IntKind.u64 0, Value.int IntKind.i64 0, Value.int IntKind.i64 0, Value.slice none 0 0] 25)
  have B6 := Box.new2 W (Obj.cells #[Value.int IntKind.i64 kind, Value.string { data := #[] }, Value.string { data := #[] }, Value.int IntKind.u64 0, Value.int IntKind.i64 0, Value.int IntKind.i64 a0, Value.slice none 0 0] 25) 25 #[Value.int IntKind.i64 0, Value.string { data := #[] }, Value.string { data := #[] }, Value.int IntKind.u64 0, Value.int IntKind.i64 0, Value.int IntKind.i64 0, Value.slice none 0 0]
  have A7 := A3.alloc (Obj.cells #[Value.int IntKind.i64 0, Value.string { data := #[] }, Value.string { data := #[] }, Value.int IntKind.u64 0, Value.int IntKind.i64 0, Value.int IntKind.i64 0, Value.slice none 0 0] 25)
  have sz8 : ((W.alloc (Obj.cells #[Value.int IntKind.i64 kind, Value.string { data := #[] }, Value.string { data := #[] }, Value.int IntKind.u64 0, Value.int IntKind.i64 0, Value.int IntKind.i64 a0, Value.slice none 0 0] 25)).alloc (Obj.cells #[Value.int IntKind.i64 0, Value.string { data := #[] }, Value.string { data := #[] }, Value.int IntKind.u64 0, Value.int IntKind.i64 0, Value.int IntKind.i64 0, Value.slice none 0 0] 25)).heap.size = W.heap.size + 2 := by simp
  have hb9 : W.heap.size ≤ W.heap.size + 1 := by omega
  obtain ⟨i0, hi, hz0, hz1, hz2⟩ := info_parts Tryz.infoNode
  go_enter Tryz.func165, Tryz.ntmps165
  go_wp2_with fail
  refine (width_any A7.rs).mono ?_
  intro e w1 H
  rcases H.cases with ⟨z, s1, v, hm10, rfl, rfl, R, K⟩ | ⟨l, s', ch, hm, rfl, H1⟩
  rotate_left 1
  · exact ⟨rfl, A7.out HQ0 hm H1⟩
  have A11 := A7.call R K
  have HQ12 := hq_ok HQ0 hm10
  have B13 : Box w1 (W.heap.size) 25 #[Value.int IntKind.i64 kind, Value.string { data := #[] }, Value.string { data := #[] }, Value.int IntKind.u64 0, Value.int IntKind.i64 0, Value.int IntKind.i64 a0, Value.slice none 0 0] := B5.kept K (by decide)
  have B14 : Box w1 ((W.heap.size + 1)) 25 #[Value.int IntKind.i64 0, Value.string { data := #[] }, Value.string { data := #[] }, Value.int IntKind.u64 0, Value.int IntKind.i64 0, Value.int IntKind.i64 0, Value.slice none 0 0] := B6.kept K (by decide)
  have sz15 := K.size
  clear HQ0 hm10 H R K
  have c16 : w1.cell? ⟨W.heap.size, 4, none⟩ = some (Value.int IntKind.i64 0) := B13.cell 4
  have fz17 := B13.free
  have A18 := A11.set B13 hb1 4 (Value.int IntKind.i64 z)
  have B19 := B14.far (b' := W.heap.size) (i := 4) (by omega) (Value.int IntKind.i64 z)
  have B20 := B13.set 4 (Value.int IntKind.i64 z)
  have sz21 : (w1.setCell { block := W.heap.size, off := 4 } (Value.int IntKind.i64 z)).heap.size = w1.heap.size := by simp [World.setCell]
  go_wp2_with fail
  refine (take_any pLP (by decide) A18.rs).mono ?_
  intro e w2 H
  rcases H.cases with ⟨t1, s2, v, hm22, rfl, rfl, R, K⟩ | ⟨l, s', ch, hm, rfl, H1⟩
  rotate_left 1
  · exact ⟨rfl, A18.out HQ12 hm H1⟩
  have A23 := A18.call R K
  have HQ24 := hq_ok HQ12 hm22
  have B25 : Box w2 (W.heap.size) 25 #[Value.int IntKind.i64 kind, Value.string { data := #[] }, Value.string { data := #[] }, Value.int IntKind.u64 0, Value.int IntKind.i64 z, Value.int IntKind.i64 a0, Value.slice none 0 0] := B20.kept K (by decide)
  have B26 : Box w2 ((W.heap.size + 1)) 25 #[Value.int IntKind.i64 0, Value.string { data := #[] }, Value.string { data := #[] }, Value.int IntKind.u64 0, Value.int IntKind.i64 0, Value.int IntKind.i64 0, Value.slice none 0 0] := B19.kept K (by decide)
  have sz27 := K.size
  clear HQ12 hm22 H R K
  go_wp2_with fail
  have c28 : w2.cell? ⟨W.heap.size, 6, none⟩ = some (Value.slice none 0 0) := B25.cell 6
  have fz29 := B25.free
  have ltr := A23.rs.lt
  have hMs : W.heap.size + 2 ≤ w2.heap.size := by omega
  go_region_law (first
    | (go_simp; go_at_call 161; refine (he _ _ A23.drew.rs).mono ?_; intro e w3 H; rcases H.cases with ⟨t, s3, v, hm, rfl, ⟨KA, KC, rfl, nd⟩, R, K⟩ | ⟨l, s', ch, hm, rfl, H1⟩; rotate_left 1; exact ⟨rfl, A23.drew.out HQ24 hm H1⟩; have AR := A23.drew.call R K; have HQR := hq_ok HQ24 hm; have BRn : Box w3 (W.heap.size) 25 #[Value.int IntKind.i64 kind, Value.string { data := #[] }, Value.string { data := #[] }, Value.int IntKind.u64 0, Value.int IntKind.i64 z, Value.int IntKind.i64 a0, Value.slice none 0 0] := Box.kept (w := w2.drew) B25 K (by decide); have BRres : Box w3 ((W.heap.size + 1)) 25 #[Value.int IntKind.i64 0, Value.string { data := #[] }, Value.string { data := #[] }, Value.int IntKind.u64 0, Value.int IntKind.i64 0, Value.int IntKind.i64 0, Value.slice none 0 0] := Box.kept (w := w2.drew) B26 K (by decide); have q0 : ∀ o, (w3.alloc o).cell? ⟨W.heap.size, 6, none⟩ = some (Value.slice none 0 0) := fun o => (BRn.alloc o).cell 6; have q00 := BRn.cell 6; have szR : w2.heap.size ≤ w3.heap.size := K.size; clear K R H hm)
    | (refine step_append_lies _ rfl (.tmp 11) (.tmp 14) 23 rfl (W.heap.size + 2) 25 i0 _ 7 88 Tryz.underlying23 hi hz0 hz1 hz2 rfl (by decide) (Value.slice none 0 0) 0 [] (by simp [Act.eval]) (World.ownsRow.alloc (World.ownsRow_nil _ _ _ _) _) ⟨w3.heap.size, 0, none⟩ 1 1 (nodeCells t (.slice KA (t).kids.length KC)) (by simp [Act.eval]) rfl (by exact World.news_of_block (heap_alloc_new _ _)) (nodeCells_one _ _ _ _) (by decide) (by unfold maxLen; omega) (by omega) (by first | omega | (simp <;> omega)) _ rfl ?_; intro g cap wA o2 g2 p2 z2; have ap := appended AR (by omega) (World.ownsRow_nil _ _ _ _) (show rowAt _ _ [] [] from rfl) (rowAt_fresh nd (by first | omega | (simp <;> omega)) no_own) o2 g2 p2; have q1 : wA.cell? ⟨W.heap.size, 6, none⟩ = some (Value.slice none 0 0) := (ap.box BRn (by omega)).cell 6; have q2 := (ap.box BRn (by omega)).free 6))
  all_goals
    have szA : w3.heap.size ≤ wA.heap.size := by have := g2.size; simp at this; omega
    clear q0 q00 q1 q2 o2 g2 p2
    have BSn := ap.box BRn (by omega)
    have BSres := ap.box BRres (by omega)
    have KS := ap.kids
    have AS := ap.at_
    have A30 := AS.set BSn hb1 6 (Value.slice (some { block := g, off := 0 }) (0 + 1) cap)
    have B31 := BSres.far (b' := W.heap.size) (i := 6) (by omega) (Value.slice (some { block := g, off := 0 }) (0 + 1) cap)
    have B32 := BSn.set 6 (Value.slice (some { block := g, off := 0 }) (0 + 1) cap)
    have sz33 : (wA.setCell { block := W.heap.size, off := 6 } (Value.slice (some { block := g, off := 0 }) (0 + 1) cap)).heap.size = wA.heap.size := by simp [World.setCell]
    have KF := Kids.far (b := W.heap.size) (i := 6) (by omega) (Value.slice (some { block := g, off := 0 }) (0 + 1) cap) KS
    obtain ⟨w4, hy34⟩ : ∃ Y, (wA.setCell { block := W.heap.size, off := 6 } (Value.slice (some { block := g, off := 0 }) (0 + 1) cap)) = Y := ⟨_, rfl⟩
    rw [hy34] at A30 sz33 B32 B31 KF ⊢
    clear hy34
    have B35 : Box w4 (W.heap.size) 25 #[Value.int IntKind.i64 kind, Value.string { data := #[] }, Value.string { data := #[] }, Value.int IntKind.u64 0, Value.int IntKind.i64 z, Value.int IntKind.i64 a0, Value.slice (some { block := g, off := 0 }) (0 + 1) cap] := B32
    have B36 : Box w4 ((W.heap.size + 1)) 25 #[Value.int IntKind.i64 0, Value.string { data := #[] }, Value.string { data := #[] }, Value.int IntKind.u64 0, Value.int IntKind.i64 0, Value.int IntKind.i64 0, Value.slice none 0 0] := B31
    go_wp2_with fail
    refine (take_any pRP (by decide) A30.rs).mono ?_
    intro e w5 H
    rcases H.cases with ⟨t3, s5, v, hm37, rfl, rfl, R, K⟩ | ⟨l, s', ch, hm, rfl, H1⟩
    rotate_left 1
    · exact ⟨rfl, A30.out HQR hm H1⟩
    have A38 := A30.call R K
    have HQ39 := hq_ok HQR hm37
    have B40 : Box w5 (W.heap.size) 25 #[Value.int IntKind.i64 kind, Value.string { data := #[] }, Value.string { data := #[] }, Value.int IntKind.u64 0, Value.int IntKind.i64 z, Value.int IntKind.i64 a0, Value.slice (some { block := g, off := 0 }) (0 + 1) cap] := B35.kept K (by decide)
    have B41 : Box w5 ((W.heap.size + 1)) 25 #[Value.int IntKind.i64 0, Value.string { data := #[] }, Value.string { data := #[] }, Value.int IntKind.u64 0, Value.int IntKind.i64 0, Value.int IntKind.i64 0, Value.slice none 0 0] := B36.kept K (by decide)
    have Q42 := Kids.later KF K
    have sz43 := K.size
    clear HQR hm37 H R K
    have c44 : w5.cell? ⟨W.heap.size, 0, none⟩ = some (Value.int IntKind.i64 kind) := B40.cell 0
    have c45 : w5.cell? ⟨W.heap.size, 1, none⟩ = some (Value.string { data := #[] }) := B40.cell 1
    have c46 : w5.cell? ⟨W.heap.size, 2, none⟩ = some (Value.string { data := #[] }) := B40.cell 2
    have c47 : w5.cell? ⟨W.heap.size, 3, none⟩ = some (Value.int IntKind.u64 0) := B40.cell 3
    have c48 : w5.cell? ⟨W.heap.size, 4, none⟩ = some (Value.int IntKind.i64 z) := B40.cell 4
    have c49 : w5.cell? ⟨W.heap.size, 5, none⟩ = some (Value.int IntKind.i64 a0) := B40.cell 5
    have c50 : w5.cell? ⟨W.heap.size, 6, none⟩ = some (Value.slice (some { block := g, off := 0 }) (0 + 1) cap) := B40.cell 6
    have fz51 := B40.free
    have c52 : w5.cell? ⟨(W.heap.size + 1), 0, none⟩ = some (Value.int IntKind.i64 0) := B41.cell 0
    have c53 : w5.cell? ⟨(W.heap.size + 1), 1, none⟩ = some (Value.string { data := #[] }) := B41.cell 1
    have c54 : w5.cell? ⟨(W.heap.size + 1), 2, none⟩ = some (Value.string { data := #[] }) := B41.cell 2
    have c55 : w5.cell? ⟨(W.heap.size + 1), 3, none⟩ = some (Value.int IntKind.u64 0) := B41.cell 3
    have c56 : w5.cell? ⟨(W.heap.size + 1), 4, none⟩ = some (Value.int IntKind.i64 0) := B41.cell 4
    have c57 : w5.cell? ⟨(W.heap.size + 1), 5, none⟩ = some (Value.int IntKind.i64 0) := B41.cell 5
    have c58 : w5.cell? ⟨(W.heap.size + 1), 6, none⟩ = some (Value.slice none 0 0) := B41.cell 6
    have fz59 := B41.free
    go_wp2
    refine bodyPost_ret (v := .agg #[Value.int IntKind.i64 kind, Value.string { data := #[] }, Value.string { data := #[] }, Value.int IntKind.u64 0, Value.int IntKind.i64 z, Value.int IntKind.i64 a0, Value.slice (some { block := g, off := 0 }) (0 + 1) cap]) ?_ rfl ?_
    · simp [results, Tryz.results165, go_sem, c52, c53, c54, c55, c56, c57, c58]
    · exact (A38.fill B41 (by omega) _ _ _ _ _ _ _).ok HQ39 ⟨_, _, rfl, nodeAt_le (M := W.heap.size + 2) (by omega) (nodeAt_fill (M := W.heap.size + 2) (by omega) _ _ _ _ _ _ _ (Q42.node _ _ _ _ _ _))⟩

set_option maxRecDepth 100000 in
set_option maxHeartbeats 1600000 in
theorem readSext_any {E : Env} {W : World} {dp : Nat} {s : St} {x : PM T} (he : CE E dp x) (h : RS E 20 W dp s) :
    Calls Tryz.prog 119 #[.pointer (some ⟨E.r, 0, none⟩)] W (PostR E W dp (RNodeX W.heap.size) (readSext E.ts x s)) := by
  have A0 := At.start h
  have HQ0 : Hid (readSext E.ts x s = bnd (begin_ E.ts 30 kSext) (fun n => cast E.ts x 30 n.at_) s) := Lib.hid rfl
  generalize hM : readSext E.ts x s = M at *
  clear hM
  have hb1 := A0.size
  have B2 := Box.new (W) 25 #[Value.int IntKind.i64 0, Value.string { data := #[] }, Value.string { data := #[] }, Value.int IntKind.u64 0, Value.int IntKind.i64 0, Value.int IntKind.i64 0, Value.slice none 0 0]
  have A3 := A0.alloc (Obj.cells #[Value.int IntKind.i64 0, Value.string { data := #[] }, Value.string { data := #[] }, Value.int IntKind.u64 0, Value.int IntKind.i64 0, Value.int IntKind.i64 0, Value.slice none 0 0] 25)
  have sz4 : (W.alloc (Obj.cells #[Value.int IntKind.i64 0, Value.string { data := #[] }, Value.string { data := #[] }, Value.int IntKind.u64 0, Value.int IntKind.i64 0, Value.int IntKind.i64 0, Value.slice none 0 0] 25)).heap.size = W.heap.size + 1 := by simp
  go_enter Tryz.func119, Tryz.ntmps119
  go_wp2_with fail
  refine (begin_any 30 kSext (by decide) A3.rs).mono ?_
  intro e w1 H
  rcases H.cases with ⟨n, s1, v, hm5, rfl, ⟨a, rfl, rfl⟩, R, K⟩ | ⟨l, s', ch, hm, rfl, H1⟩
  rotate_left 1
  · exact ⟨rfl, A3.out HQ0 hm H1⟩
  have A6 := A3.call R K
  have HQ7 := hq_ok HQ0 hm5
  have B8 : Box w1 (W.heap.size) 25 #[Value.int IntKind.i64 0, Value.string { data := #[] }, Value.string { data := #[] }, Value.int IntKind.u64 0, Value.int IntKind.i64 0, Value.int IntKind.i64 0, Value.slice none 0 0] := B2.kept K (by decide)
  have sz9 := K.size
  clear HQ0 hm5 H R K
  have HV := hq_ret HQ7
  go_wp2_with fail
  refine (cast_any 30 a he A6.rs).mono ?_
  intro e w2 H
  rcases H.cases with ⟨t, s2, v, hm10, rfl, ⟨KA, KC, rfl, nd⟩, R, K⟩ | ⟨l, s', ch, hm, rfl, H1⟩
  rotate_left 1
  · exact ⟨rfl, A6.out HV hm H1⟩
  have A11 := A6.call R K
  have HQ12 := hq_ok HV hm10
  have B13 : Box w2 (W.heap.size) 25 #[Value.int IntKind.i64 0, Value.string { data := #[] }, Value.string { data := #[] }, Value.int IntKind.u64 0, Value.int IntKind.i64 0, Value.int IntKind.i64 0, Value.slice none 0 0] := B8.kept K (by decide)
  have sz14 := K.size
  clear HV hm10 H R K
  have c15 : w2.cell? ⟨W.heap.size, 0, none⟩ = some (Value.int IntKind.i64 0) := B13.cell 0
  have c16 : w2.cell? ⟨W.heap.size, 1, none⟩ = some (Value.string { data := #[] }) := B13.cell 1
  have c17 : w2.cell? ⟨W.heap.size, 2, none⟩ = some (Value.string { data := #[] }) := B13.cell 2
  have c18 : w2.cell? ⟨W.heap.size, 3, none⟩ = some (Value.int IntKind.u64 0) := B13.cell 3
  have c19 : w2.cell? ⟨W.heap.size, 4, none⟩ = some (Value.int IntKind.i64 0) := B13.cell 4
  have c20 : w2.cell? ⟨W.heap.size, 5, none⟩ = some (Value.int IntKind.i64 0) := B13.cell 5
  have c21 : w2.cell? ⟨W.heap.size, 6, none⟩ = some (Value.slice none 0 0) := B13.cell 6
  have fz22 := B13.free
  go_wp2
  refine bodyPost_ret (v := .agg #[Value.int IntKind.i64 (t).kind, Value.string { data := (t).name.toArray }, Value.string { data := (t).part.toArray }, Value.int IntKind.u64 (t).num, Value.int IntKind.i64 (t).wid, Value.int IntKind.i64 (t).at_, Value.slice KA t.kids.length KC]) ?_ rfl ?_
  · simp [results, Tryz.results119, go_sem, c15, c16, c17, c18, c19, c20, c21]
  · exact (A11.fill B13 (Nat.le_refl _) _ _ _ _ _ _ _).ok HQ12 ⟨_, _, rfl, nodeAt_le (M := w1.heap.size) (by omega) (nodeAt_fill (M := w1.heap.size) (by omega) _ _ _ _ _ _ _ nd)⟩

set_option maxRecDepth 100000 in
set_option maxHeartbeats 1600000 in
theorem readCast_any {E : Env} {W : World} {dp : Nat} {s : St} {x : PM T} (he : CE E dp x) (h : RS E 20 W dp s) :
    Calls Tryz.prog 122 #[.pointer (some ⟨E.r, 0, none⟩)] W (PostR E W dp (RNodeX W.heap.size) (readCast E.ts x s)) := by
  have A0 := At.start h
  have HQ0 : Hid (readCast E.ts x s = bnd (cast E.ts x 29 (tk E.ts s.nx).off) (fun t => ret t) s) := Lib.hid (bnd_ret _ s).symm
  generalize hM : readCast E.ts x s = M at *
  clear hM
  have hb1 := A0.size
  have B2 := Box.new (W) 25 #[Value.int IntKind.i64 0, Value.string { data := #[] }, Value.string { data := #[] }, Value.int IntKind.u64 0, Value.int IntKind.i64 0, Value.int IntKind.i64 0, Value.slice none 0 0]
  have A3 := A0.alloc (Obj.cells #[Value.int IntKind.i64 0, Value.string { data := #[] }, Value.string { data := #[] }, Value.int IntKind.u64 0, Value.int IntKind.i64 0, Value.int IntKind.i64 0, Value.slice none 0 0] 25)
  have sz4 : (W.alloc (Obj.cells #[Value.int IntKind.i64 0, Value.string { data := #[] }, Value.string { data := #[] }, Value.int IntKind.u64 0, Value.int IntKind.i64 0, Value.int IntKind.i64 0, Value.slice none 0 0] 25)).heap.size = W.heap.size + 1 := by simp
  go_enter Tryz.func122, Tryz.ntmps122
  go_wp2_with fail
  refine (here_any A3.rs).mono ?_
  rintro e w1 ⟨rfl, D⟩
  have AD := A3.later D.below
  have BD := B2.below D.below
  have szD : (W.alloc (Obj.cells #[Value.int IntKind.i64 0, Value.string { data := #[] }, Value.string { data := #[] }, Value.int IntKind.u64 0, Value.int IntKind.i64 0, Value.int IntKind.i64 0, Value.slice none 0 0] 25)).heap.size ≤ w1.heap.size := D.below.size
  clear D
  go_wp2_with fail
  refine (cast_any 29 _ he AD.rs).mono ?_
  intro e w2 H
  rcases H.cases with ⟨t, s2, v, hm5, rfl, ⟨KA, KC, rfl, nd⟩, R, K⟩ | ⟨l, s', ch, hm, rfl, H1⟩
  rotate_left 1
  · exact ⟨rfl, AD.out HQ0 hm H1⟩
  have A6 := AD.call R K
  have HQ7 := hq_ok HQ0 hm5
  have B8 : Box w2 (W.heap.size) 25 #[Value.int IntKind.i64 0, Value.string { data := #[] }, Value.string { data := #[] }, Value.int IntKind.u64 0, Value.int IntKind.i64 0, Value.int IntKind.i64 0, Value.slice none 0 0] := BD.kept K (by decide)
  have sz9 := K.size
  clear HQ0 hm5 H R K
  have c10 : w2.cell? ⟨W.heap.size, 0, none⟩ = some (Value.int IntKind.i64 0) := B8.cell 0
  have c11 : w2.cell? ⟨W.heap.size, 1, none⟩ = some (Value.string { data := #[] }) := B8.cell 1
  have c12 : w2.cell? ⟨W.heap.size, 2, none⟩ = some (Value.string { data := #[] }) := B8.cell 2
  have c13 : w2.cell? ⟨W.heap.size, 3, none⟩ = some (Value.int IntKind.u64 0) := B8.cell 3
  have c14 : w2.cell? ⟨W.heap.size, 4, none⟩ = some (Value.int IntKind.i64 0) := B8.cell 4
  have c15 : w2.cell? ⟨W.heap.size, 5, none⟩ = some (Value.int IntKind.i64 0) := B8.cell 5
  have c16 : w2.cell? ⟨W.heap.size, 6, none⟩ = some (Value.slice none 0 0) := B8.cell 6
  have fz17 := B8.free
  go_wp2
  refine bodyPost_ret (v := .agg #[Value.int IntKind.i64 (t).kind, Value.string { data := (t).name.toArray }, Value.string { data := (t).part.toArray }, Value.int IntKind.u64 (t).num, Value.int IntKind.i64 (t).wid, Value.int IntKind.i64 (t).at_, Value.slice KA t.kids.length KC]) ?_ rfl ?_
  · simp [results, Tryz.results122, go_sem, c10, c11, c12, c13, c14, c15, c16]
  · exact (A6.fill B8 (Nat.le_refl _) _ _ _ _ _ _ _).ok HQ7 ⟨_, _, rfl, nodeAt_le (M := w1.heap.size) (by omega) (nodeAt_fill (M := w1.heap.size) (by omega) _ _ _ _ _ _ _ nd)⟩

end Go.Proofs.YtmkehecapjdfdaaGreatDoor
