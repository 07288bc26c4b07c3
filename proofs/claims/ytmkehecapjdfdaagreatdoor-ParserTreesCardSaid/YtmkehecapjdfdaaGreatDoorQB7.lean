/- Joined texts: PArg, PVar, PAsg. -/
import Derived.Test.YtmkehecapjdfdaaGreatDoorQB2
import Derived.Test.YtmkehecapjdfdaaGreatDoorQB1
import Derived.Deep.AppendLies
import Derived.Test.YtmkehecapjdfdaaGreatDoorQB4
import Derived.Deep.RegionLaw

/- The expressions of a call. -/
namespace Go.Proofs.YtmkehecapjdfdaaGreatDoor
open Go.RowKit

def RKidsX (B : Nat) (w : World) (l : List T) (v : Value) : Prop := ∃ A c, v = .slice A l.length c ∧ Kids w B l (.slice A l.length c)
/-- The next token's number, as the reader's block has it. -/
def nxOf (w : World) (r : Nat) : Nat := match w.cell? ⟨r, 1, none⟩ with
  | some (.int _ k) => k.toNat
  | _ => 0
theorem nxOf_rs {E : Env} {N : Nat} {w : World} {dp : Nat} {s : St} (h : RS E N w dp s) : nxOf w E.r = s.nx := by
  obtain ⟨dv, _, r1, _⟩ := h.cells
  unfold nxOf
  rw [r1]
  simp
theorem bnd_to {α β : Type} {m m' : PM α} {k : α → PM β} {s s' : St} (h : m s = m' s') : bnd m k s = bnd m' k s' := by unfold bnd; rw [h]
theorem bnd_bnd {α β γ : Type} (m : PM α) (f : α → PM β) (k : β → PM γ) (s : St) : bnd (bnd m f) k s = bnd m (fun a => bnd (f a) k) s := by
  unfold bnd
  cases m s <;> rfl
theorem Drew.kept {w w' : World} (h : Drew w w') {B : Nat} (hB : B ≤ w.heap.size) : Kept B w w' := Kept.of h.below hB

def ArgRel (E : Env) (x : PM T) (W : World) (dp : Nat) (M : Res (List T)) (v : Value) (wr : World) : Prop :=
  ∃ (l : List T) (A : Option Addr) (c : Nat) (s2 : St) (g : Nat), v = .slice A l.length c ∧ At E W wr dp s2 ∧ Kids wr W.heap.size l (.slice A l.length c) ∧
    Hid (M = bnd (argsMore E.ts x g l) (fun l => bnd (take E.ts pRP) fun _ => ret l) s2) ∧ E.ts.length - s2.nx ≤ g ∧ l.length ≤ s2.nx
set_option maxRecDepth 100000 in
set_option maxHeartbeats 3200000 in
theorem arguments_any {E : Env} {W : World} {dp : Nat} {s : St} {x : PM T} (hx : Mv 1 x) (he : CE E dp x) (h : RS E 20 W dp s) :
    Calls Tryz.prog 166 #[.pointer (some ⟨E.r, 0, none⟩)] W (PostR E W dp (RKidsX W.heap.size) (arguments E.ts x s)) := by
  have A0 := At.start h
  have HQ0 : Hid (arguments E.ts x s = bnd (take E.ts pLP) (fun _ => bnd (argsMore E.ts x E.ts.length []) fun l => bnd (take E.ts pRP) fun _ => ret l) s) := Lib.hid rfl
  generalize hM : arguments E.ts x s = M at *
  clear hM
  obtain ⟨i0, hi, hz0, hz1, hz2⟩ := info_parts Tryz.infoNode
  go_enter Tryz.func166, Tryz.ntmps166
  go_wp2_with fail
  refine (take_any pLP (by decide) A0.rs).mono ?_
  intro e w1 H
  rcases H.cases with ⟨t1, s1, v, hm, rfl, rfl, R, K⟩ | ⟨l, s', ch, hm, rfl, H1⟩
  rotate_left 1
  · exact ⟨rfl, A0.out HQ0 hm H1⟩
  have A1 := A0.call R K
  have HQ1 := hq_ok HQ0 hm
  clear HQ0 hm H R K A0
  go_wp2_with fail
  go_loopw [3] (fun v wr => ArgRel E x W dp M v wr) (fun _ wr => E.ts.length - nxOf wr E.r)
  case atStart => exact ⟨[], none, 0, s1, _, rfl, A1, Kids.nil _ _, HQ1, by omega, by simp⟩
  case round =>
    rename_i wr
    obtain ⟨l, A, c, s2, g, rfl, Ar, Kr, HQ, hg, hl⟩ := hrel
    clear A1 HQ1
    have hnx := Ar.rs.hnx
    have hf := Ar.rs.good.few
    have hwr := Ar.size
    obtain ⟨g', rfl⟩ : ∃ g', g = g' + 1 := ⟨g - 1, by omega⟩
    go_wp2_with fail
    refine (word_any Ar.rs).mono ?_
    rintro e w2 ⟨rfl, D⟩
    have A2 := Ar.later D.below
    have K2 := Kr.later (D.kept Ar.rs.baselt)
    have hw2 := A2.size
    by_cases hw : wd E.ts s2.nx = pRP
    · have hb : (wd E.ts s2.nx == [41]) = true := by rw [hw]; rfl
      have HQ2 : Hid (M = bnd (take E.ts pRP) (fun _ => ret l) s2) := Lib.hid (by
        rw [HQ.out, bnd_ok (show argsMore E.ts x (g' + 1) l s2 = .ok l s2 by simp only [argsMore]; rw [if_pos hw])])
      clear hw HQ D
      go_wp2_with fail
      refine (take_any pRP (by decide) A2.rs).mono ?_
      intro e w3 H
      rcases H.cases with ⟨t3, s3, v, hm, rfl, rfl, R, K⟩ | ⟨l, s', ch, hm, rfl, H1⟩
      rotate_left 1
      · exact ⟨rfl, A2.out HQ2 hm H1⟩
      have A3 := A2.call R K
      have HQ3 := hq_ok HQ2 hm
      have K3 := K2.later K
      clear HQ2 hm H R K
      go_wp2
      go_ret
      exact A3.ok HQ3 ⟨A, c, rfl, K3⟩
    · have hb : (wd E.ts s2.nx == [41]) = false := by simpa [pRP] using hw
      by_cases hl0 : l = []
      case' pos =>
        have hlb : ¬ 0 < l.length := by simp [hl0]
        obtain ⟨s3, w3, A3, K3, HQ3, h23, hw3⟩ : ∃ s3 w3, At E W w3 dp s3 ∧ Kids w3 W.heap.size l (.slice A l.length c) ∧ Hid (M = bnd (bnd x fun t => argsMore E.ts x g' (l ++ [t])) (fun l => bnd (take E.ts pRP) fun _ => ret l) s3) ∧ s2.nx ≤ s3.nx ∧ w3 = w2 :=
          ⟨s2, w2, A2, K2, Lib.hid (by rw [HQ.out]; refine bnd_to ?_; simp only [argsMore]; rw [if_neg hw, if_pos hl0]), Nat.le_refl _, rfl⟩
        subst hw3
        clear HQ hw D hl0 K2 A2
        go_wp2_with fail
      case' neg =>
        have hlp : 0 < l.length := List.length_pos_iff.2 hl0
        have HQ2 : Hid (M = bnd (take E.ts pComma) (fun _ => bnd (bnd x fun t => argsMore E.ts x g' (l ++ [t])) (fun l => bnd (take E.ts pRP) fun _ => ret l)) s2) := Lib.hid (by
          rw [HQ.out, ← bnd_bnd]
          refine bnd_to ?_
          simp only [argsMore]
          rw [if_neg hw, if_neg hl0])
        have hlb := hlp
        clear HQ hw D hl0
        go_wp2_with fail
        refine (take_any pComma (by decide) A2.rs).mono ?_
        intro e w3 H
        rcases H.cases with ⟨t3, s3, v, hm, rfl, rfl, R, K⟩ | ⟨l, s', ch, hm, rfl, H1⟩
        rotate_left 1
        · exact ⟨rfl, A2.out HQ2 hm H1⟩
        have A3 := A2.call R K
        have HQ3 := hq_ok HQ2 hm
        have K3 := K2.later K
        have hw3 := A3.size
        have h23 : s2.nx ≤ s3.nx := ((mv_take E.ts pComma).z.ok _ _ _ hm)
        clear HQ2 hm H R K A2 K2 hlp
        go_wp2_with fail
      all_goals
        have HX : Hid (M = bnd x (fun t => bnd (argsMore E.ts x g' (l ++ [t])) (fun l => bnd (take E.ts pRP) fun _ => ret l)) s3) := Lib.hid (by rw [HQ3.out, bnd_bnd])
        have hkl : ∀ g, (Value.slice A l.length c).ownBlock = some g → g < w3.heap.size := by
          obtain ⟨kc3, ko3, _⟩ := K3
          exact fun g hg => (ko3.lt g hg).2
        clear HQ3 hlb hb
        refine (he _ _ A3.rs).mono ?_
        intro e w4 H
        rcases H.cases with ⟨t, s4, v, hm, rfl, ⟨KA, KC, rfl, nd⟩, R, K⟩ | ⟨l, s', ch, hm, rfl, H1⟩
        rotate_left 1
        · exact ⟨rfl, A3.out HX hm H1⟩
        have A4 := A3.call R K
        have HQ4 := hq_ok HX hm
        have K4 := K3.later K
        have h34 := hx.ok _ _ _ hm
        have hw4 := K.size
        obtain ⟨kc, ko, kr⟩ := K4
        clear HX hm H R K A3 K3
        go_wp2_with (at_builtin; refine wpList_append_lies _ rfl (.tmp 14) (.tmp 17) 23 rfl W.heap.size NT i0 _ 7 88 Tryz.underlying23 hi hz0 hz1 hz2 rfl (by decide) (.slice A l.length c) l.length kc (by first | rfl | simp [Act.eval]) (World.ownsRow.alloc ko _) ⟨w4.heap.size, 0, none⟩ 1 1 (nodeCells t (.slice KA t.kids.length KC)) (by first | rfl | simp [Act.eval]) rfl (by exact World.news_of_block (heap_alloc_new _ _)) (nodeCells_one _ _ _ _) (by decide) (by unfold maxLen; omega) (by omega) (by first | omega | (simp <;> omega)) _ rfl ?_)
        intro g cap wA o2 g2 p2 z2
        have ap := appended A4 (Nat.le_refl _) ko kr (rowAt_fresh nd (by omega) hkl) o2 g2 (by simpa using p2)
        clear o2 g2 p2 z2 ko kr nd hkl
        have hn2 := nxOf_rs Ar.rs
        have hn4 := nxOf_rs ap.at_.rs
        clear Ar Kr A4
        go_wp2
        go_roundw
        case rel => exact ⟨l ++ [t], some ⟨g, 0, none⟩, cap, s4, g', by simp, ap.at_, by simpa using ap.kids, HQ4, by omega, by simp; omega⟩
        case measure => rw [hn2, hn4]; omega
end Go.Proofs.YtmkehecapjdfdaaGreatDoor

/- What begins with a name. -/
namespace Go.Proofs.YtmkehecapjdfdaaGreatDoor
open Go.RowKit

set_option maxRecDepth 100000 in
set_option maxHeartbeats 6400000 in
theorem readVariable_any {E : Env} {W : World} {dp : Nat} {s : St} {x : PM T} (hx : Mv 1 x) (he : CE E dp x) (h : RS E 20 W dp s) :
    Calls Tryz.prog 121 #[.pointer (some ⟨E.r, 0, none⟩)] W (PostR E W dp (RNodeX W.heap.size) (readVariable E.ts x s)) := by
  have A0 := At.start h
  have HQ0 : Hid (readVariable E.ts x s = bnd (take E.ts wName) (varRest E.ts x) s) := Lib.hid rfl
  generalize hM : readVariable E.ts x s = M at *
  clear hM
  have hb1 := A0.size
  have B2 := Box.new (W) 25 #[Value.int IntKind.i64 0, Value.string { data := #[] }, Value.string { data := #[] }, Value.int IntKind.u64 0, Value.int IntKind.i64 0, Value.int IntKind.i64 0, Value.slice none 0 0]
  have A3 := A0.alloc (Obj.cells #[Value.int IntKind.i64 0, Value.string { data := #[] }, Value.string { data := #[] }, Value.int IntKind.u64 0, Value.int IntKind.i64 0, Value.int IntKind.i64 0, Value.slice none 0 0] 25)
  have sz4 : (W.alloc (Obj.cells #[Value.int IntKind.i64 0, Value.string { data := #[] }, Value.string { data := #[] }, Value.int IntKind.u64 0, Value.int IntKind.i64 0, Value.int IntKind.i64 0, Value.slice none 0 0] 25)).heap.size = W.heap.size + 1 := by simp
  obtain ⟨i0, hi, hz0, hz1, hz2⟩ := info_parts Tryz.infoNode
  have hfd1 := tokF1
  have hfd3 := tokF3
  go_enter Tryz.func121, Tryz.ntmps121
  go_wp2_with fail
  refine (take_any wName (by decide) A3.rs).mono ?_
  intro e w1 H
  rcases H.cases with ⟨t, s1, v, hm5, rfl, rfl, R, K⟩ | ⟨l, s', ch, hm, rfl, H1⟩
  rotate_left 1
  · exact ⟨rfl, A3.out HQ0 hm H1⟩
  have A6 := A3.call R K
  have HQ7 := hq_ok HQ0 hm5
  have B8 : Box w1 (W.heap.size) 25 #[Value.int IntKind.i64 0, Value.string { data := #[] }, Value.string { data := #[] }, Value.int IntKind.u64 0, Value.int IntKind.i64 0, Value.int IntKind.i64 0, Value.slice none 0 0] := B2.kept K (by decide)
  have sz9 := K.size
  clear HQ0 hm5 H R K
  have hb10 := A6.size
  have B11 := B8.alloc (Obj.cells #[Value.int IntKind.i64 t.kind, Value.string { data := t.text.toArray }, Value.int IntKind.u64 t.num, Value.int IntKind.i64 t.off] 47)
  have lt12 := B8.lt
  have B13 := Box.new (w1) 47 #[Value.int IntKind.i64 t.kind, Value.string { data := t.text.toArray }, Value.int IntKind.u64 t.num, Value.int IntKind.i64 t.off]
  have A14 := A6.alloc (Obj.cells #[Value.int IntKind.i64 t.kind, Value.string { data := t.text.toArray }, Value.int IntKind.u64 t.num, Value.int IntKind.i64 t.off] 47)
  have sz15 : (w1.alloc (Obj.cells #[Value.int IntKind.i64 t.kind, Value.string { data := t.text.toArray }, Value.int IntKind.u64 t.num, Value.int IntKind.i64 t.off] 47)).heap.size = w1.heap.size + 1 := by simp
  have hb16 : W.heap.size ≤ w1.heap.size + 1 := by omega
  have B17 := B11.alloc (Obj.cells #[Value.int IntKind.i64 22, Value.string { data := t.text.toArray }, Value.string { data := #[] }, Value.int IntKind.u64 0, Value.int IntKind.i64 0, Value.int IntKind.i64 t.off, Value.slice none 0 0] 25)
  have B18 := B13.alloc (Obj.cells #[Value.int IntKind.i64 22, Value.string { data := t.text.toArray }, Value.string { data := #[] }, Value.int IntKind.u64 0, Value.int IntKind.i64 0, Value.int IntKind.i64 t.off, Value.slice none 0 0] 25)
  have B19 := Box.new2 w1 (Obj.cells #[Value.int IntKind.i64 t.kind, Value.string { data := t.text.toArray }, Value.int IntKind.u64 t.num, Value.int IntKind.i64 t.off] 47) 25 #[Value.int IntKind.i64 22, Value.string { data := t.text.toArray }, Value.string { data := #[] }, Value.int IntKind.u64 0, Value.int IntKind.i64 0, Value.int IntKind.i64 t.off, Value.slice none 0 0]
  have A20 := A14.alloc (Obj.cells #[Value.int IntKind.i64 22, Value.string { data := t.text.toArray }, Value.string { data := #[] }, Value.int IntKind.u64 0, Value.int IntKind.i64 0, Value.int IntKind.i64 t.off, Value.slice none 0 0] 25)
  have sz21 : ((w1.alloc (Obj.cells #[Value.int IntKind.i64 t.kind, Value.string { data := t.text.toArray }, Value.int IntKind.u64 t.num, Value.int IntKind.i64 t.off] 47)).alloc (Obj.cells #[Value.int IntKind.i64 22, Value.string { data := t.text.toArray }, Value.string { data := #[] }, Value.int IntKind.u64 0, Value.int IntKind.i64 0, Value.int IntKind.i64 t.off, Value.slice none 0 0] 25)).heap.size = w1.heap.size + 2 := by simp
  obtain ⟨M, hM⟩ : ∃ M, M = w1.heap.size + 2 := ⟨_, rfl⟩
  have hWM : W.heap.size + 1 < M := by omega
  go_wp2_with fail
  refine (word_any A20.rs).mono ?_
  rintro e w2 ⟨rfl, D⟩
  have A22 := A20.later D.below
  have BD23 : Box w2 (W.heap.size) 25 #[Value.int IntKind.i64 0, Value.string { data := #[] }, Value.string { data := #[] }, Value.int IntKind.u64 0, Value.int IntKind.i64 0, Value.int IntKind.i64 0, Value.slice none 0 0] := B17.below D.below
  have BD24 : Box w2 (w1.heap.size) 47 #[Value.int IntKind.i64 t.kind, Value.string { data := t.text.toArray }, Value.int IntKind.u64 t.num, Value.int IntKind.i64 t.off] := B18.below D.below
  have BD25 : Box w2 (w1.heap.size + 1) 25 #[Value.int IntKind.i64 22, Value.string { data := t.text.toArray }, Value.string { data := #[] }, Value.int IntKind.u64 0, Value.int IntKind.i64 0, Value.int IntKind.i64 t.off, Value.slice none 0 0] := B19.below D.below
  have sz26 : ((w1.alloc (Obj.cells #[Value.int IntKind.i64 t.kind, Value.string { data := t.text.toArray }, Value.int IntKind.u64 t.num, Value.int IntKind.i64 t.off] 47)).alloc (Obj.cells #[Value.int IntKind.i64 22, Value.string { data := t.text.toArray }, Value.string { data := #[] }, Value.int IntKind.u64 0, Value.int IntKind.i64 0, Value.int IntKind.i64 t.off, Value.slice none 0 0] 25)).heap.size ≤ w2.heap.size := D.below.size
  clear D
  have hvr : ∀ (t : Tok) (s : St), varRest E.ts x t s = if wd E.ts s.nx = pLK then bnd (inBrackets E.ts x) (fun k => ret (.mk 25 t.text [] 0 0 t.off [k])) s else if wd E.ts s.nx = pDot then bnd (partOf E.ts) (fun q => ret (.mk 26 t.text q 0 0 t.off [])) s else if wd E.ts s.nx = pLP then bnd (arguments E.ts x) (fun l => ret (.mk 31 t.text [] 0 0 t.off l)) s else .ok (.mk 22 t.text [] 0 0 t.off []) s := fun _ _ => rfl
  have HV := Lib.hid (HQ7.out.trans (hvr _ _))
  by_cases hc27 : wd E.ts s1.nx = pLK
  · have hw1 : (wd E.ts s1.nx == [91]) = true := by rw [hc27]; rfl
    have HY28 := Lib.hid (HV.out.trans (if_pos hc27))
    have c29 : w2.cell? ⟨(w1.heap.size + 1), 0, none⟩ = some (Value.int IntKind.i64 22) := BD25.cell 0
    have fz30 := BD25.free
    have A31 := A22.set BD25 hb16 0 (Value.int IntKind.i64 25)
    have B32 := BD23.far (b' := (w1.heap.size + 1)) (i := 0) (by omega) (Value.int IntKind.i64 25)
    have B33 := BD24.far (b' := (w1.heap.size + 1)) (i := 0) (by omega) (Value.int IntKind.i64 25)
    have B34 := BD25.set 0 (Value.int IntKind.i64 25)
    have sz35 : (w2.setCell { block := (w1.heap.size + 1), off := 0 } (Value.int IntKind.i64 25)).heap.size = w2.heap.size := by simp [World.setCell]
    go_wp2_with fail
    obtain ⟨w3, hy36⟩ : ∃ Y, (w2.setCell { block := (w1.heap.size + 1), off := 0 } (Value.int IntKind.i64 25)) = Y := ⟨_, rfl⟩
    rw [hy36] at A31 sz35 B32 B33 B34  ⊢
    clear hy36
    have B37 : Box w3 (W.heap.size) 25 #[Value.int IntKind.i64 0, Value.string { data := #[] }, Value.string { data := #[] }, Value.int IntKind.u64 0, Value.int IntKind.i64 0, Value.int IntKind.i64 0, Value.slice none 0 0] := B32
    have B38 : Box w3 (w1.heap.size) 47 #[Value.int IntKind.i64 t.kind, Value.string { data := t.text.toArray }, Value.int IntKind.u64 t.num, Value.int IntKind.i64 t.off] := B33
    have B39 : Box w3 ((w1.heap.size + 1)) 25 #[Value.int IntKind.i64 25, Value.string { data := t.text.toArray }, Value.string { data := #[] }, Value.int IntKind.u64 0, Value.int IntKind.i64 0, Value.int IntKind.i64 t.off, Value.slice none 0 0] := B34
    have c40 : w3.cell? ⟨(w1.heap.size + 1), 0, none⟩ = some (Value.int IntKind.i64 25) := B39.cell 0
    have fz41 := B39.free
    have c42 : w3.cell? ⟨(w1.heap.size + 1), 6, none⟩ = some (Value.slice none 0 0) := B39.cell 6
    have fz43 := B39.free
    have ltr := A31.rs.lt
    have hMs : M ≤ w3.heap.size := by omega
    go_region_law (first
      | (go_simp; go_at_call 159; refine (inBrackets_any he A31.drew.rs).mono ?_; intro e w4 H; rcases H.cases with ⟨t2, s4, v, hm, rfl, ⟨KA, KC, rfl, nd⟩, R, K⟩ | ⟨l, s', ch, hm, rfl, H1⟩; rotate_left 1; exact ⟨rfl, A31.drew.out HY28 hm H1⟩; have AR := A31.drew.call R K; have HQR := hq_ok HY28 hm; have BRres : Box w4 (W.heap.size) 25 #[Value.int IntKind.i64 0, Value.string { data := #[] }, Value.string { data := #[] }, Value.int IntKind.u64 0, Value.int IntKind.i64 0, Value.int IntKind.i64 0, Value.slice none 0 0] := Box.kept (w := w3.drew) B37 K (by decide); have BRt : Box w4 (w1.heap.size) 47 #[Value.int IntKind.i64 t.kind, Value.string { data := t.text.toArray }, Value.int IntKind.u64 t.num, Value.int IntKind.i64 t.off] := Box.kept (w := w3.drew) B38 K (by decide); have BRn : Box w4 ((w1.heap.size + 1)) 25 #[Value.int IntKind.i64 25, Value.string { data := t.text.toArray }, Value.string { data := #[] }, Value.int IntKind.u64 0, Value.int IntKind.i64 0, Value.int IntKind.i64 t.off, Value.slice none 0 0] := Box.kept (w := w3.drew) B39 K (by decide); have q0 : ∀ o, (w4.alloc o).cell? ⟨(w1.heap.size + 1), 6, none⟩ = some (Value.slice none 0 0) := fun o => (BRn.alloc o).cell 6; have q00 := BRn.cell 6; have szR : w3.heap.size ≤ w4.heap.size := K.size; clear K R H hm)
      | (refine step_append_lies _ rfl (.tmp 18) (.tmp 21) 23 rfl (M) 25 i0 _ 7 88 Tryz.underlying23 hi hz0 hz1 hz2 rfl (by decide) (Value.slice none 0 0) 0 [] (by simp [Act.eval]) (World.ownsRow.alloc (World.ownsRow_nil _ _ _ _) _) ⟨w4.heap.size, 0, none⟩ 1 1 (nodeCells t2 (.slice KA (t2).kids.length KC)) (by simp [Act.eval]) rfl (by exact World.news_of_block (heap_alloc_new _ _)) (nodeCells_one _ _ _ _) (by decide) (by unfold maxLen; omega) (by omega) (by first | omega | (simp <;> omega)) _ rfl ?_; intro g cap wA o2 g2 p2 z2; have ap := appended AR (by omega) (World.ownsRow_nil _ _ _ _) (show rowAt _ _ [] [] from rfl) (rowAt_fresh nd (by first | omega | (simp <;> omega)) no_own) o2 g2 p2; have q1 : wA.cell? ⟨(w1.heap.size + 1), 6, none⟩ = some (Value.slice none 0 0) := (ap.box BRn (by omega)).cell 6; have q2 := (ap.box BRn (by omega)).free 6))
    all_goals
      have szA : w4.heap.size ≤ wA.heap.size := by have := g2.size; simp at this; omega
      clear q0 q00 q1 q2 o2 g2 p2
      have BSres := ap.box BRres (by omega)
      have BSt := ap.box BRt (by omega)
      have BSn := ap.box BRn (by omega)
      have KS := ap.kids
      have AS := ap.at_
      have A44 := AS.set BSn hb16 6 (Value.slice (some { block := g, off := 0 }) (0 + 1) cap)
      have B45 := BSres.far (b' := (w1.heap.size + 1)) (i := 6) (by omega) (Value.slice (some { block := g, off := 0 }) (0 + 1) cap)
      have B46 := BSt.far (b' := (w1.heap.size + 1)) (i := 6) (by omega) (Value.slice (some { block := g, off := 0 }) (0 + 1) cap)
      have B47 := BSn.set 6 (Value.slice (some { block := g, off := 0 }) (0 + 1) cap)
      have sz48 : (wA.setCell { block := (w1.heap.size + 1), off := 6 } (Value.slice (some { block := g, off := 0 }) (0 + 1) cap)).heap.size = wA.heap.size := by simp [World.setCell]
      have KF := Kids.far (b := (w1.heap.size + 1)) (i := 6) (by omega) (Value.slice (some { block := g, off := 0 }) (0 + 1) cap) KS
      obtain ⟨w5, hy49⟩ : ∃ Y, (wA.setCell { block := (w1.heap.size + 1), off := 6 } (Value.slice (some { block := g, off := 0 }) (0 + 1) cap)) = Y := ⟨_, rfl⟩
      rw [hy49] at A44 sz48 B45 B46 B47 KF ⊢
      clear hy49
      have B50 : Box w5 (W.heap.size) 25 #[Value.int IntKind.i64 0, Value.string { data := #[] }, Value.string { data := #[] }, Value.int IntKind.u64 0, Value.int IntKind.i64 0, Value.int IntKind.i64 0, Value.slice none 0 0] := B45
      have B51 : Box w5 (w1.heap.size) 47 #[Value.int IntKind.i64 t.kind, Value.string { data := t.text.toArray }, Value.int IntKind.u64 t.num, Value.int IntKind.i64 t.off] := B46
      have B52 : Box w5 ((w1.heap.size + 1)) 25 #[Value.int IntKind.i64 25, Value.string { data := t.text.toArray }, Value.string { data := #[] }, Value.int IntKind.u64 0, Value.int IntKind.i64 0, Value.int IntKind.i64 t.off, Value.slice (some { block := g, off := 0 }) (0 + 1) cap] := B47
      have c53 : w5.cell? ⟨(w1.heap.size + 1), 0, none⟩ = some (Value.int IntKind.i64 25) := B52.cell 0
      have c54 : w5.cell? ⟨(w1.heap.size + 1), 1, none⟩ = some (Value.string { data := t.text.toArray }) := B52.cell 1
      have c55 : w5.cell? ⟨(w1.heap.size + 1), 2, none⟩ = some (Value.string { data := #[] }) := B52.cell 2
      have c56 : w5.cell? ⟨(w1.heap.size + 1), 3, none⟩ = some (Value.int IntKind.u64 0) := B52.cell 3
      have c57 : w5.cell? ⟨(w1.heap.size + 1), 4, none⟩ = some (Value.int IntKind.i64 0) := B52.cell 4
      have c58 : w5.cell? ⟨(w1.heap.size + 1), 5, none⟩ = some (Value.int IntKind.i64 t.off) := B52.cell 5
      have c59 : w5.cell? ⟨(w1.heap.size + 1), 6, none⟩ = some (Value.slice (some { block := g, off := 0 }) (0 + 1) cap) := B52.cell 6
      have fz60 := B52.free
      have c61 : w5.cell? ⟨W.heap.size, 0, none⟩ = some (Value.int IntKind.i64 0) := B50.cell 0
      have c62 : w5.cell? ⟨W.heap.size, 1, none⟩ = some (Value.string { data := #[] }) := B50.cell 1
      have c63 : w5.cell? ⟨W.heap.size, 2, none⟩ = some (Value.string { data := #[] }) := B50.cell 2
      have c64 : w5.cell? ⟨W.heap.size, 3, none⟩ = some (Value.int IntKind.u64 0) := B50.cell 3
      have c65 : w5.cell? ⟨W.heap.size, 4, none⟩ = some (Value.int IntKind.i64 0) := B50.cell 4
      have c66 : w5.cell? ⟨W.heap.size, 5, none⟩ = some (Value.int IntKind.i64 0) := B50.cell 5
      have c67 : w5.cell? ⟨W.heap.size, 6, none⟩ = some (Value.slice none 0 0) := B50.cell 6
      have fz68 := B50.free
      go_wp2
      refine bodyPost_ret (v := .agg #[Value.int IntKind.i64 25, Value.string { data := t.text.toArray }, Value.string { data := #[] }, Value.int IntKind.u64 0, Value.int IntKind.i64 0, Value.int IntKind.i64 t.off, Value.slice (some { block := g, off := 0 }) (0 + 1) cap]) ?_ rfl ?_
      · simp [results, Tryz.results121, go_sem, c61, c62, c63, c64, c65, c66, c67]
      · exact (A44.fill B50 (Nat.le_refl _) _ _ _ _ _ _ _).ok HQR ⟨_, _, rfl, nodeAt_le (M := M) (by omega) (nodeAt_fill (M := M) (by omega) _ _ _ _ _ _ _ (KF.node _ _ _ _ _ _))⟩
  · have hw1 : (wd E.ts s1.nx == [91]) = false := by simpa [pLK] using hc27
    have HY69 := Lib.hid (HV.out.trans (if_neg hc27))
    by_cases hc70 : wd E.ts s1.nx = pDot
    · have hw2 : (wd E.ts s1.nx == [46]) = true := by rw [hc70]; rfl
      have HY71 := Lib.hid (HY69.out.trans (if_pos hc70))
      have c72 : w2.cell? ⟨(w1.heap.size + 1), 0, none⟩ = some (Value.int IntKind.i64 22) := BD25.cell 0
      have fz73 := BD25.free
      have A74 := A22.set BD25 hb16 0 (Value.int IntKind.i64 26)
      have B75 := BD23.far (b' := (w1.heap.size + 1)) (i := 0) (by omega) (Value.int IntKind.i64 26)
      have B76 := BD24.far (b' := (w1.heap.size + 1)) (i := 0) (by omega) (Value.int IntKind.i64 26)
      have B77 := BD25.set 0 (Value.int IntKind.i64 26)
      have sz78 : (w2.setCell { block := (w1.heap.size + 1), off := 0 } (Value.int IntKind.i64 26)).heap.size = w2.heap.size := by simp [World.setCell]
      go_wp2_with fail
      obtain ⟨w6, hy79⟩ : ∃ Y, (w2.setCell { block := (w1.heap.size + 1), off := 0 } (Value.int IntKind.i64 26)) = Y := ⟨_, rfl⟩
      rw [hy79] at A74 sz78 B75 B76 B77  ⊢
      clear hy79
      have B80 : Box w6 (W.heap.size) 25 #[Value.int IntKind.i64 0, Value.string { data := #[] }, Value.string { data := #[] }, Value.int IntKind.u64 0, Value.int IntKind.i64 0, Value.int IntKind.i64 0, Value.slice none 0 0] := B75
      have B81 : Box w6 (w1.heap.size) 47 #[Value.int IntKind.i64 t.kind, Value.string { data := t.text.toArray }, Value.int IntKind.u64 t.num, Value.int IntKind.i64 t.off] := B76
      have B82 : Box w6 ((w1.heap.size + 1)) 25 #[Value.int IntKind.i64 26, Value.string { data := t.text.toArray }, Value.string { data := #[] }, Value.int IntKind.u64 0, Value.int IntKind.i64 0, Value.int IntKind.i64 t.off, Value.slice none 0 0] := B77
      refine (part_any A74.rs).mono ?_
      intro e w7 H
      rcases H.cases with ⟨q, s7, v, hm83, rfl, rfl, R, K⟩ | ⟨l, s', ch, hm, rfl, H1⟩
      rotate_left 1
      · exact ⟨rfl, A74.out HY71 hm H1⟩
      have A84 := A74.call R K
      have HQ85 := hq_ok HY71 hm83
      have B86 : Box w7 (W.heap.size) 25 #[Value.int IntKind.i64 0, Value.string { data := #[] }, Value.string { data := #[] }, Value.int IntKind.u64 0, Value.int IntKind.i64 0, Value.int IntKind.i64 0, Value.slice none 0 0] := B80.kept K (by decide)
      have B87 : Box w7 (w1.heap.size) 47 #[Value.int IntKind.i64 t.kind, Value.string { data := t.text.toArray }, Value.int IntKind.u64 t.num, Value.int IntKind.i64 t.off] := B81.kept K (by decide)
      have B88 : Box w7 ((w1.heap.size + 1)) 25 #[Value.int IntKind.i64 26, Value.string { data := t.text.toArray }, Value.string { data := #[] }, Value.int IntKind.u64 0, Value.int IntKind.i64 0, Value.int IntKind.i64 t.off, Value.slice none 0 0] := B82.kept K (by decide)
      have sz89 := K.size
      clear HY71 hm83 H R K
      have c90 : w7.cell? ⟨(w1.heap.size + 1), 0, none⟩ = some (Value.int IntKind.i64 26) := B88.cell 0
      have c91 : w7.cell? ⟨(w1.heap.size + 1), 1, none⟩ = some (Value.string { data := t.text.toArray }) := B88.cell 1
      have c92 : w7.cell? ⟨(w1.heap.size + 1), 2, none⟩ = some (Value.string { data := #[] }) := B88.cell 2
      have c93 : w7.cell? ⟨(w1.heap.size + 1), 3, none⟩ = some (Value.int IntKind.u64 0) := B88.cell 3
      have c94 : w7.cell? ⟨(w1.heap.size + 1), 4, none⟩ = some (Value.int IntKind.i64 0) := B88.cell 4
      have c95 : w7.cell? ⟨(w1.heap.size + 1), 5, none⟩ = some (Value.int IntKind.i64 t.off) := B88.cell 5
      have c96 : w7.cell? ⟨(w1.heap.size + 1), 6, none⟩ = some (Value.slice none 0 0) := B88.cell 6
      have fz97 := B88.free
      have A98 := A84.set B88 hb16 2 (Value.string { data := (q).toArray })
      have B99 := B86.far (b' := (w1.heap.size + 1)) (i := 2) (by omega) (Value.string { data := (q).toArray })
      have B100 := B87.far (b' := (w1.heap.size + 1)) (i := 2) (by omega) (Value.string { data := (q).toArray })
      have B101 := B88.set 2 (Value.string { data := (q).toArray })
      have sz102 : (w7.setCell { block := (w1.heap.size + 1), off := 2 } (Value.string { data := (q).toArray })).heap.size = w7.heap.size := by simp [World.setCell]
      have c103 : (w7.setCell { block := (w1.heap.size + 1), off := 2 } (Value.string { data := (q).toArray })).cell? ⟨(w1.heap.size + 1), 0, none⟩ = some (Value.int IntKind.i64 26) := B101.cell 0
      have c104 : (w7.setCell { block := (w1.heap.size + 1), off := 2 } (Value.string { data := (q).toArray })).cell? ⟨(w1.heap.size + 1), 1, none⟩ = some (Value.string { data := t.text.toArray }) := B101.cell 1
      have c105 : (w7.setCell { block := (w1.heap.size + 1), off := 2 } (Value.string { data := (q).toArray })).cell? ⟨(w1.heap.size + 1), 2, none⟩ = some (Value.string { data := (q).toArray }) := B101.cell 2
      have c106 : (w7.setCell { block := (w1.heap.size + 1), off := 2 } (Value.string { data := (q).toArray })).cell? ⟨(w1.heap.size + 1), 3, none⟩ = some (Value.int IntKind.u64 0) := B101.cell 3
      have c107 : (w7.setCell { block := (w1.heap.size + 1), off := 2 } (Value.string { data := (q).toArray })).cell? ⟨(w1.heap.size + 1), 4, none⟩ = some (Value.int IntKind.i64 0) := B101.cell 4
      have c108 : (w7.setCell { block := (w1.heap.size + 1), off := 2 } (Value.string { data := (q).toArray })).cell? ⟨(w1.heap.size + 1), 5, none⟩ = some (Value.int IntKind.i64 t.off) := B101.cell 5
      have c109 : (w7.setCell { block := (w1.heap.size + 1), off := 2 } (Value.string { data := (q).toArray })).cell? ⟨(w1.heap.size + 1), 6, none⟩ = some (Value.slice none 0 0) := B101.cell 6
      have fz110 := B101.free
      have c111 : (w7.setCell { block := (w1.heap.size + 1), off := 2 } (Value.string { data := (q).toArray })).cell? ⟨W.heap.size, 0, none⟩ = some (Value.int IntKind.i64 0) := B99.cell 0
      have c112 : (w7.setCell { block := (w1.heap.size + 1), off := 2 } (Value.string { data := (q).toArray })).cell? ⟨W.heap.size, 1, none⟩ = some (Value.string { data := #[] }) := B99.cell 1
      have c113 : (w7.setCell { block := (w1.heap.size + 1), off := 2 } (Value.string { data := (q).toArray })).cell? ⟨W.heap.size, 2, none⟩ = some (Value.string { data := #[] }) := B99.cell 2
      have c114 : (w7.setCell { block := (w1.heap.size + 1), off := 2 } (Value.string { data := (q).toArray })).cell? ⟨W.heap.size, 3, none⟩ = some (Value.int IntKind.u64 0) := B99.cell 3
      have c115 : (w7.setCell { block := (w1.heap.size + 1), off := 2 } (Value.string { data := (q).toArray })).cell? ⟨W.heap.size, 4, none⟩ = some (Value.int IntKind.i64 0) := B99.cell 4
      have c116 : (w7.setCell { block := (w1.heap.size + 1), off := 2 } (Value.string { data := (q).toArray })).cell? ⟨W.heap.size, 5, none⟩ = some (Value.int IntKind.i64 0) := B99.cell 5
      have c117 : (w7.setCell { block := (w1.heap.size + 1), off := 2 } (Value.string { data := (q).toArray })).cell? ⟨W.heap.size, 6, none⟩ = some (Value.slice none 0 0) := B99.cell 6
      have fz118 := B99.free
      go_wp2
      refine bodyPost_ret (v := .agg #[Value.int IntKind.i64 26, Value.string { data := t.text.toArray }, Value.string { data := (q).toArray }, Value.int IntKind.u64 0, Value.int IntKind.i64 0, Value.int IntKind.i64 t.off, Value.slice none 0 0]) ?_ rfl ?_
      · simp [results, Tryz.results121, go_sem, c111, c112, c113, c114, c115, c116, c117]
      · exact (A98.fill B99 (Nat.le_refl _) _ _ _ _ _ _ _).ok HQ85 ⟨_, _, rfl, nodeAt_le (M := M) (by omega) (nodeAt_fill (M := M) (by omega) _ _ _ _ _ _ _ ((Kids.nil _ _).node _ _ _ _ _ _))⟩
    · have hw2 : (wd E.ts s1.nx == [46]) = false := by simpa [pDot] using hc70
      have HY119 := Lib.hid (HY69.out.trans (if_neg hc70))
      by_cases hc120 : wd E.ts s1.nx = pLP
      · have hw3 : (wd E.ts s1.nx == [40]) = true := by rw [hc120]; rfl
        have HY121 := Lib.hid (HY119.out.trans (if_pos hc120))
        have c122 : w2.cell? ⟨(w1.heap.size + 1), 0, none⟩ = some (Value.int IntKind.i64 22) := BD25.cell 0
        have fz123 := BD25.free
        have A124 := A22.set BD25 hb16 0 (Value.int IntKind.i64 31)
        have B125 := BD23.far (b' := (w1.heap.size + 1)) (i := 0) (by omega) (Value.int IntKind.i64 31)
        have B126 := BD24.far (b' := (w1.heap.size + 1)) (i := 0) (by omega) (Value.int IntKind.i64 31)
        have B127 := BD25.set 0 (Value.int IntKind.i64 31)
        have sz128 : (w2.setCell { block := (w1.heap.size + 1), off := 0 } (Value.int IntKind.i64 31)).heap.size = w2.heap.size := by simp [World.setCell]
        go_wp2_with fail
        obtain ⟨w8, hy129⟩ : ∃ Y, (w2.setCell { block := (w1.heap.size + 1), off := 0 } (Value.int IntKind.i64 31)) = Y := ⟨_, rfl⟩
        rw [hy129] at A124 sz128 B125 B126 B127  ⊢
        clear hy129
        have B130 : Box w8 (W.heap.size) 25 #[Value.int IntKind.i64 0, Value.string { data := #[] }, Value.string { data := #[] }, Value.int IntKind.u64 0, Value.int IntKind.i64 0, Value.int IntKind.i64 0, Value.slice none 0 0] := B125
        have B131 : Box w8 (w1.heap.size) 47 #[Value.int IntKind.i64 t.kind, Value.string { data := t.text.toArray }, Value.int IntKind.u64 t.num, Value.int IntKind.i64 t.off] := B126
        have B132 : Box w8 ((w1.heap.size + 1)) 25 #[Value.int IntKind.i64 31, Value.string { data := t.text.toArray }, Value.string { data := #[] }, Value.int IntKind.u64 0, Value.int IntKind.i64 0, Value.int IntKind.i64 t.off, Value.slice none 0 0] := B127
        refine (arguments_any hx he A124.rs).mono ?_
        intro e w9 H
        rcases H.cases with ⟨l2, s9, v, hm133, rfl, ⟨KA, KC, rfl, KL⟩, R, K⟩ | ⟨l, s', ch, hm, rfl, H1⟩
        rotate_left 1
        · exact ⟨rfl, A124.out HY121 hm H1⟩
        have A134 := A124.call R K
        have HQ135 := hq_ok HY121 hm133
        have B136 : Box w9 (W.heap.size) 25 #[Value.int IntKind.i64 0, Value.string { data := #[] }, Value.string { data := #[] }, Value.int IntKind.u64 0, Value.int IntKind.i64 0, Value.int IntKind.i64 0, Value.slice none 0 0] := B130.kept K (by decide)
        have B137 : Box w9 (w1.heap.size) 47 #[Value.int IntKind.i64 t.kind, Value.string { data := t.text.toArray }, Value.int IntKind.u64 t.num, Value.int IntKind.i64 t.off] := B131.kept K (by decide)
        have B138 : Box w9 ((w1.heap.size + 1)) 25 #[Value.int IntKind.i64 31, Value.string { data := t.text.toArray }, Value.string { data := #[] }, Value.int IntKind.u64 0, Value.int IntKind.i64 0, Value.int IntKind.i64 t.off, Value.slice none 0 0] := B132.kept K (by decide)
        have sz139 := K.size
        clear HY121 hm133 H R K
        have c140 : w9.cell? ⟨(w1.heap.size + 1), 0, none⟩ = some (Value.int IntKind.i64 31) := B138.cell 0
        have c141 : w9.cell? ⟨(w1.heap.size + 1), 1, none⟩ = some (Value.string { data := t.text.toArray }) := B138.cell 1
        have c142 : w9.cell? ⟨(w1.heap.size + 1), 2, none⟩ = some (Value.string { data := #[] }) := B138.cell 2
        have c143 : w9.cell? ⟨(w1.heap.size + 1), 3, none⟩ = some (Value.int IntKind.u64 0) := B138.cell 3
        have c144 : w9.cell? ⟨(w1.heap.size + 1), 4, none⟩ = some (Value.int IntKind.i64 0) := B138.cell 4
        have c145 : w9.cell? ⟨(w1.heap.size + 1), 5, none⟩ = some (Value.int IntKind.i64 t.off) := B138.cell 5
        have c146 : w9.cell? ⟨(w1.heap.size + 1), 6, none⟩ = some (Value.slice none 0 0) := B138.cell 6
        have fz147 := B138.free
        have A148 := A134.set B138 hb16 6 (Value.slice KA l2.length KC)
        have B149 := B136.far (b' := (w1.heap.size + 1)) (i := 6) (by omega) (Value.slice KA l2.length KC)
        have B150 := B137.far (b' := (w1.heap.size + 1)) (i := 6) (by omega) (Value.slice KA l2.length KC)
        have B151 := B138.set 6 (Value.slice KA l2.length KC)
        have sz152 : (w9.setCell { block := (w1.heap.size + 1), off := 6 } (Value.slice KA l2.length KC)).heap.size = w9.heap.size := by simp [World.setCell]
        have c153 : (w9.setCell { block := (w1.heap.size + 1), off := 6 } (Value.slice KA l2.length KC)).cell? ⟨(w1.heap.size + 1), 0, none⟩ = some (Value.int IntKind.i64 31) := B151.cell 0
        have c154 : (w9.setCell { block := (w1.heap.size + 1), off := 6 } (Value.slice KA l2.length KC)).cell? ⟨(w1.heap.size + 1), 1, none⟩ = some (Value.string { data := t.text.toArray }) := B151.cell 1
        have c155 : (w9.setCell { block := (w1.heap.size + 1), off := 6 } (Value.slice KA l2.length KC)).cell? ⟨(w1.heap.size + 1), 2, none⟩ = some (Value.string { data := #[] }) := B151.cell 2
        have c156 : (w9.setCell { block := (w1.heap.size + 1), off := 6 } (Value.slice KA l2.length KC)).cell? ⟨(w1.heap.size + 1), 3, none⟩ = some (Value.int IntKind.u64 0) := B151.cell 3
        have c157 : (w9.setCell { block := (w1.heap.size + 1), off := 6 } (Value.slice KA l2.length KC)).cell? ⟨(w1.heap.size + 1), 4, none⟩ = some (Value.int IntKind.i64 0) := B151.cell 4
        have c158 : (w9.setCell { block := (w1.heap.size + 1), off := 6 } (Value.slice KA l2.length KC)).cell? ⟨(w1.heap.size + 1), 5, none⟩ = some (Value.int IntKind.i64 t.off) := B151.cell 5
        have c159 : (w9.setCell { block := (w1.heap.size + 1), off := 6 } (Value.slice KA l2.length KC)).cell? ⟨(w1.heap.size + 1), 6, none⟩ = some (Value.slice KA l2.length KC) := B151.cell 6
        have fz160 := B151.free
        have KF := Kids.far (b := (w1.heap.size + 1)) (i := 6) (by omega) (Value.slice KA l2.length KC) (KL)
        have c161 : (w9.setCell { block := (w1.heap.size + 1), off := 6 } (Value.slice KA l2.length KC)).cell? ⟨W.heap.size, 0, none⟩ = some (Value.int IntKind.i64 0) := B149.cell 0
        have c162 : (w9.setCell { block := (w1.heap.size + 1), off := 6 } (Value.slice KA l2.length KC)).cell? ⟨W.heap.size, 1, none⟩ = some (Value.string { data := #[] }) := B149.cell 1
        have c163 : (w9.setCell { block := (w1.heap.size + 1), off := 6 } (Value.slice KA l2.length KC)).cell? ⟨W.heap.size, 2, none⟩ = some (Value.string { data := #[] }) := B149.cell 2
        have c164 : (w9.setCell { block := (w1.heap.size + 1), off := 6 } (Value.slice KA l2.length KC)).cell? ⟨W.heap.size, 3, none⟩ = some (Value.int IntKind.u64 0) := B149.cell 3
        have c165 : (w9.setCell { block := (w1.heap.size + 1), off := 6 } (Value.slice KA l2.length KC)).cell? ⟨W.heap.size, 4, none⟩ = some (Value.int IntKind.i64 0) := B149.cell 4
        have c166 : (w9.setCell { block := (w1.heap.size + 1), off := 6 } (Value.slice KA l2.length KC)).cell? ⟨W.heap.size, 5, none⟩ = some (Value.int IntKind.i64 0) := B149.cell 5
        have c167 : (w9.setCell { block := (w1.heap.size + 1), off := 6 } (Value.slice KA l2.length KC)).cell? ⟨W.heap.size, 6, none⟩ = some (Value.slice none 0 0) := B149.cell 6
        have fz168 := B149.free
        go_wp2
        refine bodyPost_ret (v := .agg #[Value.int IntKind.i64 31, Value.string { data := t.text.toArray }, Value.string { data := #[] }, Value.int IntKind.u64 0, Value.int IntKind.i64 0, Value.int IntKind.i64 t.off, Value.slice KA l2.length KC]) ?_ rfl ?_
        · simp [results, Tryz.results121, go_sem, c161, c162, c163, c164, c165, c166, c167]
        · exact (A148.fill B149 (Nat.le_refl _) _ _ _ _ _ _ _).ok HQ135 ⟨_, _, rfl, nodeAt_le (M := w8.heap.size) (by omega) (nodeAt_fill (M := w8.heap.size) (by omega) _ _ _ _ _ _ _ (KF.node _ _ _ _ _ _))⟩
      · have hw3 : (wd E.ts s1.nx == [40]) = false := by simpa [pLP] using hc120
        have HY169 := Lib.hid (HY119.out.trans (if_neg hc120))
        have c170 : w2.cell? ⟨(w1.heap.size + 1), 0, none⟩ = some (Value.int IntKind.i64 22) := BD25.cell 0
        have c171 : w2.cell? ⟨(w1.heap.size + 1), 1, none⟩ = some (Value.string { data := t.text.toArray }) := BD25.cell 1
        have c172 : w2.cell? ⟨(w1.heap.size + 1), 2, none⟩ = some (Value.string { data := #[] }) := BD25.cell 2
        have c173 : w2.cell? ⟨(w1.heap.size + 1), 3, none⟩ = some (Value.int IntKind.u64 0) := BD25.cell 3
        have c174 : w2.cell? ⟨(w1.heap.size + 1), 4, none⟩ = some (Value.int IntKind.i64 0) := BD25.cell 4
        have c175 : w2.cell? ⟨(w1.heap.size + 1), 5, none⟩ = some (Value.int IntKind.i64 t.off) := BD25.cell 5
        have c176 : w2.cell? ⟨(w1.heap.size + 1), 6, none⟩ = some (Value.slice none 0 0) := BD25.cell 6
        have fz177 := BD25.free
        have c178 : w2.cell? ⟨W.heap.size, 0, none⟩ = some (Value.int IntKind.i64 0) := BD23.cell 0
        have c179 : w2.cell? ⟨W.heap.size, 1, none⟩ = some (Value.string { data := #[] }) := BD23.cell 1
        have c180 : w2.cell? ⟨W.heap.size, 2, none⟩ = some (Value.string { data := #[] }) := BD23.cell 2
        have c181 : w2.cell? ⟨W.heap.size, 3, none⟩ = some (Value.int IntKind.u64 0) := BD23.cell 3
        have c182 : w2.cell? ⟨W.heap.size, 4, none⟩ = some (Value.int IntKind.i64 0) := BD23.cell 4
        have c183 : w2.cell? ⟨W.heap.size, 5, none⟩ = some (Value.int IntKind.i64 0) := BD23.cell 5
        have c184 : w2.cell? ⟨W.heap.size, 6, none⟩ = some (Value.slice none 0 0) := BD23.cell 6
        have fz185 := BD23.free
        go_wp2
        refine bodyPost_ret (v := .agg #[Value.int IntKind.i64 22, Value.string { data := t.text.toArray }, Value.string { data := #[] }, Value.int IntKind.u64 0, Value.int IntKind.i64 0, Value.int IntKind.i64 t.off, Value.slice none 0 0]) ?_ rfl ?_
        · simp [results, Tryz.results121, go_sem, c178, c179, c180, c181, c182, c183, c184]
        · exact (A22.fill BD23 (Nat.le_refl _) _ _ _ _ _ _ _).ok HY169 ⟨_, _, rfl, nodeAt_le (M := M) (by omega) (nodeAt_fill (M := M) (by omega) _ _ _ _ _ _ _ ((Kids.nil _ _).node _ _ _ _ _ _))⟩

end Go.Proofs.YtmkehecapjdfdaaGreatDoor

/- Statements that begin with a name. -/
namespace Go.Proofs.YtmkehecapjdfdaaGreatDoor
open Go.RowKit

set_option maxRecDepth 100000 in
set_option maxHeartbeats 6400000 in
theorem readAssignment_any {E : Env} {W : World} {dp : Nat} {s : St} {x : PM T} (he : CE E dp x) (h : RS E 20 W dp s) :
    Calls Tryz.prog 114 #[.pointer (some ⟨E.r, 0, none⟩)] W (PostR E W dp (RNodeX W.heap.size) (readAssignment E.ts x s)) := by
  have A0 := At.start h
  have HQ0 : Hid (readAssignment E.ts x s = bnd (take E.ts wName) (asgRest E.ts x) s) := Lib.hid rfl
  generalize hM : readAssignment E.ts x s = M at *
  clear hM
  have hb1 := A0.size
  have B2 := Box.new (W) 25 #[Value.int IntKind.i64 0, Value.string { data := #[] }, Value.string { data := #[] }, Value.int IntKind.u64 0, Value.int IntKind.i64 0, Value.int IntKind.i64 0, Value.slice none 0 0]
  have A3 := A0.alloc (Obj.cells #[Value.int IntKind.i64 0, Value.string { data := #[] }, Value.string { data := #[] }, Value.int IntKind.u64 0, Value.int IntKind.i64 0, Value.int IntKind.i64 0, Value.slice none 0 0] 25)
  have sz4 : (W.alloc (Obj.cells #[Value.int IntKind.i64 0, Value.string { data := #[] }, Value.string { data := #[] }, Value.int IntKind.u64 0, Value.int IntKind.i64 0, Value.int IntKind.i64 0, Value.slice none 0 0] 25)).heap.size = W.heap.size + 1 := by simp
  obtain ⟨i0, hi, hz0, hz1, hz2⟩ := info_parts Tryz.infoNode
  have hfd1 := tokF1
  have hfd3 := tokF3
  go_enter Tryz.func114, Tryz.ntmps114
  go_wp2_with fail
  refine (take_any wName (by decide) A3.rs).mono ?_
  intro e w1 H
  rcases H.cases with ⟨t, s1, v, hm5, rfl, rfl, R, K⟩ | ⟨l, s', ch, hm, rfl, H1⟩
  rotate_left 1
  · exact ⟨rfl, A3.out HQ0 hm H1⟩
  have A6 := A3.call R K
  have HQ7 := hq_ok HQ0 hm5
  have B8 : Box w1 (W.heap.size) 25 #[Value.int IntKind.i64 0, Value.string { data := #[] }, Value.string { data := #[] }, Value.int IntKind.u64 0, Value.int IntKind.i64 0, Value.int IntKind.i64 0, Value.slice none 0 0] := B2.kept K (by decide)
  have sz9 := K.size
  clear HQ0 hm5 H R K
  have hb10 := A6.size
  have B11 := B8.alloc (Obj.cells #[Value.int IntKind.i64 t.kind, Value.string { data := t.text.toArray }, Value.int IntKind.u64 t.num, Value.int IntKind.i64 t.off] 47)
  have lt12 := B8.lt
  have B13 := Box.new (w1) 47 #[Value.int IntKind.i64 t.kind, Value.string { data := t.text.toArray }, Value.int IntKind.u64 t.num, Value.int IntKind.i64 t.off]
  have A14 := A6.alloc (Obj.cells #[Value.int IntKind.i64 t.kind, Value.string { data := t.text.toArray }, Value.int IntKind.u64 t.num, Value.int IntKind.i64 t.off] 47)
  have sz15 : (w1.alloc (Obj.cells #[Value.int IntKind.i64 t.kind, Value.string { data := t.text.toArray }, Value.int IntKind.u64 t.num, Value.int IntKind.i64 t.off] 47)).heap.size = w1.heap.size + 1 := by simp
  have hb16 : W.heap.size ≤ w1.heap.size + 1 := by omega
  have B17 := B11.alloc (Obj.cells #[Value.int IntKind.i64 8, Value.string { data := t.text.toArray }, Value.string { data := #[] }, Value.int IntKind.u64 0, Value.int IntKind.i64 0, Value.int IntKind.i64 t.off, Value.slice none 0 0] 25)
  have B18 := B13.alloc (Obj.cells #[Value.int IntKind.i64 8, Value.string { data := t.text.toArray }, Value.string { data := #[] }, Value.int IntKind.u64 0, Value.int IntKind.i64 0, Value.int IntKind.i64 t.off, Value.slice none 0 0] 25)
  have B19 := Box.new2 w1 (Obj.cells #[Value.int IntKind.i64 t.kind, Value.string { data := t.text.toArray }, Value.int IntKind.u64 t.num, Value.int IntKind.i64 t.off] 47) 25 #[Value.int IntKind.i64 8, Value.string { data := t.text.toArray }, Value.string { data := #[] }, Value.int IntKind.u64 0, Value.int IntKind.i64 0, Value.int IntKind.i64 t.off, Value.slice none 0 0]
  have A20 := A14.alloc (Obj.cells #[Value.int IntKind.i64 8, Value.string { data := t.text.toArray }, Value.string { data := #[] }, Value.int IntKind.u64 0, Value.int IntKind.i64 0, Value.int IntKind.i64 t.off, Value.slice none 0 0] 25)
  have sz21 : ((w1.alloc (Obj.cells #[Value.int IntKind.i64 t.kind, Value.string { data := t.text.toArray }, Value.int IntKind.u64 t.num, Value.int IntKind.i64 t.off] 47)).alloc (Obj.cells #[Value.int IntKind.i64 8, Value.string { data := t.text.toArray }, Value.string { data := #[] }, Value.int IntKind.u64 0, Value.int IntKind.i64 0, Value.int IntKind.i64 t.off, Value.slice none 0 0] 25)).heap.size = w1.heap.size + 2 := by simp
  obtain ⟨M, hM⟩ : ∃ M, M = w1.heap.size + 2 := ⟨_, rfl⟩
  have hWM : W.heap.size + 1 < M := by omega
  go_wp2_with fail
  refine (word_any A20.rs).mono ?_
  rintro e w2 ⟨rfl, D⟩
  have A22 := A20.later D.below
  have BD23 : Box w2 (W.heap.size) 25 #[Value.int IntKind.i64 0, Value.string { data := #[] }, Value.string { data := #[] }, Value.int IntKind.u64 0, Value.int IntKind.i64 0, Value.int IntKind.i64 0, Value.slice none 0 0] := B17.below D.below
  have BD24 : Box w2 (w1.heap.size) 47 #[Value.int IntKind.i64 t.kind, Value.string { data := t.text.toArray }, Value.int IntKind.u64 t.num, Value.int IntKind.i64 t.off] := B18.below D.below
  have BD25 : Box w2 (w1.heap.size + 1) 25 #[Value.int IntKind.i64 8, Value.string { data := t.text.toArray }, Value.string { data := #[] }, Value.int IntKind.u64 0, Value.int IntKind.i64 0, Value.int IntKind.i64 t.off, Value.slice none 0 0] := B19.below D.below
  have sz26 : ((w1.alloc (Obj.cells #[Value.int IntKind.i64 t.kind, Value.string { data := t.text.toArray }, Value.int IntKind.u64 t.num, Value.int IntKind.i64 t.off] 47)).alloc (Obj.cells #[Value.int IntKind.i64 8, Value.string { data := t.text.toArray }, Value.string { data := #[] }, Value.int IntKind.u64 0, Value.int IntKind.i64 0, Value.int IntKind.i64 t.off, Value.slice none 0 0] 25)).heap.size ≤ w2.heap.size := D.below.size
  clear D
  have hvr : ∀ (t : Tok) (s : St), asgRest E.ts x t s = if wd E.ts s.nx = pLK then bnd (inBrackets E.ts x) (fun k => bnd (take E.ts pEq) fun _ => value E.ts x fun a => .mk 9 t.text [] 0 0 t.off [k, a]) s else if wd E.ts s.nx = pDot then bnd (partOf E.ts) (fun q => bnd (take E.ts pEq) fun _ => value E.ts x fun a => .mk 10 t.text q 0 0 t.off [a]) s else bnd (take E.ts pEq) (fun _ => value E.ts x fun a => .mk 8 t.text [] 0 0 t.off [a]) s := fun _ _ => rfl
  have HV := Lib.hid (HQ7.out.trans (hvr _ _))
  by_cases hc27 : wd E.ts s1.nx = pLK
  · have hw1 : (wd E.ts s1.nx == [91]) = true := by rw [hc27]; rfl
    have HY28 := Lib.hid (HV.out.trans (if_pos hc27))
    have c29 : w2.cell? ⟨(w1.heap.size + 1), 0, none⟩ = some (Value.int IntKind.i64 8) := BD25.cell 0
    have fz30 := BD25.free
    have A31 := A22.set BD25 hb16 0 (Value.int IntKind.i64 9)
    have B32 := BD23.far (b' := (w1.heap.size + 1)) (i := 0) (by omega) (Value.int IntKind.i64 9)
    have B33 := BD24.far (b' := (w1.heap.size + 1)) (i := 0) (by omega) (Value.int IntKind.i64 9)
    have B34 := BD25.set 0 (Value.int IntKind.i64 9)
    have sz35 : (w2.setCell { block := (w1.heap.size + 1), off := 0 } (Value.int IntKind.i64 9)).heap.size = w2.heap.size := by simp [World.setCell]
    go_wp2_with fail
    obtain ⟨w3, hy36⟩ : ∃ Y, (w2.setCell { block := (w1.heap.size + 1), off := 0 } (Value.int IntKind.i64 9)) = Y := ⟨_, rfl⟩
    rw [hy36] at A31 sz35 B32 B33 B34  ⊢
    clear hy36
    have B37 : Box w3 (W.heap.size) 25 #[Value.int IntKind.i64 0, Value.string { data := #[] }, Value.string { data := #[] }, Value.int IntKind.u64 0, Value.int IntKind.i64 0, Value.int IntKind.i64 0, Value.slice none 0 0] := B32
    have B38 : Box w3 (w1.heap.size) 47 #[Value.int IntKind.i64 t.kind, Value.string { data := t.text.toArray }, Value.int IntKind.u64 t.num, Value.int IntKind.i64 t.off] := B33
    have B39 : Box w3 ((w1.heap.size + 1)) 25 #[Value.int IntKind.i64 9, Value.string { data := t.text.toArray }, Value.string { data := #[] }, Value.int IntKind.u64 0, Value.int IntKind.i64 0, Value.int IntKind.i64 t.off, Value.slice none 0 0] := B34
    have c40 : w3.cell? ⟨(w1.heap.size + 1), 0, none⟩ = some (Value.int IntKind.i64 9) := B39.cell 0
    have fz41 := B39.free
    have c42 : w3.cell? ⟨(w1.heap.size + 1), 6, none⟩ = some (Value.slice none 0 0) := B39.cell 6
    have fz43 := B39.free
    have ltr := A31.rs.lt
    have hMs : M ≤ w3.heap.size := by omega
    go_region_law (first
      | (go_simp; go_at_call 159; refine (inBrackets_any he A31.drew.rs).mono ?_; intro e w4 H; rcases H.cases with ⟨t2, s4, v, hm, rfl, ⟨KA, KC, rfl, nd⟩, R, K⟩ | ⟨l, s', ch, hm, rfl, H1⟩; rotate_left 1; exact ⟨rfl, A31.drew.out HY28 hm H1⟩; have AR := A31.drew.call R K; have HQR := hq_ok HY28 hm; have BRres : Box w4 (W.heap.size) 25 #[Value.int IntKind.i64 0, Value.string { data := #[] }, Value.string { data := #[] }, Value.int IntKind.u64 0, Value.int IntKind.i64 0, Value.int IntKind.i64 0, Value.slice none 0 0] := Box.kept (w := w3.drew) B37 K (by decide); have BRt : Box w4 (w1.heap.size) 47 #[Value.int IntKind.i64 t.kind, Value.string { data := t.text.toArray }, Value.int IntKind.u64 t.num, Value.int IntKind.i64 t.off] := Box.kept (w := w3.drew) B38 K (by decide); have BRn : Box w4 ((w1.heap.size + 1)) 25 #[Value.int IntKind.i64 9, Value.string { data := t.text.toArray }, Value.string { data := #[] }, Value.int IntKind.u64 0, Value.int IntKind.i64 0, Value.int IntKind.i64 t.off, Value.slice none 0 0] := Box.kept (w := w3.drew) B39 K (by decide); have q0 : ∀ o, (w4.alloc o).cell? ⟨(w1.heap.size + 1), 6, none⟩ = some (Value.slice none 0 0) := fun o => (BRn.alloc o).cell 6; have q00 := BRn.cell 6; have szR : w3.heap.size ≤ w4.heap.size := K.size; clear K R H hm)
      | (refine step_append_lies _ rfl (.tmp 18) (.tmp 21) 23 rfl (M) 25 i0 _ 7 88 Tryz.underlying23 hi hz0 hz1 hz2 rfl (by decide) (Value.slice none 0 0) 0 [] (by simp [Act.eval]) (World.ownsRow.alloc (World.ownsRow_nil _ _ _ _) _) ⟨w4.heap.size, 0, none⟩ 1 1 (nodeCells t2 (.slice KA (t2).kids.length KC)) (by simp [Act.eval]) rfl (by exact World.news_of_block (heap_alloc_new _ _)) (nodeCells_one _ _ _ _) (by decide) (by unfold maxLen; omega) (by omega) (by first | omega | (simp <;> omega)) _ rfl ?_; intro g cap wA o2 g2 p2 z2; have ap := appended AR (by omega) (World.ownsRow_nil _ _ _ _) (show rowAt _ _ [] [] from rfl) (rowAt_fresh nd (by first | omega | (simp <;> omega)) no_own) o2 g2 p2; have q1 : wA.cell? ⟨(w1.heap.size + 1), 6, none⟩ = some (Value.slice none 0 0) := (ap.box BRn (by omega)).cell 6; have q2 := (ap.box BRn (by omega)).free 6))
    all_goals
      have szA : w4.heap.size ≤ wA.heap.size := by have := g2.size; simp at this; omega
      clear q0 q00 q1 q2 o2 g2 p2
      have BSres := ap.box BRres (by omega)
      have BSt := ap.box BRt (by omega)
      have BSn := ap.box BRn (by omega)
      have KS := ap.kids
      have AS := ap.at_
      have A44 := AS.set BSn hb16 6 (Value.slice (some { block := g, off := 0 }) (0 + 1) cap)
      have B45 := BSres.far (b' := (w1.heap.size + 1)) (i := 6) (by omega) (Value.slice (some { block := g, off := 0 }) (0 + 1) cap)
      have B46 := BSt.far (b' := (w1.heap.size + 1)) (i := 6) (by omega) (Value.slice (some { block := g, off := 0 }) (0 + 1) cap)
      have B47 := BSn.set 6 (Value.slice (some { block := g, off := 0 }) (0 + 1) cap)
      have sz48 : (wA.setCell { block := (w1.heap.size + 1), off := 6 } (Value.slice (some { block := g, off := 0 }) (0 + 1) cap)).heap.size = wA.heap.size := by simp [World.setCell]
      have KF := Kids.far (b := (w1.heap.size + 1)) (i := 6) (by omega) (Value.slice (some { block := g, off := 0 }) (0 + 1) cap) KS
      obtain ⟨w5, hy49⟩ : ∃ Y, (wA.setCell { block := (w1.heap.size + 1), off := 6 } (Value.slice (some { block := g, off := 0 }) (0 + 1) cap)) = Y := ⟨_, rfl⟩
      rw [hy49] at A44 sz48 B45 B46 B47 KF ⊢
      clear hy49
      have B50 : Box w5 (W.heap.size) 25 #[Value.int IntKind.i64 0, Value.string { data := #[] }, Value.string { data := #[] }, Value.int IntKind.u64 0, Value.int IntKind.i64 0, Value.int IntKind.i64 0, Value.slice none 0 0] := B45
      have B51 : Box w5 (w1.heap.size) 47 #[Value.int IntKind.i64 t.kind, Value.string { data := t.text.toArray }, Value.int IntKind.u64 t.num, Value.int IntKind.i64 t.off] := B46
      have B52 : Box w5 ((w1.heap.size + 1)) 25 #[Value.int IntKind.i64 9, Value.string { data := t.text.toArray }, Value.string { data := #[] }, Value.int IntKind.u64 0, Value.int IntKind.i64 0, Value.int IntKind.i64 t.off, Value.slice (some { block := g, off := 0 }) (0 + 1) cap] := B47
      go_wp2_with fail
      refine (take_any pEq (by decide) A44.rs).mono ?_
      intro e w6 H
      rcases H.cases with ⟨t3, s6, v, hm53, rfl, rfl, R, K⟩ | ⟨l, s', ch, hm, rfl, H1⟩
      rotate_left 1
      · exact ⟨rfl, A44.out HQR hm H1⟩
      have A54 := A44.call R K
      have HQ55 := hq_ok HQR hm53
      have B56 : Box w6 (W.heap.size) 25 #[Value.int IntKind.i64 0, Value.string { data := #[] }, Value.string { data := #[] }, Value.int IntKind.u64 0, Value.int IntKind.i64 0, Value.int IntKind.i64 0, Value.slice none 0 0] := B50.kept K (by decide)
      have B57 : Box w6 (w1.heap.size) 47 #[Value.int IntKind.i64 t.kind, Value.string { data := t.text.toArray }, Value.int IntKind.u64 t.num, Value.int IntKind.i64 t.off] := B51.kept K (by decide)
      have B58 : Box w6 ((w1.heap.size + 1)) 25 #[Value.int IntKind.i64 9, Value.string { data := t.text.toArray }, Value.string { data := #[] }, Value.int IntKind.u64 0, Value.int IntKind.i64 0, Value.int IntKind.i64 t.off, Value.slice (some { block := g, off := 0 }) (0 + 1) cap] := B52.kept K (by decide)
      have Q59 := Kids.later KF K
      have sz60 := K.size
      clear HQR hm53 H R K
      have HV61 := hq_ret HQ55
      have c62 : w6.cell? ⟨(w1.heap.size + 1), 0, none⟩ = some (Value.int IntKind.i64 9) := B58.cell 0
      have c63 : w6.cell? ⟨(w1.heap.size + 1), 1, none⟩ = some (Value.string { data := t.text.toArray }) := B58.cell 1
      have c64 : w6.cell? ⟨(w1.heap.size + 1), 2, none⟩ = some (Value.string { data := #[] }) := B58.cell 2
      have c65 : w6.cell? ⟨(w1.heap.size + 1), 3, none⟩ = some (Value.int IntKind.u64 0) := B58.cell 3
      have c66 : w6.cell? ⟨(w1.heap.size + 1), 4, none⟩ = some (Value.int IntKind.i64 0) := B58.cell 4
      have c67 : w6.cell? ⟨(w1.heap.size + 1), 5, none⟩ = some (Value.int IntKind.i64 t.off) := B58.cell 5
      have c68 : w6.cell? ⟨(w1.heap.size + 1), 6, none⟩ = some (Value.slice (some { block := g, off := 0 }) (0 + 1) cap) := B58.cell 6
      have fz69 := B58.free
      have hBW : M ≤ w6.heap.size := by omega
      go_wp2_with fail
      refine (value_any (Wc := W) he A54 (B := M) (by omega) hBW 9 0 0 t.off t.text [] [t2] (by simp) Q59).mono ?_
      intro e w7 H
      rcases H.cases with ⟨tv, s7, v, hm, rfl, ⟨⟨KA, KC, rfl, nd⟩, hbx⟩, R, K⟩ | ⟨l, s', ch, hm, rfl, H1⟩
      rotate_left 1
      · exact ⟨rfl, out0 HV61 hm H1⟩
      have AV : At E W w7 dp s7 := ⟨R, K, A54.bs⟩
      have HQV := hq_ok HV61 hm
      have BV : Box w7 W.heap.size 25 #[Value.int IntKind.i64 0, Value.string { data := #[] }, Value.string { data := #[] }, Value.int IntKind.u64 0, Value.int IntKind.i64 0, Value.int IntKind.i64 0, Value.slice none 0 0] := hbx _ _ _ B56 (by omega) (by decide)
      clear HQ55 HV61 hm H R K hbx
      have c70 : w7.cell? ⟨W.heap.size, 0, none⟩ = some (Value.int IntKind.i64 0) := BV.cell 0
      have c71 : w7.cell? ⟨W.heap.size, 1, none⟩ = some (Value.string { data := #[] }) := BV.cell 1
      have c72 : w7.cell? ⟨W.heap.size, 2, none⟩ = some (Value.string { data := #[] }) := BV.cell 2
      have c73 : w7.cell? ⟨W.heap.size, 3, none⟩ = some (Value.int IntKind.u64 0) := BV.cell 3
      have c74 : w7.cell? ⟨W.heap.size, 4, none⟩ = some (Value.int IntKind.i64 0) := BV.cell 4
      have c75 : w7.cell? ⟨W.heap.size, 5, none⟩ = some (Value.int IntKind.i64 0) := BV.cell 5
      have c76 : w7.cell? ⟨W.heap.size, 6, none⟩ = some (Value.slice none 0 0) := BV.cell 6
      have fz77 := BV.free
      go_wp2
      refine bodyPost_ret (v := .agg #[Value.int IntKind.i64 (tv).kind, Value.string { data := (tv).name.toArray }, Value.string { data := (tv).part.toArray }, Value.int IntKind.u64 (tv).num, Value.int IntKind.i64 (tv).wid, Value.int IntKind.i64 (tv).at_, Value.slice KA (tv).kids.length KC]) ?_ rfl ?_
      · simp [results, Tryz.results114, go_sem, c70, c71, c72, c73, c74, c75, c76]
      · exact (AV.fill BV (Nat.le_refl _) _ _ _ _ _ _ _).ok HQV ⟨_, _, rfl, nodeAt_le (M := M) (by omega) (nodeAt_fill (M := M) (by omega) _ _ _ _ _ _ _ nd)⟩
  · have hw1 : (wd E.ts s1.nx == [91]) = false := by simpa [pLK] using hc27
    have HY78 := Lib.hid (HV.out.trans (if_neg hc27))
    by_cases hc79 : wd E.ts s1.nx = pDot
    · have hw2 : (wd E.ts s1.nx == [46]) = true := by rw [hc79]; rfl
      have HY80 := Lib.hid (HY78.out.trans (if_pos hc79))
      have c81 : w2.cell? ⟨(w1.heap.size + 1), 0, none⟩ = some (Value.int IntKind.i64 8) := BD25.cell 0
      have fz82 := BD25.free
      have A83 := A22.set BD25 hb16 0 (Value.int IntKind.i64 10)
      have B84 := BD23.far (b' := (w1.heap.size + 1)) (i := 0) (by omega) (Value.int IntKind.i64 10)
      have B85 := BD24.far (b' := (w1.heap.size + 1)) (i := 0) (by omega) (Value.int IntKind.i64 10)
      have B86 := BD25.set 0 (Value.int IntKind.i64 10)
      have sz87 : (w2.setCell { block := (w1.heap.size + 1), off := 0 } (Value.int IntKind.i64 10)).heap.size = w2.heap.size := by simp [World.setCell]
      go_wp2_with fail
      obtain ⟨w8, hy88⟩ : ∃ Y, (w2.setCell { block := (w1.heap.size + 1), off := 0 } (Value.int IntKind.i64 10)) = Y := ⟨_, rfl⟩
      rw [hy88] at A83 sz87 B84 B85 B86  ⊢
      clear hy88
      have B89 : Box w8 (W.heap.size) 25 #[Value.int IntKind.i64 0, Value.string { data := #[] }, Value.string { data := #[] }, Value.int IntKind.u64 0, Value.int IntKind.i64 0, Value.int IntKind.i64 0, Value.slice none 0 0] := B84
      have B90 : Box w8 (w1.heap.size) 47 #[Value.int IntKind.i64 t.kind, Value.string { data := t.text.toArray }, Value.int IntKind.u64 t.num, Value.int IntKind.i64 t.off] := B85
      have B91 : Box w8 ((w1.heap.size + 1)) 25 #[Value.int IntKind.i64 10, Value.string { data := t.text.toArray }, Value.string { data := #[] }, Value.int IntKind.u64 0, Value.int IntKind.i64 0, Value.int IntKind.i64 t.off, Value.slice none 0 0] := B86
      refine (part_any A83.rs).mono ?_
      intro e w9 H
      rcases H.cases with ⟨q, s9, v, hm92, rfl, rfl, R, K⟩ | ⟨l, s', ch, hm, rfl, H1⟩
      rotate_left 1
      · exact ⟨rfl, A83.out HY80 hm H1⟩
      have A93 := A83.call R K
      have HQ94 := hq_ok HY80 hm92
      have B95 : Box w9 (W.heap.size) 25 #[Value.int IntKind.i64 0, Value.string { data := #[] }, Value.string { data := #[] }, Value.int IntKind.u64 0, Value.int IntKind.i64 0, Value.int IntKind.i64 0, Value.slice none 0 0] := B89.kept K (by decide)
      have B96 : Box w9 (w1.heap.size) 47 #[Value.int IntKind.i64 t.kind, Value.string { data := t.text.toArray }, Value.int IntKind.u64 t.num, Value.int IntKind.i64 t.off] := B90.kept K (by decide)
      have B97 : Box w9 ((w1.heap.size + 1)) 25 #[Value.int IntKind.i64 10, Value.string { data := t.text.toArray }, Value.string { data := #[] }, Value.int IntKind.u64 0, Value.int IntKind.i64 0, Value.int IntKind.i64 t.off, Value.slice none 0 0] := B91.kept K (by decide)
      have sz98 := K.size
      clear HY80 hm92 H R K
      have c99 : w9.cell? ⟨(w1.heap.size + 1), 2, none⟩ = some (Value.string { data := #[] }) := B97.cell 2
      have fz100 := B97.free
      have A101 := A93.set B97 hb16 2 (Value.string { data := (q).toArray })
      have B102 := B95.far (b' := (w1.heap.size + 1)) (i := 2) (by omega) (Value.string { data := (q).toArray })
      have B103 := B96.far (b' := (w1.heap.size + 1)) (i := 2) (by omega) (Value.string { data := (q).toArray })
      have B104 := B97.set 2 (Value.string { data := (q).toArray })
      have sz105 : (w9.setCell { block := (w1.heap.size + 1), off := 2 } (Value.string { data := (q).toArray })).heap.size = w9.heap.size := by simp [World.setCell]
      go_wp2_with fail
      refine (take_any pEq (by decide) A101.rs).mono ?_
      intro e w10 H
      rcases H.cases with ⟨t3, s10, v, hm106, rfl, rfl, R, K⟩ | ⟨l, s', ch, hm, rfl, H1⟩
      rotate_left 1
      · exact ⟨rfl, A101.out HQ94 hm H1⟩
      have A107 := A101.call R K
      have HQ108 := hq_ok HQ94 hm106
      have B109 : Box w10 (W.heap.size) 25 #[Value.int IntKind.i64 0, Value.string { data := #[] }, Value.string { data := #[] }, Value.int IntKind.u64 0, Value.int IntKind.i64 0, Value.int IntKind.i64 0, Value.slice none 0 0] := B102.kept K (by decide)
      have B110 : Box w10 (w1.heap.size) 47 #[Value.int IntKind.i64 t.kind, Value.string { data := t.text.toArray }, Value.int IntKind.u64 t.num, Value.int IntKind.i64 t.off] := B103.kept K (by decide)
      have B111 : Box w10 ((w1.heap.size + 1)) 25 #[Value.int IntKind.i64 10, Value.string { data := t.text.toArray }, Value.string { data := (q).toArray }, Value.int IntKind.u64 0, Value.int IntKind.i64 0, Value.int IntKind.i64 t.off, Value.slice none 0 0] := B104.kept K (by decide)
      have sz112 := K.size
      clear HQ94 hm106 H R K
      have HV113 := hq_ret HQ108
      have c114 : w10.cell? ⟨(w1.heap.size + 1), 0, none⟩ = some (Value.int IntKind.i64 10) := B111.cell 0
      have c115 : w10.cell? ⟨(w1.heap.size + 1), 1, none⟩ = some (Value.string { data := t.text.toArray }) := B111.cell 1
      have c116 : w10.cell? ⟨(w1.heap.size + 1), 2, none⟩ = some (Value.string { data := (q).toArray }) := B111.cell 2
      have c117 : w10.cell? ⟨(w1.heap.size + 1), 3, none⟩ = some (Value.int IntKind.u64 0) := B111.cell 3
      have c118 : w10.cell? ⟨(w1.heap.size + 1), 4, none⟩ = some (Value.int IntKind.i64 0) := B111.cell 4
      have c119 : w10.cell? ⟨(w1.heap.size + 1), 5, none⟩ = some (Value.int IntKind.i64 t.off) := B111.cell 5
      have c120 : w10.cell? ⟨(w1.heap.size + 1), 6, none⟩ = some (Value.slice none 0 0) := B111.cell 6
      have fz121 := B111.free
      have hBW : M ≤ w10.heap.size := by omega
      go_wp2_with fail
      refine (value_any (Wc := W) he A107 (B := M) (by omega) hBW 10 0 0 t.off t.text q [] (by decide) (Kids.nil _ _)).mono ?_
      intro e w11 H
      rcases H.cases with ⟨tv, s11, v, hm, rfl, ⟨⟨KA, KC, rfl, nd⟩, hbx⟩, R, K⟩ | ⟨l, s', ch, hm, rfl, H1⟩
      rotate_left 1
      · exact ⟨rfl, out0 HV113 hm H1⟩
      have AV : At E W w11 dp s11 := ⟨R, K, A107.bs⟩
      have HQV := hq_ok HV113 hm
      have BV : Box w11 W.heap.size 25 #[Value.int IntKind.i64 0, Value.string { data := #[] }, Value.string { data := #[] }, Value.int IntKind.u64 0, Value.int IntKind.i64 0, Value.int IntKind.i64 0, Value.slice none 0 0] := hbx _ _ _ B109 (by omega) (by decide)
      clear HQ108 HV113 hm H R K hbx
      have c122 : w11.cell? ⟨W.heap.size, 0, none⟩ = some (Value.int IntKind.i64 0) := BV.cell 0
      have c123 : w11.cell? ⟨W.heap.size, 1, none⟩ = some (Value.string { data := #[] }) := BV.cell 1
      have c124 : w11.cell? ⟨W.heap.size, 2, none⟩ = some (Value.string { data := #[] }) := BV.cell 2
      have c125 : w11.cell? ⟨W.heap.size, 3, none⟩ = some (Value.int IntKind.u64 0) := BV.cell 3
      have c126 : w11.cell? ⟨W.heap.size, 4, none⟩ = some (Value.int IntKind.i64 0) := BV.cell 4
      have c127 : w11.cell? ⟨W.heap.size, 5, none⟩ = some (Value.int IntKind.i64 0) := BV.cell 5
      have c128 : w11.cell? ⟨W.heap.size, 6, none⟩ = some (Value.slice none 0 0) := BV.cell 6
      have fz129 := BV.free
      go_wp2
      refine bodyPost_ret (v := .agg #[Value.int IntKind.i64 (tv).kind, Value.string { data := (tv).name.toArray }, Value.string { data := (tv).part.toArray }, Value.int IntKind.u64 (tv).num, Value.int IntKind.i64 (tv).wid, Value.int IntKind.i64 (tv).at_, Value.slice KA (tv).kids.length KC]) ?_ rfl ?_
      · simp [results, Tryz.results114, go_sem, c122, c123, c124, c125, c126, c127, c128]
      · exact (AV.fill BV (Nat.le_refl _) _ _ _ _ _ _ _).ok HQV ⟨_, _, rfl, nodeAt_le (M := M) (by omega) (nodeAt_fill (M := M) (by omega) _ _ _ _ _ _ _ nd)⟩
    · have hw2 : (wd E.ts s1.nx == [46]) = false := by simpa [pDot] using hc79
      have HY130 := Lib.hid (HY78.out.trans (if_neg hc79))
      go_wp2_with fail
      refine (take_any pEq (by decide) A22.rs).mono ?_
      intro e w12 H
      rcases H.cases with ⟨t3, s12, v, hm131, rfl, rfl, R, K⟩ | ⟨l, s', ch, hm, rfl, H1⟩
      rotate_left 1
      · exact ⟨rfl, A22.out HY130 hm H1⟩
      have A132 := A22.call R K
      have HQ133 := hq_ok HY130 hm131
      have B134 : Box w12 (W.heap.size) 25 #[Value.int IntKind.i64 0, Value.string { data := #[] }, Value.string { data := #[] }, Value.int IntKind.u64 0, Value.int IntKind.i64 0, Value.int IntKind.i64 0, Value.slice none 0 0] := BD23.kept K (by decide)
      have B135 : Box w12 (w1.heap.size) 47 #[Value.int IntKind.i64 t.kind, Value.string { data := t.text.toArray }, Value.int IntKind.u64 t.num, Value.int IntKind.i64 t.off] := BD24.kept K (by decide)
      have B136 : Box w12 ((w1.heap.size + 1)) 25 #[Value.int IntKind.i64 8, Value.string { data := t.text.toArray }, Value.string { data := #[] }, Value.int IntKind.u64 0, Value.int IntKind.i64 0, Value.int IntKind.i64 t.off, Value.slice none 0 0] := BD25.kept K (by decide)
      have sz137 := K.size
      clear HY130 hm131 H R K
      have HV138 := hq_ret HQ133
      have c139 : w12.cell? ⟨(w1.heap.size + 1), 0, none⟩ = some (Value.int IntKind.i64 8) := B136.cell 0
      have c140 : w12.cell? ⟨(w1.heap.size + 1), 1, none⟩ = some (Value.string { data := t.text.toArray }) := B136.cell 1
      have c141 : w12.cell? ⟨(w1.heap.size + 1), 2, none⟩ = some (Value.string { data := #[] }) := B136.cell 2
      have c142 : w12.cell? ⟨(w1.heap.size + 1), 3, none⟩ = some (Value.int IntKind.u64 0) := B136.cell 3
      have c143 : w12.cell? ⟨(w1.heap.size + 1), 4, none⟩ = some (Value.int IntKind.i64 0) := B136.cell 4
      have c144 : w12.cell? ⟨(w1.heap.size + 1), 5, none⟩ = some (Value.int IntKind.i64 t.off) := B136.cell 5
      have c145 : w12.cell? ⟨(w1.heap.size + 1), 6, none⟩ = some (Value.slice none 0 0) := B136.cell 6
      have fz146 := B136.free
      have hBW : M ≤ w12.heap.size := by omega
      go_wp2_with fail
      refine (value_any (Wc := W) he A132 (B := M) (by omega) hBW 8 0 0 t.off t.text [] [] (by decide) (Kids.nil _ _)).mono ?_
      intro e w13 H
      rcases H.cases with ⟨tv, s13, v, hm, rfl, ⟨⟨KA, KC, rfl, nd⟩, hbx⟩, R, K⟩ | ⟨l, s', ch, hm, rfl, H1⟩
      rotate_left 1
      · exact ⟨rfl, out0 HV138 hm H1⟩
      have AV : At E W w13 dp s13 := ⟨R, K, A132.bs⟩
      have HQV := hq_ok HV138 hm
      have BV : Box w13 W.heap.size 25 #[Value.int IntKind.i64 0, Value.string { data := #[] }, Value.string { data := #[] }, Value.int IntKind.u64 0, Value.int IntKind.i64 0, Value.int IntKind.i64 0, Value.slice none 0 0] := hbx _ _ _ B134 (by omega) (by decide)
      clear HQ133 HV138 hm H R K hbx
      have c147 : w13.cell? ⟨W.heap.size, 0, none⟩ = some (Value.int IntKind.i64 0) := BV.cell 0
      have c148 : w13.cell? ⟨W.heap.size, 1, none⟩ = some (Value.string { data := #[] }) := BV.cell 1
      have c149 : w13.cell? ⟨W.heap.size, 2, none⟩ = some (Value.string { data := #[] }) := BV.cell 2
      have c150 : w13.cell? ⟨W.heap.size, 3, none⟩ = some (Value.int IntKind.u64 0) := BV.cell 3
      have c151 : w13.cell? ⟨W.heap.size, 4, none⟩ = some (Value.int IntKind.i64 0) := BV.cell 4
      have c152 : w13.cell? ⟨W.heap.size, 5, none⟩ = some (Value.int IntKind.i64 0) := BV.cell 5
      have c153 : w13.cell? ⟨W.heap.size, 6, none⟩ = some (Value.slice none 0 0) := BV.cell 6
      have fz154 := BV.free
      go_wp2
      refine bodyPost_ret (v := .agg #[Value.int IntKind.i64 (tv).kind, Value.string { data := (tv).name.toArray }, Value.string { data := (tv).part.toArray }, Value.int IntKind.u64 (tv).num, Value.int IntKind.i64 (tv).wid, Value.int IntKind.i64 (tv).at_, Value.slice KA (tv).kids.length KC]) ?_ rfl ?_
      · simp [results, Tryz.results114, go_sem, c147, c148, c149, c150, c151, c152, c153]
      · exact (AV.fill BV (Nat.le_refl _) _ _ _ _ _ _ _).ok HQV ⟨_, _, rfl, nodeAt_le (M := M) (by omega) (nodeAt_fill (M := M) (by omega) _ _ _ _ _ _ _ nd)⟩

end Go.Proofs.YtmkehecapjdfdaaGreatDoor
