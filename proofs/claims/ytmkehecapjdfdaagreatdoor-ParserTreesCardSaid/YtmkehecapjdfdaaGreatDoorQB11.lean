/- Joined texts: PPrg, PPar, PDiag. -/
import Derived.Test.YtmkehecapjdfdaaGreatDoorQB9
import Derived.Deep.RegionLaw
import Derived.Deep.AppendLies
import Derived.Test.YtmkehecapjdfdaaGreatDoorQB10
import Derived.Test.YtmkehecapjdfdaaGreatDoorQB2

/- The whole program. -/
namespace Go.Proofs.YtmkehecapjdfdaaGreatDoor
open Go.RowKit

/-- What is left of the reader at the end: its diagnostics. -/
def RSd (E : Env) (w : World) (s : St) : Prop :=
  s.ds.length < 21 ∧ ∃ nx dp dv, w.heap[E.r]? = some (.cells (rdCells E nx dp dv) RT (0, 0)) ∧ w.ownsRow E.base DT 2 dv s.ds.length (dgV s.ds)
theorem RSd.ntc {E : Env} {w X : World} {s : St} (h : RSd E w s) (k : NTc w X) : RSd E X s := by
  obtain ⟨h0, nx, dp, dv, h1, h2⟩ := h
  exact ⟨h0, nx, dp, dv, k.obj h1 (fun c e => by cases e), k.own h2 (by decide)⟩
theorem RS.toD {E : Env} {N : Nat} {w : World} {dp : Nat} {s : St} (hN : N ≤ 21) (h : RS E N w dp s) : RSd E w s := by
  obtain ⟨dv, h1, h2⟩ := h.rd
  exact ⟨by have := h.few; omega, s.nx, dp, dv, h1, h2⟩
theorem RS.updD {E : Env} {W X : World} {dp nx' dp' : Nat} {s : St} {dv : Value} {cs : Array Value} (h : RS E 20 W dp s) (hc : W.cell? ⟨E.r, 3, none⟩ = some dv)
    (hu : Upd W X E.r cs) (he : cs = rdCells E nx' dp' dv) : RSd E X s ∧ Kept E.base W X := by
  obtain ⟨dv', h1, h2⟩ := h.rd
  have e : dv' = dv := by unfold World.cell? at hc; rw [h1] at hc; simpa [rdCells] using hc
  have ho := hu.grown
  have hk : Kept E.base W X := by
    refine ⟨⟨ho.os, ho.tape, ho.output, ho.size, fun k hk => ho.block k (by have := h.lt; have := h.base; omega) (by have := h.base; simp; omega)⟩, fun b hb hT => ?_⟩
    refine ho.block b hb ?_
    intro e
    cases e
    exact (hT _ _ _ h1).1 rfl
  refine ⟨⟨by have := h.few; omega, nx', dp', dv, by rw [← he]; exact hu.blk, ?_⟩, hk⟩
  rw [← e]
  refine h2.kept ho ?_
  rcases h2.2 with ⟨rfl, _⟩ | ⟨g, cap, cur, rfl, _, hg, _⟩
  · exact .inl rfl
  · right
    intro e
    simp [Value.ownBlock] at e
    subst e
    rw [h1] at hg
    cases hg
theorem At.outJ {E : Env} {W X Y : World} {dp : Nat} {s : St} {α β : Type} {J : World → St → Prop} {R : World → α → Value → Prop} {M : Res α} {m : PM β} {k : β → PM α} {l : Nat} {s' : St} {ch : List PanicEntry}
    (h : At E W X dp s) (HQ : Hid (M = bnd m k s)) (hm : m s = .out l s') (H : Up E X l s' ch Y) : PostJ E W J R M (.panicked ch) Y := by
  obtain ⟨c, dp', rfl, h1, h2, h3⟩ := H
  rw [HQ.out, bnd_out hm]
  exact ⟨c, dp', rfl, h1, h2, h.kept.trans h3⟩

set_option maxRecDepth 100000 in
set_option maxHeartbeats 1600000 in
theorem take_endY {w : Str} {E : Env} {W : World} {dp : Nat} {s : St} (h : RS E 20 W dp s) (hw : wd E.ts s.nx = w) :
    Calls Tryz.prog 64 #[.pointer (some ⟨E.r, 0, none⟩), .string ⟨w.toArray⟩] W (PostJ E W (RSd E) RTok (take E.ts w s)) := by
  have e0 : take E.ts w s = .ok (tk E.ts s.nx) ⟨s.nx + 1, s.ds⟩ := by unfold take; rw [if_pos hw]
  rw [e0]
  have b1 : (wd E.ts s.nx == w) = true := by simpa using hw
  clear hw e0
  go_enter Tryz.func64, Tryz.ntmps64
  go_wp2_with fail
  refine (word_any (h.later ((Below.refl _ _).alloc (Nat.le_refl _) _))).mono ?_
  rintro e w1 ⟨rfl, n1, rfl⟩
  obtain ⟨W1, eW⟩ : ∃ W1, (W.alloc (Obj.cells #[Value.int IntKind.i64 0, Value.string { data := #[] }, Value.int IntKind.u64 0, Value.int IntKind.i64 0] 47)).drewN n1 = W1 := ⟨_, rfl⟩
  have hB : Below W.heap.size W W1 := by rw [← eW]; exact (Below.refl _ _).alloc (Nat.le_refl _) _ |>.trans ((Drew.below ⟨n1, rfl⟩).mono (by simp))
  have hs1 : W1.heap.size = W.heap.size + 1 := by rw [← eW]; simp
  have c0 : W1.cell? ⟨W.heap.size, 0, none⟩ = some (.int .i64 0) := by rw [← eW]; simp [go_sem]
  have c1 : W1.cell? ⟨W.heap.size, 1, none⟩ = some (.string { data := #[] }) := by rw [← eW]; simp [go_sem]
  have c2 : W1.cell? ⟨W.heap.size, 2, none⟩ = some (.int .u64 0) := by rw [← eW]; simp [go_sem]
  have c3 : W1.cell? ⟨W.heap.size, 3, none⟩ = some (.int .i64 0) := by rw [← eW]; simp [go_sem]
  have f0 : ∀ i, W1.frozen? ⟨W.heap.size, i, none⟩ = false := by intro i; rw [← eW]; simp [go_sem]
  have h1 := h.later hB
  rw [eW]
  clear eW
  obtain ⟨tb, cap, etv, hcap, k0, k1, k2, k3, k4⟩ := h1.fix.tok s.nx h.hnx
  obtain ⟨dv, r0, r1, r2, r3, r4, r5, r6, r7, rf, _⟩ := h1.cells
  have hnx := h.hnx
  have hf := h.good.few
  rw [etv] at r0
  have z1 := World.new_ne W1 _ k0
  have z2 := World.new_ne W1 _ r0
  go_wp2_with fail
  go_region_held3 (fun w' => w'.cell? ⟨E.r, 0, none⟩ = some (.slice (some ⟨tb, 0, none⟩) E.ts.length cap) ∧ w'.cell? ⟨E.r, 1, none⟩ = some (.int .i64 s.nx) ∧ w'.cell? ⟨tb, s.nx * 5, none⟩ = some (.int .i64 (tk E.ts s.nx).kind) ∧ w'.cell? ⟨tb, s.nx * 5 + 1, none⟩ = some (.string ⟨(tk E.ts s.nx).text.toArray⟩) ∧ w'.cell? ⟨tb, s.nx * 5 + 2, none⟩ = some (.int .u64 (tk E.ts s.nx).num) ∧ w'.cell? ⟨tb, s.nx * 5 + 3, none⟩ = some (.int .i64 (tk E.ts s.nx).off)) (go_keep) (fail)
  obtain ⟨W2, eW2⟩ : ∃ W2, (W1.alloc (Obj.cells #[Value.int IntKind.i64 (tk E.ts s.nx).kind, Value.string { data := (tk E.ts s.nx).text.toArray }, Value.int IntKind.u64 (tk E.ts s.nx).num, Value.int IntKind.i64 (tk E.ts s.nx).off] 47)).drew = W2 := ⟨_, rfl⟩
  have hB2 : Below W1.heap.size W1 W2 := by rw [← eW2]; exact (Below.refl _ _).alloc (Nat.le_refl _) _ |>.trans ((Drew.below ⟨1, rfl⟩).mono (by simp))
  have d0 : W2.cell? ⟨W.heap.size + 1, 0, none⟩ = some (.int .i64 (tk E.ts s.nx).kind) := by rw [← eW2, ← hs1]; simp [go_sem]
  have d1 : W2.cell? ⟨W.heap.size + 1, 1, none⟩ = some (.string { data := (tk E.ts s.nx).text.toArray }) := by rw [← eW2, ← hs1]; simp [go_sem]
  have d2 : W2.cell? ⟨W.heap.size + 1, 2, none⟩ = some (.int .u64 (tk E.ts s.nx).num) := by rw [← eW2, ← hs1]; simp [go_sem]
  have d3 : W2.cell? ⟨W.heap.size + 1, 3, none⟩ = some (.int .i64 (tk E.ts s.nx).off) := by rw [← eW2, ← hs1]; simp [go_sem]
  rw [eW2]
  clear eW2
  obtain ⟨dvw, _, _, _, rw3, _⟩ := h.cells
  have U := ((Upd.start (h.blk rw3)).later hB).later hB2
  have hr := h.lt
  obtain ⟨hc, hfr⟩ := bcellP hB2
  have e0 := (hc W.heap.size 0 (by omega)).trans c0
  have e1 := (hc W.heap.size 1 (by omega)).trans c1
  have e2 := (hc W.heap.size 2 (by omega)).trans c2
  have e3 := (hc W.heap.size 3 (by omega)).trans c3
  have q1 := (hc E.r 1 (by omega)).trans r1
  have qf := (hfr E.r 1 (by omega)).trans (rf 1)
  have g0 := fun i => (hfr W.heap.size i (by omega)).trans (f0 i)
  have w1 : IntKind.i64.wrap ((s.nx : Int) + 1) = (s.nx : Int) + 1 := IntWalk.i64_in _ (by omega)
  have n1 : ¬ E.r = W.heap.size := by omega
  have n2 : ¬ E.r = W.heap.size + 1 := by omega
  have n3 : ¬ W.heap.size = E.r := by omega
  have n4 : ¬ W.heap.size + 1 = E.r := by omega
  clear hc hfr c0 c1 c2 c3 r0 r1 r2 r3 r4 r5 r6 r7 rf k0 k1 k2 k3 k4 z1 z2 f0 hs1
  go_wp2_with fail
  have U2 := ((((U.set 1 (.int .i64 ((s.nx : Int) + 1))).far (b := W.heap.size) (i := 0) (Nat.le_refl _) (.int .i64 (tk E.ts s.nx).kind)).far (b := W.heap.size) (i := 1) (Nat.le_refl _) (.string { data := (tk E.ts s.nx).text.toArray })).far (b := W.heap.size) (i := 2) (Nat.le_refl _) (.int .u64 (tk E.ts s.nx).num)).far (b := W.heap.size) (i := 3) (Nat.le_refl _) (.int .i64 (tk E.ts s.nx).off)
  obtain ⟨k1, k2⟩ := h.updD (nx' := s.nx + 1) (dp' := dp) rw3 U2 rfl
  exact bodyPost_ret (v := .agg #[.int .i64 (tk E.ts s.nx).kind, .string ⟨(tk E.ts s.nx).text.toArray⟩, .int .u64 (tk E.ts s.nx).num, .int .i64 (tk E.ts s.nx).off]) (by simp [results, Tryz.results64, go_sem, e0, e1, e2, e3]) rfl ⟨_, rfl, rfl, k1, k2⟩
theorem take_end (w : Str) {E : Env} {W : World} {dp : Nat} {s : St} (h : RS E 20 W dp s) :
    Calls Tryz.prog 64 #[.pointer (some ⟨E.r, 0, none⟩), .string ⟨w.toArray⟩] W (PostJ E W (RSd E) RTok (take E.ts w s)) := by
  by_cases hw : wd E.ts s.nx = w
  · exact take_endY h hw
  · refine (take_no RTok h hw).mono ?_
    intro e w' H
    have e0 : take E.ts w s = fail E.ts 10 s := by unfold take; rw [if_neg hw]
    rw [e0] at H ⊢
    exact H
theorem att_none_out {m : PM T} {most : Nat} {s s' : St} (h : attempt m most s = .ok none s') : ∃ l, m s = .out l s' := by
  unfold attempt at h
  split at h
  · cases h
  · rename_i l s1 h1
    split at h
    · cases h
      exact ⟨l, h1⟩
    · cases h

def PrgRel (E : Env) (W : World) (dp : Nat) (m : PM T) (M : Res T) (v : Value) (wr : World) : Prop :=
  ∃ (pd : Bool) (l : List T) (A : Option Addr) (c : Nat) (s2 : St), v = .bool pd ∧ At E W wr dp s2 ∧ Box wr W.heap.size 25 #[Value.int IntKind.i64 0, Value.string { data := #[] }, Value.string { data := #[] }, Value.int IntKind.u64 0, Value.int IntKind.i64 0, Value.int IntKind.i64 0, Value.slice none 0 0] ∧ Box wr (W.heap.size + 1) 25 #[Value.int IntKind.i64 1, Value.string { data := #[] }, Value.string { data := #[] }, Value.int IntKind.u64 0, Value.int IntKind.i64 0, Value.int IntKind.i64 0, (Value.slice A l.length c)] ∧ Kids wr (W.heap.size + 2) l (Value.slice A l.length c) ∧
    (if pd then Hid (M = bnd (take E.ts wEnd) (fun _ => ret (.mk 1 [] [] 0 0 0 l)) s2) else ∃ g, Hid (M = bnd (items E.ts m g l) (fun l => bnd (take E.ts wEnd) fun _ => ret (.mk 1 [] [] 0 0 0 l)) s2) ∧ E.ts.length - s2.nx ≤ g) ∧ l.length ≤ s2.nx
def prgMeas (E : Env) (v : Value) (wr : World) : Nat := match v with
  | .bool true => 0
  | _ => 1 + (E.ts.length - nxOf wr E.r)

set_option maxRecDepth 100000 in
set_option maxHeartbeats 6400000 in
theorem program_any {E : Env} {W : World} {dp : Nat} {s : St} (hI : CM E dp 62 (item E.ts (block E.ts 10))) (h : RS E 20 W dp s) :
    Calls Tryz.prog 33 #[.pointer (some ⟨E.r, 0, none⟩)] W (PostJ E W (RSd E) (RNodeX W.heap.size) (program E.ts s)) := by
  have A0 := At.start h
  have HQ0 : Hid (program E.ts s = bnd (items E.ts (item E.ts (block E.ts 10)) (2 * E.ts.length + 2) []) (fun l => bnd (take E.ts wEnd) fun _ => ret (.mk 1 [] [] 0 0 0 l)) s) := Lib.hid rfl
  generalize hM : program E.ts s = M at *
  clear hM
  obtain ⟨m, hm⟩ : ∃ m, m = item E.ts (block E.ts 10) := ⟨_, rfl⟩
  have hmv : Mv 1 m := by rw [hm]; exact mv_item E.ts (mv_block E.ts 10)
  have hio : ∀ (s s' : St) (l : Nat), m s = .out l s' → s.nx + 1 ≤ s'.nx ∨ (s'.nx = s.nx ∧ wd E.ts s.nx ≠ kStruct ∧ wd E.ts s.nx ≠ kFunc ∧ wd E.ts s.nx ≠ kParse) := by rw [hm]; exact fun s s' l e => item_out E.ts (mv_block E.ts 10) e
  rw [← hm] at HQ0 hI
  clear hm
  have hb1 := A0.size
  have B2 := Box.new (W) 25 #[Value.int IntKind.i64 0, Value.string { data := #[] }, Value.string { data := #[] }, Value.int IntKind.u64 0, Value.int IntKind.i64 0, Value.int IntKind.i64 0, Value.slice none 0 0]
  have A3 := A0.alloc (Obj.cells #[Value.int IntKind.i64 0, Value.string { data := #[] }, Value.string { data := #[] }, Value.int IntKind.u64 0, Value.int IntKind.i64 0, Value.int IntKind.i64 0, Value.slice none 0 0] 25)
  have sz4 : (W.alloc (Obj.cells #[Value.int IntKind.i64 0, Value.string { data := #[] }, Value.string { data := #[] }, Value.int IntKind.u64 0, Value.int IntKind.i64 0, Value.int IntKind.i64 0, Value.slice none 0 0] 25)).heap.size = W.heap.size + 1 := by simp
  have hb5 : W.heap.size ≤ W.heap.size + 1 := by omega
  have B6 := B2.alloc (Obj.cells #[Value.int IntKind.i64 1, Value.string { data := #[] }, Value.string { data := #[] }, Value.int IntKind.u64 0, Value.int IntKind.i64 0, Value.int IntKind.i64 0, Value.slice none 0 0] 25)
  have B7 := Box.new2 W (Obj.cells #[Value.int IntKind.i64 0, Value.string { data := #[] }, Value.string { data := #[] }, Value.int IntKind.u64 0, Value.int IntKind.i64 0, Value.int IntKind.i64 0, Value.slice none 0 0] 25) 25 #[Value.int IntKind.i64 1, Value.string { data := #[] }, Value.string { data := #[] }, Value.int IntKind.u64 0, Value.int IntKind.i64 0, Value.int IntKind.i64 0, Value.slice none 0 0]
  have A8 := A3.alloc (Obj.cells #[Value.int IntKind.i64 1, Value.string { data := #[] }, Value.string { data := #[] }, Value.int IntKind.u64 0, Value.int IntKind.i64 0, Value.int IntKind.i64 0, Value.slice none 0 0] 25)
  have sz9 : ((W.alloc (Obj.cells #[Value.int IntKind.i64 0, Value.string { data := #[] }, Value.string { data := #[] }, Value.int IntKind.u64 0, Value.int IntKind.i64 0, Value.int IntKind.i64 0, Value.slice none 0 0] 25)).alloc (Obj.cells #[Value.int IntKind.i64 1, Value.string { data := #[] }, Value.string { data := #[] }, Value.int IntKind.u64 0, Value.int IntKind.i64 0, Value.int IntKind.i64 0, Value.slice none 0 0] 25)).heap.size = W.heap.size + 2 := by simp
  obtain ⟨i0, hi, hz0, hz1, hz2⟩ := info_parts Tryz.infoNode
  go_enter Tryz.func33, Tryz.ntmps33
  go_wp2_with fail
  go_loopw [4] (fun v wr => PrgRel E W dp m M v wr) (fun v wr => prgMeas E v wr)
  case atStart => exact ⟨false, [], none, 0, s, rfl, A8, B6, B7, Kids.nil _ _, ⟨_, HQ0, by omega⟩, by simp⟩
  case round =>
    rename_i wr
    obtain ⟨pd, l, A, c, s2, rfl, Ar, Br, Bn, Kr, HQ, hl⟩ := hrel
    clear A8 B6 B7 HQ0
    have hnx := Ar.rs.hnx
    have hf := Ar.rs.good.few
    have hwr := Ar.size
    have hbl := Bn.lt
    have hn2 := nxOf_rs Ar.rs
    by_cases hpd : pd = true
    · subst hpd
      have HX : Hid (M = bnd (take E.ts wEnd) (fun _ => ret (.mk 1 [] [] 0 0 0 l)) s2) := by simpa using HQ
      clear HQ
      go_wp2_with fail
      refine (take_end wEnd Ar.rs).mono ?_
      intro e w3 H
      rcases H.cases with ⟨tt, s3, v, hmt, rfl, rfl, R, K⟩ | ⟨l, s', ch, hmt, rfl, H1⟩
      rotate_left 1
      · exact ⟨rfl, Ar.outJ HX hmt H1⟩
      have HY := hq_ok HX hmt
      have hKe := Ar.kept.trans K
      have szK := K.size
      have B3r : Box w3 W.heap.size 25 #[Value.int IntKind.i64 0, Value.string { data := #[] }, Value.string { data := #[] }, Value.int IntKind.u64 0, Value.int IntKind.i64 0, Value.int IntKind.i64 0, Value.slice none 0 0] := Br.kept K (by decide)
      have B3n : Box w3 (W.heap.size + 1) 25 #[Value.int IntKind.i64 1, Value.string { data := #[] }, Value.string { data := #[] }, Value.int IntKind.u64 0, Value.int IntKind.i64 0, Value.int IntKind.i64 0, (Value.slice A l.length c)] := Bn.kept K (by decide)
      have K3 := Kids.later Kr K
      clear HX hmt H K
      have c10 : w3.cell? ⟨(W.heap.size + 1), 0, none⟩ = some (Value.int IntKind.i64 1) := B3n.cell 0
      have c11 : w3.cell? ⟨(W.heap.size + 1), 1, none⟩ = some (Value.string { data := #[] }) := B3n.cell 1
      have c12 : w3.cell? ⟨(W.heap.size + 1), 2, none⟩ = some (Value.string { data := #[] }) := B3n.cell 2
      have c13 : w3.cell? ⟨(W.heap.size + 1), 3, none⟩ = some (Value.int IntKind.u64 0) := B3n.cell 3
      have c14 : w3.cell? ⟨(W.heap.size + 1), 4, none⟩ = some (Value.int IntKind.i64 0) := B3n.cell 4
      have c15 : w3.cell? ⟨(W.heap.size + 1), 5, none⟩ = some (Value.int IntKind.i64 0) := B3n.cell 5
      have c16 : w3.cell? ⟨(W.heap.size + 1), 6, none⟩ = some ((Value.slice A l.length c)) := B3n.cell 6
      have fz17 := B3n.free
      have c18 : w3.cell? ⟨W.heap.size, 0, none⟩ = some (Value.int IntKind.i64 0) := B3r.cell 0
      have c19 : w3.cell? ⟨W.heap.size, 1, none⟩ = some (Value.string { data := #[] }) := B3r.cell 1
      have c20 : w3.cell? ⟨W.heap.size, 2, none⟩ = some (Value.string { data := #[] }) := B3r.cell 2
      have c21 : w3.cell? ⟨W.heap.size, 3, none⟩ = some (Value.int IntKind.u64 0) := B3r.cell 3
      have c22 : w3.cell? ⟨W.heap.size, 4, none⟩ = some (Value.int IntKind.i64 0) := B3r.cell 4
      have c23 : w3.cell? ⟨W.heap.size, 5, none⟩ = some (Value.int IntKind.i64 0) := B3r.cell 5
      have c24 : w3.cell? ⟨W.heap.size, 6, none⟩ = some (Value.slice none 0 0) := B3r.cell 6
      have fz25 := B3r.free
      have hbW := Ar.bs
      go_wp2
      refine bodyPost_ret (v := .agg #[Value.int IntKind.i64 1, Value.string { data := #[] }, Value.string { data := #[] }, Value.int IntKind.u64 0, Value.int IntKind.i64 0, Value.int IntKind.i64 0, (Value.slice A l.length c)]) ?_ rfl ?_
      · simp [results, Tryz.results33, go_sem, c18, c19, c20, c21, c22, c23, c24]
      · rw [HY.out]
        exact ⟨_, rfl, ⟨_, _, rfl, nodeAt_le (M := W.heap.size + 2) (by omega) (nodeAt_fill (M := W.heap.size + 2) (by omega) _ _ _ _ _ _ _ (K3.node _ _ _ _ _ _))⟩, R.ntc (ntc_fill B3r _ _ _ _ _ _ _), hKe.then_ hbW (below_fill (Nat.le_refl _) _ _ _ _ _ _ _)⟩
    · have hpf : pd = false := by cases pd <;> simp_all
      subst hpf
      clear hpd
      obtain ⟨g, HG, hg⟩ : ∃ g, Hid (M = bnd (items E.ts m g l) (fun l => bnd (take E.ts wEnd) fun _ => ret (.mk 1 [] [] 0 0 0 l)) s2) ∧ E.ts.length - s2.nx ≤ g := by simpa using HQ
      clear HQ
      obtain ⟨g', rfl⟩ : ∃ g', g = g' + 1 := ⟨g - 1, by omega⟩
      go_wp2_with fail
      refine (word_any Ar.rs).mono ?_
      rintro e w3 ⟨rfl, D⟩
      have AD := Ar.later D.below
      have BDr := Br.below D.below
      have BDn := Bn.below D.below
      have KD : Kids w3 (W.heap.size + 2) l (Value.slice A l.length c) := Kids.later Kr (Kept.of (B := 0) D.below (Nat.zero_le _))
      have szD := D.below.size
      clear D Ar Br Bn Kr
      by_cases hp : wd E.ts s2.nx = kParse
      · have hw1 : (wd E.ts s2.nx == [112, 97, 114, 115, 101]) = true := by rw [hp]; rfl
        have HX : Hid (M = bnd (attempt m 0) (fun o => bnd ((fun o => match o with | some t => if t.kind = 6 then ret (l ++ [t]) else items E.ts m g' (l ++ [t]) | none => bnd (skipItem E.ts E.ts.length) fun _ => items E.ts m g' l) o) (fun l => bnd (take E.ts wEnd) fun _ => ret (.mk 1 [] [] 0 0 0 l))) s2) := Lib.hid (by
          rw [HG.out, ← bnd_bnd]
          refine bnd_to ?_
          simp only [items]
          rw [if_pos hp]
          rfl)
        clear HG
        go_wp2_with fail
        refine (attempt_any 0 (by decide) bod_item hI AD.rs).mono ?_
        intro e w4 H
        rcases H.cases with ⟨o, s4, v, hm26, rfl, hr, R, K⟩ | ⟨l, s', ch, hm, rfl, H1⟩
        rotate_left 1
        · exact ⟨rfl, AD.outJ HX hm H1⟩
        have A27 := AD.call R K
        have HQ28 := hq_ok HX hm26
        have B29 : Box w4 (W.heap.size) 25 #[Value.int IntKind.i64 0, Value.string { data := #[] }, Value.string { data := #[] }, Value.int IntKind.u64 0, Value.int IntKind.i64 0, Value.int IntKind.i64 0, Value.slice none 0 0] := BDr.kept K (by decide)
        have B30 : Box w4 ((W.heap.size + 1)) 25 #[Value.int IntKind.i64 1, Value.string { data := #[] }, Value.string { data := #[] }, Value.int IntKind.u64 0, Value.int IntKind.i64 0, Value.int IntKind.i64 0, (Value.slice A l.length c)] := BDn.kept K (by decide)
        have Q31 := Kids.later KD K
        have sz32 := K.size
        have hmo := Lib.hid hm26
        clear HX hm26 H R K
        cases o with
        | none =>
          have hv : v = .tuple #[.agg #[Value.int IntKind.i64 0, Value.string { data := #[] }, Value.string { data := #[] }, Value.int IntKind.u64 0, Value.int IntKind.i64 0, Value.int IntKind.i64 0, Value.slice none 0 0], .bool false] := hr
          subst hv
          clear hr
          have HY : Hid (M = bnd (skipItem E.ts E.ts.length) (fun _ => bnd (items E.ts m g' l) (fun l => bnd (take E.ts wEnd) fun _ => ret (.mk 1 [] [] 0 0 0 l))) s4) := Lib.hid (by rw [HQ28.out, ← bnd_bnd])
          obtain ⟨lv, hlv⟩ := att_none_out hmo.out
          have h24 := hio _ _ _ hlv
          clear hmo hlv
          have hb33 := A27.size
          have B34 := B29.alloc (Obj.cells #[Value.int IntKind.i64 0, Value.string { data := #[] }, Value.string { data := #[] }, Value.int IntKind.u64 0, Value.int IntKind.i64 0, Value.int IntKind.i64 0, Value.slice none 0 0] 25)
          have lt35 := B29.lt
          have B36 := B30.alloc (Obj.cells #[Value.int IntKind.i64 0, Value.string { data := #[] }, Value.string { data := #[] }, Value.int IntKind.u64 0, Value.int IntKind.i64 0, Value.int IntKind.i64 0, Value.slice none 0 0] 25)
          have lt37 := B30.lt
          have B38 := Box.new (w4) 25 #[Value.int IntKind.i64 0, Value.string { data := #[] }, Value.string { data := #[] }, Value.int IntKind.u64 0, Value.int IntKind.i64 0, Value.int IntKind.i64 0, Value.slice none 0 0]
          have A39 := A27.alloc (Obj.cells #[Value.int IntKind.i64 0, Value.string { data := #[] }, Value.string { data := #[] }, Value.int IntKind.u64 0, Value.int IntKind.i64 0, Value.int IntKind.i64 0, Value.slice none 0 0] 25)
          have sz40 : (w4.alloc (Obj.cells #[Value.int IntKind.i64 0, Value.string { data := #[] }, Value.string { data := #[] }, Value.int IntKind.u64 0, Value.int IntKind.i64 0, Value.int IntKind.i64 0, Value.slice none 0 0] 25)).heap.size = w4.heap.size + 1 := by simp
          have KZ : Kids (w4.alloc (Obj.cells #[Value.int IntKind.i64 0, Value.string { data := #[] }, Value.string { data := #[] }, Value.int IntKind.u64 0, Value.int IntKind.i64 0, Value.int IntKind.i64 0, Value.slice none 0 0] 25)) (W.heap.size + 2) l (Value.slice A l.length c) := Kids.later Q31 (Kept.of (B := 0) ((Below.refl _ _).alloc (Nat.le_refl _) _) (Nat.zero_le _))
          go_wp2_with fail
          refine (skipItem_any A39.rs).mono ?_
          intro e w5 H
          rcases H.cases with ⟨q, s5, v, hm41, rfl, rfl, R, K⟩ | ⟨l, s', ch, hm, rfl, H1⟩
          rotate_left 1
          · exact ⟨rfl, A39.outJ HY hm H1⟩
          have A42 := A39.call R K
          have HQ43 := hq_ok HY hm41
          have B44 : Box w5 (W.heap.size) 25 #[Value.int IntKind.i64 0, Value.string { data := #[] }, Value.string { data := #[] }, Value.int IntKind.u64 0, Value.int IntKind.i64 0, Value.int IntKind.i64 0, Value.slice none 0 0] := B34.kept K (by decide)
          have B45 : Box w5 ((W.heap.size + 1)) 25 #[Value.int IntKind.i64 1, Value.string { data := #[] }, Value.string { data := #[] }, Value.int IntKind.u64 0, Value.int IntKind.i64 0, Value.int IntKind.i64 0, (Value.slice A l.length c)] := B36.kept K (by decide)
          have B46 : Box w5 (w4.heap.size) 25 #[Value.int IntKind.i64 0, Value.string { data := #[] }, Value.string { data := #[] }, Value.int IntKind.u64 0, Value.int IntKind.i64 0, Value.int IntKind.i64 0, Value.slice none 0 0] := B38.kept K (by decide)
          have Q47 := Kids.later KZ K
          have sz48 := K.size
          have hsk := Lib.hid hm41
          clear HY hm41 H R K
          have h25 : s2.nx + 1 ≤ s5.nx := by
            rcases h24 with h | ⟨h1, h2⟩
            · have := (mv_skipItem E.ts E.ts.length).ok _ _ _ hsk.out
              omega
            · have := skipItem_ok E.ts hsk.out (by rw [h1]; exact h2)
              omega
          clear hsk h24
          have hn5 := nxOf_rs A42.rs
          go_wp2_with fail
          go_roundw
          case rel => exact ⟨false, l, A, c, s5, rfl, A42, B44, B45, Q47, ⟨g', HQ43, by omega⟩, by omega⟩
          case measure => simp only [prgMeas]; rw [hn2, hn5]; omega
        | some t =>
          obtain ⟨KA, KC, rfl, nd⟩ := hr
          have HY : Hid (M = bnd (if t.kind = 6 then ret (l ++ [t]) else items E.ts m g' (l ++ [t])) (fun l => bnd (take E.ts wEnd) fun _ => ret (.mk 1 [] [] 0 0 0 l)) s4) := Lib.hid HQ28.out
          have h24 := att_some hmv hmo.out
          clear hmo
          have hb49 := A27.size
          have B50 := B29.alloc (Obj.cells #[Value.int IntKind.i64 (t).kind, Value.string { data := (t).name.toArray }, Value.string { data := (t).part.toArray }, Value.int IntKind.u64 (t).num, Value.int IntKind.i64 (t).wid, Value.int IntKind.i64 (t).at_, Value.slice KA t.kids.length KC] 25)
          have lt51 := B29.lt
          have B52 := B30.alloc (Obj.cells #[Value.int IntKind.i64 (t).kind, Value.string { data := (t).name.toArray }, Value.string { data := (t).part.toArray }, Value.int IntKind.u64 (t).num, Value.int IntKind.i64 (t).wid, Value.int IntKind.i64 (t).at_, Value.slice KA t.kids.length KC] 25)
          have lt53 := B30.lt
          have B54 := Box.new (w4) 25 #[Value.int IntKind.i64 (t).kind, Value.string { data := (t).name.toArray }, Value.string { data := (t).part.toArray }, Value.int IntKind.u64 (t).num, Value.int IntKind.i64 (t).wid, Value.int IntKind.i64 (t).at_, Value.slice KA t.kids.length KC]
          have A55 := A27.alloc (Obj.cells #[Value.int IntKind.i64 (t).kind, Value.string { data := (t).name.toArray }, Value.string { data := (t).part.toArray }, Value.int IntKind.u64 (t).num, Value.int IntKind.i64 (t).wid, Value.int IntKind.i64 (t).at_, Value.slice KA t.kids.length KC] 25)
          have sz56 : (w4.alloc (Obj.cells #[Value.int IntKind.i64 (t).kind, Value.string { data := (t).name.toArray }, Value.string { data := (t).part.toArray }, Value.int IntKind.u64 (t).num, Value.int IntKind.i64 (t).wid, Value.int IntKind.i64 (t).at_, Value.slice KA t.kids.length KC] 25)).heap.size = w4.heap.size + 1 := by simp
          have KZ : Kids (w4.alloc (Obj.cells #[Value.int IntKind.i64 (t).kind, Value.string { data := (t).name.toArray }, Value.string { data := (t).part.toArray }, Value.int IntKind.u64 (t).num, Value.int IntKind.i64 (t).wid, Value.int IntKind.i64 (t).at_, Value.slice KA t.kids.length KC] 25)) (W.heap.size + 2) l (Value.slice A l.length c) := Kids.later Q31 (Kept.of (B := 0) ((Below.refl _ _).alloc (Nat.le_refl _) _) (Nat.zero_le _))
          have ndZ := nodeAt_kept (Kept.of (B := 0) ((Below.refl _ _).alloc (Nat.le_refl _) (Obj.cells #[Value.int IntKind.i64 (t).kind, Value.string { data := (t).name.toArray }, Value.string { data := (t).part.toArray }, Value.int IntKind.u64 (t).num, Value.int IntKind.i64 (t).wid, Value.int IntKind.i64 (t).at_, Value.slice KA t.kids.length KC] 25)) (Nat.zero_le _)) nd
          have hkl : ∀ g, (Value.slice A l.length c).ownBlock = some g → g < w3.heap.size := by
            obtain ⟨kc3, ko3, _⟩ := KD
            exact fun g hg => (ko3.lt g hg).2
          clear nd KD
          go_upto_region 10 with fail
          obtain ⟨w5, hy57⟩ : ∃ Y, (w4.alloc (Obj.cells #[Value.int IntKind.i64 (t).kind, Value.string { data := (t).name.toArray }, Value.string { data := (t).part.toArray }, Value.int IntKind.u64 (t).num, Value.int IntKind.i64 (t).wid, Value.int IntKind.i64 (t).at_, Value.slice KA t.kids.length KC] 25)) = Y := ⟨_, rfl⟩
          rw [hy57] at A55 sz56 B50 B52 B54 KZ ndZ ⊢
          clear hy57
          have B58 : Box w5 (W.heap.size) 25 #[Value.int IntKind.i64 0, Value.string { data := #[] }, Value.string { data := #[] }, Value.int IntKind.u64 0, Value.int IntKind.i64 0, Value.int IntKind.i64 0, Value.slice none 0 0] := B50
          have B59 : Box w5 ((W.heap.size + 1)) 25 #[Value.int IntKind.i64 1, Value.string { data := #[] }, Value.string { data := #[] }, Value.int IntKind.u64 0, Value.int IntKind.i64 0, Value.int IntKind.i64 0, (Value.slice A l.length c)] := B52
          have B60 : Box w5 (w4.heap.size) 25 #[Value.int IntKind.i64 (t).kind, Value.string { data := (t).name.toArray }, Value.string { data := (t).part.toArray }, Value.int IntKind.u64 (t).num, Value.int IntKind.i64 (t).wid, Value.int IntKind.i64 (t).at_, Value.slice KA t.kids.length KC] := B54
          obtain ⟨kc, ko, kr⟩ := KZ
          have c61 : w5.cell? ⟨(W.heap.size + 1), 6, none⟩ = some ((Value.slice A l.length c)) := B59.cell 6
          have fz62 := B59.free
          have c63 : w5.cell? ⟨w4.heap.size, 0, none⟩ = some (Value.int IntKind.i64 (t).kind) := B60.cell 0
          have c64 : w5.cell? ⟨w4.heap.size, 1, none⟩ = some (Value.string { data := (t).name.toArray }) := B60.cell 1
          have c65 : w5.cell? ⟨w4.heap.size, 2, none⟩ = some (Value.string { data := (t).part.toArray }) := B60.cell 2
          have c66 : w5.cell? ⟨w4.heap.size, 3, none⟩ = some (Value.int IntKind.u64 (t).num) := B60.cell 3
          have c67 : w5.cell? ⟨w4.heap.size, 4, none⟩ = some (Value.int IntKind.i64 (t).wid) := B60.cell 4
          have c68 : w5.cell? ⟨w4.heap.size, 5, none⟩ = some (Value.int IntKind.i64 (t).at_) := B60.cell 5
          have c69 : w5.cell? ⟨w4.heap.size, 6, none⟩ = some (Value.slice KA t.kids.length KC) := B60.cell 6
          have fz70 := B60.free
          have ltr := A55.rs.lt
          go_wp2_with (at_builtin; refine wpList_append_lies _ rfl (.tmp 25) (.tmp 27) 23 rfl (W.heap.size + 2) NT i0 _ 7 88 Tryz.underlying23 hi hz0 hz1 hz2 rfl (by decide) (Value.slice A l.length c) l.length kc (by first | rfl | simp [Act.eval]) (World.ownsRow.alloc ko _) ⟨w5.heap.size, 0, none⟩ 1 1 (nodeCells t (.slice KA (t).kids.length KC)) (by first | rfl | simp [Act.eval]) rfl (by exact World.news_of_block (heap_alloc_new _ _)) (nodeCells_one _ _ _ _) (by decide) (by unfold maxLen; omega) (by omega) (by first | omega | (simp <;> omega)) _ rfl ?_)
          intro g cap wA o2 g2 p2 z2
          have BKA : Box wA (w4.heap.size) 25 #[Value.int IntKind.i64 (t).kind, Value.string { data := (t).name.toArray }, Value.string { data := (t).part.toArray }, Value.int IntKind.u64 (t).num, Value.int IntKind.i64 (t).wid, Value.int IntKind.i64 (t).at_, Value.slice KA t.kids.length KC] := by
            have q := Box.alloc B60 (Obj.cells (nodeCells t (.slice KA t.kids.length KC)).toArray 25)
            unfold Box at q ⊢
            rw [g2.block _ (by simp; omega) (by intro e; have := hkl _ e.symm; omega)]
            exact q
          have ap := appended A55 (by omega) ko kr (rowAt_fresh ndZ (by omega) hkl) o2 g2 (by
            rcases p2 with p2 | p2
            · exact .inl p2
            · right; simp at p2 ⊢; omega)
          have hbo : ∀ b, b < W.heap.size + 2 → w4.heap.size ≠ b := by intro b hb; omega
          clear o2 g2 p2 z2 ko kr ndZ hkl
          have BSr := ap.box B58 (by omega)
          have BSn := ap.box B59 (by omega)
          have KS := ap.kids
          have AS := ap.at_
          have q1 := BSn.cell 6
          have q2 := BSn.free 6
          have szA := BSn.lt
          have AT := AS.set BSn (by omega) 6 (Value.slice (some { block := g, off := 0 }) (l.length + 1) cap)
          have BTr := BSr.far (b' := (W.heap.size + 1)) (i := 6) (by omega) (Value.slice (some { block := g, off := 0 }) (l.length + 1) cap)
          have BTn := BSn.set 6 (Value.slice (some { block := g, off := 0 }) (l.length + 1) cap)
          have KT := Kids.far (b := (W.heap.size + 1)) (i := 6) (by omega) (Value.slice (some { block := g, off := 0 }) (l.length + 1) cap) KS
          have BKT := (BKA.far (b' := (W.heap.size + 1)) (i := 6) (by omega) (Value.slice (some { block := g, off := 0 }) (l.length + 1) cap)).cell 0
          have hn5 := nxOf_rs AT.rs
          by_cases h6 : t.kind = 6
          · have h6b : ((t.kind : Int) == 6) = true := by simp; omega
            have HZ : Hid (M = bnd (take E.ts wEnd) (fun _ => ret (.mk 1 [] [] 0 0 0 (l ++ [t]))) s4) := Lib.hid (by rw [HY.out, if_pos h6]; rfl)
            go_wp2_with fail
            go_roundw
            case rel => exact ⟨true, l ++ [t], some ⟨g, 0, none⟩, cap, s4, rfl, AT, BTr, by simpa using BTn, by simpa using KT, by simpa using HZ, by simp; omega⟩
            case measure => simp only [prgMeas]; omega
          · have h6b : ((t.kind : Int) == 6) = false := by simp; omega
            have HZ : Hid (M = bnd (items E.ts m g' (l ++ [t])) (fun l => bnd (take E.ts wEnd) fun _ => ret (.mk 1 [] [] 0 0 0 l)) s4) := Lib.hid (by rw [HY.out, if_neg h6])
            go_wp2_with fail
            go_roundw
            case rel => exact ⟨false, l ++ [t], some ⟨g, 0, none⟩, cap, s4, rfl, AT, BTr, by simpa using BTn, by simpa using KT, ⟨g', HZ, by omega⟩, by simp; omega⟩
            case measure => simp only [prgMeas]; rw [hn2, hn5]; omega
      · have hw1 : (wd E.ts s2.nx == [112, 97, 114, 115, 101]) = false := by simpa [kParse] using hp
        have HX : Hid (M = bnd (attempt m 1) (fun o => bnd ((fun o => match o with | some t => if t.kind = 6 then ret (l ++ [t]) else items E.ts m g' (l ++ [t]) | none => bnd (skipItem E.ts E.ts.length) fun _ => items E.ts m g' l) o) (fun l => bnd (take E.ts wEnd) fun _ => ret (.mk 1 [] [] 0 0 0 l))) s2) := Lib.hid (by
          rw [HG.out, ← bnd_bnd]
          refine bnd_to ?_
          simp only [items]
          rw [if_neg hp]
          rfl)
        clear HG
        go_wp2_with fail
        refine (attempt_any 1 (by decide) bod_item hI AD.rs).mono ?_
        intro e w4 H
        rcases H.cases with ⟨o, s4, v, hm71, rfl, hr, R, K⟩ | ⟨l, s', ch, hm, rfl, H1⟩
        rotate_left 1
        · exact ⟨rfl, AD.outJ HX hm H1⟩
        have A72 := AD.call R K
        have HQ73 := hq_ok HX hm71
        have B74 : Box w4 (W.heap.size) 25 #[Value.int IntKind.i64 0, Value.string { data := #[] }, Value.string { data := #[] }, Value.int IntKind.u64 0, Value.int IntKind.i64 0, Value.int IntKind.i64 0, Value.slice none 0 0] := BDr.kept K (by decide)
        have B75 : Box w4 ((W.heap.size + 1)) 25 #[Value.int IntKind.i64 1, Value.string { data := #[] }, Value.string { data := #[] }, Value.int IntKind.u64 0, Value.int IntKind.i64 0, Value.int IntKind.i64 0, (Value.slice A l.length c)] := BDn.kept K (by decide)
        have Q76 := Kids.later KD K
        have sz77 := K.size
        have hmo := Lib.hid hm71
        clear HX hm71 H R K
        cases o with
        | none =>
          have hv : v = .tuple #[.agg #[Value.int IntKind.i64 0, Value.string { data := #[] }, Value.string { data := #[] }, Value.int IntKind.u64 0, Value.int IntKind.i64 0, Value.int IntKind.i64 0, Value.slice none 0 0], .bool false] := hr
          subst hv
          clear hr
          have HY : Hid (M = bnd (skipItem E.ts E.ts.length) (fun _ => bnd (items E.ts m g' l) (fun l => bnd (take E.ts wEnd) fun _ => ret (.mk 1 [] [] 0 0 0 l))) s4) := Lib.hid (by rw [HQ73.out, ← bnd_bnd])
          obtain ⟨lv, hlv⟩ := att_none_out hmo.out
          have h24 := hio _ _ _ hlv
          clear hmo hlv
          have hb78 := A72.size
          have B79 := B74.alloc (Obj.cells #[Value.int IntKind.i64 0, Value.string { data := #[] }, Value.string { data := #[] }, Value.int IntKind.u64 0, Value.int IntKind.i64 0, Value.int IntKind.i64 0, Value.slice none 0 0] 25)
          have lt80 := B74.lt
          have B81 := B75.alloc (Obj.cells #[Value.int IntKind.i64 0, Value.string { data := #[] }, Value.string { data := #[] }, Value.int IntKind.u64 0, Value.int IntKind.i64 0, Value.int IntKind.i64 0, Value.slice none 0 0] 25)
          have lt82 := B75.lt
          have B83 := Box.new (w4) 25 #[Value.int IntKind.i64 0, Value.string { data := #[] }, Value.string { data := #[] }, Value.int IntKind.u64 0, Value.int IntKind.i64 0, Value.int IntKind.i64 0, Value.slice none 0 0]
          have A84 := A72.alloc (Obj.cells #[Value.int IntKind.i64 0, Value.string { data := #[] }, Value.string { data := #[] }, Value.int IntKind.u64 0, Value.int IntKind.i64 0, Value.int IntKind.i64 0, Value.slice none 0 0] 25)
          have sz85 : (w4.alloc (Obj.cells #[Value.int IntKind.i64 0, Value.string { data := #[] }, Value.string { data := #[] }, Value.int IntKind.u64 0, Value.int IntKind.i64 0, Value.int IntKind.i64 0, Value.slice none 0 0] 25)).heap.size = w4.heap.size + 1 := by simp
          have KZ : Kids (w4.alloc (Obj.cells #[Value.int IntKind.i64 0, Value.string { data := #[] }, Value.string { data := #[] }, Value.int IntKind.u64 0, Value.int IntKind.i64 0, Value.int IntKind.i64 0, Value.slice none 0 0] 25)) (W.heap.size + 2) l (Value.slice A l.length c) := Kids.later Q76 (Kept.of (B := 0) ((Below.refl _ _).alloc (Nat.le_refl _) _) (Nat.zero_le _))
          go_wp2_with fail
          refine (skipItem_any A84.rs).mono ?_
          intro e w5 H
          rcases H.cases with ⟨q, s5, v, hm86, rfl, rfl, R, K⟩ | ⟨l, s', ch, hm, rfl, H1⟩
          rotate_left 1
          · exact ⟨rfl, A84.outJ HY hm H1⟩
          have A87 := A84.call R K
          have HQ88 := hq_ok HY hm86
          have B89 : Box w5 (W.heap.size) 25 #[Value.int IntKind.i64 0, Value.string { data := #[] }, Value.string { data := #[] }, Value.int IntKind.u64 0, Value.int IntKind.i64 0, Value.int IntKind.i64 0, Value.slice none 0 0] := B79.kept K (by decide)
          have B90 : Box w5 ((W.heap.size + 1)) 25 #[Value.int IntKind.i64 1, Value.string { data := #[] }, Value.string { data := #[] }, Value.int IntKind.u64 0, Value.int IntKind.i64 0, Value.int IntKind.i64 0, (Value.slice A l.length c)] := B81.kept K (by decide)
          have B91 : Box w5 (w4.heap.size) 25 #[Value.int IntKind.i64 0, Value.string { data := #[] }, Value.string { data := #[] }, Value.int IntKind.u64 0, Value.int IntKind.i64 0, Value.int IntKind.i64 0, Value.slice none 0 0] := B83.kept K (by decide)
          have Q92 := Kids.later KZ K
          have sz93 := K.size
          have hsk := Lib.hid hm86
          clear HY hm86 H R K
          have h25 : s2.nx + 1 ≤ s5.nx := by
            rcases h24 with h | ⟨h1, h2⟩
            · have := (mv_skipItem E.ts E.ts.length).ok _ _ _ hsk.out
              omega
            · have := skipItem_ok E.ts hsk.out (by rw [h1]; exact h2)
              omega
          clear hsk h24
          have hn5 := nxOf_rs A87.rs
          go_wp2_with fail
          go_roundw
          case rel => exact ⟨false, l, A, c, s5, rfl, A87, B89, B90, Q92, ⟨g', HQ88, by omega⟩, by omega⟩
          case measure => simp only [prgMeas]; rw [hn2, hn5]; omega
        | some t =>
          obtain ⟨KA, KC, rfl, nd⟩ := hr
          have HY : Hid (M = bnd (if t.kind = 6 then ret (l ++ [t]) else items E.ts m g' (l ++ [t])) (fun l => bnd (take E.ts wEnd) fun _ => ret (.mk 1 [] [] 0 0 0 l)) s4) := Lib.hid HQ73.out
          have h24 := att_some hmv hmo.out
          clear hmo
          have hb94 := A72.size
          have B95 := B74.alloc (Obj.cells #[Value.int IntKind.i64 (t).kind, Value.string { data := (t).name.toArray }, Value.string { data := (t).part.toArray }, Value.int IntKind.u64 (t).num, Value.int IntKind.i64 (t).wid, Value.int IntKind.i64 (t).at_, Value.slice KA t.kids.length KC] 25)
          have lt96 := B74.lt
          have B97 := B75.alloc (Obj.cells #[Value.int IntKind.i64 (t).kind, Value.string { data := (t).name.toArray }, Value.string { data := (t).part.toArray }, Value.int IntKind.u64 (t).num, Value.int IntKind.i64 (t).wid, Value.int IntKind.i64 (t).at_, Value.slice KA t.kids.length KC] 25)
          have lt98 := B75.lt
          have B99 := Box.new (w4) 25 #[Value.int IntKind.i64 (t).kind, Value.string { data := (t).name.toArray }, Value.string { data := (t).part.toArray }, Value.int IntKind.u64 (t).num, Value.int IntKind.i64 (t).wid, Value.int IntKind.i64 (t).at_, Value.slice KA t.kids.length KC]
          have A100 := A72.alloc (Obj.cells #[Value.int IntKind.i64 (t).kind, Value.string { data := (t).name.toArray }, Value.string { data := (t).part.toArray }, Value.int IntKind.u64 (t).num, Value.int IntKind.i64 (t).wid, Value.int IntKind.i64 (t).at_, Value.slice KA t.kids.length KC] 25)
          have sz101 : (w4.alloc (Obj.cells #[Value.int IntKind.i64 (t).kind, Value.string { data := (t).name.toArray }, Value.string { data := (t).part.toArray }, Value.int IntKind.u64 (t).num, Value.int IntKind.i64 (t).wid, Value.int IntKind.i64 (t).at_, Value.slice KA t.kids.length KC] 25)).heap.size = w4.heap.size + 1 := by simp
          have KZ : Kids (w4.alloc (Obj.cells #[Value.int IntKind.i64 (t).kind, Value.string { data := (t).name.toArray }, Value.string { data := (t).part.toArray }, Value.int IntKind.u64 (t).num, Value.int IntKind.i64 (t).wid, Value.int IntKind.i64 (t).at_, Value.slice KA t.kids.length KC] 25)) (W.heap.size + 2) l (Value.slice A l.length c) := Kids.later Q76 (Kept.of (B := 0) ((Below.refl _ _).alloc (Nat.le_refl _) _) (Nat.zero_le _))
          have ndZ := nodeAt_kept (Kept.of (B := 0) ((Below.refl _ _).alloc (Nat.le_refl _) (Obj.cells #[Value.int IntKind.i64 (t).kind, Value.string { data := (t).name.toArray }, Value.string { data := (t).part.toArray }, Value.int IntKind.u64 (t).num, Value.int IntKind.i64 (t).wid, Value.int IntKind.i64 (t).at_, Value.slice KA t.kids.length KC] 25)) (Nat.zero_le _)) nd
          have hkl : ∀ g, (Value.slice A l.length c).ownBlock = some g → g < w3.heap.size := by
            obtain ⟨kc3, ko3, _⟩ := KD
            exact fun g hg => (ko3.lt g hg).2
          clear nd KD
          go_upto_region 10 with fail
          obtain ⟨w5, hy102⟩ : ∃ Y, (w4.alloc (Obj.cells #[Value.int IntKind.i64 (t).kind, Value.string { data := (t).name.toArray }, Value.string { data := (t).part.toArray }, Value.int IntKind.u64 (t).num, Value.int IntKind.i64 (t).wid, Value.int IntKind.i64 (t).at_, Value.slice KA t.kids.length KC] 25)) = Y := ⟨_, rfl⟩
          rw [hy102] at A100 sz101 B95 B97 B99 KZ ndZ ⊢
          clear hy102
          have B103 : Box w5 (W.heap.size) 25 #[Value.int IntKind.i64 0, Value.string { data := #[] }, Value.string { data := #[] }, Value.int IntKind.u64 0, Value.int IntKind.i64 0, Value.int IntKind.i64 0, Value.slice none 0 0] := B95
          have B104 : Box w5 ((W.heap.size + 1)) 25 #[Value.int IntKind.i64 1, Value.string { data := #[] }, Value.string { data := #[] }, Value.int IntKind.u64 0, Value.int IntKind.i64 0, Value.int IntKind.i64 0, (Value.slice A l.length c)] := B97
          have B105 : Box w5 (w4.heap.size) 25 #[Value.int IntKind.i64 (t).kind, Value.string { data := (t).name.toArray }, Value.string { data := (t).part.toArray }, Value.int IntKind.u64 (t).num, Value.int IntKind.i64 (t).wid, Value.int IntKind.i64 (t).at_, Value.slice KA t.kids.length KC] := B99
          obtain ⟨kc, ko, kr⟩ := KZ
          have c106 : w5.cell? ⟨(W.heap.size + 1), 6, none⟩ = some ((Value.slice A l.length c)) := B104.cell 6
          have fz107 := B104.free
          have c108 : w5.cell? ⟨w4.heap.size, 0, none⟩ = some (Value.int IntKind.i64 (t).kind) := B105.cell 0
          have c109 : w5.cell? ⟨w4.heap.size, 1, none⟩ = some (Value.string { data := (t).name.toArray }) := B105.cell 1
          have c110 : w5.cell? ⟨w4.heap.size, 2, none⟩ = some (Value.string { data := (t).part.toArray }) := B105.cell 2
          have c111 : w5.cell? ⟨w4.heap.size, 3, none⟩ = some (Value.int IntKind.u64 (t).num) := B105.cell 3
          have c112 : w5.cell? ⟨w4.heap.size, 4, none⟩ = some (Value.int IntKind.i64 (t).wid) := B105.cell 4
          have c113 : w5.cell? ⟨w4.heap.size, 5, none⟩ = some (Value.int IntKind.i64 (t).at_) := B105.cell 5
          have c114 : w5.cell? ⟨w4.heap.size, 6, none⟩ = some (Value.slice KA t.kids.length KC) := B105.cell 6
          have fz115 := B105.free
          have ltr := A100.rs.lt
          go_wp2_with (at_builtin; refine wpList_append_lies _ rfl (.tmp 25) (.tmp 27) 23 rfl (W.heap.size + 2) NT i0 _ 7 88 Tryz.underlying23 hi hz0 hz1 hz2 rfl (by decide) (Value.slice A l.length c) l.length kc (by first | rfl | simp [Act.eval]) (World.ownsRow.alloc ko _) ⟨w5.heap.size, 0, none⟩ 1 1 (nodeCells t (.slice KA (t).kids.length KC)) (by first | rfl | simp [Act.eval]) rfl (by exact World.news_of_block (heap_alloc_new _ _)) (nodeCells_one _ _ _ _) (by decide) (by unfold maxLen; omega) (by omega) (by first | omega | (simp <;> omega)) _ rfl ?_)
          intro g cap wA o2 g2 p2 z2
          have BKA : Box wA (w4.heap.size) 25 #[Value.int IntKind.i64 (t).kind, Value.string { data := (t).name.toArray }, Value.string { data := (t).part.toArray }, Value.int IntKind.u64 (t).num, Value.int IntKind.i64 (t).wid, Value.int IntKind.i64 (t).at_, Value.slice KA t.kids.length KC] := by
            have q := Box.alloc B105 (Obj.cells (nodeCells t (.slice KA t.kids.length KC)).toArray 25)
            unfold Box at q ⊢
            rw [g2.block _ (by simp; omega) (by intro e; have := hkl _ e.symm; omega)]
            exact q
          have ap := appended A100 (by omega) ko kr (rowAt_fresh ndZ (by omega) hkl) o2 g2 (by
            rcases p2 with p2 | p2
            · exact .inl p2
            · right; simp at p2 ⊢; omega)
          have hbo : ∀ b, b < W.heap.size + 2 → w4.heap.size ≠ b := by intro b hb; omega
          clear o2 g2 p2 z2 ko kr ndZ hkl
          have BSr := ap.box B103 (by omega)
          have BSn := ap.box B104 (by omega)
          have KS := ap.kids
          have AS := ap.at_
          have q1 := BSn.cell 6
          have q2 := BSn.free 6
          have szA := BSn.lt
          have AT := AS.set BSn (by omega) 6 (Value.slice (some { block := g, off := 0 }) (l.length + 1) cap)
          have BTr := BSr.far (b' := (W.heap.size + 1)) (i := 6) (by omega) (Value.slice (some { block := g, off := 0 }) (l.length + 1) cap)
          have BTn := BSn.set 6 (Value.slice (some { block := g, off := 0 }) (l.length + 1) cap)
          have KT := Kids.far (b := (W.heap.size + 1)) (i := 6) (by omega) (Value.slice (some { block := g, off := 0 }) (l.length + 1) cap) KS
          have BKT := (BKA.far (b' := (W.heap.size + 1)) (i := 6) (by omega) (Value.slice (some { block := g, off := 0 }) (l.length + 1) cap)).cell 0
          have hn5 := nxOf_rs AT.rs
          by_cases h6 : t.kind = 6
          · have h6b : ((t.kind : Int) == 6) = true := by simp; omega
            have HZ : Hid (M = bnd (take E.ts wEnd) (fun _ => ret (.mk 1 [] [] 0 0 0 (l ++ [t]))) s4) := Lib.hid (by rw [HY.out, if_pos h6]; rfl)
            go_wp2_with fail
            go_roundw
            case rel => exact ⟨true, l ++ [t], some ⟨g, 0, none⟩, cap, s4, rfl, AT, BTr, by simpa using BTn, by simpa using KT, by simpa using HZ, by simp; omega⟩
            case measure => simp only [prgMeas]; omega
          · have h6b : ((t.kind : Int) == 6) = false := by simp; omega
            have HZ : Hid (M = bnd (items E.ts m g' (l ++ [t])) (fun l => bnd (take E.ts wEnd) fun _ => ret (.mk 1 [] [] 0 0 0 l)) s4) := Lib.hid (by rw [HY.out, if_neg h6])
            go_wp2_with fail
            go_roundw
            case rel => exact ⟨false, l ++ [t], some ⟨g, 0, none⟩, cap, s4, rfl, AT, BTr, by simpa using BTn, by simpa using KT, ⟨g', HZ, by omega⟩, by simp; omega⟩
            case measure => simp only [prgMeas]; rw [hn2, hn5]; omega

end Go.Proofs.YtmkehecapjdfdaaGreatDoor

/- Parse: what it answers of every source. -/
namespace Go.Proofs.YtmkehecapjdfdaaGreatDoor
open Go.RowKit

/-- What Parse answers. -/
def ParsePost (l : Str) (W : World) (e : Ending) (w' : World) : Prop :=
  ∃ A c d, e = .returned (.tuple #[.agg #[Value.int IntKind.i64 ((parseS l).1).kind, Value.string { data := ((parseS l).1).name.toArray }, Value.string { data := ((parseS l).1).part.toArray }, Value.int IntKind.u64 ((parseS l).1).num, Value.int IntKind.i64 ((parseS l).1).wid, Value.int IntKind.i64 ((parseS l).1).at_, Value.slice A (parseS l).1.kids.length c], d]) ∧ nodeAt w' (fun g => W.heap.size ≤ g) (parseS l).1 (.slice A (parseS l).1.kids.length c) ∧ w'.ownsRow W.heap.size DT 2 d (parseS l).2.length (dgV (parseS l).2) ∧ Below W.heap.size W w'
def pRes : Res (Option T) → T × List (Nat × Nat)
  | .ok (some t) s' => if s'.ds = [] then (t, []) else (T.zero, s'.ds)
  | .ok none s' => (T.zero, s'.ds)
  | .out _ s' => (T.zero, s'.ds)
def LexAt (s : ByteArray) (W : World) : Prop := ∀ o, Calls Tryz.prog 30 #[.string s] (W.alloc o) fun e w' =>
  ∃ v, e = .returned (.tuple #[v, .int .i64 ((lexS s.data.toList).2.1 : Nat), .int .i64 ((lexS s.data.toList).2.2 : Nat)]) ∧ Toks w' (W.alloc o).heap.size v (lexS s.data.toList).1 ∧ Below (W.alloc o).heap.size (W.alloc o) w'
theorem nodeAt_zero (w : World) (ok : Nat → Prop) : nodeAt w ok T.zero (.slice none 0 0) := ⟨[], World.ownsRow_nil _ _ _ _, fun g h => by simp [Value.ownBlock] at h, rfl⟩
theorem ownsRow_form {w : World} {B T sz n : Nat} {v : Value} {xs : List Value} (h : w.ownsRow B T sz v n xs) : ∃ A c, v = .slice A n c := by
  rcases h.2 with ⟨rfl, h2⟩ | ⟨g, cap, cur, rfl, _⟩
  · exact ⟨none, 0, by rw [h2]⟩
  · exact ⟨_, _, rfl⟩
/-- The attempt at the whole program: a tree, or nothing; the diagnostics lie in the reader. -/
def AttPost (E : Env) (W : World) (x : Res (Option T)) (e : Ending) (w' : World) : Prop :=
  ∃ (o : Option T) (s' : St) (t : T) (A : Option Addr) (c : Nat), x = .ok o s' ∧ t = o.getD T.zero ∧ e = .returned (.tuple #[.agg #[Value.int IntKind.i64 (t).kind, Value.string { data := (t).name.toArray }, Value.string { data := (t).part.toArray }, Value.int IntKind.u64 (t).num, Value.int IntKind.i64 (t).wid, Value.int IntKind.i64 (t).at_, Value.slice A t.kids.length c], .bool o.isSome]) ∧ nodeAt w' (fun g => W.heap.size ≤ g) t (.slice A t.kids.length c) ∧ RSd E w' s' ∧ Kept E.base W w'
theorem att_top {E : Env} {W : World} (h : RS E 20 W 0 ⟨0, []⟩) :
    Calls Tryz.prog 32 #[.pointer (some ⟨E.r, 0, none⟩), .func (.func 33) #[] #[], .int .i64 2] W (AttPost E W (attempt (program E.ts) 2 ⟨0, []⟩)) := by
  refine (attempt_gen (J := RSd E) (m := program E.ts) (fun X Y s' h k => RSd.ntc h k) 2 bod_program (fun w s h => program_any (CM_item (CB_all 10 0 rfl)) h) h).mono ?_
  intro e w' H
  unfold attempt
  cases hp : program E.ts ⟨0, []⟩ with
  | ok t s' =>
    rw [hp] at H
    obtain ⟨A, c, rfl, h1, h2, h3⟩ := H
    exact ⟨some t, s', t, A, c, rfl, rfl, rfl, h1, h2, h3⟩
  | out l s' =>
    rw [hp] at H
    simp only [PostT] at H
    by_cases hl : l ≤ 2
    · rw [if_pos hl] at H
      obtain ⟨rfl, h1, h2, h3⟩ := H
      simp only [if_pos hl]
      exact ⟨none, s', T.zero, none, 0, rfl, rfl, rfl, nodeAt_zero _ _, h2.toD (Nat.le_refl _), h3⟩
    · rw [if_neg hl] at H
      obtain ⟨c, dp', _, F, _⟩ := H
      exact absurd F.2.2 hl

set_option maxRecDepth 100000 in
set_option maxHeartbeats 3200000 in
theorem parse_bad {s : ByteArray} {W : World} {ts : List Tok} {le la : Nat} (hlex : LexAt s W) (hlx : lexS s.data.toList = (ts, le, la)) (hle : le ≠ 0) :
    Calls Tryz.prog 12 #[.string s] W (ParsePost s.data.toList W) := by
  have hp : parseS s.data.toList = (T.zero, [(le, la)]) := by
    unfold parseS
    rw [hlx]
    cases le with
    | zero => exact absurd rfl hle
    | succ n => rfl
  unfold ParsePost
  rw [hp]
  have hl := hlex (Obj.cells #[Value.int IntKind.i64 0, Value.string { data := #[] }, Value.string { data := #[] }, Value.int IntKind.u64 0, Value.int IntKind.i64 0, Value.int IntKind.i64 0, Value.slice none 0 0] 25)
  rw [hlx] at hl
  have hb : (((le : Nat) : Int) == 0) = false := by simp; omega
  have B0 := Box.new W 25 #[Value.int IntKind.i64 0, Value.string { data := #[] }, Value.string { data := #[] }, Value.int IntKind.u64 0, Value.int IntKind.i64 0, Value.int IntKind.i64 0, Value.slice none 0 0]
  have sz : (W.alloc (Obj.cells #[Value.int IntKind.i64 0, Value.string { data := #[] }, Value.string { data := #[] }, Value.int IntKind.u64 0, Value.int IntKind.i64 0, Value.int IntKind.i64 0, Value.slice none 0 0] 25)).heap.size = W.heap.size + 1 := by simp
  clear hp hlx hle hlex
  go_enter Tryz.func12, Tryz.ntmps12
  go_wp2_with fail
  refine hl.mono ?_
  rintro e w1 ⟨v, rfl, T1, b1⟩
  have B1 : Box w1 W.heap.size 25 #[Value.int IntKind.i64 0, Value.string { data := #[] }, Value.string { data := #[] }, Value.int IntKind.u64 0, Value.int IntKind.i64 0, Value.int IntKind.i64 0, Value.slice none 0 0] := B0.below b1
  have bW : Below W.heap.size W w1 := (((Below.refl _ _).alloc (Nat.le_refl _) (Obj.cells #[Value.int IntKind.i64 0, Value.string { data := #[] }, Value.string { data := #[] }, Value.int IntKind.u64 0, Value.int IntKind.i64 0, Value.int IntKind.i64 0, Value.slice none 0 0] 25)).trans (b1.mono (by omega)))
  have sz1 := b1.size
  have c0 : w1.cell? ⟨W.heap.size, 0, none⟩ = some (Value.int IntKind.i64 0) := B1.cell 0
  have c1 : w1.cell? ⟨W.heap.size, 1, none⟩ = some (Value.string { data := #[] }) := B1.cell 1
  have c2 : w1.cell? ⟨W.heap.size, 2, none⟩ = some (Value.string { data := #[] }) := B1.cell 2
  have c3 : w1.cell? ⟨W.heap.size, 3, none⟩ = some (Value.int IntKind.u64 0) := B1.cell 3
  have c4 : w1.cell? ⟨W.heap.size, 4, none⟩ = some (Value.int IntKind.i64 0) := B1.cell 4
  have c5 : w1.cell? ⟨W.heap.size, 5, none⟩ = some (Value.int IntKind.i64 0) := B1.cell 5
  have c6 : w1.cell? ⟨W.heap.size, 6, none⟩ = some (Value.slice none 0 0) := B1.cell 6
  have fz := B1.free
  have BA := B1.alloc (Obj.cells #[Value.int IntKind.i64 le, Value.int IntKind.i64 la] 56)
  have d0 : (w1.alloc (Obj.cells #[Value.int IntKind.i64 le, Value.int IntKind.i64 la] 56)).cell? ⟨W.heap.size, 0, none⟩ = some (Value.int IntKind.i64 0) := BA.cell 0
  have d1 : (w1.alloc (Obj.cells #[Value.int IntKind.i64 le, Value.int IntKind.i64 la] 56)).cell? ⟨W.heap.size, 1, none⟩ = some (Value.string { data := #[] }) := BA.cell 1
  have d2 : (w1.alloc (Obj.cells #[Value.int IntKind.i64 le, Value.int IntKind.i64 la] 56)).cell? ⟨W.heap.size, 2, none⟩ = some (Value.string { data := #[] }) := BA.cell 2
  have d3 : (w1.alloc (Obj.cells #[Value.int IntKind.i64 le, Value.int IntKind.i64 la] 56)).cell? ⟨W.heap.size, 3, none⟩ = some (Value.int IntKind.u64 0) := BA.cell 3
  have d4 : (w1.alloc (Obj.cells #[Value.int IntKind.i64 le, Value.int IntKind.i64 la] 56)).cell? ⟨W.heap.size, 4, none⟩ = some (Value.int IntKind.i64 0) := BA.cell 4
  have d5 : (w1.alloc (Obj.cells #[Value.int IntKind.i64 le, Value.int IntKind.i64 la] 56)).cell? ⟨W.heap.size, 5, none⟩ = some (Value.int IntKind.i64 0) := BA.cell 5
  have d6 : (w1.alloc (Obj.cells #[Value.int IntKind.i64 le, Value.int IntKind.i64 la] 56)).cell? ⟨W.heap.size, 6, none⟩ = some (Value.slice none 0 0) := BA.cell 6
  have fA := BA.free
  have rowA := World.ownsRow_lit (base := W.heap.size) (e := DT) (size := 2) w1 #[.int .i64 le, .int .i64 la] 1 (by omega) (by decide) rfl
  have bA := bW.trans (((Below.refl _ _).alloc (Nat.le_refl _) (Obj.cells #[Value.int IntKind.i64 le, Value.int IntKind.i64 la] 56)).mono (by omega) : Below W.heap.size w1 _)
  clear hl B0 T1 b1 bW
  go_wp2
  refine bodyPost_ret (v := .tuple #[.agg #[Value.int IntKind.i64 0, Value.string { data := #[] }, Value.string { data := #[] }, Value.int IntKind.u64 0, Value.int IntKind.i64 0, Value.int IntKind.i64 0, Value.slice none 0 0], .slice (some ⟨w1.heap.size, 0, none⟩) 1 1]) ?_ rfl ?_
  · simp [results, Tryz.results12, go_sem, d0, d1, d2, d3, d4, d5, d6]
  · refine ⟨none, 0, _, rfl, nodeAt_zero _ _, ?_, bA.trans (below_fill (Nat.le_refl _) _ _ _ _ _ _ _)⟩
    exact (ntc_fill BA _ _ _ _ _ _ _).own rowA (by decide)

set_option maxRecDepth 100000 in
set_option maxHeartbeats 3200000 in
theorem parse_go {s : ByteArray} {W : World} {ts : List Tok} {la : Nat} (hlex : LexAt s W) (hlx : lexS s.data.toList = (ts, 0, la)) :
    Calls Tryz.prog 12 #[.string s] W (ParsePost s.data.toList W) := by
  have hp : parseS s.data.toList = pRes (attempt (program (ptoks ts s.size)) 2 ⟨0, []⟩) := by
    unfold parseS
    rw [hlx]
    simp only [pRes]
    show (match attempt (program (ptoks ts s.size)) 2 ⟨0, []⟩ with
      | .ok (some t) s' => if s'.ds = [] then (t, []) else (T.zero, s'.ds)
      | .ok none s' => (T.zero, s'.ds)
      | .out _ s' => (T.zero, s'.ds)) = _
    rfl
  unfold ParsePost
  rw [hp]
  have hgd := good_of hlx s.size
  have hts := (lexS_ok hlx).2.1
  have hss : s.size ≤ 4000 := (lexS_ok hlx).1
  have hl := hlex (Obj.cells #[Value.int IntKind.i64 0, Value.string { data := #[] }, Value.string { data := #[] }, Value.int IntKind.u64 0, Value.int IntKind.i64 0, Value.int IntKind.i64 0, Value.slice none 0 0] 25)
  rw [hlx] at hl
  have B0 := Box.new W 25 #[Value.int IntKind.i64 0, Value.string { data := #[] }, Value.string { data := #[] }, Value.int IntKind.u64 0, Value.int IntKind.i64 0, Value.int IntKind.i64 0, Value.slice none 0 0]
  have sz : (W.alloc (Obj.cells #[Value.int IntKind.i64 0, Value.string { data := #[] }, Value.string { data := #[] }, Value.int IntKind.u64 0, Value.int IntKind.i64 0, Value.int IntKind.i64 0, Value.slice none 0 0] 25)).heap.size = W.heap.size + 1 := by simp
  clear hp hlx hlex
  obtain ⟨PV, hX⟩ : ∃ PV, Hid (pRes (attempt (program (ptoks ts s.size)) 2 ⟨0, []⟩) = PV) := ⟨_, Lib.hid rfl⟩
  rw [hX.out]
  go_enter Tryz.func12, Tryz.ntmps12
  go_wp2_with fail
  refine hl.mono ?_
  rintro e w1 ⟨v, rfl, T1, b1⟩
  have B1 : Box w1 W.heap.size 25 #[Value.int IntKind.i64 0, Value.string { data := #[] }, Value.string { data := #[] }, Value.int IntKind.u64 0, Value.int IntKind.i64 0, Value.int IntKind.i64 0, Value.slice none 0 0] := B0.below b1
  have bW : Below W.heap.size W w1 := (((Below.refl _ _).alloc (Nat.le_refl _) (Obj.cells #[Value.int IntKind.i64 0, Value.string { data := #[] }, Value.string { data := #[] }, Value.int IntKind.u64 0, Value.int IntKind.i64 0, Value.int IntKind.i64 0, Value.slice none 0 0] 25)).trans (b1.mono (by omega)))
  have sz1 := b1.size
  clear hl B0 b1
  go_wp2_with (first | at_builtin | fail)
  refine (newReader_any T1 (by omega) s.size hgd).mono ?_
  rintro e w2 ⟨rfl, b2, tv, R⟩
  have B2 : Box w2 W.heap.size 25 #[Value.int IntKind.i64 0, Value.string { data := #[] }, Value.string { data := #[] }, Value.int IntKind.u64 0, Value.int IntKind.i64 0, Value.int IntKind.i64 0, Value.slice none 0 0] := B1.below b2
  have bW2 := bW.trans (b2.mono (by omega))
  have sz2 := b2.size
  clear B1 bW T1 b2 hgd
  go_wp2_with fail
  refine (att_top R).mono ?_
  rintro e w3 ⟨oo, s3, t, A, c, hx, ht, rfl, nd, RD, K3⟩
  have B3 : Box w3 W.heap.size 25 #[Value.int IntKind.i64 0, Value.string { data := #[] }, Value.string { data := #[] }, Value.int IntKind.u64 0, Value.int IntKind.i64 0, Value.int IntKind.i64 0, Value.slice none 0 0] := B2.kept K3 (by decide)
  have bW3 : Below W.heap.size W w3 := bW2.trans (K3.below.mono (by show _ ≤ w1.heap.size; omega))
  have sz3 := K3.size
  obtain ⟨hfew, nx, dp, dv, hrd, hrow⟩ := RD
  obtain ⟨DA, DC, rfl⟩ := ownsRow_form hrow
  have hval : PV = if s3.ds = [] then (t, []) else (T.zero, s3.ds) := by
    rw [← hX.out, hx]
    cases oo with
    | some t1 => rw [ht]; rfl
    | none =>
      by_cases h : s3.ds = []
      · rw [if_pos h, ht]; simp only [pRes, h]; rfl
      · rw [if_neg h]; rfl
  have hval := Lib.hid hval
  clear hx hX ht R B2 bW2 K3
  have B4 := B3.alloc (Obj.cells #[Value.int IntKind.i64 (t).kind, Value.string { data := (t).name.toArray }, Value.string { data := (t).part.toArray }, Value.int IntKind.u64 (t).num, Value.int IntKind.i64 (t).wid, Value.int IntKind.i64 (t).at_, Value.slice A t.kids.length c] 25)
  have R4 := Box.alloc (show Box w3 (rAt w1.heap.size) RT _ from hrd) (Obj.cells #[Value.int IntKind.i64 (t).kind, Value.string { data := (t).name.toArray }, Value.string { data := (t).part.toArray }, Value.int IntKind.u64 (t).num, Value.int IntKind.i64 (t).wid, Value.int IntKind.i64 (t).at_, Value.slice A t.kids.length c] 25)
  have N4 := Box.new w3 25 #[Value.int IntKind.i64 (t).kind, Value.string { data := (t).name.toArray }, Value.string { data := (t).part.toArray }, Value.int IntKind.u64 (t).num, Value.int IntKind.i64 (t).wid, Value.int IntKind.i64 (t).at_, Value.slice A t.kids.length c]
  have nd4 := nodeAt_kept (Kept.of (B := 0) ((Below.refl _ _).alloc (Nat.le_refl _) (Obj.cells #[Value.int IntKind.i64 (t).kind, Value.string { data := (t).name.toArray }, Value.string { data := (t).part.toArray }, Value.int IntKind.u64 (t).num, Value.int IntKind.i64 (t).wid, Value.int IntKind.i64 (t).at_, Value.slice A t.kids.length c] 25)) (Nat.zero_le _)) nd
  have row4 := hrow.alloc (Obj.cells #[Value.int IntKind.i64 (t).kind, Value.string { data := (t).name.toArray }, Value.string { data := (t).part.toArray }, Value.int IntKind.u64 (t).num, Value.int IntKind.i64 (t).wid, Value.int IntKind.i64 (t).at_, Value.slice A t.kids.length c] 25)
  have bW4 : Below W.heap.size W (w3.alloc (Obj.cells #[Value.int IntKind.i64 (t).kind, Value.string { data := (t).name.toArray }, Value.string { data := (t).part.toArray }, Value.int IntKind.u64 (t).num, Value.int IntKind.i64 (t).wid, Value.int IntKind.i64 (t).at_, Value.slice A t.kids.length c] 25)) := bW3.trans (((Below.refl _ _).alloc (Nat.le_refl _) (Obj.cells #[Value.int IntKind.i64 (t).kind, Value.string { data := (t).name.toArray }, Value.string { data := (t).part.toArray }, Value.int IntKind.u64 (t).num, Value.int IntKind.i64 (t).wid, Value.int IntKind.i64 (t).at_, Value.slice A t.kids.length c] 25)).mono (by omega))
  have sz4 : (w3.alloc (Obj.cells #[Value.int IntKind.i64 (t).kind, Value.string { data := (t).name.toArray }, Value.string { data := (t).part.toArray }, Value.int IntKind.u64 (t).num, Value.int IntKind.i64 (t).wid, Value.int IntKind.i64 (t).at_, Value.slice A t.kids.length c] 25)).heap.size = w3.heap.size + 1 := by simp
  go_upto_region 6 with fail
  obtain ⟨w4, hy⟩ : ∃ Y, w3.alloc (Obj.cells #[Value.int IntKind.i64 (t).kind, Value.string { data := (t).name.toArray }, Value.string { data := (t).part.toArray }, Value.int IntKind.u64 (t).num, Value.int IntKind.i64 (t).wid, Value.int IntKind.i64 (t).at_, Value.slice A t.kids.length c] 25) = Y := ⟨_, rfl⟩
  rw [hy] at B4 R4 N4 nd4 row4 bW4 sz4 ⊢
  clear hy hrd hrow nd B3 bW3
  have r3 : w4.cell? ⟨rAt w1.heap.size, 3, none⟩ = some (.slice DA s3.ds.length DC) := R4.cell 3
  have fz := B4.free
  by_cases hd : s3.ds = []
  · obtain rfl : PV = (t, []) := hval.out.trans (if_pos hd)
    have hn : s3.ds.length = 0 := by rw [hd]; rfl
    rw [hn] at r3
    clear hval
    have c0 : w4.cell? ⟨W.heap.size, 0, none⟩ = some (Value.int IntKind.i64 0) := B4.cell 0
    have c1 : w4.cell? ⟨W.heap.size, 1, none⟩ = some (Value.string { data := #[] }) := B4.cell 1
    have c2 : w4.cell? ⟨W.heap.size, 2, none⟩ = some (Value.string { data := #[] }) := B4.cell 2
    have c3 : w4.cell? ⟨W.heap.size, 3, none⟩ = some (Value.int IntKind.u64 0) := B4.cell 3
    have c4 : w4.cell? ⟨W.heap.size, 4, none⟩ = some (Value.int IntKind.i64 0) := B4.cell 4
    have c5 : w4.cell? ⟨W.heap.size, 5, none⟩ = some (Value.int IntKind.i64 0) := B4.cell 5
    have c6 : w4.cell? ⟨W.heap.size, 6, none⟩ = some (Value.slice none 0 0) := B4.cell 6
    have n0 : w4.cell? ⟨w3.heap.size, 0, none⟩ = some (Value.int IntKind.i64 (t).kind) := N4.cell 0
    have n1 : w4.cell? ⟨w3.heap.size, 1, none⟩ = some (Value.string { data := (t).name.toArray }) := N4.cell 1
    have n2 : w4.cell? ⟨w3.heap.size, 2, none⟩ = some (Value.string { data := (t).part.toArray }) := N4.cell 2
    have n3 : w4.cell? ⟨w3.heap.size, 3, none⟩ = some (Value.int IntKind.u64 (t).num) := N4.cell 3
    have n4 : w4.cell? ⟨w3.heap.size, 4, none⟩ = some (Value.int IntKind.i64 (t).wid) := N4.cell 4
    have n5 : w4.cell? ⟨w3.heap.size, 5, none⟩ = some (Value.int IntKind.i64 (t).at_) := N4.cell 5
    have n6 : w4.cell? ⟨w3.heap.size, 6, none⟩ = some (Value.slice A t.kids.length c) := N4.cell 6
    have nf := N4.free
    go_wp2_with (first | at_builtin | fail)
    refine bodyPost_ret (v := .tuple #[.agg #[Value.int IntKind.i64 (t).kind, Value.string { data := (t).name.toArray }, Value.string { data := (t).part.toArray }, Value.int IntKind.u64 (t).num, Value.int IntKind.i64 (t).wid, Value.int IntKind.i64 (t).at_, Value.slice A t.kids.length c], .slice none 0 0]) ?_ rfl ⟨A, c, _, rfl, nodeAt_le (M := w2.heap.size) (by omega) (nodeAt_fill (M := w2.heap.size) (by omega) _ _ _ _ _ _ _ nd4), World.ownsRow_nil _ _ _ _, bW4.trans (below_fill (Nat.le_refl _) _ _ _ _ _ _ _)⟩
    simp [results, Tryz.results12, go_sem, c0, c1, c2, c3, c4, c5, c6]
  · obtain rfl : PV = (T.zero, s3.ds) := hval.out.trans (if_neg hd)
    have hn : (0 : Int) < (s3.ds.length : Int) := by
      have := List.length_pos_iff.2 hd
      omega
    obtain ⟨n, hn2⟩ : ∃ n, Hid (s3.ds.length = n) := ⟨_, Lib.hid rfl⟩
    rw [hn2.out] at hn r3
    clear hval
    have c0 : w4.cell? ⟨W.heap.size, 0, none⟩ = some (Value.int IntKind.i64 0) := B4.cell 0
    have c1 : w4.cell? ⟨W.heap.size, 1, none⟩ = some (Value.string { data := #[] }) := B4.cell 1
    have c2 : w4.cell? ⟨W.heap.size, 2, none⟩ = some (Value.string { data := #[] }) := B4.cell 2
    have c3 : w4.cell? ⟨W.heap.size, 3, none⟩ = some (Value.int IntKind.u64 0) := B4.cell 3
    have c4 : w4.cell? ⟨W.heap.size, 4, none⟩ = some (Value.int IntKind.i64 0) := B4.cell 4
    have c5 : w4.cell? ⟨W.heap.size, 5, none⟩ = some (Value.int IntKind.i64 0) := B4.cell 5
    have c6 : w4.cell? ⟨W.heap.size, 6, none⟩ = some (Value.slice none 0 0) := B4.cell 6
    go_wp2_with (first | at_builtin | fail)
    have hne : ¬ W.heap.size = rAt w1.heap.size := by unfold rAt; omega
    have hne2 : ¬ rAt w1.heap.size = W.heap.size := by unfold rAt; omega
    go_region_held3 (fun w' => w'.cell? ⟨rAt w1.heap.size, 3, none⟩ = some (.slice DA n DC)) (first | go_keep | (simp [go_sem, hne, hne2]; assumption)) (fail)
    go_wp2
    refine bodyPost_ret (v := .tuple #[.agg #[Value.int IntKind.i64 0, Value.string { data := #[] }, Value.string { data := #[] }, Value.int IntKind.u64 0, Value.int IntKind.i64 0, Value.int IntKind.i64 0, Value.slice none 0 0], .slice DA n DC]) ?_ rfl ⟨none, 0, _, rfl, nodeAt_zero _ _, ?_, ?_⟩
    · simp [results, Tryz.results12, go_sem, c0, c1, c2, c3, c4, c5, c6]
    · have := ownsDrew ((ntc_fill B4 (Value.int IntKind.i64 0) (Value.string { data := #[] }) (Value.string { data := #[] }) (Value.int IntKind.u64 0) (Value.int IntKind.i64 0) (Value.int IntKind.i64 0) (Value.slice none 0 0)).own (rowLow row4 (show W.heap.size ≤ w1.heap.size by omega)) (by decide))
      rw [hn2.out] at this ⊢
      exact this
    · exact bW4.trans ((below_fill (Nat.le_refl _) _ _ _ _ _ _ _).trans ((Drew.below ⟨1, rfl⟩).mono (by have := B4.lt; simp [World.setCell]; omega)))

theorem parse_any {s : ByteArray} {W : World} (hlex : LexAt s W) : Calls Tryz.prog 12 #[.string s] W (ParsePost s.data.toList W) := by
  obtain ⟨⟨ts, le, la⟩, hlx⟩ : ∃ x, lexS s.data.toList = x := ⟨_, rfl⟩
  by_cases h : le = 0
  · subst h; exact parse_go hlex hlx
  · exact parse_bad hlex hlx h

end Go.Proofs.YtmkehecapjdfdaaGreatDoor

/- Whether two lists of diagnostics are the same. -/
namespace Go.Proofs.YtmkehecapjdfdaaGreatDoor
open Go.RowKit

theorem dgV_length2 : ∀ l : List (Nat × Nat), (dgV l).length = l.length * 2
  | [] => rfl
  | a :: r => by simp [dgV, dgV_length2 r]; omega
theorem dgV_at : ∀ (l : List (Nat × Nat)) (i : Nat) (h : i < l.length), (dgV l)[i * 2]? = some (.int .i64 l[i].1) ∧ (dgV l)[i * 2 + 1]? = some (.int .i64 l[i].2)
  | a :: r, 0, _ => ⟨rfl, rfl⟩
  | a :: r, i + 1, h => by
    obtain ⟨h1, h2⟩ := dgV_at r i (by simpa using h)
    refine ⟨?_, ?_⟩
    · rw [show (i + 1) * 2 = i * 2 + 2 by omega]; simpa [dgV] using h1
    · rw [show (i + 1) * 2 + 1 = i * 2 + 1 + 2 by omega]; simpa [dgV] using h2
/-- Diagnostics as they can be read. -/
def Dg (w : World) (v : Value) (l : List (Nat × Nat)) : Prop := ∃ B, w.ownsRow B DT 2 v l.length (dgV l)
theorem Dg.later {w w' : World} {v : Value} {l : List (Nat × Nat)} (hb : Below w.heap.size w w') (h : Dg w v l) : Dg w' v l := by
  obtain ⟨B, h⟩ := h
  exact ⟨B, h.kept (only_of_below hb none) (by cases v.ownBlock <;> simp)⟩
theorem Dg.form {w : World} {v : Value} {l : List (Nat × Nat)} (h : Dg w v l) : ∃ A c, v = .slice A l.length c := by
  obtain ⟨B, h⟩ := h
  rcases h.2 with ⟨rfl, h2⟩ | ⟨g, cap, cur, rfl, _⟩
  · exact ⟨none, 0, by rw [h2]⟩
  · exact ⟨_, _, rfl⟩
theorem Dg.at_ {w : World} {A : Option Addr} {c : Nat} {l : List (Nat × Nat)} (h : Dg w (.slice A l.length c) l) (i : Nat) (hi : i < l.length) : ∃ g, A = some ⟨g, 0, none⟩ ∧ l.length ≤ c ∧
    w.cell? ⟨g, i * 2, none⟩ = some (.int .i64 l[i].1) ∧ w.cell? ⟨g, i * 2 + 1, none⟩ = some (.int .i64 l[i].2) := by
  obtain ⟨B, h⟩ := h
  rcases h.2 with ⟨_, h2⟩ | ⟨g, cap, cur, e, hb, hg, hc, hm, hs, ht⟩
  · omega
  · cases e
    obtain ⟨k1, k2⟩ := dgV_at l i hi
    have key : ∀ j, j < l.length * 2 → w.cell? ⟨g, j, none⟩ = (dgV l)[j]? := fun j hj => by
      rw [← ht, List.getElem?_take, if_pos hj]
      unfold World.cell?
      rw [hg]
      simp
    exact ⟨g, rfl, hc, (key _ (by omega)).trans k1, (key _ (by omega)).trans k2⟩
set_option maxRecDepth 100000 in
set_option maxHeartbeats 3200000 in
theorem sameDiags_any (l m : List (Nat × Nat)) (v v' : Value) (W : World) (hn : l.length ≤ 100000) (h1 : Dg W v l) (h2 : Dg W v' m) :
    Calls Tryz.prog 15 #[v, v'] W fun e w' => e = .returned (.bool (l == m)) ∧ Drew W w' := by
  obtain ⟨A, c, rfl⟩ := h1.form
  obtain ⟨A', c', rfl⟩ := h2.form
  obtain ⟨R, hR⟩ : ∃ R, Hid ((l == m) = R) := ⟨_, Lib.hid rfl⟩
  rw [hR.out]
  by_cases hlen : l.length = m.length
  rotate_left 1
  · have hF : Hid (R = false) := Lib.hid (by rw [← hR.out]; simp; intro e; exact hlen (by rw [e]))
    have b : ((l.length : Int) == (m.length : Int)) = false := by simp; omega
    have d : ((l.length : Int) != (m.length : Int)) = true := by simp only [bne, b]; rfl
    clear hlen hR
    go_enter Tryz.func15, Tryz.ntmps15
    go_wp2
    go_ret
    exact ⟨by rw [hF.out]; rfl, Drew.refl _⟩
  obtain ⟨N, hN⟩ : ∃ N, Hid (l.length = N) := ⟨_, Lib.hid rfl⟩
  have hN2 : Hid (m.length = N) := Lib.hid (hlen.symm.trans hN.out)
  clear hlen
  have q1 : Hid (Dg W (.slice A l.length c) l) := Lib.hid h1
  have q2 : Hid (Dg W (.slice A' m.length c') m) := Lib.hid h2
  rw [hN.out, hN2.out]
  clear h1 h2
  go_enter Tryz.func15, Tryz.ntmps15
  go_wp2_with fail
  go_loopw [5] (fun v wr => ∃ i : Nat, v = .int .i64 i ∧ i ≤ N ∧ l.take i = m.take i ∧ Drew W wr) (fun v _ => N - iOf v)
  case atStart => exact ⟨0, rfl, Nat.zero_le _, rfl, Drew.refl _⟩
  case round =>
    rename_i wr
    obtain ⟨i, rfl, hil, hsm, hD⟩ := hrel
    by_cases hi2 : i < N
    · have hi3 : i < l.length := by rw [hN.out]; exact hi2
      have hi4 : i < m.length := by rw [hN2.out]; exact hi2
      obtain ⟨g, rfl, hc1, k1, k2⟩ := (q1.out.later hD.below).at_ i hi3
      obtain ⟨g', rfl, hc2, j1, j2⟩ := (q2.out.later hD.below).at_ i hi4
      rw [hN.out] at hc1
      rw [hN2.out] at hc2
      have hw2 : IntKind.i64.wrap ((i : Int) + 1) = ((i + 1 : Nat) : Int) := by rw [IntWalk.i64_in _ (by have := hN.out; omega)]; omega
      have hsn : l[i] = m[i] → l.take (i + 1) = m.take (i + 1) := fun e => by
        rw [List.take_succ_eq_append_getElem hi3, List.take_succ_eq_append_getElem hi4, hsm, e]
      have hne : l[i] ≠ m[i] → R = false := fun e => by
        rw [← hR.out]
        simp
        intro h
        exact e (by subst h; rfl)
      obtain ⟨⟨a1, a2⟩, ha⟩ : ∃ x, Hid (l[i] = x) := ⟨_, Lib.hid rfl⟩
      obtain ⟨⟨b1, b2⟩, hb⟩ : ∃ x, Hid (m[i] = x) := ⟨_, Lib.hid rfl⟩
      rw [ha.out] at k1 k2
      rw [hb.out] at j1 j2
      rw [ha.out, hb.out] at hsn hne
      by_cases e1 : a1 = b1
      · subst e1
        by_cases e2 : a2 = b2
        · subst e2
          have hs2 := hsn rfl
          clear hsn hne
          go_wp2_with fail
          go_quiet (fail)
          go_wp2_with fail
          go_roundw
          case rel => exact ⟨i + 1, rfl, by omega, hs2, hD.more _⟩
          case measure => simp only [iOf]; omega
        · have hF : Hid (R = false) := Lib.hid (hne (fun h => e2 (by cases h; rfl)))
          have b : ((a2 : Int) == (b2 : Int)) = false := by simp; omega
          have d : ((a2 : Int) != (b2 : Int)) = true := by simp only [bne, b]; rfl
          clear hsn hne e2
          go_wp2_with fail
          go_quiet (fail)
          go_wp2
          go_ret
          exact ⟨by rw [hF.out]; rfl, hD.more _⟩
      · have hF : Hid (R = false) := Lib.hid (hne (fun h => e1 (by cases h; rfl)))
        have b : ((a1 : Int) == (b1 : Int)) = false := by simp; omega
        have d : ((a1 : Int) != (b1 : Int)) = true := by simp only [bne, b]; rfl
        clear hsn hne e1
        go_wp2_with fail
        go_quiet (fail)
        go_wp2
        go_ret
        exact ⟨by rw [hF.out]; rfl, hD.more _⟩
    · have hie : i = l.length := by have := hN.out; omega
      have hF : Hid (R = true) := Lib.hid (by
        rw [← hR.out]
        rw [hie, List.take_length, show l.length = m.length from hN.out.trans hN2.out.symm, List.take_length] at hsm
        simp [hsm])
      clear hie hsm
      go_wp2
      go_ret
      exact ⟨by rw [hF.out]; rfl, hD⟩
end Go.Proofs.YtmkehecapjdfdaaGreatDoor
