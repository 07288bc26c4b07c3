/- Joined texts: PTop, PWrd. -/
import Derived.Test.YtmkehecapjdfdaaGreatDoorQB8
import Derived.Deep.RegionLaw
import Derived.Deep.AppendLies

/- Items. -/
namespace Go.Proofs.YtmkehecapjdfdaaGreatDoor
open Go.RowKit

set_option maxRecDepth 100000 in
set_option maxHeartbeats 3200000 in
theorem readStruct_any {E : Env} {W : World} {dp : Nat} {s : St} (h : RS E 20 W dp s) :
    Calls Tryz.prog 100 #[.pointer (some ⟨E.r, 0, none⟩)] W (PostR E W dp (RNodeX W.heap.size) (readStruct E.ts s)) := by
  have A0 := At.start h
  have HQ0 : Hid (readStruct E.ts s = bnd (begin_ E.ts 2 kStruct) (fun n => bnd (name E.ts) fun x => bnd (take E.ts pLB) fun _ => bnd (typedNames E.ts 3) fun l => bnd (take E.ts pRB) fun _ => ret (.mk 2 x [] 0 0 n.at_ l)) s) := Lib.hid rfl
  generalize hM : readStruct E.ts s = M at *
  clear hM
  have hb1 := A0.size
  have B2 := Box.new (W) 25 #[Value.int IntKind.i64 0, Value.string { data := #[] }, Value.string { data := #[] }, Value.int IntKind.u64 0, Value.int IntKind.i64 0, Value.int IntKind.i64 0, Value.slice none 0 0]
  have A3 := A0.alloc (Obj.cells #[Value.int IntKind.i64 0, Value.string { data := #[] }, Value.string { data := #[] }, Value.int IntKind.u64 0, Value.int IntKind.i64 0, Value.int IntKind.i64 0, Value.slice none 0 0] 25)
  have sz4 : (W.alloc (Obj.cells #[Value.int IntKind.i64 0, Value.string { data := #[] }, Value.string { data := #[] }, Value.int IntKind.u64 0, Value.int IntKind.i64 0, Value.int IntKind.i64 0, Value.slice none 0 0] 25)).heap.size = W.heap.size + 1 := by simp
  go_enter Tryz.func100, Tryz.ntmps100
  go_wp2_with fail
  refine (begin_any 2 kStruct (by decide) A3.rs).mono ?_
  intro e w1 H
  rcases H.cases with ⟨n, s1, v, hm5, rfl, ⟨a, rfl, rfl⟩, R, K⟩ | ⟨l, s', ch, hm, rfl, H1⟩
  rotate_left 1
  · exact ⟨rfl, A3.out HQ0 hm H1⟩
  have A6 := A3.call R K
  have HQ7 := hq_ok HQ0 hm5
  have B8 : Box w1 (W.heap.size) 25 #[Value.int IntKind.i64 0, Value.string { data := #[] }, Value.string { data := #[] }, Value.int IntKind.u64 0, Value.int IntKind.i64 0, Value.int IntKind.i64 0, Value.slice none 0 0] := B2.kept K (by decide)
  have sz9 := K.size
  clear HQ0 hm5 H R K
  have hb10 := A6.size
  have B11 := B8.alloc (Obj.cells #[Value.int IntKind.i64 2, Value.string { data := #[] }, Value.string { data := #[] }, Value.int IntKind.u64 0, Value.int IntKind.i64 0, Value.int IntKind.i64 a, Value.slice none 0 0] 25)
  have lt12 := B8.lt
  have B13 := Box.new (w1) 25 #[Value.int IntKind.i64 2, Value.string { data := #[] }, Value.string { data := #[] }, Value.int IntKind.u64 0, Value.int IntKind.i64 0, Value.int IntKind.i64 a, Value.slice none 0 0]
  have A14 := A6.alloc (Obj.cells #[Value.int IntKind.i64 2, Value.string { data := #[] }, Value.string { data := #[] }, Value.int IntKind.u64 0, Value.int IntKind.i64 0, Value.int IntKind.i64 a, Value.slice none 0 0] 25)
  have sz15 : (w1.alloc (Obj.cells #[Value.int IntKind.i64 2, Value.string { data := #[] }, Value.string { data := #[] }, Value.int IntKind.u64 0, Value.int IntKind.i64 0, Value.int IntKind.i64 a, Value.slice none 0 0] 25)).heap.size = w1.heap.size + 1 := by simp
  go_wp2_with fail
  refine (name_any A14.rs).mono ?_
  intro e w2 H
  rcases H.cases with ⟨y, s2, v, hm16, rfl, rfl, R, K⟩ | ⟨l, s', ch, hm, rfl, H1⟩
  rotate_left 1
  · exact ⟨rfl, A14.out HQ7 hm H1⟩
  have A17 := A14.call R K
  have HQ18 := hq_ok HQ7 hm16
  have B19 : Box w2 (W.heap.size) 25 #[Value.int IntKind.i64 0, Value.string { data := #[] }, Value.string { data := #[] }, Value.int IntKind.u64 0, Value.int IntKind.i64 0, Value.int IntKind.i64 0, Value.slice none 0 0] := B11.kept K (by decide)
  have B20 : Box w2 (w1.heap.size) 25 #[Value.int IntKind.i64 2, Value.string { data := #[] }, Value.string { data := #[] }, Value.int IntKind.u64 0, Value.int IntKind.i64 0, Value.int IntKind.i64 a, Value.slice none 0 0] := B13.kept K (by decide)
  have sz21 := K.size
  clear HQ7 hm16 H R K
  have c22 : w2.cell? ⟨w1.heap.size, 1, none⟩ = some (Value.string { data := #[] }) := B20.cell 1
  have fz23 := B20.free
  have A24 := A17.set B20 hb10 1 (Value.string { data := (y).toArray })
  have B25 := B19.far (b' := w1.heap.size) (i := 1) (by omega) (Value.string { data := (y).toArray })
  have B26 := B20.set 1 (Value.string { data := (y).toArray })
  have sz27 : (w2.setCell { block := w1.heap.size, off := 1 } (Value.string { data := (y).toArray })).heap.size = w2.heap.size := by simp [World.setCell]
  go_wp2_with fail
  refine (take_any pLB (by decide) A24.rs).mono ?_
  intro e w3 H
  rcases H.cases with ⟨t1, s3, v, hm28, rfl, rfl, R, K⟩ | ⟨l, s', ch, hm, rfl, H1⟩
  rotate_left 1
  · exact ⟨rfl, A24.out HQ18 hm H1⟩
  have A29 := A24.call R K
  have HQ30 := hq_ok HQ18 hm28
  have B31 : Box w3 (W.heap.size) 25 #[Value.int IntKind.i64 0, Value.string { data := #[] }, Value.string { data := #[] }, Value.int IntKind.u64 0, Value.int IntKind.i64 0, Value.int IntKind.i64 0, Value.slice none 0 0] := B25.kept K (by decide)
  have B32 : Box w3 (w1.heap.size) 25 #[Value.int IntKind.i64 2, Value.string { data := (y).toArray }, Value.string { data := #[] }, Value.int IntKind.u64 0, Value.int IntKind.i64 0, Value.int IntKind.i64 a, Value.slice none 0 0] := B26.kept K (by decide)
  have sz33 := K.size
  clear HQ18 hm28 H R K
  go_wp2_with fail
  refine (typedNames_any 3 A29.rs).mono ?_
  intro e w4 H
  rcases H.cases with ⟨l2, s4, v, hm34, rfl, ⟨KA, KC, rfl, KL⟩, R, K⟩ | ⟨l, s', ch, hm, rfl, H1⟩
  rotate_left 1
  · exact ⟨rfl, A29.out HQ30 hm H1⟩
  have A35 := A29.call R K
  have HQ36 := hq_ok HQ30 hm34
  have B37 : Box w4 (W.heap.size) 25 #[Value.int IntKind.i64 0, Value.string { data := #[] }, Value.string { data := #[] }, Value.int IntKind.u64 0, Value.int IntKind.i64 0, Value.int IntKind.i64 0, Value.slice none 0 0] := B31.kept K (by decide)
  have B38 : Box w4 (w1.heap.size) 25 #[Value.int IntKind.i64 2, Value.string { data := (y).toArray }, Value.string { data := #[] }, Value.int IntKind.u64 0, Value.int IntKind.i64 0, Value.int IntKind.i64 a, Value.slice none 0 0] := B32.kept K (by decide)
  have sz39 := K.size
  clear HQ30 hm34 H R K
  have c40 : w4.cell? ⟨w1.heap.size, 6, none⟩ = some (Value.slice none 0 0) := B38.cell 6
  have fz41 := B38.free
  have A42 := A35.set B38 hb10 6 (Value.slice KA l2.length KC)
  have B43 := B37.far (b' := w1.heap.size) (i := 6) (by omega) (Value.slice KA l2.length KC)
  have B44 := B38.set 6 (Value.slice KA l2.length KC)
  have sz45 : (w4.setCell { block := w1.heap.size, off := 6 } (Value.slice KA l2.length KC)).heap.size = w4.heap.size := by simp [World.setCell]
  have KF := Kids.far (b := w1.heap.size) (i := 6) (by omega) (Value.slice KA l2.length KC) KL
  go_wp2_with fail
  refine (take_any pRB (by decide) A42.rs).mono ?_
  intro e w5 H
  rcases H.cases with ⟨t3, s5, v, hm46, rfl, rfl, R, K⟩ | ⟨l, s', ch, hm, rfl, H1⟩
  rotate_left 1
  · exact ⟨rfl, A42.out HQ36 hm H1⟩
  have A47 := A42.call R K
  have HQ48 := hq_ok HQ36 hm46
  have B49 : Box w5 (W.heap.size) 25 #[Value.int IntKind.i64 0, Value.string { data := #[] }, Value.string { data := #[] }, Value.int IntKind.u64 0, Value.int IntKind.i64 0, Value.int IntKind.i64 0, Value.slice none 0 0] := B43.kept K (by decide)
  have B50 : Box w5 (w1.heap.size) 25 #[Value.int IntKind.i64 2, Value.string { data := (y).toArray }, Value.string { data := #[] }, Value.int IntKind.u64 0, Value.int IntKind.i64 0, Value.int IntKind.i64 a, Value.slice KA l2.length KC] := B44.kept K (by decide)
  have Q51 := Kids.later KF K
  have sz52 := K.size
  clear HQ36 hm46 H R K
  have c53 : w5.cell? ⟨w1.heap.size, 0, none⟩ = some (Value.int IntKind.i64 2) := B50.cell 0
  have c54 : w5.cell? ⟨w1.heap.size, 1, none⟩ = some (Value.string { data := (y).toArray }) := B50.cell 1
  have c55 : w5.cell? ⟨w1.heap.size, 2, none⟩ = some (Value.string { data := #[] }) := B50.cell 2
  have c56 : w5.cell? ⟨w1.heap.size, 3, none⟩ = some (Value.int IntKind.u64 0) := B50.cell 3
  have c57 : w5.cell? ⟨w1.heap.size, 4, none⟩ = some (Value.int IntKind.i64 0) := B50.cell 4
  have c58 : w5.cell? ⟨w1.heap.size, 5, none⟩ = some (Value.int IntKind.i64 a) := B50.cell 5
  have c59 : w5.cell? ⟨w1.heap.size, 6, none⟩ = some (Value.slice KA l2.length KC) := B50.cell 6
  have fz60 := B50.free
  have c61 : w5.cell? ⟨W.heap.size, 0, none⟩ = some (Value.int IntKind.i64 0) := B49.cell 0
  have c62 : w5.cell? ⟨W.heap.size, 1, none⟩ = some (Value.string { data := #[] }) := B49.cell 1
  have c63 : w5.cell? ⟨W.heap.size, 2, none⟩ = some (Value.string { data := #[] }) := B49.cell 2
  have c64 : w5.cell? ⟨W.heap.size, 3, none⟩ = some (Value.int IntKind.u64 0) := B49.cell 3
  have c65 : w5.cell? ⟨W.heap.size, 4, none⟩ = some (Value.int IntKind.i64 0) := B49.cell 4
  have c66 : w5.cell? ⟨W.heap.size, 5, none⟩ = some (Value.int IntKind.i64 0) := B49.cell 5
  have c67 : w5.cell? ⟨W.heap.size, 6, none⟩ = some (Value.slice none 0 0) := B49.cell 6
  have fz68 := B49.free
  go_wp2
  refine bodyPost_ret (v := .agg #[Value.int IntKind.i64 2, Value.string { data := (y).toArray }, Value.string { data := #[] }, Value.int IntKind.u64 0, Value.int IntKind.i64 0, Value.int IntKind.i64 a, Value.slice KA l2.length KC]) ?_ rfl ?_
  · simp [results, Tryz.results100, go_sem, c61, c62, c63, c64, c65, c66, c67]
  · exact (A47.fill B49 (Nat.le_refl _) _ _ _ _ _ _ _).ok HQ48 ⟨_, _, rfl, nodeAt_le (M := w3.heap.size) (by omega) (nodeAt_fill (M := w3.heap.size) (by omega) _ _ _ _ _ _ _ (Q51.node _ _ _ _ _ _))⟩

theorem typedMore_few {ts : List PTok} {kind : Nat} : ∀ (g : Nat) (l : List T) (s s' : St) (l2 : List T), typedMore ts kind g l s = .ok l2 s' → l.length ≤ s.nx → l2.length ≤ s'.nx
  | 0, l, s, s', l2, h, hl => by cases h; exact hl
  | g + 1, l, s, s', l2, h, hl => by
    simp only [typedMore] at h
    by_cases hc : wd ts s.nx = pComma
    · rw [if_pos hc] at h
      cases h1 : take ts pComma s with
      | out a b => rw [bnd_out h1] at h; cases h
      | ok t1 s1 =>
        rw [bnd_ok h1] at h
        have q1 := (mv_take ts pComma).z.ok _ _ _ h1
        cases h2 : typedName ts kind s1 with
        | out a b => rw [bnd_out h2] at h; cases h
        | ok t2 s2 =>
          rw [bnd_ok h2] at h
          have q2 := (mv_typedName ts kind).ok _ _ _ h2
          exact typedMore_few g _ _ _ _ h (by simp; omega)
    · rw [if_neg hc] at h
      cases h
      exact hl
theorem typedNames_few {ts : List PTok} {kind : Nat} {s s' : St} {l : List T} (h : typedNames ts kind s = .ok l s') (hn : s'.nx < ts.length) (hf : ts.length ≤ 2000) : l.length ≤ 2000 := by
  unfold typedNames at h
  cases h1 : typedName ts kind s with
  | out a b => rw [bnd_out h1] at h; cases h
  | ok t1 s1 =>
    rw [bnd_ok h1] at h
    have q1 := (mv_typedName ts kind).ok _ _ _ h1
    have := typedMore_few _ _ _ _ _ h (by simp; omega)
    omega

set_option maxRecDepth 100000 in
set_option maxHeartbeats 6400000 in
theorem readFunc_any {E : Env} {W : World} {dp : Nat} {s : St} {y : PM T} (hb : CB E dp y) (h : RS E 20 W dp s) :
    Calls Tryz.prog 101 #[.pointer (some ⟨E.r, 0, none⟩)] W (PostR E W dp (RNodeX W.heap.size) (readFunc E.ts y s)) := by
  have A0 := At.start h
  have HQ0 : Hid (readFunc E.ts y s = bnd (begin_ E.ts 4 kFunc) (fun n => bnd (name E.ts) fun x => bnd (take E.ts pLP) fun _ => fun s => if wd E.ts s.nx = pRP then funcRest E.ts y n.at_ x [] s else bnd (typedNames E.ts 5) (funcRest E.ts y n.at_ x) s) s) := Lib.hid rfl
  generalize hM : readFunc E.ts y s = M at *
  clear hM
  have hb1 := A0.size
  have B2 := Box.new (W) 25 #[Value.int IntKind.i64 0, Value.string { data := #[] }, Value.string { data := #[] }, Value.int IntKind.u64 0, Value.int IntKind.i64 0, Value.int IntKind.i64 0, Value.slice none 0 0]
  have A3 := A0.alloc (Obj.cells #[Value.int IntKind.i64 0, Value.string { data := #[] }, Value.string { data := #[] }, Value.int IntKind.u64 0, Value.int IntKind.i64 0, Value.int IntKind.i64 0, Value.slice none 0 0] 25)
  have sz4 : (W.alloc (Obj.cells #[Value.int IntKind.i64 0, Value.string { data := #[] }, Value.string { data := #[] }, Value.int IntKind.u64 0, Value.int IntKind.i64 0, Value.int IntKind.i64 0, Value.slice none 0 0] 25)).heap.size = W.heap.size + 1 := by simp
  obtain ⟨i0, hi, hz0, hz1, hz2⟩ := info_parts Tryz.infoNode
  go_enter Tryz.func101, Tryz.ntmps101
  go_wp2_with fail
  refine (begin_any 4 kFunc (by decide) A3.rs).mono ?_
  intro e w1 H
  rcases H.cases with ⟨n, s1, v, hm5, rfl, ⟨a, rfl, rfl⟩, R, K⟩ | ⟨l, s', ch, hm, rfl, H1⟩
  rotate_left 1
  · exact ⟨rfl, A3.out HQ0 hm H1⟩
  have A6 := A3.call R K
  have HQ7 := hq_ok HQ0 hm5
  have B8 : Box w1 (W.heap.size) 25 #[Value.int IntKind.i64 0, Value.string { data := #[] }, Value.string { data := #[] }, Value.int IntKind.u64 0, Value.int IntKind.i64 0, Value.int IntKind.i64 0, Value.slice none 0 0] := B2.kept K (by decide)
  have sz9 := K.size
  clear HQ0 hm5 H R K
  have hb10 := A6.size
  have B11 := B8.alloc (Obj.cells #[Value.int IntKind.i64 4, Value.string { data := #[] }, Value.string { data := #[] }, Value.int IntKind.u64 0, Value.int IntKind.i64 0, Value.int IntKind.i64 a, Value.slice none 0 0] 25)
  have lt12 := B8.lt
  have B13 := Box.new (w1) 25 #[Value.int IntKind.i64 4, Value.string { data := #[] }, Value.string { data := #[] }, Value.int IntKind.u64 0, Value.int IntKind.i64 0, Value.int IntKind.i64 a, Value.slice none 0 0]
  have A14 := A6.alloc (Obj.cells #[Value.int IntKind.i64 4, Value.string { data := #[] }, Value.string { data := #[] }, Value.int IntKind.u64 0, Value.int IntKind.i64 0, Value.int IntKind.i64 a, Value.slice none 0 0] 25)
  have sz15 : (w1.alloc (Obj.cells #[Value.int IntKind.i64 4, Value.string { data := #[] }, Value.string { data := #[] }, Value.int IntKind.u64 0, Value.int IntKind.i64 0, Value.int IntKind.i64 a, Value.slice none 0 0] 25)).heap.size = w1.heap.size + 1 := by simp
  go_wp2_with fail
  refine (name_any A14.rs).mono ?_
  intro e w2 H
  rcases H.cases with ⟨z, s2, v, hm16, rfl, rfl, R, K⟩ | ⟨l, s', ch, hm, rfl, H1⟩
  rotate_left 1
  · exact ⟨rfl, A14.out HQ7 hm H1⟩
  have A17 := A14.call R K
  have HQ18 := hq_ok HQ7 hm16
  have B19 : Box w2 (W.heap.size) 25 #[Value.int IntKind.i64 0, Value.string { data := #[] }, Value.string { data := #[] }, Value.int IntKind.u64 0, Value.int IntKind.i64 0, Value.int IntKind.i64 0, Value.slice none 0 0] := B11.kept K (by decide)
  have B20 : Box w2 (w1.heap.size) 25 #[Value.int IntKind.i64 4, Value.string { data := #[] }, Value.string { data := #[] }, Value.int IntKind.u64 0, Value.int IntKind.i64 0, Value.int IntKind.i64 a, Value.slice none 0 0] := B13.kept K (by decide)
  have sz21 := K.size
  clear HQ7 hm16 H R K
  have c22 : w2.cell? ⟨w1.heap.size, 1, none⟩ = some (Value.string { data := #[] }) := B20.cell 1
  have fz23 := B20.free
  have A24 := A17.set B20 hb10 1 (Value.string { data := (z).toArray })
  have B25 := B19.far (b' := w1.heap.size) (i := 1) (by omega) (Value.string { data := (z).toArray })
  have B26 := B20.set 1 (Value.string { data := (z).toArray })
  have sz27 : (w2.setCell { block := w1.heap.size, off := 1 } (Value.string { data := (z).toArray })).heap.size = w2.heap.size := by simp [World.setCell]
  go_wp2_with fail
  refine (take_any pLP (by decide) A24.rs).mono ?_
  intro e w3 H
  rcases H.cases with ⟨t1, s3, v, hm28, rfl, rfl, R, K⟩ | ⟨l, s', ch, hm, rfl, H1⟩
  rotate_left 1
  · exact ⟨rfl, A24.out HQ18 hm H1⟩
  have A29 := A24.call R K
  have HQ30 := hq_ok HQ18 hm28
  have B31 : Box w3 (W.heap.size) 25 #[Value.int IntKind.i64 0, Value.string { data := #[] }, Value.string { data := #[] }, Value.int IntKind.u64 0, Value.int IntKind.i64 0, Value.int IntKind.i64 0, Value.slice none 0 0] := B25.kept K (by decide)
  have B32 : Box w3 (w1.heap.size) 25 #[Value.int IntKind.i64 4, Value.string { data := (z).toArray }, Value.string { data := #[] }, Value.int IntKind.u64 0, Value.int IntKind.i64 0, Value.int IntKind.i64 a, Value.slice none 0 0] := B26.kept K (by decide)
  have sz33 := K.size
  clear HQ18 hm28 H R K
  go_wp2_with fail
  refine (word_any A29.rs).mono ?_
  rintro e w4 ⟨rfl, D⟩
  have A34 := A29.later D.below
  have BD35 : Box w4 (W.heap.size) 25 #[Value.int IntKind.i64 0, Value.string { data := #[] }, Value.string { data := #[] }, Value.int IntKind.u64 0, Value.int IntKind.i64 0, Value.int IntKind.i64 0, Value.slice none 0 0] := B31.below D.below
  have BD36 : Box w4 (w1.heap.size) 25 #[Value.int IntKind.i64 4, Value.string { data := (z).toArray }, Value.string { data := #[] }, Value.int IntKind.u64 0, Value.int IntKind.i64 0, Value.int IntKind.i64 a, Value.slice none 0 0] := B32.below D.below
  have sz37 : w3.heap.size ≤ w4.heap.size := D.below.size
  clear D
  have HV := Lib.hid (HQ30.out.trans (show _ = (if wd E.ts s3.nx = pRP then funcRest E.ts y a z [] s3 else bnd (typedNames E.ts 5) (funcRest E.ts y a z) s3) from rfl))
  by_cases hc38 : wd E.ts s3.nx = pRP
  · have hw1 : (wd E.ts s3.nx == [41]) = true := by rw [hc38]; rfl
    have HY39 := Lib.hid (HV.out.trans (if_pos hc38))
    have HW := Lib.hid (HY39.out.trans (show funcRest E.ts y a z [] s3 = bnd (take E.ts pRP) (fun _ => bnd (width E.ts) fun q => bnd y fun k => ret (.mk 4 z [] 0 q a ([] ++ [k]))) s3 from rfl))
    go_wp2_with fail
    refine (take_any pRP (by decide) A34.rs).mono ?_
    intro e w5 H
    rcases H.cases with ⟨t4, s5, v, hm40, rfl, rfl, R, K⟩ | ⟨l, s', ch, hm, rfl, H1⟩
    rotate_left 1
    · exact ⟨rfl, A34.out HW hm H1⟩
    have A41 := A34.call R K
    have HQ42 := hq_ok HW hm40
    have B43 : Box w5 (W.heap.size) 25 #[Value.int IntKind.i64 0, Value.string { data := #[] }, Value.string { data := #[] }, Value.int IntKind.u64 0, Value.int IntKind.i64 0, Value.int IntKind.i64 0, Value.slice none 0 0] := BD35.kept K (by decide)
    have B44 : Box w5 (w1.heap.size) 25 #[Value.int IntKind.i64 4, Value.string { data := (z).toArray }, Value.string { data := #[] }, Value.int IntKind.u64 0, Value.int IntKind.i64 0, Value.int IntKind.i64 a, Value.slice none 0 0] := BD36.kept K (by decide)
    have sz45 := K.size
    clear HW hm40 H R K
    go_wp2_with fail
    refine (width_any A41.rs).mono ?_
    intro e w6 H
    rcases H.cases with ⟨q, s6, v, hm46, rfl, rfl, R, K⟩ | ⟨l, s', ch, hm, rfl, H1⟩
    rotate_left 1
    · exact ⟨rfl, A41.out HQ42 hm H1⟩
    have A47 := A41.call R K
    have HQ48 := hq_ok HQ42 hm46
    have B49 : Box w6 (W.heap.size) 25 #[Value.int IntKind.i64 0, Value.string { data := #[] }, Value.string { data := #[] }, Value.int IntKind.u64 0, Value.int IntKind.i64 0, Value.int IntKind.i64 0, Value.slice none 0 0] := B43.kept K (by decide)
    have B50 : Box w6 (w1.heap.size) 25 #[Value.int IntKind.i64 4, Value.string { data := (z).toArray }, Value.string { data := #[] }, Value.int IntKind.u64 0, Value.int IntKind.i64 0, Value.int IntKind.i64 a, Value.slice none 0 0] := B44.kept K (by decide)
    have sz51 := K.size
    clear HQ42 hm46 H R K
    have c52 : w6.cell? ⟨w1.heap.size, 4, none⟩ = some (Value.int IntKind.i64 0) := B50.cell 4
    have fz53 := B50.free
    have A54 := A47.set B50 hb10 4 (Value.int IntKind.i64 q)
    have B55 := B49.far (b' := w1.heap.size) (i := 4) (by omega) (Value.int IntKind.i64 q)
    have B56 := B50.set 4 (Value.int IntKind.i64 q)
    have sz57 : (w6.setCell { block := w1.heap.size, off := 4 } (Value.int IntKind.i64 q)).heap.size = w6.heap.size := by simp [World.setCell]
    go_wp2_with fail
    obtain ⟨w7, hy58⟩ : ∃ Y, (w6.setCell { block := w1.heap.size, off := 4 } (Value.int IntKind.i64 q)) = Y := ⟨_, rfl⟩
    rw [hy58] at A54 sz57 B55 B56  ⊢
    clear hy58
    have B59 : Box w7 (W.heap.size) 25 #[Value.int IntKind.i64 0, Value.string { data := #[] }, Value.string { data := #[] }, Value.int IntKind.u64 0, Value.int IntKind.i64 0, Value.int IntKind.i64 0, Value.slice none 0 0] := B55
    have B60 : Box w7 (w1.heap.size) 25 #[Value.int IntKind.i64 4, Value.string { data := (z).toArray }, Value.string { data := #[] }, Value.int IntKind.u64 0, Value.int IntKind.i64 q, Value.int IntKind.i64 a, Value.slice none 0 0] := B56
    have c61 : w7.cell? ⟨w1.heap.size, 6, none⟩ = some (Value.slice none 0 0) := B60.cell 6
    have fz62 := B60.free
    have ltr := A54.rs.lt
    have hMs : w1.heap.size + 1 ≤ w7.heap.size := by omega
    go_region_law (first
      | (go_simp; go_at_call 157; refine (hb _ _ A54.drew.rs).mono ?_; intro e w8 H; rcases H.cases with ⟨t9, s8, v, hm, rfl, ⟨KA, KC, rfl, nd⟩, R, K⟩ | ⟨l, s', ch, hm, rfl, H1⟩; rotate_left 1; exact ⟨rfl, A54.drew.out HQ48 hm H1⟩; have AR := A54.drew.call R K; have HQR := hq_ok HQ48 hm; have BRres : Box w8 (W.heap.size) 25 #[Value.int IntKind.i64 0, Value.string { data := #[] }, Value.string { data := #[] }, Value.int IntKind.u64 0, Value.int IntKind.i64 0, Value.int IntKind.i64 0, Value.slice none 0 0] := Box.kept (w := w7.drew) B59 K (by decide); have BRn : Box w8 (w1.heap.size) 25 #[Value.int IntKind.i64 4, Value.string { data := (z).toArray }, Value.string { data := #[] }, Value.int IntKind.u64 0, Value.int IntKind.i64 q, Value.int IntKind.i64 a, Value.slice none 0 0] := Box.kept (w := w7.drew) B60 K (by decide); have q0 : ∀ o, (w8.alloc o).cell? ⟨w1.heap.size, 6, none⟩ = some (Value.slice none 0 0) := fun o => (BRn.alloc o).cell 6; have q00 := BRn.cell 6; have szR : w7.heap.size ≤ w8.heap.size := K.size; clear K R H hm)
      | (refine step_append_lies _ rfl (.tmp 23) (.tmp 26) 23 rfl (w1.heap.size + 1) 25 i0 _ 7 88 Tryz.underlying23 hi hz0 hz1 hz2 rfl (by decide) (Value.slice none 0 0) 0 [] (by simp [Act.eval]) (World.ownsRow.alloc (World.ownsRow_nil _ _ _ _) _) ⟨w8.heap.size, 0, none⟩ 1 1 (nodeCells t9 (.slice KA (t9).kids.length KC)) (by simp [Act.eval]) rfl (by exact World.news_of_block (heap_alloc_new _ _)) (nodeCells_one _ _ _ _) (by decide) (by unfold maxLen; omega) (by omega) (by first | omega | (simp <;> omega)) _ rfl ?_; intro g cap wA o2 g2 p2 z2; have ap := appended AR (by omega) (World.ownsRow_nil _ _ _ _) (show rowAt _ _ [] [] from rfl) (rowAt_fresh nd (by first | omega | (simp <;> omega)) no_own) o2 g2 p2; have q1 : wA.cell? ⟨w1.heap.size, 6, none⟩ = some (Value.slice none 0 0) := (ap.box BRn (by omega)).cell 6; have q2 := (ap.box BRn (by omega)).free 6))
    all_goals
      have szA : w8.heap.size ≤ wA.heap.size := by have := g2.size; simp at this; omega
      clear q0 q00 q1 q2 o2 g2 p2
      have BSres := ap.box BRres (by omega)
      have BSn := ap.box BRn (by omega)
      have KS := ap.kids
      have AS := ap.at_
      have A63 := AS.set BSn hb10 6 (Value.slice (some { block := g, off := 0 }) (0 + 1) cap)
      have B64 := BSres.far (b' := w1.heap.size) (i := 6) (by omega) (Value.slice (some { block := g, off := 0 }) (0 + 1) cap)
      have B65 := BSn.set 6 (Value.slice (some { block := g, off := 0 }) (0 + 1) cap)
      have sz66 : (wA.setCell { block := w1.heap.size, off := 6 } (Value.slice (some { block := g, off := 0 }) (0 + 1) cap)).heap.size = wA.heap.size := by simp [World.setCell]
      have KF9 := Kids.far (b := w1.heap.size) (i := 6) (by omega) (Value.slice (some { block := g, off := 0 }) (0 + 1) cap) KS
      obtain ⟨w9, hy67⟩ : ∃ Y, (wA.setCell { block := w1.heap.size, off := 6 } (Value.slice (some { block := g, off := 0 }) (0 + 1) cap)) = Y := ⟨_, rfl⟩
      rw [hy67] at A63 sz66 B64 B65 KF9 ⊢
      clear hy67
      have B68 : Box w9 (W.heap.size) 25 #[Value.int IntKind.i64 0, Value.string { data := #[] }, Value.string { data := #[] }, Value.int IntKind.u64 0, Value.int IntKind.i64 0, Value.int IntKind.i64 0, Value.slice none 0 0] := B64
      have B69 : Box w9 (w1.heap.size) 25 #[Value.int IntKind.i64 4, Value.string { data := (z).toArray }, Value.string { data := #[] }, Value.int IntKind.u64 0, Value.int IntKind.i64 q, Value.int IntKind.i64 a, Value.slice (some { block := g, off := 0 }) (0 + 1) cap] := B65
      have c70 : w9.cell? ⟨w1.heap.size, 0, none⟩ = some (Value.int IntKind.i64 4) := B69.cell 0
      have c71 : w9.cell? ⟨w1.heap.size, 1, none⟩ = some (Value.string { data := (z).toArray }) := B69.cell 1
      have c72 : w9.cell? ⟨w1.heap.size, 2, none⟩ = some (Value.string { data := #[] }) := B69.cell 2
      have c73 : w9.cell? ⟨w1.heap.size, 3, none⟩ = some (Value.int IntKind.u64 0) := B69.cell 3
      have c74 : w9.cell? ⟨w1.heap.size, 4, none⟩ = some (Value.int IntKind.i64 q) := B69.cell 4
      have c75 : w9.cell? ⟨w1.heap.size, 5, none⟩ = some (Value.int IntKind.i64 a) := B69.cell 5
      have c76 : w9.cell? ⟨w1.heap.size, 6, none⟩ = some (Value.slice (some { block := g, off := 0 }) (0 + 1) cap) := B69.cell 6
      have fz77 := B69.free
      have c78 : w9.cell? ⟨W.heap.size, 0, none⟩ = some (Value.int IntKind.i64 0) := B68.cell 0
      have c79 : w9.cell? ⟨W.heap.size, 1, none⟩ = some (Value.string { data := #[] }) := B68.cell 1
      have c80 : w9.cell? ⟨W.heap.size, 2, none⟩ = some (Value.string { data := #[] }) := B68.cell 2
      have c81 : w9.cell? ⟨W.heap.size, 3, none⟩ = some (Value.int IntKind.u64 0) := B68.cell 3
      have c82 : w9.cell? ⟨W.heap.size, 4, none⟩ = some (Value.int IntKind.i64 0) := B68.cell 4
      have c83 : w9.cell? ⟨W.heap.size, 5, none⟩ = some (Value.int IntKind.i64 0) := B68.cell 5
      have c84 : w9.cell? ⟨W.heap.size, 6, none⟩ = some (Value.slice none 0 0) := B68.cell 6
      have fz85 := B68.free
      go_wp2
      refine bodyPost_ret (v := .agg #[Value.int IntKind.i64 4, Value.string { data := (z).toArray }, Value.string { data := #[] }, Value.int IntKind.u64 0, Value.int IntKind.i64 q, Value.int IntKind.i64 a, Value.slice (some { block := g, off := 0 }) (0 + 1) cap]) ?_ rfl ?_
      · simp [results, Tryz.results101, go_sem, c78, c79, c80, c81, c82, c83, c84]
      · exact (A63.fill B68 (Nat.le_refl _) _ _ _ _ _ _ _).ok HQR ⟨_, _, rfl, nodeAt_le (M := w1.heap.size + 1) (by omega) (nodeAt_fill (M := w1.heap.size + 1) (by omega) _ _ _ _ _ _ _ (KF9.node _ _ _ _ _ _))⟩
  · have hw1 : (wd E.ts s3.nx == [41]) = false := by simpa [pRP] using hc38
    have HY86 := Lib.hid (HV.out.trans (if_neg hc38))
    obtain ⟨XM, hXM⟩ : ∃ XM, XM = w4.heap.size := ⟨_, rfl⟩
    have hXW : W.heap.size ≤ XM := by omega
    have hXn : w1.heap.size < XM := by omega
    go_wp2_with fail
    refine (typedNames_any 5 A34.rs).mono ?_
    intro e w10 H
    rcases H.cases with ⟨l2, s10, v, hm87, rfl, ⟨LA, LC, rfl, KL⟩, R, K⟩ | ⟨l, s', ch, hm, rfl, H1⟩
    rotate_left 1
    · exact ⟨rfl, A34.out HY86 hm H1⟩
    have A88 := A34.call R K
    have HQ89 := hq_ok HY86 hm87
    have B90 : Box w10 (W.heap.size) 25 #[Value.int IntKind.i64 0, Value.string { data := #[] }, Value.string { data := #[] }, Value.int IntKind.u64 0, Value.int IntKind.i64 0, Value.int IntKind.i64 0, Value.slice none 0 0] := BD35.kept K (by decide)
    have B91 : Box w10 (w1.heap.size) 25 #[Value.int IntKind.i64 4, Value.string { data := (z).toArray }, Value.string { data := #[] }, Value.int IntKind.u64 0, Value.int IntKind.i64 0, Value.int IntKind.i64 a, Value.slice none 0 0] := BD36.kept K (by decide)
    have sz92 := K.size
    have hmt := Lib.hid hm87
    clear HY86 hm87 H R K
    have hl2 : l2.length ≤ 2000 := typedNames_few hmt.out A88.rs.hnx A88.rs.good.few
    clear hmt
    rw [← hXM] at KL
    have HW := Lib.hid (HQ89.out.trans (show funcRest E.ts y a z l2 s10 = bnd (take E.ts pRP) (fun _ => bnd (width E.ts) fun q => bnd y fun k => ret (.mk 4 z [] 0 q a (l2 ++ [k]))) s10 from rfl))
    have c93 : w10.cell? ⟨w1.heap.size, 6, none⟩ = some (Value.slice none 0 0) := B91.cell 6
    have fz94 := B91.free
    have A95 := A88.set B91 hb10 6 (Value.slice LA l2.length LC)
    have B96 := B90.far (b' := w1.heap.size) (i := 6) (by omega) (Value.slice LA l2.length LC)
    have B97 := B91.set 6 (Value.slice LA l2.length LC)
    have sz98 : (w10.setCell { block := w1.heap.size, off := 6 } (Value.slice LA l2.length LC)).heap.size = w10.heap.size := by simp [World.setCell]
    have KX := Kids.far (b := w1.heap.size) (i := 6) (by omega) (Value.slice LA l2.length LC) KL
    go_wp2_with fail
    refine (take_any pRP (by decide) A95.rs).mono ?_
    intro e w11 H
    rcases H.cases with ⟨t4, s11, v, hm99, rfl, rfl, R, K⟩ | ⟨l, s', ch, hm, rfl, H1⟩
    rotate_left 1
    · exact ⟨rfl, A95.out HW hm H1⟩
    have A100 := A95.call R K
    have HQ101 := hq_ok HW hm99
    have B102 : Box w11 (W.heap.size) 25 #[Value.int IntKind.i64 0, Value.string { data := #[] }, Value.string { data := #[] }, Value.int IntKind.u64 0, Value.int IntKind.i64 0, Value.int IntKind.i64 0, Value.slice none 0 0] := B96.kept K (by decide)
    have B103 : Box w11 (w1.heap.size) 25 #[Value.int IntKind.i64 4, Value.string { data := (z).toArray }, Value.string { data := #[] }, Value.int IntKind.u64 0, Value.int IntKind.i64 0, Value.int IntKind.i64 a, Value.slice LA l2.length LC] := B97.kept K (by decide)
    have Q104 := Kids.later KX K
    have sz105 := K.size
    clear HW hm99 H R K
    go_wp2_with fail
    refine (width_any A100.rs).mono ?_
    intro e w12 H
    rcases H.cases with ⟨q, s12, v, hm106, rfl, rfl, R, K⟩ | ⟨l, s', ch, hm, rfl, H1⟩
    rotate_left 1
    · exact ⟨rfl, A100.out HQ101 hm H1⟩
    have A107 := A100.call R K
    have HQ108 := hq_ok HQ101 hm106
    have B109 : Box w12 (W.heap.size) 25 #[Value.int IntKind.i64 0, Value.string { data := #[] }, Value.string { data := #[] }, Value.int IntKind.u64 0, Value.int IntKind.i64 0, Value.int IntKind.i64 0, Value.slice none 0 0] := B102.kept K (by decide)
    have B110 : Box w12 (w1.heap.size) 25 #[Value.int IntKind.i64 4, Value.string { data := (z).toArray }, Value.string { data := #[] }, Value.int IntKind.u64 0, Value.int IntKind.i64 0, Value.int IntKind.i64 a, Value.slice LA l2.length LC] := B103.kept K (by decide)
    have Q111 := Kids.later Q104 K
    have sz112 := K.size
    clear HQ101 hm106 H R K
    have c113 : w12.cell? ⟨w1.heap.size, 4, none⟩ = some (Value.int IntKind.i64 0) := B110.cell 4
    have fz114 := B110.free
    have A115 := A107.set B110 hb10 4 (Value.int IntKind.i64 q)
    have B116 := B109.far (b' := w1.heap.size) (i := 4) (by omega) (Value.int IntKind.i64 q)
    have B117 := B110.set 4 (Value.int IntKind.i64 q)
    have sz118 : (w12.setCell { block := w1.heap.size, off := 4 } (Value.int IntKind.i64 q)).heap.size = w12.heap.size := by simp [World.setCell]
    have KG := Kids.far (b := w1.heap.size) (i := 4) (by omega) (Value.int IntKind.i64 q) Q111
    go_wp2_with fail
    obtain ⟨w13, hy119⟩ : ∃ Y, (w12.setCell { block := w1.heap.size, off := 4 } (Value.int IntKind.i64 q)) = Y := ⟨_, rfl⟩
    rw [hy119] at A115 sz118 B116 B117 KG ⊢
    clear hy119
    have B120 : Box w13 (W.heap.size) 25 #[Value.int IntKind.i64 0, Value.string { data := #[] }, Value.string { data := #[] }, Value.int IntKind.u64 0, Value.int IntKind.i64 0, Value.int IntKind.i64 0, Value.slice none 0 0] := B116
    have B121 : Box w13 (w1.heap.size) 25 #[Value.int IntKind.i64 4, Value.string { data := (z).toArray }, Value.string { data := #[] }, Value.int IntKind.u64 0, Value.int IntKind.i64 q, Value.int IntKind.i64 a, Value.slice LA l2.length LC] := B117
    have c122 : w13.cell? ⟨w1.heap.size, 6, none⟩ = some (Value.slice LA l2.length LC) := B121.cell 6
    have fz123 := B121.free
    have ltr := A115.rs.lt
    have hMs : XM ≤ w13.heap.size := by omega
    obtain ⟨kc, ko0, kr0⟩ := KG
    go_region_law (first
      | (go_simp; go_at_call 157; refine (hb _ _ A115.drew.rs).mono ?_; intro e w14 H; rcases H.cases with ⟨t9, s14, v, hm, rfl, ⟨KA, KC, rfl, nd⟩, R, K⟩ | ⟨l, s', ch, hm, rfl, H1⟩; rotate_left 1; exact ⟨rfl, A115.drew.out HQ108 hm H1⟩; have AR := A115.drew.call R K; have HQR := hq_ok HQ108 hm; have BRres : Box w14 (W.heap.size) 25 #[Value.int IntKind.i64 0, Value.string { data := #[] }, Value.string { data := #[] }, Value.int IntKind.u64 0, Value.int IntKind.i64 0, Value.int IntKind.i64 0, Value.slice none 0 0] := Box.kept (w := w13.drew) B120 K (by decide); have BRn : Box w14 (w1.heap.size) 25 #[Value.int IntKind.i64 4, Value.string { data := (z).toArray }, Value.string { data := #[] }, Value.int IntKind.u64 0, Value.int IntKind.i64 q, Value.int IntKind.i64 a, Value.slice LA l2.length LC] := Box.kept (w := w13.drew) B121 K (by decide); have q0 : ∀ o, (w14.alloc o).cell? ⟨w1.heap.size, 6, none⟩ = some (Value.slice LA l2.length LC) := fun o => (BRn.alloc o).cell 6; have q00 := BRn.cell 6; have szR : w13.heap.size ≤ w14.heap.size := K.size; have ko := Kept.own K (w := w13.drew) (ownsDrew ko0) NT_ne.1 NT_ne.2; have kr := rowAt_kept K (w := w13.drew) (rowDrew kr0); clear K R H hm)
      | (refine step_append_lies _ rfl (.tmp 23) (.tmp 26) 23 rfl (XM) 25 i0 _ 7 88 Tryz.underlying23 hi hz0 hz1 hz2 rfl (by decide) (Value.slice LA l2.length LC) l2.length kc (by simp [Act.eval]) (World.ownsRow.alloc ko _) ⟨w14.heap.size, 0, none⟩ 1 1 (nodeCells t9 (.slice KA (t9).kids.length KC)) (by simp [Act.eval]) rfl (by exact World.news_of_block (heap_alloc_new _ _)) (nodeCells_one _ _ _ _) (by decide) (by unfold maxLen; omega) (by omega) (by first | omega | (simp <;> omega)) _ rfl ?_; intro g cap wA o2 g2 p2 z2; have ap := appended AR (by omega) ko kr (rowAt_fresh nd (by first | omega | (simp <;> omega)) (fun g hg => (ko0.lt g hg).2)) o2 g2 p2; have q1 : wA.cell? ⟨w1.heap.size, 6, none⟩ = some (Value.slice LA l2.length LC) := (ap.box BRn (by omega)).cell 6; have q2 := (ap.box BRn (by omega)).free 6))
    all_goals
      have szA : w14.heap.size ≤ wA.heap.size := by have := g2.size; simp at this; omega
      clear q0 q00 q1 q2 o2 g2 p2
      have BSres := ap.box BRres (by omega)
      have BSn := ap.box BRn (by omega)
      have KS := ap.kids
      have AS := ap.at_
      have A124 := AS.set BSn hb10 6 (Value.slice (some { block := g, off := 0 }) (l2.length + 1) cap)
      have B125 := BSres.far (b' := w1.heap.size) (i := 6) (by omega) (Value.slice (some { block := g, off := 0 }) (l2.length + 1) cap)
      have B126 := BSn.set 6 (Value.slice (some { block := g, off := 0 }) (l2.length + 1) cap)
      have sz127 : (wA.setCell { block := w1.heap.size, off := 6 } (Value.slice (some { block := g, off := 0 }) (l2.length + 1) cap)).heap.size = wA.heap.size := by simp [World.setCell]
      have KF9 := Kids.far (b := w1.heap.size) (i := 6) (by omega) (Value.slice (some { block := g, off := 0 }) (l2.length + 1) cap) KS
      obtain ⟨w15, hy128⟩ : ∃ Y, (wA.setCell { block := w1.heap.size, off := 6 } (Value.slice (some { block := g, off := 0 }) (l2.length + 1) cap)) = Y := ⟨_, rfl⟩
      rw [hy128] at A124 sz127 B125 B126 KF9 ⊢
      clear hy128
      have B129 : Box w15 (W.heap.size) 25 #[Value.int IntKind.i64 0, Value.string { data := #[] }, Value.string { data := #[] }, Value.int IntKind.u64 0, Value.int IntKind.i64 0, Value.int IntKind.i64 0, Value.slice none 0 0] := B125
      have B130 : Box w15 (w1.heap.size) 25 #[Value.int IntKind.i64 4, Value.string { data := (z).toArray }, Value.string { data := #[] }, Value.int IntKind.u64 0, Value.int IntKind.i64 q, Value.int IntKind.i64 a, Value.slice (some { block := g, off := 0 }) (l2.length + 1) cap] := B126
      have c131 : w15.cell? ⟨w1.heap.size, 0, none⟩ = some (Value.int IntKind.i64 4) := B130.cell 0
      have c132 : w15.cell? ⟨w1.heap.size, 1, none⟩ = some (Value.string { data := (z).toArray }) := B130.cell 1
      have c133 : w15.cell? ⟨w1.heap.size, 2, none⟩ = some (Value.string { data := #[] }) := B130.cell 2
      have c134 : w15.cell? ⟨w1.heap.size, 3, none⟩ = some (Value.int IntKind.u64 0) := B130.cell 3
      have c135 : w15.cell? ⟨w1.heap.size, 4, none⟩ = some (Value.int IntKind.i64 q) := B130.cell 4
      have c136 : w15.cell? ⟨w1.heap.size, 5, none⟩ = some (Value.int IntKind.i64 a) := B130.cell 5
      have c137 : w15.cell? ⟨w1.heap.size, 6, none⟩ = some (Value.slice (some { block := g, off := 0 }) (l2.length + 1) cap) := B130.cell 6
      have fz138 := B130.free
      rw [show l2.length + [t9].length = (l2 ++ [t9]).length by simp] at KF9
      have c139 : w15.cell? ⟨W.heap.size, 0, none⟩ = some (Value.int IntKind.i64 0) := B129.cell 0
      have c140 : w15.cell? ⟨W.heap.size, 1, none⟩ = some (Value.string { data := #[] }) := B129.cell 1
      have c141 : w15.cell? ⟨W.heap.size, 2, none⟩ = some (Value.string { data := #[] }) := B129.cell 2
      have c142 : w15.cell? ⟨W.heap.size, 3, none⟩ = some (Value.int IntKind.u64 0) := B129.cell 3
      have c143 : w15.cell? ⟨W.heap.size, 4, none⟩ = some (Value.int IntKind.i64 0) := B129.cell 4
      have c144 : w15.cell? ⟨W.heap.size, 5, none⟩ = some (Value.int IntKind.i64 0) := B129.cell 5
      have c145 : w15.cell? ⟨W.heap.size, 6, none⟩ = some (Value.slice none 0 0) := B129.cell 6
      have fz146 := B129.free
      go_wp2
      refine bodyPost_ret (v := .agg #[Value.int IntKind.i64 4, Value.string { data := (z).toArray }, Value.string { data := #[] }, Value.int IntKind.u64 0, Value.int IntKind.i64 q, Value.int IntKind.i64 a, Value.slice (some { block := g, off := 0 }) (l2.length + 1) cap]) ?_ rfl ?_
      · simp [results, Tryz.results101, go_sem, c139, c140, c141, c142, c143, c144, c145]
      · exact (A124.fill B129 (Nat.le_refl _) _ _ _ _ _ _ _).ok HQR ⟨some ⟨g, 0, none⟩, cap, by simp [T.kind, T.name, T.part, T.num, T.wid, T.at_, T.kids], nodeAt_le (M := XM) (by omega) (nodeAt_fill (M := XM) (by omega) _ _ _ _ _ _ _ (KF9.node _ _ _ _ _ _))⟩

set_option maxRecDepth 100000 in
set_option maxHeartbeats 1600000 in
theorem readParse_any {E : Env} {W : World} {dp : Nat} {s : St} {y : PM T} (hb : CB E dp y) (h : RS E 20 W dp s) :
    Calls Tryz.prog 102 #[.pointer (some ⟨E.r, 0, none⟩)] W (PostR E W dp (RNodeX W.heap.size) (readParse E.ts y s)) := by
  have A0 := At.start h
  have HQ0 : Hid (readParse E.ts y s = bnd (take E.ts kParse) (fun _ => bnd y fun t => ret t) s) := Lib.hid (by unfold readParse; congr 1; funext _ s; exact (bnd_ret _ s).symm)
  generalize hM : readParse E.ts y s = M at *
  clear hM
  have hb1 := A0.size
  have B2 := Box.new (W) 25 #[Value.int IntKind.i64 0, Value.string { data := #[] }, Value.string { data := #[] }, Value.int IntKind.u64 0, Value.int IntKind.i64 0, Value.int IntKind.i64 0, Value.slice none 0 0]
  have A3 := A0.alloc (Obj.cells #[Value.int IntKind.i64 0, Value.string { data := #[] }, Value.string { data := #[] }, Value.int IntKind.u64 0, Value.int IntKind.i64 0, Value.int IntKind.i64 0, Value.slice none 0 0] 25)
  have sz4 : (W.alloc (Obj.cells #[Value.int IntKind.i64 0, Value.string { data := #[] }, Value.string { data := #[] }, Value.int IntKind.u64 0, Value.int IntKind.i64 0, Value.int IntKind.i64 0, Value.slice none 0 0] 25)).heap.size = W.heap.size + 1 := by simp
  go_enter Tryz.func102, Tryz.ntmps102
  go_wp2_with fail
  refine (take_any kParse (by decide) A3.rs).mono ?_
  intro e w1 H
  rcases H.cases with ⟨t1, s1, v, hm5, rfl, rfl, R, K⟩ | ⟨l, s', ch, hm, rfl, H1⟩
  rotate_left 1
  · exact ⟨rfl, A3.out HQ0 hm H1⟩
  have A6 := A3.call R K
  have HQ7 := hq_ok HQ0 hm5
  have B8 : Box w1 (W.heap.size) 25 #[Value.int IntKind.i64 0, Value.string { data := #[] }, Value.string { data := #[] }, Value.int IntKind.u64 0, Value.int IntKind.i64 0, Value.int IntKind.i64 0, Value.slice none 0 0] := B2.kept K (by decide)
  have sz9 := K.size
  clear HQ0 hm5 H R K
  go_wp2_with fail
  refine (hb _ _ A6.rs).mono ?_
  intro e w2 H
  rcases H.cases with ⟨t, s2, v, hm10, rfl, ⟨KA, KC, rfl, nd⟩, R, K⟩ | ⟨l, s', ch, hm, rfl, H1⟩
  rotate_left 1
  · exact ⟨rfl, A6.out HQ7 hm H1⟩
  have A11 := A6.call R K
  have HQ12 := hq_ok HQ7 hm10
  have B13 : Box w2 (W.heap.size) 25 #[Value.int IntKind.i64 0, Value.string { data := #[] }, Value.string { data := #[] }, Value.int IntKind.u64 0, Value.int IntKind.i64 0, Value.int IntKind.i64 0, Value.slice none 0 0] := B8.kept K (by decide)
  have sz14 := K.size
  clear HQ7 hm10 H R K
  have c15 : w2.cell? ⟨W.heap.size, 0, none⟩ = some (Value.int IntKind.i64 0) := B13.cell 0
  have c16 : w2.cell? ⟨W.heap.size, 1, none⟩ = some (Value.string { data := #[] }) := B13.cell 1
  have c17 : w2.cell? ⟨W.heap.size, 2, none⟩ = some (Value.string { data := #[] }) := B13.cell 2
  have c18 : w2.cell? ⟨W.heap.size, 3, none⟩ = some (Value.int IntKind.u64 0) := B13.cell 3
  have c19 : w2.cell? ⟨W.heap.size, 4, none⟩ = some (Value.int IntKind.i64 0) := B13.cell 4
  have c20 : w2.cell? ⟨W.heap.size, 5, none⟩ = some (Value.int IntKind.i64 0) := B13.cell 5
  have c21 : w2.cell? ⟨W.heap.size, 6, none⟩ = some (Value.slice none 0 0) := B13.cell 6
  have fz22 := B13.free
  go_wp2
  refine bodyPost_ret (v := .agg #[Value.int IntKind.i64 (t).kind, Value.string { data := (t).name.toArray }, Value.string { data := (t).part.toArray }, Value.int IntKind.u64 (t).num, Value.int IntKind.i64 (t).wid, Value.int IntKind.i64 (t).at_, Value.slice KA t.kids.length KC]) ?_ rfl ?_
  · simp [results, Tryz.results102, go_sem, c15, c16, c17, c18, c19, c20, c21]
  · exact (A11.fill B13 (Nat.le_refl _) _ _ _ _ _ _ _).ok HQ12 ⟨_, _, rfl, nodeAt_le (M := w1.heap.size) (by omega) (nodeAt_fill (M := w1.heap.size) (by omega) _ _ _ _ _ _ _ nd)⟩

theorem item_tab (w : Str) : (tabFind itemTab w = none ∧ w ≠ kStruct ∧ w ≠ kFunc ∧ w ≠ kParse) ∨ (tabFind itemTab w = some 100 ∧ w = kStruct) ∨ (tabFind itemTab w = some 101 ∧ w = kFunc) ∨ (tabFind itemTab w = some 102 ∧ w = kParse) := by
  by_cases c1 : w = kStruct
  · subst c1; exact .inr (.inl ⟨by decide, rfl⟩)
  by_cases c2 : w = kFunc
  · subst c2; exact .inr (.inr (.inl ⟨by decide, rfl⟩))
  by_cases c3 : w = kParse
  · subst c3; exact .inr (.inr (.inr ⟨by decide, rfl⟩))
  refine .inl ⟨?_, c1, c2, c3⟩
  unfold itemTab
  simp only [tabFind, if_neg (Ne.symm c1), if_neg (Ne.symm c2), if_neg (Ne.symm c3)]
theorem CM_item {E : Env} {dp : Nat} {y : PM T} (hy : CB E dp y) : CM E dp 62 (item E.ts y) := by
  intro w s h
  have fin : ∀ (G : Nat) (m : PM T), tabFind itemTab (wd E.ts s.nx) = some G → CM E dp G m → item E.ts y s = m s → Calls Tryz.prog 62 #[.pointer (some ⟨E.r, 0, none⟩)] w (PostR E w dp (RNodeX w.heap.size) (item E.ts y s)) := by
    intro G m h1 hc he
    refine (item_walk (mm := fun _ => m) (fun G' hG => by rw [h1] at hG; cases hG; exact ⟨bod_itemTab h1, hc⟩) h).mono ?_
    intro e w' H
    rw [he, ← choose_some (k := fun _ => m) h1]
    exact H
  rcases item_tab (wd E.ts s.nx) with ⟨h1, n1, n2, n3⟩ | ⟨h1, h2⟩ | ⟨h1, h2⟩ | ⟨h1, h2⟩
  · refine (item_walk (mm := fun _ => fail E.ts 10) (fun G hG => by rw [h1] at hG; cases hG) h).mono ?_
    intro e w' H
    have he : item E.ts y s = bnd (choose E.ts itemTab) (fun _ => fail E.ts 10) s := by
      rw [choose_none h1]
      unfold item
      simp only [if_neg n1, if_neg n2, if_neg n3]
    rw [he]
    exact H
  · exact fin _ (readStruct E.ts) h1 (fun w s h => readStruct_any h) (by unfold item; rw [if_pos h2])
  · exact fin _ (readFunc E.ts y) h1 (fun w s h => readFunc_any hy h) (by unfold item; rw [h2, if_neg (by decide), if_pos rfl])
  · exact fin _ (readParse E.ts y) h1 (fun w s h => readParse_any hy h) (by unfold item; rw [h2, if_neg (by decide), if_neg (by decide), if_pos rfl])
end Go.Proofs.YtmkehecapjdfdaaGreatDoor

/- The word of a token. -/
namespace Go.Proofs.YtmkehecapjdfdaaGreatDoor
open Go.RowKit

set_option maxRecDepth 100000 in
set_option maxHeartbeats 3200000 in
theorem isKey_any (s : Str) (w : World) : Calls Tryz.prog 123 #[.string ⟨s.toArray⟩] w fun e w' => e = .returned (.bool (isKey s)) ∧ w = w' := by
  by_cases ckStruct : s = kStruct
  · have hk : isKey s = true := by rw [ckStruct]; decide
    have bkStruct : (s == [115, 116, 114, 117, 99, 116]) = true := by rw [ckStruct]; rfl
    rw [hk]
    clear hk ckStruct 
    go_enter Tryz.func123, Tryz.ntmps123
    go_wp2
    go_ret
    exact ⟨rfl, rfl⟩
  have bkStruct : (s == [115, 116, 114, 117, 99, 116]) = false := by simpa [kStruct] using ckStruct
  by_cases ckFunc : s = kFunc
  · have hk : isKey s = true := by rw [ckFunc]; decide
    have bkFunc : (s == [102, 117, 110, 99]) = true := by rw [ckFunc]; rfl
    rw [hk]
    clear hk ckFunc ckStruct
    go_enter Tryz.func123, Tryz.ntmps123
    go_wp2
    go_ret
    exact ⟨rfl, rfl⟩
  have bkFunc : (s == [102, 117, 110, 99]) = false := by simpa [kFunc] using ckFunc
  by_cases ckParse : s = kParse
  · have hk : isKey s = true := by rw [ckParse]; decide
    have bkParse : (s == [112, 97, 114, 115, 101]) = true := by rw [ckParse]; rfl
    rw [hk]
    clear hk ckParse ckStruct ckFunc
    go_enter Tryz.func123, Tryz.ntmps123
    go_wp2
    go_ret
    exact ⟨rfl, rfl⟩
  have bkParse : (s == [112, 97, 114, 115, 101]) = false := by simpa [kParse] using ckParse
  by_cases ckLet : s = kLet
  · have hk : isKey s = true := by rw [ckLet]; decide
    have bkLet : (s == [108, 101, 116]) = true := by rw [ckLet]; rfl
    rw [hk]
    clear hk ckLet ckStruct ckFunc ckParse
    go_enter Tryz.func123, Tryz.ntmps123
    go_wp2
    go_ret
    exact ⟨rfl, rfl⟩
  have bkLet : (s == [108, 101, 116]) = false := by simpa [kLet] using ckLet
  by_cases ckNew : s = kNew
  · have hk : isKey s = true := by rw [ckNew]; decide
    have bkNew : (s == [110, 101, 119]) = true := by rw [ckNew]; rfl
    rw [hk]
    clear hk ckNew ckStruct ckFunc ckParse ckLet
    go_enter Tryz.func123, Tryz.ntmps123
    go_wp2
    go_ret
    exact ⟨rfl, rfl⟩
  have bkNew : (s == [110, 101, 119]) = false := by simpa [kNew] using ckNew
  by_cases ckMake : s = kMake
  · have hk : isKey s = true := by rw [ckMake]; decide
    have bkMake : (s == [109, 97, 107, 101]) = true := by rw [ckMake]; rfl
    rw [hk]
    clear hk ckMake ckStruct ckFunc ckParse ckLet ckNew
    go_enter Tryz.func123, Tryz.ntmps123
    go_wp2
    go_ret
    exact ⟨rfl, rfl⟩
  have bkMake : (s == [109, 97, 107, 101]) = false := by simpa [kMake] using ckMake
  by_cases ckFree : s = kFree
  · have hk : isKey s = true := by rw [ckFree]; decide
    have bkFree : (s == [102, 114, 101, 101]) = true := by rw [ckFree]; rfl
    rw [hk]
    clear hk ckFree ckStruct ckFunc ckParse ckLet ckNew ckMake
    go_enter Tryz.func123, Tryz.ntmps123
    go_wp2
    go_ret
    exact ⟨rfl, rfl⟩
  have bkFree : (s == [102, 114, 101, 101]) = false := by simpa [kFree] using ckFree
  by_cases ckSame : s = kSame
  · have hk : isKey s = true := by rw [ckSame]; decide
    have bkSame : (s == [115, 97, 109, 101]) = true := by rw [ckSame]; rfl
    rw [hk]
    clear hk ckSame ckStruct ckFunc ckParse ckLet ckNew ckMake ckFree
    go_enter Tryz.func123, Tryz.ntmps123
    go_wp2
    go_ret
    exact ⟨rfl, rfl⟩
  have bkSame : (s == [115, 97, 109, 101]) = false := by simpa [kSame] using ckSame
  by_cases ckIf : s = kIf
  · have hk : isKey s = true := by rw [ckIf]; decide
    have bkIf : (s == [105, 102]) = true := by rw [ckIf]; rfl
    rw [hk]
    clear hk ckIf ckStruct ckFunc ckParse ckLet ckNew ckMake ckFree ckSame
    go_enter Tryz.func123, Tryz.ntmps123
    go_wp2
    go_ret
    exact ⟨rfl, rfl⟩
  have bkIf : (s == [105, 102]) = false := by simpa [kIf] using ckIf
  by_cases ckElse : s = kElse
  · have hk : isKey s = true := by rw [ckElse]; decide
    have bkElse : (s == [101, 108, 115, 101]) = true := by rw [ckElse]; rfl
    rw [hk]
    clear hk ckElse ckStruct ckFunc ckParse ckLet ckNew ckMake ckFree ckSame ckIf
    go_enter Tryz.func123, Tryz.ntmps123
    go_wp2
    go_ret
    exact ⟨rfl, rfl⟩
  have bkElse : (s == [101, 108, 115, 101]) = false := by simpa [kElse] using ckElse
  by_cases ckWhile : s = kWhile
  · have hk : isKey s = true := by rw [ckWhile]; decide
    have bkWhile : (s == [119, 104, 105, 108, 101]) = true := by rw [ckWhile]; rfl
    rw [hk]
    clear hk ckWhile ckStruct ckFunc ckParse ckLet ckNew ckMake ckFree ckSame ckIf ckElse
    go_enter Tryz.func123, Tryz.ntmps123
    go_wp2
    go_ret
    exact ⟨rfl, rfl⟩
  have bkWhile : (s == [119, 104, 105, 108, 101]) = false := by simpa [kWhile] using ckWhile
  by_cases ckEmit : s = kEmit
  · have hk : isKey s = true := by rw [ckEmit]; decide
    have bkEmit : (s == [101, 109, 105, 116]) = true := by rw [ckEmit]; rfl
    rw [hk]
    clear hk ckEmit ckStruct ckFunc ckParse ckLet ckNew ckMake ckFree ckSame ckIf ckElse ckWhile
    go_enter Tryz.func123, Tryz.ntmps123
    go_wp2
    go_ret
    exact ⟨rfl, rfl⟩
  have bkEmit : (s == [101, 109, 105, 116]) = false := by simpa [kEmit] using ckEmit
  by_cases ckAccept : s = kAccept
  · have hk : isKey s = true := by rw [ckAccept]; decide
    have bkAccept : (s == [97, 99, 99, 101, 112, 116]) = true := by rw [ckAccept]; rfl
    rw [hk]
    clear hk ckAccept ckStruct ckFunc ckParse ckLet ckNew ckMake ckFree ckSame ckIf ckElse ckWhile ckEmit
    go_enter Tryz.func123, Tryz.ntmps123
    go_wp2
    go_ret
    exact ⟨rfl, rfl⟩
  have bkAccept : (s == [97, 99, 99, 101, 112, 116]) = false := by simpa [kAccept] using ckAccept
  by_cases ckReject : s = kReject
  · have hk : isKey s = true := by rw [ckReject]; decide
    have bkReject : (s == [114, 101, 106, 101, 99, 116]) = true := by rw [ckReject]; rfl
    rw [hk]
    clear hk ckReject ckStruct ckFunc ckParse ckLet ckNew ckMake ckFree ckSame ckIf ckElse ckWhile ckEmit ckAccept
    go_enter Tryz.func123, Tryz.ntmps123
    go_wp2
    go_ret
    exact ⟨rfl, rfl⟩
  have bkReject : (s == [114, 101, 106, 101, 99, 116]) = false := by simpa [kReject] using ckReject
  by_cases ckReturn : s = kReturn
  · have hk : isKey s = true := by rw [ckReturn]; decide
    have bkReturn : (s == [114, 101, 116, 117, 114, 110]) = true := by rw [ckReturn]; rfl
    rw [hk]
    clear hk ckReturn ckStruct ckFunc ckParse ckLet ckNew ckMake ckFree ckSame ckIf ckElse ckWhile ckEmit ckAccept ckReject
    go_enter Tryz.func123, Tryz.ntmps123
    go_wp2
    go_ret
    exact ⟨rfl, rfl⟩
  have bkReturn : (s == [114, 101, 116, 117, 114, 110]) = false := by simpa [kReturn] using ckReturn
  by_cases ckIn : s = kIn
  · have hk : isKey s = true := by rw [ckIn]; decide
    have bkIn : (s == [105, 110]) = true := by rw [ckIn]; rfl
    rw [hk]
    clear hk ckIn ckStruct ckFunc ckParse ckLet ckNew ckMake ckFree ckSame ckIf ckElse ckWhile ckEmit ckAccept ckReject ckReturn
    go_enter Tryz.func123, Tryz.ntmps123
    go_wp2
    go_ret
    exact ⟨rfl, rfl⟩
  have bkIn : (s == [105, 110]) = false := by simpa [kIn] using ckIn
  by_cases ckLen : s = kLen
  · have hk : isKey s = true := by rw [ckLen]; decide
    have bkLen : (s == [108, 101, 110]) = true := by rw [ckLen]; rfl
    rw [hk]
    clear hk ckLen ckStruct ckFunc ckParse ckLet ckNew ckMake ckFree ckSame ckIf ckElse ckWhile ckEmit ckAccept ckReject ckReturn ckIn
    go_enter Tryz.func123, Tryz.ntmps123
    go_wp2
    go_ret
    exact ⟨rfl, rfl⟩
  have bkLen : (s == [108, 101, 110]) = false := by simpa [kLen] using ckLen
  by_cases ckSext : s = kSext
  · have hk : isKey s = true := by rw [ckSext]; decide
    have bkSext : (s == [115, 101, 120, 116]) = true := by rw [ckSext]; rfl
    rw [hk]
    clear hk ckSext ckStruct ckFunc ckParse ckLet ckNew ckMake ckFree ckSame ckIf ckElse ckWhile ckEmit ckAccept ckReject ckReturn ckIn ckLen
    go_enter Tryz.func123, Tryz.ntmps123
    go_wp2
    go_ret
    exact ⟨rfl, rfl⟩
  have bkSext : (s == [115, 101, 120, 116]) = false := by simpa [kSext] using ckSext
  by_cases ckSlt : s = kSlt
  · have hk : isKey s = true := by rw [ckSlt]; decide
    have bkSlt : (s == [115, 108, 116]) = true := by rw [ckSlt]; rfl
    rw [hk]
    clear hk ckSlt ckStruct ckFunc ckParse ckLet ckNew ckMake ckFree ckSame ckIf ckElse ckWhile ckEmit ckAccept ckReject ckReturn ckIn ckLen ckSext
    go_enter Tryz.func123, Tryz.ntmps123
    go_wp2
    go_ret
    exact ⟨rfl, rfl⟩
  have bkSlt : (s == [115, 108, 116]) = false := by simpa [kSlt] using ckSlt
  have hk : isKey s = false := by
    cases h : isKey s with
    | false => rfl
    | true =>
      unfold isKey keyWords at h
      simp only [List.contains_cons, List.contains_nil, Bool.or_false, Bool.or_eq_true, beq_iff_eq] at h
      rcases h with h | h | h | h | h | h | h | h | h | h | h | h | h | h | h | h | h | h | h
      · exact absurd h ckStruct
      · exact absurd h ckFunc
      · exact absurd h ckParse
      · exact absurd h ckLet
      · exact absurd h ckNew
      · exact absurd h ckMake
      · exact absurd h ckFree
      · exact absurd h ckSame
      · exact absurd h ckIf
      · exact absurd h ckElse
      · exact absurd h ckWhile
      · exact absurd h ckEmit
      · exact absurd h ckAccept
      · exact absurd h ckReject
      · exact absurd h ckReturn
      · exact absurd h ckIn
      · exact absurd h ckLen
      · exact absurd h ckSext
      · exact absurd h ckSlt
  rw [hk]
  clear hk ckStruct ckFunc ckParse ckLet ckNew ckMake ckFree ckSame ckIf ckElse ckWhile ckEmit ckAccept ckReject ckReturn ckIn ckLen ckSext ckSlt
  go_enter Tryz.func123, Tryz.ntmps123
  go_wp2
  go_ret
  exact ⟨rfl, rfl⟩

set_option maxRecDepth 100000 in
set_option maxHeartbeats 1600000 in
theorem wordOf_any (t : Tok) (w : World) : Calls Tryz.prog 59 #[.agg #[.int .i64 t.kind, .string ⟨t.text.toArray⟩, .int .u64 t.num, .int .i64 t.off]] w fun e w' => e = .returned (.string ⟨(wordT t).toArray⟩) ∧ w' = w.alloc (.cells #[.int .i64 t.kind, .string ⟨t.text.toArray⟩, .int .u64 t.num, .int .i64 t.off] 47) := by
  by_cases h2 : t.kind = 2
  · have hw : wordT t = wNumber := by unfold wordT; rw [if_pos h2]
    have b2 : ((t.kind : Int) == 2) = true := by simp; omega
    rw [hw]
    have c0 : (w.alloc (.cells #[.int .i64 t.kind, .string ⟨t.text.toArray⟩, .int .u64 t.num, .int .i64 t.off] 47)).cell? ⟨w.heap.size, 0, none⟩ = some (.int .i64 t.kind) := (Box.new w 47 #[.int .i64 t.kind, .string ⟨t.text.toArray⟩, .int .u64 t.num, .int .i64 t.off]).cell 0
    have c1 : (w.alloc (.cells #[.int .i64 t.kind, .string ⟨t.text.toArray⟩, .int .u64 t.num, .int .i64 t.off] 47)).cell? ⟨w.heap.size, 1, none⟩ = some (.string ⟨t.text.toArray⟩) := (Box.new w 47 #[.int .i64 t.kind, .string ⟨t.text.toArray⟩, .int .u64 t.num, .int .i64 t.off]).cell 1
    clear h2 hw
    go_enter Tryz.func59, Tryz.ntmps59
    go_wp2
    go_ret
    exact ⟨rfl, rfl⟩
  have b2 : ((t.kind : Int) == 2) = false := by simp; omega
  by_cases h3 : t.kind = 3
  · have hw : wordT t = wType := by unfold wordT; rw [if_neg h2, if_pos h3]
    have b3 : ((t.kind : Int) == 3) = true := by simp; omega
    rw [hw]
    have c0 : (w.alloc (.cells #[.int .i64 t.kind, .string ⟨t.text.toArray⟩, .int .u64 t.num, .int .i64 t.off] 47)).cell? ⟨w.heap.size, 0, none⟩ = some (.int .i64 t.kind) := (Box.new w 47 #[.int .i64 t.kind, .string ⟨t.text.toArray⟩, .int .u64 t.num, .int .i64 t.off]).cell 0
    have c1 : (w.alloc (.cells #[.int .i64 t.kind, .string ⟨t.text.toArray⟩, .int .u64 t.num, .int .i64 t.off] 47)).cell? ⟨w.heap.size, 1, none⟩ = some (.string ⟨t.text.toArray⟩) := (Box.new w 47 #[.int .i64 t.kind, .string ⟨t.text.toArray⟩, .int .u64 t.num, .int .i64 t.off]).cell 1
    clear h2 h3 hw
    go_enter Tryz.func59, Tryz.ntmps59
    go_wp2
    go_ret
    exact ⟨rfl, rfl⟩
  have b3 : ((t.kind : Int) == 3) = false := by simp; omega
  by_cases h1 : t.kind = 1
  · have b1 : ((t.kind : Int) == 1) = true := by simp; omega
    cases hk : isKey t.text with
    | true =>
      have hw : wordT t = t.text := by unfold wordT; rw [if_neg h2, if_neg h3, if_neg (by rw [hk]; simp)]
      rw [hw]
      have c0 : (w.alloc (.cells #[.int .i64 t.kind, .string ⟨t.text.toArray⟩, .int .u64 t.num, .int .i64 t.off] 47)).cell? ⟨w.heap.size, 0, none⟩ = some (.int .i64 t.kind) := (Box.new w 47 #[.int .i64 t.kind, .string ⟨t.text.toArray⟩, .int .u64 t.num, .int .i64 t.off]).cell 0
      have c1 : (w.alloc (.cells #[.int .i64 t.kind, .string ⟨t.text.toArray⟩, .int .u64 t.num, .int .i64 t.off] 47)).cell? ⟨w.heap.size, 1, none⟩ = some (.string ⟨t.text.toArray⟩) := (Box.new w 47 #[.int .i64 t.kind, .string ⟨t.text.toArray⟩, .int .u64 t.num, .int .i64 t.off]).cell 1
      clear h2 h3 h1 hw
      go_enter Tryz.func59, Tryz.ntmps59
      go_wp2_with fail
      refine (isKey_any t.text _).mono ?_
      rintro e w' ⟨rfl, rfl⟩
      rw [hk]
      go_wp2
      go_ret
      exact ⟨rfl, rfl⟩
    | false =>
      have hw : wordT t = wName := by unfold wordT; rw [if_neg h2, if_neg h3, if_pos ⟨h1, hk⟩]
      rw [hw]
      have c0 : (w.alloc (.cells #[.int .i64 t.kind, .string ⟨t.text.toArray⟩, .int .u64 t.num, .int .i64 t.off] 47)).cell? ⟨w.heap.size, 0, none⟩ = some (.int .i64 t.kind) := (Box.new w 47 #[.int .i64 t.kind, .string ⟨t.text.toArray⟩, .int .u64 t.num, .int .i64 t.off]).cell 0
      have c1 : (w.alloc (.cells #[.int .i64 t.kind, .string ⟨t.text.toArray⟩, .int .u64 t.num, .int .i64 t.off] 47)).cell? ⟨w.heap.size, 1, none⟩ = some (.string ⟨t.text.toArray⟩) := (Box.new w 47 #[.int .i64 t.kind, .string ⟨t.text.toArray⟩, .int .u64 t.num, .int .i64 t.off]).cell 1
      clear h2 h3 h1 hw
      go_enter Tryz.func59, Tryz.ntmps59
      go_wp2_with fail
      refine (isKey_any t.text _).mono ?_
      rintro e w' ⟨rfl, rfl⟩
      rw [hk]
      go_wp2
      go_ret
      exact ⟨rfl, rfl⟩
  have b1 : ((t.kind : Int) == 1) = false := by simp; omega
  have hw : wordT t = t.text := by unfold wordT; rw [if_neg h2, if_neg h3, if_neg (fun h => h1 h.1)]
  rw [hw]
  have c0 : (w.alloc (.cells #[.int .i64 t.kind, .string ⟨t.text.toArray⟩, .int .u64 t.num, .int .i64 t.off] 47)).cell? ⟨w.heap.size, 0, none⟩ = some (.int .i64 t.kind) := (Box.new w 47 #[.int .i64 t.kind, .string ⟨t.text.toArray⟩, .int .u64 t.num, .int .i64 t.off]).cell 0
  have c1 : (w.alloc (.cells #[.int .i64 t.kind, .string ⟨t.text.toArray⟩, .int .u64 t.num, .int .i64 t.off] 47)).cell? ⟨w.heap.size, 1, none⟩ = some (.string ⟨t.text.toArray⟩) := (Box.new w 47 #[.int .i64 t.kind, .string ⟨t.text.toArray⟩, .int .u64 t.num, .int .i64 t.off]).cell 1
  clear h2 h3 h1 hw
  go_enter Tryz.func59, Tryz.ntmps59
  go_wp2
  go_ret
  exact ⟨rfl, rfl⟩
end Go.Proofs.YtmkehecapjdfdaaGreatDoor
