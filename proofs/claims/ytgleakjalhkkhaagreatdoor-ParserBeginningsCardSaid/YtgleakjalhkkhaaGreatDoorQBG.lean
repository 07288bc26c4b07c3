/- Joined texts: PBegW, PBegP. -/
import Derived.Test.YtgleakjalhkkhaaGreatDoorQC1
import Derived.Test.YtgleakjalhkkhaaGreatDoorQV6
import Derived.Test.YtgleakjalhkkhaaGreatDoorQX1
import Derived.Deep.RegionHeld3
import Derived.IntWalk
import Derived.Test.YtgleakjalhkkhaaGreatDoorQF
import Derived.Test.YtgleakjalhkkhaaGreatDoorCards
import Derived.Stop.Joined
import Derived.ChangeMaps5

/- ParserBeginnings: the walk. -/
namespace Go.Proofs.YtgleakjalhkkhaaGreatDoor
open Go.RowKit

set_option maxRecDepth 100000 in
set_option maxHeartbeats 3200000 in
theorem beg_long (s : ByteArray) (c : Nat) (W : World) (hp : PV W) (hl : (4000 : Int) < s.size) :
    Calls Tryz.prog 7 #[.string s, .int .u16 c] W fun e w' => e = .returned (.bool true) ∧ Below W.heap.size W w' := by
  go_enter Tryz.func7, Tryz.ntmps7
  go_wp2_with fail
  refine (head_one _ hp).mono ?_
  rintro e w1 ⟨rfl, B1⟩
  go_wp2
  go_ret
  exact ⟨rfl, B1⟩
set_option maxRecDepth 100000 in
set_option maxHeartbeats 3200000 in
theorem beg_bad (s : ByteArray) (c : Nat) (ts : List Tok) (x k : Nat) (t : T) (ds : List (Nat × Nat)) (W : World) (hp : PV W) (hl : ¬ (4000 : Int) < s.size) (h : Hid (lexS s.data.toList = (ts, x, k))) (hP : Hid (parseS s.data.toList = (t, ds))) (m : Nat) (hm : Hid (ds.length = m)) (hd : 0 < m) (hx : ((x : Int) != 0) = true ∨ ((x : Int) != 0) = false) :
    Calls Tryz.prog 7 #[.string s, .int .u16 c] W fun e w' => e = .returned (.bool true) ∧ Below W.heap.size W w' := by
  go_enter Tryz.func7, Tryz.ntmps7
  go_wp2_with fail
  refine (head_one _ hp).mono ?_
  rintro e w1 ⟨rfl, B1⟩
  go_wp2_with fail
  refine (lexR_at s ts x k _ (by omega) h).mono ?_
  rintro e w2 ⟨A, c2, rfl, z1, z2, hR, B2⟩
  have B3 := B1.trans (B2.mono B1.size)
  clear B1 B2
  go_wp2_with fail
  refine (parse_at s _ (by omega) (hp.later B3).1 (hp.later B3).2.1).mono ?_
  rintro e w3 ⟨A7, c7, d7, hy, nd, drow, nb⟩
  rw [hP.out] at hy drow
  replace drow : w3.ownsRow w2.heap.size DT 2 d7 m (dgV ds) := by rw [← hm.out]; exact drow
  obtain ⟨DB, DD, rfl⟩ := ownsRow_form drow
  subst hy
  have B4 := B3.trans (nb.mono B3.size)
  clear nd drow nb B3 hR hP h hm
  rcases hx with hx | hx
  · go_wp2
    go_ret
    exact ⟨rfl, B4.alloc B4.size _⟩
  · go_wp2
    go_ret
    exact ⟨rfl, B4.alloc B4.size _⟩
theorem begkeep {X W w1 : World} {b : Nat} {v0 v1 v2 v3 : Value} (hb : Below W.heap.size W w1) (h : W.cell? ⟨b, 0, none⟩ = some v0 ∧ W.cell? ⟨b, 1, none⟩ = some v1 ∧ W.cell? ⟨b, 2, none⟩ = some v2 ∧ W.cell? ⟨b, 3, none⟩ = some v3 ∧ Below X.heap.size X W) :
    w1.cell? ⟨b, 0, none⟩ = some v0 ∧ w1.cell? ⟨b, 1, none⟩ = some v1 ∧ w1.cell? ⟨b, 2, none⟩ = some v2 ∧ w1.cell? ⟨b, 3, none⟩ = some v3 ∧ Below X.heap.size X w1 :=
  ⟨cell_later hb h.1, cell_later hb h.2.1, cell_later hb h.2.2.1, cell_later hb h.2.2.2.1, h.2.2.2.2.trans (hb.mono h.2.2.2.2.size)⟩
theorem begdrew {X W : World} {b : Nat} {v0 v1 v2 v3 : Value} (h : W.cell? ⟨b, 0, none⟩ = some v0 ∧ W.cell? ⟨b, 1, none⟩ = some v1 ∧ W.cell? ⟨b, 2, none⟩ = some v2 ∧ W.cell? ⟨b, 3, none⟩ = some v3 ∧ Below X.heap.size X W) :
    W.drew.cell? ⟨b, 0, none⟩ = some v0 ∧ W.drew.cell? ⟨b, 1, none⟩ = some v1 ∧ W.drew.cell? ⟨b, 2, none⟩ = some v2 ∧ W.drew.cell? ⟨b, 3, none⟩ = some v3 ∧ Below X.heap.size X W.drew :=
  begkeep (Drew.below (a := W) ⟨1, rfl⟩) h
def TextC (k : Nat) (tx : ByteArray) (n o : Nat) (R : ByteArray) : Prop := ∀ w, Calls Tryz.prog 23 #[.agg #[.int .i64 k, .string tx, .int .u64 n, .int .i64 o]] w fun e w' => e = .returned (.string R) ∧ Below w.heap.size w w'
theorem textUse {k : Nat} {tx : ByteArray} {n o : Nat} {R : ByteArray} (h : Hid (TextC k tx n o R)) (w : World) : Calls Tryz.prog 23 #[.agg #[.int .i64 k, .string tx, .int .u64 n, .int .i64 o]] w fun e w' => e = .returned (.string R) ∧ Below w.heap.size w w' := h.out w
set_option maxRecDepth 100000 in
set_option maxHeartbeats 3200000 in
theorem beg_cut (s : ByteArray) (c L j k n o E : Nat) (tx R Q : ByteArray) (ts : List Tok) (t : T) (W : World) (hp : PV W) (hl : ¬ (4000 : Int) < s.size) (h : Hid (lexS s.data.toList = (ts, 0, 0))) (hP : Hid (parseS s.data.toList = (t, []))) (hL : Hid (ts.length = L)) (hL2 : 2 ≤ L) (hj : j < L)
    (hr : (c : Int).tmod ((L : Int) - 1) = (j : Int)) (hc : c < 65536) (htok : Hid (∀ hj : j < ts.length, ts[j].kind = k ∧ (⟨ts[j].text.toArray⟩ : ByteArray) = tx ∧ ts[j].num = n ∧ ts[j].off = o)) (hT : Hid (TextC k tx n o R)) (hE : (o : Int) + (R.size : Int) = (E : Int)) (hE2 : E ≤ s.size) (hQ : Hid (s.extract 0 E = Q)) (hF : Hid (parseS Q.data.toList = (T.zero, dg10 [Q.size]))) (hQ3 : Q.size ≤ 9223372036854775807) :
    Calls Tryz.prog 7 #[.string s, .int .u16 c] W fun e w' => e = .returned (.bool true) ∧ Below W.heap.size W w' := by
  have y1 : IntKind.i64.wrap ((L : Int) - 1) = (L : Int) - 1 := IntWalk.i64_in _ (by have := (lexS_ok h.out).2.1; have := hL.out; omega)
  have y2 : ((L : Int) - 1 == 0) = false := by simp; omega
  have y3 : IntKind.i64.wrap ((o : Int) + (R.size : Int)) = (E : Int) := by rw [hE]; exact IntWalk.i64_in _ (by omega)
  go_enter Tryz.func7, Tryz.ntmps7
  go_wp2_with fail
  refine (head_one _ hp).mono ?_
  rintro e w1 ⟨rfl, B1⟩
  go_wp2_with fail
  refine (lexR_at s ts 0 0 _ (by omega) h).mono ?_
  rintro e w2 ⟨A, c2, rfl, z1, z2, hR, B2⟩
  have B3 := B1.trans (B2.mono B1.size)
  clear B1 B2
  go_wp2_with fail
  refine (parse_at s _ (by omega) (hp.later B3).1 (hp.later B3).2.1).mono ?_
  rintro e w3 ⟨A7, c7, d7, hy, nd, drow, nb⟩
  rw [hP.out] at hy drow
  replace drow : w3.ownsRow w2.heap.size DT 2 d7 0 [] := drow
  obtain ⟨DB, DD, rfl⟩ := ownsRow_form drow
  subst hy
  have B4 := B3.trans (nb.mono B3.size)
  replace hR := hR.later nb
  obtain ⟨g, ob, rfl, r0, r1, r2, r3⟩ := hR j (by rw [hL.out]; exact hj)
  obtain ⟨t1, t2, t3, t4⟩ := htok.out (by rw [hL.out]; exact hj)
  rw [t1] at r0
  rw [t2] at r1
  rw [t3] at r2
  rw [t4] at r3
  have nb2 : Below w3.heap.size w3 (w3.alloc (Obj.cells #[Value.int IntKind.i64 t.kind, Value.string { data := t.name.toArray }, Value.string { data := t.part.toArray }, Value.int IntKind.u64 t.num, Value.int IntKind.i64 t.wid, Value.int IntKind.i64 t.at_, Value.slice A7 t.kids.length c7] 25)) := (Below.refl _ _).alloc (Nat.le_refl _) _
  replace r0 := cell_later nb2 r0
  replace r1 := cell_later nb2 r1
  replace r2 := cell_later nb2 r2
  replace r3 := cell_later nb2 r3
  have B5 := B4.trans (nb2.mono B4.size)
  rw [hL.out] at z1 ⊢
  clear nd drow nb B3 hR hP h B4 htok t1 t2 t3 t4 hE
  go_upto_region 6 with fail
  obtain ⟨X, hX⟩ : ∃ Y, (w3.alloc (Obj.cells #[Value.int IntKind.i64 t.kind, Value.string { data := t.name.toArray }, Value.string { data := t.part.toArray }, Value.int IntKind.u64 t.num, Value.int IntKind.i64 t.wid, Value.int IntKind.i64 t.at_, Value.slice A7 t.kids.length c7] 25)) = Y := ⟨_, rfl⟩
  rw [hX] at r0 r1 r2 r3 B5 ⊢
  clear hX nb2
  have hjL : (j : Int) < (L : Int) := by omega
  go_upto_region 9 with fail
  have N0 := Box.new X 47 #[Value.int IntKind.i64 k, Value.string tx, Value.int IntKind.u64 n, Value.int IntKind.i64 o]
  have B6 : Below W.heap.size W (X.alloc (Obj.cells #[Value.int IntKind.i64 k, Value.string tx, Value.int IntKind.u64 n, Value.int IntKind.i64 o] 47)) := B5.alloc B5.size _
  obtain ⟨Z, hZ⟩ : ∃ Y, X.alloc (Obj.cells #[Value.int IntKind.i64 k, Value.string tx, Value.int IntKind.u64 n, Value.int IntKind.i64 o] 47) = Y := ⟨_, rfl⟩
  rw [hZ] at N0 B6 ⊢
  clear hZ r0 r1 r2 r3 B5
  have S0 : Z.cell? ⟨X.heap.size, 0, none⟩ = some (.int .i64 k) ∧ Z.cell? ⟨X.heap.size, 1, none⟩ = some (.string tx) ∧ Z.cell? ⟨X.heap.size, 2, none⟩ = some (.int .u64 n) ∧ Z.cell? ⟨X.heap.size, 3, none⟩ = some (.int .i64 o) ∧ Below Z.heap.size Z Z := ⟨N0.cell 0, N0.cell 1, N0.cell 2, N0.cell 3, Below.refl _ _⟩
  have e1 : (E : Int) ≤ (s.size : Int) := by omega
  have e2 : (0 : Int) ≤ (E : Int) := by omega
  clear N0 hE2 hjL hj hr hL2 hl
  go_region_held3 (fun w' => w'.cell? ⟨X.heap.size, 0, none⟩ = some (.int .i64 k) ∧ w'.cell? ⟨X.heap.size, 1, none⟩ = some (.string tx) ∧ w'.cell? ⟨X.heap.size, 2, none⟩ = some (.int .u64 n) ∧ w'.cell? ⟨X.heap.size, 3, none⟩ = some (.int .i64 o) ∧ Below Z.heap.size Z w') (with_reducible (first | assumption | exact begdrew ‹_› | exact begdrew (begdrew ‹_›)))
    ((go_at_call 23; ((with_reducible refine (textUse hT _).mono ?_); rintro e w4 ⟨rfl, hb4⟩); have L4 := begkeep hb4 ‹_›))
  all_goals (have B7 := B6.trans (L4.2.2.2.2.mono B6.size))
  clear L4 S0 B6 hb4
  rw [hQ.out]
  have nb5 : Below w4.heap.size w4 (w4.alloc (Obj.cells #[Value.int IntKind.i64 Q.size] 3)) := (Below.refl _ _).alloc (Nat.le_refl _) _
  have B8 := B7.trans (nb5.mono B7.size)
  go_wp2_with fail
  refine (fails_at Q [Q.size] (some ⟨w4.heap.size, 0, none⟩) 1 _ (by simp) hF hQ3 (hp.later B8).1 (hp.later B8).2.1 (irow1 _ _ Q.size)).mono ?_
  rintro e w5 ⟨rfl, nb6⟩
  go_wp2
  go_ret
  exact ⟨rfl, B8.trans (nb6.mono B8.size)⟩

theorem beg_any (s : ByteArray) (c : Int) (W : World) (hs : s.size ≤ 9223372036854775807) (hc : 0 ≤ c ∧ c < 65536) (hp : PV W) :
    Calls Tryz.prog 7 #[.string s, .int .u16 c] W fun e w' => e = .returned (.bool true) ∧ Below W.heap.size W w' := by
  obtain ⟨c, rfl⟩ : ∃ k : Nat, c = k := ⟨c.toNat, by omega⟩
  by_cases hl : 4000 < s.size
  · exact beg_long s c W hp (by omega)
  obtain ⟨ts, x, k, h⟩ : ∃ ts x k, lexS s.data.toList = (ts, x, k) := ⟨_, _, _, rfl⟩
  obtain ⟨t, ds, hP⟩ : ∃ t ds, parseS s.data.toList = (t, ds) := ⟨_, _, rfl⟩
  have hsl : s.data.toList.length = s.size := rfl
  by_cases hx : x = 0
  · subst hx
    obtain ⟨i1, i2, i3, rfl⟩ := lexS_ok h
    by_cases hd : ds = []
    · subst hd
      have h2 := parse_two h hP (gw_item _ (by unfold ptoks; simp))
      have hr : (c : Int).tmod ((ts.length : Int) - 1) = (((c : Int) % ((ts.length : Int) - 1)).toNat : Int) := by
        rw [Int.tmod_eq_emod_of_nonneg (by omega)]
        have := Int.emod_nonneg (c : Int) (show ((ts.length : Int) - 1) ≠ 0 by omega)
        omega
      have hlt := Int.emod_lt_of_pos (c : Int) (show 0 < ((ts.length : Int) - 1) by omega)
      have hge := Int.emod_nonneg (c : Int) (show ((ts.length : Int) - 1) ≠ 0 by omega)
      obtain ⟨j, hj⟩ : ∃ j, ((c : Int) % ((ts.length : Int) - 1)).toNat = j := ⟨_, rfl⟩
      rw [hj] at hr
      have hj1 : j + 1 < ts.length := by omega
      obtain ⟨q, r, hq, hlen, hpq⟩ := cut_parse h hP j hj1
      obtain ⟨y, _, hy, _, hy2⟩ := lexS_rd h _ (List.getElem_mem (show j < ts.length by omega))
      have hn := (read_text hy hy2).2.1
      have hR : (⟨(textOf (ts[j]'(by omega))).toArray⟩ : ByteArray).size = (textOf (ts[j]'(by omega))).length := size_mk _
      have hql : q.length ≤ s.size := by rw [← hsl, hq, List.length_append]; omega
      have hQ : (s.extract 0 ((ts[j]'(by omega)).off + (textOf (ts[j]'(by omega))).length)).data.toList = q := by
        rw [extract_mid, ← hlen, hq]
        simp
      have hQs : (s.extract 0 ((ts[j]'(by omega)).off + (textOf (ts[j]'(by omega))).length)).size = q.length := by rw [← hQ]; rfl
      refine beg_cut s c ts.length j (ts[j]'(by omega)).kind (ts[j]'(by omega)).num (ts[j]'(by omega)).off ((ts[j]'(by omega)).off + (textOf (ts[j]'(by omega))).length) ⟨(ts[j]'(by omega)).text.toArray⟩ ⟨(textOf (ts[j]'(by omega))).toArray⟩ _ ts t W hp (by omega) (Lib.hid h) (Lib.hid hP) (Lib.hid rfl) h2 (by omega) hr (by omega)
        (Lib.hid fun _ => ⟨rfl, rfl, rfl, rfl⟩) (Lib.hid fun w => text_any _ _ _ _ hn w) (by rw [hR]; omega) (by omega) (Lib.hid rfl) (Lib.hid (by rw [hQ, hQs]; exact hpq)) (by rw [hQs]; omega)
    · exact beg_bad s c ts 0 0 t ds W hp (by omega) (Lib.hid h) (Lib.hid hP) ds.length (Lib.hid rfl) (List.length_pos_iff.2 hd) (.inr rfl)
  · have hd : ds = [(x, k)] := by
      unfold parseS at hP
      rw [h] at hP
      cases x with
      | zero => exact absurd rfl hx
      | succ x => exact (Prod.mk.inj hP).2.symm
    exact beg_bad s c ts x k t ds W hp (by omega) (Lib.hid h) (Lib.hid hP) 1 (Lib.hid (by rw [hd]; rfl)) (by omega) (.inl (by simp; omega))
end Go.Proofs.YtgleakjalhkkhaaGreatDoor

/- ParserBeginnings: for every input the statement's function returns true, and the input reads afterwards as it read before; the listed package-level variables start as the program's text lays them (the card ties them to it). No other condition. -/
namespace Go.Proofs.YtgleakjalhkkhaaGreatDoor
open Go.ChangeShapes Go.WideShapes Go.ChangeAt Go.RowKit Go.Joins Go.ChangeMaps

set_option maxRecDepth 100000 in
theorem parserBeginnings_lifted (os : Os) (started : os.Started) (H : Type) (enc : TypeId × Value → H) :
    ReturnsInHanded {} Tryz.checked os 7 .any (fun w args => (Rows.parserBeginningsSpec.pre enc Tryz.prog Tryz.f7 [] false w args ∧ laidMetH Tryz.prog laidP w) ∧ sizedMet enc Tryz.prog Tryz.f7 (OpenSpec.ofChange Rows.parserBeginningsSpec) false w args)
      (Rows.parserBeginningsSpec.post enc Tryz.prog Tryz.f7 false true false false) := by
  refine returnsInHanded_of_change_and (C := Tryz.checked) (X := fun w _ => laidMetH Tryz.prog laidP w) (fun _ _ _ hh h => h.of_heap hh) Tryz.own started (by kernel_rfl) Tryz.func7
    (ChangeSpec.witness_shaped (enc := enc) (C := Tryz.checked) (os := os) (X := fun w _ => laidMetH Tryz.prog laidP w) false (World.laidAll Tryz.prog os laidP) #[.string ⟨#[]⟩, .int .u16 0] 8 (World.laidAll_os _ _ _) (World.shaped_of_ZipB (by kernel_rfl) (by kernel_rfl)) (by kernel_rfl) (by kernel_rfl) (by kernel_rfl) (lay_met os _)) ?_
  intro W base args ds gs before hval0 hW _ _ hL0 _
  have hL : laidMet Tryz.prog laidP W := by rw [← MakeChecks.laidMetH_plain _ _ _ (by kernel_rfl)]; exact hL0
  have hval : ∀ (j : Nat) t v, Tryz.f7.params[j]? = some t → args[j]? = some v → Value.okWide Tryz.prog W .any base t v := hval0
  have hW' := hW
  obtain ⟨p, q, hA0, hV, rfl, hfz, hnd⟩ := hW
  have hA : DataW.TrodAll enc Tryz.prog W 0 (fun _ => true) true Tryz.f7.params.toList args.toList ds p := hA0
  rw [Tryz.params7] at hA hval
  obtain ⟨v0, vs0, d0, ds0, p0, q0, hargs, rfl, rfl, h0, r0⟩ := trodAll_cons hA
  obtain ⟨v1, vs1, d1, ds1, p1, q1, rfl, rfl, rfl, h1, r1⟩ := trodAll_cons r0
  obtain ⟨rfl, rfl, rfl⟩ := trodAll_nil r1
  obtain rfl : args = #[v0, v1] := by cases args; simp_all
  obtain ⟨rfl, rfl⟩ := trodVars_none hV
  simp only [List.append_nil] at hW'
  have hlt : ∀ x ∈ p0 ++ (p1), x.block < W.heap.size := fun x hx => by simpa using hW'.lt x hx
  have h0k := h0
  obtain ⟨x0, rfl, rfl, hp0, wx0⟩ := open_string Tryz.underlying9 (hval 0 9 v0 rfl rfl) h0
  have h1k := h1
  obtain ⟨x1, rfl, rfl, hp1, wx1⟩ := open_int Tryz.underlying59 (hval 1 59 v1 rfl rfl) h1
  clear hA0 hval0
  refine (beg_any x0 x1 W (by unfold maxLen at wx0; omega) (wf_u16 wx1) (pv_of_laid hL)).mono fun e W' ⟨he, hB⟩ => ?_
  subst he
  refine ⟨_, rfl, _, _, _, [], p0 ++ (p1 ++ []), [], hW', trodAll_mk1 (shut_bool Tryz.underlying4 _), ?_, rfl, hB.frame _, fun h => by cases h⟩
  exact trodAll_cons_mk (Below.trod Tryz.laidOut (by kernel_rfl) (of_decide_eq_true (by kernel_rfl)) h0k hB (fun x hx => hlt x (by simp [hx]))) (trodAll_cons_mk (Below.trod Tryz.laidOut (by kernel_rfl) (of_decide_eq_true (by kernel_rfl)) h1k hB (fun x hx => hlt x (by simp [hx]))) (trodAll_mk0))

theorem parserBeginnings_said : Rows.ParserBeginningsSaid :=
  OpenClaim.holds_of_wide 7 Tryz.f7 rfl rfl rfl rfl rfl rfl rfl ⟨rfl, rfl, rfl, rfl, rfl⟩ rfl rfl rfl rfl rfl (by kernel_rfl) Tryz.func7 (by kernel_rfl)
    (of_decide_eq_true (by kernel_rfl)) (by unfold Func.isWrapper; first | (rw [if_pos (by decide +kernel)]; kernel_rfl) | (rw [if_neg (by decide +kernel)]; exact ⟨rfl, rfl⟩))
    (fun os started H enc _ => parserBeginnings_lifted os started H enc)

theorem parserBeginnings_holds : Rows.ParserBeginningsCardSaid :=
  Claim7.holds_tied_plain_at .later [] [.data, .data, .data, .data, .sentinel, .sentinel, .data, .data, .pinned] true Rows.parserBeginningsCard.stood.harness true
    parserBeginnings_said (fun _ h => by cases h) (by kernel_rfl) (fun _ h => by cases h) parserBeginnings_row_tie rfl ⟨rfl, rfl⟩ (by kernel_rfl) rfl
    (fun f fn hf hfn => by
      obtain rfl : f = 7 := Option.some.inj ((show Tryz.prog.funcNamed "formfinder/formfinderlaw03.ParserBeginnings" = some 7 by kernel_rfl).symm.trans hf) |>.symm
      obtain rfl : fn = Tryz.f7 := (Option.some.inj (Tryz.func7.symm.trans hfn)).symm
      exact ⟨by kernel_rfl, fun j t ht => by
        rw [Tryz.params7] at ht
        have hm : t ∈ ([9, 59] : List Nat) := by simpa using Array.mem_of_getElem? ht
        have hall : (([9, 59] : List Nat).all fun u => !Tryz.prog.wantsStandIn u) = true := by kernel_rfl
        exact (show Tryz.prog.wantsStandIn t = false by simpa using List.all_eq_true.1 hall t hm)⟩)
    (by kernel_rfl)
#print axioms parserBeginnings_holds
end Go.Proofs.YtgleakjalhkkhaaGreatDoor
