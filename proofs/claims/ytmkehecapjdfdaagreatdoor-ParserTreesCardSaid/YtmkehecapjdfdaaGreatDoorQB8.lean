/- Joined texts: PTab, PExp, PAtt, PSkip, PBlk, PItm. -/
import Derived.Test.YtmkehecapjdfdaaGreatDoorQB3
import Derived.Test.YtmkehecapjdfdaaGreatDoorQB6
import Derived.Test.YtmkehecapjdfdaaGreatDoorQB7
import Derived.Deep.RegionLaw
import Derived.Deep.AppendLies
import Derived.Recover

/- What the tables of methods hold. -/
namespace Go.Proofs.YtmkehecapjdfdaaGreatDoor
open Go.RowKit

theorem expr_tab {E : Env} (w : Str) : (tabFind exprTab w = none ∧ ∀ x : PM T, exprOf E.ts x w = none) ∨ ∃ G, tabFind exprTab w = some G ∧ ∀ x : PM T, ∃ m, exprOf E.ts x w = some m ∧ ∀ dp, Mv 1 x → CE E dp x → CM E dp G m := by
  by_cases ckIn : w = kIn
  · refine .inr ⟨115, by subst ckIn; decide, fun x => ⟨readIn E.ts x, ?_, fun dp _ hx W s h => readIn_any hx h⟩⟩
    unfold exprOf
    rw [if_pos ckIn]
  by_cases ckLen : w = kLen
  · refine .inr ⟨116, by subst ckLen; decide, fun x => ⟨readLen E.ts, ?_, fun dp _ _ W s h => readLen_any h⟩⟩
    unfold exprOf
    rw [if_neg ckIn, if_pos ckLen]
  by_cases cpLP : w = pLP
  · refine .inr ⟨117, by subst cpLP; decide, fun x => ⟨readBin E.ts x, ?_, fun dp _ hx W s h => readBin_any hx h⟩⟩
    unfold exprOf
    rw [if_neg ckIn, if_neg ckLen, if_pos cpLP]
  by_cases cpTilde : w = pTilde
  · refine .inr ⟨118, by subst cpTilde; decide, fun x => ⟨readNot E.ts x, ?_, fun dp _ hx W s h => readNot_any hx h⟩⟩
    unfold exprOf
    rw [if_neg ckIn, if_neg ckLen, if_neg cpLP, if_pos cpTilde]
  by_cases ckSext : w = kSext
  · refine .inr ⟨119, by subst ckSext; decide, fun x => ⟨readSext E.ts x, ?_, fun dp _ hx W s h => readSext_any hx h⟩⟩
    unfold exprOf
    rw [if_neg ckIn, if_neg ckLen, if_neg cpLP, if_neg cpTilde, if_pos ckSext]
  by_cases cwNumber : w = wNumber
  · refine .inr ⟨120, by subst cwNumber; decide, fun x => ⟨readNumber E.ts, ?_, fun dp _ _ W s h => readNumber_any h⟩⟩
    unfold exprOf
    rw [if_neg ckIn, if_neg ckLen, if_neg cpLP, if_neg cpTilde, if_neg ckSext, if_pos cwNumber]
  by_cases cwName : w = wName
  · refine .inr ⟨121, by subst cwName; decide, fun x => ⟨readVariable E.ts x, ?_, fun dp mx hx W s h => readVariable_any mx hx h⟩⟩
    unfold exprOf
    rw [if_neg ckIn, if_neg ckLen, if_neg cpLP, if_neg cpTilde, if_neg ckSext, if_neg cwNumber, if_pos cwName]
  by_cases cwType : w = wType
  · refine .inr ⟨122, by subst cwType; decide, fun x => ⟨readCast E.ts x, ?_, fun dp _ hx W s h => readCast_any hx h⟩⟩
    unfold exprOf
    rw [if_neg ckIn, if_neg ckLen, if_neg cpLP, if_neg cpTilde, if_neg ckSext, if_neg cwNumber, if_neg cwName, if_pos cwType]
  refine .inl ⟨?_, fun x => ?_⟩
  · unfold exprTab
    simp only [tabFind, if_neg (Ne.symm ckIn), if_neg (Ne.symm ckLen), if_neg (Ne.symm cpLP), if_neg (Ne.symm cpTilde), if_neg (Ne.symm ckSext), if_neg (Ne.symm cwNumber), if_neg (Ne.symm cwName), if_neg (Ne.symm cwType)]
  · unfold exprOf
    rw [if_neg ckIn, if_neg ckLen, if_neg cpLP, if_neg cpTilde, if_neg ckSext, if_neg cwNumber, if_neg cwName, if_neg cwType]

theorem stmt_tab {E : Env} (w : Str) : (tabFind stmtTab w = none ∧ ∀ x y : PM T, stmtOf E.ts x y w = none) ∨ ∃ G, tabFind stmtTab w = some G ∧ ∀ x y : PM T, ∃ m, stmtOf E.ts x y w = some m ∧ ∀ dp, CE E dp x → CB E dp y → CM E dp G m := by
  by_cases ckLet : w = kLet
  · refine .inr ⟨103, by subst ckLet; decide, fun x y => ⟨readNamed E.ts x 7 kLet, ?_, fun dp hx _ W s h => readLet_any hx h⟩⟩
    unfold stmtOf
    rw [if_pos ckLet]
  by_cases ckNew : w = kNew
  · refine .inr ⟨104, by subst ckNew; decide, fun x y => ⟨readNew E.ts x, ?_, fun dp hx _ W s h => readNew_any hx h⟩⟩
    unfold stmtOf
    rw [if_neg ckLet, if_pos ckNew]
  by_cases ckMake : w = kMake
  · refine .inr ⟨105, by subst ckMake; decide, fun x y => ⟨readPair E.ts 12 kMake pColon, ?_, fun dp _ _ W s h => readMake_any h⟩⟩
    unfold stmtOf
    rw [if_neg ckLet, if_neg ckNew, if_pos ckMake]
  by_cases ckFree : w = kFree
  · refine .inr ⟨106, by subst ckFree; decide, fun x y => ⟨readFree E.ts, ?_, fun dp _ _ W s h => readFree_any h⟩⟩
    unfold stmtOf
    rw [if_neg ckLet, if_neg ckNew, if_neg ckMake, if_pos ckFree]
  by_cases ckSame : w = kSame
  · refine .inr ⟨107, by subst ckSame; decide, fun x y => ⟨readPair E.ts 14 kSame pEq, ?_, fun dp _ _ W s h => readSame_any h⟩⟩
    unfold stmtOf
    rw [if_neg ckLet, if_neg ckNew, if_neg ckMake, if_neg ckFree, if_pos ckSame]
  by_cases ckIf : w = kIf
  · refine .inr ⟨108, by subst ckIf; decide, fun x y => ⟨readIf E.ts x y, ?_, fun dp hx hy W s h => readIf_any hx hy h⟩⟩
    unfold stmtOf
    rw [if_neg ckLet, if_neg ckNew, if_neg ckMake, if_neg ckFree, if_neg ckSame, if_pos ckIf]
  by_cases ckWhile : w = kWhile
  · refine .inr ⟨109, by subst ckWhile; decide, fun x y => ⟨readWhile E.ts x y, ?_, fun dp hx hy W s h => readWhile_any hx hy h⟩⟩
    unfold stmtOf
    rw [if_neg ckLet, if_neg ckNew, if_neg ckMake, if_neg ckFree, if_neg ckSame, if_neg ckIf, if_pos ckWhile]
  by_cases ckEmit : w = kEmit
  · refine .inr ⟨110, by subst ckEmit; decide, fun x y => ⟨readNamed E.ts x 17 kEmit, ?_, fun dp hx _ W s h => readEmit_any hx h⟩⟩
    unfold stmtOf
    rw [if_neg ckLet, if_neg ckNew, if_neg ckMake, if_neg ckFree, if_neg ckSame, if_neg ckIf, if_neg ckWhile, if_pos ckEmit]
  by_cases ckAccept : w = kAccept
  · refine .inr ⟨111, by subst ckAccept; decide, fun x y => ⟨readAccept E.ts, ?_, fun dp _ _ W s h => readAccept_any h⟩⟩
    unfold stmtOf
    rw [if_neg ckLet, if_neg ckNew, if_neg ckMake, if_neg ckFree, if_neg ckSame, if_neg ckIf, if_neg ckWhile, if_neg ckEmit, if_pos ckAccept]
  by_cases ckReject : w = kReject
  · refine .inr ⟨112, by subst ckReject; decide, fun x y => ⟨readReject E.ts, ?_, fun dp _ _ W s h => readReject_any h⟩⟩
    unfold stmtOf
    rw [if_neg ckLet, if_neg ckNew, if_neg ckMake, if_neg ckFree, if_neg ckSame, if_neg ckIf, if_neg ckWhile, if_neg ckEmit, if_neg ckAccept, if_pos ckReject]
  by_cases ckReturn : w = kReturn
  · refine .inr ⟨113, by subst ckReturn; decide, fun x y => ⟨readReturn E.ts x, ?_, fun dp hx _ W s h => readReturn_any hx h⟩⟩
    unfold stmtOf
    rw [if_neg ckLet, if_neg ckNew, if_neg ckMake, if_neg ckFree, if_neg ckSame, if_neg ckIf, if_neg ckWhile, if_neg ckEmit, if_neg ckAccept, if_neg ckReject, if_pos ckReturn]
  by_cases cwName : w = wName
  · refine .inr ⟨114, by subst cwName; decide, fun x y => ⟨readAssignment E.ts x, ?_, fun dp hx _ W s h => readAssignment_any hx h⟩⟩
    unfold stmtOf
    rw [if_neg ckLet, if_neg ckNew, if_neg ckMake, if_neg ckFree, if_neg ckSame, if_neg ckIf, if_neg ckWhile, if_neg ckEmit, if_neg ckAccept, if_neg ckReject, if_neg ckReturn, if_pos cwName]
  refine .inl ⟨?_, fun x y => ?_⟩
  · unfold stmtTab
    simp only [tabFind, if_neg (Ne.symm ckLet), if_neg (Ne.symm ckNew), if_neg (Ne.symm ckMake), if_neg (Ne.symm ckFree), if_neg (Ne.symm ckSame), if_neg (Ne.symm ckIf), if_neg (Ne.symm ckWhile), if_neg (Ne.symm ckEmit), if_neg (Ne.symm ckAccept), if_neg (Ne.symm ckReject), if_neg (Ne.symm ckReturn), if_neg (Ne.symm cwName)]
  · unfold stmtOf
    rw [if_neg ckLet, if_neg ckNew, if_neg ckMake, if_neg ckFree, if_neg ckSame, if_neg ckIf, if_neg ckWhile, if_neg ckEmit, if_neg ckAccept, if_neg ckReject, if_neg ckReturn, if_neg cwName]

end Go.Proofs.YtmkehecapjdfdaaGreatDoor

/- Expressions, statements: chosen by the next word. -/
namespace Go.Proofs.YtmkehecapjdfdaaGreatDoor
open Go.RowKit

theorem bod_readIn : Bod 115 := fun _ _ => by kernel_rfl
theorem bod_readLen : Bod 116 := fun _ _ => by kernel_rfl
theorem bod_readBin : Bod 117 := fun _ _ => by kernel_rfl
theorem bod_readNot : Bod 118 := fun _ _ => by kernel_rfl
theorem bod_readSext : Bod 119 := fun _ _ => by kernel_rfl
theorem bod_readNumber : Bod 120 := fun _ _ => by kernel_rfl
theorem bod_readVariable : Bod 121 := fun _ _ => by kernel_rfl
theorem bod_readCast : Bod 122 := fun _ _ => by kernel_rfl
theorem bod_readLet : Bod 103 := fun _ _ => by kernel_rfl
theorem bod_readNew : Bod 104 := fun _ _ => by kernel_rfl
theorem bod_readMake : Bod 105 := fun _ _ => by kernel_rfl
theorem bod_readFree : Bod 106 := fun _ _ => by kernel_rfl
theorem bod_readSame : Bod 107 := fun _ _ => by kernel_rfl
theorem bod_readIf : Bod 108 := fun _ _ => by kernel_rfl
theorem bod_readWhile : Bod 109 := fun _ _ => by kernel_rfl
theorem bod_readEmit : Bod 110 := fun _ _ => by kernel_rfl
theorem bod_readAccept : Bod 111 := fun _ _ => by kernel_rfl
theorem bod_readReject : Bod 112 := fun _ _ => by kernel_rfl
theorem bod_readReturn : Bod 113 := fun _ _ => by kernel_rfl
theorem bod_readAssignment : Bod 114 := fun _ _ => by kernel_rfl
theorem bod_readStruct : Bod 100 := fun _ _ => by kernel_rfl
theorem bod_readFunc : Bod 101 := fun _ _ => by kernel_rfl
theorem bod_readParse : Bod 102 := fun _ _ => by kernel_rfl
theorem bod_readBlock : Bod 186 := fun _ _ => by kernel_rfl
theorem bod_statement : Bod 203 := fun _ _ => by kernel_rfl
theorem bod_item : Bod 62 := fun _ _ => by kernel_rfl
theorem bod_program : Bod 33 := fun _ _ => by kernel_rfl
theorem tabFind_mem : ∀ (l : List (Str × Nat)) (w : Str) (G : Nat), tabFind l w = some G → ∃ a, (a, G) ∈ l
  | [], _, _, h => by cases h
  | (a, f) :: r, w, G, h => by
    unfold tabFind at h
    by_cases e : a = w
    · rw [if_pos e] at h
      cases h
      exact ⟨a, List.mem_cons_self⟩
    · rw [if_neg e] at h
      obtain ⟨b, hb⟩ := tabFind_mem r w G h
      exact ⟨b, List.mem_cons_of_mem _ hb⟩
theorem bod_exprTab {w : Str} {G : Nat} (h : tabFind exprTab w = some G) : Bod G := by
  obtain ⟨a, ha⟩ := tabFind_mem _ _ _ h
  unfold exprTab at ha
  simp only [List.mem_cons, Prod.mk.injEq, List.not_mem_nil, or_false] at ha
  rcases ha with ⟨_, rfl⟩ | ⟨_, rfl⟩ | ⟨_, rfl⟩ | ⟨_, rfl⟩ | ⟨_, rfl⟩ | ⟨_, rfl⟩ | ⟨_, rfl⟩ | ⟨_, rfl⟩
  · exact bod_readIn
  · exact bod_readLen
  · exact bod_readBin
  · exact bod_readNot
  · exact bod_readSext
  · exact bod_readNumber
  · exact bod_readVariable
  · exact bod_readCast
theorem bod_stmtTab {w : Str} {G : Nat} (h : tabFind stmtTab w = some G) : Bod G := by
  obtain ⟨a, ha⟩ := tabFind_mem _ _ _ h
  unfold stmtTab at ha
  simp only [List.mem_cons, Prod.mk.injEq, List.not_mem_nil, or_false] at ha
  rcases ha with ⟨_, rfl⟩ | ⟨_, rfl⟩ | ⟨_, rfl⟩ | ⟨_, rfl⟩ | ⟨_, rfl⟩ | ⟨_, rfl⟩ | ⟨_, rfl⟩ | ⟨_, rfl⟩ | ⟨_, rfl⟩ | ⟨_, rfl⟩ | ⟨_, rfl⟩ | ⟨_, rfl⟩
  · exact bod_readLet
  · exact bod_readNew
  · exact bod_readMake
  · exact bod_readFree
  · exact bod_readSame
  · exact bod_readIf
  · exact bod_readWhile
  · exact bod_readEmit
  · exact bod_readAccept
  · exact bod_readReject
  · exact bod_readReturn
  · exact bod_readAssignment
theorem bod_itemTab {w : Str} {G : Nat} (h : tabFind itemTab w = some G) : Bod G := by
  obtain ⟨a, ha⟩ := tabFind_mem _ _ _ h
  unfold itemTab at ha
  simp only [List.mem_cons, Prod.mk.injEq, List.not_mem_nil, or_false] at ha
  rcases ha with ⟨_, rfl⟩ | ⟨_, rfl⟩ | ⟨_, rfl⟩
  · exact bod_readStruct
  · exact bod_readFunc
  · exact bod_readParse
theorem choose_ok {ts : List PTok} {tab : List (Str × Nat)} {s s1 : St} {G : Nat} (h : choose ts tab s = .ok G s1) : tabFind tab (wd ts s.nx) = some G ∧ s1 = s := by
  unfold choose at h
  cases ht : tabFind tab (wd ts s.nx) with
  | none => rw [ht] at h; cases h
  | some f => rw [ht] at h; cases h; exact ⟨rfl, rfl⟩
theorem choose_none {ts : List PTok} {tab : List (Str × Nat)} {s : St} {k : Nat → PM T} (h : tabFind tab (wd ts s.nx) = none) : bnd (choose ts tab) k s = fail ts 10 s := by
  unfold bnd choose
  rw [h]
  rfl
theorem choose_some {ts : List PTok} {tab : List (Str × Nat)} {s : St} {k : Nat → PM T} {G : Nat} (h : tabFind tab (wd ts s.nx) = some G) : bnd (choose ts tab) k s = k G s := by
  unfold bnd choose
  rw [h]

set_option maxRecDepth 100000 in
set_option maxHeartbeats 1600000 in
theorem expression_walk {E : Env} {W : World} {dp : Nat} {s : St} {mm : Nat → PM T} (hS : ∀ G, tabFind exprTab (wd E.ts s.nx) = some G → Bod G ∧ (dp < 10 → CM E (dp + 1) G (mm G))) (h : RS E 20 W dp s) :
    Calls Tryz.prog 161 #[.pointer (some ⟨E.r, 0, none⟩)] W (PostR E W dp (RNodeX W.heap.size) (bnd (choose E.ts exprTab) (fun G => nestedM E.ts dp (mm G)) s)) := by
  have A0 := At.start h
  obtain ⟨M, hM⟩ : ∃ M, M = bnd (choose E.ts exprTab) (fun G => nestedM E.ts dp (mm G)) s := ⟨_, rfl⟩
  have HQ0 : Hid (M = bnd (choose E.ts exprTab) (fun G => nestedM E.ts dp (mm G)) s) := Lib.hid hM
  rw [← hM]
  clear hM
  have hb1 := A0.size
  have B2 := Box.new (W) 25 #[Value.int IntKind.i64 0, Value.string { data := #[] }, Value.string { data := #[] }, Value.int IntKind.u64 0, Value.int IntKind.i64 0, Value.int IntKind.i64 0, Value.slice none 0 0]
  have A3 := A0.alloc (Obj.cells #[Value.int IntKind.i64 0, Value.string { data := #[] }, Value.string { data := #[] }, Value.int IntKind.u64 0, Value.int IntKind.i64 0, Value.int IntKind.i64 0, Value.slice none 0 0] 25)
  have sz4 : (W.alloc (Obj.cells #[Value.int IntKind.i64 0, Value.string { data := #[] }, Value.string { data := #[] }, Value.int IntKind.u64 0, Value.int IntKind.i64 0, Value.int IntKind.i64 0, Value.slice none 0 0] 25)).heap.size = W.heap.size + 1 := by simp
  obtain ⟨dv, r0, r1, r2, r3, r4, r5, r6, r7, rf, _⟩ := A3.rs.cells
  go_enter Tryz.func161, Tryz.ntmps161
  go_wp2_with fail
  refine (choose_any (tab := exprTab) A3.rs.fix.me A3.rs).mono ?_
  intro e w1 H
  rcases H.cases with ⟨G, s1, v, hm5, rfl, rfl, R, K⟩ | ⟨l, s', ch, hm, rfl, H1⟩
  rotate_left 1
  · exact ⟨rfl, A3.out HQ0 hm H1⟩
  have A6 := A3.call R K
  have HQ7 := hq_ok HQ0 hm5
  have B8 : Box w1 (W.heap.size) 25 #[Value.int IntKind.i64 0, Value.string { data := #[] }, Value.string { data := #[] }, Value.int IntKind.u64 0, Value.int IntKind.i64 0, Value.int IntKind.i64 0, Value.slice none 0 0] := B2.kept K (by decide)
  have sz9 := K.size
  obtain ⟨ht, rfl⟩ := choose_ok hm5
  obtain ⟨hG, hm0⟩ := hS _ ht
  clear hS ht r0 r1 r2 r3 r4 r5 r6 r7 rf
  clear HQ0 hm5 H R K
  have HV := hq_ret HQ7
  go_wp2_with fail
  refine (nested_any hG hm0 A6.rs).mono ?_
  intro e w2 H
  rcases H.cases with ⟨t, s2, v, hm10, rfl, ⟨KA, KC, rfl, nd⟩, R, K⟩ | ⟨l, s', ch, hm, rfl, H1⟩
  rotate_left 1
  · exact ⟨rfl, A6.out HV hm H1⟩
  have A11 := A6.call R K
  have HQ12 := hq_ok HV hm10
  have B13 : Box w2 (W.heap.size) 25 #[Value.int IntKind.i64 0, Value.string { data := #[] }, Value.string { data := #[] }, Value.int IntKind.u64 0, Value.int IntKind.i64 0, Value.int IntKind.i64 0, Value.slice none 0 0] := B8.kept K (by decide)
  have sz14 := K.size
  clear HV hm10 H R K
  have c15 : w2.cell? ⟨W.heap.size, 0, none⟩ = some (Value.int IntKind.i64 0) := B13.cell 0
  have c16 : w2.cell? ⟨W.heap.size, 1, none⟩ = some (Value.string { data := #[] }) := B13.cell 1
  have c17 : w2.cell? ⟨W.heap.size, 2, none⟩ = some (Value.string { data := #[] }) := B13.cell 2
  have c18 : w2.cell? ⟨W.heap.size, 3, none⟩ = some (Value.int IntKind.u64 0) := B13.cell 3
  have c19 : w2.cell? ⟨W.heap.size, 4, none⟩ = some (Value.int IntKind.i64 0) := B13.cell 4
  have c20 : w2.cell? ⟨W.heap.size, 5, none⟩ = some (Value.int IntKind.i64 0) := B13.cell 5
  have c21 : w2.cell? ⟨W.heap.size, 6, none⟩ = some (Value.slice none 0 0) := B13.cell 6
  have fz22 := B13.free
  go_wp2
  refine bodyPost_ret (v := .agg #[Value.int IntKind.i64 (t).kind, Value.string { data := (t).name.toArray }, Value.string { data := (t).part.toArray }, Value.int IntKind.u64 (t).num, Value.int IntKind.i64 (t).wid, Value.int IntKind.i64 (t).at_, Value.slice KA t.kids.length KC]) ?_ rfl ?_
  · simp [results, Tryz.results161, go_sem, c15, c16, c17, c18, c19, c20, c21]
  · exact (A11.fill B13 (Nat.le_refl _) _ _ _ _ _ _ _).ok HQ12 ⟨_, _, rfl, nodeAt_le (M := w1.heap.size) (by omega) (nodeAt_fill (M := w1.heap.size) (by omega) _ _ _ _ _ _ _ nd)⟩

set_option maxRecDepth 100000 in
set_option maxHeartbeats 1600000 in
theorem statement_walk {E : Env} {W : World} {dp : Nat} {s : St} {mm : Nat → PM T} (hS : ∀ G, tabFind stmtTab (wd E.ts s.nx) = some G → Bod G ∧ CM E dp G (mm G)) (h : RS E 20 W dp s) :
    Calls Tryz.prog 203 #[.pointer (some ⟨E.r, 0, none⟩)] W (PostR E W dp (RNodeX W.heap.size) (bnd (choose E.ts stmtTab) (fun G => mm G) s)) := by
  have A0 := At.start h
  obtain ⟨M, hM⟩ : ∃ M, M = bnd (choose E.ts stmtTab) (fun G => mm G) s := ⟨_, rfl⟩
  have HQ0 : Hid (M = bnd (choose E.ts stmtTab) (fun G => mm G) s) := Lib.hid hM
  rw [← hM]
  clear hM
  have hb1 := A0.size
  have B2 := Box.new (W) 25 #[Value.int IntKind.i64 0, Value.string { data := #[] }, Value.string { data := #[] }, Value.int IntKind.u64 0, Value.int IntKind.i64 0, Value.int IntKind.i64 0, Value.slice none 0 0]
  have A3 := A0.alloc (Obj.cells #[Value.int IntKind.i64 0, Value.string { data := #[] }, Value.string { data := #[] }, Value.int IntKind.u64 0, Value.int IntKind.i64 0, Value.int IntKind.i64 0, Value.slice none 0 0] 25)
  have sz4 : (W.alloc (Obj.cells #[Value.int IntKind.i64 0, Value.string { data := #[] }, Value.string { data := #[] }, Value.int IntKind.u64 0, Value.int IntKind.i64 0, Value.int IntKind.i64 0, Value.slice none 0 0] 25)).heap.size = W.heap.size + 1 := by simp
  obtain ⟨dv, r0, r1, r2, r3, r4, r5, r6, r7, rf, _⟩ := A3.rs.cells
  go_enter Tryz.func203, Tryz.ntmps203
  go_wp2_with fail
  refine (choose_any (tab := stmtTab) A3.rs.fix.ms A3.rs).mono ?_
  intro e w1 H
  rcases H.cases with ⟨G, s1, v, hm5, rfl, rfl, R, K⟩ | ⟨l, s', ch, hm, rfl, H1⟩
  rotate_left 1
  · exact ⟨rfl, A3.out HQ0 hm H1⟩
  have A6 := A3.call R K
  have HQ7 := hq_ok HQ0 hm5
  have B8 : Box w1 (W.heap.size) 25 #[Value.int IntKind.i64 0, Value.string { data := #[] }, Value.string { data := #[] }, Value.int IntKind.u64 0, Value.int IntKind.i64 0, Value.int IntKind.i64 0, Value.slice none 0 0] := B2.kept K (by decide)
  have sz9 := K.size
  obtain ⟨ht, rfl⟩ := choose_ok hm5
  obtain ⟨hG, hc⟩ := hS _ ht
  have hbd := fun args w => hG args w
  clear hS ht hG r0 r1 r2 r3 r4 r5 r6 r7 rf
  clear HQ0 hm5 H R K
  have HV := hq_ret HQ7
  go_wp2_with fail
  refine (hc _ _ A6.rs).mono ?_
  intro e w2 H
  rcases H.cases with ⟨t, s2, v, hm10, rfl, ⟨KA, KC, rfl, nd⟩, R, K⟩ | ⟨l, s', ch, hm, rfl, H1⟩
  rotate_left 1
  · exact ⟨rfl, A6.out HV hm H1⟩
  have A11 := A6.call R K
  have HQ12 := hq_ok HV hm10
  have B13 : Box w2 (W.heap.size) 25 #[Value.int IntKind.i64 0, Value.string { data := #[] }, Value.string { data := #[] }, Value.int IntKind.u64 0, Value.int IntKind.i64 0, Value.int IntKind.i64 0, Value.slice none 0 0] := B8.kept K (by decide)
  have sz14 := K.size
  clear HV hm10 H R K
  have c15 : w2.cell? ⟨W.heap.size, 0, none⟩ = some (Value.int IntKind.i64 0) := B13.cell 0
  have c16 : w2.cell? ⟨W.heap.size, 1, none⟩ = some (Value.string { data := #[] }) := B13.cell 1
  have c17 : w2.cell? ⟨W.heap.size, 2, none⟩ = some (Value.string { data := #[] }) := B13.cell 2
  have c18 : w2.cell? ⟨W.heap.size, 3, none⟩ = some (Value.int IntKind.u64 0) := B13.cell 3
  have c19 : w2.cell? ⟨W.heap.size, 4, none⟩ = some (Value.int IntKind.i64 0) := B13.cell 4
  have c20 : w2.cell? ⟨W.heap.size, 5, none⟩ = some (Value.int IntKind.i64 0) := B13.cell 5
  have c21 : w2.cell? ⟨W.heap.size, 6, none⟩ = some (Value.slice none 0 0) := B13.cell 6
  have fz22 := B13.free
  go_wp2
  refine bodyPost_ret (v := .agg #[Value.int IntKind.i64 (t).kind, Value.string { data := (t).name.toArray }, Value.string { data := (t).part.toArray }, Value.int IntKind.u64 (t).num, Value.int IntKind.i64 (t).wid, Value.int IntKind.i64 (t).at_, Value.slice KA t.kids.length KC]) ?_ rfl ?_
  · simp [results, Tryz.results203, go_sem, c15, c16, c17, c18, c19, c20, c21]
  · exact (A11.fill B13 (Nat.le_refl _) _ _ _ _ _ _ _).ok HQ12 ⟨_, _, rfl, nodeAt_le (M := w1.heap.size) (by omega) (nodeAt_fill (M := w1.heap.size) (by omega) _ _ _ _ _ _ _ nd)⟩

set_option maxRecDepth 100000 in
set_option maxHeartbeats 1600000 in
theorem item_walk {E : Env} {W : World} {dp : Nat} {s : St} {mm : Nat → PM T} (hS : ∀ G, tabFind itemTab (wd E.ts s.nx) = some G → Bod G ∧ CM E dp G (mm G)) (h : RS E 20 W dp s) :
    Calls Tryz.prog 62 #[.pointer (some ⟨E.r, 0, none⟩)] W (PostR E W dp (RNodeX W.heap.size) (bnd (choose E.ts itemTab) (fun G => mm G) s)) := by
  have A0 := At.start h
  obtain ⟨M, hM⟩ : ∃ M, M = bnd (choose E.ts itemTab) (fun G => mm G) s := ⟨_, rfl⟩
  have HQ0 : Hid (M = bnd (choose E.ts itemTab) (fun G => mm G) s) := Lib.hid hM
  rw [← hM]
  clear hM
  have hb1 := A0.size
  have B2 := Box.new (W) 25 #[Value.int IntKind.i64 0, Value.string { data := #[] }, Value.string { data := #[] }, Value.int IntKind.u64 0, Value.int IntKind.i64 0, Value.int IntKind.i64 0, Value.slice none 0 0]
  have A3 := A0.alloc (Obj.cells #[Value.int IntKind.i64 0, Value.string { data := #[] }, Value.string { data := #[] }, Value.int IntKind.u64 0, Value.int IntKind.i64 0, Value.int IntKind.i64 0, Value.slice none 0 0] 25)
  have sz4 : (W.alloc (Obj.cells #[Value.int IntKind.i64 0, Value.string { data := #[] }, Value.string { data := #[] }, Value.int IntKind.u64 0, Value.int IntKind.i64 0, Value.int IntKind.i64 0, Value.slice none 0 0] 25)).heap.size = W.heap.size + 1 := by simp
  obtain ⟨dv, r0, r1, r2, r3, r4, r5, r6, r7, rf, _⟩ := A3.rs.cells
  go_enter Tryz.func62, Tryz.ntmps62
  go_wp2_with fail
  refine (choose_any (tab := itemTab) A3.rs.fix.mi A3.rs).mono ?_
  intro e w1 H
  rcases H.cases with ⟨G, s1, v, hm5, rfl, rfl, R, K⟩ | ⟨l, s', ch, hm, rfl, H1⟩
  rotate_left 1
  · exact ⟨rfl, A3.out HQ0 hm H1⟩
  have A6 := A3.call R K
  have HQ7 := hq_ok HQ0 hm5
  have B8 : Box w1 (W.heap.size) 25 #[Value.int IntKind.i64 0, Value.string { data := #[] }, Value.string { data := #[] }, Value.int IntKind.u64 0, Value.int IntKind.i64 0, Value.int IntKind.i64 0, Value.slice none 0 0] := B2.kept K (by decide)
  have sz9 := K.size
  obtain ⟨ht, rfl⟩ := choose_ok hm5
  obtain ⟨hG, hc⟩ := hS _ ht
  have hbd := fun args w => hG args w
  clear hS ht hG r0 r1 r2 r3 r4 r5 r6 r7 rf
  clear HQ0 hm5 H R K
  have HV := hq_ret HQ7
  go_wp2_with fail
  refine (hc _ _ A6.rs).mono ?_
  intro e w2 H
  rcases H.cases with ⟨t, s2, v, hm10, rfl, ⟨KA, KC, rfl, nd⟩, R, K⟩ | ⟨l, s', ch, hm, rfl, H1⟩
  rotate_left 1
  · exact ⟨rfl, A6.out HV hm H1⟩
  have A11 := A6.call R K
  have HQ12 := hq_ok HV hm10
  have B13 : Box w2 (W.heap.size) 25 #[Value.int IntKind.i64 0, Value.string { data := #[] }, Value.string { data := #[] }, Value.int IntKind.u64 0, Value.int IntKind.i64 0, Value.int IntKind.i64 0, Value.slice none 0 0] := B8.kept K (by decide)
  have sz14 := K.size
  clear HV hm10 H R K
  have c15 : w2.cell? ⟨W.heap.size, 0, none⟩ = some (Value.int IntKind.i64 0) := B13.cell 0
  have c16 : w2.cell? ⟨W.heap.size, 1, none⟩ = some (Value.string { data := #[] }) := B13.cell 1
  have c17 : w2.cell? ⟨W.heap.size, 2, none⟩ = some (Value.string { data := #[] }) := B13.cell 2
  have c18 : w2.cell? ⟨W.heap.size, 3, none⟩ = some (Value.int IntKind.u64 0) := B13.cell 3
  have c19 : w2.cell? ⟨W.heap.size, 4, none⟩ = some (Value.int IntKind.i64 0) := B13.cell 4
  have c20 : w2.cell? ⟨W.heap.size, 5, none⟩ = some (Value.int IntKind.i64 0) := B13.cell 5
  have c21 : w2.cell? ⟨W.heap.size, 6, none⟩ = some (Value.slice none 0 0) := B13.cell 6
  have fz22 := B13.free
  go_wp2
  refine bodyPost_ret (v := .agg #[Value.int IntKind.i64 (t).kind, Value.string { data := (t).name.toArray }, Value.string { data := (t).part.toArray }, Value.int IntKind.u64 (t).num, Value.int IntKind.i64 (t).wid, Value.int IntKind.i64 (t).at_, Value.slice KA t.kids.length KC]) ?_ rfl ?_
  · simp [results, Tryz.results62, go_sem, c15, c16, c17, c18, c19, c20, c21]
  · exact (A11.fill B13 (Nat.le_refl _) _ _ _ _ _ _ _).ok HQ12 ⟨_, _, rfl, nodeAt_le (M := w1.heap.size) (by omega) (nodeAt_fill (M := w1.heap.size) (by omega) _ _ _ _ _ _ _ nd)⟩

theorem CE_all {E : Env} : ∀ (f dp : Nat), dp + f = 10 → CE E dp (expression E.ts f)
  | 0, dp, h10 => by
    intro w s h
    have hd : dp = 10 := by omega
    have := expression_walk (mm := fun _ => fail E.ts 10) (fun G hG => ⟨bod_exprTab hG, fun hlt => by omega⟩) h
    refine this.mono ?_
    intro e w' H
    have he : expression E.ts 0 s = bnd (choose E.ts exprTab) (fun _ => nestedM E.ts dp (fail E.ts 10)) s := by
      rcases expr_tab (E := E) (wd E.ts s.nx) with ⟨h1, h2⟩ | ⟨G, h1, h2⟩
      · rw [choose_none h1]
        unfold expression
        rw [h2]
      · rw [choose_some h1]
        obtain ⟨m, hm, _⟩ := h2 (fail E.ts 11)
        unfold expression nestedM
        rw [hm, if_pos hd]
    rw [he]
    exact H
  | f + 1, dp, h10 => by
    intro w s h
    have ih := CE_all (E := E) f (dp + 1) (by omega)
    rcases expr_tab (E := E) (wd E.ts s.nx) with ⟨h1, h2⟩ | ⟨G, h1, h2⟩
    · refine (expression_walk (mm := fun _ => fail E.ts 10) (fun G hG => by rw [h1] at hG; cases hG) h).mono ?_
      intro e w' H
      have he : expression E.ts (f + 1) s = bnd (choose E.ts exprTab) (fun _ => nestedM E.ts dp (fail E.ts 10)) s := by
        rw [choose_none h1]
        unfold expression
        rw [h2]
      rw [he]
      exact H
    · obtain ⟨m, hm, hc⟩ := h2 (expression E.ts f)
      have hcm := hc (dp + 1) (mv_expression E.ts f) ih
      refine (expression_walk (mm := fun _ => m) (fun G' hG => by rw [h1] at hG; cases hG; exact ⟨bod_exprTab h1, fun _ => hcm⟩) h).mono ?_
      intro e w' H
      have he : expression E.ts (f + 1) s = bnd (choose E.ts exprTab) (fun _ => nestedM E.ts dp m) s := by
        rw [choose_some h1]
        unfold nestedM
        have hd : ¬ dp = 10 := by omega
        rw [if_neg hd]
        unfold expression
        rw [hm]
      rw [he]
      exact H
theorem CM_statement {E : Env} {dp : Nat} {x y : PM T} (hx : CE E dp x) (hy : CB E dp y) : CM E dp 203 (statement E.ts x y) := by
  intro w s h
  rcases stmt_tab (E := E) (wd E.ts s.nx) with ⟨h1, h2⟩ | ⟨G, h1, h2⟩
  · refine (statement_walk (mm := fun _ => fail E.ts 10) (fun G hG => by rw [h1] at hG; cases hG) h).mono ?_
    intro e w' H
    have he : statement E.ts x y s = bnd (choose E.ts stmtTab) (fun _ => fail E.ts 10) s := by
      rw [choose_none h1]
      unfold statement
      rw [h2]
    rw [he]
    exact H
  · obtain ⟨m, hm, hc⟩ := h2 x y
    have hcm := hc dp hx hy
    refine (statement_walk (mm := fun _ => m) (fun G' hG => by rw [h1] at hG; cases hG; exact ⟨bod_stmtTab h1, hcm⟩) h).mono ?_
    intro e w' H
    have he : statement E.ts x y s = bnd (choose E.ts stmtTab) (fun _ => m) s := by
      rw [choose_some h1]
      unfold statement
      rw [hm]
    rw [he]
    exact H
end Go.Proofs.YtmkehecapjdfdaaGreatDoor

/- A part is read; a leaving of it may end here. -/
namespace Go.Proofs.YtmkehecapjdfdaaGreatDoor
open Go.RowKit

theorem RS.updN {E : Env} {N : Nat} {W X : World} {dp nx' dp' : Nat} {s : St} {dv : Value} {cs : Array Value} (h : RS E N W dp s) (hc : W.cell? ⟨E.r, 3, none⟩ = some dv) (hn : nx' < E.ts.length) (hd : dp' ≤ 10)
    (hu : Upd W X E.r cs) (he : cs = rdCells E nx' dp' dv) : RS E N X dp' ⟨nx', s.ds⟩ ∧ Kept E.base W X :=
  h.set nx' dp' hn hd (fun dv' h' => by
    have e : dv' = dv := by unfold World.cell? at hc; rw [h'] at hc; simpa [rdCells] using hc
    rw [e, ← he]; exact hu.blk) hu.grown

theorem asLV (v : Value) (w : World) : (Instr.typeAssert (.iface LV v) 20 75 true).run Tryz.prog w = .ok (.tuple #[v, .bool true]) w := by kernel_rfl
set_option maxRecDepth 100000 in
set_option maxHeartbeats 800000 in
theorem catch_in (l most dp : Nat) (hl : l ≤ most) (pm pd pr : Addr) (r : Nat) (older : List PanicEntry) (w : World)
    (cm : w.cell? pm = some (.int .i64 most)) (cd : w.cell? pd = some (.int .i64 dp)) (cr : w.cell? pr = some (.pointer (some ⟨r, 0, none⟩))) (x : Value) (c2 : w.cell? ⟨r, 2, none⟩ = some x) (fz : w.frozen? ⟨r, 2, none⟩ = false) :
    CallsD Tryz.prog 60 #[.pointer (some pm), .pointer (some pd), .pointer (some pr)] (.panicking ({ v := .iface LV (.int .i64 l), recovered := false } :: older)) w fun e u' w' =>
      e = .returned (.tuple #[]) ∧ u' = .panicking ({ v := .iface LV (.int .i64 l), recovered := true } :: older) ∧ w' = w.setCell ⟨r, 2, none⟩ (.int .i64 dp) := by
  refine callsD_of_wpS Tryz.func60 rfl fun c₀ cs hu => ?_
  apply wpS_seq
  apply wpS_region
  simp [wpOpsS, go_sem, recoverD, hu, Tryz.ntmps60, Exit.thenS]
  rw [show (#[Value.pointer (some pm), Value.pointer (some pd), Value.pointer (some pr)] ++ ((Array.replicate 23 undef).setIfInBounds 3 (Value.iface LV (Value.int IntKind.i64 ↑l))).setIfInBounds 0 (Value.iface LV (Value.int IntKind.i64 ↑l))) = #[Value.pointer (some pm), Value.pointer (some pd), Value.pointer (some pr), Value.iface LV (Value.int IntKind.i64 ↑l), undef, undef, Value.iface LV (Value.int IntKind.i64 ↑l), undef, undef, undef, undef, undef, undef, undef, undef, undef, undef, undef, undef, undef, undef, undef, undef, undef, undef, undef] from by kernel_rfl]
  refine wpS_of_wp ?_
  have hle : ¬ ((most : Int) < (l : Int)) := by omega
  have has := asLV
  go_wp2
  simp [bodyPostS, results, Tryz.results60]
set_option maxRecDepth 100000 in
set_option maxHeartbeats 800000 in
theorem catch_re (l most : Nat) (hl : most < l) (pm pd pr : Addr) (older : List PanicEntry) (w : World)
    (cm : w.cell? pm = some (.int .i64 most)) :
    CallsD Tryz.prog 60 #[.pointer (some pm), .pointer (some pd), .pointer (some pr)] (.panicking ({ v := .iface LV (.int .i64 l), recovered := false } :: older)) w fun e u' w' =>
      e = .panicked [{ v := .iface LV (.int .i64 l), recovered := false }] ∧ u' = .panicking ({ v := .iface LV (.int .i64 l), recovered := true } :: older) ∧ w' = w := by
  refine callsD_of_wpS Tryz.func60 rfl fun c₀ cs hu => ?_
  apply wpS_seq
  apply wpS_region
  simp [wpOpsS, go_sem, recoverD, hu, Tryz.ntmps60, Exit.thenS]
  rw [show (#[Value.pointer (some pm), Value.pointer (some pd), Value.pointer (some pr)] ++ ((Array.replicate 23 undef).setIfInBounds 3 (Value.iface LV (Value.int IntKind.i64 ↑l))).setIfInBounds 0 (Value.iface LV (Value.int IntKind.i64 ↑l))) = #[Value.pointer (some pm), Value.pointer (some pd), Value.pointer (some pr), Value.iface LV (Value.int IntKind.i64 ↑l), undef, undef, Value.iface LV (Value.int IntKind.i64 ↑l), undef, undef, undef, undef, undef, undef, undef, undef, undef, undef, undef, undef, undef, undef, undef, undef, undef, undef, undef] from by kernel_rfl]
  refine wpS_of_wp ?_
  have hle : ((most : Int) < (l : Int)) := by omega
  have has := asLV
  go_wp2
  simp [bodyPostS]
set_option maxRecDepth 100000 in
set_option maxHeartbeats 800000 in
theorem catch_idle (a b c : Value) (w : World) :
    CallsD Tryz.prog 60 #[a, b, c] .returning w fun e u' w' => e = .returned (.tuple #[]) ∧ u' = .returning ∧ w' = w := by
  refine callsD_of_wpS Tryz.func60 rfl fun c₀ cs hu => ?_
  apply wpS_seq
  apply wpS_region
  simp [wpOpsS, go_sem, recoverD, hu, Tryz.ntmps60, Exit.thenS]
  rw [show (#[a, b, c] ++ ((Array.replicate 23 undef).setIfInBounds 3 Value.nilIface).setIfInBounds 0 Value.nilIface) = #[a, b, c, Value.nilIface, undef, undef, Value.nilIface, undef, undef, undef, undef, undef, undef, undef, undef, undef, undef, undef, undef, undef, undef, undef, undef, undef, undef, undef] from by kernel_rfl]
  refine wpS_of_wp ?_
  go_wp2
  cases c₀
  simp_all [bodyPostS, results, Tryz.results60]
/-- What an attempt leaves. -/
def PostT (E : Env) (W : World) (dp most : Nat) (J : World → St → Prop) : Res T → Ending → World → Prop
  | .ok t s', e, w' => ∃ A c, e = .returned (.tuple #[.agg #[Value.int IntKind.i64 (t).kind, Value.string { data := (t).name.toArray }, Value.string { data := (t).part.toArray }, Value.int IntKind.u64 (t).num, Value.int IntKind.i64 (t).wid, Value.int IntKind.i64 (t).at_, Value.slice A t.kids.length c], .bool true]) ∧ nodeAt w' (fun g => W.heap.size ≤ g) t (.slice A t.kids.length c) ∧ J w' s' ∧ Kept E.base W w'
  | .out l s', e, w' => if l ≤ most then e = .returned (.tuple #[.agg #[Value.int IntKind.i64 0, Value.string { data := #[] }, Value.string { data := #[] }, Value.int IntKind.u64 0, Value.int IntKind.i64 0, Value.int IntKind.i64 0, Value.slice none 0 0], .bool false]) ∧ (l < 2 → s'.ds.length < 20) ∧ RS E 21 w' dp s' ∧ Kept E.base W w'
    else ∃ c dp', e = .panicked ({ v := .iface LV (.int .i64 l), recovered := false } :: c) ∧ Few l s' c ∧ RS E 21 w' dp' s' ∧ Kept E.base W w'
/-- What a call leaves, with what holds of the reader at its end left open. -/
def PostJ {α : Type} (E : Env) (w : World) (J : World → St → Prop) (R : World → α → Value → Prop) : Res α → Ending → World → Prop
  | .ok a s', e, w' => ∃ v, e = .returned v ∧ R w' a v ∧ J w' s' ∧ Kept E.base w w'
  | .out l s', e, w' => ∃ ch dp', e = .panicked ({ v := .iface LV (.int .i64 l), recovered := false } :: ch) ∧ Few l s' ch ∧ RS E 21 w' dp' s' ∧ Kept E.base w w'
theorem PostJ.cases {α : Type} {E : Env} {X : World} {J : World → St → Prop} {R : World → α → Value → Prop} {x : Res α} {e : Ending} {Y : World} (h : PostJ E X J R x e Y) :
    (∃ a s' v, x = .ok a s' ∧ e = .returned v ∧ R Y a v ∧ J Y s' ∧ Kept E.base X Y) ∨ (∃ l s' ch, x = .out l s' ∧ e = .panicked ch ∧ Up E X l s' ch Y) := by
  cases x with
  | ok a s' => obtain ⟨v, h1, h2, h3, h4⟩ := h; exact Or.inl ⟨a, s', v, rfl, h1, h2, h3, h4⟩
  | out l s' => obtain ⟨c, dp', h1, h2, h3, h4⟩ := h; exact Or.inr ⟨l, s', _, rfl, h1, c, dp', rfl, h2, h3, h4⟩
theorem ntc_fill {X : World} {b : Nat} {cs : Array Value} (hb : Box X b NT cs) (a0 a1 a2 a3 a4 a5 a6 : Value) : NTc X (fill7 X b a0 a1 a2 a3 a4 a5 a6) :=
  (NTc.set hb 0 a0).trans ((NTc.set (hb.set 0 a0) 1 a1).trans ((NTc.set ((hb.set 0 a0).set 1 a1) 2 a2).trans ((NTc.set (((hb.set 0 a0).set 1 a1).set 2 a2) 3 a3).trans ((NTc.set ((((hb.set 0 a0).set 1 a1).set 2 a2).set 3 a3) 4 a4).trans ((NTc.set (((((hb.set 0 a0).set 1 a1).set 2 a2).set 3 a3).set 4 a4) 5 a5).trans (NTc.set ((((((hb.set 0 a0).set 1 a1).set 2 a2).set 3 a3).set 4 a4).set 5 a5) 6 a6))))))
theorem below_fill {X : World} {b B : Nat} (hB : B ≤ b) (a0 a1 a2 a3 a4 a5 a6 : Value) : Below B X (fill7 X b a0 a1 a2 a3 a4 a5 a6) :=
  (((((((Below.refl _ _).setCell hB _).setCell hB _).setCell hB _).setCell hB _).setCell hB _).setCell hB _).setCell hB _
theorem Box.newAt {X : World} {n : Nat} (h : X.heap.size = n) (T : TypeId) (cs : Array Value) : Box (X.alloc (.cells cs T)) n T cs := by subst h; exact Box.new X T cs
theorem settle_few {v : Value} {c : List PanicEntry} (h : ∀ x ∈ c, x.goexit = false) : settle (.panicking ({ v := v, recovered := true } :: c)) = .returning := by
  unfold settle
  have : ∀ l : List PanicEntry, (∀ x ∈ l, x.goexit = false) → l.dropWhile (fun x => !x.goexit) = [] := by
    intro l
    induction l with
    | nil => intro _; rfl
    | cons a r ih =>
      intro hl
      rw [List.dropWhile_cons, if_pos (by rw [hl a List.mem_cons_self]; rfl)]
      exact ih fun x hx => hl x (List.mem_cons_of_mem _ hx)
  simp [this c h]
set_option maxRecDepth 100000 in
set_option maxHeartbeats 1600000 in
theorem attempt_gen {E : Env} {W : World} {dp : Nat} {s : St} {G : Nat} {m : PM T} {J : World → St → Prop} (hJ : ∀ X Y s', J X s' → NTc X Y → J Y s') (most : Nat) (hG : Bod G)
    (hc : ∀ (w : World) (s : St), RS E 20 w dp s → Calls Tryz.prog G #[.pointer (some ⟨E.r, 0, none⟩)] w (PostJ E w J (RNodeX w.heap.size) (m s))) (h : RS E 20 W dp s) :
    Calls Tryz.prog 32 #[.pointer (some ⟨E.r, 0, none⟩), .func (.func G) #[] #[], .int .i64 most] W (PostT E W dp most J (m s)) := by
  obtain ⟨M, hM⟩ : ∃ M, M = m s := ⟨_, rfl⟩
  rw [← hM]
  have hmf : ∀ (fn : Fn) (first cap : Array Value) (w : World), (Instr.makeFunc fn first cap).run Tryz.prog w = .ok (.func fn first cap) w := fun _ _ _ _ => rfl
  have hbd := fun args w => hG args w
  have A0 := At.start h
  have hlt := h.lt
  have hd10 := h.hdp
  have hz1 : (W.alloc (Obj.cells #[.pointer (some ⟨E.r, 0, none⟩)] 69)).heap.size = W.heap.size + 1 := by simp
  have hz2 : ((W.alloc (Obj.cells #[.pointer (some ⟨E.r, 0, none⟩)] 69)).alloc (Obj.cells #[.int .i64 most] 75)).heap.size = W.heap.size + 1 + 1 := by simp
  have hz3 : (((W.alloc (Obj.cells #[.pointer (some ⟨E.r, 0, none⟩)] 69)).alloc (Obj.cells #[.int .i64 most] 75)).alloc (Obj.cells #[Value.int IntKind.i64 0, Value.string { data := #[] }, Value.string { data := #[] }, Value.int IntKind.u64 0, Value.int IntKind.i64 0, Value.int IntKind.i64 0, Value.slice none 0 0] 25)).heap.size = W.heap.size + 1 + 1 + 1 := by simp
  have hz4 : ((((W.alloc (Obj.cells #[.pointer (some ⟨E.r, 0, none⟩)] 69)).alloc (Obj.cells #[.int .i64 most] 75)).alloc (Obj.cells #[Value.int IntKind.i64 0, Value.string { data := #[] }, Value.string { data := #[] }, Value.int IntKind.u64 0, Value.int IntKind.i64 0, Value.int IntKind.i64 0, Value.slice none 0 0] 25)).alloc (Obj.cells #[.int .i64 dp] 3)).heap.size = W.heap.size + 1 + 1 + 1 + 1 := by simp
  have A3 := ((A0.alloc (Obj.cells #[.pointer (some ⟨E.r, 0, none⟩)] 69)).alloc (Obj.cells #[.int .i64 most] 75)).alloc (Obj.cells #[Value.int IntKind.i64 0, Value.string { data := #[] }, Value.string { data := #[] }, Value.int IntKind.u64 0, Value.int IntKind.i64 0, Value.int IntKind.i64 0, Value.slice none 0 0] 25)
  have A4 := A3.alloc (Obj.cells #[.int .i64 dp] 3)
  have P3 := (((Box.new W 69 #[.pointer (some ⟨E.r, 0, none⟩)]).alloc (Obj.cells #[.int .i64 most] 75)).alloc (Obj.cells #[Value.int IntKind.i64 0, Value.string { data := #[] }, Value.string { data := #[] }, Value.int IntKind.u64 0, Value.int IntKind.i64 0, Value.int IntKind.i64 0, Value.slice none 0 0] 25))
  have P4 := P3.alloc (Obj.cells #[.int .i64 dp] 3)
  have L4 := ((Box.newAt hz1 75 #[.int .i64 most]).alloc (Obj.cells #[Value.int IntKind.i64 0, Value.string { data := #[] }, Value.string { data := #[] }, Value.int IntKind.u64 0, Value.int IntKind.i64 0, Value.int IntKind.i64 0, Value.slice none 0 0] 25)).alloc (Obj.cells #[.int .i64 dp] 3)
  have N4 := (Box.newAt hz2 25 #[Value.int IntKind.i64 0, Value.string { data := #[] }, Value.string { data := #[] }, Value.int IntKind.u64 0, Value.int IntKind.i64 0, Value.int IntKind.i64 0, Value.slice none 0 0]).alloc (Obj.cells #[.int .i64 dp] 3)
  have D4 := Box.newAt hz3 3 #[.int .i64 dp]
  obtain ⟨dv, _, _, r2, _⟩ := A3.rs.cells
  have p3 := P3.cell 0
  have p4 := P4.cell 0
  clear P3 A3 hz1 hz2 hz3 A0
  go_enter_defers Tryz.func32, Tryz.ntmps32
  go_wp2_with fail
  refine (hc _ _ A4.rs).mono ?_
  intro e w1 H
  have hbs : E.base ≤ W.heap.size := h.baselt
  have hb2 : W.heap.size ≤ W.heap.size + 1 + 1 := by omega
  rw [← hM] at H
  rcases H.cases with ⟨t, s1, v, hm, rfl, ⟨KA, KC, rfl, nd⟩, R, K⟩ | ⟨l, s1, ch, hm, rfl, c, dp', rfl, F, R, K⟩
  · have hms : m s = .ok t s1 := hM.symm.trans hm
    rw [hms] at hM
    subst hM
    have A5 : Kept E.base W w1 := A4.kept.trans K
    have N5 : Box w1 (W.heap.size + 1 + 1) 25 #[Value.int IntKind.i64 0, Value.string { data := #[] }, Value.string { data := #[] }, Value.int IntKind.u64 0, Value.int IntKind.i64 0, Value.int IntKind.i64 0, Value.slice none 0 0] := N4.kept K (by decide)
    have nz := N5.free
    have nz0 := nz 0
    have cn0 : w1.cell? ⟨W.heap.size + 1 + 1, 0, none⟩ = some (Value.int IntKind.i64 0) := N5.cell 0
    have cn1 : w1.cell? ⟨W.heap.size + 1 + 1, 1, none⟩ = some (Value.string { data := #[] }) := N5.cell 1
    have cn2 : w1.cell? ⟨W.heap.size + 1 + 1, 2, none⟩ = some (Value.string { data := #[] }) := N5.cell 2
    have cn3 : w1.cell? ⟨W.heap.size + 1 + 1, 3, none⟩ = some (Value.int IntKind.u64 0) := N5.cell 3
    have cn4 : w1.cell? ⟨W.heap.size + 1 + 1, 4, none⟩ = some (Value.int IntKind.i64 0) := N5.cell 4
    have cn5 : w1.cell? ⟨W.heap.size + 1 + 1, 5, none⟩ = some (Value.int IntKind.i64 0) := N5.cell 5
    have cn6 : w1.cell? ⟨W.heap.size + 1 + 1, 6, none⟩ = some (Value.slice none 0 0) := N5.cell 6
    clear H K N4 L4 P4 D4 p3 p4 r2 A4
    go_wp2
    refine leaves_cons (f := 60) (args := #[.pointer (some ⟨W.heap.size + 1, 0, none⟩), .pointer (some ⟨W.heap.size + 1 + 1 + 1, 0, none⟩), .pointer (some ⟨W.heap.size, 0, none⟩)]) (by simp) (by simp [go_sem]) ?_
    refine (catch_idle _ _ _ _).mono ?_
    rintro e u' w'' ⟨rfl, rfl, rfl⟩
    simp only [Leaves, settle]
    refine ⟨.tuple #[.agg #[Value.int IntKind.i64 (t).kind, Value.string { data := (t).name.toArray }, Value.string { data := (t).part.toArray }, Value.int IntKind.u64 (t).num, Value.int IntKind.i64 (t).wid, Value.int IntKind.i64 (t).at_, Value.slice KA t.kids.length KC], .bool true], ?_, KA, KC, rfl, ?_, ?_⟩
    · simp [results, Tryz.results32, go_sem, cn0, cn1, cn2, cn3, cn4, cn5, cn6]
    · exact nodeAt_le (M := W.heap.size + 1 + 1 + 1 + 1) (by omega) (nodeAt_fill (M := W.heap.size + 1 + 1 + 1 + 1) (by omega) _ _ _ _ _ _ _ (by rw [hz4] at nd; exact nd))
    · exact ⟨hJ _ _ _ R (ntc_fill N5 _ _ _ _ _ _ _), A5.then_ hbs (below_fill hb2 _ _ _ _ _ _ _)⟩
  · have hms : m s = .out l s1 := hM.symm.trans hm
    rw [hms] at hM
    subst hM
    have A5 : Kept E.base W w1 := A4.kept.trans K
    have N5 : Box w1 (W.heap.size + 1 + 1) 25 #[Value.int IntKind.i64 0, Value.string { data := #[] }, Value.string { data := #[] }, Value.int IntKind.u64 0, Value.int IntKind.i64 0, Value.int IntKind.i64 0, Value.slice none 0 0] := N4.kept K (by decide)
    have pc := (P4.kept K (by decide)).cell 0
    have lc := (L4.kept K (by decide)).cell 0
    have dc := (D4.kept K (by decide)).cell 0
    refine leaves_cons (f := 60) (args := #[.pointer (some ⟨W.heap.size + 1, 0, none⟩), .pointer (some ⟨W.heap.size + 1 + 1 + 1, 0, none⟩), .pointer (some ⟨W.heap.size, 0, none⟩)]) (by simp) (by simp [go_sem]) ?_
    by_cases hl : l ≤ most
    · obtain ⟨dv, _, _, q2, q3, _, _, _, _, qf, _⟩ := R.cells
      refine (catch_in l most dp hl _ _ _ E.r c w1 lc dc pc _ q2 (qf 2)).mono ?_
      rintro e u' w'' ⟨rfl, rfl, rfl⟩
      have U := (Upd.start (R.blk q3)).set 2 (.int .i64 (dp : Int))
      obtain ⟨k1, k2⟩ := R.updN q3 R.hnx hd10 U rfl
      have N6 := N5.far (b' := E.r) (i := 2) (by omega) (.int .i64 (dp : Int))
      have cn0 : (w1.setCell ⟨E.r, 2, none⟩ (.int .i64 (dp : Int))).cell? ⟨W.heap.size + 1 + 1, 0, none⟩ = some (Value.int IntKind.i64 0) := N6.cell 0
      have cn1 : (w1.setCell ⟨E.r, 2, none⟩ (.int .i64 (dp : Int))).cell? ⟨W.heap.size + 1 + 1, 1, none⟩ = some (Value.string { data := #[] }) := N6.cell 1
      have cn2 : (w1.setCell ⟨E.r, 2, none⟩ (.int .i64 (dp : Int))).cell? ⟨W.heap.size + 1 + 1, 2, none⟩ = some (Value.string { data := #[] }) := N6.cell 2
      have cn3 : (w1.setCell ⟨E.r, 2, none⟩ (.int .i64 (dp : Int))).cell? ⟨W.heap.size + 1 + 1, 3, none⟩ = some (Value.int IntKind.u64 0) := N6.cell 3
      have cn4 : (w1.setCell ⟨E.r, 2, none⟩ (.int .i64 (dp : Int))).cell? ⟨W.heap.size + 1 + 1, 4, none⟩ = some (Value.int IntKind.i64 0) := N6.cell 4
      have cn5 : (w1.setCell ⟨E.r, 2, none⟩ (.int .i64 (dp : Int))).cell? ⟨W.heap.size + 1 + 1, 5, none⟩ = some (Value.int IntKind.i64 0) := N6.cell 5
      have cn6 : (w1.setCell ⟨E.r, 2, none⟩ (.int .i64 (dp : Int))).cell? ⟨W.heap.size + 1 + 1, 6, none⟩ = some (Value.slice none 0 0) := N6.cell 6
      simp only [Leaves, settle_few F.2.1]
      refine ⟨.tuple #[.agg #[Value.int IntKind.i64 0, Value.string { data := #[] }, Value.string { data := #[] }, Value.int IntKind.u64 0, Value.int IntKind.i64 0, Value.int IntKind.i64 0, Value.slice none 0 0], .bool false], ?_, ?_⟩
      · simp [results, Tryz.results32, go_sem, cn0, cn1, cn2, cn3, cn4, cn5, cn6]
      · try rw [hms]
        show (if l ≤ most then _ else _)
        rw [if_pos hl]
        exact ⟨rfl, F.1, k1, A5.trans k2⟩
    · refine (catch_re l most (by omega) _ _ _ c w1 lc).mono ?_
      rintro e u' w'' ⟨rfl, rfl, rfl⟩
      simp only [Leaves, raised]
      try rw [hms]
      show (if l ≤ most then _ else _)
      rw [if_neg hl]
      exact ⟨_, dp', rfl, ⟨F.1, fun x hx => by
        rcases List.mem_append.1 hx with h1 | h1
        · cases h1
        · rcases List.mem_cons.1 h1 with rfl | h2
          · rfl
          · exact F.2.1 x h2, F.2.2⟩, R, A5⟩
theorem attempt_core {E : Env} {W : World} {dp : Nat} {s : St} {G : Nat} {m : PM T} (most : Nat) (hG : Bod G) (hc : CM E dp G m) (h : RS E 20 W dp s) :
    Calls Tryz.prog 32 #[.pointer (some ⟨E.r, 0, none⟩), .func (.func G) #[] #[], .int .i64 most] W (PostT E W dp most (fun w s' => RS E 20 w dp s') (m s)) := by
  refine attempt_gen (fun X Y s' h k => h.ntc k) most hG (fun w s h => ?_) h
  refine (hc w s h).mono ?_
  intro e w' H
  generalize m s = M at H ⊢
  cases M with
  | ok a s' => exact H
  | out l s' => exact H
end Go.Proofs.YtmkehecapjdfdaaGreatDoor

/- The rest of a statement is left out. -/
namespace Go.Proofs.YtmkehecapjdfdaaGreatDoor
open Go.RowKit

/-- The reader goes a token on. -/
theorem At.step {E : Env} {W X : World} {dp : Nat} {s : St} (A : At E W X dp s) (hn : s.nx + 1 < E.ts.length) :
    At E W (X.setCell ⟨E.r, 1, none⟩ (.int .i64 ((s.nx : Int) + 1))) dp ⟨s.nx + 1, s.ds⟩ := by
  obtain ⟨dv, _, _, _, r3, _⟩ := A.rs.cells
  obtain ⟨k1, k2⟩ := A.rs.upd r3 hn A.rs.hdp ((Upd.start (A.rs.blk r3)).set 1 (.int .i64 ((s.nx : Int) + 1))) rfl
  exact A.call k1 k2
def SkRel (E : Env) (W : World) (dp : Nat) (M : Res Unit) (v : Value) (wr : World) : Prop :=
  ∃ (o g : Nat) (s2 : St), v = .int .i64 o ∧ At E W wr dp s2 ∧ Hid (M = skipGo E.ts g o s2) ∧ E.ts.length - s2.nx ≤ g ∧ o ≤ s2.nx
theorem At.gone {E : Env} {W X : World} {dp dp2 : Nat} {s : St} {α : Type} {R : World → α → Value → Prop} {M : Res α} (A : At E W X dp s) (HQ : Hid (M = .out 1 s)) :
    PostR E W dp2 R M (.panicked [{ v := .iface LV (.int .i64 1), recovered := false }]) X := by
  rw [HQ.out]
  exact ⟨[], dp, rfl, ⟨fun _ => A.rs.few, (fun x hx => by cases hx), by decide⟩, { A.rs with few := by have := A.rs.few; omega }, A.kept⟩
section
variable {ts : List PTok} {g o : Nat} {s : St}
theorem skip_end (h : wd ts s.nx = kStruct ∨ wd ts s.nx = kFunc ∨ wd ts s.nx = kParse ∨ wd ts s.nx = wEnd) : skipGo ts (g + 1) o s = .out 1 s := by
  simp only [skipGo]; rw [if_pos h]
theorem skip_lb (h : wd ts s.nx = pLB) : skipGo ts (g + 1) o s = skipGo ts g (o + 1) ⟨s.nx + 1, s.ds⟩ := by
  simp only [skipGo]; rw [h, if_neg (by decide), if_pos rfl]
theorem skip_rb0 (h : wd ts s.nx = pRB) (h0 : o = 0) : skipGo ts (g + 1) o s = .ok () s := by
  simp only [skipGo]; rw [h, if_neg (by decide), if_neg (by decide), if_pos rfl, if_pos h0]
theorem skip_rb1 (h : wd ts s.nx = pRB) (h0 : o = 1) (h1 : wd ts (s.nx + 1) ≠ kElse) : skipGo ts (g + 1) o s = .ok () ⟨s.nx + 1, s.ds⟩ := by
  simp only [skipGo]; rw [h, if_neg (by decide), if_neg (by decide), if_pos rfl, if_neg (by omega), if_pos ⟨h0, h1⟩]
theorem skip_rb (h : wd ts s.nx = pRB) (h0 : o ≠ 0) (h1 : ¬ (o = 1 ∧ wd ts (s.nx + 1) ≠ kElse)) : skipGo ts (g + 1) o s = skipGo ts g (o - 1) ⟨s.nx + 1, s.ds⟩ := by
  simp only [skipGo]; rw [h, if_neg (by decide), if_neg (by decide), if_pos rfl, if_neg h0, if_neg h1]
theorem skip_semi (h : wd ts s.nx = pSemi) (h0 : o = 0) : skipGo ts (g + 1) o s = .ok () ⟨s.nx + 1, s.ds⟩ := by
  simp only [skipGo]; rw [h, if_neg (by decide), if_neg (by decide), if_neg (by decide), if_pos ⟨rfl, h0⟩]
theorem skip_go (h : ¬ (wd ts s.nx = kStruct ∨ wd ts s.nx = kFunc ∨ wd ts s.nx = kParse ∨ wd ts s.nx = wEnd)) (h1 : wd ts s.nx ≠ pLB) (h2 : wd ts s.nx ≠ pRB) (h3 : ¬ (wd ts s.nx = pSemi ∧ o = 0)) : skipGo ts (g + 1) o s = skipGo ts g o ⟨s.nx + 1, s.ds⟩ := by
  simp only [skipGo]; rw [if_neg h, if_neg h1, if_neg h2, if_neg h3]
end
set_option maxRecDepth 100000 in
set_option maxHeartbeats 6400000 in
theorem skip_any {E : Env} {W : World} {dp : Nat} {s : St} (h : RS E 20 W dp s) :
    Calls Tryz.prog 204 #[.pointer (some ⟨E.r, 0, none⟩)] W (PostR E W dp RUnit (skipStatement E.ts s)) := by
  have A0 := At.start h
  have HQ0 : Hid (skipStatement E.ts s = skipGo E.ts E.ts.length 0 s) := Lib.hid rfl
  generalize hM : skipStatement E.ts s = M at *
  clear hM
  go_enter Tryz.func204, Tryz.ntmps204
  go_wp2_with fail
  go_step3
  go_wp2_with fail
  go_step3
  go_wp2_with fail
  go_loopw [2] (fun v wr => SkRel E W dp M v wr) (fun _ wr => E.ts.length - nxOf wr E.r)
  case atStart => exact ⟨0, _, s, rfl, A0, HQ0, by omega, by omega⟩
  case round =>
    rename_i wr
    obtain ⟨o, g, s2, rfl, Ar, HQ, hg, ho⟩ := hrel
    clear A0 HQ0
    have hnx := Ar.rs.hnx
    have hf := Ar.rs.good.few
    have hlast := Ar.rs.good.last s2.nx hnx
    have hn2 := nxOf_rs Ar.rs
    obtain ⟨g', rfl⟩ : ∃ g', g = g' + 1 := ⟨g - 1, by omega⟩
    go_wp2_with fail
    refine (word_any Ar.rs).mono ?_
    rintro e w2 ⟨rfl, D⟩
    have A2 := Ar.later D.below
    obtain ⟨dv, r0, r1, _, _, _, _, _, _, rf, _⟩ := A2.rs.cells
    have rf1 := rf 1
    have hw1 : IntKind.i64.wrap ((s2.nx : Int) + 1) = (s2.nx : Int) + 1 := IntWalk.i64_in _ (by omega)
    clear Ar D rf
    by_cases ckStruct : wd E.ts s2.nx = kStruct
    · have HE := Lib.hid (HQ.out.trans (skip_end (.inl ckStruct)))
      have bkStruct : (wd E.ts s2.nx == [115, 116, 114, 117, 99, 116]) = true := by rw [ckStruct]; rfl
      clear HQ
      go_wp2_with fail
      exact ⟨rfl, A2.gone HE⟩
    have bkStruct : (wd E.ts s2.nx == [115, 116, 114, 117, 99, 116]) = false := by simpa [kStruct] using ckStruct
    by_cases ckFunc : wd E.ts s2.nx = kFunc
    · have HE := Lib.hid (HQ.out.trans (skip_end (.inr (.inl ckFunc))))
      have bkFunc : (wd E.ts s2.nx == [102, 117, 110, 99]) = true := by rw [ckFunc]; rfl
      clear HQ
      go_wp2_with fail
      exact ⟨rfl, A2.gone HE⟩
    have bkFunc : (wd E.ts s2.nx == [102, 117, 110, 99]) = false := by simpa [kFunc] using ckFunc
    by_cases ckParse : wd E.ts s2.nx = kParse
    · have HE := Lib.hid (HQ.out.trans (skip_end (.inr (.inr (.inl ckParse)))))
      have bkParse : (wd E.ts s2.nx == [112, 97, 114, 115, 101]) = true := by rw [ckParse]; rfl
      clear HQ
      go_wp2_with fail
      exact ⟨rfl, A2.gone HE⟩
    have bkParse : (wd E.ts s2.nx == [112, 97, 114, 115, 101]) = false := by simpa [kParse] using ckParse
    by_cases cwEnd : wd E.ts s2.nx = wEnd
    · have HE := Lib.hid (HQ.out.trans (skip_end (.inr (.inr (.inr cwEnd)))))
      have bwEnd : (wd E.ts s2.nx == [101, 110, 100]) = true := by rw [cwEnd]; rfl
      clear HQ
      go_wp2_with fail
      exact ⟨rfl, A2.gone HE⟩
    have bwEnd : (wd E.ts s2.nx == [101, 110, 100]) = false := by simpa [wEnd] using cwEnd
    have hlen := hlast cwEnd
    have AS := A2.step hlen
    have hnS := nxOf_rs AS.rs
    have hno : ¬ (wd E.ts s2.nx = kStruct ∨ wd E.ts s2.nx = kFunc ∨ wd E.ts s2.nx = kParse ∨ wd E.ts s2.nx = wEnd) := by rintro (h | h | h | h) <;> contradiction
    by_cases cpLB : wd E.ts s2.nx = pLB
    · have HE := Lib.hid (HQ.out.trans (skip_lb cpLB))
      have bpLB : (wd E.ts s2.nx == [123]) = true := by rw [cpLB]; rfl
      have hw2 : IntKind.i64.wrap ((o : Int) + 1) = ((o + 1 : Nat) : Int) := by rw [IntWalk.i64_in _ (by omega)]; omega
      clear HQ
      go_wp2_with fail
      go_roundw
      case rel => exact ⟨o + 1, g', _, by first | rfl | (congr 2; omega), AS, HE, by simp; omega, by simp; omega⟩
      case measure => rw [hn2, hnS]; first | omega | (simp; omega)
    have bpLB : (wd E.ts s2.nx == [123]) = false := by simpa [pLB] using cpLB
    by_cases cpRB : wd E.ts s2.nx = pRB
    · have bpRB : (wd E.ts s2.nx == [125]) = true := by rw [cpRB]; rfl
      by_cases ho0 : o = 0
      · have HE := Lib.hid (HQ.out.trans (skip_rb0 cpRB ho0))
        have hb0 : ((o : Int) == 0) = true := by simp; omega
        clear HQ
        go_wp2
        exact ⟨rfl, _, results_none rfl _ _ _, A2.ok HE rfl⟩
      have hb0 : ((o : Int) == 0) = false := by simp; omega
      have hw2 : IntKind.i64.wrap ((o : Int) - 1) = ((o - 1 : Nat) : Int) := by rw [IntWalk.i64_in _ (by omega)]; omega
      by_cases ho1 : o = 1
      · have hb1 : (((o - 1 : Nat) : Int) == 0) = true := by simp; omega
        obtain ⟨tb, cap, etv, hcap, _, _, _, _, k4⟩ := A2.rs.fix.tok (s2.nx + 1) hlen
        rw [etv] at r0
        have hix : IntKind.i64.wrap ((s2.nx : Int) + 1) = ((s2.nx + 1 : Nat) : Int) := by rw [hw1]; omega
        by_cases cel : wd E.ts (s2.nx + 1) = kElse
        · have HE := Lib.hid (HQ.out.trans (skip_rb cpRB ho0 (fun h => h.2 cel)))
          have bel : (wd E.ts (s2.nx + 1) == [101, 108, 115, 101]) = true := by rw [cel]; rfl
          clear HQ
          go_wp2_with fail
          go_quiet (fail)
          go_wp2_with fail
          have AD := (A2.drewN nq).step hlen
          have hnD := nxOf_rs AD.rs
          exact ⟨⟨o - 1, g', _, by first | rfl | (subst ho1; rfl), AD, HE, by simp; omega, by simp; omega⟩, by rw [hn2, hnD]; first | omega | (simp; omega)⟩
        · have HE := Lib.hid (HQ.out.trans (skip_rb1 cpRB ho1 cel))
          have bel : (wd E.ts (s2.nx + 1) == [101, 108, 115, 101]) = false := by simpa [kElse] using cel
          clear HQ
          go_wp2_with fail
          go_quiet (fail)
          go_wp2_with fail
          have AD := (A2.drewN nq).step hlen
          exact ⟨rfl, _, results_none rfl _ _ _, AD.ok HE rfl⟩
      · have hb1 : (((o - 1 : Nat) : Int) == 0) = false := by simp; omega
        have HE := Lib.hid (HQ.out.trans (skip_rb cpRB ho0 (fun h => ho1 h.1)))
        clear HQ
        go_wp2_with fail
        go_quiet (fail)
        go_wp2_with fail
        have AD := (A2.drewN nq).step hlen
        have hnD := nxOf_rs AD.rs
        exact ⟨⟨o - 1, g', _, by first | rfl | (subst ho1; rfl), AD, HE, by simp; omega, by simp; omega⟩, by rw [hn2, hnD]; first | omega | (simp; omega)⟩
    have bpRB : (wd E.ts s2.nx == [125]) = false := by simpa [pRB] using cpRB
    by_cases cpSemi : wd E.ts s2.nx = pSemi
    · have bpSemi : (wd E.ts s2.nx == [59]) = true := by rw [cpSemi]; rfl
      by_cases ho0 : o = 0
      · have HE := Lib.hid (HQ.out.trans (skip_semi cpSemi ho0))
        have hb0 : ((o : Int) == 0) = true := by simp; omega
        clear HQ
        go_wp2
        exact ⟨rfl, _, results_none rfl _ _ _, AS.ok HE rfl⟩
      · have HE := Lib.hid (HQ.out.trans (skip_go hno cpLB cpRB (fun h => ho0 h.2)))
        have hb0 : ((o : Int) == 0) = false := by simp; omega
        clear HQ
        go_wp2_with fail
        go_roundw
        case rel => exact ⟨o, g', _, by first | rfl | (congr 2; omega), AS, HE, by simp; omega, by simp; omega⟩
        case measure => rw [hn2, hnS]; first | omega | (simp; omega)
    have bpSemi : (wd E.ts s2.nx == [59]) = false := by simpa [pSemi] using cpSemi
    have HE := Lib.hid (HQ.out.trans (skip_go (o := o) hno cpLB cpRB (fun h => cpSemi h.1)))
    clear HQ
    go_wp2_with fail
    go_roundw
    case rel => exact ⟨o, g', _, by first | rfl | (congr 2; omega), AS, HE, by simp; omega, by simp; omega⟩
    case measure => rw [hn2, hnS]; first | omega | (simp; omega)
end Go.Proofs.YtmkehecapjdfdaaGreatDoor

/- Blocks. -/
namespace Go.Proofs.YtmkehecapjdfdaaGreatDoor
open Go.RowKit

def RAtt (B : Nat) (w : World) : Option T → Value → Prop
  | some t, v => ∃ A c, v = .tuple #[.agg #[Value.int IntKind.i64 (t).kind, Value.string { data := (t).name.toArray }, Value.string { data := (t).part.toArray }, Value.int IntKind.u64 (t).num, Value.int IntKind.i64 (t).wid, Value.int IntKind.i64 (t).at_, Value.slice A t.kids.length c], .bool true] ∧ nodeAt w (fun g => B ≤ g) t (.slice A t.kids.length c)
  | none, v => v = .tuple #[.agg #[Value.int IntKind.i64 0, Value.string { data := #[] }, Value.string { data := #[] }, Value.int IntKind.u64 0, Value.int IntKind.i64 0, Value.int IntKind.i64 0, Value.slice none 0 0], .bool false]
theorem attempt_any {E : Env} {W : World} {dp : Nat} {s : St} {G : Nat} {m : PM T} (most : Nat) (hmost : most ≤ 1) (hG : Bod G) (hc : CM E dp G m) (h : RS E 20 W dp s) :
    Calls Tryz.prog 32 #[.pointer (some ⟨E.r, 0, none⟩), .func (.func G) #[] #[], .int .i64 most] W (PostR E W dp (RAtt W.heap.size) (attempt m most s)) := by
  refine (attempt_core most hG hc h).mono ?_
  intro e w' H
  unfold attempt
  generalize m s = M at H ⊢
  cases M with
  | ok t s' =>
    obtain ⟨A, c, rfl, h1, h2, h3⟩ := H
    exact ⟨_, rfl, ⟨A, c, rfl, h1⟩, h2, h3⟩
  | out l s' =>
    simp only [PostT] at H
    by_cases hl : l ≤ most
    · rw [if_pos hl] at H
      obtain ⟨rfl, h1, h2, h3⟩ := H
      simp only [if_pos hl]
      exact ⟨_, rfl, rfl, { h2 with few := h1 (by omega) }, h3⟩
    · rw [if_neg hl] at H
      obtain ⟨c, dp', rfl, h1, h2, h3⟩ := H
      simp only [if_neg hl]
      exact ⟨c, dp', rfl, h1, h2, h3⟩

set_option maxRecDepth 100000 in
set_option maxHeartbeats 1600000 in
theorem block_walk {E : Env} {W : World} {dp : Nat} {s : St} {m : PM T} (hm : dp < 10 → CM E (dp + 1) 186 m) (h : RS E 20 W dp s) :
    Calls Tryz.prog 157 #[.pointer (some ⟨E.r, 0, none⟩)] W (PostR E W dp (RNodeX W.heap.size) ((fun s => if wd E.ts s.nx = pLB then nestedM E.ts dp m s else fail E.ts 10 s) s)) := by
  have A0 := At.start h
  obtain ⟨M, hM⟩ : ∃ M, M = (fun s => if wd E.ts s.nx = pLB then nestedM E.ts dp m s else fail E.ts 10 s) s := ⟨_, rfl⟩
  have HQ0 : Hid (M = (fun s => if wd E.ts s.nx = pLB then nestedM E.ts dp m s else fail E.ts 10 s) s) := Lib.hid hM
  rw [← hM]
  clear hM
  have hb1 := A0.size
  have B2 := Box.new (W) 25 #[Value.int IntKind.i64 0, Value.string { data := #[] }, Value.string { data := #[] }, Value.int IntKind.u64 0, Value.int IntKind.i64 0, Value.int IntKind.i64 0, Value.slice none 0 0]
  have A3 := A0.alloc (Obj.cells #[Value.int IntKind.i64 0, Value.string { data := #[] }, Value.string { data := #[] }, Value.int IntKind.u64 0, Value.int IntKind.i64 0, Value.int IntKind.i64 0, Value.slice none 0 0] 25)
  have sz4 : (W.alloc (Obj.cells #[Value.int IntKind.i64 0, Value.string { data := #[] }, Value.string { data := #[] }, Value.int IntKind.u64 0, Value.int IntKind.i64 0, Value.int IntKind.i64 0, Value.slice none 0 0] 25)).heap.size = W.heap.size + 1 := by simp
  go_enter Tryz.func157, Tryz.ntmps157
  go_wp2_with fail
  refine (word_any A3.rs).mono ?_
  rintro e w1 ⟨rfl, D⟩
  have A5 := A3.later D.below
  have BD6 : Box w1 (W.heap.size) 25 #[Value.int IntKind.i64 0, Value.string { data := #[] }, Value.string { data := #[] }, Value.int IntKind.u64 0, Value.int IntKind.i64 0, Value.int IntKind.i64 0, Value.slice none 0 0] := B2.below D.below
  have sz7 : (W.alloc (Obj.cells #[Value.int IntKind.i64 0, Value.string { data := #[] }, Value.string { data := #[] }, Value.int IntKind.u64 0, Value.int IntKind.i64 0, Value.int IntKind.i64 0, Value.slice none 0 0] 25)).heap.size ≤ w1.heap.size := D.below.size
  clear D
  have HV := Lib.hid (HQ0.out.trans (show _ = (if wd E.ts s.nx = pLB then nestedM E.ts dp m s else fail E.ts 10 s) from rfl))
  by_cases hc8 : wd E.ts s.nx = pLB
  · have hw1 : (wd E.ts s.nx == [123]) = true := by rw [hc8]; rfl
    have HY9 := Lib.hid (HV.out.trans (if_pos hc8))
    have HW := hq_ret HY9
    go_wp2_with fail
    refine (nested_any bod_readBlock hm A5.rs).mono ?_
    intro e w2 H
    rcases H.cases with ⟨t, s2, v, hm10, rfl, ⟨KA, KC, rfl, nd⟩, R, K⟩ | ⟨l, s', ch, hm, rfl, H1⟩
    rotate_left 1
    · exact ⟨rfl, A5.out HW hm H1⟩
    have A11 := A5.call R K
    have HQ12 := hq_ok HW hm10
    have B13 : Box w2 (W.heap.size) 25 #[Value.int IntKind.i64 0, Value.string { data := #[] }, Value.string { data := #[] }, Value.int IntKind.u64 0, Value.int IntKind.i64 0, Value.int IntKind.i64 0, Value.slice none 0 0] := BD6.kept K (by decide)
    have sz14 := K.size
    clear HW hm10 H R K
    have c15 : w2.cell? ⟨W.heap.size, 0, none⟩ = some (Value.int IntKind.i64 0) := B13.cell 0
    have c16 : w2.cell? ⟨W.heap.size, 1, none⟩ = some (Value.string { data := #[] }) := B13.cell 1
    have c17 : w2.cell? ⟨W.heap.size, 2, none⟩ = some (Value.string { data := #[] }) := B13.cell 2
    have c18 : w2.cell? ⟨W.heap.size, 3, none⟩ = some (Value.int IntKind.u64 0) := B13.cell 3
    have c19 : w2.cell? ⟨W.heap.size, 4, none⟩ = some (Value.int IntKind.i64 0) := B13.cell 4
    have c20 : w2.cell? ⟨W.heap.size, 5, none⟩ = some (Value.int IntKind.i64 0) := B13.cell 5
    have c21 : w2.cell? ⟨W.heap.size, 6, none⟩ = some (Value.slice none 0 0) := B13.cell 6
    have fz22 := B13.free
    go_wp2
    refine bodyPost_ret (v := .agg #[Value.int IntKind.i64 (t).kind, Value.string { data := (t).name.toArray }, Value.string { data := (t).part.toArray }, Value.int IntKind.u64 (t).num, Value.int IntKind.i64 (t).wid, Value.int IntKind.i64 (t).at_, Value.slice KA t.kids.length KC]) ?_ rfl ?_
    · simp [results, Tryz.results157, go_sem, c15, c16, c17, c18, c19, c20, c21]
    · exact (A11.fill B13 (Nat.le_refl _) _ _ _ _ _ _ _).ok HQ12 ⟨_, _, rfl, nodeAt_le (M := w1.heap.size) (by omega) (nodeAt_fill (M := w1.heap.size) (by omega) _ _ _ _ _ _ _ nd)⟩
  · have hw1 : (wd E.ts s.nx == [123]) = false := by simpa [pLB] using hc8
    have HY23 := Lib.hid (HV.out.trans (if_neg hc8))
    go_wp2_with fail
    refine (fail_any (RNodeX W.heap.size) 10 A5.rs).mono ?_
    intro e w2 H
    rcases H.cases with ⟨t, s1, v, hm, rfl, R0, R, K⟩ | ⟨l, s', ch, hm, rfl, H1⟩
    · cases hm
    · exact ⟨rfl, A5.outs (Lib.hid (HY23.out.trans hm)) H1⟩

def BlkRel (E : Env) (W : World) (dp nb a : Nat) (m : PM T) (M : Res T) (wr : World) : Prop :=
  ∃ (l : List T) (A : Option Addr) (c g : Nat) (s2 : St), At E W wr dp s2 ∧ Box wr W.heap.size 25 #[Value.int IntKind.i64 0, Value.string { data := #[] }, Value.string { data := #[] }, Value.int IntKind.u64 0, Value.int IntKind.i64 0, Value.int IntKind.i64 0, Value.slice none 0 0] ∧ Box wr nb 25 #[Value.int IntKind.i64 6, Value.string { data := #[] }, Value.string { data := #[] }, Value.int IntKind.u64 0, Value.int IntKind.i64 0, Value.int IntKind.i64 a, (Value.slice A l.length c)] ∧ Kids wr (nb + 1) l (Value.slice A l.length c) ∧
    Hid (M = bnd (stmts E.ts m g l) (fun l => bnd (take E.ts pRB) fun _ => ret (.mk 6 [] [] 0 0 a l)) s2) ∧ 2 * (E.ts.length - s2.nx) + (if wd E.ts s2.nx = pRB then 0 else 1) ≤ g ∧ l.length ≤ s2.nx
def blkMeas (E : Env) (wr : World) : Nat := 2 * (E.ts.length - nxOf wr E.r) + (if wd E.ts (nxOf wr E.r) = pRB then 0 else 1)
theorem meas_rs {E : Env} {N : Nat} {w : World} {dp : Nat} {s : St} (h : RS E N w dp s) : blkMeas E w = 2 * (E.ts.length - s.nx) + (if wd E.ts s.nx = pRB then 0 else 1) := by
  unfold blkMeas
  rw [nxOf_rs h]

set_option maxRecDepth 100000 in
set_option maxHeartbeats 6400000 in
theorem readBlock_any {E : Env} {W : World} {dp : Nat} {s : St} {m : PM T} (hmv : Mv 1 m) (hS : CM E dp 203 m) (h : RS E 20 W dp s) :
    Calls Tryz.prog 186 #[.pointer (some ⟨E.r, 0, none⟩)] W (PostR E W dp (RNodeX W.heap.size) (readBlock E.ts m s)) := by
  have A0 := At.start h
  have HQ0 : Hid (readBlock E.ts m s = bnd (begin_ E.ts 6 pLB) (fun n => bnd (stmts E.ts m (2 * E.ts.length + 2) []) fun l => bnd (take E.ts pRB) fun _ => ret (.mk 6 [] [] 0 0 n.at_ l)) s) := Lib.hid rfl
  generalize hM : readBlock E.ts m s = M at *
  clear hM
  have hb1 := A0.size
  have B2 := Box.new (W) 25 #[Value.int IntKind.i64 0, Value.string { data := #[] }, Value.string { data := #[] }, Value.int IntKind.u64 0, Value.int IntKind.i64 0, Value.int IntKind.i64 0, Value.slice none 0 0]
  have A3 := A0.alloc (Obj.cells #[Value.int IntKind.i64 0, Value.string { data := #[] }, Value.string { data := #[] }, Value.int IntKind.u64 0, Value.int IntKind.i64 0, Value.int IntKind.i64 0, Value.slice none 0 0] 25)
  have sz4 : (W.alloc (Obj.cells #[Value.int IntKind.i64 0, Value.string { data := #[] }, Value.string { data := #[] }, Value.int IntKind.u64 0, Value.int IntKind.i64 0, Value.int IntKind.i64 0, Value.slice none 0 0] 25)).heap.size = W.heap.size + 1 := by simp
  obtain ⟨i0, hi, hz0, hz1, hz2⟩ := info_parts Tryz.infoNode
  go_enter Tryz.func186, Tryz.ntmps186
  go_wp2_with fail
  refine (begin_any 6 pLB (by decide) A3.rs).mono ?_
  intro e w1 H
  rcases H.cases with ⟨n, s1, v, hm5, rfl, ⟨a, rfl, rfl⟩, R, K⟩ | ⟨l, s', ch, hm, rfl, H1⟩
  rotate_left 1
  · exact ⟨rfl, A3.out HQ0 hm H1⟩
  have A6 := A3.call R K
  have HQ7 := hq_ok HQ0 hm5
  have B8 : Box w1 (W.heap.size) 25 #[Value.int IntKind.i64 0, Value.string { data := #[] }, Value.string { data := #[] }, Value.int IntKind.u64 0, Value.int IntKind.i64 0, Value.int IntKind.i64 0, Value.slice none 0 0] := B2.kept K (by decide)
  have sz9 := K.size
  clear HQ0 hm5 H R K
  have hb10 := A6.size
  have B11 := B8.alloc (Obj.cells #[Value.int IntKind.i64 6, Value.string { data := #[] }, Value.string { data := #[] }, Value.int IntKind.u64 0, Value.int IntKind.i64 0, Value.int IntKind.i64 a, Value.slice none 0 0] 25)
  have lt12 := B8.lt
  have B13 := Box.new (w1) 25 #[Value.int IntKind.i64 6, Value.string { data := #[] }, Value.string { data := #[] }, Value.int IntKind.u64 0, Value.int IntKind.i64 0, Value.int IntKind.i64 a, Value.slice none 0 0]
  have A14 := A6.alloc (Obj.cells #[Value.int IntKind.i64 6, Value.string { data := #[] }, Value.string { data := #[] }, Value.int IntKind.u64 0, Value.int IntKind.i64 0, Value.int IntKind.i64 a, Value.slice none 0 0] 25)
  have sz15 : (w1.alloc (Obj.cells #[Value.int IntKind.i64 6, Value.string { data := #[] }, Value.string { data := #[] }, Value.int IntKind.u64 0, Value.int IntKind.i64 0, Value.int IntKind.i64 a, Value.slice none 0 0] 25)).heap.size = w1.heap.size + 1 := by simp
  go_wp2_with fail
  have hbnW : W.heap.size < w1.heap.size := by omega
  go_loopw [] (fun wr => BlkRel E W dp w1.heap.size a m M wr) (fun wr => blkMeas E wr)
  case atStart => exact ⟨[], none, 0, _, _, A14, B11, B13, Kids.nil _ _, HQ7, by split <;> omega, by simp⟩
  case round =>
    rename_i wr
    obtain ⟨l, A, c, g, s2, Ar, Br, Bn, Kr, HQ, hg, hl⟩ := hrel
    clear A14 B11 B13 HQ7
    have hnx := Ar.rs.hnx
    have hf := Ar.rs.good.few
    have hwr := Ar.size
    have hme := meas_rs Ar.rs
    have hbl := Bn.lt
    obtain ⟨g', rfl⟩ : ∃ g', g = g' + 1 := ⟨g - 1, by omega⟩
    go_wp2_with fail
    refine (word_any Ar.rs).mono ?_
    rintro e w3 ⟨rfl, D⟩
    have AD := Ar.later D.below
    have BDr := Br.below D.below
    have BDn := Bn.below D.below
    have KD : Kids w3 (w1.heap.size + 1) l (Value.slice A l.length c) := Kids.later Kr (Kept.of (B := 0) D.below (Nat.zero_le _))
    have szD := D.below.size
    clear D Ar Br Bn Kr
    by_cases hcc : wd E.ts s2.nx = pRB
    · have hw1 : (wd E.ts s2.nx == [125]) = true := by rw [hcc]; rfl
      have HX : Hid (M = bnd (take E.ts pRB) (fun _ => ret (.mk 6 [] [] 0 0 a l)) s2) := Lib.hid (by
        rw [HQ.out, bnd_ok (show stmts E.ts m (g' + 1) l s2 = .ok l s2 by simp only [stmts]; rw [if_pos hcc])])
      go_wp2_with fail
      refine (take_any pRB (by decide) AD.rs).mono ?_
      intro e w4 H
      rcases H.cases with ⟨t3, s4, v, hm16, rfl, rfl, R, K⟩ | ⟨l, s', ch, hm, rfl, H1⟩
      rotate_left 1
      · exact ⟨rfl, AD.out HX hm H1⟩
      have A17 := AD.call R K
      have HQ18 := hq_ok HX hm16
      have B19 : Box w4 (W.heap.size) 25 #[Value.int IntKind.i64 0, Value.string { data := #[] }, Value.string { data := #[] }, Value.int IntKind.u64 0, Value.int IntKind.i64 0, Value.int IntKind.i64 0, Value.slice none 0 0] := BDr.kept K (by decide)
      have B20 : Box w4 (w1.heap.size) 25 #[Value.int IntKind.i64 6, Value.string { data := #[] }, Value.string { data := #[] }, Value.int IntKind.u64 0, Value.int IntKind.i64 0, Value.int IntKind.i64 a, (Value.slice A l.length c)] := BDn.kept K (by decide)
      have Q21 := Kids.later KD K
      have sz22 := K.size
      clear HX hm16 H R K
      have c23 : w4.cell? ⟨w1.heap.size, 0, none⟩ = some (Value.int IntKind.i64 6) := B20.cell 0
      have c24 : w4.cell? ⟨w1.heap.size, 1, none⟩ = some (Value.string { data := #[] }) := B20.cell 1
      have c25 : w4.cell? ⟨w1.heap.size, 2, none⟩ = some (Value.string { data := #[] }) := B20.cell 2
      have c26 : w4.cell? ⟨w1.heap.size, 3, none⟩ = some (Value.int IntKind.u64 0) := B20.cell 3
      have c27 : w4.cell? ⟨w1.heap.size, 4, none⟩ = some (Value.int IntKind.i64 0) := B20.cell 4
      have c28 : w4.cell? ⟨w1.heap.size, 5, none⟩ = some (Value.int IntKind.i64 a) := B20.cell 5
      have c29 : w4.cell? ⟨w1.heap.size, 6, none⟩ = some ((Value.slice A l.length c)) := B20.cell 6
      have fz30 := B20.free
      have c31 : w4.cell? ⟨W.heap.size, 0, none⟩ = some (Value.int IntKind.i64 0) := B19.cell 0
      have c32 : w4.cell? ⟨W.heap.size, 1, none⟩ = some (Value.string { data := #[] }) := B19.cell 1
      have c33 : w4.cell? ⟨W.heap.size, 2, none⟩ = some (Value.string { data := #[] }) := B19.cell 2
      have c34 : w4.cell? ⟨W.heap.size, 3, none⟩ = some (Value.int IntKind.u64 0) := B19.cell 3
      have c35 : w4.cell? ⟨W.heap.size, 4, none⟩ = some (Value.int IntKind.i64 0) := B19.cell 4
      have c36 : w4.cell? ⟨W.heap.size, 5, none⟩ = some (Value.int IntKind.i64 0) := B19.cell 5
      have c37 : w4.cell? ⟨W.heap.size, 6, none⟩ = some (Value.slice none 0 0) := B19.cell 6
      have fz38 := B19.free
      go_wp2
      refine bodyPost_ret (v := .agg #[Value.int IntKind.i64 6, Value.string { data := #[] }, Value.string { data := #[] }, Value.int IntKind.u64 0, Value.int IntKind.i64 0, Value.int IntKind.i64 a, (Value.slice A l.length c)]) ?_ rfl ?_
      · simp [results, Tryz.results186, go_sem, c31, c32, c33, c34, c35, c36, c37]
      · exact (A17.fill B19 (Nat.le_refl _) _ _ _ _ _ _ _).ok HQ18 ⟨_, _, rfl, nodeAt_le (M := w1.heap.size + 1) (by omega) (nodeAt_fill (M := w1.heap.size + 1) (by omega) _ _ _ _ _ _ _ (Q21.node _ _ _ _ _ _))⟩
    · have hw1 : (wd E.ts s2.nx == [125]) = false := by simpa [pRB] using hcc
      have HX : Hid (M = bnd (attempt m 0) (fun o => bnd ((fun o => match o with | some t => stmts E.ts m g' (l ++ [t]) | none => bnd (skipStatement E.ts) fun _ => stmts E.ts m g' l) o) (fun l => bnd (take E.ts pRB) fun _ => ret (.mk 6 [] [] 0 0 a l))) s2) := Lib.hid (by
        rw [HQ.out, ← bnd_bnd]
        refine bnd_to ?_
        simp only [stmts]
        rw [if_neg hcc]
        rfl)
      have hme1 : blkMeas E wr = 2 * (E.ts.length - s2.nx) + 1 := by rw [hme, if_neg hcc]
      have hg1 : 2 * (E.ts.length - s2.nx) + 1 ≤ g' + 1 := by rw [if_neg hcc] at hg; exact hg
      go_wp2_with fail
      refine (attempt_any 0 (by decide) bod_statement hS AD.rs).mono ?_
      intro e w4 H
      rcases H.cases with ⟨o, s4, v, hm39, rfl, hr, R, K⟩ | ⟨l, s', ch, hm, rfl, H1⟩
      rotate_left 1
      · exact ⟨rfl, AD.out HX hm H1⟩
      have A40 := AD.call R K
      have HQ41 := hq_ok HX hm39
      have B42 : Box w4 (W.heap.size) 25 #[Value.int IntKind.i64 0, Value.string { data := #[] }, Value.string { data := #[] }, Value.int IntKind.u64 0, Value.int IntKind.i64 0, Value.int IntKind.i64 0, Value.slice none 0 0] := BDr.kept K (by decide)
      have B43 : Box w4 (w1.heap.size) 25 #[Value.int IntKind.i64 6, Value.string { data := #[] }, Value.string { data := #[] }, Value.int IntKind.u64 0, Value.int IntKind.i64 0, Value.int IntKind.i64 a, (Value.slice A l.length c)] := BDn.kept K (by decide)
      have Q44 := Kids.later KD K
      have sz45 := K.size
      have hmo := Lib.hid hm39
      clear HX hm39 H R K
      clear hg hme HQ
      cases o with
      | none =>
        have hv : v = .tuple #[.agg #[Value.int IntKind.i64 0, Value.string { data := #[] }, Value.string { data := #[] }, Value.int IntKind.u64 0, Value.int IntKind.i64 0, Value.int IntKind.i64 0, Value.slice none 0 0], .bool false] := hr
        subst hv
        clear hr
        have HY : Hid (M = bnd (skipStatement E.ts) (fun _ => bnd (stmts E.ts m g' l) (fun l => bnd (take E.ts pRB) fun _ => ret (.mk 6 [] [] 0 0 a l))) s4) := Lib.hid (by rw [HQ41.out, ← bnd_bnd])
        have h24 := att_none hmv hmo.out
        clear hmo
        have hb46 := A40.size
        have B47 := B42.alloc (Obj.cells #[Value.int IntKind.i64 0, Value.string { data := #[] }, Value.string { data := #[] }, Value.int IntKind.u64 0, Value.int IntKind.i64 0, Value.int IntKind.i64 0, Value.slice none 0 0] 25)
        have lt48 := B42.lt
        have B49 := B43.alloc (Obj.cells #[Value.int IntKind.i64 0, Value.string { data := #[] }, Value.string { data := #[] }, Value.int IntKind.u64 0, Value.int IntKind.i64 0, Value.int IntKind.i64 0, Value.slice none 0 0] 25)
        have lt50 := B43.lt
        have B51 := Box.new (w4) 25 #[Value.int IntKind.i64 0, Value.string { data := #[] }, Value.string { data := #[] }, Value.int IntKind.u64 0, Value.int IntKind.i64 0, Value.int IntKind.i64 0, Value.slice none 0 0]
        have A52 := A40.alloc (Obj.cells #[Value.int IntKind.i64 0, Value.string { data := #[] }, Value.string { data := #[] }, Value.int IntKind.u64 0, Value.int IntKind.i64 0, Value.int IntKind.i64 0, Value.slice none 0 0] 25)
        have sz53 : (w4.alloc (Obj.cells #[Value.int IntKind.i64 0, Value.string { data := #[] }, Value.string { data := #[] }, Value.int IntKind.u64 0, Value.int IntKind.i64 0, Value.int IntKind.i64 0, Value.slice none 0 0] 25)).heap.size = w4.heap.size + 1 := by simp
        have KZ : Kids (w4.alloc (Obj.cells #[Value.int IntKind.i64 0, Value.string { data := #[] }, Value.string { data := #[] }, Value.int IntKind.u64 0, Value.int IntKind.i64 0, Value.int IntKind.i64 0, Value.slice none 0 0] 25)) (w1.heap.size + 1) l (Value.slice A l.length c) := Kids.later Q44 (Kept.of (B := 0) ((Below.refl _ _).alloc (Nat.le_refl _) _) (Nat.zero_le _))
        go_wp2_with fail
        refine (skip_any A52.rs).mono ?_
        intro e w5 H
        rcases H.cases with ⟨q, s5, v, hm54, rfl, rfl, R, K⟩ | ⟨l, s', ch, hm, rfl, H1⟩
        rotate_left 1
        · exact ⟨rfl, A52.out HY hm H1⟩
        have A55 := A52.call R K
        have HQ56 := hq_ok HY hm54
        have B57 : Box w5 (W.heap.size) 25 #[Value.int IntKind.i64 0, Value.string { data := #[] }, Value.string { data := #[] }, Value.int IntKind.u64 0, Value.int IntKind.i64 0, Value.int IntKind.i64 0, Value.slice none 0 0] := B47.kept K (by decide)
        have B58 : Box w5 (w1.heap.size) 25 #[Value.int IntKind.i64 6, Value.string { data := #[] }, Value.string { data := #[] }, Value.int IntKind.u64 0, Value.int IntKind.i64 0, Value.int IntKind.i64 a, (Value.slice A l.length c)] := B49.kept K (by decide)
        have B59 : Box w5 (w4.heap.size) 25 #[Value.int IntKind.i64 0, Value.string { data := #[] }, Value.string { data := #[] }, Value.int IntKind.u64 0, Value.int IntKind.i64 0, Value.int IntKind.i64 0, Value.slice none 0 0] := B51.kept K (by decide)
        have Q60 := Kids.later KZ K
        have sz61 := K.size
        have hsk := Lib.hid hm54
        clear HY hm54 H R K
        have hso := skip_ok E.ts _ _ _ _ _ hsk.out
        clear hsk
        have hme5 := meas_rs A55.rs
        have hdn : 2 * (E.ts.length - s5.nx) + (if wd E.ts s5.nx = pRB then 0 else 1) ≤ g' ∧ 2 * (E.ts.length - s5.nx) + (if wd E.ts s5.nx = pRB then 0 else 1) < 2 * (E.ts.length - s2.nx) + 1 ∧ s2.nx ≤ s5.nx := by
          rcases hso with h5 | ⟨h5, h6⟩
          · refine ⟨?_, ?_, by omega⟩ <;> split <;> omega
          · rw [h5, if_pos h6]; omega
        go_wp2_with fail
        go_roundw
        case rel => exact ⟨l, A, c, g', s5, A55, B57, B58, Q60, HQ56, hdn.1, by omega⟩
        case measure => rw [hme1, hme5]; exact hdn.2.1
      | some t =>
        obtain ⟨KA, KC, rfl, nd⟩ := hr
        have HY : Hid (M = bnd (stmts E.ts m g' (l ++ [t])) (fun l => bnd (take E.ts pRB) fun _ => ret (.mk 6 [] [] 0 0 a l)) s4) := Lib.hid HQ41.out
        have h24 := att_some hmv hmo.out
        clear hmo
        have hb62 := A40.size
        have B63 := B42.alloc (Obj.cells #[Value.int IntKind.i64 (t).kind, Value.string { data := (t).name.toArray }, Value.string { data := (t).part.toArray }, Value.int IntKind.u64 (t).num, Value.int IntKind.i64 (t).wid, Value.int IntKind.i64 (t).at_, Value.slice KA t.kids.length KC] 25)
        have lt64 := B42.lt
        have B65 := B43.alloc (Obj.cells #[Value.int IntKind.i64 (t).kind, Value.string { data := (t).name.toArray }, Value.string { data := (t).part.toArray }, Value.int IntKind.u64 (t).num, Value.int IntKind.i64 (t).wid, Value.int IntKind.i64 (t).at_, Value.slice KA t.kids.length KC] 25)
        have lt66 := B43.lt
        have B67 := Box.new (w4) 25 #[Value.int IntKind.i64 (t).kind, Value.string { data := (t).name.toArray }, Value.string { data := (t).part.toArray }, Value.int IntKind.u64 (t).num, Value.int IntKind.i64 (t).wid, Value.int IntKind.i64 (t).at_, Value.slice KA t.kids.length KC]
        have A68 := A40.alloc (Obj.cells #[Value.int IntKind.i64 (t).kind, Value.string { data := (t).name.toArray }, Value.string { data := (t).part.toArray }, Value.int IntKind.u64 (t).num, Value.int IntKind.i64 (t).wid, Value.int IntKind.i64 (t).at_, Value.slice KA t.kids.length KC] 25)
        have sz69 : (w4.alloc (Obj.cells #[Value.int IntKind.i64 (t).kind, Value.string { data := (t).name.toArray }, Value.string { data := (t).part.toArray }, Value.int IntKind.u64 (t).num, Value.int IntKind.i64 (t).wid, Value.int IntKind.i64 (t).at_, Value.slice KA t.kids.length KC] 25)).heap.size = w4.heap.size + 1 := by simp
        have KZ : Kids (w4.alloc (Obj.cells #[Value.int IntKind.i64 (t).kind, Value.string { data := (t).name.toArray }, Value.string { data := (t).part.toArray }, Value.int IntKind.u64 (t).num, Value.int IntKind.i64 (t).wid, Value.int IntKind.i64 (t).at_, Value.slice KA t.kids.length KC] 25)) (w1.heap.size + 1) l (Value.slice A l.length c) := Kids.later Q44 (Kept.of (B := 0) ((Below.refl _ _).alloc (Nat.le_refl _) _) (Nat.zero_le _))
        have ndZ := nodeAt_kept (Kept.of (B := 0) ((Below.refl _ _).alloc (Nat.le_refl _) (Obj.cells #[Value.int IntKind.i64 (t).kind, Value.string { data := (t).name.toArray }, Value.string { data := (t).part.toArray }, Value.int IntKind.u64 (t).num, Value.int IntKind.i64 (t).wid, Value.int IntKind.i64 (t).at_, Value.slice KA t.kids.length KC] 25)) (Nat.zero_le _)) nd
        have hkl : ∀ g, (Value.slice A l.length c).ownBlock = some g → g < w3.heap.size := by
          obtain ⟨kc3, ko3, _⟩ := KD
          exact fun g hg => (ko3.lt g hg).2
        clear nd KD
        go_upto_region 6 with fail
        obtain ⟨w5, hy70⟩ : ∃ Y, (w4.alloc (Obj.cells #[Value.int IntKind.i64 (t).kind, Value.string { data := (t).name.toArray }, Value.string { data := (t).part.toArray }, Value.int IntKind.u64 (t).num, Value.int IntKind.i64 (t).wid, Value.int IntKind.i64 (t).at_, Value.slice KA t.kids.length KC] 25)) = Y := ⟨_, rfl⟩
        rw [hy70] at A68 sz69 B63 B65 B67 KZ ndZ ⊢
        clear hy70
        have B71 : Box w5 (W.heap.size) 25 #[Value.int IntKind.i64 0, Value.string { data := #[] }, Value.string { data := #[] }, Value.int IntKind.u64 0, Value.int IntKind.i64 0, Value.int IntKind.i64 0, Value.slice none 0 0] := B63
        have B72 : Box w5 (w1.heap.size) 25 #[Value.int IntKind.i64 6, Value.string { data := #[] }, Value.string { data := #[] }, Value.int IntKind.u64 0, Value.int IntKind.i64 0, Value.int IntKind.i64 a, (Value.slice A l.length c)] := B65
        have B73 : Box w5 (w4.heap.size) 25 #[Value.int IntKind.i64 (t).kind, Value.string { data := (t).name.toArray }, Value.string { data := (t).part.toArray }, Value.int IntKind.u64 (t).num, Value.int IntKind.i64 (t).wid, Value.int IntKind.i64 (t).at_, Value.slice KA t.kids.length KC] := B67
        obtain ⟨kc, ko, kr⟩ := KZ
        have c74 : w5.cell? ⟨w1.heap.size, 6, none⟩ = some ((Value.slice A l.length c)) := B72.cell 6
        have fz75 := B72.free
        have c76 : w5.cell? ⟨w4.heap.size, 0, none⟩ = some (Value.int IntKind.i64 (t).kind) := B73.cell 0
        have c77 : w5.cell? ⟨w4.heap.size, 1, none⟩ = some (Value.string { data := (t).name.toArray }) := B73.cell 1
        have c78 : w5.cell? ⟨w4.heap.size, 2, none⟩ = some (Value.string { data := (t).part.toArray }) := B73.cell 2
        have c79 : w5.cell? ⟨w4.heap.size, 3, none⟩ = some (Value.int IntKind.u64 (t).num) := B73.cell 3
        have c80 : w5.cell? ⟨w4.heap.size, 4, none⟩ = some (Value.int IntKind.i64 (t).wid) := B73.cell 4
        have c81 : w5.cell? ⟨w4.heap.size, 5, none⟩ = some (Value.int IntKind.i64 (t).at_) := B73.cell 5
        have c82 : w5.cell? ⟨w4.heap.size, 6, none⟩ = some (Value.slice KA t.kids.length KC) := B73.cell 6
        have fz83 := B73.free
        have ltr := A68.rs.lt
        go_wp2_with (at_builtin; refine wpList_append_lies _ rfl (.tmp 21) (.tmp 23) 23 rfl (w1.heap.size + 1) NT i0 _ 7 88 Tryz.underlying23 hi hz0 hz1 hz2 rfl (by decide) (Value.slice A l.length c) l.length kc (by first | rfl | simp [Act.eval]) (World.ownsRow.alloc ko _) ⟨w5.heap.size, 0, none⟩ 1 1 (nodeCells t (.slice KA (t).kids.length KC)) (by first | rfl | simp [Act.eval]) rfl (by exact World.news_of_block (heap_alloc_new _ _)) (nodeCells_one _ _ _ _) (by decide) (by unfold maxLen; omega) (by omega) (by first | omega | (simp <;> omega)) _ rfl ?_)
        intro g cap wA o2 g2 p2 z2
        have ap := appended A68 (by omega) ko kr (rowAt_fresh ndZ (by omega) hkl) o2 g2 (by
          rcases p2 with p2 | p2
          · exact .inl p2
          · right; simp at p2 ⊢; omega)
        clear o2 g2 p2 z2 ko kr ndZ hkl
        have BSr := ap.box B71 (by omega)
        have BSn := ap.box B72 (by omega)
        have KS := ap.kids
        have AS := ap.at_
        have q1 := BSn.cell 6
        have q2 := BSn.free 6
        have szA := BSn.lt
        have AT := AS.set BSn (by omega) 6 (Value.slice (some { block := g, off := 0 }) (l.length + 1) cap)
        have BTr := BSr.far (b' := w1.heap.size) (i := 6) (by omega) (Value.slice (some { block := g, off := 0 }) (l.length + 1) cap)
        have BTn := BSn.set 6 (Value.slice (some { block := g, off := 0 }) (l.length + 1) cap)
        have KT := Kids.far (b := w1.heap.size) (i := 6) (by omega) (Value.slice (some { block := g, off := 0 }) (l.length + 1) cap) KS
        have hme5 := meas_rs AT.rs
        have hle5 : 2 * (E.ts.length - s4.nx) + (if wd E.ts s4.nx = pRB then 0 else 1) ≤ g' ∧ 2 * (E.ts.length - s4.nx) + (if wd E.ts s4.nx = pRB then 0 else 1) < 2 * (E.ts.length - s2.nx) + 1 := by
          constructor <;> split <;> omega
        go_wp2_with fail
        go_roundw
        case rel => exact ⟨l ++ [t], some ⟨g, 0, none⟩, cap, g', s4, AT, BTr, by simpa using BTn, by simpa using KT, HY, hle5.1, by simp; omega⟩
        case measure => rw [hme1, hme5]; exact hle5.2

theorem CB_all {E : Env} : ∀ (f dp : Nat), dp + f = 10 → CB E dp (block E.ts f)
  | 0, dp, h10 => by
    intro w s h
    have hd : dp = 10 := by omega
    refine (block_walk (m := fail E.ts 10) (fun hlt => by omega) h).mono ?_
    intro e w' H
    have he : block E.ts 0 s = (fun s => if wd E.ts s.nx = pLB then nestedM E.ts dp (fail E.ts 10) s else fail E.ts 10 s) s := by
      simp only [block, nestedM]
      rw [if_pos hd]
    rw [he]
    exact H
  | f + 1, dp, h10 => by
    intro w s h
    have hd : ¬ dp = 10 := by omega
    refine (block_walk (m := readBlock E.ts (statement E.ts (expression E.ts f) (block E.ts f))) (fun _ w s h => readBlock_any (mv_statement E.ts (mv_expression E.ts f) (mv_block E.ts f)) (CM_statement (CE_all f (dp + 1) (by omega)) (CB_all f (dp + 1) (by omega))) h) h).mono ?_
    intro e w' H
    have he : block E.ts (f + 1) s = (fun s => if wd E.ts s.nx = pLB then nestedM E.ts dp (readBlock E.ts (statement E.ts (expression E.ts f) (block E.ts f))) s else fail E.ts 10 s) s := by
      simp only [block, nestedM]
      rw [if_neg hd]
    rw [he]
    exact H

end Go.Proofs.YtmkehecapjdfdaaGreatDoor

/- Items: what is left out, lists of names with types. -/
namespace Go.Proofs.YtmkehecapjdfdaaGreatDoor
open Go.RowKit

theorem At.goneL {E : Env} {W X : World} {dp dp2 : Nat} {s : St} {α : Type} {R : World → α → Value → Prop} {M : Res α} {l : Nat} (hl : l ≤ 2) (A : At E W X dp s) (HQ : Hid (M = .out l s)) :
    PostR E W dp2 R M (.panicked [{ v := .iface LV (.int .i64 l), recovered := false }]) X := by
  rw [HQ.out]
  exact ⟨[], dp, rfl, ⟨fun _ => A.rs.few, (fun x hx => by cases hx), hl⟩, { A.rs with few := by have := A.rs.few; omega }, A.kept⟩
section
variable {ts : List PTok} {g : Nat} {s : St}
theorem skipI_at (h : wd ts s.nx = kStruct ∨ wd ts s.nx = kFunc ∨ wd ts s.nx = kParse) : skipItem ts (g + 1) s = .ok () s := by
  simp only [skipItem]; rw [if_pos h]
theorem skipI_end (h : wd ts s.nx = wEnd) : skipItem ts (g + 1) s = .out 2 s := by
  simp only [skipItem]; rw [h, if_neg (by decide), if_pos rfl]
theorem skipI_go (h : ¬ (wd ts s.nx = kStruct ∨ wd ts s.nx = kFunc ∨ wd ts s.nx = kParse)) (h1 : wd ts s.nx ≠ wEnd) : skipItem ts (g + 1) s = skipItem ts g ⟨s.nx + 1, s.ds⟩ := by
  simp only [skipItem]; rw [if_neg h, if_neg h1]
end
def SiRel (E : Env) (W : World) (dp : Nat) (M : Res Unit) (wr : World) : Prop :=
  ∃ (g : Nat) (s2 : St), At E W wr dp s2 ∧ Hid (M = skipItem E.ts g s2) ∧ E.ts.length - s2.nx ≤ g
set_option maxRecDepth 100000 in
set_option maxHeartbeats 3200000 in
theorem skipItem_any {E : Env} {W : World} {dp : Nat} {s : St} (h : RS E 20 W dp s) :
    Calls Tryz.prog 63 #[.pointer (some ⟨E.r, 0, none⟩)] W (PostR E W dp RUnit (skipItem E.ts E.ts.length s)) := by
  have A0 := At.start h
  obtain ⟨M, hM⟩ : ∃ M, M = skipItem E.ts E.ts.length s := ⟨_, rfl⟩
  have HQ0 : Hid (M = skipItem E.ts E.ts.length s) := Lib.hid hM
  rw [← hM]
  clear hM
  go_enter Tryz.func63, Tryz.ntmps63
  go_wp2_with fail
  go_loopw [] (fun wr => SiRel E W dp M wr) (fun wr => E.ts.length - nxOf wr E.r)
  case atStart => exact ⟨_, s, A0, HQ0, by omega⟩
  case round =>
    obtain ⟨g, s2, Ar, HQ, hg⟩ := hrel
    clear A0 HQ0
    have hnx := Ar.rs.hnx
    have hf := Ar.rs.good.few
    have hlast := Ar.rs.good.last s2.nx hnx
    have hn2 := nxOf_rs Ar.rs
    obtain ⟨g', rfl⟩ : ∃ g', g = g' + 1 := ⟨g - 1, by omega⟩
    go_wp2_with fail
    refine (word_any Ar.rs).mono ?_
    rintro e w2 ⟨rfl, D⟩
    have A2 := Ar.later D.below
    obtain ⟨dv, r0, r1, _, _, _, _, _, _, rf, _⟩ := A2.rs.cells
    have rf1 := rf 1
    have hw1 : IntKind.i64.wrap ((s2.nx : Int) + 1) = (s2.nx : Int) + 1 := IntWalk.i64_in _ (by omega)
    clear Ar D rf
    by_cases ckStruct : wd E.ts s2.nx = kStruct
    · have HE := Lib.hid (HQ.out.trans (skipI_at (.inl ckStruct)))
      have bkStruct : (wd E.ts s2.nx == [115, 116, 114, 117, 99, 116]) = true := by rw [ckStruct]; rfl
      clear HQ
      go_wp2_with fail
      exact ⟨rfl, _, results_none rfl _ _ _, A2.ok HE rfl⟩
    have bkStruct : (wd E.ts s2.nx == [115, 116, 114, 117, 99, 116]) = false := by simpa [kStruct] using ckStruct
    by_cases ckFunc : wd E.ts s2.nx = kFunc
    · have HE := Lib.hid (HQ.out.trans (skipI_at (.inr (.inl ckFunc))))
      have bkFunc : (wd E.ts s2.nx == [102, 117, 110, 99]) = true := by rw [ckFunc]; rfl
      clear HQ
      go_wp2_with fail
      exact ⟨rfl, _, results_none rfl _ _ _, A2.ok HE rfl⟩
    have bkFunc : (wd E.ts s2.nx == [102, 117, 110, 99]) = false := by simpa [kFunc] using ckFunc
    by_cases ckParse : wd E.ts s2.nx = kParse
    · have HE := Lib.hid (HQ.out.trans (skipI_at (.inr (.inr ckParse))))
      have bkParse : (wd E.ts s2.nx == [112, 97, 114, 115, 101]) = true := by rw [ckParse]; rfl
      clear HQ
      go_wp2_with fail
      exact ⟨rfl, _, results_none rfl _ _ _, A2.ok HE rfl⟩
    have bkParse : (wd E.ts s2.nx == [112, 97, 114, 115, 101]) = false := by simpa [kParse] using ckParse
    by_cases cwEnd : wd E.ts s2.nx = wEnd
    · have HE := Lib.hid (HQ.out.trans (skipI_end cwEnd))
      have bwEnd : (wd E.ts s2.nx == [101, 110, 100]) = true := by rw [cwEnd]; rfl
      clear HQ
      go_wp2_with fail
      exact ⟨rfl, At.goneL (by decide) A2 HE⟩
    have bwEnd : (wd E.ts s2.nx == [101, 110, 100]) = false := by simpa [wEnd] using cwEnd
    have hlen := hlast cwEnd
    have AS := A2.step hlen
    have hnS := nxOf_rs AS.rs
    have hno : ¬ (wd E.ts s2.nx = kStruct ∨ wd E.ts s2.nx = kFunc ∨ wd E.ts s2.nx = kParse) := by rintro (h | h | h) <;> contradiction
    have HE := Lib.hid (HQ.out.trans (skipI_go hno cwEnd))
    clear HQ
    go_wp2_with fail
    go_roundw
    case rel => exact ⟨g', _, AS, HE, by simp; omega⟩
    case measure => rw [hn2, hnS]; first | omega | (simp; omega)
theorem Kids.one {w : World} {N M : Nat} {t : T} {A : Option Addr} {c : Nat} (h : nodeAt w (fun g => N ≤ g) t (.slice A t.kids.length c)) (hM : M ≤ N) (hw : M ≤ w.heap.size) :
    Kids (w.alloc (.cells (nodeCells t (.slice A t.kids.length c)).toArray NT)) M [t] (.slice (some ⟨w.heap.size, 0, none⟩) 1 1) := by
  refine ⟨_, World.ownsRow_lit w _ 1 hw (by decide) (by simp [nodeCells]), rowAt_one (nodeAt_imp' (fun g c hg hc => ?_) _ _ h)⟩
  have hlt := (Array.getElem?_eq_some_iff.1 hc).1
  exact ⟨⟨Nat.le_trans hM hg, fun e => by simp [Value.ownBlock] at e; omega⟩, (Below.heap_alloc w _ g hlt).trans hc⟩
def TnRel (E : Env) (W : World) (dp kind : Nat) (M : Res (List T)) (v : Value) (wr : World) : Prop :=
  ∃ (l : List T) (A : Option Addr) (c g : Nat) (s2 : St), v = .slice A l.length c ∧ At E W wr dp s2 ∧ Kids wr W.heap.size l (.slice A l.length c) ∧
    Hid (M = typedMore E.ts kind g l s2) ∧ E.ts.length - s2.nx ≤ g ∧ l.length ≤ s2.nx
set_option maxRecDepth 100000 in
set_option maxHeartbeats 3200000 in
theorem typedNames_any {E : Env} {W : World} {dp : Nat} {s : St} (kind : Nat) (h : RS E 20 W dp s) :
    Calls Tryz.prog 155 #[.pointer (some ⟨E.r, 0, none⟩), .int .i64 kind] W (PostR E W dp (RKidsX W.heap.size) (typedNames E.ts kind s)) := by
  have A0 := At.start h
  have HQ0 : Hid (typedNames E.ts kind s = bnd (typedName E.ts kind) (fun t => typedMore E.ts kind E.ts.length [t]) s) := Lib.hid rfl
  generalize hM : typedNames E.ts kind s = M at *
  clear hM
  obtain ⟨i0, hi, hz0, hz1, hz2⟩ := info_parts Tryz.infoNode
  go_enter Tryz.func155, Tryz.ntmps155
  go_wp2_with fail
  refine (typedName_any kind A0.rs).mono ?_
  intro e w1 H
  rcases H.cases with ⟨t1, s1, v, hm, rfl, ⟨KA1, KC1, rfl, nd1⟩, R, K⟩ | ⟨l, s', ch, hm, rfl, H1⟩
  rotate_left 1
  · exact ⟨rfl, A0.out HQ0 hm H1⟩
  have A1 := A0.call R K
  have HQ1 := hq_ok HQ0 hm
  have h01 := (mv_typedName E.ts kind).ok _ _ _ hm
  have sz1 := K.size
  have A2 := A1.alloc (.cells (nodeCells t1 (.slice KA1 t1.kids.length KC1)).toArray NT)
  have K2 := Kids.one nd1 (Nat.le_refl _) sz1
  clear HQ0 hm H R K A0 A1 nd1
  go_wp2_with fail
  go_loopw [5] (fun v wr => TnRel E W dp kind M v wr) (fun _ wr => E.ts.length - nxOf wr E.r)
  case atStart => exact ⟨[t1], _, 1, _, s1, rfl, A2, K2, HQ1, by omega, by simp; omega⟩
  case round =>
    rename_i wr
    obtain ⟨l, A, c, g, s2, rfl, Ar, Kr, HQ, hg, hl⟩ := hrel
    clear A2 HQ1 K2
    have hnx := Ar.rs.hnx
    have hf := Ar.rs.good.few
    have hwr := Ar.size
    obtain ⟨g', rfl⟩ : ∃ g', g = g' + 1 := ⟨g - 1, by omega⟩
    go_wp2_with fail
    refine (word_any Ar.rs).mono ?_
    rintro e w2 ⟨rfl, D⟩
    have A2 := Ar.later D.below
    have K2 := Kr.later (D.kept Ar.rs.baselt)
    have hw2 := A2.size
    by_cases hw : wd E.ts s2.nx = pComma
    · have hb : (wd E.ts s2.nx == [44]) = true := by rw [hw]; rfl
      have HQ2 : Hid (M = bnd (take E.ts pComma) (fun _ => bnd (typedName E.ts kind) fun t => typedMore E.ts kind g' (l ++ [t])) s2) := Lib.hid (by
        rw [HQ.out]
        simp only [typedMore]
        rw [if_pos hw])
      clear hw HQ D
      go_wp2_with fail
      refine (take_any pComma (by decide) A2.rs).mono ?_
      intro e w3 H
      rcases H.cases with ⟨t3, s3, v, hm, rfl, rfl, R, K⟩ | ⟨l, s', ch, hm, rfl, H1⟩
      rotate_left 1
      · exact ⟨rfl, A2.out HQ2 hm H1⟩
      have A3 := A2.call R K
      have HQ3 := hq_ok HQ2 hm
      have K3 := K2.later K
      have hw3 := A3.size
      have h23 : s2.nx ≤ s3.nx := ((mv_take E.ts pComma).z.ok _ _ _ hm)
      have hkl : ∀ g, (Value.slice A l.length c).ownBlock = some g → g < w3.heap.size := by
        obtain ⟨kc3, ko3, _⟩ := K3
        exact fun g hg => (ko3.lt g hg).2
      clear HQ2 hm H R K A2 K2
      go_wp2_with fail
      refine (typedName_any kind A3.rs).mono ?_
      intro e w4 H
      rcases H.cases with ⟨t, s4, v, hm, rfl, ⟨KA, KC, rfl, nd⟩, R, K⟩ | ⟨l, s', ch, hm, rfl, H1⟩
      rotate_left 1
      · exact ⟨rfl, A3.out HQ3 hm H1⟩
      have A4 := A3.call R K
      have HQ4 := hq_ok HQ3 hm
      have K4 := K3.later K
      have h34 := (mv_typedName E.ts kind).ok _ _ _ hm
      have hw4 := K.size
      obtain ⟨kc, ko, kr⟩ := K4
      clear HQ3 hm H R K A3 K3
      go_wp2_with (at_builtin; refine wpList_append_lies _ rfl (.tmp 15) (.tmp 19) 23 rfl W.heap.size NT i0 _ 7 88 Tryz.underlying23 hi hz0 hz1 hz2 rfl (by decide) (.slice A l.length c) l.length kc (by first | rfl | simp [Act.eval]) (World.ownsRow.alloc ko _) ⟨w4.heap.size, 0, none⟩ 1 1 (nodeCells t (.slice KA t.kids.length KC)) (by first | rfl | simp [Act.eval]) rfl (by exact World.news_of_block (heap_alloc_new _ _)) (nodeCells_one _ _ _ _) (by decide) (by unfold maxLen; omega) (by omega) (by first | omega | (simp <;> omega)) _ rfl ?_)
      intro g cap wA o2 g2 p2 z2
      have ap := appended A4 (Nat.le_refl _) ko kr (rowAt_fresh nd (by omega) hkl) o2 g2 (by simpa using p2)
      clear o2 g2 p2 z2 ko kr nd hkl
      have hn2 := nxOf_rs Ar.rs
      have hn4 := nxOf_rs ap.at_.rs
      clear Ar Kr A4
      go_wp2
      go_roundw
      case rel => exact ⟨l ++ [t], some ⟨g, 0, none⟩, cap, g', s4, by simp, ap.at_, by simpa using ap.kids, HQ4, by omega, by simp; omega⟩
      case measure => rw [hn2, hn4]; omega
    · have hb : (wd E.ts s2.nx == [44]) = false := by simpa [pComma] using hw
      have HQ2 : Hid (M = .ok l s2) := Lib.hid (by
        rw [HQ.out]
        simp only [typedMore]
        rw [if_neg hw])
      clear hw HQ D
      go_wp2
      go_ret
      exact A2.ok HQ2 ⟨A, c, rfl, K2⟩
end Go.Proofs.YtmkehecapjdfdaaGreatDoor
