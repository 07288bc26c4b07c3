/- Joined texts: PLook, PSign, PBin. -/
import Derived.Test.YtmkehecapjdfdaaGreatDoorQB2
import Derived.MapKept
import Derived.Deep.QuietTactic
import Derived.Deep.DeepCutAuto
import Derived.Deep.RegionLaw
import Derived.Deep.AppendLies

/- What the reader's maps answer. -/
namespace Go.Proofs.YtmkehecapjdfdaaGreatDoor
open Go.RowKit

def tabFind : List (Str × Nat) → Str → Option Nat
  | [], _ => none
  | (a, f) :: r, s => if a = s then some f else tabFind r s
theorem find_cons (a s : Str) (v : Value) (b : Nat) (es : List MapEntry) (i : Nat) :
    Instr.findNow .string (.string ⟨s.toArray⟩) (⟨.string ⟨a.toArray⟩, v, b⟩ :: es) i = if a = s then some (some (i, v)) else Instr.findNow .string (.string ⟨s.toArray⟩) es (i + 1) := by
  obtain ⟨r, hr, hiff⟩ := MapKept.sameNow_of_keys (d := .string) (a := .string ⟨s.toArray⟩) (b := .string ⟨a.toArray⟩) trivial trivial
  by_cases h : a = s
  · have : r = true := hiff.2 (by rw [h])
    subst this
    subst h
    simp [Instr.findNow, hr]
  · have : r = false := by
      cases r with
      | false => rfl
      | true => exact absurd (by have := hiff.1 rfl; simpa using this.symm) h
    subst this
    simp [Instr.findNow, hr, h]
theorem find_tab : ∀ (l : List (Str × Nat)) (s : Str) (k i : Nat), match tabFind l s with
    | some f => ∃ j, Instr.findNow .string (.string ⟨s.toArray⟩) (mapOf l k) i = some (some (j, .func (.func f) #[] #[]))
    | none => Instr.findNow .string (.string ⟨s.toArray⟩) (mapOf l k) i = some none
  | [], _, _, _ => rfl
  | (a, f) :: r, s, k, i => by
    have hh : Instr.findNow .string (.string ⟨s.toArray⟩) (mapOf ((a, f) :: r) k) i = _ := find_cons a s _ _ _ i
    have ih := find_tab r s (k + 1) (i + 1)
    unfold tabFind
    rw [hh]
    by_cases h : a = s
    · rw [if_pos h, if_pos h]
      exact ⟨i, rfl⟩
    · rw [if_neg h, if_neg h]
      exact ih
theorem find_num : ∀ (l : List Str) (s : Str) (k i : Nat), match signOf s (k + 1) l with
    | some n => ∃ j, Instr.findNow .string (.string ⟨s.toArray⟩) (numOf l k) i = some (some (j, .int .u64 n))
    | none => Instr.findNow .string (.string ⟨s.toArray⟩) (numOf l k) i = some none
  | [], _, _, _ => rfl
  | a :: r, s, k, i => by
    have hh : Instr.findNow .string (.string ⟨s.toArray⟩) (numOf (a :: r) k) i = _ := find_cons a s _ _ _ i
    have ih := find_num r s (k + 1) (i + 1)
    unfold signOf
    rw [hh]
    by_cases h : a = s
    · rw [if_pos h, if_pos h]
      exact ⟨i, rfl⟩
    · rw [if_neg h, if_neg h]
      exact ih
theorem look_raw {P : Program} {w : World} {t k e : TypeId} {d : TypeDesc} {es : Array MapEntry} {c mb i : Nat} {key v : Value} (hb : w.heap[mb]? = some (.map es c)) (hm : P.underlying t = some (.map k e)) (hd : P.underlying k = some d) (hk : MapKept.IsKey d key)
    (h : Instr.findNow d key es.toList 0 = some (some (i, v))) : (Instr.lookup t (.map (some mb)) key true).run P w = .ok (.tuple #[v, .bool true]) w := by
  simp [Instr.lookup, run_underlying hm, MapKept.run_getObj_map hb, MapKept.run_checkKey hd hk, MapKept.run_findKey hd h, Result.andThen]
theorem look_no {P : Program} {w : World} {t k e : TypeId} {d : TypeDesc} {es : Array MapEntry} {c mb : Nat} {key z : Value} (hb : w.heap[mb]? = some (.map es c)) (hm : P.underlying t = some (.map k e)) (hd : P.underlying k = some d) (hk : MapKept.IsKey d key)
    (h : Instr.findNow d key es.toList 0 = some none) (hz : ∀ w, (zeroValue e).run P w = .ok z w) : (Instr.lookup t (.map (some mb)) key true).run P w = .ok (.tuple #[z, .bool false]) w := by
  simp [Instr.lookup, run_underlying hm, MapKept.run_getObj_map hb, MapKept.run_checkKey hd hk, MapKept.run_findKey hd h, hz, Result.andThen]
theorem Tryz.mapM : Tryz.prog.underlying 77 = some (.map 9 73) := by kernel_rfl
theorem Tryz.mapN : Tryz.prog.underlying 78 = some (.map 9 22) := by kernel_rfl
theorem Tryz.strT : Tryz.prog.underlying 9 = some .string := by kernel_rfl
theorem Tryz.zeroM (w : World) : (zeroValue 73).run Tryz.prog w = .ok .nilFunc w := by kernel_rfl
theorem Tryz.zeroN (w : World) : (zeroValue 22).run Tryz.prog w = .ok (.int .u64 0) w := by kernel_rfl
theorem look_tab {tab : List (Str × Nat)} {w : World} {mb n : Nat} (hb : w.heap[mb]? = some (.map (mapOf tab).toArray n)) (s : Str) :
    (Instr.lookup 77 (.map (some mb)) (.string ⟨s.toArray⟩) true).run Tryz.prog w = .ok (match tabFind tab s with | some f => .tuple #[.func (.func f) #[] #[], .bool true] | none => .tuple #[.nilFunc, .bool false]) w := by
  have hf := find_tab tab s 0 0
  cases ht : tabFind tab s with
  | some f =>
    rw [ht] at hf
    obtain ⟨j, hj⟩ := hf
    exact look_raw hb Tryz.mapM Tryz.strT trivial hj
  | none =>
    rw [ht] at hf
    exact look_no hb Tryz.mapM Tryz.strT trivial hf Tryz.zeroM
theorem look_num {w : World} {mb n : Nat} (hb : w.heap[mb]? = some (.map (numOf signWords).toArray n)) (s : Str) :
    (Instr.lookup 78 (.map (some mb)) (.string ⟨s.toArray⟩) true).run Tryz.prog w = .ok (match signOf s 1 signWords with | some k => .tuple #[.int .u64 k, .bool true] | none => .tuple #[.int .u64 0, .bool false]) w := by
  have hf := find_num signWords s 0 0
  cases ht : signOf s 1 signWords with
  | some f =>
    rw [ht] at hf
    obtain ⟨j, hj⟩ := hf
    exact look_raw hb Tryz.mapN Tryz.strT trivial hj
  | none =>
    rw [ht] at hf
    exact look_no hb Tryz.mapN Tryz.strT trivial hf Tryz.zeroN
/-- A method's contract, at a depth. -/
def CM (E : Env) (dp F : Nat) (m : PM T) : Prop := ∀ (w : World) (s : St), RS E 20 w dp s → Calls Tryz.prog F #[.pointer (some ⟨E.r, 0, none⟩)] w (PostR E w dp (RNodeX w.heap.size) (m s))
def choose (ts : List PTok) (tab : List (Str × Nat)) : PM Nat := fun s => match tabFind tab (wd ts s.nx) with
  | some f => .ok f s
  | none => fail ts 10 s
def RFun (_ : World) (f : Nat) (v : Value) : Prop := v = .func (.func f) #[] #[]
end Go.Proofs.YtmkehecapjdfdaaGreatDoor

/- Signs; the method for the next token; what is one deeper. -/
namespace Go.Proofs.YtmkehecapjdfdaaGreatDoor
open Go.RowKit

/-- A function with a body of its own is entered. -/
def Bod (F : Nat) : Prop := ∀ (args : Array Value) (w : World), (callFunc F args).run Tryz.prog w = .ok (.enter F args) w
theorem sign_end : signOf wEnd 1 signWords = none := by decide
set_option maxRecDepth 100000 in
set_option maxHeartbeats 1600000 in
theorem sign_any {E : Env} {W : World} {dp : Nat} {s : St} (h : RS E 20 W dp s) :
    Calls Tryz.prog 164 #[.pointer (some ⟨E.r, 0, none⟩)] W (PostR E W dp (RNat .u64) (sign E.ts s)) := by
  have A0 := At.start h
  have HQ0 : Hid (sign E.ts s = match signOf (wd E.ts s.nx) 1 signWords with | none => fail E.ts 10 s | some n => bnd (take E.ts (wd E.ts s.nx)) (fun _ => ret n) s) := Lib.hid rfl
  generalize hM : sign E.ts s = M at *
  clear hM
  go_enter Tryz.func164, Tryz.ntmps164
  go_wp2_with fail
  refine (word_any h).mono ?_
  rintro e w1 ⟨rfl, n1, rfl⟩
  have A1 := A0.drewN n1
  have hrun := look_num (w := W.drewN n1) A1.rs.fix.mg (wd E.ts s.nx)
  obtain ⟨dv, r0, r1, r2, r3, r4, r5, r6, r7, rf, _⟩ := A1.rs.cells
  cases hs : signOf (wd E.ts s.nx) 1 signWords with
  | none =>
    rw [hs] at hrun
    have HQ1 : Hid (M = fail E.ts 10 s) := Lib.hid (by rw [HQ0.out, hs])
    clear HQ0 hs
    go_wp2_with fail
    refine (fail_any (RNat .u64) 10 A1.rs).mono ?_
    intro e w2 H
    rcases H.cases with ⟨t, s1, v, hm, rfl, rfl, R, K⟩ | ⟨l, s', ch, hm, rfl, H1⟩
    · cases hm
    · exact ⟨rfl, A1.outs (Lib.hid (HQ1.out.trans hm)) H1⟩
  | some n =>
    rw [hs] at hrun
    have hE : wd E.ts s.nx ≠ wEnd := fun e => by rw [e, sign_end] at hs; cases hs
    have HQ1 : Hid (M = bnd (take E.ts (wd E.ts s.nx)) (fun _ => ret n) s) := Lib.hid (by rw [HQ0.out, hs])
    clear HQ0 hs
    go_wp2_with fail
    refine (take_any (wd E.ts s.nx) hE A1.rs).mono ?_
    intro e w2 H
    rcases H.cases with ⟨t, s1, v, hm, rfl, rfl, R, K⟩ | ⟨l, s', ch, hm, rfl, H1⟩
    · have A2 := A1.call R K
      have HQ2 := hq_ok HQ1 hm
      clear HQ1 hm hrun
      go_wp2
      go_ret
      exact A2.ok HQ2 rfl
    · exact ⟨rfl, A1.out HQ1 hm H1⟩

set_option maxRecDepth 100000 in
set_option maxHeartbeats 1600000 in
theorem choose_any {tab : List (Str × Nat)} {mb n : Nat} {E : Env} {W : World} {dp : Nat} {s : St} (hmb : W.heap[mb]? = some (.map (mapOf tab).toArray n)) (h : RS E 20 W dp s) :
    Calls Tryz.prog 124 #[.pointer (some ⟨E.r, 0, none⟩), .map (some mb)] W (PostR E W dp RFun (choose E.ts tab s)) := by
  have A0 := At.start h
  have HQ0 : Hid (choose E.ts tab s = match tabFind tab (wd E.ts s.nx) with | some f => .ok f s | none => fail E.ts 10 s) := Lib.hid rfl
  generalize hM : choose E.ts tab s = M at *
  clear hM
  go_enter Tryz.func124, Tryz.ntmps124
  go_wp2_with fail
  refine (word_any h).mono ?_
  rintro e w1 ⟨rfl, n1, rfl⟩
  have A1 := A0.drewN n1
  have hrun := look_tab (w := W.drewN n1) (tab := tab) (n := n) hmb (wd E.ts s.nx)
  cases hs : tabFind tab (wd E.ts s.nx) with
  | none =>
    rw [hs] at hrun
    have HQ1 : Hid (M = fail E.ts 10 s) := Lib.hid (by rw [HQ0.out, hs])
    clear HQ0 hs
    go_wp2_with fail
    refine (fail_any RFun 10 A1.rs).mono ?_
    intro e w2 H
    rcases H.cases with ⟨t, s1, v, hm, rfl, rfl, R, K⟩ | ⟨l, s', ch, hm, rfl, H1⟩
    · cases hm
    · exact ⟨rfl, A1.outs (Lib.hid (HQ1.out.trans hm)) H1⟩
  | some f =>
    rw [hs] at hrun
    have HQ1 : Hid (M = .ok f s) := Lib.hid (by rw [HQ0.out, hs])
    clear HQ0 hs
    go_wp2
    go_ret
    exact A1.ok HQ1 rfl

def nestedM (ts : List PTok) (dp : Nat) (m : PM T) : PM T := fun s => if dp = 10 then fail ts 11 s else m s
set_option maxRecDepth 100000 in
set_option maxHeartbeats 3200000 in
theorem nested_any {E : Env} {W : World} {dp : Nat} {s : St} {G : Nat} {m : PM T} (hG : Bod G) (hm0 : dp < 10 → CM E (dp + 1) G m) (h : RS E 20 W dp s) :
    Calls Tryz.prog 185 #[.pointer (some ⟨E.r, 0, none⟩), .func (.func G) #[] #[]] W (PostR E W dp (RNodeX W.heap.size) (nestedM E.ts dp m s)) := by
  have A0 := At.start h
  have HQ0 : Hid (nestedM E.ts dp m s = (fun s => if dp = 10 then fail E.ts 11 s else m s) s) := Lib.hid rfl
  generalize hM : nestedM E.ts dp m s = M at *
  clear hM
  obtain ⟨dv, r0, r1, r2, r3, _, _, _, _, rf, _⟩ := h.cells
  have hlt := h.lt
  have hd10 := h.hdp
  have hne : ¬ E.r = W.heap.size := by omega
  have hne2 : ¬ W.heap.size = E.r := by omega
  by_cases hd : dp = 10
  · have hb : ((dp : Int) == 10) = true := by simp; omega
    have HQ1 : Hid (M = fail E.ts 11 s) := Lib.hid (HQ0.out.trans (if_pos hd))
    have A1 := A0.alloc (Obj.cells #[Value.int IntKind.i64 0, Value.string { data := #[] }, Value.string { data := #[] }, Value.int IntKind.u64 0, Value.int IntKind.i64 0, Value.int IntKind.i64 0, Value.slice none 0 0] 25)
    clear hd HQ0
    go_enter Tryz.func185, Tryz.ntmps185
    go_wp2_with fail
    refine (fail_any (RNodeX W.heap.size) 11 A1.rs).mono ?_
    intro e w1 H
    rcases H.cases with ⟨t, s1, v, hm, rfl, R0, R, K⟩ | ⟨l, s', ch, hm, rfl, H1⟩
    · cases hm
    · exact ⟨rfl, A1.outs (Lib.hid (HQ1.out.trans hm)) H1⟩
  have hb : ((dp : Int) == 10) = false := by simp; omega
  have hdl : dp < 10 := by omega
  have hc := hm0 hdl
  have hbd := fun args w => hG args w
  have HQ1 : Hid (M = m s) := Lib.hid (HQ0.out.trans (if_neg hd))
  have hw1 : IntKind.i64.wrap ((dp : Int) + 1) = (dp : Int) + 1 := IntWalk.i64_in _ (by omega)
  have hw2 : IntKind.i64.wrap (dp : Int) = (dp : Int) := IntWalk.i64_in _ (by omega)
  clear hd HQ0 hm0
  have U := (Upd.start (h.blk r3)).set 2 (.int .i64 ((dp : Int) + 1))
  obtain ⟨k1, k2⟩ := h.upd r3 h.hnx (show dp + 1 ≤ 10 by omega) U rfl
  have A1 : At E W (W.setCell ⟨E.r, 2, none⟩ (.int .i64 ((dp : Int) + 1))) (dp + 1) s := A0.call k1 k2
  have hz : (W.setCell ⟨E.r, 2, none⟩ (.int .i64 ((dp : Int) + 1))).heap.size = W.heap.size := by simp [World.setCell]
  have B1 := Box.new (W.setCell ⟨E.r, 2, none⟩ (.int .i64 ((dp : Int) + 1))) 25 #[Value.int IntKind.i64 0, Value.string { data := #[] }, Value.string { data := #[] }, Value.int IntKind.u64 0, Value.int IntKind.i64 0, Value.int IntKind.i64 0, Value.slice none 0 0]
  have A2 := A1.alloc (Obj.cells #[Value.int IntKind.i64 0, Value.string { data := #[] }, Value.string { data := #[] }, Value.int IntKind.u64 0, Value.int IntKind.i64 0, Value.int IntKind.i64 0, Value.slice none 0 0] 25)
  rw [hz] at B1
  have hz2 : ((W.setCell ⟨E.r, 2, none⟩ (.int .i64 ((dp : Int) + 1))).alloc (Obj.cells #[Value.int IntKind.i64 0, Value.string { data := #[] }, Value.string { data := #[] }, Value.int IntKind.u64 0, Value.int IntKind.i64 0, Value.int IntKind.i64 0, Value.slice none 0 0] 25)).heap.size = W.heap.size + 1 := by rw [World.size_alloc, hz]
  clear U k1 k2 A1 hz
  go_enter Tryz.func185, Tryz.ntmps185
  go_wp2_with fail
  refine (hc _ _ A2.rs).mono ?_
  intro e w1 H
  rcases H.cases with ⟨t, s1, v, hm, rfl, ⟨KA, KC, rfl, nd⟩, R, K⟩ | ⟨l, s', ch, hm, rfl, H1⟩
  rotate_left 1
  · exact ⟨rfl, A2.outs (Lib.hid (HQ1.out.trans hm)) H1⟩
  have A3 := A2.call R K
  have HQ3 : Hid (M = .ok t s1) := Lib.hid (HQ1.out.trans hm)
  have B3 : Box w1 (W.heap.size) 25 #[Value.int IntKind.i64 0, Value.string { data := #[] }, Value.string { data := #[] }, Value.int IntKind.u64 0, Value.int IntKind.i64 0, Value.int IntKind.i64 0, Value.slice none 0 0] := B1.kept K (by decide)
  have sz3 := K.size
  rw [hz2] at sz3 nd
  clear HQ1 hm H R K r0 r1 r2 r3 rf A2 B1 hz2
  obtain ⟨dv, r0, r1, r2, r3, _, _, _, _, rf, _⟩ := A3.rs.cells
  have U := (Upd.start (A3.rs.blk r3)).set 2 (.int .i64 (dp : Int))
  obtain ⟨k1, k2⟩ := A3.rs.upd r3 A3.rs.hnx (show dp ≤ 10 by omega) U rfl
  have A4 : At E W (w1.setCell ⟨E.r, 2, none⟩ (.int .i64 (dp : Int))) dp s1 := A3.call k1 k2
  have hlt1 := A3.rs.lt
  have hz : (w1.setCell ⟨E.r, 2, none⟩ (.int .i64 (dp : Int))).heap.size = w1.heap.size := by simp [World.setCell]
  have B4 := B3.far (b' := E.r) (i := 2) hne2 (.int .i64 (dp : Int))
  have nd4 := nodeAt_imp (w' := w1.setCell ⟨E.r, 2, none⟩ (.int .i64 (dp : Int))) (fun _ h => h) (fun g c hg hc => (Below.heap_setCell _ ⟨E.r, 2, none⟩ (.int .i64 (dp : Int)) g (by simp; omega)).trans hc) _ _ nd
  have A5 := A4.alloc (Obj.cells #[Value.int IntKind.i64 (t).kind, Value.string { data := (t).name.toArray }, Value.string { data := (t).part.toArray }, Value.int IntKind.u64 (t).num, Value.int IntKind.i64 (t).wid, Value.int IntKind.i64 (t).at_, Value.slice KA t.kids.length KC] 25)
  have B5 := B4.alloc (Obj.cells #[Value.int IntKind.i64 (t).kind, Value.string { data := (t).name.toArray }, Value.string { data := (t).part.toArray }, Value.int IntKind.u64 (t).num, Value.int IntKind.i64 (t).wid, Value.int IntKind.i64 (t).at_, Value.slice KA t.kids.length KC] 25)
  have N5 := Box.new (w1.setCell ⟨E.r, 2, none⟩ (.int .i64 (dp : Int))) 25 #[Value.int IntKind.i64 (t).kind, Value.string { data := (t).name.toArray }, Value.string { data := (t).part.toArray }, Value.int IntKind.u64 (t).num, Value.int IntKind.i64 (t).wid, Value.int IntKind.i64 (t).at_, Value.slice KA t.kids.length KC]
  have nd5 := nodeAt_kept (Kept.of (B := 0) ((Below.refl _ _).alloc (Nat.le_refl _) (Obj.cells #[Value.int IntKind.i64 (t).kind, Value.string { data := (t).name.toArray }, Value.string { data := (t).part.toArray }, Value.int IntKind.u64 (t).num, Value.int IntKind.i64 (t).wid, Value.int IntKind.i64 (t).at_, Value.slice KA t.kids.length KC] 25)) (Nat.zero_le _)) nd4
  rw [hz] at N5
  have hnn : ¬ w1.heap.size = E.r := by omega
  have hnn2 : ¬ E.r = w1.heap.size := by omega
  have hnn3 : ¬ W.heap.size = w1.heap.size := by omega
  have hz5 : ((w1.setCell ⟨E.r, 2, none⟩ (.int .i64 (dp : Int))).alloc (Obj.cells #[Value.int IntKind.i64 (t).kind, Value.string { data := (t).name.toArray }, Value.string { data := (t).part.toArray }, Value.int IntKind.u64 (t).num, Value.int IntKind.i64 (t).wid, Value.int IntKind.i64 (t).at_, Value.slice KA t.kids.length KC] 25)).heap.size = w1.heap.size + 1 := by rw [World.size_alloc, hz]
  clear U k1 k2 A4 B4 nd4 hz A3 B3 nd
  go_upto_region 6 with fail
  obtain ⟨w6, hy⟩ : ∃ Y, (w1.setCell ⟨E.r, 2, none⟩ (.int .i64 (dp : Int))).alloc (Obj.cells #[Value.int IntKind.i64 (t).kind, Value.string { data := (t).name.toArray }, Value.string { data := (t).part.toArray }, Value.int IntKind.u64 (t).num, Value.int IntKind.i64 (t).wid, Value.int IntKind.i64 (t).at_, Value.slice KA t.kids.length KC] 25) = Y := ⟨_, rfl⟩
  rw [hy] at A5 B5 N5 nd5 hz5 ⊢
  clear hy r0 r1 r2 r3 rf
  have c1 : w6.cell? ⟨w1.heap.size, 0, none⟩ = some (Value.int IntKind.i64 (t).kind) := N5.cell 0
  have c2 : w6.cell? ⟨w1.heap.size, 1, none⟩ = some (Value.string { data := (t).name.toArray }) := N5.cell 1
  have c3 : w6.cell? ⟨w1.heap.size, 2, none⟩ = some (Value.string { data := (t).part.toArray }) := N5.cell 2
  have c4 : w6.cell? ⟨w1.heap.size, 3, none⟩ = some (Value.int IntKind.u64 (t).num) := N5.cell 3
  have c5 : w6.cell? ⟨w1.heap.size, 4, none⟩ = some (Value.int IntKind.i64 (t).wid) := N5.cell 4
  have c6 : w6.cell? ⟨w1.heap.size, 5, none⟩ = some (Value.int IntKind.i64 (t).at_) := N5.cell 5
  have c7 : w6.cell? ⟨w1.heap.size, 6, none⟩ = some (Value.slice KA t.kids.length KC) := N5.cell 6
  have fz8 := N5.free
  have c9 : w6.cell? ⟨W.heap.size, 0, none⟩ = some (Value.int IntKind.i64 0) := B5.cell 0
  have c10 : w6.cell? ⟨W.heap.size, 1, none⟩ = some (Value.string { data := #[] }) := B5.cell 1
  have c11 : w6.cell? ⟨W.heap.size, 2, none⟩ = some (Value.string { data := #[] }) := B5.cell 2
  have c12 : w6.cell? ⟨W.heap.size, 3, none⟩ = some (Value.int IntKind.u64 0) := B5.cell 3
  have c13 : w6.cell? ⟨W.heap.size, 4, none⟩ = some (Value.int IntKind.i64 0) := B5.cell 4
  have c14 : w6.cell? ⟨W.heap.size, 5, none⟩ = some (Value.int IntKind.i64 0) := B5.cell 5
  have c15 : w6.cell? ⟨W.heap.size, 6, none⟩ = some (Value.slice none 0 0) := B5.cell 6
  have fz16 := B5.free
  go_wp2
  refine bodyPost_ret (v := .agg #[Value.int IntKind.i64 (t).kind, Value.string { data := (t).name.toArray }, Value.string { data := (t).part.toArray }, Value.int IntKind.u64 (t).num, Value.int IntKind.i64 (t).wid, Value.int IntKind.i64 (t).at_, Value.slice KA t.kids.length KC]) ?_ rfl ?_
  · simp [results, Tryz.results185, go_sem, c9, c10, c11, c12, c13, c14, c15]
  · exact (A5.fill B5 (Nat.le_refl _) _ _ _ _ _ _ _).ok HQ3 ⟨_, _, rfl, nodeAt_le (M := W.heap.size + 1) (by omega) (nodeAt_fill (M := W.heap.size + 1) (by omega) _ _ _ _ _ _ _ nd5)⟩

end Go.Proofs.YtmkehecapjdfdaaGreatDoor

/- Two expressions with a sign. -/
namespace Go.Proofs.YtmkehecapjdfdaaGreatDoor
open Go.RowKit

set_option maxRecDepth 100000 in
set_option maxHeartbeats 6400000 in
theorem readBin_any {E : Env} {W : World} {dp : Nat} {s : St} {x : PM T} (he : CE E dp x) (h : RS E 20 W dp s) :
    Calls Tryz.prog 117 #[.pointer (some ⟨E.r, 0, none⟩)] W (PostR E W dp (RNodeX W.heap.size) (readBin E.ts x s)) := by
  have A0 := At.start h
  have HQ0 : Hid (readBin E.ts x s = bnd (begin_ E.ts 27 pLP) (fun n => bnd x fun a => bnd (sign E.ts) fun q => bnd x fun b => bnd (take E.ts pRP) fun _ => ret (.mk 27 [] [] q 0 n.at_ [a, b])) s) := Lib.hid rfl
  generalize hM : readBin E.ts x s = M at *
  clear hM
  have hb1 := A0.size
  have B2 := Box.new (W) 25 #[Value.int IntKind.i64 0, Value.string { data := #[] }, Value.string { data := #[] }, Value.int IntKind.u64 0, Value.int IntKind.i64 0, Value.int IntKind.i64 0, Value.slice none 0 0]
  have A3 := A0.alloc (Obj.cells #[Value.int IntKind.i64 0, Value.string { data := #[] }, Value.string { data := #[] }, Value.int IntKind.u64 0, Value.int IntKind.i64 0, Value.int IntKind.i64 0, Value.slice none 0 0] 25)
  have sz4 : (W.alloc (Obj.cells #[Value.int IntKind.i64 0, Value.string { data := #[] }, Value.string { data := #[] }, Value.int IntKind.u64 0, Value.int IntKind.i64 0, Value.int IntKind.i64 0, Value.slice none 0 0] 25)).heap.size = W.heap.size + 1 := by simp
  obtain ⟨i0, hi, hz0, hz1, hz2⟩ := info_parts Tryz.infoNode
  go_enter Tryz.func117, Tryz.ntmps117
  go_wp2_with fail
  refine (begin_any 27 pLP (by decide) A3.rs).mono ?_
  intro e w1 H
  rcases H.cases with ⟨n, s1, v, hm5, rfl, ⟨a, rfl, rfl⟩, R, K⟩ | ⟨l, s', ch, hm, rfl, H1⟩
  rotate_left 1
  · exact ⟨rfl, A3.out HQ0 hm H1⟩
  have A6 := A3.call R K
  have HQ7 := hq_ok HQ0 hm5
  have B8 : Box w1 (W.heap.size) 25 #[Value.int IntKind.i64 0, Value.string { data := #[] }, Value.string { data := #[] }, Value.int IntKind.u64 0, Value.int IntKind.i64 0, Value.int IntKind.i64 0, Value.slice none 0 0] := B2.kept K (by decide)
  have sz9 := K.size
  clear HQ0 hm5 H R K
  have hb10 := A6.size
  have B11 := B8.alloc (Obj.cells #[Value.int IntKind.i64 27, Value.string { data := #[] }, Value.string { data := #[] }, Value.int IntKind.u64 0, Value.int IntKind.i64 0, Value.int IntKind.i64 a, Value.slice none 0 0] 25)
  have lt12 := B8.lt
  have B13 := Box.new (w1) 25 #[Value.int IntKind.i64 27, Value.string { data := #[] }, Value.string { data := #[] }, Value.int IntKind.u64 0, Value.int IntKind.i64 0, Value.int IntKind.i64 a, Value.slice none 0 0]
  have A14 := A6.alloc (Obj.cells #[Value.int IntKind.i64 27, Value.string { data := #[] }, Value.string { data := #[] }, Value.int IntKind.u64 0, Value.int IntKind.i64 0, Value.int IntKind.i64 a, Value.slice none 0 0] 25)
  have sz15 : (w1.alloc (Obj.cells #[Value.int IntKind.i64 27, Value.string { data := #[] }, Value.string { data := #[] }, Value.int IntKind.u64 0, Value.int IntKind.i64 0, Value.int IntKind.i64 a, Value.slice none 0 0] 25)).heap.size = w1.heap.size + 1 := by simp
  go_wp2_with fail
  refine (he _ _ A14.rs).mono ?_
  intro e w2 H
  rcases H.cases with ⟨tl, s2, v, hm16, rfl, ⟨KL, CL, rfl, ndl⟩, R, K⟩ | ⟨l, s', ch, hm, rfl, H1⟩
  rotate_left 1
  · exact ⟨rfl, A14.out HQ7 hm H1⟩
  have A17 := A14.call R K
  have HQ18 := hq_ok HQ7 hm16
  have B19 : Box w2 (W.heap.size) 25 #[Value.int IntKind.i64 0, Value.string { data := #[] }, Value.string { data := #[] }, Value.int IntKind.u64 0, Value.int IntKind.i64 0, Value.int IntKind.i64 0, Value.slice none 0 0] := B11.kept K (by decide)
  have B20 : Box w2 (w1.heap.size) 25 #[Value.int IntKind.i64 27, Value.string { data := #[] }, Value.string { data := #[] }, Value.int IntKind.u64 0, Value.int IntKind.i64 0, Value.int IntKind.i64 a, Value.slice none 0 0] := B13.kept K (by decide)
  have sz21 := K.size
  clear HQ7 hm16 H R K
  have ndl0 := nodeAt_kept (Kept.of (B := 0) ((Below.refl _ _).alloc (Nat.le_refl _) (Obj.cells #[Value.int IntKind.i64 (tl).kind, Value.string { data := (tl).name.toArray }, Value.string { data := (tl).part.toArray }, Value.int IntKind.u64 (tl).num, Value.int IntKind.i64 (tl).wid, Value.int IntKind.i64 (tl).at_, Value.slice KL tl.kids.length CL] 25)) (Nat.zero_le _)) ndl
  have hb22 := A17.size
  have B23 := B19.alloc (Obj.cells #[Value.int IntKind.i64 (tl).kind, Value.string { data := (tl).name.toArray }, Value.string { data := (tl).part.toArray }, Value.int IntKind.u64 (tl).num, Value.int IntKind.i64 (tl).wid, Value.int IntKind.i64 (tl).at_, Value.slice KL tl.kids.length CL] 25)
  have lt24 := B19.lt
  have B25 := B20.alloc (Obj.cells #[Value.int IntKind.i64 (tl).kind, Value.string { data := (tl).name.toArray }, Value.string { data := (tl).part.toArray }, Value.int IntKind.u64 (tl).num, Value.int IntKind.i64 (tl).wid, Value.int IntKind.i64 (tl).at_, Value.slice KL tl.kids.length CL] 25)
  have lt26 := B20.lt
  have B27 := Box.new (w2) 25 #[Value.int IntKind.i64 (tl).kind, Value.string { data := (tl).name.toArray }, Value.string { data := (tl).part.toArray }, Value.int IntKind.u64 (tl).num, Value.int IntKind.i64 (tl).wid, Value.int IntKind.i64 (tl).at_, Value.slice KL tl.kids.length CL]
  have A28 := A17.alloc (Obj.cells #[Value.int IntKind.i64 (tl).kind, Value.string { data := (tl).name.toArray }, Value.string { data := (tl).part.toArray }, Value.int IntKind.u64 (tl).num, Value.int IntKind.i64 (tl).wid, Value.int IntKind.i64 (tl).at_, Value.slice KL tl.kids.length CL] 25)
  have sz29 : (w2.alloc (Obj.cells #[Value.int IntKind.i64 (tl).kind, Value.string { data := (tl).name.toArray }, Value.string { data := (tl).part.toArray }, Value.int IntKind.u64 (tl).num, Value.int IntKind.i64 (tl).wid, Value.int IntKind.i64 (tl).at_, Value.slice KL tl.kids.length CL] 25)).heap.size = w2.heap.size + 1 := by simp
  go_wp2_with fail
  refine (sign_any A28.rs).mono ?_
  intro e w3 H
  rcases H.cases with ⟨q, s3, v, hm30, rfl, rfl, R, K⟩ | ⟨l, s', ch, hm, rfl, H1⟩
  rotate_left 1
  · exact ⟨rfl, A28.out HQ18 hm H1⟩
  have A31 := A28.call R K
  have HQ32 := hq_ok HQ18 hm30
  have B33 : Box w3 (W.heap.size) 25 #[Value.int IntKind.i64 0, Value.string { data := #[] }, Value.string { data := #[] }, Value.int IntKind.u64 0, Value.int IntKind.i64 0, Value.int IntKind.i64 0, Value.slice none 0 0] := B23.kept K (by decide)
  have B34 : Box w3 (w1.heap.size) 25 #[Value.int IntKind.i64 27, Value.string { data := #[] }, Value.string { data := #[] }, Value.int IntKind.u64 0, Value.int IntKind.i64 0, Value.int IntKind.i64 a, Value.slice none 0 0] := B25.kept K (by decide)
  have B35 : Box w3 (w2.heap.size) 25 #[Value.int IntKind.i64 (tl).kind, Value.string { data := (tl).name.toArray }, Value.string { data := (tl).part.toArray }, Value.int IntKind.u64 (tl).num, Value.int IntKind.i64 (tl).wid, Value.int IntKind.i64 (tl).at_, Value.slice KL tl.kids.length CL] := B27.kept K (by decide)
  have N36 := nodeAt_kept K ndl0
  have sz37 := K.size
  clear HQ18 hm30 H R K
  have c38 : w3.cell? ⟨w1.heap.size, 3, none⟩ = some (Value.int IntKind.u64 0) := B34.cell 3
  have fz39 := B34.free
  have A40 := A31.set B34 hb10 3 (Value.int IntKind.u64 q)
  have B41 := B33.far (b' := w1.heap.size) (i := 3) (by omega) (Value.int IntKind.u64 q)
  have B42 := B35.far (b' := w1.heap.size) (i := 3) (by omega) (Value.int IntKind.u64 q)
  have B43 := B34.set 3 (Value.int IntKind.u64 q)
  have sz44 : (w3.setCell { block := w1.heap.size, off := 3 } (Value.int IntKind.u64 q)).heap.size = w3.heap.size := by simp [World.setCell]
  have ndl1 := nodeAt_far (b := w1.heap.size) (i := 3) (by omega) (Value.int IntKind.u64 q) N36
  go_wp2_with fail
  obtain ⟨w4, hy45⟩ : ∃ Y, (w3.setCell { block := w1.heap.size, off := 3 } (Value.int IntKind.u64 q)) = Y := ⟨_, rfl⟩
  rw [hy45] at A40 sz44 B41 B43 B42 ndl1 ⊢
  clear hy45
  have B46 : Box w4 (W.heap.size) 25 #[Value.int IntKind.i64 0, Value.string { data := #[] }, Value.string { data := #[] }, Value.int IntKind.u64 0, Value.int IntKind.i64 0, Value.int IntKind.i64 0, Value.slice none 0 0] := B41
  have B47 : Box w4 (w1.heap.size) 25 #[Value.int IntKind.i64 27, Value.string { data := #[] }, Value.string { data := #[] }, Value.int IntKind.u64 q, Value.int IntKind.i64 0, Value.int IntKind.i64 a, Value.slice none 0 0] := B43
  have B48 : Box w4 (w2.heap.size) 25 #[Value.int IntKind.i64 (tl).kind, Value.string { data := (tl).name.toArray }, Value.string { data := (tl).part.toArray }, Value.int IntKind.u64 (tl).num, Value.int IntKind.i64 (tl).wid, Value.int IntKind.i64 (tl).at_, Value.slice KL tl.kids.length CL] := B42
  have ndL := nodeAt_le (M' := w1.heap.size + 1) (by omega) ndl1
  have c49 : w4.cell? ⟨w1.heap.size, 6, none⟩ = some (Value.slice none 0 0) := B47.cell 6
  have fz50 := B47.free
  have c51 : w4.cell? ⟨w2.heap.size, 0, none⟩ = some (Value.int IntKind.i64 (tl).kind) := B48.cell 0
  have c52 : w4.cell? ⟨w2.heap.size, 1, none⟩ = some (Value.string { data := (tl).name.toArray }) := B48.cell 1
  have c53 : w4.cell? ⟨w2.heap.size, 2, none⟩ = some (Value.string { data := (tl).part.toArray }) := B48.cell 2
  have c54 : w4.cell? ⟨w2.heap.size, 3, none⟩ = some (Value.int IntKind.u64 (tl).num) := B48.cell 3
  have c55 : w4.cell? ⟨w2.heap.size, 4, none⟩ = some (Value.int IntKind.i64 (tl).wid) := B48.cell 4
  have c56 : w4.cell? ⟨w2.heap.size, 5, none⟩ = some (Value.int IntKind.i64 (tl).at_) := B48.cell 5
  have c57 : w4.cell? ⟨w2.heap.size, 6, none⟩ = some (Value.slice KL tl.kids.length CL) := B48.cell 6
  have fz58 := B48.free
  have ltr := A40.rs.lt
  have hMs : w1.heap.size + 1 ≤ w4.heap.size := by omega
  go_region_law (first
    | (go_simp; go_at_call 161; refine (he _ _ A40.drew.rs).mono ?_; intro e w5 H; rcases H.cases with ⟨t1, s5, v, hm, rfl, ⟨KA1, KC1, rfl, nd1⟩, R, K⟩ | ⟨l, s', ch, hm, rfl, H1⟩; rotate_left 1; exact ⟨rfl, A40.drew.out HQ32 hm H1⟩; have AR1 := A40.drew.call R K; have HQR1 := hq_ok HQ32 hm; have BRres1 : Box w5 (W.heap.size) 25 #[Value.int IntKind.i64 0, Value.string { data := #[] }, Value.string { data := #[] }, Value.int IntKind.u64 0, Value.int IntKind.i64 0, Value.int IntKind.i64 0, Value.slice none 0 0] := Box.kept (w := w4.drew) B46 K (by decide); have BRn1 : Box w5 (w1.heap.size) 25 #[Value.int IntKind.i64 27, Value.string { data := #[] }, Value.string { data := #[] }, Value.int IntKind.u64 q, Value.int IntKind.i64 0, Value.int IntKind.i64 a, Value.slice none 0 0] := Box.kept (w := w4.drew) B47 K (by decide); have BRl1 : Box w5 (w2.heap.size) 25 #[Value.int IntKind.i64 (tl).kind, Value.string { data := (tl).name.toArray }, Value.string { data := (tl).part.toArray }, Value.int IntKind.u64 (tl).num, Value.int IntKind.i64 (tl).wid, Value.int IntKind.i64 (tl).at_, Value.slice KL tl.kids.length CL] := Box.kept (w := w4.drew) B48 K (by decide); have q01 : ∀ o, (w5.alloc o).cell? ⟨w1.heap.size, 6, none⟩ = some (Value.slice none 0 0) := fun o => (BRn1.alloc o).cell 6; have q001 := BRn1.cell 6; have szR1 : w4.heap.size ≤ w5.heap.size := K.size; have l10 : ∀ o, (w5.alloc o).cell? ⟨w2.heap.size, 0, none⟩ = some (Value.int IntKind.i64 (tl).kind) := fun o => (BRl1.alloc o).cell 0; have k10 : w5.cell? ⟨w2.heap.size, 0, none⟩ = some (Value.int IntKind.i64 (tl).kind) := BRl1.cell 0; have l11 : ∀ o, (w5.alloc o).cell? ⟨w2.heap.size, 1, none⟩ = some (Value.string { data := (tl).name.toArray }) := fun o => (BRl1.alloc o).cell 1; have k11 : w5.cell? ⟨w2.heap.size, 1, none⟩ = some (Value.string { data := (tl).name.toArray }) := BRl1.cell 1; have l12 : ∀ o, (w5.alloc o).cell? ⟨w2.heap.size, 2, none⟩ = some (Value.string { data := (tl).part.toArray }) := fun o => (BRl1.alloc o).cell 2; have k12 : w5.cell? ⟨w2.heap.size, 2, none⟩ = some (Value.string { data := (tl).part.toArray }) := BRl1.cell 2; have l13 : ∀ o, (w5.alloc o).cell? ⟨w2.heap.size, 3, none⟩ = some (Value.int IntKind.u64 (tl).num) := fun o => (BRl1.alloc o).cell 3; have k13 : w5.cell? ⟨w2.heap.size, 3, none⟩ = some (Value.int IntKind.u64 (tl).num) := BRl1.cell 3; have l14 : ∀ o, (w5.alloc o).cell? ⟨w2.heap.size, 4, none⟩ = some (Value.int IntKind.i64 (tl).wid) := fun o => (BRl1.alloc o).cell 4; have k14 : w5.cell? ⟨w2.heap.size, 4, none⟩ = some (Value.int IntKind.i64 (tl).wid) := BRl1.cell 4; have l15 : ∀ o, (w5.alloc o).cell? ⟨w2.heap.size, 5, none⟩ = some (Value.int IntKind.i64 (tl).at_) := fun o => (BRl1.alloc o).cell 5; have k15 : w5.cell? ⟨w2.heap.size, 5, none⟩ = some (Value.int IntKind.i64 (tl).at_) := BRl1.cell 5; have l16 : ∀ o, (w5.alloc o).cell? ⟨w2.heap.size, 6, none⟩ = some (Value.slice KL tl.kids.length CL) := fun o => (BRl1.alloc o).cell 6; have k16 : w5.cell? ⟨w2.heap.size, 6, none⟩ = some (Value.slice KL tl.kids.length CL) := BRl1.cell 6; have ndLk1 := nodeAt_kept K (w := w4.drew) (nodeDrew ndL); clear K R H hm)
    | (refine step_append_lies _ rfl (.tmp 13) (.tmp 17) 23 rfl (w1.heap.size + 1) 25 i0 _ 7 88 Tryz.underlying23 hi hz0 hz1 hz2 rfl (by decide) (Value.slice none 0 0) 0 [] (by simp [Act.eval]) (World.ownsRow.alloc (World.ownsRow_nil _ _ _ _) _) ⟨w5.heap.size, 0, none⟩ 2 2 (nodeCells tl (.slice KL (tl).kids.length CL) ++ nodeCells t1 (.slice KA1 (t1).kids.length KC1)) (by simp [Act.eval]) rfl (by exact World.news_of_block (heap_alloc_new _ _)) (nodeCells_two _ _ _ _ _ _ _ _) (by decide) (by unfold maxLen; omega) (by omega) (by first | omega | (simp <;> omega)) _ rfl ?_; intro g cap wA o2 g2 p2 z2; have ap := appended AR1 (by omega) (World.ownsRow_nil _ _ _ _) (show rowAt _ _ [] [] from rfl) (rowAt_append [tl] [t1] _ _ (rowAt_fresh ndLk1 (by first | omega | (simp <;> omega)) no_own) (rowAt_fresh nd1 (by first | omega | (simp <;> omega)) no_own)) o2 g2 p2; have q1 : wA.cell? ⟨w1.heap.size, 6, none⟩ = some (Value.slice none 0 0) := (ap.box BRn1 (by omega)).cell 6; have q2 := (ap.box BRn1 (by omega)).free 6))
  all_goals
    have szA : w5.heap.size ≤ wA.heap.size := by have := g2.size; simp at this; omega
    clear q01 q001 q1 q2 o2 g2 p2
    have BSres := ap.box BRres1 (by omega)
    have BSn := ap.box BRn1 (by omega)
    have KS := ap.kids
    have AS := ap.at_
    have A59 := AS.set BSn hb10 6 (Value.slice (some { block := g, off := 0 }) (0 + 2) cap)
    have B60 := BSres.far (b' := w1.heap.size) (i := 6) (by omega) (Value.slice (some { block := g, off := 0 }) (0 + 2) cap)
    have B61 := BSn.set 6 (Value.slice (some { block := g, off := 0 }) (0 + 2) cap)
    have sz62 : (wA.setCell { block := w1.heap.size, off := 6 } (Value.slice (some { block := g, off := 0 }) (0 + 2) cap)).heap.size = wA.heap.size := by simp [World.setCell]
    have KF := Kids.far (b := w1.heap.size) (i := 6) (by omega) (Value.slice (some { block := g, off := 0 }) (0 + 2) cap) KS
    obtain ⟨w6, hy63⟩ : ∃ Y, (wA.setCell { block := w1.heap.size, off := 6 } (Value.slice (some { block := g, off := 0 }) (0 + 2) cap)) = Y := ⟨_, rfl⟩
    rw [hy63] at A59 sz62 B60 B61 KF ⊢
    clear hy63
    have B64 : Box w6 (W.heap.size) 25 #[Value.int IntKind.i64 0, Value.string { data := #[] }, Value.string { data := #[] }, Value.int IntKind.u64 0, Value.int IntKind.i64 0, Value.int IntKind.i64 0, Value.slice none 0 0] := B60
    have B65 : Box w6 (w1.heap.size) 25 #[Value.int IntKind.i64 27, Value.string { data := #[] }, Value.string { data := #[] }, Value.int IntKind.u64 q, Value.int IntKind.i64 0, Value.int IntKind.i64 a, Value.slice (some { block := g, off := 0 }) (0 + 2) cap] := B61
    go_wp2_with fail
    refine (take_any pRP (by decide) A59.rs).mono ?_
    intro e w7 H
    rcases H.cases with ⟨t3, s7, v, hm66, rfl, rfl, R, K⟩ | ⟨l, s', ch, hm, rfl, H1⟩
    rotate_left 1
    · exact ⟨rfl, A59.out HQR1 hm H1⟩
    have A67 := A59.call R K
    have HQ68 := hq_ok HQR1 hm66
    have B69 : Box w7 (W.heap.size) 25 #[Value.int IntKind.i64 0, Value.string { data := #[] }, Value.string { data := #[] }, Value.int IntKind.u64 0, Value.int IntKind.i64 0, Value.int IntKind.i64 0, Value.slice none 0 0] := B64.kept K (by decide)
    have B70 : Box w7 (w1.heap.size) 25 #[Value.int IntKind.i64 27, Value.string { data := #[] }, Value.string { data := #[] }, Value.int IntKind.u64 q, Value.int IntKind.i64 0, Value.int IntKind.i64 a, Value.slice (some { block := g, off := 0 }) (0 + 2) cap] := B65.kept K (by decide)
    have Q71 := Kids.later KF K
    have sz72 := K.size
    clear HQR1 hm66 H R K
    have c73 : w7.cell? ⟨w1.heap.size, 0, none⟩ = some (Value.int IntKind.i64 27) := B70.cell 0
    have c74 : w7.cell? ⟨w1.heap.size, 1, none⟩ = some (Value.string { data := #[] }) := B70.cell 1
    have c75 : w7.cell? ⟨w1.heap.size, 2, none⟩ = some (Value.string { data := #[] }) := B70.cell 2
    have c76 : w7.cell? ⟨w1.heap.size, 3, none⟩ = some (Value.int IntKind.u64 q) := B70.cell 3
    have c77 : w7.cell? ⟨w1.heap.size, 4, none⟩ = some (Value.int IntKind.i64 0) := B70.cell 4
    have c78 : w7.cell? ⟨w1.heap.size, 5, none⟩ = some (Value.int IntKind.i64 a) := B70.cell 5
    have c79 : w7.cell? ⟨w1.heap.size, 6, none⟩ = some (Value.slice (some { block := g, off := 0 }) (0 + 2) cap) := B70.cell 6
    have fz80 := B70.free
    have c81 : w7.cell? ⟨W.heap.size, 0, none⟩ = some (Value.int IntKind.i64 0) := B69.cell 0
    have c82 : w7.cell? ⟨W.heap.size, 1, none⟩ = some (Value.string { data := #[] }) := B69.cell 1
    have c83 : w7.cell? ⟨W.heap.size, 2, none⟩ = some (Value.string { data := #[] }) := B69.cell 2
    have c84 : w7.cell? ⟨W.heap.size, 3, none⟩ = some (Value.int IntKind.u64 0) := B69.cell 3
    have c85 : w7.cell? ⟨W.heap.size, 4, none⟩ = some (Value.int IntKind.i64 0) := B69.cell 4
    have c86 : w7.cell? ⟨W.heap.size, 5, none⟩ = some (Value.int IntKind.i64 0) := B69.cell 5
    have c87 : w7.cell? ⟨W.heap.size, 6, none⟩ = some (Value.slice none 0 0) := B69.cell 6
    have fz88 := B69.free
    go_wp2
    refine bodyPost_ret (v := .agg #[Value.int IntKind.i64 27, Value.string { data := #[] }, Value.string { data := #[] }, Value.int IntKind.u64 q, Value.int IntKind.i64 0, Value.int IntKind.i64 a, Value.slice (some { block := g, off := 0 }) (0 + 2) cap]) ?_ rfl ?_
    · simp [results, Tryz.results117, go_sem, c81, c82, c83, c84, c85, c86, c87]
    · exact (A67.fill B69 (Nat.le_refl _) _ _ _ _ _ _ _).ok HQ68 ⟨_, _, rfl, nodeAt_le (M := w1.heap.size + 1) (by omega) (nodeAt_fill (M := w1.heap.size + 1) (by omega) _ _ _ _ _ _ _ (Q71.node _ _ _ _ _ _))⟩

end Go.Proofs.YtmkehecapjdfdaaGreatDoor
