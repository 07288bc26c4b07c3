/- Joined texts: PTrW, PTrO. -/
import Derived.Test.YtmkehecapjdfdaaGreatDoorQZ1
import Derived.Test.YtmkehecapjdfdaaGreatDoorQV3
import Derived.Test.YtmkehecapjdfdaaGreatDoorQB3
import Derived.Test.YtmkehecapjdfdaaGreatDoorQV4
import Derived.Test.YtmkehecapjdfdaaGreatDoorShelf
import Derived.Deep.RegionHeld3
import Derived.IntWalk

/- ParserTrees: what a part begins with. -/
namespace Go.Proofs.YtmkehecapjdfdaaGreatDoor
open Go.RowKit

def smOf : List (Nat × Str) → Nat → List MapEntry
  | [], _ => []
  | (a, s) :: r, i => ⟨.int .i64 a, .string ⟨s.toArray⟩, i⟩ :: smOf r (i + 1)
theorem smOf_snoc : ∀ (l : List (Nat × Str)) (i : Nat) (a : Nat) (s : Str), smOf (l ++ [(a, s)]) i = smOf l i ++ [⟨.int .i64 a, .string ⟨s.toArray⟩, i + l.length⟩]
  | [], _, _, _ => rfl
  | (b, t) :: r, i, a, s => by
    rw [List.cons_append, smOf, smOf_snoc r (i + 1) a s, smOf, List.cons_append]
    rw [show i + 1 + r.length = i + ((b, t) :: r).length by simp; omega]
theorem find_int : ∀ (l : List (Nat × Str)) (k i j : Nat), match startF k l with
    | some s => ∃ m, Instr.findNow (.int .i64) (.int .i64 k) (smOf l j) i = some (some (m, .string ⟨s.toArray⟩))
    | none => Instr.findNow (.int .i64) (.int .i64 k) (smOf l j) i = some none
  | [], _, _, _ => rfl
  | (a, s) :: r, k, i, j => by
    have ih := find_int r k (i + 1) (j + 1)
    have hh : Instr.findNow (.int .i64) (.int .i64 k) (smOf ((a, s) :: r) j) i = if a = k then some (some (i, .string ⟨s.toArray⟩)) else Instr.findNow (.int .i64) (.int .i64 k) (smOf r (j + 1)) (i + 1) := by
      by_cases h : a = k
      · subst h
        simp [smOf, Instr.findNow, Instr.sameNow]
      · rw [if_neg h]
        have : ((k : Int) == (a : Int)) = false := by simp; omega
        simp [smOf, Instr.findNow, Instr.sameNow, this]
    unfold startF
    rw [hh]
    by_cases h : a = k
    · rw [if_pos h, if_pos h]; exact ⟨i, rfl⟩
    · rw [if_neg h, if_neg h]; exact ih
/-- The first entries of the table, as they lie. -/
def smA (k : Nat) : Array MapEntry := (smOf (startTab.take k) 0).toArray
theorem Tryz.mapS : Tryz.prog.underlying 118 = some (.map 3 9) := by kernel_rfl
theorem Tryz.intT : Tryz.prog.underlying 3 = some (.int .i64) := by kernel_rfl
theorem Tryz.zeroS (w : World) : (zeroValue 9).run Tryz.prog w = .ok (.string ⟨#[]⟩) w := by kernel_rfl
theorem heap_set (X : World) (n : Nat) (hn : X.heap.size = n) (o o' : Obj) : ({ X.alloc o with heap := (X.alloc o).heap.setIfInBounds n o' } : World) = X.alloc o' := by
  subst hn
  have h : (X.heap.push o).setIfInBounds X.heap.size o' = X.heap.push o' := by
    apply Array.ext_getElem?
    intro i
    rw [Array.getElem?_setIfInBounds, Array.getElem?_push, Array.getElem?_push, Array.size_push]
    by_cases e : X.heap.size = i
    · subst e; simp
    · have e2 : ¬ i = X.heap.size := fun h => e h.symm
      simp [e, e2]
  simp only [World.alloc, h]
theorem start_put (X : World) (k a : Nat) (s : Str) (h : startTab[k]? = some (a, s)) (hno : startF a (startTab.take k) = none) :
    (Instr.mapUpdate 118 (.map (some X.heap.size)) (.int .i64 a) (.string ⟨s.toArray⟩)).run Tryz.prog (X.alloc (.map (smA k) k)) = .ok () (X.alloc (.map (smA (k + 1)) (k + 1))) := by
  have hb : (X.alloc (.map (smA k) k)).heap[X.heap.size]? = some (.map (smA k) k) := heap_alloc_new X _
  have hf := find_int (startTab.take k) a 0 0
  rw [hno] at hf
  have hf2 : Instr.findNow (.int .i64) (.int .i64 a) (smA k).toList 0 = some none := by unfold smA; simpa using hf
  have hlt : k < startTab.length := by
    rcases Nat.lt_or_ge k startTab.length with h1 | h1
    · exact h1
    · rw [List.getElem?_eq_none h1] at h; cases h
  have he : smA (k + 1) = (smA k).push ⟨.int .i64 a, .string ⟨s.toArray⟩, k⟩ := by
    unfold smA
    have : startTab[k] = (a, s) := by rw [List.getElem?_eq_getElem hlt] at h; exact Option.some.inj h
    rw [List.take_succ_eq_append_getElem hlt, this, smOf_snoc, List.length_take]
    simp [Nat.min_eq_left (Nat.le_of_lt hlt)]
  rw [he]
  simp [Instr.mapUpdate, run_underlying Tryz.mapS, MapKept.run_getObj_map hb, MapKept.run_checkKey Tryz.intT (show MapKept.IsKey (.int .i64) (.int .i64 (a : Int)) from rfl), MapKept.run_findKey Tryz.intT hf2, MapKept.run_setObj_map _ hb, Result.andThen]
  exact heap_set X _ rfl _ _
theorem start_look (w : World) (mb k : Nat) (hb : w.heap[mb]? = some (.map (smA 14) 14)) :
    (Instr.lookup 118 (.map (some mb)) (.int .i64 k) true).run Tryz.prog w = .ok (match startF k startTab with | some s => .tuple #[.string ⟨s.toArray⟩, .bool true] | none => .tuple #[.string ⟨#[]⟩, .bool false]) w := by
  have hf := find_int startTab k 0 0
  have e : (smA 14).toList = smOf startTab 0 := by unfold smA; rfl
  cases ht : startF k startTab with
  | some f =>
    rw [ht] at hf
    obtain ⟨j, hj⟩ := hf
    exact look_raw hb Tryz.mapS Tryz.intT rfl (by rw [e]; exact hj)
  | none =>
    rw [ht] at hf
    exact look_no hb Tryz.mapS Tryz.intT rfl (by rw [e]; exact hf) Tryz.zeroS
def startB (k : Nat) (nm : ByteArray) : ByteArray := match startF k startTab with | some s => ⟨s.toArray⟩ | none => nm
theorem startB_S (k : Nat) (nm : Str) : startB k ⟨nm.toArray⟩ = ⟨(startS k nm).toArray⟩ := by
  unfold startB startS
  cases startF k startTab <;> rfl
set_option maxRecDepth 100000 in
set_option maxHeartbeats 3200000 in
theorem starts_any (k : Nat) (nm p : ByteArray) (x : Nat) (y z : Int) (kv : Value) (w : World) :
    Calls Tryz.prog 41 #[.agg #[.int .i64 k, .string nm, .string p, .int .u64 x, .int .i64 y, .int .i64 z, kv]] w fun e w' => e = .returned (.string (startB k nm)) ∧ Below w.heap.size w w' := by
  have hmm := @run_makeMap Tryz.prog
  obtain ⟨R, hR⟩ : ∃ R, Hid (startB k nm = R) := ⟨_, Lib.hid rfl⟩
  rw [hR.out]
  go_enter Tryz.func41, Tryz.ntmps41
  go_upto_region 1 with fail
  have N0 := Box.new w 25 #[Value.int IntKind.i64 k, .string nm, .string p, .int .u64 x, .int .i64 y, .int .i64 z, kv]
  have B0 : Below w.heap.size w (w.alloc (.cells #[Value.int IntKind.i64 k, .string nm, .string p, .int .u64 x, .int .i64 y, .int .i64 z, kv] 25)) := (Below.refl _ _).alloc (Nat.le_refl _) _
  obtain ⟨X, hX⟩ : ∃ Y, (w.alloc (.cells #[Value.int IntKind.i64 k, .string nm, .string p, .int .u64 x, .int .i64 y, .int .i64 z, kv] 25)) = Y := ⟨_, rfl⟩
  rw [hX] at N0 B0 ⊢
  clear hX
  have h0 : (Instr.mapUpdate 118 (.map (some X.heap.size)) (.int .i64 2) (.string ⟨#[115, 116, 114, 117, 99, 116]⟩)).run Tryz.prog (X.alloc (.map #[] 0)) = .ok () (X.alloc (.map (smA 1) 1)) := start_put X 0 2 _ rfl rfl
  have h1 : (Instr.mapUpdate 118 (.map (some X.heap.size)) (.int .i64 4) (.string ⟨#[102, 117, 110, 99]⟩)).run Tryz.prog (X.alloc (.map (smA 1) 1)) = .ok () (X.alloc (.map (smA 2) 2)) := start_put X 1 4 _ rfl rfl
  have h2 : (Instr.mapUpdate 118 (.map (some X.heap.size)) (.int .i64 7) (.string ⟨#[108, 101, 116]⟩)).run Tryz.prog (X.alloc (.map (smA 2) 2)) = .ok () (X.alloc (.map (smA 3) 3)) := start_put X 2 7 _ rfl rfl
  have h3 : (Instr.mapUpdate 118 (.map (some X.heap.size)) (.int .i64 11) (.string ⟨#[110, 101, 119]⟩)).run Tryz.prog (X.alloc (.map (smA 3) 3)) = .ok () (X.alloc (.map (smA 4) 4)) := start_put X 3 11 _ rfl rfl
  have h4 : (Instr.mapUpdate 118 (.map (some X.heap.size)) (.int .i64 12) (.string ⟨#[109, 97, 107, 101]⟩)).run Tryz.prog (X.alloc (.map (smA 4) 4)) = .ok () (X.alloc (.map (smA 5) 5)) := start_put X 4 12 _ rfl rfl
  have h5 : (Instr.mapUpdate 118 (.map (some X.heap.size)) (.int .i64 13) (.string ⟨#[102, 114, 101, 101]⟩)).run Tryz.prog (X.alloc (.map (smA 5) 5)) = .ok () (X.alloc (.map (smA 6) 6)) := start_put X 5 13 _ rfl rfl
  have h6 : (Instr.mapUpdate 118 (.map (some X.heap.size)) (.int .i64 14) (.string ⟨#[115, 97, 109, 101]⟩)).run Tryz.prog (X.alloc (.map (smA 6) 6)) = .ok () (X.alloc (.map (smA 7) 7)) := start_put X 6 14 _ rfl rfl
  have h7 : (Instr.mapUpdate 118 (.map (some X.heap.size)) (.int .i64 15) (.string ⟨#[105, 102]⟩)).run Tryz.prog (X.alloc (.map (smA 7) 7)) = .ok () (X.alloc (.map (smA 8) 8)) := start_put X 7 15 _ rfl rfl
  have h8 : (Instr.mapUpdate 118 (.map (some X.heap.size)) (.int .i64 16) (.string ⟨#[119, 104, 105, 108, 101]⟩)).run Tryz.prog (X.alloc (.map (smA 8) 8)) = .ok () (X.alloc (.map (smA 9) 9)) := start_put X 8 16 _ rfl rfl
  have h9 : (Instr.mapUpdate 118 (.map (some X.heap.size)) (.int .i64 17) (.string ⟨#[101, 109, 105, 116]⟩)).run Tryz.prog (X.alloc (.map (smA 9) 9)) = .ok () (X.alloc (.map (smA 10) 10)) := start_put X 9 17 _ rfl rfl
  have h10 : (Instr.mapUpdate 118 (.map (some X.heap.size)) (.int .i64 18) (.string ⟨#[97, 99, 99, 101, 112, 116]⟩)).run Tryz.prog (X.alloc (.map (smA 10) 10)) = .ok () (X.alloc (.map (smA 11) 11)) := start_put X 10 18 _ rfl rfl
  have h11 : (Instr.mapUpdate 118 (.map (some X.heap.size)) (.int .i64 19) (.string ⟨#[114, 101, 106, 101, 99, 116]⟩)).run Tryz.prog (X.alloc (.map (smA 11) 11)) = .ok () (X.alloc (.map (smA 12) 12)) := start_put X 11 19 _ rfl rfl
  have h12 : (Instr.mapUpdate 118 (.map (some X.heap.size)) (.int .i64 20) (.string ⟨#[114, 101, 116, 117, 114, 110]⟩)).run Tryz.prog (X.alloc (.map (smA 12) 12)) = .ok () (X.alloc (.map (smA 13) 13)) := start_put X 12 20 _ rfl rfl
  have h13 : (Instr.mapUpdate 118 (.map (some X.heap.size)) (.int .i64 6) (.string ⟨#[123]⟩)).run Tryz.prog (X.alloc (.map (smA 13) 13)) = .ok () (X.alloc (.map (smA 14) 14)) := start_put X 13 6 _ rfl rfl
  go_upto_region 2 with fail
  have N1 := N0.alloc (.map (smA 14) 14)
  have B1 := B0.alloc B0.size (.map (smA 14) 14)
  have L := start_look _ X.heap.size k (heap_alloc_new X (.map (smA 14) 14))
  clear h0 h1 h2 h3 h4 h5 h6 h7 h8 h9 h10 h11 h12 h13 hmm N0 B0
  have c0 := N1.cell 0
  have c1 := N1.cell 1
  obtain ⟨Y, hY⟩ : ∃ Y, X.alloc (.map (smA 14) 14) = Y := ⟨_, rfl⟩
  rw [hY] at N1 B1 L c0 c1 ⊢
  clear hY N1
  cases hs : startF k startTab with
  | some s =>
    rw [hs] at L
    have hQ : Hid (R = ⟨s.toArray⟩) := Lib.hid (by rw [← hR.out]; unfold startB; rw [hs])
    clear hR hs
    go_wp2
    go_ret
    exact ⟨by rw [hQ.out]; rfl, B1⟩
  | none =>
    rw [hs] at L
    have hQ : Hid (R = nm) := Lib.hid (by rw [← hR.out]; unfold startB; rw [hs])
    clear hR hs
    go_wp2
    go_ret
    exact ⟨by rw [hQ.out]; rfl, B1⟩
end Go.Proofs.YtmkehecapjdfdaaGreatDoor

/- ParserTrees: whether parts stand in order. -/
namespace Go.Proofs.YtmkehecapjdfdaaGreatDoor
open Go.RowKit

theorem ordL_get {s : Str} : ∀ (l : List T) (x : Int), OrdL s x l → ∀ i (h : i < l.length), lastAt x (l.take i) < l[i].at_ ∧ OkT s l[i]
  | [], _, _, i, h => by simp at h
  | t :: r, x, ho, 0, _ => ⟨ho.1, ho.2.1⟩
  | t :: r, x, ho, i + 1, h => ordL_get r t.at_ ho.2.2 i (by simpa using h)
theorem lastAt_succ (l : List T) (x : Int) (i : Nat) (h : i < l.length) : lastAt x (l.take (i + 1)) = l[i].at_ := by
  rw [List.take_succ_eq_append_getElem h, lastAt_snoc]
theorem lastAt_ge : ∀ (l : List T) (x : Int), -1 ≤ x → -1 ≤ lastAt x l
  | [], _, h => h
  | t :: r, _, _ => lastAt_ge r _ (by omega)
theorem kids_get {s : Str} {a : Nat} : ∀ (l : List T), KidsO s a l → ∀ i (h : i < l.length), l[i].kind = 6 → a < l[i].at_ ∧ OkT s l[i]
  | [], _, i, h => by simp at h
  | t :: r, k, 0, _ => k.1
  | t :: r, k, i + 1, h => kids_get r k.2 i (by simpa using h)
theorem okT_parts {s : Str} {t : T} (h : OkT s t) : t.at_ ≤ s.length ∧ startS t.kind t.name <+: s.drop t.at_ ∧ (t.kind = 6 → OrdL s (-1) t.kids) ∧ KidsO s t.at_ t.kids := by
  cases t; exact h
def StartC (k : Nat) (nm p : ByteArray) (x : Nat) (y z : Int) (kv : Value) (R : ByteArray) : Prop := ∀ w, Calls Tryz.prog 41 #[.agg #[.int .i64 k, .string nm, .string p, .int .u64 x, .int .i64 y, .int .i64 z, kv]] w fun e w' => e = .returned (.string R) ∧ Below w.heap.size w w'
theorem startUse {k : Nat} {nm p : ByteArray} {x : Nat} {y z : Int} {kv : Value} {R : ByteArray} (h : Hid (StartC k nm p x y z kv R)) (w : World) : Calls Tryz.prog 41 #[.agg #[.int .i64 k, .string nm, .string p, .int .u64 x, .int .i64 y, .int .i64 z, kv]] w fun e w' => e = .returned (.string R) ∧ Below w.heap.size w w' := h.out w
def PreC (S R : ByteArray) : Prop := ∀ w, Calls Tryz.prog 40 #[.string S, .string R] w fun e w' => e = .returned (.bool true) ∧ w = w'
theorem preUse {S R : ByteArray} (h : Hid (PreC S R)) (w : World) : Calls Tryz.prog 40 #[.string S, .string R] w fun e w' => e = .returned (.bool true) ∧ w = w' := h.out w
theorem pre_any {s : ByteArray} {R : Str} {k : Nat} (h : R <+: s.data.toList.drop k) : PreC (s.extract k s.size) ⟨R.toArray⟩ := fun w => by
  refine (Tryz.strings_HasPrefix (s.extract k s.size) ⟨R.toArray⟩ w).mono ?_
  rintro e w' ⟨rfl, rfl⟩
  refine ⟨?_, rfl⟩
  have e1 : (s.extract k s.size).data.toList = s.data.toList.drop k := by
    simp
    apply List.take_of_length_le
    simp
  have : Lib.hasPrefix (s.extract k s.size).data.toList (⟨R.toArray⟩ : ByteArray).data.toList = true := by
    rw [e1]
    unfold Lib.hasPrefix
    simpa using h
  rw [this]
theorem okeep {X W w1 : World} {p : Nat} {v0 v1 v2 v3 v4 v5 v6 : Value} (hb : Below W.heap.size W w1) (h : W.cell? ⟨p, 0, none⟩ = some v0 ∧ W.cell? ⟨p, 1, none⟩ = some v1 ∧ W.cell? ⟨p, 2, none⟩ = some v2 ∧ W.cell? ⟨p, 3, none⟩ = some v3 ∧ W.cell? ⟨p, 4, none⟩ = some v4 ∧ W.cell? ⟨p, 5, none⟩ = some v5 ∧ W.cell? ⟨p, 6, none⟩ = some v6 ∧ Below X.heap.size X W) :
    w1.cell? ⟨p, 0, none⟩ = some v0 ∧ w1.cell? ⟨p, 1, none⟩ = some v1 ∧ w1.cell? ⟨p, 2, none⟩ = some v2 ∧ w1.cell? ⟨p, 3, none⟩ = some v3 ∧ w1.cell? ⟨p, 4, none⟩ = some v4 ∧ w1.cell? ⟨p, 5, none⟩ = some v5 ∧ w1.cell? ⟨p, 6, none⟩ = some v6 ∧ Below X.heap.size X w1 :=
  ⟨cell_later hb h.1, cell_later hb h.2.1, cell_later hb h.2.2.1, cell_later hb h.2.2.2.1, cell_later hb h.2.2.2.2.1, cell_later hb h.2.2.2.2.2.1, cell_later hb h.2.2.2.2.2.2.1, h.2.2.2.2.2.2.2.trans (hb.mono h.2.2.2.2.2.2.2.size)⟩
theorem odrew {X W : World} {p : Nat} {v0 v1 v2 v3 v4 v5 v6 : Value} (h : W.cell? ⟨p, 0, none⟩ = some v0 ∧ W.cell? ⟨p, 1, none⟩ = some v1 ∧ W.cell? ⟨p, 2, none⟩ = some v2 ∧ W.cell? ⟨p, 3, none⟩ = some v3 ∧ W.cell? ⟨p, 4, none⟩ = some v4 ∧ W.cell? ⟨p, 5, none⟩ = some v5 ∧ W.cell? ⟨p, 6, none⟩ = some v6 ∧ Below X.heap.size X W) :
    W.drew.cell? ⟨p, 0, none⟩ = some v0 ∧ W.drew.cell? ⟨p, 1, none⟩ = some v1 ∧ W.drew.cell? ⟨p, 2, none⟩ = some v2 ∧ W.drew.cell? ⟨p, 3, none⟩ = some v3 ∧ W.drew.cell? ⟨p, 4, none⟩ = some v4 ∧ W.drew.cell? ⟨p, 5, none⟩ = some v5 ∧ W.drew.cell? ⟨p, 6, none⟩ = some v6 ∧ Below X.heap.size X W.drew :=
  okeep (Drew.below (a := W) ⟨1, rfl⟩) h
/-- order, of a row of trees. -/
def OC (s : ByteArray) (l : List T) : Prop := ∀ (W : World) (A : Option Addr) (c : Nat), l.length ≤ 2000 → gRow W A 0 (gs l) → OrdL s.data.toList (-1) l →
  Calls Tryz.prog 20 #[.slice A l.length c, .string s] W fun e w' => e = .returned (.bool true) ∧ Below W.heap.size W w'
theorem ocUse {s : ByteArray} {l : List T} (h : Hid (OC s l)) (W : World) (A : Option Addr) (c : Nat) (h1 : l.length ≤ 2000) (h2 : gRow W A 0 (gs l)) (h3 : Hid (OrdL s.data.toList (-1) l)) :
  Calls Tryz.prog 20 #[.slice A l.length c, .string s] W fun e w' => e = .returned (.bool true) ∧ Below W.heap.size W w' := h.out W A c h1 h2 h3.out
def Sm : T → Prop
  | .mk _ _ _ _ _ _ ks => ks.length ≤ 2000
def OrRel (W : World) (l : List T) (v : Value) (u : Value) (wr : World) : Prop := ∃ i : Nat, i ≤ l.length ∧ u = .int .i64 i ∧ v = .int .i64 (lastAt (-1) (l.take i)) ∧ Below W.heap.size W wr
def InRel (W : World) (l : List T) (p : Nat) (cs : Array Value) (u : Value) (wr : World) : Prop := ∃ i : Nat, i ≤ l.length ∧ u = .int .i64 i ∧ Box wr p 25 cs ∧ Below W.heap.size W wr
set_option maxRecDepth 100000 in
set_option maxHeartbeats 3200000 in
theorem order_step (s : ByteArray) (l : List T) (hk : ∀ t ∈ l, OC s t.kids ∧ t.kids.length ≤ 2000 ∧ ∀ k ∈ t.kids, OC s k.kids ∧ k.kids.length ≤ 2000) : OC s l := by
  intro W A c hn hr ho
  have HO := Lib.hid ho
  clear ho
  go_enter Tryz.func20, Tryz.ntmps20
  go_wp2_with fail
  go_loopw [5, 12] (fun v u wr => OrRel W l v u wr) (fun _ u _ => l.length - (intOf u).toNat)
  case atStart => exact ⟨0, Nat.zero_le _, rfl, rfl, Below.refl _ _⟩
  case round =>
    rename_i wr
    obtain ⟨i, hi, rfl, rfl, hbl⟩ := hrel
    by_cases hlt : i < l.length
    · obtain ⟨g, o, kv, rfl, c0, c1, c2, c3, c4, c5, c6, hk6⟩ := gRow_at (gs l) 0 (gRow_later hbl A 0 _ hr) i (by rw [toGs_length]; exact hlt)
      rw [toGs_at l i _ hlt] at c0 c1 c2 c3 c4 c5 hk6
      simp only [Nat.zero_add] at c0 c1 c2 c3 c4 c5 c6
      obtain ⟨f1, f2, f3, f4, f5, f6⟩ := toG_f l[i]
      rw [f1] at c0
      rw [f2] at c1
      rw [f3] at c2
      rw [f4] at c3
      rw [f5] at c4
      rw [f6] at c5
      obtain ⟨A2, C2, rfl⟩ := gAt_form hk6
      have hrow := gAt_row hk6
      rw [toG_kids] at c6
      clear f1 f2 f3 f4 f5 f6 hk6
      obtain ⟨o1, o2⟩ := ordL_get l (-1) HO.out i hlt
      have o3 := lastAt_ge (l.take i) (-1) (by omega)
      have o4 := lastAt_succ l (-1) i hlt
      obtain ⟨k1, k2, k3⟩ := hk l[i] (List.getElem_mem hlt)
      obtain ⟨q1, q2, q3, q4⟩ := okT_parts o2
      have hgk : l[i].toG.kids = gs l[i].kids := by cases l[i]; rfl
      rw [hgk] at hrow
      clear o2 hgk
      have HO4 := Lib.hid o4
      clear o4
      obtain ⟨t, ht⟩ : ∃ t, Hid (l[i] = t) := ⟨_, Lib.hid rfl⟩
      rw [ht.out] at c0 c1 c2 c3 c4 c5 c6 hrow o1 HO4 k1 k2 k3 q1 q2 q3 q4
      obtain ⟨L, hL⟩ : ∃ L, lastAt (-1) (l.take i) = L := ⟨_, rfl⟩
      rw [hL] at o1 o3 ⊢
      clear hL
      have HS : Hid (StartC t.kind ⟨t.name.toArray⟩ ⟨t.part.toArray⟩ t.num t.wid t.at_ (.slice A2 t.kids.length C2) ⟨(startS t.kind t.name).toArray⟩) := Lib.hid fun w => by
        have := starts_any t.kind ⟨t.name.toArray⟩ ⟨t.part.toArray⟩ t.num t.wid t.at_ (.slice A2 t.kids.length C2) w
        rw [startB_S] at this
        exact this
      have HP := Lib.hid (pre_any q2)
      have HK1 := Lib.hid k1
      have HK3 := Lib.hid k3
      have HQ3 := Lib.hid q3
      have HQ4 := Lib.hid q4
      have hsz : s.data.toList.length = s.size := rfl
      rw [hsz] at q1
      have hz1 : (t.at_ : Int) ≤ (s.size : Int) := by omega
      clear q2 q3 q4 k1 k3 hsz q1 hk hr
      generalize hT : startS t.kind t.name = R at HS HP
      clear hT
      go_upto_region 5 with fail
      have N0 := Box.new wr 25 #[Value.int IntKind.i64 t.kind, Value.string ⟨t.name.toArray⟩, Value.string ⟨t.part.toArray⟩, Value.int IntKind.u64 t.num, Value.int IntKind.i64 t.wid, Value.int IntKind.i64 t.at_, Value.slice A2 t.kids.length C2]
      have bA : Below wr.heap.size wr (wr.alloc (.cells #[Value.int IntKind.i64 t.kind, Value.string ⟨t.name.toArray⟩, Value.string ⟨t.part.toArray⟩, Value.int IntKind.u64 t.num, Value.int IntKind.i64 t.wid, Value.int IntKind.i64 t.at_, Value.slice A2 t.kids.length C2] 25)) := (Below.refl _ _).alloc (Nat.le_refl _) _
      obtain ⟨Z, hZ⟩ : ∃ Y, (wr.alloc (.cells #[Value.int IntKind.i64 t.kind, Value.string ⟨t.name.toArray⟩, Value.string ⟨t.part.toArray⟩, Value.int IntKind.u64 t.num, Value.int IntKind.i64 t.wid, Value.int IntKind.i64 t.at_, Value.slice A2 t.kids.length C2] 25)) = Y := ⟨_, rfl⟩
      rw [hZ] at N0 bA ⊢
      have hrZ := gRow_later bA _ _ _ hrow
      have bZ := hbl.trans (bA.mono hbl.size)
      have hpz := N0.lt
      clear hZ hrow bA c0 c1 c2 c3 c4 c5 c6
      have S0 : Z.cell? ⟨wr.heap.size, 0, none⟩ = some (Value.int IntKind.i64 t.kind) ∧ Z.cell? ⟨wr.heap.size, 1, none⟩ = some (Value.string ⟨t.name.toArray⟩) ∧ Z.cell? ⟨wr.heap.size, 2, none⟩ = some (Value.string ⟨t.part.toArray⟩) ∧ Z.cell? ⟨wr.heap.size, 3, none⟩ = some (Value.int IntKind.u64 t.num) ∧ Z.cell? ⟨wr.heap.size, 4, none⟩ = some (Value.int IntKind.i64 t.wid) ∧ Z.cell? ⟨wr.heap.size, 5, none⟩ = some (Value.int IntKind.i64 t.at_) ∧ Z.cell? ⟨wr.heap.size, 6, none⟩ = some (Value.slice A2 t.kids.length C2) ∧ Below Z.heap.size Z Z := ⟨N0.cell 0, N0.cell 1, N0.cell 2, N0.cell 3, N0.cell 4, N0.cell 5, N0.cell 6, Below.refl _ _⟩
      have hz2 : (0 : Int) ≤ (t.at_ : Int) := by omega
      have hL1 : decide ((t.at_ : Int) ≤ L) = false := by simpa using o1
      have hL2 : decide (s.size < t.at_) = false := by simp; omega
      clear N0 o1
      go_region_held3 (fun w' => w'.cell? ⟨wr.heap.size, 0, none⟩ = some (Value.int IntKind.i64 t.kind) ∧ w'.cell? ⟨wr.heap.size, 1, none⟩ = some (Value.string ⟨t.name.toArray⟩) ∧ w'.cell? ⟨wr.heap.size, 2, none⟩ = some (Value.string ⟨t.part.toArray⟩) ∧ w'.cell? ⟨wr.heap.size, 3, none⟩ = some (Value.int IntKind.u64 t.num) ∧ w'.cell? ⟨wr.heap.size, 4, none⟩ = some (Value.int IntKind.i64 t.wid) ∧ w'.cell? ⟨wr.heap.size, 5, none⟩ = some (Value.int IntKind.i64 t.at_) ∧ w'.cell? ⟨wr.heap.size, 6, none⟩ = some (Value.slice A2 t.kids.length C2) ∧ Below Z.heap.size Z w') (with_reducible (first | assumption | exact odrew ‹_› | exact odrew (odrew ‹_›)))
        (first
          | (go_at_call 41; ((with_reducible refine (startUse HS _).mono ?_); rintro e V ⟨rfl, hb4⟩); have L4 := okeep hb4 ‹_›)
          | (go_at_call 40; ((with_reducible refine (preUse HP _).mono ?_); rintro e w5 ⟨rfl, rfl⟩)))
      have bY := bZ.trans (L4.2.2.2.2.2.2.2.mono bZ.size)
      have hrY := gRow_later L4.2.2.2.2.2.2.2 _ _ _ hrZ
      obtain ⟨M0, M1, M2, M3, M4, M5, M6, hx⟩ := L4
      clear hx
      have hpw : wr.heap.size < V.heap.size := by have := hb4.size; simp at this; omega
      clear S0 hrZ hpz hb4 bZ hbl HP HS
      obtain ⟨P, hP⟩ : ∃ P, wr.heap.size = P := ⟨_, rfl⟩
      rw [hP] at M0 M1 M2 M3 M4 M5 M6 hpw ⊢
      clear hP hL1 hL2 hz1 hz2
      by_cases h6 : t.kind = 6
      case' pos =>
        have hd : ((t.kind : Int) == 6) = true := by rw [h6]; rfl
        have HO6 := Lib.hid (HQ3.out h6)
        clear h6
        go_wp2_with fail
        refine (ocUse HK1 _ A2 C2 k2 hrY HO6).mono ?_
        rintro e V ⟨rfl, hb5⟩
        obtain ⟨M0, M1, M2, M3, M4, M5, M6, hx⟩ := okeep hb5 ⟨M0, M1, M2, M3, M4, M5, M6, Below.refl _ _⟩
        clear hx
        have bY := bY.trans (hb5.mono bY.size)
        have hrY := gRow_later hb5 _ _ _ hrY
        have hpw : P < V.heap.size := by have := hb5.size; omega
        have hdn : ((t.kind : Int) != 6) = false := by simpa using hd
        clear hb5
      case' neg =>
        have hd : ((t.kind : Int) == 6) = false := by simp; omega
        have hdn : ((t.kind : Int) != 6) = true := by simp; omega
        clear h6
      all_goals
        go_upto_region 10 with fail
        go_wp2_with fail
        go_loopw [52] (fun u wr2 => ∃ j : Nat, j ≤ t.kids.length ∧ u = .int .i64 j ∧ wr2.cell? ⟨P, 0, none⟩ = some (Value.int IntKind.i64 t.kind) ∧ wr2.cell? ⟨P, 1, none⟩ = some (Value.string ⟨t.name.toArray⟩) ∧ wr2.cell? ⟨P, 2, none⟩ = some (Value.string ⟨t.part.toArray⟩) ∧ wr2.cell? ⟨P, 3, none⟩ = some (Value.int IntKind.u64 t.num) ∧ wr2.cell? ⟨P, 4, none⟩ = some (Value.int IntKind.i64 t.wid) ∧ wr2.cell? ⟨P, 5, none⟩ = some (Value.int IntKind.i64 t.at_) ∧ wr2.cell? ⟨P, 6, none⟩ = some (Value.slice A2 t.kids.length C2) ∧ Below V.heap.size V wr2) (fun u _ => t.kids.length - (intOf u).toNat)
        case atStart => exact ⟨0, Nat.zero_le _, rfl, M0, M1, M2, M3, M4, M5, M6, Below.refl _ _⟩
        case round =>
          obtain ⟨j, hj, rfl, m0, m1, m2, m3, m4, m5, m6, hbj⟩ := hrel
          clear M0 M1 M2 M3 M4 M5 M6
          by_cases hjl : j < t.kids.length
          · obtain ⟨g2, o5, kv, rfl, c0, c1, c2, c3, c4, c5, c6, hk6⟩ := gRow_at (gs t.kids) 0 (gRow_later hbj _ _ _ hrY) j (by rw [toGs_length]; exact hjl)
            rw [toGs_at t.kids j _ hjl] at c0 c1 c2 c3 c4 c5 hk6
            simp only [Nat.zero_add] at c0 c1 c2 c3 c4 c5 c6
            obtain ⟨f1, f2, f3, f4, f5, f6⟩ := toG_f t.kids[j]
            rw [f1] at c0
            rw [f2] at c1
            rw [f3] at c2
            rw [f4] at c3
            rw [f5] at c4
            rw [f6] at c5
            obtain ⟨A3, C3, rfl⟩ := gAt_form hk6
            have hrow := gAt_row hk6
            rw [toG_kids] at c6
            have hgk : t.kids[j].toG.kids = gs t.kids[j].kids := by cases t.kids[j]; rfl
            rw [hgk] at hrow
            obtain ⟨k1, k2b⟩ := HK3.out _ (List.getElem_mem hjl)
            have q := kids_get t.kids HQ4.out j hjl
            clear f1 f2 f3 f4 f5 f6 hk6 hgk
            obtain ⟨k, hkk⟩ : ∃ k, Hid (t.kids[j] = k) := ⟨_, Lib.hid rfl⟩
            rw [hkk.out] at c0 c1 c2 c3 c4 c5 c6 hrow k1 k2b q
            have HK := Lib.hid k1
            have HQ := Lib.hid q
            clear k1 q
            have N0 := Box.new wr 25 #[Value.int IntKind.i64 k.kind, Value.string ⟨k.name.toArray⟩, Value.string ⟨k.part.toArray⟩, Value.int IntKind.u64 k.num, Value.int IntKind.i64 k.wid, Value.int IntKind.i64 k.at_, Value.slice A3 k.kids.length C3]
            have bA : Below wr.heap.size wr (wr.alloc (.cells #[Value.int IntKind.i64 k.kind, Value.string ⟨k.name.toArray⟩, Value.string ⟨k.part.toArray⟩, Value.int IntKind.u64 k.num, Value.int IntKind.i64 k.wid, Value.int IntKind.i64 k.at_, Value.slice A3 k.kids.length C3] 25)) := (Below.refl _ _).alloc (Nat.le_refl _) _
            go_upto_region 13 with fail
            obtain ⟨Z, hZ⟩ : ∃ Y, (wr.alloc (.cells #[Value.int IntKind.i64 k.kind, Value.string ⟨k.name.toArray⟩, Value.string ⟨k.part.toArray⟩, Value.int IntKind.u64 k.num, Value.int IntKind.i64 k.wid, Value.int IntKind.i64 k.at_, Value.slice A3 k.kids.length C3] 25)) = Y := ⟨_, rfl⟩
            rw [hZ] at N0 bA ⊢
            have hrZ := gRow_later bA _ _ _ hrow
            have hbZ := hbj.trans (bA.mono hbj.size)
            have n0 := N0.cell 0
            have n5 := N0.cell 5
            have n6 := N0.cell 6
            obtain ⟨m0, m1, m2, m3, m4, m5, m6, _⟩ := okeep bA ⟨m0, m1, m2, m3, m4, m5, m6, Below.refl _ _⟩
            clear hZ hrow bA c0 c1 c2 c3 c4 c5 c6 N0
            by_cases hk7 : k.kind = 6
            · have hd2 : ((k.kind : Int) == 6) = true := by rw [hk7]; rfl
              obtain ⟨p1, p2⟩ := HQ.out hk7
              obtain ⟨p3, p4, p5, _⟩ := okT_parts p2
              have hE : startS k.kind k.name = pLB := by rw [hk7]; rfl
              rw [hE] at p4
              have HP : Hid (PreC (s.extract k.at_ s.size) ⟨#[123]⟩) := Lib.hid (pre_any p4)
              have HO6 := Lib.hid (p5 hk7)
              have hsz : s.data.toList.length = s.size := rfl
              rw [hsz] at p3
              have e1 : decide (k.at_ ≤ t.at_) = false := by simp; omega
              have e2 : decide (s.size < k.at_) = false := by simp; omega
              have e3 : (0 : Int) ≤ (k.at_ : Int) := by omega
              have e4 : (k.at_ : Int) ≤ (s.size : Int) := by omega
              clear hk7 p1 p2 p3 p4 p5 hE hsz
              go_wp2_with fail
              refine (preUse HP _).mono ?_
              rintro e w5 ⟨rfl, rfl⟩
              go_wp2_with fail
              refine (ocUse HK _ A3 C3 k2b hrZ HO6).mono ?_
              rintro e w6 ⟨rfl, hb6⟩
              obtain ⟨m0, m1, m2, m3, m4, m5, m6, hbq⟩ := okeep hb6 ⟨m0, m1, m2, m3, m4, m5, m6, hbZ⟩
              go_wp2_with fail
              go_roundw
              case rel => exact ⟨j + 1, hjl, by go_num, m0, m1, m2, m3, m4, m5, m6, hbq⟩
              case measure => simp [intOf]; omega
            · have hd2 : ((k.kind : Int) == 6) = false := by simp; omega
              clear hk7
              go_wp2_with fail
              go_roundw
              case rel => exact ⟨j + 1, hjl, by go_num, m0, m1, m2, m3, m4, m5, m6, hbZ⟩
              case measure => simp [intOf]; omega
          · have hje : j = t.kids.length := by omega
            subst hje
            have hbo := bY.trans (hbj.mono bY.size)
            go_wp2_with fail
            go_roundw
            case rel => exact ⟨i + 1, hlt, rfl, by rw [HO4.out], hbo⟩
            case measure => simp [intOf]; omega
    · have hie : i = l.length := by omega
      subst hie
      go_wp2
      go_ret
      exact ⟨rfl, hbl⟩
end Go.Proofs.YtmkehecapjdfdaaGreatDoor
