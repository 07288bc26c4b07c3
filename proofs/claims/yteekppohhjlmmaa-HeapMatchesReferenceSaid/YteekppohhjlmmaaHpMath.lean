/- Layer 9, plainly: objects of cells, and what each function of package heap answers. -/
import Derived.Test.YteekppohhjlmmaaMath
import Derived.Test.YteekppohhjlmmaaRows
namespace Go.Proofs.Yteekppohhjlmmaa
open Go

/-- A cell. -/
structure Ce where
  w : Int
  s : Bool
  v : Int
/-- An object. -/
structure Ob where
  c : List Ce
  g : Bool
theorem Ob.ext' {a b : Ob} (h : a.c = b.c) (k : a.g = b.g) : a = b := by cases a; cases b; simp_all
theorem Ce.ext' {a b : Ce} (h : a.w = b.w) (k : a.s = b.s) (m : a.v = b.v) : a = b := by cases a; cases b; simp_all
/-- Numbers of 64 bits. -/
def I64 (x : Int) : Prop := -9223372036854775808 ≤ x ∧ x ≤ 9223372036854775807
def U64 (x : Int) : Prop := 0 ≤ x ∧ x < 18446744073709551616
def Ce.ok (x : Ce) : Prop := I64 x.w ∧ U64 x.v
def Ob.ok (x : Ob) : Prop := ∀ c ∈ x.c, c.ok
def oks (l : List Ob) : Prop := ∀ x ∈ l, x.ok
/-- Validity. -/
def ceV (x : Ce) : Bool := vB x.w x.v && (x.s || x.v == 0)
def obV (x : Ob) : Bool := decide (x.c.length ≤ 16) && x.c.all ceV
def obsV (l : List Ob) : Bool := decide (l.length ≤ 8) && l.all obV
def wV (n : Int) : Bool := vB n 0
def newOb (ws : List Int) : Ob := ⟨ws.map fun n => ⟨n, false, 0⟩, false⟩
def zOb : Ob := ⟨[], false⟩
def zCe : Ce := ⟨0, false, 0⟩
def obAt (l : List Ob) (t : Nat) : Ob := l.getD t zOb
def ceAt (l : List Ce) (t : Nat) : Ce := l.getD t zCe
theorem obAt_eq {l : List Ob} {t : Nat} (h : t < l.length) : obAt l t = l[t] := by simp [obAt, List.getD, List.getElem?_eq_getElem h]
theorem ceAt_eq {l : List Ce} {t : Nat} (h : t < l.length) : ceAt l t = l[t] := by simp [ceAt, List.getD, List.getElem?_eq_getElem h]
theorem obAt_mem {l : List Ob} {t : Nat} (h : t < l.length) : obAt l t ∈ l := by rw [obAt_eq h]; exact List.getElem_mem h
theorem ceAt_mem {l : List Ce} {t : Nat} (h : t < l.length) : ceAt l t ∈ l := by rw [ceAt_eq h]; exact List.getElem_mem h
/-- Whether objects are valid, and there is one with a number. -/
def hasO (l : List Ob) (obj : Int) : Bool := obsV l && decide (0 ≤ obj ∧ obj < l.length)
/-- What New, Load, Put and Free answer: objects or a value, the fault, the error. -/
def newR (l : List Ob) (ws : List Int) : List Ob × Int × Int × Int :=
  if (obsV l && ws.all wV) = false then ([], 0, 0, 1) else if l.length = 8 ∨ 16 < ws.length then ([], 0, 5, 0) else (l ++ [newOb ws], l.length, 0, 0)
def loadR (l : List Ob) (obj k : Int) : (Int × Int) × Int × Int :=
  if hasO l obj = false then ((0, 0), 0, 1) else
  let x := obAt l obj.toNat
  if x.g then ((0, 0), 3, 0) else if (x.c.length : Int) ≤ k then ((0, 0), 2, 0) else
  let c := ceAt x.c k.toNat
  if c.s then ((c.w, c.v), 0, 0) else ((0, 0), 4, 0)
def putOb (x : Ob) (k : Nat) (v : Int) : Ob := ⟨x.c.set k ⟨(ceAt x.c k).w, true, low (ceAt x.c k).w v⟩, x.g⟩
def putR (l : List Ob) (obj k v : Int) : List Ob × Int × Int :=
  if hasO l obj = false then ([], 0, 1) else
  let x := obAt l obj.toNat
  if x.g then ([], 3, 0) else if (x.c.length : Int) ≤ k then ([], 2, 0) else
  (l.set obj.toNat (putOb x k.toNat v), 0, 0)
def freeR (l : List Ob) (obj : Int) : List Ob × Int × Int :=
  if hasO l obj = false then ([], 0, 1) else
  let x := obAt l obj.toNat
  if x.g then ([], 3, 0) else (l.set obj.toNat ⟨x.c, true⟩, 0, 0)

theorem hasO_iff {l : List Ob} {obj : Int} : hasO l obj = true ↔ obsV l = true ∧ 0 ≤ obj ∧ obj < l.length := by simp [hasO]
theorem obsV_len {l : List Ob} (h : obsV l = true) : l.length ≤ 8 := by simp [obsV] at h; exact h.1
theorem obsV_mem {l : List Ob} (h : obsV l = true) : ∀ x ∈ l, obV x = true := by simp [obsV] at h; exact h.2
theorem obV_len {x : Ob} (h : obV x = true) : x.c.length ≤ 16 := by simp [obV] at h; exact h.1
theorem obV_mem {x : Ob} (h : obV x = true) : ∀ c ∈ x.c, ceV c = true := by simp [obV] at h; exact h.2
theorem ceV_vB {x : Ce} (h : ceV x = true) : vB x.w x.v = true := by simp [ceV] at h; exact h.1
theorem wV_iff {n : Int} : wV n = true ↔ 1 ≤ n ∧ n ≤ 64 := by
  have := pw_pos n
  unfold pw at this
  simp only [wV, vB, decide_eq_true_iff]
  omega
theorem not_any_not {α : Type} (p : α → Bool) (l : List α) : (!(l.any fun x => !(p x))) = l.all p := by
  induction l with
  | nil => rfl
  | cons a r ih => rw [List.any_cons, List.all_cons, Bool.not_or, ih, Bool.not_not]

/-! ### Rows as tables -/
/-- The first n places of a table. -/
def tab {α : Type} (f : Nat → α) (n : Nat) : List α := (List.range n).map f
theorem tab_len {α : Type} (f : Nat → α) (n : Nat) : (tab f n).length = n := by simp [tab]
theorem tab_get {α : Type} (f : Nat → α) {n i : Nat} (h : i < n) : (tab f n)[i]? = some (f i) := by simp [tab, h]
theorem tab_none {α : Type} (f : Nat → α) {n i : Nat} (h : n ≤ i) : (tab f n)[i]? = none := by simp [tab, h]
theorem tab_congr {α : Type} {f g : Nat → α} {n : Nat} (h : ∀ i, i < n → f i = g i) : tab f n = tab g n := by
  unfold tab
  exact List.map_congr_left (fun i hi => h i (List.mem_range.1 hi))
theorem tab_mem {α : Type} {f : Nat → α} {n : Nat} {x : α} (h : x ∈ tab f n) : ∃ i, i < n ∧ x = f i := by
  obtain ⟨i, hi, rfl⟩ := List.mem_map.1 h
  exact ⟨i, List.mem_range.1 hi, rfl⟩
theorem tab_set {α : Type} (f : Nat → α) (n t : Nat) (v : α) : (tab f n).set t v = tab (fun j => if j = t then v else f j) n := by
  apply List.ext_getElem?
  intro i
  rw [List.getElem?_set]
  by_cases hi : i < n
  · by_cases e : t = i
    · subst e; rw [if_pos rfl, if_pos (by rw [tab_len]; exact hi), tab_get _ hi, if_pos rfl]
    · rw [if_neg e, tab_get _ hi, tab_get _ hi, if_neg (fun q => e q.symm)]
  · by_cases e : t = i
    · subst e; rw [if_pos rfl, if_neg (by rw [tab_len]; exact hi), tab_none _ (by omega)]
    · rw [if_neg e, tab_none _ (by omega), tab_none _ (by omega)]
theorem tab_add {α : Type} (f : Nat → α) (n m : Nat) : tab f (n + m) = tab f n ++ tab (fun j => f (n + j)) m := by
  apply List.ext_getElem?
  intro i
  by_cases hi : i < n
  · rw [tab_get _ (by omega), List.getElem?_append_left (by rw [tab_len]; exact hi), tab_get _ hi]
  · rw [List.getElem?_append_right (by rw [tab_len]; omega), tab_len]
    by_cases h2 : i < n + m
    · rw [tab_get _ h2, tab_get _ (by omega)]; congr 1; congr 1; omega
    · rw [tab_none _ (by omega), tab_none _ (by omega)]
/-- The values of a cell, of cells, and of objects whose lists are the values V. -/
def cev (l : List Ce) (j : Nat) : Value := if j % 3 = 0 then .int .i64 (ceAt l (j / 3)).w else if j % 3 = 1 then .bool (ceAt l (j / 3)).s else .int .u64 (ceAt l (j / 3)).v
def flat (l : List Ce) : List Value := tab (cev l) (l.length * 3)
def obv (V : Nat → Value) (l : List Ob) (j : Nat) : Value := if j % 2 = 0 then V (j / 2) else .bool (obAt l (j / 2)).g
def oflat (V : Nat → Value) (l : List Ob) : List Value := tab (obv V l) (l.length * 2)
theorem cev0 (l : List Ce) (i : Nat) : cev l (i * 3) = .int .i64 (ceAt l i).w := by unfold cev; rw [if_pos (by omega), show i * 3 / 3 = i by omega]
theorem cev1 (l : List Ce) (i : Nat) : cev l (i * 3 + 1) = .bool (ceAt l i).s := by unfold cev; rw [if_neg (by omega), if_pos (by omega), show (i * 3 + 1) / 3 = i by omega]
theorem cev2 (l : List Ce) (i : Nat) : cev l (i * 3 + 2) = .int .u64 (ceAt l i).v := by unfold cev; rw [if_neg (by omega), if_neg (by omega), show (i * 3 + 2) / 3 = i by omega]
theorem obv0 (V : Nat → Value) (l : List Ob) (i : Nat) : obv V l (i * 2) = V i := by unfold obv; rw [if_pos (by omega), show i * 2 / 2 = i by omega]
theorem obv1 (V : Nat → Value) (l : List Ob) (i : Nat) : obv V l (i * 2 + 1) = .bool (obAt l i).g := by unfold obv; rw [if_neg (by omega), show (i * 2 + 1) / 2 = i by omega]
theorem flat_len (l : List Ce) : (flat l).length = l.length * 3 := tab_len _ _
theorem oflat_len (V : Nat → Value) (l : List Ob) : (oflat V l).length = l.length * 2 := tab_len _ _
theorem ceAt_set (l : List Ce) {k : Nat} (h : k < l.length) (c : Ce) (i : Nat) : ceAt (l.set k c) i = if i = k then c else ceAt l i := by
  unfold ceAt List.getD
  rw [List.getElem?_set]
  by_cases e : k = i
  · subst e; simp [h]
  · rw [if_neg e, if_neg (fun q => e q.symm)]
theorem obAt_set (l : List Ob) {k : Nat} (h : k < l.length) (c : Ob) (i : Nat) : obAt (l.set k c) i = if i = k then c else obAt l i := by
  unfold obAt List.getD
  rw [List.getElem?_set]
  by_cases e : k = i
  · subst e; simp [h]
  · rw [if_neg e, if_neg (fun q => e q.symm)]
/-- A cell that is set: two stores. -/
theorem flat_put (l : List Ce) {k : Nat} (h : k < l.length) (v : Int) :
    ((flat l).set (k * 3 + 1) (.bool true)).set (k * 3 + 2) (.int .u64 v) = flat (l.set k ⟨(ceAt l k).w, true, v⟩) := by
  unfold flat
  rw [tab_set, tab_set, List.length_set]
  apply tab_congr
  intro i hi
  obtain ⟨q, r, hr, rfl⟩ : ∃ q r, r < 3 ∧ i = q * 3 + r := ⟨i / 3, i % 3, Nat.mod_lt _ (by decide), by omega⟩
  rcases (show r = 0 ∨ r = 1 ∨ r = 2 by omega) with rfl | rfl | rfl
  · rw [if_neg (by omega), if_neg (by omega), Nat.add_zero, cev0, cev0, ceAt_set l h]
    by_cases e : q = k
    · subst e; simp
    · rw [if_neg e]
  · rw [if_neg (by omega), cev1, cev1, ceAt_set l h]
    by_cases e : q = k
    · subst e; simp
    · rw [if_neg (by omega), if_neg e]
  · rw [cev2, cev2, ceAt_set l h]
    by_cases e : q = k
    · subst e; simp
    · rw [if_neg (by omega), if_neg (by omega), if_neg e]
theorem oflat_free (V : Nat → Value) (l : List Ob) {k : Nat} (h : k < l.length) (cs : List Ce) (b : Bool) :
    (oflat V l).set (k * 2 + 1) (.bool b) = oflat V (l.set k ⟨cs, b⟩) := by
  unfold oflat
  rw [tab_set, List.length_set]
  apply tab_congr
  intro i hi
  obtain ⟨q, r, hr, rfl⟩ : ∃ q r, r < 2 ∧ i = q * 2 + r := ⟨i / 2, i % 2, Nat.mod_lt _ (by decide), by omega⟩
  rcases (show r = 0 ∨ r = 1 by omega) with rfl | rfl
  · rw [if_neg (by omega), Nat.add_zero, obv0, obv0]
  · rw [obv1, obv1, obAt_set l h]
    by_cases e : q = k
    · subst e; simp
    · rw [if_neg (by omega), if_neg e]
/-- The flags alone. -/
theorem oflat_same (V : Nat → Value) (l : List Ob) {k : Nat} (h : k < l.length) (x : Ob) (hg : x.g = (obAt l k).g) : oflat V (l.set k x) = oflat V l := by
  unfold oflat
  rw [List.length_set]
  apply tab_congr
  intro i hi
  obtain ⟨q, r, hr, rfl⟩ : ∃ q r, r < 2 ∧ i = q * 2 + r := ⟨i / 2, i % 2, Nat.mod_lt _ (by decide), by omega⟩
  rcases (show r = 0 ∨ r = 1 by omega) with rfl | rfl
  · rw [Nat.add_zero, obv0, obv0]
  · rw [obv1, obv1, obAt_set l h]
    by_cases e : q = k
    · subst e; rw [if_pos rfl, hg]
    · rw [if_neg e]
theorem ceAt_append (l m : List Ce) (i : Nat) : ceAt (l ++ m) i = if i < l.length then ceAt l i else ceAt m (i - l.length) := by
  unfold ceAt List.getD
  by_cases e : i < l.length
  · rw [if_pos e, List.getElem?_append_left e]
  · rw [if_neg e, List.getElem?_append_right (by omega)]
theorem obAt_append (l m : List Ob) (i : Nat) : obAt (l ++ m) i = if i < l.length then obAt l i else obAt m (i - l.length) := by
  unfold obAt List.getD
  by_cases e : i < l.length
  · rw [if_pos e, List.getElem?_append_left e]
  · rw [if_neg e, List.getElem?_append_right (by omega)]
theorem flat_snoc (l : List Ce) (c : Ce) : flat (l ++ [c]) = flat l ++ [.int .i64 c.w, .bool c.s, .int .u64 c.v] := by
  unfold flat
  rw [List.length_append, show (l.length + [c].length) * 3 = l.length * 3 + 3 by simp; omega, tab_add]
  congr 1
  · apply tab_congr
    intro i hi
    have e : ceAt (l ++ [c]) (i / 3) = ceAt l (i / 3) := by rw [ceAt_append, if_pos (by omega)]
    simp only [cev, e]
  · show [cev _ (l.length * 3 + 0), cev _ (l.length * 3 + 1), cev _ (l.length * 3 + 2)] = _
    rw [Nat.add_zero, cev0, cev1, cev2, ceAt_append, if_neg (by omega), Nat.sub_self]
    rfl
theorem oflat_snoc (V : Nat → Value) (l : List Ob) (x : Ob) (v : Value) : oflat (fun t => if t = l.length then v else V t) (l ++ [x]) = oflat V l ++ [v, .bool x.g] := by
  unfold oflat
  rw [List.length_append, show (l.length + [x].length) * 2 = l.length * 2 + 2 by simp; omega, tab_add]
  congr 1
  · apply tab_congr
    intro i hi
    have e : obAt (l ++ [x]) (i / 2) = obAt l (i / 2) := by rw [obAt_append, if_pos (by omega)]
    have e2 : ¬ i / 2 = l.length := by omega
    simp only [obv, e, e2, if_false]
  · show [obv _ _ (l.length * 2 + 0), obv _ _ (l.length * 2 + 1)] = _
    rw [Nat.add_zero, obv0, obv1, if_pos rfl, obAt_append, if_neg (by omega), Nat.sub_self]
    rfl
/-- A width in a new cell. -/
theorem flat_width (l : List Ce) {k : Nat} (h : k < l.length) (n : Int) : (flat l).set (k * 3) (.int .i64 n) = flat (l.set k ⟨n, (ceAt l k).s, (ceAt l k).v⟩) := by
  unfold flat
  rw [tab_set, List.length_set]
  apply tab_congr
  intro i hi
  obtain ⟨q, r, hr, rfl⟩ : ∃ q r, r < 3 ∧ i = q * 3 + r := ⟨i / 3, i % 3, Nat.mod_lt _ (by decide), by omega⟩
  rcases (show r = 0 ∨ r = 1 ∨ r = 2 by omega) with rfl | rfl | rfl
  · rw [Nat.add_zero, cev0, cev0, ceAt_set l h]
    by_cases e : q = k
    · subst e; simp
    · rw [if_neg (by omega), if_neg e]
  · rw [if_neg (by omega), cev1, cev1, ceAt_set l h]
    by_cases e : q = k
    · subst e; simp
    · rw [if_neg e]
  · rw [if_neg (by omega), cev2, cev2, ceAt_set l h]
    by_cases e : q = k
    · subst e; simp
    · rw [if_neg e]
/-- Cells whose first widths were set. -/
def upto (ws : List Int) (i : Nat) : List Ce := (ws.take i).map (fun n => ⟨n, false, 0⟩) ++ List.replicate (ws.length - i) zCe
theorem upto_len (ws : List Int) {i : Nat} (h : i ≤ ws.length) : (upto ws i).length = ws.length := by simp [upto]; omega
theorem upto_step (ws : List Int) {i : Nat} (h : i < ws.length) : (upto ws i).set i ⟨ws[i], (ceAt (upto ws i) i).s, (ceAt (upto ws i) i).v⟩ = upto ws (i + 1) := by
  have hz : ceAt (upto ws i) i = zCe := by
    unfold upto
    rw [ceAt_append, if_neg (by simp; omega)]
    simp [ceAt, List.getD, show min i ws.length = i by omega, show 0 < ws.length - i by omega]
  rw [hz]
  have hl : i = ((ws.take i).map (fun n => (⟨n, false, 0⟩ : Ce))).length := by simp; omega
  unfold upto
  rw [List.set_append_right _ _ (by rw [← hl]; exact Nat.le_refl _), ← hl, Nat.sub_self, List.take_succ_eq_append_getElem h, List.map_append, List.append_assoc]
  congr 1
  rw [show ws.length - i = (ws.length - (i + 1)) + 1 by omega, List.replicate_succ]
  rfl
theorem upto_all (ws : List Int) : upto ws ws.length = (newOb ws).c := by simp [upto, newOb]
end Go.Proofs.Yteekppohhjlmmaa
