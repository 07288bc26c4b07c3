/- heap: validity of objects and of widths. -/
import Derived.Test.YteekppohhjlmmaaHpBit
import Derived.Test.YteekppohhjlmmaaHpPl
namespace Go.Proofs.Yteekppohhjlmmaa
open Go.RowKit

def IxOk (b : Bool) (r : Int) : Prop := (b = false → r = -1) ∧ (b = true → 0 ≤ r)
def IxRel {α : Type} (W : World) (p : α → Bool) (l : List α) (v : Value) (wr : World) : Prop := ∃ i : Nat, v = .int .i64 i ∧ i ≤ l.length ∧ (l.take i).any p = false ∧ Below W.heap.size W wr
theorem any_snoc {α : Type} (p : α → Bool) (l : List α) (i : Nat) (hi : i < l.length) (h : (l.take i).any p = false) : (l.take (i + 1)).any p = p l[i] := by
  rw [List.take_succ_eq_append_getElem hi, List.any_append, h]; simp
set_option maxRecDepth 100000 in
set_option maxHeartbeats 1600000 in
theorem index_cell (l : List Ce) (p : Ce → Bool) (cx : Value) (W : World) (A : Option Addr) (c : Nat) (hn : l.length ≤ maxLen) (hr : CeRow W A l)
    (hf : ∀ (t : Ce), t ∈ l → ∀ (w : World), Below W.heap.size W w → Calls Try.prog 60 #[.agg #[.int .i64 t.w, .bool t.s, .int .u64 t.v], cx] w fun e w' => e = .returned (.bool (!(p t))) ∧ Below w.heap.size w w') :
    Calls Try.prog 64 #[.slice A l.length c, .func (.func 60) #[] #[cx]] W fun e w' => (∃ r : Int, e = .returned (.int .i64 r) ∧ IxOk (l.any fun x => !(p x)) r) ∧ Below W.heap.size W w' := by
  go_enter Try.func64, Try.ntmps64
  go_wp2_with fail
  go_loopw [8] (fun v wr => IxRel W (fun x => !(p x)) l v wr) (fun v _ => l.length - iOf v)
  case atStart => exact ⟨0, rfl, Nat.zero_le _, rfl, Below.refl _ _⟩
  case round =>
    rename_i wr
    obtain ⟨i, rfl, hil, hvl, hbl⟩ := hrel
    by_cases hi2 : i < l.length
    · have hr2 := hr.later hbl
      obtain ⟨g, o, rfl, c0, c1, c2⟩ := hr2 i hi2
      have hmem : l[i] ∈ l := List.getElem_mem hi2
      have hvt := any_snoc (fun x => !(p x)) l i hi2 hvl
      obtain ⟨t, ht⟩ : ∃ t, Hid (l[i] = t) := ⟨_, Lib.hid rfl⟩
      simp only [ht.out] at c0 c1 c2  hmem hvt
      have d0 : wr.cell? ⟨g, o + i * 3, none⟩ = some (.int .i64 t.w) := c0
      have d1 : wr.cell? ⟨g, o + i * 3 + 1, none⟩ = some (.bool t.s) := c1
      have d2 : wr.cell? ⟨g, o + i * 3 + 2, none⟩ = some (.int .u64 t.v) := c2
      have hw2 : IntKind.i64.wrap ((i : Int) + 1) = ((i + 1 : Nat) : Int) := by unfold maxLen at hn; rw [IntWalk.i64_in _ (by omega)]; omega
      have hC := hf t hmem wr hbl 
      clear hf hr hr2 ht c0 c1 c2
      go_wp2_with fail
      refine (show Calls Try.prog 60 _ _ _ from hC).mono ?_
      rintro e w1 ⟨rfl, b1⟩
      have bl1 := hbl.trans (b1.mono hbl.size)
      clear hC
      cases hx : p t with
      | true =>
        rw [hx] at hvt
        go_wp2_with fail
        go_roundw
        case rel => exact ⟨i + 1, rfl, hi2, hvt, bl1⟩
        case measure => simp only [iOf]; omega
      | false =>
        have hF : Hid (l.any (fun x => !(p x)) = true) := Lib.hid (List.any_eq_true.2 ⟨t, hmem, by rw [hx]; rfl⟩)
        clear hvt hx
        go_wp2
        go_ret
        exact ⟨⟨_, rfl, by rw [hF.out]; exact ⟨(fun h => by cases h), fun _ => by omega⟩⟩, bl1⟩
    · have hie : i = l.length := by omega
      subst hie
      rw [List.take_length] at hvl
      have hvl := Lib.hid hvl
      clear hf
      go_wp2
      go_ret
      exact ⟨⟨_, rfl, by rw [hvl.out]; exact ⟨fun _ => rfl, fun h => by cases h⟩⟩, hbl⟩
set_option maxRecDepth 100000 in
theorem contains_cell (l : List Ce) (p : Ce → Bool) (cx : Value) (W : World) (A : Option Addr) (c : Nat) (hn : l.length ≤ maxLen) (hr : CeRow W A l)
    (hf : ∀ (t : Ce), t ∈ l → ∀ (w : World), Below W.heap.size W w → Calls Try.prog 60 #[.agg #[.int .i64 t.w, .bool t.s, .int .u64 t.v], cx] w fun e w' => e = .returned (.bool (!(p t))) ∧ Below w.heap.size w w') :
    Calls Try.prog 59 #[.slice A l.length c, .func (.func 60) #[] #[cx]] W fun e w' => e = .returned (.bool (l.any fun x => !(p x))) ∧ Below W.heap.size W w' := by
  have hC := index_cell l p cx W A c hn hr hf
  clear hf hr
  go_enter Try.func59, Try.ntmps59
  go_wp2_with fail
  refine hC.mono ?_
  rintro e w1 ⟨⟨r, rfl, hrr⟩, b1⟩
  clear hC
  cases hx : l.any fun x => !(p x) with
  | false =>
    obtain rfl := hrr.1 hx
    clear hrr
    have hx := Lib.hid hx
    go_wp2
    go_ret
    exact ⟨by rw [hx.out]; first | rfl | simp, b1⟩
  | true =>
    have hb : decide (0 ≤ r) = true := by simpa using hrr.2 hx
    clear hrr
    have hx := Lib.hid hx
    go_wp2
    go_ret
    exact ⟨by rw [hx.out]; first | rfl | simp, b1⟩
set_option maxRecDepth 100000 in
set_option maxHeartbeats 1600000 in
theorem index_int (l : List Int) (p : Int → Bool) (cx : Value) (W : World) (A : Option Addr) (c : Nat) (hn : l.length ≤ maxLen) (hr : IRow W A l)
    (hf : ∀ (t : Int), t ∈ l → ∀ (w : World), Below W.heap.size W w → Calls Try.prog 46 #[.int .i64 t, cx] w fun e w' => e = .returned (.bool (!(p t))) ∧ Below w.heap.size w w') :
    Calls Try.prog 56 #[.slice A l.length c, .func (.func 46) #[] #[cx]] W fun e w' => (∃ r : Int, e = .returned (.int .i64 r) ∧ IxOk (l.any fun x => !(p x)) r) ∧ Below W.heap.size W w' := by
  go_enter Try.func56, Try.ntmps56
  go_wp2_with fail
  go_loopw [8] (fun v wr => IxRel W (fun x => !(p x)) l v wr) (fun v _ => l.length - iOf v)
  case atStart => exact ⟨0, rfl, Nat.zero_le _, rfl, Below.refl _ _⟩
  case round =>
    rename_i wr
    obtain ⟨i, rfl, hil, hvl, hbl⟩ := hrel
    by_cases hi2 : i < l.length
    · have hr2 := hr.later hbl
      obtain ⟨g, o, rfl, c0⟩ := hr2 i hi2
      have hmem : l[i] ∈ l := List.getElem_mem hi2
      have hvt := any_snoc (fun x => !(p x)) l i hi2 hvl
      obtain ⟨t, ht⟩ : ∃ t, Hid (l[i] = t) := ⟨_, Lib.hid rfl⟩
      simp only [ht.out] at c0  hmem hvt
      have d0 : wr.cell? ⟨g, o + i, none⟩ = some (.int .i64 t) := c0
      have hw2 : IntKind.i64.wrap ((i : Int) + 1) = ((i + 1 : Nat) : Int) := by unfold maxLen at hn; rw [IntWalk.i64_in _ (by omega)]; omega
      have hC := hf t hmem wr hbl 
      clear hf hr hr2 ht c0
      go_wp2_with fail
      refine (show Calls Try.prog 46 _ _ _ from hC).mono ?_
      rintro e w1 ⟨rfl, b1⟩
      have bl1 := hbl.trans (b1.mono hbl.size)
      clear hC
      cases hx : p t with
      | true =>
        rw [hx] at hvt
        go_wp2_with fail
        go_roundw
        case rel => exact ⟨i + 1, rfl, hi2, hvt, bl1⟩
        case measure => simp only [iOf]; omega
      | false =>
        have hF : Hid (l.any (fun x => !(p x)) = true) := Lib.hid (List.any_eq_true.2 ⟨t, hmem, by rw [hx]; rfl⟩)
        clear hvt hx
        go_wp2
        go_ret
        exact ⟨⟨_, rfl, by rw [hF.out]; exact ⟨(fun h => by cases h), fun _ => by omega⟩⟩, bl1⟩
    · have hie : i = l.length := by omega
      subst hie
      rw [List.take_length] at hvl
      have hvl := Lib.hid hvl
      clear hf
      go_wp2
      go_ret
      exact ⟨⟨_, rfl, by rw [hvl.out]; exact ⟨fun _ => rfl, fun h => by cases h⟩⟩, hbl⟩
set_option maxRecDepth 100000 in
theorem contains_int (l : List Int) (p : Int → Bool) (cx : Value) (W : World) (A : Option Addr) (c : Nat) (hn : l.length ≤ maxLen) (hr : IRow W A l)
    (hf : ∀ (t : Int), t ∈ l → ∀ (w : World), Below W.heap.size W w → Calls Try.prog 46 #[.int .i64 t, cx] w fun e w' => e = .returned (.bool (!(p t))) ∧ Below w.heap.size w w') :
    Calls Try.prog 45 #[.slice A l.length c, .func (.func 46) #[] #[cx]] W fun e w' => e = .returned (.bool (l.any fun x => !(p x))) ∧ Below W.heap.size W w' := by
  have hC := index_int l p cx W A c hn hr hf
  clear hf hr
  go_enter Try.func45, Try.ntmps45
  go_wp2_with fail
  refine hC.mono ?_
  rintro e w1 ⟨⟨r, rfl, hrr⟩, b1⟩
  clear hC
  cases hx : l.any fun x => !(p x) with
  | false =>
    obtain rfl := hrr.1 hx
    clear hrr
    have hx := Lib.hid hx
    go_wp2
    go_ret
    exact ⟨by rw [hx.out]; first | rfl | simp, b1⟩
  | true =>
    have hb : decide (0 ≤ r) = true := by simpa using hrr.2 hx
    clear hrr
    have hx := Lib.hid hx
    go_wp2
    go_ret
    exact ⟨by rw [hx.out]; first | rfl | simp, b1⟩
set_option maxRecDepth 100000 in
set_option maxHeartbeats 1600000 in
theorem index_obj (l : List Ob) (p : Ob → Bool) (cx : Value) (W : World) (A : Option Addr) (c : Nat) (hn : l.length ≤ maxLen) (hr : ObRow W A l)
    (hf : ∀ (t : Ob), t ∈ l → ∀ (w : World), Below W.heap.size W w → ∀ (A' : Option Addr) (c' : Nat) (_hs : CeSl w A' c' t.c), Calls Try.prog 50 #[.agg #[.slice A' t.c.length c', .bool t.g], cx] w fun e w' => e = .returned (.bool (!(p t))) ∧ Below w.heap.size w w') :
    Calls Try.prog 58 #[.slice A l.length c, .func (.func 50) #[] #[cx]] W fun e w' => (∃ r : Int, e = .returned (.int .i64 r) ∧ IxOk (l.any fun x => !(p x)) r) ∧ Below W.heap.size W w' := by
  go_enter Try.func58, Try.ntmps58
  go_wp2_with fail
  go_loopw [8] (fun v wr => IxRel W (fun x => !(p x)) l v wr) (fun v _ => l.length - iOf v)
  case atStart => exact ⟨0, rfl, Nat.zero_le _, rfl, Below.refl _ _⟩
  case round =>
    rename_i wr
    obtain ⟨i, rfl, hil, hvl, hbl⟩ := hrel
    by_cases hi2 : i < l.length
    · have hr2 := hr.later hbl
      obtain ⟨g, o, A', c', rfl, c0, c1, hs⟩ := hr2 i hi2
      have hmem : l[i] ∈ l := List.getElem_mem hi2
      have hvt := any_snoc (fun x => !(p x)) l i hi2 hvl
      obtain ⟨t, ht⟩ : ∃ t, Hid (l[i] = t) := ⟨_, Lib.hid rfl⟩
      simp only [ht.out] at c0 c1 hs hmem hvt
      have d0 : wr.cell? ⟨g, o + i * 2, none⟩ = some ((.slice A' t.c.length c')) := c0
      have d1 : wr.cell? ⟨g, o + i * 2 + 1, none⟩ = some (.bool t.g) := c1
      have hw2 : IntKind.i64.wrap ((i : Int) + 1) = ((i + 1 : Nat) : Int) := by unfold maxLen at hn; rw [IntWalk.i64_in _ (by omega)]; omega
      have hC := hf t hmem wr hbl A' c' hs
      clear hf hr hr2 ht c0 c1
      go_wp2_with fail
      refine (show Calls Try.prog 50 _ _ _ from hC).mono ?_
      rintro e w1 ⟨rfl, b1⟩
      have bl1 := hbl.trans (b1.mono hbl.size)
      clear hC
      cases hx : p t with
      | true =>
        rw [hx] at hvt
        go_wp2_with fail
        go_roundw
        case rel => exact ⟨i + 1, rfl, hi2, hvt, bl1⟩
        case measure => simp only [iOf]; omega
      | false =>
        have hF : Hid (l.any (fun x => !(p x)) = true) := Lib.hid (List.any_eq_true.2 ⟨t, hmem, by rw [hx]; rfl⟩)
        clear hvt hx
        go_wp2
        go_ret
        exact ⟨⟨_, rfl, by rw [hF.out]; exact ⟨(fun h => by cases h), fun _ => by omega⟩⟩, bl1⟩
    · have hie : i = l.length := by omega
      subst hie
      rw [List.take_length] at hvl
      have hvl := Lib.hid hvl
      clear hf
      go_wp2
      go_ret
      exact ⟨⟨_, rfl, by rw [hvl.out]; exact ⟨fun _ => rfl, fun h => by cases h⟩⟩, hbl⟩
set_option maxRecDepth 100000 in
theorem contains_obj (l : List Ob) (p : Ob → Bool) (cx : Value) (W : World) (A : Option Addr) (c : Nat) (hn : l.length ≤ maxLen) (hr : ObRow W A l)
    (hf : ∀ (t : Ob), t ∈ l → ∀ (w : World), Below W.heap.size W w → ∀ (A' : Option Addr) (c' : Nat) (_hs : CeSl w A' c' t.c), Calls Try.prog 50 #[.agg #[.slice A' t.c.length c', .bool t.g], cx] w fun e w' => e = .returned (.bool (!(p t))) ∧ Below w.heap.size w w') :
    Calls Try.prog 49 #[.slice A l.length c, .func (.func 50) #[] #[cx]] W fun e w' => e = .returned (.bool (l.any fun x => !(p x))) ∧ Below W.heap.size W w' := by
  have hC := index_obj l p cx W A c hn hr hf
  clear hf hr
  go_enter Try.func49, Try.ntmps49
  go_wp2_with fail
  refine hC.mono ?_
  rintro e w1 ⟨⟨r, rfl, hrr⟩, b1⟩
  clear hC
  cases hx : l.any fun x => !(p x) with
  | false =>
    obtain rfl := hrr.1 hx
    clear hrr
    have hx := Lib.hid hx
    go_wp2
    go_ret
    exact ⟨by rw [hx.out]; first | rfl | simp, b1⟩
  | true =>
    have hb : decide (0 ≤ r) = true := by simpa using hrr.2 hx
    clear hrr
    have hx := Lib.hid hx
    go_wp2
    go_ret
    exact ⟨by rw [hx.out]; first | rfl | simp, b1⟩

/-! ### Cells -/
theorem bitsOf_any (t : Ce) (w : World) : Calls Try.prog 37 #[.agg #[.int .i64 t.w, .bool t.s, .int .u64 t.v]] w fun e w' => e = .returned (.agg #[.int .i64 t.w, .int .u64 t.v]) ∧ Below w.heap.size w w' := by
  go_enter Try.func37, Try.ntmps37
  go_wp2
  refine bodyPost_ret (v := .agg #[.int .i64 t.w, .int .u64 t.v]) (by simp [results, Try.results37, go_sem]) rfl ⟨rfl, ?_⟩
  exact ((Below.refl _ _).alloc (Nat.le_refl _) _).alloc (by simp) _
set_option maxRecDepth 100000 in
set_option maxHeartbeats 1600000 in
theorem validCell_any (t : Ce) (w : World) : Calls Try.prog 47 #[.agg #[.int .i64 t.w, .bool t.s, .int .u64 t.v]] w fun e w' => e = .returned (.bool (ceV t)) ∧ Below w.heap.size w w' := by
  have hB := bitsOf_any t
  have hV := valid_any t.w t.v
  obtain ⟨n, s, v⟩ := t
  simp only at hB hV ⊢
  have hz : ceV ⟨n, s, v⟩ = (vB n v && (s || v == 0)) := rfl
  generalize ceV ⟨n, s, v⟩ = q at hz ⊢
  cases hc : vB n v with
  | false =>
    rw [hc] at hV hz
    have hz := Lib.hid hz
    go_enter Try.func47, Try.ntmps47
    go_wp2_with fail
    refine (hB _).mono ?_
    rintro e w1 ⟨rfl, b1⟩
    go_wp2_with fail
    refine (hV _).mono ?_
    rintro e w2 ⟨rfl, b2⟩
    clear hB hV
    go_wp2
    go_ret
    exact ⟨by rw [hz.out]; rfl, (Below.trans ((Below.refl _ _).alloc (Nat.le_refl _) _) (b1.mono (by simp))).trans (b2.mono (by have := b1.size; simp at this; omega))⟩
  | true =>
    rw [hc] at hV hz
    cases s with
    | true =>
      have hz := Lib.hid hz
      go_enter Try.func47, Try.ntmps47
      go_wp2_with fail
      refine (hB _).mono ?_
      rintro e w1 ⟨rfl, b1⟩
      have c1 : w1.cell? ⟨w.heap.size, 1, none⟩ = some (.bool true) := cell_later b1 (by simp [go_sem])
      have c2 : w1.cell? ⟨w.heap.size, 2, none⟩ = some (.int .u64 v) := cell_later b1 (by simp [go_sem])
      go_wp2_with fail
      refine (hV _).mono ?_
      rintro e w2 ⟨rfl, b2⟩
      have c1' := cell_later b2 c1
      have c2' := cell_later b2 c2
      clear hB hV c1 c2
      go_wp2
      go_ret
      exact ⟨by rw [hz.out]; rfl, (Below.trans ((Below.refl _ _).alloc (Nat.le_refl _) _) (b1.mono (by simp))).trans (b2.mono (by have := b1.size; simp at this; omega))⟩
    | false =>
      have hz := Lib.hid hz
      go_enter Try.func47, Try.ntmps47
      go_wp2_with fail
      refine (hB _).mono ?_
      rintro e w1 ⟨rfl, b1⟩
      have c1 : w1.cell? ⟨w.heap.size, 1, none⟩ = some (.bool false) := cell_later b1 (by simp [go_sem])
      have c2 : w1.cell? ⟨w.heap.size, 2, none⟩ = some (.int .u64 v) := cell_later b1 (by simp [go_sem])
      go_wp2_with fail
      refine (hV _).mono ?_
      rintro e w2 ⟨rfl, b2⟩
      have c1' := cell_later b2 c1
      have c2' := cell_later b2 c2
      clear hB hV c1 c2
      go_wp2
      go_ret
      exact ⟨by rw [hz.out]; rfl, (Below.trans ((Below.refl _ _).alloc (Nat.le_refl _) _) (b1.mono (by simp))).trans (b2.mono (by have := b1.size; simp at this; omega))⟩
theorem validWidth_any (t : Int) (w : World) : Calls Try.prog 29 #[.int .i64 t] w fun e w' => e = .returned (.bool (wV t)) ∧ Below w.heap.size w w' := by
  have hC := validCell_any ⟨t, false, 0⟩
  have hz : ceV ⟨t, false, 0⟩ = wV t := by simp [ceV, wV]
  rw [hz] at hC
  go_enter Try.func29, Try.ntmps29
  go_wp2_with fail
  refine (hC _).mono ?_
  rintro e w1 ⟨rfl, b1⟩
  clear hC
  go_wp2
  go_ret
  exact ⟨rfl, b1⟩
set_option maxRecDepth 100000 in
set_option maxHeartbeats 1600000 in
theorem clo_cell (t : Ce) (w : World) (b : Nat) (hf : w.cell? ⟨b, 0, none⟩ = some (.func (.func 47) #[] #[])) 
    (hC : ∀ w1, Below w.heap.size w w1 → Calls Try.prog 47 #[.agg #[.int .i64 t.w, .bool t.s, .int .u64 t.v]] w1 fun e w' => e = .returned (.bool (ceV t)) ∧ Below w1.heap.size w1 w') :
    Calls Try.prog 60 #[.agg #[.int .i64 t.w, .bool t.s, .int .u64 t.v], .pointer (some ⟨b, 0, none⟩)] w fun e w' => e = .returned (.bool (!(ceV t))) ∧ Below w.heap.size w w' := by
  have hbl := cell_lt hf
  go_enter Try.func60, Try.ntmps60
  go_wp2_with fail
  refine (show Calls Try.prog 47 _ _ _ from hC _ (by first | exact Below.refl _ _ | exact (Below.refl _ _).alloc (Nat.le_refl _) _)).mono ?_
  rintro e w1 ⟨rfl, b1⟩
  clear hC
  go_wp2
  go_ret
  exact ⟨rfl, by first | exact b1 | exact Below.trans ((Below.refl _ _).alloc (Nat.le_refl _) _) (b1.mono (by simp))⟩
set_option maxRecDepth 100000 in
set_option maxHeartbeats 1600000 in
theorem all_cell (l : List Ce) (W : World) (A : Option Addr) (c : Nat) (hn : l.length ≤ maxLen) (hr : CeRow W A l)
    (hP : ∀ (t : Ce), t ∈ l → ∀ (w : World), Below W.heap.size W w → Calls Try.prog 47 #[.agg #[.int .i64 t.w, .bool t.s, .int .u64 t.v]] w fun e w' => e = .returned (.bool (ceV t)) ∧ Below w.heap.size w w') :
    Calls Try.prog 51 #[.slice A l.length c, .func (.func 47) #[] #[]] W fun e w' => e = .returned (.bool (l.all ceV)) ∧ Below W.heap.size W w' := by
  have hK : ∀ w1, Below W.heap.size W w1 → ∀ b, w1.cell? ⟨b, 0, none⟩ = some (.func (.func 47) #[] #[]) → Calls Try.prog 59 #[.slice A l.length c, .func (.func 60) #[] #[.pointer (some ⟨b, 0, none⟩)]] w1 fun e w' => e = .returned (.bool (l.any fun x => !(ceV x))) ∧ Below w1.heap.size w1 w' := fun w1 hb b hc =>
    contains_cell l ceV (.pointer (some ⟨b, 0, none⟩)) w1 A c hn (hr.later hb) (fun t ht w2 h2  => clo_cell t w2 b (cell_later h2 hc)  (fun w3 h3 => hP t ht w3 ((hb.trans (h2.mono hb.size)).trans (h3.mono (Nat.le_trans hb.size h2.size))) ))
  clear hP hr
  go_enter Try.func51, Try.ntmps51
  go_wp2_with fail
  refine (hK _ ((Below.refl _ _).alloc (Nat.le_refl _) _) _ (by first | rfl | simp [go_sem])).mono ?_
  rintro e w1 ⟨rfl, b1⟩
  clear hK
  have hx := not_any_not ceV l
  generalize (l.any fun x => !(ceV x)) = q at hx ⊢
  have hx := Lib.hid hx
  go_wp2
  go_ret
  exact ⟨by rw [← hx.out]; rfl, Below.trans ((Below.refl _ _).alloc (Nat.le_refl _) _) (b1.mono (by simp))⟩
set_option maxRecDepth 100000 in
set_option maxHeartbeats 1600000 in
theorem clo_int (t : Int) (w : World) (b : Nat) (hf : w.cell? ⟨b, 0, none⟩ = some (.func (.func 29) #[] #[])) 
    (hC : ∀ w1, Below w.heap.size w w1 → Calls Try.prog 29 #[.int .i64 t] w1 fun e w' => e = .returned (.bool (wV t)) ∧ Below w1.heap.size w1 w') :
    Calls Try.prog 46 #[.int .i64 t, .pointer (some ⟨b, 0, none⟩)] w fun e w' => e = .returned (.bool (!(wV t))) ∧ Below w.heap.size w w' := by
  have hbl := cell_lt hf
  go_enter Try.func46, Try.ntmps46
  go_wp2_with fail
  refine (show Calls Try.prog 29 _ _ _ from hC _ (by first | exact Below.refl _ _ | exact (Below.refl _ _).alloc (Nat.le_refl _) _)).mono ?_
  rintro e w1 ⟨rfl, b1⟩
  clear hC
  go_wp2
  go_ret
  exact ⟨rfl, by first | exact b1 | exact Below.trans ((Below.refl _ _).alloc (Nat.le_refl _) _) (b1.mono (by simp))⟩
set_option maxRecDepth 100000 in
set_option maxHeartbeats 1600000 in
theorem all_int (l : List Int) (W : World) (A : Option Addr) (c : Nat) (hn : l.length ≤ maxLen) (hr : IRow W A l)
    (hP : ∀ (t : Int), t ∈ l → ∀ (w : World), Below W.heap.size W w → Calls Try.prog 29 #[.int .i64 t] w fun e w' => e = .returned (.bool (wV t)) ∧ Below w.heap.size w w') :
    Calls Try.prog 28 #[.slice A l.length c, .func (.func 29) #[] #[]] W fun e w' => e = .returned (.bool (l.all wV)) ∧ Below W.heap.size W w' := by
  have hK : ∀ w1, Below W.heap.size W w1 → ∀ b, w1.cell? ⟨b, 0, none⟩ = some (.func (.func 29) #[] #[]) → Calls Try.prog 45 #[.slice A l.length c, .func (.func 46) #[] #[.pointer (some ⟨b, 0, none⟩)]] w1 fun e w' => e = .returned (.bool (l.any fun x => !(wV x))) ∧ Below w1.heap.size w1 w' := fun w1 hb b hc =>
    contains_int l wV (.pointer (some ⟨b, 0, none⟩)) w1 A c hn (hr.later hb) (fun t ht w2 h2  => clo_int t w2 b (cell_later h2 hc)  (fun w3 h3 => hP t ht w3 ((hb.trans (h2.mono hb.size)).trans (h3.mono (Nat.le_trans hb.size h2.size))) ))
  clear hP hr
  go_enter Try.func28, Try.ntmps28
  go_wp2_with fail
  refine (hK _ ((Below.refl _ _).alloc (Nat.le_refl _) _) _ (by first | rfl | simp [go_sem])).mono ?_
  rintro e w1 ⟨rfl, b1⟩
  clear hK
  have hx := not_any_not wV l
  generalize (l.any fun x => !(wV x)) = q at hx ⊢
  have hx := Lib.hid hx
  go_wp2
  go_ret
  exact ⟨by rw [← hx.out]; rfl, Below.trans ((Below.refl _ _).alloc (Nat.le_refl _) _) (b1.mono (by simp))⟩

/-! ### Objects -/
set_option maxRecDepth 100000 in
set_option maxHeartbeats 1600000 in
theorem validObject_any (t : Ob) (w : World) (A' : Option Addr) (c' : Nat) (hs : CeSl w A' c' t.c) : Calls Try.prog 33 #[.agg #[.slice A' t.c.length c', .bool t.g]] w fun e w' => e = .returned (.bool (obV t)) ∧ Below w.heap.size w w' := by
  have hlen : t.c.length ≤ maxLen := Nat.le_trans hs.1 hs.2.1
  have hC : ∀ w1, Below w.heap.size w w1 → Calls Try.prog 51 #[.slice A' t.c.length c', .func (.func 47) #[] #[]] w1 fun e w' => e = .returned (.bool (t.c.all ceV)) ∧ Below w1.heap.size w1 w' := fun w1 h1 =>
    all_cell t.c w1 A' c' hlen (hs.2.2.2.later h1) (fun x _ w2 _ => validCell_any x w2)
  clear hs
  have hz : obV t = (decide (t.c.length ≤ 16) && t.c.all ceV) := rfl
  generalize obV t = q at hz ⊢
  generalize t.c.all ceV = r at hz hC
  by_cases hl : t.c.length ≤ 16
  · have hd : decide ((t.c.length : Int) ≤ 16) = true := by simp; omega
    rw [decide_eq_true hl] at hz
    have hz := Lib.hid hz
    clear hl
    go_enter Try.func33, Try.ntmps33
    go_wp2_with fail
    refine (hC _ ((Below.refl _ _).alloc (Nat.le_refl _) _)).mono ?_
    rintro e w1 ⟨rfl, b1⟩
    clear hC
    go_wp2
    go_ret
    exact ⟨by rw [hz.out]; rfl, Below.trans ((Below.refl _ _).alloc (Nat.le_refl _) _) (b1.mono (by simp))⟩
  · have hd : decide ((t.c.length : Int) ≤ 16) = false := by simp; omega
    rw [decide_eq_false hl] at hz
    have hz := Lib.hid hz
    clear hl hC
    go_enter Try.func33, Try.ntmps33
    go_wp2
    go_ret
    exact ⟨by rw [hz.out]; rfl, (Below.refl _ _).alloc (Nat.le_refl _) _⟩
set_option maxRecDepth 100000 in
set_option maxHeartbeats 1600000 in
theorem clo_obj (t : Ob) (A' : Option Addr) (c' : Nat) (w : World) (b : Nat) (hf : w.cell? ⟨b, 0, none⟩ = some (.func (.func 33) #[] #[])) 
    (hC : ∀ w1, Below w.heap.size w w1 → Calls Try.prog 33 #[.agg #[.slice A' t.c.length c', .bool t.g]] w1 fun e w' => e = .returned (.bool (obV t)) ∧ Below w1.heap.size w1 w') :
    Calls Try.prog 50 #[.agg #[.slice A' t.c.length c', .bool t.g], .pointer (some ⟨b, 0, none⟩)] w fun e w' => e = .returned (.bool (!(obV t))) ∧ Below w.heap.size w w' := by
  have hbl := cell_lt hf
  go_enter Try.func50, Try.ntmps50
  go_wp2_with fail
  refine (show Calls Try.prog 33 _ _ _ from hC _ (by first | exact Below.refl _ _ | exact (Below.refl _ _).alloc (Nat.le_refl _) _)).mono ?_
  rintro e w1 ⟨rfl, b1⟩
  clear hC
  go_wp2
  go_ret
  exact ⟨rfl, by first | exact b1 | exact Below.trans ((Below.refl _ _).alloc (Nat.le_refl _) _) (b1.mono (by simp))⟩
set_option maxRecDepth 100000 in
set_option maxHeartbeats 1600000 in
theorem all_obj (l : List Ob) (W : World) (A : Option Addr) (c : Nat) (hn : l.length ≤ maxLen) (hr : ObRow W A l)
    (hP : ∀ (t : Ob), t ∈ l → ∀ (w : World), Below W.heap.size W w → ∀ (A' : Option Addr) (c' : Nat) (_hs : CeSl w A' c' t.c), Calls Try.prog 33 #[.agg #[.slice A' t.c.length c', .bool t.g]] w fun e w' => e = .returned (.bool (obV t)) ∧ Below w.heap.size w w') :
    Calls Try.prog 32 #[.slice A l.length c, .func (.func 33) #[] #[]] W fun e w' => e = .returned (.bool (l.all obV)) ∧ Below W.heap.size W w' := by
  have hK : ∀ w1, Below W.heap.size W w1 → ∀ b, w1.cell? ⟨b, 0, none⟩ = some (.func (.func 33) #[] #[]) → Calls Try.prog 49 #[.slice A l.length c, .func (.func 50) #[] #[.pointer (some ⟨b, 0, none⟩)]] w1 fun e w' => e = .returned (.bool (l.any fun x => !(obV x))) ∧ Below w1.heap.size w1 w' := fun w1 hb b hc =>
    contains_obj l obV (.pointer (some ⟨b, 0, none⟩)) w1 A c hn (hr.later hb) (fun t ht w2 h2 A' c' hs => clo_obj t A' c' w2 b (cell_later h2 hc)  (fun w3 h3 => hP t ht w3 ((hb.trans (h2.mono hb.size)).trans (h3.mono (Nat.le_trans hb.size h2.size))) A' c' (hs.later h3)))
  clear hP hr
  go_enter Try.func32, Try.ntmps32
  go_wp2_with fail
  refine (hK _ ((Below.refl _ _).alloc (Nat.le_refl _) _) _ (by first | rfl | simp [go_sem])).mono ?_
  rintro e w1 ⟨rfl, b1⟩
  clear hK
  have hx := not_any_not obV l
  generalize (l.any fun x => !(obV x)) = q at hx ⊢
  have hx := Lib.hid hx
  go_wp2
  go_ret
  exact ⟨by rw [← hx.out]; rfl, Below.trans ((Below.refl _ _).alloc (Nat.le_refl _) _) (b1.mono (by simp))⟩

set_option maxRecDepth 100000 in
set_option maxHeartbeats 1600000 in
theorem Valid_any (l : List Ob) (w : World) (A : Option Addr) (c : Nat) (hs : ObSl w A c l) : Calls Try.prog 15 #[.slice A l.length c] w fun e w' => e = .returned (.bool (obsV l)) ∧ Below w.heap.size w w' := by
  have hlen : l.length ≤ maxLen := Nat.le_trans hs.1 hs.2.1
  have hC : ∀ w1, Below w.heap.size w w1 → Calls Try.prog 32 #[.slice A l.length c, .func (.func 33) #[] #[]] w1 fun e w' => e = .returned (.bool (l.all obV)) ∧ Below w1.heap.size w1 w' := fun w1 h1 =>
    all_obj l w1 A c hlen (hs.2.2.2.later h1) (fun x _ w2 _ A' c' h => validObject_any x w2 A' c' h)
  clear hs
  have hz : obsV l = (decide (l.length ≤ 8) && l.all obV) := rfl
  generalize obsV l = q at hz ⊢
  generalize l.all obV = r at hz hC
  by_cases hl : l.length ≤ 8
  · have hd : decide ((l.length : Int) ≤ 8) = true := by simp; omega
    rw [decide_eq_true hl] at hz
    have hz := Lib.hid hz
    clear hl
    go_enter Try.func15, Try.ntmps15
    go_wp2_with fail
    refine (hC _ (Below.refl _ _)).mono ?_
    rintro e w1 ⟨rfl, b1⟩
    clear hC
    go_wp2
    go_ret
    exact ⟨by rw [hz.out]; rfl, b1⟩
  · have hd : decide ((l.length : Int) ≤ 8) = false := by simp; omega
    rw [decide_eq_false hl] at hz
    have hz := Lib.hid hz
    clear hl hC
    go_enter Try.func15, Try.ntmps15
    go_wp2
    go_ret
    exact ⟨by rw [hz.out]; rfl, Below.refl _ _⟩
end Go.Proofs.Yteekppohhjlmmaa
