/- slices.IndexFunc and slices.ContainsFunc. -/
import Derived.Test.YtnbgadndkepomaaGreatDoorSaRow
import Derived.Test.YtnbgadndkepomaaGreatDoorSQE
namespace Go.Proofs.YtnbgadndkepomaaGreatDoor
open Go.RowKit

def IxOk (b : Bool) (r : Int) : Prop := (b = false → r = -1) ∧ (b = true → 0 ≤ r)
def IxRel {α : Type} (W : World) (p : α → Bool) (l : List α) (v : Value) (wr : World) : Prop := ∃ i : Nat, v = .int .i64 i ∧ i ≤ l.length ∧ (l.take i).any p = false ∧ Below W.heap.size W wr
theorem any_snoc {α : Type} (p : α → Bool) (l : List α) (i : Nat) (hi : i < l.length) (h : (l.take i).any p = false) : (l.take (i + 1)).any p = p l[i] := by
  rw [List.take_succ_eq_append_getElem hi, List.any_append, h]; simp
set_option maxRecDepth 100000 in
set_option maxHeartbeats 1600000 in
theorem index_int (l : List Int) (p : Int → Bool) (W : World) (A : Option Addr) (c : Nat) (hn : l.length ≤ 9223372036854775806) (hr : IRow W A l)
    (hf : ∀ (t : Int), t ∈ l → ∀ (w : World), Below W.heap.size W w → ∀ (_ : True), Calls Tryz.prog 119 #[.int .i64 t] w fun e w' => e = .returned (.bool (p t)) ∧ Below w.heap.size w w') :
    Calls Tryz.prog 129 #[.slice A l.length c, .func (.func 119) #[] #[]] W fun e w' => (∃ r : Int, e = .returned (.int .i64 r) ∧ IxOk (l.any p) r) ∧ Below W.heap.size W w' := by
  go_enter Tryz.func129, Tryz.ntmps129
  go_wp2_with fail
  go_loopw [8] (fun v wr => IxRel W p l v wr) (fun v _ => l.length - iOf v)
  case atStart => exact ⟨0, rfl, Nat.zero_le _, rfl, Below.refl _ _⟩
  case round =>
    rename_i wr
    obtain ⟨i, rfl, hil, hvl, hbl⟩ := hrel
    by_cases hi2 : i < l.length
    · have hr2 := hr.later hbl
      obtain ⟨g, o, rfl, c0⟩ := hr2 i hi2
      have hmem : l[i] ∈ l := List.getElem_mem hi2
      have hvt := any_snoc p l i hi2 hvl
      obtain ⟨t, ht⟩ : ∃ t, Hid (l[i] = t) := ⟨_, Lib.hid rfl⟩
      simp only [ht.out] at c0  hmem hvt
      have d0 : wr.cell? ⟨g, o + i, none⟩ = some (.int .i64 t) := c0
      have hw2 : IntKind.i64.wrap ((i : Int) + 1) = ((i + 1 : Nat) : Int) := by rw [IntWalk.i64_in _ (by omega)]; omega
      have hC := hf t hmem wr hbl trivial
      clear hf hr hr2 ht c0
      go_wp2_with fail
      refine (show Calls Tryz.prog 119 _ _ _ from hC).mono ?_
      rintro e w1 ⟨rfl, b1⟩
      have bl1 := hbl.trans (b1.mono hbl.size)
      clear hC
      cases hx : p t with
      | false =>
        rw [hx] at hvt
        go_wp2_with fail
        go_roundw
        case rel => exact ⟨i + 1, rfl, hi2, hvt, bl1⟩
        case measure => simp only [iOf]; omega
      | true =>
        have hF : Hid (l.any p = true) := Lib.hid (List.any_eq_true.2 ⟨t, hmem, hx⟩)
        clear hvt hx
        go_wp2
        go_ret
        exact ⟨⟨_, rfl, by rw [hF.out]; exact ⟨(fun h => by cases h), fun _ => by omega⟩⟩, bl1⟩
    · have hie : i = l.length := by omega
      subst hie
      rw [List.take_length] at hvl
      have hvl := Lib.hid hvl
      clear hf
      go_wp2
      go_ret
      exact ⟨⟨_, rfl, by rw [hvl.out]; exact ⟨fun _ => rfl, fun h => by cases h⟩⟩, hbl⟩
set_option maxRecDepth 100000 in
theorem contains_int (l : List Int) (p : Int → Bool) (W : World) (A : Option Addr) (c : Nat) (hn : l.length ≤ 9223372036854775806) (hr : IRow W A l)
    (hf : ∀ (t : Int), t ∈ l → ∀ (w : World), Below W.heap.size W w → ∀ (_ : True), Calls Tryz.prog 119 #[.int .i64 t] w fun e w' => e = .returned (.bool (p t)) ∧ Below w.heap.size w w') :
    Calls Tryz.prog 118 #[.slice A l.length c, .func (.func 119) #[] #[]] W fun e w' => e = .returned (.bool (l.any p)) ∧ Below W.heap.size W w' := by
  have hC := index_int l p W A c hn hr hf
  clear hf hr
  go_enter Tryz.func118, Tryz.ntmps118
  go_wp2_with fail
  refine hC.mono ?_
  rintro e w1 ⟨⟨r, rfl, hrr⟩, b1⟩
  clear hC
  cases hx : l.any p with
  | false =>
    obtain rfl := hrr.1 hx
    clear hrr
    have hx := Lib.hid hx
    go_wp2
    go_ret
    exact ⟨by rw [hx.out]; first | rfl | simp, b1⟩
  | true =>
    have hb : decide (0 ≤ r) = true := by simpa using hrr.2 hx
    clear hrr
    have hx := Lib.hid hx
    go_wp2
    go_ret
    exact ⟨by rw [hx.out]; first | rfl | simp, b1⟩
set_option maxRecDepth 100000 in
set_option maxHeartbeats 1600000 in
theorem index_list (l : List (List Int)) (p : (List Int) → Bool) (W : World) (A : Option Addr) (c : Nat) (hn : l.length ≤ 9223372036854775806) (hr : LRow W A l)
    (hf : ∀ (t : (List Int)), t ∈ l → ∀ (w : World), Below W.heap.size W w → ∀ (A' : Option Addr) (c' : Nat) (_l1 : t.length ≤ c') (_l2 : c' ≤ maxLen) (_r1 : IRow w A' t), Calls Tryz.prog 84 #[.slice A' t.length c'] w fun e w' => e = .returned (.bool (p t)) ∧ Below w.heap.size w w') :
    Calls Tryz.prog 117 #[.slice A l.length c, .func (.func 84) #[] #[]] W fun e w' => (∃ r : Int, e = .returned (.int .i64 r) ∧ IxOk (l.any p) r) ∧ Below W.heap.size W w' := by
  go_enter Tryz.func117, Tryz.ntmps117
  go_wp2_with fail
  go_loopw [8] (fun v wr => IxRel W p l v wr) (fun v _ => l.length - iOf v)
  case atStart => exact ⟨0, rfl, Nat.zero_le _, rfl, Below.refl _ _⟩
  case round =>
    rename_i wr
    obtain ⟨i, rfl, hil, hvl, hbl⟩ := hrel
    by_cases hi2 : i < l.length
    · have hr2 := hr.later hbl
      obtain ⟨g, o, A', c', rfl, c0, l1, l2, r1⟩ := hr2 i hi2
      have hmem : l[i] ∈ l := List.getElem_mem hi2
      have hvt := any_snoc p l i hi2 hvl
      obtain ⟨t, ht⟩ : ∃ t, Hid (l[i] = t) := ⟨_, Lib.hid rfl⟩
      simp only [ht.out] at c0 l1 l2 r1 hmem hvt
      have d0 : wr.cell? ⟨g, o + i, none⟩ = some (.slice A' t.length c') := c0
      have hw2 : IntKind.i64.wrap ((i : Int) + 1) = ((i + 1 : Nat) : Int) := by rw [IntWalk.i64_in _ (by omega)]; omega
      have hC := hf t hmem wr hbl A' c' l1 l2 r1
      clear hf hr hr2 ht c0
      go_wp2_with fail
      refine (show Calls Tryz.prog 84 _ _ _ from hC).mono ?_
      rintro e w1 ⟨rfl, b1⟩
      have bl1 := hbl.trans (b1.mono hbl.size)
      clear hC
      cases hx : p t with
      | false =>
        rw [hx] at hvt
        go_wp2_with fail
        go_roundw
        case rel => exact ⟨i + 1, rfl, hi2, hvt, bl1⟩
        case measure => simp only [iOf]; omega
      | true =>
        have hF : Hid (l.any p = true) := Lib.hid (List.any_eq_true.2 ⟨t, hmem, hx⟩)
        clear hvt hx
        go_wp2
        go_ret
        exact ⟨⟨_, rfl, by rw [hF.out]; exact ⟨(fun h => by cases h), fun _ => by omega⟩⟩, bl1⟩
    · have hie : i = l.length := by omega
      subst hie
      rw [List.take_length] at hvl
      have hvl := Lib.hid hvl
      clear hf
      go_wp2
      go_ret
      exact ⟨⟨_, rfl, by rw [hvl.out]; exact ⟨fun _ => rfl, fun h => by cases h⟩⟩, hbl⟩
set_option maxRecDepth 100000 in
theorem contains_list (l : List (List Int)) (p : (List Int) → Bool) (W : World) (A : Option Addr) (c : Nat) (hn : l.length ≤ 9223372036854775806) (hr : LRow W A l)
    (hf : ∀ (t : (List Int)), t ∈ l → ∀ (w : World), Below W.heap.size W w → ∀ (A' : Option Addr) (c' : Nat) (_l1 : t.length ≤ c') (_l2 : c' ≤ maxLen) (_r1 : IRow w A' t), Calls Tryz.prog 84 #[.slice A' t.length c'] w fun e w' => e = .returned (.bool (p t)) ∧ Below w.heap.size w w') :
    Calls Tryz.prog 83 #[.slice A l.length c, .func (.func 84) #[] #[]] W fun e w' => e = .returned (.bool (l.any p)) ∧ Below W.heap.size W w' := by
  have hC := index_list l p W A c hn hr hf
  clear hf hr
  go_enter Tryz.func83, Tryz.ntmps83
  go_wp2_with fail
  refine hC.mono ?_
  rintro e w1 ⟨⟨r, rfl, hrr⟩, b1⟩
  clear hC
  cases hx : l.any p with
  | false =>
    obtain rfl := hrr.1 hx
    clear hrr
    have hx := Lib.hid hx
    go_wp2
    go_ret
    exact ⟨by rw [hx.out]; first | rfl | simp, b1⟩
  | true =>
    have hb : decide (0 ≤ r) = true := by simpa using hrr.2 hx
    clear hrr
    have hx := Lib.hid hx
    go_wp2
    go_ret
    exact ⟨by rw [hx.out]; first | rfl | simp, b1⟩
set_option maxRecDepth 100000 in
set_option maxHeartbeats 1600000 in
theorem index_blockE (l : List CBk) (p : CBk → Bool) (cx : Value) (W : World) (A : Option Addr) (c : Nat) (hn : l.length ≤ 9223372036854775806) (hr : BkRow W A l)
    (hf : ∀ (t : CBk), t ∈ l → ∀ (w : World), Below W.heap.size W w → ∀ (TA EA : Option Addr) (tc ec : Nat) (_hl : EndL w t.en TA EA tc ec), Calls Tryz.prog 91 #[.agg #[.int .i64 t.frm, .int .i64 t.til, .int .i64 t.en.kind, .int .i64 t.en.a, .int .i64 t.en.to, .int .i64 t.en.els, .slice TA t.en.ta.length tc, .slice EA t.en.ea.length ec, .int .i64 t.en.n, .int .i64 t.en.at_], cx] w fun e w' => e = .returned (.bool (p t)) ∧ Below w.heap.size w w') :
    Calls Tryz.prog 122 #[.slice A l.length c, .func (.func 91) #[] #[cx]] W fun e w' => (∃ r : Int, e = .returned (.int .i64 r) ∧ IxOk (l.any p) r) ∧ Below W.heap.size W w' := by
  go_enter Tryz.func122, Tryz.ntmps122
  go_wp2_with fail
  go_loopw [8] (fun v wr => IxRel W p l v wr) (fun v _ => l.length - iOf v)
  case atStart => exact ⟨0, rfl, Nat.zero_le _, rfl, Below.refl _ _⟩
  case round =>
    rename_i wr
    obtain ⟨i, rfl, hil, hvl, hbl⟩ := hrel
    by_cases hi2 : i < l.length
    · have hr2 := hr.later hbl
      obtain ⟨g, o, TA, EA, tc, ec, rfl, ⟨c0, c1, c2, c3, c4, c5, c6, c7, c8, c9⟩, hl⟩ := hr2 i hi2
      have hmem : l[i] ∈ l := List.getElem_mem hi2
      have hvt := any_snoc p l i hi2 hvl
      obtain ⟨t, ht⟩ : ∃ t, Hid (l[i] = t) := ⟨_, Lib.hid rfl⟩
      simp only [ht.out] at c0 c1 c2 c3 c4 c5 c6 c7 c8 c9 hl hmem hvt
      have d0 : wr.cell? ⟨g, o + i * 10, none⟩ = some (.int .i64 t.frm) := c0
      have d1 : wr.cell? ⟨g, o + i * 10 + 1, none⟩ = some (.int .i64 t.til) := c1
      have d2 : wr.cell? ⟨g, o + i * 10 + 2, none⟩ = some (.int .i64 t.en.kind) := c2
      have d3 : wr.cell? ⟨g, o + i * 10 + 3, none⟩ = some (.int .i64 t.en.a) := c3
      have d4 : wr.cell? ⟨g, o + i * 10 + 4, none⟩ = some (.int .i64 t.en.to) := c4
      have d5 : wr.cell? ⟨g, o + i * 10 + 5, none⟩ = some (.int .i64 t.en.els) := c5
      have d6 : wr.cell? ⟨g, o + i * 10 + 6, none⟩ = some (.slice TA t.en.ta.length tc) := c6
      have d7 : wr.cell? ⟨g, o + i * 10 + 7, none⟩ = some (.slice EA t.en.ea.length ec) := c7
      have d8 : wr.cell? ⟨g, o + i * 10 + 8, none⟩ = some (.int .i64 t.en.n) := c8
      have d9 : wr.cell? ⟨g, o + i * 10 + 9, none⟩ = some (.int .i64 t.en.at_) := c9
      have hw2 : IntKind.i64.wrap ((i : Int) + 1) = ((i + 1 : Nat) : Int) := by rw [IntWalk.i64_in _ (by omega)]; omega
      have hC := hf t hmem wr hbl TA EA tc ec hl
      clear hf hr hr2 ht c0 c1 c2 c3 c4 c5 c6 c7 c8 c9
      go_wp2_with fail
      refine (show Calls Tryz.prog 91 _ _ _ from hC).mono ?_
      rintro e w1 ⟨rfl, b1⟩
      have bl1 := hbl.trans (b1.mono hbl.size)
      clear hC
      cases hx : p t with
      | false =>
        rw [hx] at hvt
        go_wp2_with fail
        go_roundw
        case rel => exact ⟨i + 1, rfl, hi2, hvt, bl1⟩
        case measure => simp only [iOf]; omega
      | true =>
        have hF : Hid (l.any p = true) := Lib.hid (List.any_eq_true.2 ⟨t, hmem, hx⟩)
        clear hvt hx
        go_wp2
        go_ret
        exact ⟨⟨_, rfl, by rw [hF.out]; exact ⟨(fun h => by cases h), fun _ => by omega⟩⟩, bl1⟩
    · have hie : i = l.length := by omega
      subst hie
      rw [List.take_length] at hvl
      have hvl := Lib.hid hvl
      clear hf
      go_wp2
      go_ret
      exact ⟨⟨_, rfl, by rw [hvl.out]; exact ⟨fun _ => rfl, fun h => by cases h⟩⟩, hbl⟩
set_option maxRecDepth 100000 in
theorem contains_blockE (l : List CBk) (p : CBk → Bool) (cx : Value) (W : World) (A : Option Addr) (c : Nat) (hn : l.length ≤ 9223372036854775806) (hr : BkRow W A l)
    (hf : ∀ (t : CBk), t ∈ l → ∀ (w : World), Below W.heap.size W w → ∀ (TA EA : Option Addr) (tc ec : Nat) (_hl : EndL w t.en TA EA tc ec), Calls Tryz.prog 91 #[.agg #[.int .i64 t.frm, .int .i64 t.til, .int .i64 t.en.kind, .int .i64 t.en.a, .int .i64 t.en.to, .int .i64 t.en.els, .slice TA t.en.ta.length tc, .slice EA t.en.ea.length ec, .int .i64 t.en.n, .int .i64 t.en.at_], cx] w fun e w' => e = .returned (.bool (p t)) ∧ Below w.heap.size w w') :
    Calls Tryz.prog 90 #[.slice A l.length c, .func (.func 91) #[] #[cx]] W fun e w' => e = .returned (.bool (l.any p)) ∧ Below W.heap.size W w' := by
  have hC := index_blockE l p cx W A c hn hr hf
  clear hf hr
  go_enter Tryz.func90, Tryz.ntmps90
  go_wp2_with fail
  refine hC.mono ?_
  rintro e w1 ⟨⟨r, rfl, hrr⟩, b1⟩
  clear hC
  cases hx : l.any p with
  | false =>
    obtain rfl := hrr.1 hx
    clear hrr
    have hx := Lib.hid hx
    go_wp2
    go_ret
    exact ⟨by rw [hx.out]; first | rfl | simp, b1⟩
  | true =>
    have hb : decide (0 ≤ r) = true := by simpa using hrr.2 hx
    clear hrr
    have hx := Lib.hid hx
    go_wp2
    go_ret
    exact ⟨by rw [hx.out]; first | rfl | simp, b1⟩
set_option maxRecDepth 100000 in
set_option maxHeartbeats 1600000 in
theorem index_blockA (l : List CBk) (p : CBk → Bool) (cx : Value) (W : World) (A : Option Addr) (c : Nat) (hn : l.length ≤ 9223372036854775806) (hr : BkRow W A l)
    (hf : ∀ (t : CBk), t ∈ l → ∀ (w : World), Below W.heap.size W w → ∀ (TA EA : Option Addr) (tc ec : Nat) (_hl : EndL w t.en TA EA tc ec), Calls Tryz.prog 105 #[.agg #[.int .i64 t.frm, .int .i64 t.til, .int .i64 t.en.kind, .int .i64 t.en.a, .int .i64 t.en.to, .int .i64 t.en.els, .slice TA t.en.ta.length tc, .slice EA t.en.ea.length ec, .int .i64 t.en.n, .int .i64 t.en.at_], cx] w fun e w' => e = .returned (.bool (p t)) ∧ Below w.heap.size w w') :
    Calls Tryz.prog 122 #[.slice A l.length c, .func (.func 105) #[] #[cx]] W fun e w' => (∃ r : Int, e = .returned (.int .i64 r) ∧ IxOk (l.any p) r) ∧ Below W.heap.size W w' := by
  go_enter Tryz.func122, Tryz.ntmps122
  go_wp2_with fail
  go_loopw [8] (fun v wr => IxRel W p l v wr) (fun v _ => l.length - iOf v)
  case atStart => exact ⟨0, rfl, Nat.zero_le _, rfl, Below.refl _ _⟩
  case round =>
    rename_i wr
    obtain ⟨i, rfl, hil, hvl, hbl⟩ := hrel
    by_cases hi2 : i < l.length
    · have hr2 := hr.later hbl
      obtain ⟨g, o, TA, EA, tc, ec, rfl, ⟨c0, c1, c2, c3, c4, c5, c6, c7, c8, c9⟩, hl⟩ := hr2 i hi2
      have hmem : l[i] ∈ l := List.getElem_mem hi2
      have hvt := any_snoc p l i hi2 hvl
      obtain ⟨t, ht⟩ : ∃ t, Hid (l[i] = t) := ⟨_, Lib.hid rfl⟩
      simp only [ht.out] at c0 c1 c2 c3 c4 c5 c6 c7 c8 c9 hl hmem hvt
      have d0 : wr.cell? ⟨g, o + i * 10, none⟩ = some (.int .i64 t.frm) := c0
      have d1 : wr.cell? ⟨g, o + i * 10 + 1, none⟩ = some (.int .i64 t.til) := c1
      have d2 : wr.cell? ⟨g, o + i * 10 + 2, none⟩ = some (.int .i64 t.en.kind) := c2
      have d3 : wr.cell? ⟨g, o + i * 10 + 3, none⟩ = some (.int .i64 t.en.a) := c3
      have d4 : wr.cell? ⟨g, o + i * 10 + 4, none⟩ = some (.int .i64 t.en.to) := c4
      have d5 : wr.cell? ⟨g, o + i * 10 + 5, none⟩ = some (.int .i64 t.en.els) := c5
      have d6 : wr.cell? ⟨g, o + i * 10 + 6, none⟩ = some (.slice TA t.en.ta.length tc) := c6
      have d7 : wr.cell? ⟨g, o + i * 10 + 7, none⟩ = some (.slice EA t.en.ea.length ec) := c7
      have d8 : wr.cell? ⟨g, o + i * 10 + 8, none⟩ = some (.int .i64 t.en.n) := c8
      have d9 : wr.cell? ⟨g, o + i * 10 + 9, none⟩ = some (.int .i64 t.en.at_) := c9
      have hw2 : IntKind.i64.wrap ((i : Int) + 1) = ((i + 1 : Nat) : Int) := by rw [IntWalk.i64_in _ (by omega)]; omega
      have hC := hf t hmem wr hbl TA EA tc ec hl
      clear hf hr hr2 ht c0 c1 c2 c3 c4 c5 c6 c7 c8 c9
      go_wp2_with fail
      refine (show Calls Tryz.prog 105 _ _ _ from hC).mono ?_
      rintro e w1 ⟨rfl, b1⟩
      have bl1 := hbl.trans (b1.mono hbl.size)
      clear hC
      cases hx : p t with
      | false =>
        rw [hx] at hvt
        go_wp2_with fail
        go_roundw
        case rel => exact ⟨i + 1, rfl, hi2, hvt, bl1⟩
        case measure => simp only [iOf]; omega
      | true =>
        have hF : Hid (l.any p = true) := Lib.hid (List.any_eq_true.2 ⟨t, hmem, hx⟩)
        clear hvt hx
        go_wp2
        go_ret
        exact ⟨⟨_, rfl, by rw [hF.out]; exact ⟨(fun h => by cases h), fun _ => by omega⟩⟩, bl1⟩
    · have hie : i = l.length := by omega
      subst hie
      rw [List.take_length] at hvl
      have hvl := Lib.hid hvl
      clear hf
      go_wp2
      go_ret
      exact ⟨⟨_, rfl, by rw [hvl.out]; exact ⟨fun _ => rfl, fun h => by cases h⟩⟩, hbl⟩
set_option maxRecDepth 100000 in
theorem contains_blockA (l : List CBk) (p : CBk → Bool) (cx : Value) (W : World) (A : Option Addr) (c : Nat) (hn : l.length ≤ 9223372036854775806) (hr : BkRow W A l)
    (hf : ∀ (t : CBk), t ∈ l → ∀ (w : World), Below W.heap.size W w → ∀ (TA EA : Option Addr) (tc ec : Nat) (_hl : EndL w t.en TA EA tc ec), Calls Tryz.prog 105 #[.agg #[.int .i64 t.frm, .int .i64 t.til, .int .i64 t.en.kind, .int .i64 t.en.a, .int .i64 t.en.to, .int .i64 t.en.els, .slice TA t.en.ta.length tc, .slice EA t.en.ea.length ec, .int .i64 t.en.n, .int .i64 t.en.at_], cx] w fun e w' => e = .returned (.bool (p t)) ∧ Below w.heap.size w w') :
    Calls Tryz.prog 90 #[.slice A l.length c, .func (.func 105) #[] #[cx]] W fun e w' => e = .returned (.bool (l.any p)) ∧ Below W.heap.size W w' := by
  have hC := index_blockA l p cx W A c hn hr hf
  clear hf hr
  go_enter Tryz.func90, Tryz.ntmps90
  go_wp2_with fail
  refine hC.mono ?_
  rintro e w1 ⟨⟨r, rfl, hrr⟩, b1⟩
  clear hC
  cases hx : l.any p with
  | false =>
    obtain rfl := hrr.1 hx
    clear hrr
    have hx := Lib.hid hx
    go_wp2
    go_ret
    exact ⟨by rw [hx.out]; first | rfl | simp, b1⟩
  | true =>
    have hb : decide (0 ≤ r) = true := by simpa using hrr.2 hx
    clear hrr
    have hx := Lib.hid hx
    go_wp2
    go_ret
    exact ⟨by rw [hx.out]; first | rfl | simp, b1⟩
set_option maxRecDepth 100000 in
set_option maxHeartbeats 1600000 in
theorem index_edgeN (l : List Edge) (p : Edge → Bool) (cx : Value) (W : World) (A : Option Addr) (c : Nat) (hn : l.length ≤ 9223372036854775806) (hr : EdgeRow W A l)
    (hf : ∀ (t : Edge), t ∈ l → ∀ (w : World), Below W.heap.size W w → ∀ (TA : Option Addr) (tc : Nat) (_l1 : t.args.length ≤ tc) (_l2 : tc ≤ maxLen) (_r1 : IRow w TA t.args), Calls Tryz.prog 95 #[cx, .agg #[.int .i64 t.to, .slice TA t.args.length tc]] w fun e w' => e = .returned (.bool (p t)) ∧ Below w.heap.size w w') :
    Calls Tryz.prog 124 #[.slice A l.length c, .func (.func 95) #[cx] #[]] W fun e w' => (∃ r : Int, e = .returned (.int .i64 r) ∧ IxOk (l.any p) r) ∧ Below W.heap.size W w' := by
  go_enter Tryz.func124, Tryz.ntmps124
  go_wp2_with fail
  go_loopw [8] (fun v wr => IxRel W p l v wr) (fun v _ => l.length - iOf v)
  case atStart => exact ⟨0, rfl, Nat.zero_le _, rfl, Below.refl _ _⟩
  case round =>
    rename_i wr
    obtain ⟨i, rfl, hil, hvl, hbl⟩ := hrel
    by_cases hi2 : i < l.length
    · have hr2 := hr.later hbl
      obtain ⟨g, o, TA, tc, rfl, c0, c1, l1, l2, _, r1⟩ := hr2 i hi2
      have hmem : l[i] ∈ l := List.getElem_mem hi2
      have hvt := any_snoc p l i hi2 hvl
      obtain ⟨t, ht⟩ : ∃ t, Hid (l[i] = t) := ⟨_, Lib.hid rfl⟩
      simp only [ht.out] at c0 c1 l1 l2 r1 hmem hvt
      have d0 : wr.cell? ⟨g, o + i * 2, none⟩ = some (.int .i64 t.to) := c0
      have d1 : wr.cell? ⟨g, o + i * 2 + 1, none⟩ = some (.slice TA t.args.length tc) := c1
      have hw2 : IntKind.i64.wrap ((i : Int) + 1) = ((i + 1 : Nat) : Int) := by rw [IntWalk.i64_in _ (by omega)]; omega
      have hC := hf t hmem wr hbl TA tc l1 l2 r1
      clear hf hr hr2 ht c0 c1
      go_wp2_with fail
      refine (show Calls Tryz.prog 95 _ _ _ from hC).mono ?_
      rintro e w1 ⟨rfl, b1⟩
      have bl1 := hbl.trans (b1.mono hbl.size)
      clear hC
      cases hx : p t with
      | false =>
        rw [hx] at hvt
        go_wp2_with fail
        go_roundw
        case rel => exact ⟨i + 1, rfl, hi2, hvt, bl1⟩
        case measure => simp only [iOf]; omega
      | true =>
        have hF : Hid (l.any p = true) := Lib.hid (List.any_eq_true.2 ⟨t, hmem, hx⟩)
        clear hvt hx
        go_wp2
        go_ret
        exact ⟨⟨_, rfl, by rw [hF.out]; exact ⟨(fun h => by cases h), fun _ => by omega⟩⟩, bl1⟩
    · have hie : i = l.length := by omega
      subst hie
      rw [List.take_length] at hvl
      have hvl := Lib.hid hvl
      clear hf
      go_wp2
      go_ret
      exact ⟨⟨_, rfl, by rw [hvl.out]; exact ⟨fun _ => rfl, fun h => by cases h⟩⟩, hbl⟩
set_option maxRecDepth 100000 in
theorem contains_edgeN (l : List Edge) (p : Edge → Bool) (cx : Value) (W : World) (A : Option Addr) (c : Nat) (hn : l.length ≤ 9223372036854775806) (hr : EdgeRow W A l)
    (hf : ∀ (t : Edge), t ∈ l → ∀ (w : World), Below W.heap.size W w → ∀ (TA : Option Addr) (tc : Nat) (_l1 : t.args.length ≤ tc) (_l2 : tc ≤ maxLen) (_r1 : IRow w TA t.args), Calls Tryz.prog 95 #[cx, .agg #[.int .i64 t.to, .slice TA t.args.length tc]] w fun e w' => e = .returned (.bool (p t)) ∧ Below w.heap.size w w') :
    Calls Tryz.prog 93 #[.slice A l.length c, .func (.func 95) #[cx] #[]] W fun e w' => e = .returned (.bool (l.any p)) ∧ Below W.heap.size W w' := by
  have hC := index_edgeN l p cx W A c hn hr hf
  clear hf hr
  go_enter Tryz.func93, Tryz.ntmps93
  go_wp2_with fail
  refine hC.mono ?_
  rintro e w1 ⟨⟨r, rfl, hrr⟩, b1⟩
  clear hC
  cases hx : l.any p with
  | false =>
    obtain rfl := hrr.1 hx
    clear hrr
    have hx := Lib.hid hx
    go_wp2
    go_ret
    exact ⟨by rw [hx.out]; first | rfl | simp, b1⟩
  | true =>
    have hb : decide (0 ≤ r) = true := by simpa using hrr.2 hx
    clear hrr
    have hx := Lib.hid hx
    go_wp2
    go_ret
    exact ⟨by rw [hx.out]; first | rfl | simp, b1⟩
set_option maxRecDepth 100000 in
set_option maxHeartbeats 1600000 in
theorem index_edgeU (l : List Edge) (p : Edge → Bool) (cx : Value) (W : World) (A : Option Addr) (c : Nat) (hn : l.length ≤ 9223372036854775806) (hr : EdgeRow W A l)
    (hf : ∀ (t : Edge), t ∈ l → ∀ (w : World), Below W.heap.size W w → ∀ (TA : Option Addr) (tc : Nat) (_l1 : t.args.length ≤ tc) (_l2 : tc ≤ maxLen) (_r1 : IRow w TA t.args), Calls Tryz.prog 107 #[cx, .agg #[.int .i64 t.to, .slice TA t.args.length tc]] w fun e w' => e = .returned (.bool (p t)) ∧ Below w.heap.size w w') :
    Calls Tryz.prog 124 #[.slice A l.length c, .func (.func 107) #[cx] #[]] W fun e w' => (∃ r : Int, e = .returned (.int .i64 r) ∧ IxOk (l.any p) r) ∧ Below W.heap.size W w' := by
  go_enter Tryz.func124, Tryz.ntmps124
  go_wp2_with fail
  go_loopw [8] (fun v wr => IxRel W p l v wr) (fun v _ => l.length - iOf v)
  case atStart => exact ⟨0, rfl, Nat.zero_le _, rfl, Below.refl _ _⟩
  case round =>
    rename_i wr
    obtain ⟨i, rfl, hil, hvl, hbl⟩ := hrel
    by_cases hi2 : i < l.length
    · have hr2 := hr.later hbl
      obtain ⟨g, o, TA, tc, rfl, c0, c1, l1, l2, _, r1⟩ := hr2 i hi2
      have hmem : l[i] ∈ l := List.getElem_mem hi2
      have hvt := any_snoc p l i hi2 hvl
      obtain ⟨t, ht⟩ : ∃ t, Hid (l[i] = t) := ⟨_, Lib.hid rfl⟩
      simp only [ht.out] at c0 c1 l1 l2 r1 hmem hvt
      have d0 : wr.cell? ⟨g, o + i * 2, none⟩ = some (.int .i64 t.to) := c0
      have d1 : wr.cell? ⟨g, o + i * 2 + 1, none⟩ = some (.slice TA t.args.length tc) := c1
      have hw2 : IntKind.i64.wrap ((i : Int) + 1) = ((i + 1 : Nat) : Int) := by rw [IntWalk.i64_in _ (by omega)]; omega
      have hC := hf t hmem wr hbl TA tc l1 l2 r1
      clear hf hr hr2 ht c0 c1
      go_wp2_with fail
      refine (show Calls Tryz.prog 107 _ _ _ from hC).mono ?_
      rintro e w1 ⟨rfl, b1⟩
      have bl1 := hbl.trans (b1.mono hbl.size)
      clear hC
      cases hx : p t with
      | false =>
        rw [hx] at hvt
        go_wp2_with fail
        go_roundw
        case rel => exact ⟨i + 1, rfl, hi2, hvt, bl1⟩
        case measure => simp only [iOf]; omega
      | true =>
        have hF : Hid (l.any p = true) := Lib.hid (List.any_eq_true.2 ⟨t, hmem, hx⟩)
        clear hvt hx
        go_wp2
        go_ret
        exact ⟨⟨_, rfl, by rw [hF.out]; exact ⟨(fun h => by cases h), fun _ => by omega⟩⟩, bl1⟩
    · have hie : i = l.length := by omega
      subst hie
      rw [List.take_length] at hvl
      have hvl := Lib.hid hvl
      clear hf
      go_wp2
      go_ret
      exact ⟨⟨_, rfl, by rw [hvl.out]; exact ⟨fun _ => rfl, fun h => by cases h⟩⟩, hbl⟩
set_option maxRecDepth 100000 in
theorem contains_edgeU (l : List Edge) (p : Edge → Bool) (cx : Value) (W : World) (A : Option Addr) (c : Nat) (hn : l.length ≤ 9223372036854775806) (hr : EdgeRow W A l)
    (hf : ∀ (t : Edge), t ∈ l → ∀ (w : World), Below W.heap.size W w → ∀ (TA : Option Addr) (tc : Nat) (_l1 : t.args.length ≤ tc) (_l2 : tc ≤ maxLen) (_r1 : IRow w TA t.args), Calls Tryz.prog 107 #[cx, .agg #[.int .i64 t.to, .slice TA t.args.length tc]] w fun e w' => e = .returned (.bool (p t)) ∧ Below w.heap.size w w') :
    Calls Tryz.prog 93 #[.slice A l.length c, .func (.func 107) #[cx] #[]] W fun e w' => e = .returned (.bool (l.any p)) ∧ Below W.heap.size W w' := by
  have hC := index_edgeU l p cx W A c hn hr hf
  clear hf hr
  go_enter Tryz.func93, Tryz.ntmps93
  go_wp2_with fail
  refine hC.mono ?_
  rintro e w1 ⟨⟨r, rfl, hrr⟩, b1⟩
  clear hC
  cases hx : l.any p with
  | false =>
    obtain rfl := hrr.1 hx
    clear hrr
    have hx := Lib.hid hx
    go_wp2
    go_ret
    exact ⟨by rw [hx.out]; first | rfl | simp, b1⟩
  | true =>
    have hb : decide (0 ≤ r) = true := by simpa using hrr.2 hx
    clear hrr
    have hx := Lib.hid hx
    go_wp2
    go_ret
    exact ⟨by rw [hx.out]; first | rfl | simp, b1⟩
end Go.Proofs.YtnbgadndkepomaaGreatDoor
