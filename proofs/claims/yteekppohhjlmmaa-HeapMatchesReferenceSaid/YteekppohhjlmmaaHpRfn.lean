/- The reference of layer 9: has, fault, Load, Put, Free. -/
import Derived.Test.YteekppohhjlmmaaHpCop
import Derived.Test.YteekppohhjlmmaaHpPut
namespace Go.Proofs.Yteekppohhjlmmaa
open Go.RowKit

set_option maxRecDepth 100000 in
set_option maxHeartbeats 1600000 in
theorem has_invalid (l : List Ob) (obj : Int) (w : World) (A : Option Addr) (c : Nat) (hs : ObSl w A c l) (ho : oks l) (h : obsV l = false) : Calls Try.prog 38 #[.slice A l.length c, .int .i64 obj] w fun e w' => e = .returned (.bool (hasO l obj)) ∧ Below w.heap.size w w' := by
  have hV := RValid_any l w A c hs ho
  have hz : Hid (hasO l obj = false) := Lib.hid (by unfold hasO; rw [h]; rfl)
  rw [h] at hV
  clear h
  clear hs ho
  go_enter Try.func38, Try.ntmps38
  go_wp2_with fail
  refine hV.mono ?_
  rintro e w1 ⟨rfl, b1⟩
  clear hV
  go_wp2
  go_ret
  exact ⟨by rw [hz.out]; rfl, b1⟩
set_option maxRecDepth 100000 in
set_option maxHeartbeats 1600000 in
theorem has_low (l : List Ob) (obj : Int) (w : World) (A : Option Addr) (c : Nat) (hs : ObSl w A c l) (ho : oks l) (h : obsV l = true) (h0 : ¬ 0 ≤ obj) : Calls Try.prog 38 #[.slice A l.length c, .int .i64 obj] w fun e w' => e = .returned (.bool (hasO l obj)) ∧ Below w.heap.size w w' := by
  have hV := RValid_any l w A c hs ho
  have hz : Hid (hasO l obj = false) := Lib.hid (by unfold hasO; rw [decide_eq_false (fun q => h0 q.1)]; simp)
  rw [h] at hV
  have hd : decide (0 ≤ obj) = false := by simpa using h0
  clear h h0
  clear hs ho
  go_enter Try.func38, Try.ntmps38
  go_wp2_with fail
  refine hV.mono ?_
  rintro e w1 ⟨rfl, b1⟩
  clear hV
  go_wp2
  go_ret
  exact ⟨by rw [hz.out]; rfl, b1⟩
set_option maxRecDepth 100000 in
set_option maxHeartbeats 1600000 in
theorem has_high (l : List Ob) (obj : Int) (w : World) (A : Option Addr) (c : Nat) (hs : ObSl w A c l) (ho : oks l) (h : obsV l = true) (h0 : 0 ≤ obj) (h1 : ¬ obj < l.length) : Calls Try.prog 38 #[.slice A l.length c, .int .i64 obj] w fun e w' => e = .returned (.bool (hasO l obj)) ∧ Below w.heap.size w w' := by
  have hV := RValid_any l w A c hs ho
  have hz : Hid (hasO l obj = false) := Lib.hid (by unfold hasO; rw [decide_eq_false (fun q => h1 q.2)]; simp)
  rw [h] at hV
  have hd : decide (0 ≤ obj) = true := by simpa using h0
  have hd1 : decide (obj < (l.length : Int)) = false := by simpa using h1
  clear h h0 h1
  clear hs ho
  go_enter Try.func38, Try.ntmps38
  go_wp2_with fail
  refine hV.mono ?_
  rintro e w1 ⟨rfl, b1⟩
  clear hV
  go_wp2
  go_ret
  exact ⟨by rw [hz.out]; rfl, b1⟩
set_option maxRecDepth 100000 in
set_option maxHeartbeats 1600000 in
theorem has_yes (l : List Ob) (obj : Int) (w : World) (A : Option Addr) (c : Nat) (hs : ObSl w A c l) (ho : oks l) (h : obsV l = true) (h0 : 0 ≤ obj) (h1 : obj < l.length) : Calls Try.prog 38 #[.slice A l.length c, .int .i64 obj] w fun e w' => e = .returned (.bool (hasO l obj)) ∧ Below w.heap.size w w' := by
  have hV := RValid_any l w A c hs ho
  have hz : Hid (hasO l obj = true) := Lib.hid (hasO_iff.2 ⟨h, h0, h1⟩)
  rw [h] at hV
  have hd : decide (0 ≤ obj) = true := by simpa using h0
  have hd1 : decide (obj < (l.length : Int)) = true := by simpa using h1
  clear h h0 h1
  clear hs ho
  go_enter Try.func38, Try.ntmps38
  go_wp2_with fail
  refine hV.mono ?_
  rintro e w1 ⟨rfl, b1⟩
  clear hV
  go_wp2
  go_ret
  exact ⟨by rw [hz.out]; rfl, b1⟩

theorem has_any (l : List Ob) (obj : Int) (w : World) (A : Option Addr) (c : Nat) (hs : ObSl w A c l) (ho : oks l) : Calls Try.prog 38 #[.slice A l.length c, .int .i64 obj] w fun e w' => e = .returned (.bool (hasO l obj)) ∧ Below w.heap.size w w' := by
  cases h : obsV l with
  | false => exact has_invalid l obj w A c hs ho h
  | true =>
    by_cases h0 : 0 ≤ obj
    · by_cases h1 : obj < l.length
      · exact has_yes l obj w A c hs ho h h0 h1
      · exact has_high l obj w A c hs ho h h0 h1
    · exact has_low l obj w A c hs ho h h0
/-- The fault of an access. -/
def faultR (g : Bool) (n : Nat) (k : Nat) : Int := if g then 3 else if n ≤ k then 2 else 0
set_option maxRecDepth 100000 in
set_option maxHeartbeats 1600000 in
theorem fault_any (A' : Option Addr) (n c' k : Nat) (g : Bool) (w : World) (hn : n ≤ 100) : Calls Try.prog 39 #[.agg #[.slice A' n c', .bool g], .int .u64 (k : Nat)] w fun e w' => e = .returned (.int .i64 (faultR g n k)) ∧ Below w.heap.size w w' := by
  have hw : IntKind.u64.wrap (n : Int) = n := IntWalk.u64_in _ (by omega)
  cases g with
  | true =>
    have hz : Hid (faultR true n k = 3) := Lib.hid rfl
    go_enter Try.func39, Try.ntmps39
    go_wp2
    go_ret
    exact ⟨by rw [hz.out]; rfl, (Below.refl _ _).alloc (Nat.le_refl _) _⟩
  | false =>
    by_cases h : n ≤ k
    · have hz : Hid (faultR false n k = 2) := Lib.hid (by unfold faultR; rw [if_neg (by decide), if_pos h])
      go_enter Try.func39, Try.ntmps39
      go_wp2
      go_ret
      exact ⟨by rw [hz.out]; rfl, (Below.refl _ _).alloc (Nat.le_refl _) _⟩
    · have hz : Hid (faultR false n k = 0) := Lib.hid (by unfold faultR; rw [if_neg (by decide), if_neg h])
      go_enter Try.func39, Try.ntmps39
      go_wp2
      go_ret
      exact ⟨by rw [hz.out]; rfl, (Below.refl _ _).alloc (Nat.le_refl _) _⟩
set_option maxRecDepth 100000 in
set_option maxHeartbeats 1600000 in
theorem RFree_any (l : List Ob) (obj : Int) (w : World) (A : Option Addr) (c : Nat) (hs : ObSl w A c l) (ho : oks l) : Calls Try.prog 22 #[.slice A l.length c, .int .i64 obj] w (ObAns (freeR l obj) w) := by
  have hH := has_any l obj w A c hs ho
  cases hh : hasO l obj with
  | false =>
    have hR : freeR l obj = ([], 0, 1) := by unfold freeR; rw [if_pos hh]
    rw [hh] at hH
    rw [hR]
    clear hs ho hh hR
    go_enter Try.func22, Try.ntmps22
    go_wp2_with fail
    refine hH.mono ?_
    rintro e w1 ⟨rfl, b1⟩
    clear hH
    go_wp2
    refine bodyPost_ret (v := .tuple #[.slice none 0 0, .int .i64 0, .int .i64 1]) (by simp [results, Try.results22, go_sem]) rfl ?_
    exact ⟨none, 0, rfl, ObSl.nil _, b1⟩
  | true =>
    rw [hh] at hH
    obtain ⟨t, rfl⟩ : ∃ t : Nat, obj = t := ⟨obj.toNat, by have := (hasO_iff.1 hh).2; omega⟩
    have ht : t < l.length := by have := (hasO_iff.1 hh).2; omega
    have htc : (t : Int) < l.length := by omega
    obtain ⟨g, o, A', c', eA, k0, k1, _⟩ := hs.at_ ht
    subst eA
    cases hg : (obAt l t).g with
    | true =>
      rw [gone_free hh (by simpa using hg)]
      rw [hg] at k1
      clear hs ho hh hg k0
      go_enter Try.func22, Try.ntmps22
      go_wp2_with fail
      refine hH.mono ?_
      rintro e w1 ⟨rfl, b1⟩
      have k1 := cell_later b1 k1
      clear hH
      go_wp2
      refine bodyPost_ret (v := .tuple #[.slice none 0 0, .int .i64 3, .int .i64 0]) (by simp [results, Try.results22, go_sem]) rfl ?_
      exact ⟨none, 0, rfl, ObSl.nil _, b1⟩
    | false =>
      have hR := free_has hh (by simpa using hg)
      simp only [Int.toNat_natCast] at hR
      rw [hR]
      rw [hg] at k1
      have hC : ∀ w1, Below w.heap.size w w1 → _ := fun w1 h1 => RCopy_any l w1 _ c (hs.later h1) (few_of_valid (hasO_iff.1 hh).1)
      clear hs ho hh hg k0 hR
      go_enter Try.func22, Try.ntmps22
      go_wp2_with fail
      refine hH.mono ?_
      rintro e w1 ⟨rfl, b1⟩
      have k1 := cell_later b1 k1
      have hC := hC w1 b1
      clear hH
      go_wp2_with fail
      refine hC.mono ?_
      rintro e w2 ⟨⟨v, V, rfl, hT⟩, b2⟩
      have b2 := b1.trans (b2.mono b1.size)
      obtain ⟨gq, cap, rfl, q1, q2⟩ := copy_len hT (by omega)
      have k2 := (hT.slot ht).2
      have fz := World.ownsRow.frozenAt hT.row (t * 2 + 1)
      have hT2 := hT.free ht
      obtain ⟨A2, c2, e2, hS⟩ := hT2.sl
      simp at e2
      obtain ⟨e2a, e2b⟩ := e2
      subst e2a
      subst e2b
      have hW : Below w.heap.size w (w2.setCell ⟨gq, t * 2 + 1, none⟩ (.bool true)) := b2.setCell (by have := b1.size; show w.heap.size ≤ gq; omega) _
      have hlen : (l.set t ⟨(obAt l t).c, true⟩).length = l.length := List.length_set
      clear hC hT hT2 b1 k1
      go_wp2
      refine bodyPost_ret (v := .tuple #[.slice (some ⟨gq, 0, none⟩) l.length cap, .int .i64 0, .int .i64 0]) (by simp [results, Try.results22, go_sem]) rfl ?_
      exact ⟨_, _, by simp only [hlen], hS, hW⟩
end Go.Proofs.Yteekppohhjlmmaa
