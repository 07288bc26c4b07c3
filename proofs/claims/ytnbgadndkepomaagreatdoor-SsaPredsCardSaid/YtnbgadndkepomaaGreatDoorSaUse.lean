/- ssa: what an end uses. -/
import Derived.Test.YtnbgadndkepomaaGreatDoorSaEnd
import Derived.Laws.AppendOwnNone
namespace Go.Proofs.YtnbgadndkepomaaGreatDoor
open Go.RowKit

/-- The cells of a row of edges; the lists lie in an older world. -/
def EdCs (W : World) (cs : Array Value) (l : List Edge) : Prop := ∀ (i : Nat) (h : i < l.length), ∃ TA tc, cs[i * 2]? = some (.int .i64 l[i].to) ∧ cs[i * 2 + 1]? = some (.slice TA l[i].args.length tc) ∧ l[i].args.length ≤ tc ∧ tc ≤ maxLen ∧ (TA = none → tc = 0) ∧ IRow W TA l[i].args
/-- A row of edges, its block known whole. -/
def EdOk (W : World) (m : Nat) (w : World) (A : Option Addr) (l : List Edge) : Prop := 0 < l.length → ∃ b cs, A = some ⟨b, 0, none⟩ ∧ m ≤ b ∧ Box w b 100 cs ∧ EdCs W cs l
theorem EdOk.later {W w w' : World} {m : Nat} {A : Option Addr} {l : List Edge} (h : EdOk W m w A l) (hb : Below w.heap.size w w') : EdOk W m w' A l := fun h0 => by
  obtain ⟨b, cs, e, hm, hB, hC⟩ := h h0
  exact ⟨b, cs, e, hm, hB.below hb, hC⟩
theorem EdCs.older {W W' : World} {cs : Array Value} {l : List Edge} (h : EdCs W cs l) (hb : Below W.heap.size W W') : EdCs W' cs l := fun i hi => by
  obtain ⟨TA, tc, a, b, c, d, e, f⟩ := h i hi
  exact ⟨TA, tc, a, b, c, d, e, f.later hb⟩
/-- A row of edges that was made. -/
def EdgesPost2 (W0 W : World) (e : CEn) (r : Ending) (w' : World) : Prop := ∃ A c, r = .returned (.slice A (edges e).length c) ∧ (edges e).length ≤ c ∧ c ≤ maxLen ∧ EdOk W0 W.heap.size w' A (edges e) ∧ Below W.heap.size W w'
set_option maxRecDepth 100000 in
set_option maxHeartbeats 1600000 in
theorem edgesOf_any2 {W0 W : World} (e : CEn) (TA EA : Option Addr) (tc ec : Nat) (hl : EndL W0 e TA EA tc ec) :
    Calls Tryz.prog 94 #[.agg #[.int .i64 e.kind, .int .i64 e.a, .int .i64 e.to, .int .i64 e.els, .slice TA e.ta.length tc, .slice EA e.ea.length ec, .int .i64 e.n, .int .i64 e.at_]] W (EdgesPost2 W0 W e) := by
  obtain ⟨r1, r2, ⟨l1, l2⟩, ⟨l3, l4⟩, z1, z2⟩ := hl
  have N0 := Box.new W 41 #[.int .i64 e.kind, .int .i64 e.a, .int .i64 e.to, .int .i64 e.els, .slice TA e.ta.length tc, .slice EA e.ea.length ec, .int .i64 e.n, .int .i64 e.at_]
  have bA : Below W.heap.size W (W.alloc (.cells #[.int .i64 e.kind, .int .i64 e.a, .int .i64 e.to, .int .i64 e.els, .slice TA e.ta.length tc, .slice EA e.ea.length ec, .int .i64 e.n, .int .i64 e.at_] 41)) := (Below.refl _ _).alloc (Nat.le_refl _) _
  have n0 := N0.cell 0
  have n1 := N0.cell 1
  have n2 := N0.cell 2
  have n3 := N0.cell 3
  have n4 := N0.cell 4
  have n5 := N0.cell 5
  have n6 := N0.cell 6
  have n7 := N0.cell 7
  have hr1 := Lib.hid r1
  have hr2 := Lib.hid r2
  have l2' := Lib.hid l2
  have l4' := Lib.hid l4
  have z1' := Lib.hid z1
  have z2' := Lib.hid z2
  clear z1 z2
  unfold maxLen at l2 l4
  clear r1 r2
  by_cases k1 : e.kind = 1
  · have b : (e.kind == 1) = true := by simpa using k1
    have hE : Hid (edges e = [⟨e.to, e.ta⟩]) := Lib.hid (by unfold edges; rw [if_pos k1])
    clear k1
    go_enter Tryz.func94, Tryz.ntmps94
    go_wp2
    go_ret
    have N2 := Box.new (W.alloc (.cells #[.int .i64 e.kind, .int .i64 e.a, .int .i64 e.to, .int .i64 e.els, .slice TA e.ta.length tc, .slice EA e.ea.length ec, .int .i64 e.n, .int .i64 e.at_] 41)) 100 #[.int .i64 e.to, .slice TA e.ta.length tc]
    have bC : Below (W.alloc (.cells #[.int .i64 e.kind, .int .i64 e.a, .int .i64 e.to, .int .i64 e.els, .slice TA e.ta.length tc, .slice EA e.ea.length ec, .int .i64 e.n, .int .i64 e.at_] 41)).heap.size (W.alloc (.cells #[.int .i64 e.kind, .int .i64 e.a, .int .i64 e.to, .int .i64 e.els, .slice TA e.ta.length tc, .slice EA e.ea.length ec, .int .i64 e.n, .int .i64 e.at_] 41)) ((W.alloc (.cells #[.int .i64 e.kind, .int .i64 e.a, .int .i64 e.to, .int .i64 e.els, .slice TA e.ta.length tc, .slice EA e.ea.length ec, .int .i64 e.n, .int .i64 e.at_] 41)).alloc (.cells #[.int .i64 e.to, .slice TA e.ta.length tc] 100)) := (Below.refl _ _).alloc (Nat.le_refl _) _
    have bB := bA.trans (bC.mono bA.size)
    refine ⟨some ⟨(W.alloc (.cells #[.int .i64 e.kind, .int .i64 e.a, .int .i64 e.to, .int .i64 e.els, .slice TA e.ta.length tc, .slice EA e.ea.length ec, .int .i64 e.n, .int .i64 e.at_] 41)).heap.size, 0, none⟩, 1, by rw [hE.out]; simp, by rw [hE.out]; exact Nat.le_refl _, by unfold maxLen; omega, (fun _ => ⟨_, _, rfl, by simp, N2, ?_⟩), bB⟩
    rw [hE.out]
    intro i hi
    match i, hi with
    | 0, _ => exact ⟨TA, tc, by simp, by simp, l1, l2'.out, z1'.out, hr1.out⟩
    | k + 1, h => simp at h
  have b1 : (e.kind == 1) = false := by simpa using k1
  by_cases k2 : e.kind = 2
  · have b : (e.kind == 2) = true := by simpa using k2
    have hE : Hid (edges e = [⟨e.to, e.ta⟩, ⟨e.els, e.ea⟩]) := Lib.hid (by unfold edges; rw [if_neg k1, if_pos k2])
    clear k1 k2
    go_enter Tryz.func94, Tryz.ntmps94
    go_wp2
    go_ret
    have N2 := Box.new (W.alloc (.cells #[.int .i64 e.kind, .int .i64 e.a, .int .i64 e.to, .int .i64 e.els, .slice TA e.ta.length tc, .slice EA e.ea.length ec, .int .i64 e.n, .int .i64 e.at_] 41)) 100 #[.int .i64 e.to, .slice TA e.ta.length tc, .int .i64 e.els, .slice EA e.ea.length ec]
    have bC : Below (W.alloc (.cells #[.int .i64 e.kind, .int .i64 e.a, .int .i64 e.to, .int .i64 e.els, .slice TA e.ta.length tc, .slice EA e.ea.length ec, .int .i64 e.n, .int .i64 e.at_] 41)).heap.size (W.alloc (.cells #[.int .i64 e.kind, .int .i64 e.a, .int .i64 e.to, .int .i64 e.els, .slice TA e.ta.length tc, .slice EA e.ea.length ec, .int .i64 e.n, .int .i64 e.at_] 41)) ((W.alloc (.cells #[.int .i64 e.kind, .int .i64 e.a, .int .i64 e.to, .int .i64 e.els, .slice TA e.ta.length tc, .slice EA e.ea.length ec, .int .i64 e.n, .int .i64 e.at_] 41)).alloc (.cells #[.int .i64 e.to, .slice TA e.ta.length tc, .int .i64 e.els, .slice EA e.ea.length ec] 100)) := (Below.refl _ _).alloc (Nat.le_refl _) _
    have bB := bA.trans (bC.mono bA.size)
    refine ⟨some ⟨(W.alloc (.cells #[.int .i64 e.kind, .int .i64 e.a, .int .i64 e.to, .int .i64 e.els, .slice TA e.ta.length tc, .slice EA e.ea.length ec, .int .i64 e.n, .int .i64 e.at_] 41)).heap.size, 0, none⟩, 2, by rw [hE.out]; simp, by rw [hE.out]; exact Nat.le_refl _, by unfold maxLen; omega, (fun _ => ⟨_, _, rfl, by simp, N2, ?_⟩), bB⟩
    rw [hE.out]
    intro i hi
    match i, hi with
    | 0, _ => exact ⟨TA, tc, by simp, by simp, l1, l2'.out, z1'.out, hr1.out⟩
    | 1, _ => exact ⟨EA, ec, by simp, by simp, l3, l4'.out, z2'.out, hr2.out⟩
    | k + 2, h => simp at h; omega
  have b2 : (e.kind == 2) = false := by simpa using k2
  have hE : Hid (edges e = []) := Lib.hid (by unfold edges; rw [if_neg k1, if_neg k2])
  clear k1 k2
  go_enter Tryz.func94, Tryz.ntmps94
  go_wp2
  go_ret
  exact ⟨none, 0, by rw [hE.out]; rfl, by rw [hE.out]; exact Nat.le_refl _, by unfold maxLen; omega, (fun h => by rw [hE.out] at h; simp at h), bA⟩
theorem only_below {a w : World} (h : Below a.heap.size a w) (row : Option Nat) : a.grownBy w row := ⟨h.os, h.tape, h.output, h.size, fun i hi _ => h.block i hi⟩
theorem Box.grown {w w' : World} {b : Nat} {T : TypeId} {cs : Array Value} {row : Option Nat} (h : Box w b T cs) (hg : w.grownBy w' row) (hne : some b ≠ row) : Box w' b T cs := (hg.block b h.lt hne).trans h
/-- A row of numbers that the call owns. -/
def IOwn (w : World) (B : Nat) (v : Value) (l : List Int) : Prop := w.ownsRow B 3 1 v l.length (l.map fun k => Value.int .i64 k)
section
variable {w w' : World} {B b : Nat} {v : Value} {l : List Int}
theorem IOwn.later (h : IOwn w B v l) (hb : Below w.heap.size w w') : IOwn w' B v l := by
  refine World.ownsRow.kept h (only_below hb none) ?_
  cases v.ownBlock with
  | none => exact Or.inl rfl
  | some k => exact Or.inr (by simp)
theorem IOwn.form (h : IOwn w B v l) : ∃ A c, v = .slice A l.length c := by
  rcases h.2 with ⟨rfl, h2⟩ | ⟨g, cap, cur, rfl, _⟩
  · exact ⟨none, 0, by rw [h2]⟩
  · exact ⟨_, _, rfl⟩
/-- A block of another type is not the row's. -/
theorem IOwn.ne {T : TypeId} {cs : Array Value} (h : IOwn w B v l) (hb : Box w b T cs) (hT : T ≠ 3) : some b ≠ v.ownBlock := by
  intro e
  rcases h.2 with ⟨rfl, _⟩ | ⟨g, cap, cur, rfl, _, hg, _⟩
  · simp [Value.ownBlock] at e
  · simp [Value.ownBlock] at e
    subst e
    unfold Box at hb
    rw [hb] at hg
    simp at hg
    exact hT hg.2
theorem IOwn.read (h : IOwn w B v l) : ∃ A c, v = .slice A l.length c ∧ l.length ≤ c ∧ c ≤ maxLen ∧ IRow w A l := by
  have hlen := h.1
  rcases h.2 with ⟨rfl, h2⟩ | ⟨g, cap, cur, rfl, _, hg, h1, h2, h3, h4⟩
  · exact ⟨none, 0, by rw [h2], by omega, by unfold maxLen; omega, fun i hi => by omega⟩
  · refine ⟨_, cap, rfl, h1, h2, fun i hi => ⟨g, 0, rfl, ?_⟩⟩
    rw [Nat.zero_add, cell_of_row w g i cur _ (0, 0) hg]
    have e : (cur.toList.take (l.length * 1))[i]? = (l.map fun k => Value.int .i64 k)[i]? := by rw [h4]
    rw [List.getElem?_take_of_lt (by omega)] at e
    rw [← Array.getElem?_toList, e]
    simp [hi]
end
/-- What an end uses, as a row of the call's own. -/
def UsedPost (W : World) (e : CEn) (r : Ending) (w' : World) : Prop := ∃ v, r = .returned v ∧ IOwn w' W.heap.size v (endArgs e) ∧ Below W.heap.size W w'
def Used (e : CEn) (i : Nat) (row : List Int) : Prop := row = (if e.kind = 2 then [e.a] else []) ++ (((edges e).take i).map (·.args)).flatten
theorem Used.next {e : CEn} {i : Nat} {row : List Int} (h : Used e i row) (hi : i < (edges e).length) : Used e (i + 1) (row ++ (edges e)[i].args) := by
  unfold Used at *
  rw [h, List.take_succ_eq_append_getElem hi, List.map_append, List.flatten_append, List.append_assoc]
  simp only [List.map_cons, List.map_nil, List.flatten_cons, List.flatten_nil, List.append_nil]
theorem Used.whole {e : CEn} {i : Nat} {row : List Int} (h : Used e i row) (hi : (edges e).length ≤ i) : row = endArgs e := by
  unfold Used at h
  rw [h, List.take_of_length_le hi]
  rfl
theorem Used.le {e : CEn} {i : Nat} {row : List Int} (h : Used e i row) : row.length ≤ (endArgs e).length := by
  unfold Used at h
  unfold endArgs
  rw [h, List.length_append, List.length_append]
  have : (((edges e).take i).map (·.args)).flatten.length ≤ ((edges e).map (·.args)).flatten.length := by
    rw [show ((edges e).map (·.args)).flatten = (((edges e).take i).map (·.args)).flatten ++ (((edges e).drop i).map (·.args)).flatten by rw [← List.flatten_append, ← List.map_append, List.take_append_drop], List.length_append]
    omega
  omega
set_option maxRecDepth 100000 in
set_option maxHeartbeats 1600000 in
theorem usedByEnd_any {W : World} (e : CEn) (TA EA : Option Addr) (tc ec : Nat) (hl : EndL W e TA EA tc ec) (hn : (endArgs e).length ≤ 1000000000) :
    Calls Tryz.prog 55 #[.agg #[.int .i64 e.kind, .int .i64 e.a, .int .i64 e.to, .int .i64 e.els, .slice TA e.ta.length tc, .slice EA e.ea.length ec, .int .i64 e.n, .int .i64 e.at_]] W (UsedPost W e) := by
  have N0 := Box.new W 41 #[.int .i64 e.kind, .int .i64 e.a, .int .i64 e.to, .int .i64 e.els, .slice TA e.ta.length tc, .slice EA e.ea.length ec, .int .i64 e.n, .int .i64 e.at_]
  have bA : Below W.heap.size W (W.alloc (.cells #[.int .i64 e.kind, .int .i64 e.a, .int .i64 e.to, .int .i64 e.els, .slice TA e.ta.length tc, .slice EA e.ea.length ec, .int .i64 e.n, .int .i64 e.at_] 41)) := (Below.refl _ _).alloc (Nat.le_refl _) _
  have n0 := N0.cell 0
  have n1 := N0.cell 1
  replace hn := Lib.hid hn
  replace hl := Lib.hid hl
  have hel : Hid ((edges e).length ≤ 2) := Lib.hid (by
    unfold edges
    by_cases q : e.kind = 1
    · rw [if_pos q]; simp
    · rw [if_neg q]
      by_cases r : e.kind = 2
      · rw [if_pos r]; simp
      · rw [if_neg r]; simp)
  go_enter Tryz.func55, Tryz.ntmps55
  by_cases k2 : e.kind = 2
  case' pos =>
    have b : (e.kind == 2) = true := by simpa using k2
    have hU : Hid (Used e 0 [e.a]) := Lib.hid (by unfold Used; rw [if_pos k2]; simp)
    clear k2
    go_wp2_with (at_builtin; refine wpList_append_own _ rfl (.tmp 9) (.tmp 12) _ rfl W.heap.size 3 Tryz.t3 (.int .i64 0) 1 8 Tryz.underlying30 (by kernel_rfl) (by kernel_rfl) rfl rfl rfl (by decide) _ 0 [] rfl (World.ownsRow_nil _ _ _ _) ⟨W.heap.size + 1, 0, none⟩ 1 1 [.int .i64 e.a] ?c0 rfl ?c1 ?c2 ?c3 ?c4 ?c5 ?_)
    case c0 => rfl
    case c1 =>
      intro j u hj
      match j, hj with
      | 0, hj => simp at hj; subst hj; simp [Addr.add, go_sem]
    case c2 => intro u hu; simp at hu; subst hu; rfl
    case c3 => unfold maxLen; omega
    case c4 => omega
    case c5 => simp; omega
    intro V X hO hg _
    have hN := (N0.alloc (.cells #[.int .i64 e.a] 3)).grown hg (by simp [Value.ownBlock])
    have hB : Below W.heap.size W X := (bA.alloc bA.size (.cells #[.int .i64 e.a] 3)).grown hg (by simp; omega) (by simp [Value.ownBlock])
    replace hO : IOwn X W.heap.size V [e.a] := hO
    obtain ⟨A0, q0, rfl⟩ := hO.form
    clear hg N0 bA n0 n1
    generalize [e.a] = pre at hO hU ⊢
  case' neg =>
    have b : (e.kind == 2) = false := by simpa using k2
    have hU : Hid (Used e 0 []) := Lib.hid (by unfold Used; rw [if_neg k2]; simp)
    clear k2 n1
    go_upto_region 4 with fail
    obtain ⟨X, hX⟩ : ∃ X, W.alloc (.cells #[.int .i64 e.kind, .int .i64 e.a, .int .i64 e.to, .int .i64 e.els, .slice TA e.ta.length tc, .slice EA e.ea.length ec, .int .i64 e.n, .int .i64 e.at_] 41) = X := ⟨_, rfl⟩
    have hO : IOwn X W.heap.size (.slice none 0 0) [] := World.ownsRow_nil _ _ _ _
    rw [hX] at N0 bA n0
    simp only [hX]
    clear hX n0
    have hN := N0
    have hB := bA
    clear N0 bA
    obtain ⟨A0, hA0⟩ : ∃ A0 : Option Addr, A0 = none := ⟨_, rfl⟩
  all_goals
    have n0 := hN.cell 0
    have n1 := hN.cell 1
    have n2 := hN.cell 2
    have n3 := hN.cell 3
    have n4 := hN.cell 4
    have n5 := hN.cell 5
    have n6 := hN.cell 6
    have n7 := hN.cell 7
    go_wp2_with fail
    refine (edgesOf_any2 e TA EA tc ec hl.out).mono ?_
    rintro r w3 ⟨A, c, rfl, l1, l2, hEd, B3⟩
    have hO3 := hO.later B3
    have hB3 : Below W.heap.size W w3 := hB.trans (B3.mono hB.size)
    have h2 := hel.out
    clear n0 n1 n2 n3 n4 n5 n6 n7 hN hO hB B3
    unfold maxLen at l2
    go_wp2_with fail
    go_loopw [3, 17] (fun v u wr => ∃ (i : Nat) (row : List Int) (A' : Option Addr) (c' : Nat), i ≤ (edges e).length ∧ v = .slice A' row.length c' ∧ u = .int .i64 i ∧ Hid (Used e i row) ∧ IOwn wr W.heap.size (.slice A' row.length c') row ∧ EdOk W X.heap.size wr A (edges e) ∧ Below W.heap.size W wr) (fun _ u _ => (edges e).length - iOf u)
    case atStart => exact ⟨0, _, _, _, Nat.zero_le _, rfl, rfl, hU, hO3, hEd, hB3⟩
    case round =>
      obtain ⟨i, row, A', c', hi, rfl, rfl, hI, hO, hE, hBw⟩ := hrel
      by_cases hlt : i < (edges e).length
      · obtain ⟨bE, cs, eA, hm, hX, hC⟩ := hE (by omega)
        obtain ⟨TB, tb, k0, k1, k2, k3, k4, k5⟩ := hC i hlt
        have hnx := hI.out.next hlt
        have hle : (row ++ (edges e)[i].args).length ≤ 1000000000 := Nat.le_trans hnx.le hn.out
        rw [List.length_append] at hle
        replace hnx := Lib.hid hnx
        obtain ⟨y, hy⟩ : ∃ y, Hid ((edges e)[i] = y) := ⟨_, Lib.hid rfl⟩
        rw [hy.out] at k0 k1 k2 k5 hle hnx
        have d0 : wr.cell? ⟨bE, i * 2, none⟩ = some (.int .i64 y.to) := by rw [hX.cell]; exact k0
        have d1 : wr.cell? ⟨bE, i * 2 + 1, none⟩ = some (.slice TB y.args.length tb) := by rw [hX.cell]; exact k1
        have hr5 := Lib.hid (k5.later hBw)
        have k4' := Lib.hid k4
        have hltc : (i : Int) < (edges e).length := by omega
        have hwi : IntKind.i64.wrap ((i : Int) + 1) = ((i + 1 : Nat) : Int) := by rw [IntWalk.i64_in _ (by omega)]; omega
        have hC2 := Lib.hid hC
        have eA2 := Lib.hid eA
        clear k0 k1 k5 k4 hC hI hy hE
        go_upto_region 7 with fail
        try simp only [← eA]
        clear eA d0 d1
        have N5 := Box.new wr 100 #[.int .i64 y.to, .slice TB y.args.length tb]
        have bN : Below wr.heap.size wr (wr.alloc (.cells #[.int .i64 y.to, .slice TB y.args.length tb] 100)) := (Below.refl _ _).alloc (Nat.le_refl _) _
        have hO' := hO.later bN
        have hX' := hX.below bN
        have hr' := Lib.hid (hr5.out.later bN)
        have hB' := hBw.trans (bN.mono hBw.size)
        have hmb := hX.lt
        obtain ⟨bn, hbn⟩ : ∃ b, wr.heap.size = b := ⟨_, rfl⟩
        obtain ⟨Y, hY⟩ : ∃ Y, wr.alloc (.cells #[.int .i64 y.to, .slice TB y.args.length tb] 100) = Y := ⟨_, rfl⟩
        rw [hY] at N5 hO' hX' hr' hB'
        rw [hbn] at N5
        simp only [hY, hbn]
        clear hY hbn bN hO hX hBw hr5 hmb
        have n5 := N5.cell 1
        clear N5
        by_cases hT : TB = none
        · subst hT
          have hz : tb = 0 := k4'.out rfl
          subst hz
          have ha : y.args = [] := List.eq_nil_of_length_eq_zero (by omega)
          rw [ha] at n5 hnx
          clear k4' hr' ha
          go_wp2_with (at_builtin; refine wpList_append_own_none rfl (.tmp 21) (.tmp 23) _ rfl W.heap.size 3 Tryz.t3 1 Tryz.underlying30 (by kernel_rfl) _ row.length _ rfl hO' rfl ?_)
          go_wp2
          go_roundw
          case rel => exact ⟨i + 1, row, A', c', by omega, rfl, rfl, Lib.hid (by have := hnx.out; rw [List.append_nil] at this; exact this), hO', (fun _ => ⟨bE, cs, eA2.out, hm, hX', hC2.out⟩), hB'⟩
          case measure => simp [iOf]; omega
        · obtain ⟨ad, rfl⟩ : ∃ ad, TB = some ad := Option.ne_none_iff_exists'.1 hT
          clear hT k4'
          go_wp2_with (at_builtin; refine wpList_append_own _ rfl (.tmp 21) (.tmp 23) _ rfl W.heap.size 3 Tryz.t3 (.int .i64 0) 1 8 Tryz.underlying30 (by kernel_rfl) (by kernel_rfl) rfl rfl rfl (by decide) _ row.length _ rfl hO' ad y.args.length tb (y.args.map fun k => Value.int .i64 k) ?c0 (by simp) ?c1 ?c2 ?c3 ?c4 ?c5 ?_)
          case c0 => rfl
          case c1 =>
            intro j u hj
            have hjl : j < y.args.length := by
              have := (List.getElem?_eq_some_iff.1 hj).1
              simpa using this
            obtain ⟨g, o, e1, e2⟩ := hr'.out j hjl
            simp at e1
            subst e1
            simp [hjl] at hj
            subst hj
            by_cases j0 : j = 0
            · subst j0; simpa [Addr.add] using e2
            · simpa [Addr.add, j0] using e2
          case c2 =>
            intro u hu
            obtain ⟨k, _, rfl⟩ := List.mem_map.1 hu
            rfl
          case c3 => unfold maxLen; omega
          case c4 => omega
          case c5 => exact hB'.size
          intro V2 Z hown hg _
          have hO2 : IOwn Z W.heap.size V2 (row ++ y.args) := by
            unfold IOwn
            rw [List.length_append, List.map_append]
            exact hown
          have hX2 := hX'.grown hg (hO'.ne hX' (by decide))
          have hB2 := hB'.grown hg hB'.size (fun g hg => (World.ownsRow.lt hO' g hg).1)
          clear hown hg hr' n5 hX' hB' hO'
          obtain ⟨A2, c2, rfl⟩ := hO2.form
          go_wp2
          go_roundw
          case rel => exact ⟨i + 1, row ++ y.args, A2, c2, by omega, rfl, rfl, hnx, hO2, (fun _ => ⟨bE, cs, eA2.out, hm, hX2, hC2.out⟩), hB2⟩
          case measure => simp [iOf]; omega
      · have hw := Lib.hid (hI.out.whole (by omega))
        have hc : ¬ ((i : Int) < (edges e).length) := by omega
        go_wp2
        go_ret
        exact ⟨_, rfl, by rw [← hw.out]; exact hO, hBw⟩
end Go.Proofs.YtnbgadndkepomaaGreatDoor
