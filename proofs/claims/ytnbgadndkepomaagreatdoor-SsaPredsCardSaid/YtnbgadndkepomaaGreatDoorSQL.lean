/- Joined texts: SaLw1, SaLw2, SaLw3. -/
import Derived.Test.YtnbgadndkepomaaGreatDoorSaUsP

/- The reference's small functions that the laws of layer 6 call. -/
namespace Go.Proofs.YtnbgadndkepomaaGreatDoor
open Go.RowKit

theorem argsOf_two {i : CIn} (h : (2 ≤ i.op ∧ i.op ≤ 14) ∨ i.op = 19 ∨ i.op = 33) : argsOf i = [i.a, i.b] := by
  unfold argsOf valsOf valN
  rw [if_neg (by omega), if_pos h]
  rfl
theorem argsOf_three {i : CIn} (h : i.op = 34) : argsOf i = [i.a, i.b, i.c] := by
  unfold argsOf valsOf valN
  rw [if_pos h]
  rfl
theorem argsOf_none {i : CIn} (h : i.op = 1 ∨ i.op = 22 ∨ i.op = 30 ∨ i.op = 32) : argsOf i = [] := by
  unfold argsOf valsOf valN
  rw [if_neg (by omega), if_neg (by omega), if_pos h]
  rfl
theorem argsOf_one {i : CIn} (h1 : ¬ ((2 ≤ i.op ∧ i.op ≤ 14) ∨ i.op = 19 ∨ i.op = 33)) (h2 : i.op ≠ 34) (h3 : ¬ (i.op = 1 ∨ i.op = 22 ∨ i.op = 30 ∨ i.op = 32)) : argsOf i = [i.a] := by
  unfold argsOf valsOf valN
  rw [if_neg h2, if_neg h1, if_neg h3]
  rfl
/-- A list of numbers that the call made. -/
def ListP (W : World) (l : List Int) (e : Ending) (w' : World) : Prop :=
  ∃ A q, e = .returned (.slice A l.length q) ∧ l.length ≤ q ∧ q ≤ maxLen ∧ IRow w' A l ∧ Below W.heap.size W w'
theorem Box.irow {w : World} {b : Nat} {l : List Int} (h : Box w b 3 (ints l)) : IRow w (some ⟨b, 0, none⟩) l := fun i hi => ⟨b, 0, rfl, by rw [Nat.zero_add, h.cell, ints_get _ _ hi]⟩
set_option maxRecDepth 100000 in
set_option maxHeartbeats 1600000 in
theorem Args_any {W : World} (i : CIn) :
    Calls Tryz.prog 24 #[.agg #[.int .i64 i.op, .int .i64 i.w, .int .i64 i.p, .int .i64 i.a, .int .i64 i.b, .int .i64 i.c, .int .u64 i.n, .int .i64 i.at_]] W (ListP W (argsOf i)) := by
  obtain ⟨L, hL⟩ : ∃ L, Hid (argsOf i = L) := ⟨_, Lib.hid rfl⟩
  rw [hL.out]
  have N := Box.new W 47 #[.int .i64 i.op, .int .i64 i.w, .int .i64 i.p, .int .i64 i.a, .int .i64 i.b, .int .i64 i.c, .int .u64 i.n, .int .i64 i.at_]
  have bA : Below W.heap.size W (W.alloc (.cells #[.int .i64 i.op, .int .i64 i.w, .int .i64 i.p, .int .i64 i.a, .int .i64 i.b, .int .i64 i.c, .int .u64 i.n, .int .i64 i.at_] 47)) := (Below.refl _ _).alloc (Nat.le_refl _) _
  go_enter Tryz.func24, Tryz.ntmps24
  go_upto_region 2 with fail
  obtain ⟨bu, hbu⟩ : ∃ b, Hid (W.heap.size = b) := ⟨_, Lib.hid rfl⟩
  obtain ⟨w1, hw1⟩ : ∃ Y, W.alloc (.cells #[.int .i64 i.op, .int .i64 i.w, .int .i64 i.p, .int .i64 i.a, .int .i64 i.b, .int .i64 i.c, .int .u64 i.n, .int .i64 i.at_] 47) = Y := ⟨_, rfl⟩
  rw [hw1] at N bA
  rw [hbu.out] at N
  simp only [hw1, hbu.out]
  clear hw1
  have n3 := N.cell 3
  have n4 := N.cell 4
  have n5 := N.cell 5
  have b2 : ∀ l : List Int, Below W.heap.size W (w1.alloc (.cells (ints l) 3)) := fun l => bA.alloc bA.size _
  by_cases k1 : (2 ≤ i.op ∧ i.op ≤ 14) ∨ i.op = 19 ∨ i.op = 33
  · obtain rfl : L = [i.a, i.b] := by rw [← hL.out, argsOf_two k1]
    have hR := (Box.new w1 3 (ints [i.a, i.b])).irow
    have hfin : ListP W [i.a, i.b] (.returned (.slice (some ⟨w1.heap.size, 0, none⟩) 2 2)) (w1.alloc (.cells (ints [i.a, i.b]) 3)) := ⟨_, 2, rfl, by simp, by unfold maxLen; omega, hR, b2 _⟩
    rcases k1 with ⟨k1, k2⟩ | k1 | k1
    · have e1 : decide (2 ≤ i.op) = true := decide_eq_true k1
      have e2 : decide (i.op ≤ 14) = true := decide_eq_true k2
      clear k1 k2 hL hR
      go_wp2
      go_ret
      exact hfin
    · have e0 : (i.op == 19) = true := by simpa using k1
      have e1 : decide (2 ≤ i.op) = true := decide_eq_true (by omega)
      have e2 : decide (i.op ≤ 14) = false := decide_eq_false (by omega)
      clear k1 hL hR
      go_wp2
      go_ret
      exact hfin
    · have e0 : (i.op == 19) = false := by
        have : i.op ≠ 19 := by omega
        simpa using this
      have e3 : (i.op == 33) = true := by simpa using k1
      have e1 : decide (2 ≤ i.op) = true := decide_eq_true (by omega)
      have e2 : decide (i.op ≤ 14) = false := decide_eq_false (by omega)
      clear k1 hL hR
      go_wp2
      go_ret
      exact hfin
  · have ne : ∀ k : Int, i.op ≠ k → (i.op == k) = false := fun k h => by simpa using h
    have k19 := ne 19 (by omega)
    have k33 := ne 33 (by omega)
    by_cases h2 : 2 ≤ i.op
    case' pos =>
      have e1 : decide (2 ≤ i.op) = true := decide_eq_true h2
      have e2 : decide (i.op ≤ 14) = false := decide_eq_false (by omega)
    case' neg =>
      have e1 : decide (2 ≤ i.op) = false := decide_eq_false h2
    all_goals
      by_cases k34 : i.op = 34
      · obtain rfl : L = [i.a, i.b, i.c] := by rw [← hL.out, argsOf_three k34]
        have hR := (Box.new w1 3 (ints [i.a, i.b, i.c])).irow
        have hfin : ListP W [i.a, i.b, i.c] (.returned (.slice (some ⟨w1.heap.size, 0, none⟩) 3 3)) (w1.alloc (.cells (ints [i.a, i.b, i.c]) 3)) := ⟨_, 3, rfl, by simp, by unfold maxLen; omega, hR, b2 _⟩
        have e34 : (i.op == 34) = true := by simpa using k34
        clear hL hR k1 h2 ne k34
        go_wp2
        go_ret
        exact hfin
      have e34 := ne 34 k34
      by_cases k4 : i.op = 1 ∨ i.op = 22 ∨ i.op = 30 ∨ i.op = 32
      · obtain rfl : L = [] := by rw [← hL.out, argsOf_none k4]
        have hfin : ListP W [] (.returned (.slice none 0 0)) w1 := ⟨none, 0, rfl, Nat.le_refl _, by unfold maxLen; omega, (fun j hj => by simp at hj), bA⟩
        rcases k4 with k4 | k4 | k4 | k4
        · have f1 : (i.op == 1) = true := by simpa using k4
          clear hL k1 h2 ne k34 k4
          go_wp2
          go_ret
          exact hfin
        · have f1 := ne 1 (by omega)
          have f2 : (i.op == 22) = true := by simpa using k4
          clear hL k1 h2 ne k34 k4
          go_wp2
          go_ret
          exact hfin
        · have f1 := ne 1 (by omega)
          have f2 := ne 22 (by omega)
          have f3 : (i.op == 30) = true := by simpa using k4
          clear hL k1 h2 ne k34 k4
          go_wp2
          go_ret
          exact hfin
        · have f1 := ne 1 (by omega)
          have f2 := ne 22 (by omega)
          have f3 := ne 30 (by omega)
          have f4 : (i.op == 32) = true := by simpa using k4
          clear hL k1 h2 ne k34 k4
          go_wp2
          go_ret
          exact hfin
      · obtain rfl : L = [i.a] := by rw [← hL.out, argsOf_one k1 k34 k4]
        have hR := (Box.new w1 3 (ints [i.a])).irow
        have hfin : ListP W [i.a] (.returned (.slice (some ⟨w1.heap.size, 0, none⟩) 1 1)) (w1.alloc (.cells (ints [i.a]) 3)) := ⟨_, 1, rfl, by simp, by unfold maxLen; omega, hR, b2 _⟩
        have f1 := ne 1 (by omega)
        have f2 := ne 22 (by omega)
        have f3 := ne 30 (by omega)
        have f4 := ne 32 (by omega)
        clear hL hR k1 h2 ne k34 k4
        go_wp2
        go_ret
        exact hfin
theorem succs_list (e : CEn) : (edges e).map (·.to) = if e.kind = 1 then [e.to] else if e.kind = 2 then [e.to, e.els] else [] := by
  unfold edges
  split
  · rfl
  · split <;> rfl
set_option maxRecDepth 100000 in
set_option maxHeartbeats 1600000 in
theorem Succs_any {W : World} {c : Cd} {x : Sl} (hx : CdAt W c x) (b : Nat) (hb : b < c.bk.length) :
    Calls Tryz.prog 26 #[.agg #[.slice x.S c.st.length x.sc, .slice x.N c.nm.length x.nc, .slice x.I c.ins.length x.ic, .slice x.K c.bk.length x.kc], .int .i64 b] W (ListP W ((edges c.bk[b].en).map (·.to))) := by
  obtain ⟨L, hL⟩ : ∃ L, Hid ((edges c.bk[b].en).map (·.to) = L) := ⟨_, Lib.hid rfl⟩
  rw [hL.out]
  have N := Box.new W 27 #[.slice x.S c.st.length x.sc, .slice x.N c.nm.length x.nc, .slice x.I c.ins.length x.ic, .slice x.K c.bk.length x.kc]
  have bA : Below W.heap.size W (W.alloc (.cells #[.slice x.S c.st.length x.sc, .slice x.N c.nm.length x.nc, .slice x.I c.ins.length x.ic, .slice x.K c.bk.length x.kc] 27)) := (Below.refl _ _).alloc (Nat.le_refl _) _
  have hx1 := hx.later bA
  go_enter Tryz.func26, Tryz.ntmps26
  go_upto_region 1 with fail
  obtain ⟨bu, hbu⟩ : ∃ b, Hid (W.heap.size = b) := ⟨_, Lib.hid rfl⟩
  obtain ⟨w1, hw1⟩ : ∃ Y, W.alloc (.cells #[.slice x.S c.st.length x.sc, .slice x.N c.nm.length x.nc, .slice x.I c.ins.length x.ic, .slice x.K c.bk.length x.kc] 27) = Y := ⟨_, rfl⟩
  rw [hw1] at N bA hx1
  rw [hbu.out] at N
  simp only [hw1, hbu.out]
  clear hw1
  have n3 := N.cell 3
  obtain ⟨g, o, TA, EA, tc, ec, eK, ⟨c0, c1, c2, c3, c4, c5, c6, c7, c8, c9⟩, hle⟩ := hx1.k b hb
  obtain ⟨y, hy⟩ : ∃ t, Hid (c.bk[b] = t) := ⟨_, Lib.hid rfl⟩
  simp only [hy.out] at c0 c1 c2 c3 c4 c5 c6 c7 c8 c9 hL
  rw [succs_list] at hL
  have d3 : w1.cell? ⟨g, o + b * 10 + 3, none⟩ = some (.int .i64 y.en.a) := c3
  have d4 : w1.cell? ⟨g, o + b * 10 + 4, none⟩ = some (.int .i64 y.en.to) := c4
  have d5 : w1.cell? ⟨g, o + b * 10 + 5, none⟩ = some (.int .i64 y.en.els) := c5
  have d6 : w1.cell? ⟨g, o + b * 10 + 6, none⟩ = some (.slice TA y.en.ta.length tc) := c6
  have d7 : w1.cell? ⟨g, o + b * 10 + 7, none⟩ = some (.slice EA y.en.ea.length ec) := c7
  have d8 : w1.cell? ⟨g, o + b * 10 + 8, none⟩ = some (.int .i64 y.en.n) := c8
  have d9 : w1.cell? ⟨g, o + b * 10 + 9, none⟩ = some (.int .i64 y.en.at_) := c9
  have hbc : (b : Int) < c.bk.length := by omega
  have N2 := Box.new w1 41 #[.int .i64 y.en.kind, .int .i64 y.en.a, .int .i64 y.en.to, .int .i64 y.en.els, .slice TA y.en.ta.length tc, .slice EA y.en.ea.length ec, .int .i64 y.en.n, .int .i64 y.en.at_]
  have b3 := bA.alloc bA.size (.cells #[.int .i64 y.en.kind, .int .i64 y.en.a, .int .i64 y.en.to, .int .i64 y.en.els, .slice TA y.en.ta.length tc, .slice EA y.en.ea.length ec, .int .i64 y.en.n, .int .i64 y.en.at_] 41)
  clear hle hx1
  go_upto_region 2 with fail
  clear eK c0 c1 c2 c3 c4 c5 c6 c7 c8 c9 d3 d4 d5 d6 d7 d8 d9
  obtain ⟨bn, hbn⟩ : ∃ b, Hid (w1.heap.size = b) := ⟨_, Lib.hid rfl⟩
  obtain ⟨w2, hw2⟩ : ∃ Y, w1.alloc (.cells #[.int .i64 y.en.kind, .int .i64 y.en.a, .int .i64 y.en.to, .int .i64 y.en.els, .slice TA y.en.ta.length tc, .slice EA y.en.ea.length ec, .int .i64 y.en.n, .int .i64 y.en.at_] 41) = Y := ⟨_, rfl⟩
  rw [hw2] at N2 b3
  rw [hbn.out] at N2
  simp only [hw2, hbn.out]
  clear hw2
  have m0 := N2.cell 0
  have m2 := N2.cell 2
  have m3 := N2.cell 3
  have b4 : ∀ l : List Int, Below W.heap.size W (w2.alloc (.cells (ints l) 3)) := fun l => b3.alloc b3.size _
  by_cases k1 : y.en.kind = 1
  · have e1 : (y.en.kind == 1) = true := by simpa using k1
    obtain rfl : L = [y.en.to] := by rw [← hL.out, if_pos k1]
    have hR := (Box.new w2 3 (ints [y.en.to])).irow
    have hfin : ListP W [y.en.to] (.returned (.slice (some ⟨w2.heap.size, 0, none⟩) 1 1)) (w2.alloc (.cells (ints [y.en.to]) 3)) := ⟨_, 1, rfl, by simp, by unfold maxLen; omega, hR, b4 _⟩
    clear k1 hR hL
    go_wp2
    go_ret
    exact hfin
  have e1 : (y.en.kind == 1) = false := by simpa using k1
  rw [if_neg k1] at hL
  by_cases k2 : y.en.kind = 2
  · have e2 : (y.en.kind == 2) = true := by simpa using k2
    obtain rfl : L = [y.en.to, y.en.els] := by rw [← hL.out, if_pos k2]
    have hR := (Box.new w2 3 (ints [y.en.to, y.en.els])).irow
    have hfin : ListP W [y.en.to, y.en.els] (.returned (.slice (some ⟨w2.heap.size, 0, none⟩) 2 2)) (w2.alloc (.cells (ints [y.en.to, y.en.els]) 3)) := ⟨_, 2, rfl, by simp, by unfold maxLen; omega, hR, b4 _⟩
    clear k1 k2 hR hL
    go_wp2
    go_ret
    exact hfin
  have e2 : (y.en.kind == 2) = false := by simpa using k2
  obtain rfl : L = [] := by rw [← hL.out, if_neg k2]
  clear k1 k2 hL
  go_wp2
  go_ret
  exact ⟨none, 0, rfl, Nat.le_refl _, by unfold maxLen; omega, (fun j hj => by simp at hj), b3⟩
end Go.Proofs.YtnbgadndkepomaaGreatDoor

/- The reference's values of an end. -/
namespace Go.Proofs.YtnbgadndkepomaaGreatDoor
open Go.RowKit

/-- What the reference says that an end uses. -/
def endsR (e : CEn) : List Int := (if e.kind = 2 then [e.a] else []) ++ e.ta ++ e.ea
theorem endsR_is {e : CEn} (h : EndP e) : endsR e = endArgs e := by
  unfold endsR endArgs edges
  rcases h with ⟨h1, _, _, h2, _⟩ | ⟨h1, _⟩ | ⟨h1, ⟨_, _, _, h2, h3⟩, _⟩ | ⟨h1, ⟨_, _, _, h2, h3⟩, _⟩
  · rw [if_neg (by omega), if_pos h1, List.eq_nil_of_length_eq_zero h2]
    simp
  · rw [if_pos h1, if_neg (by omega), if_pos h1]
    simp
  · rw [if_neg (by omega), if_neg (by omega), if_neg (by omega), List.eq_nil_of_length_eq_zero h2, List.eq_nil_of_length_eq_zero h3]
    rfl
  · rw [if_neg (by omega), if_neg (by omega), if_neg (by omega), List.eq_nil_of_length_eq_zero h2, List.eq_nil_of_length_eq_zero h3]
    rfl
def EndsPost (W : World) (e : CEn) (r : Ending) (w' : World) : Prop := ∃ v, r = .returned v ∧ IOwn w' W.heap.size v (endsR e) ∧ Below W.heap.size W w'
set_option maxRecDepth 100000 in
set_option maxHeartbeats 1600000 in
theorem Ends_any {W : World} (e : CEn) (TA EA : Option Addr) (tc ec : Nat) (hl : EndL W e TA EA tc ec) (hn : e.ta.length + e.ea.length ≤ 1000000000) :
    Calls Tryz.prog 25 #[.agg #[.int .i64 e.kind, .int .i64 e.a, .int .i64 e.to, .int .i64 e.els, .slice TA e.ta.length tc, .slice EA e.ea.length ec, .int .i64 e.n, .int .i64 e.at_]] W (EndsPost W e) := by
  have N0 := Box.new W 41 #[.int .i64 e.kind, .int .i64 e.a, .int .i64 e.to, .int .i64 e.els, .slice TA e.ta.length tc, .slice EA e.ea.length ec, .int .i64 e.n, .int .i64 e.at_]
  have bA : Below W.heap.size W (W.alloc (.cells #[.int .i64 e.kind, .int .i64 e.a, .int .i64 e.to, .int .i64 e.els, .slice TA e.ta.length tc, .slice EA e.ea.length ec, .int .i64 e.n, .int .i64 e.at_] 41)) := (Below.refl _ _).alloc (Nat.le_refl _) _
  obtain ⟨r1, r2, ⟨l1, l2⟩, ⟨l3, l4⟩, z1, z2⟩ := hl
  replace l2 := Lib.hid l2
  replace l4 := Lib.hid l4
  replace z1 := Lib.hid z1
  replace z2 := Lib.hid z2
  replace r1 := Lib.hid r1
  replace r2 := Lib.hid r2
  obtain ⟨tl, htl⟩ : ∃ q, Hid (e.ta = q) := ⟨_, Lib.hid rfl⟩
  obtain ⟨el, hel⟩ : ∃ q, Hid (e.ea = q) := ⟨_, Lib.hid rfl⟩
  have hfin : Hid (endsR e = (if e.kind = 2 then [e.a] else []) ++ tl ++ el) := Lib.hid (by unfold endsR; rw [htl.out, hel.out])
  simp only [htl.out, hel.out] at N0 bA hn l1 l3 r1 r2 ⊢
  go_enter Tryz.func25, Tryz.ntmps25
  go_upto_region 2 with fail
  obtain ⟨X0, hX⟩ : ∃ X, W.alloc (.cells #[.int .i64 e.kind, .int .i64 e.a, .int .i64 e.to, .int .i64 e.els, .slice TA tl.length tc, .slice EA el.length ec, .int .i64 e.n, .int .i64 e.at_] 41) = X := ⟨_, rfl⟩
  obtain ⟨bu, hbu⟩ : ∃ b, Hid (W.heap.size = b) := ⟨_, Lib.hid rfl⟩
  rw [hX] at N0 bA
  rw [hbu.out] at N0
  simp only [hX]
  simp only [hbu.out]
  clear hX
  have n0 := N0.cell 0
  have n1 := N0.cell 1
  by_cases k2 : e.kind = 2
  · have b : (e.kind == 2) = true := by simpa using k2
    rw [if_pos k2] at hfin
    clear k2
    have hO0 : IOwn (X0.alloc (.cells (ints [e.a]) 3)) bu (.slice none 0 0) [] := World.ownsRow_nil _ _ _ _
    have bX : Below X0.heap.size X0 (X0.alloc (.cells (ints [e.a]) 3)) := (Below.refl _ _).alloc (Nat.le_refl _) _
    have N1 := N0.below bX
    have hsz := bA.size
    go_upto_region 4 with (at_builtin; refine wpList_append_own _ rfl (.tmp 7) (.tmp 10) _ rfl bu 3 Tryz.t3 (.int .i64 0) 1 8 Tryz.underlying30 (by kernel_rfl) (by kernel_rfl) rfl rfl rfl (by decide) _ 0 [] rfl hO0 ⟨X0.heap.size, 0, none⟩ 1 1 [.int .i64 e.a] ?c0 rfl ?c1 ?c2 ?c3 ?c4 ?c5 ?_)
    case c0 => rfl
    case c1 =>
      intro j u hj
      match j, hj with
      | 0, hj => simp at hj; subst hj; simp [Addr.add, go_sem]
    case c2 => intro u hu; simp at hu; subst hu; rfl
    case c3 => unfold maxLen; omega
    case c4 => omega
    case c5 => have := hbu.out; simp; omega
    intro V X hO hg _
    have hN := N1.grown hg (by simp [Value.ownBlock])
    have hB : Below W.heap.size W X := (bA.trans (bX.mono bA.size)).grown hg (Nat.le_trans bA.size bX.size) (by simp [Value.ownBlock])
    replace hO : IOwn X bu V [e.a] := hO
    obtain ⟨A9, q9, hV9⟩ := hO.form
    subst hV9
    clear hg N0 N1 bA bX n0 n1 hO0
    have m0 := hN.cell 4
    have mm := hN.cell 5
    by_cases hT0 : TA = none
    · subst hT0
      obtain rfl : tc = 0 := z1.out rfl
      obtain rfl : tl = [] := List.eq_nil_of_length_eq_zero (by omega)
      have hq0 : IOwn X bu (.slice A9 [e.a].length q9) ([e.a] ++ []) := by rw [List.append_nil]; exact hO
      go_upto_region 5 with (at_builtin; refine wpList_append_own_none rfl (.tmp 12) (.tmp 14) _ rfl bu 3 Tryz.t3 1 Tryz.underlying30 (by kernel_rfl) _ [e.a].length _ rfl hO rfl ?_)
      have m1 := hN.cell 5
      by_cases hT1 : EA = none
      · subst hT1
        obtain rfl : ec = 0 := z2.out rfl
        obtain rfl : el = [] := List.eq_nil_of_length_eq_zero (by omega)
        have hq1 : IOwn X bu (.slice A9 [e.a].length q9) (([e.a] ++ []) ++ []) := by rw [List.append_nil]; exact hq0
        go_wp2_with (at_builtin; refine wpList_append_own_none rfl (.tmp 16) (.tmp 18) _ rfl bu 3 Tryz.t3 1 Tryz.underlying30 (by kernel_rfl) _ [e.a].length _ rfl hq0 rfl ?_)
        go_wp2
        go_ret
        exact ⟨_, rfl, by rw [hbu.out, hfin.out]; exact hq1, hB⟩
      · obtain ⟨ad1, rfl⟩ : ∃ ad, EA = some ad := Option.ne_none_iff_exists'.1 hT1
        clear hT1
        have hrr := r2.out.later hB
        go_wp2_with (at_builtin; refine wpList_append_own _ rfl (.tmp 16) (.tmp 18) _ rfl bu 3 Tryz.t3 (.int .i64 0) 1 8 Tryz.underlying30 (by kernel_rfl) (by kernel_rfl) rfl rfl rfl (by decide) _ [e.a].length _ rfl hq0 ad1 el.length ec (el.map fun k => Value.int .i64 k) rfl (by simp) ?c1 ?c2 ?c3 ?c4 ?c5 ?_)
        case c1 =>
          intro j u hj
          have hjl : j < el.length := by
            have := (List.getElem?_eq_some_iff.1 hj).1
            simpa using this
          obtain ⟨g, o, e1, e2⟩ := hrr j hjl
          simp at e1
          subst e1
          simp [hjl] at hj
          subst hj
          by_cases j0 : j = 0
          · subst j0; simpa [Addr.add] using e2
          · simpa [Addr.add, j0] using e2
        case c2 =>
          intro u hu
          first | (obtain ⟨k, _, rfl⟩ := List.mem_map.1 hu; rfl) | rfl
        case c3 => unfold maxLen; first | omega | (simp; omega)
        case c4 => first | omega | (simp; omega)
        case c5 => rw [← hbu.out]; exact hB.size
        intro V1 X3 hown hg _
        have hO3 : IOwn X3 bu V1 (([e.a] ++ []) ++ el) := by
          unfold IOwn
          rw [List.length_append, List.map_append]
          first | exact hown | simpa using hown
        have hN3 := hN.grown hg (hq0.ne hN (by decide))
        have hB3 : Below W.heap.size W X3 := hB.grown hg hB.size (fun g hg => by rw [hbu.out]; exact (World.ownsRow.lt hq0 g hg).1)
        obtain ⟨A1, q1, hV1⟩ := hO3.form
        subst hV1
        clear hown hg hrr m1
        go_wp2
        go_ret
        exact ⟨_, rfl, by rw [hbu.out, hfin.out]; exact hO3, hB3⟩
    · obtain ⟨ad0, rfl⟩ : ∃ ad, TA = some ad := Option.ne_none_iff_exists'.1 hT0
      clear hT0
      have hrr := r1.out.later hB
      go_upto_region 5 with (at_builtin; refine wpList_append_own _ rfl (.tmp 12) (.tmp 14) _ rfl bu 3 Tryz.t3 (.int .i64 0) 1 8 Tryz.underlying30 (by kernel_rfl) (by kernel_rfl) rfl rfl rfl (by decide) _ [e.a].length _ rfl hO ad0 tl.length tc (tl.map fun k => Value.int .i64 k) rfl (by simp) ?c1 ?c2 ?c3 ?c4 ?c5 ?_)
      case c1 =>
        intro j u hj
        have hjl : j < tl.length := by
          have := (List.getElem?_eq_some_iff.1 hj).1
          simpa using this
        obtain ⟨g, o, e1, e2⟩ := hrr j hjl
        simp at e1
        subst e1
        simp [hjl] at hj
        subst hj
        by_cases j0 : j = 0
        · subst j0; simpa [Addr.add] using e2
        · simpa [Addr.add, j0] using e2
      case c2 =>
        intro u hu
        first | (obtain ⟨k, _, rfl⟩ := List.mem_map.1 hu; rfl) | rfl
      case c3 => unfold maxLen; first | omega | (simp; omega)
      case c4 => first | omega | (simp; omega)
      case c5 => rw [← hbu.out]; exact hB.size
      intro V0 X2 hown hg _
      have hO2 : IOwn X2 bu V0 ([e.a] ++ tl) := by
        unfold IOwn
        rw [List.length_append, List.map_append]
        first | exact hown | simpa using hown
      have hN2 := hN.grown hg (hO.ne hN (by decide))
      have hB2 : Below W.heap.size W X2 := hB.grown hg hB.size (fun g hg => by rw [hbu.out]; exact (World.ownsRow.lt hO g hg).1)
      obtain ⟨A0, q0, hV0⟩ := hO2.form
      subst hV0
      clear hown hg hrr m0 mm
      have m1 := hN2.cell 5
      have m1 := hN2.cell 5
      by_cases hT1 : EA = none
      · subst hT1
        obtain rfl : ec = 0 := z2.out rfl
        obtain rfl : el = [] := List.eq_nil_of_length_eq_zero (by omega)
        have hq1 : IOwn X2 bu (.slice A0 ([e.a] ++ tl).length q0) (([e.a] ++ tl) ++ []) := by rw [List.append_nil]; exact hO2
        go_wp2_with (at_builtin; refine wpList_append_own_none rfl (.tmp 16) (.tmp 18) _ rfl bu 3 Tryz.t3 1 Tryz.underlying30 (by kernel_rfl) _ ([e.a] ++ tl).length _ rfl hO2 rfl ?_)
        go_wp2
        go_ret
        exact ⟨_, rfl, by rw [hbu.out, hfin.out]; exact hq1, hB2⟩
      · obtain ⟨ad1, rfl⟩ : ∃ ad, EA = some ad := Option.ne_none_iff_exists'.1 hT1
        clear hT1
        have hrr := r2.out.later hB2
        go_wp2_with (at_builtin; refine wpList_append_own _ rfl (.tmp 16) (.tmp 18) _ rfl bu 3 Tryz.t3 (.int .i64 0) 1 8 Tryz.underlying30 (by kernel_rfl) (by kernel_rfl) rfl rfl rfl (by decide) _ ([e.a] ++ tl).length _ rfl hO2 ad1 el.length ec (el.map fun k => Value.int .i64 k) rfl (by simp) ?c1 ?c2 ?c3 ?c4 ?c5 ?_)
        case c1 =>
          intro j u hj
          have hjl : j < el.length := by
            have := (List.getElem?_eq_some_iff.1 hj).1
            simpa using this
          obtain ⟨g, o, e1, e2⟩ := hrr j hjl
          simp at e1
          subst e1
          simp [hjl] at hj
          subst hj
          by_cases j0 : j = 0
          · subst j0; simpa [Addr.add] using e2
          · simpa [Addr.add, j0] using e2
        case c2 =>
          intro u hu
          first | (obtain ⟨k, _, rfl⟩ := List.mem_map.1 hu; rfl) | rfl
        case c3 => unfold maxLen; first | omega | (simp; omega)
        case c4 => first | omega | (simp; omega)
        case c5 => rw [← hbu.out]; exact hB2.size
        intro V1 X3 hown hg _
        have hO3 : IOwn X3 bu V1 (([e.a] ++ tl) ++ el) := by
          unfold IOwn
          rw [List.length_append, List.map_append]
          first | exact hown | simpa using hown
        have hN3 := hN2.grown hg (hO2.ne hN2 (by decide))
        have hB3 : Below W.heap.size W X3 := hB2.grown hg hB2.size (fun g hg => by rw [hbu.out]; exact (World.ownsRow.lt hO2 g hg).1)
        obtain ⟨A1, q1, hV1⟩ := hO3.form
        subst hV1
        clear hown hg hrr m1
        go_wp2
        go_ret
        exact ⟨_, rfl, by rw [hbu.out, hfin.out]; exact hO3, hB3⟩
  · have b : (e.kind == 2) = false := by simpa using k2
    rw [if_neg k2] at hfin
    clear k2 n1
    have hO : IOwn X0 bu (.slice none 0 0) [] := World.ownsRow_nil _ _ _ _
    go_upto_region 4 with fail
    clear n0
    have m0 := N0.cell 4
    have mm := N0.cell 5
    by_cases hT0 : TA = none
    · subst hT0
      obtain rfl : tc = 0 := z1.out rfl
      obtain rfl : tl = [] := List.eq_nil_of_length_eq_zero (by omega)
      have hq0 : IOwn X0 bu (.slice none 0 0) (([] : List Int) ++ []) := by rw [List.append_nil]; exact hO
      go_upto_region 5 with (at_builtin; refine wpList_append_own_none rfl (.tmp 12) (.tmp 14) _ rfl bu 3 Tryz.t3 1 Tryz.underlying30 (by kernel_rfl) _ 0 _ rfl hO rfl ?_)
      have m1 := N0.cell 5
      by_cases hT1 : EA = none
      · subst hT1
        obtain rfl : ec = 0 := z2.out rfl
        obtain rfl : el = [] := List.eq_nil_of_length_eq_zero (by omega)
        have hq1 : IOwn X0 bu (.slice none 0 0) ((([] : List Int) ++ []) ++ []) := by rw [List.append_nil]; exact hq0
        go_wp2_with (at_builtin; refine wpList_append_own_none rfl (.tmp 16) (.tmp 18) _ rfl bu 3 Tryz.t3 1 Tryz.underlying30 (by kernel_rfl) _ 0 _ rfl hq0 rfl ?_)
        go_wp2
        go_ret
        exact ⟨_, rfl, by rw [hbu.out, hfin.out]; exact hq1, bA⟩
      · obtain ⟨ad1, rfl⟩ : ∃ ad, EA = some ad := Option.ne_none_iff_exists'.1 hT1
        clear hT1
        have hrr := r2.out.later bA
        go_wp2_with (at_builtin; refine wpList_append_own _ rfl (.tmp 16) (.tmp 18) _ rfl bu 3 Tryz.t3 (.int .i64 0) 1 8 Tryz.underlying30 (by kernel_rfl) (by kernel_rfl) rfl rfl rfl (by decide) _ 0 _ rfl hq0 ad1 el.length ec (el.map fun k => Value.int .i64 k) rfl (by simp) ?c1 ?c2 ?c3 ?c4 ?c5 ?_)
        case c1 =>
          intro j u hj
          have hjl : j < el.length := by
            have := (List.getElem?_eq_some_iff.1 hj).1
            simpa using this
          obtain ⟨g, o, e1, e2⟩ := hrr j hjl
          simp at e1
          subst e1
          simp [hjl] at hj
          subst hj
          by_cases j0 : j = 0
          · subst j0; simpa [Addr.add] using e2
          · simpa [Addr.add, j0] using e2
        case c2 =>
          intro u hu
          first | (obtain ⟨k, _, rfl⟩ := List.mem_map.1 hu; rfl) | rfl
        case c3 => unfold maxLen; first | omega | (simp; omega)
        case c4 => first | omega | (simp; omega)
        case c5 => rw [← hbu.out]; exact bA.size
        intro V1 X3 hown hg _
        have hO3 : IOwn X3 bu V1 ((([] : List Int) ++ []) ++ el) := by
          unfold IOwn
          rw [List.length_append, List.map_append]
          first | exact hown | simpa using hown
        have hN3 := N0.grown hg (hq0.ne N0 (by decide))
        have hB3 : Below W.heap.size W X3 := bA.grown hg bA.size (fun g hg => by rw [hbu.out]; exact (World.ownsRow.lt hq0 g hg).1)
        obtain ⟨A1, q1, hV1⟩ := hO3.form
        subst hV1
        clear hown hg hrr m1
        go_wp2
        go_ret
        exact ⟨_, rfl, by rw [hbu.out, hfin.out]; exact hO3, hB3⟩
    · obtain ⟨ad0, rfl⟩ : ∃ ad, TA = some ad := Option.ne_none_iff_exists'.1 hT0
      clear hT0
      have hrr := r1.out.later bA
      go_upto_region 5 with (at_builtin; refine wpList_append_own _ rfl (.tmp 12) (.tmp 14) _ rfl bu 3 Tryz.t3 (.int .i64 0) 1 8 Tryz.underlying30 (by kernel_rfl) (by kernel_rfl) rfl rfl rfl (by decide) _ 0 _ rfl hO ad0 tl.length tc (tl.map fun k => Value.int .i64 k) rfl (by simp) ?c1 ?c2 ?c3 ?c4 ?c5 ?_)
      case c1 =>
        intro j u hj
        have hjl : j < tl.length := by
          have := (List.getElem?_eq_some_iff.1 hj).1
          simpa using this
        obtain ⟨g, o, e1, e2⟩ := hrr j hjl
        simp at e1
        subst e1
        simp [hjl] at hj
        subst hj
        by_cases j0 : j = 0
        · subst j0; simpa [Addr.add] using e2
        · simpa [Addr.add, j0] using e2
      case c2 =>
        intro u hu
        first | (obtain ⟨k, _, rfl⟩ := List.mem_map.1 hu; rfl) | rfl
      case c3 => unfold maxLen; first | omega | (simp; omega)
      case c4 => first | omega | (simp; omega)
      case c5 => rw [← hbu.out]; exact bA.size
      intro V0 X2 hown hg _
      have hO2 : IOwn X2 bu V0 (([] : List Int) ++ tl) := by
        unfold IOwn
        rw [List.length_append, List.map_append]
        first | exact hown | simpa using hown
      have hN2 := N0.grown hg (hO.ne N0 (by decide))
      have hB2 : Below W.heap.size W X2 := bA.grown hg bA.size (fun g hg => by rw [hbu.out]; exact (World.ownsRow.lt hO g hg).1)
      obtain ⟨A0, q0, hV0⟩ := hO2.form
      subst hV0
      clear hown hg hrr m0 mm
      have m1 := hN2.cell 5
      have m1 := hN2.cell 5
      by_cases hT1 : EA = none
      · subst hT1
        obtain rfl : ec = 0 := z2.out rfl
        obtain rfl : el = [] := List.eq_nil_of_length_eq_zero (by omega)
        have hq1 : IOwn X2 bu (.slice A0 (([] : List Int) ++ tl).length q0) ((([] : List Int) ++ tl) ++ []) := by rw [List.append_nil]; exact hO2
        go_wp2_with (at_builtin; refine wpList_append_own_none rfl (.tmp 16) (.tmp 18) _ rfl bu 3 Tryz.t3 1 Tryz.underlying30 (by kernel_rfl) _ (([] : List Int) ++ tl).length _ rfl hO2 rfl ?_)
        go_wp2
        go_ret
        exact ⟨_, rfl, by rw [hbu.out, hfin.out]; exact hq1, hB2⟩
      · obtain ⟨ad1, rfl⟩ : ∃ ad, EA = some ad := Option.ne_none_iff_exists'.1 hT1
        clear hT1
        have hrr := r2.out.later hB2
        go_wp2_with (at_builtin; refine wpList_append_own _ rfl (.tmp 16) (.tmp 18) _ rfl bu 3 Tryz.t3 (.int .i64 0) 1 8 Tryz.underlying30 (by kernel_rfl) (by kernel_rfl) rfl rfl rfl (by decide) _ (([] : List Int) ++ tl).length _ rfl hO2 ad1 el.length ec (el.map fun k => Value.int .i64 k) rfl (by simp) ?c1 ?c2 ?c3 ?c4 ?c5 ?_)
        case c1 =>
          intro j u hj
          have hjl : j < el.length := by
            have := (List.getElem?_eq_some_iff.1 hj).1
            simpa using this
          obtain ⟨g, o, e1, e2⟩ := hrr j hjl
          simp at e1
          subst e1
          simp [hjl] at hj
          subst hj
          by_cases j0 : j = 0
          · subst j0; simpa [Addr.add] using e2
          · simpa [Addr.add, j0] using e2
        case c2 =>
          intro u hu
          first | (obtain ⟨k, _, rfl⟩ := List.mem_map.1 hu; rfl) | rfl
        case c3 => unfold maxLen; first | omega | (simp; omega)
        case c4 => first | omega | (simp; omega)
        case c5 => rw [← hbu.out]; exact hB2.size
        intro V1 X3 hown hg _
        have hO3 : IOwn X3 bu V1 ((([] : List Int) ++ tl) ++ el) := by
          unfold IOwn
          rw [List.length_append, List.map_append]
          first | exact hown | simpa using hown
        have hN3 := hN2.grown hg (hO2.ne hN2 (by decide))
        have hB3 : Below W.heap.size W X3 := hB2.grown hg hB2.size (fun g hg => by rw [hbu.out]; exact (World.ownsRow.lt hO2 g hg).1)
        obtain ⟨A1, q1, hV1⟩ := hO3.form
        subst hV1
        clear hown hg hrr m1
        go_wp2
        go_ret
        exact ⟨_, rfl, by rw [hbu.out, hfin.out]; exact hO3, hB3⟩
end Go.Proofs.YtnbgadndkepomaaGreatDoor

/- SsaDefined: what is known; Few. -/
namespace Go.Proofs.YtnbgadndkepomaaGreatDoor
open Go.RowKit

def knownR (n : Nat) (m : List Nat) (v : Int) : Bool := decide (0 ≤ v ∧ v < n ∧ v.toNat ∈ m)
set_option maxRecDepth 100000 in
set_option maxHeartbeats 1600000 in
theorem all_any {W : World} {xk bk n : Nat} {m : List Nat} (hx : Box W xk 38 #[.slice (some ⟨bk, 0, none⟩) n n]) (hb : Box W bk 4 (bools m n)) (l : List Int) (A : Option Addr) (q : Nat) (hr : IRow W A l) (hl : l.length ≤ q ∧ q ≤ maxLen) :
    Calls Tryz.prog 23 #[.slice A l.length q, .pointer (some ⟨xk, 0, none⟩)] W fun e w' => e = .returned (.bool (l.all (knownR n m))) ∧ W = w' := by
  obtain ⟨R, hR⟩ : ∃ R, Hid (l.all (knownR n m) = R) := ⟨_, Lib.hid rfl⟩
  rw [hR.out]
  obtain ⟨l1, l2⟩ := hl
  unfold maxLen at l2
  have c0 := hx.cell 0
  go_enter Tryz.func23, Tryz.ntmps23
  go_wp2_with fail
  go_loopw [8] (fun v wr => ∃ i : Nat, i ≤ l.length ∧ v = .int .i64 i ∧ Hid ((l.take i).all (knownR n m) = true) ∧ W = wr) (fun v _ => l.length - iOf v)
  case atStart => exact ⟨0, Nat.zero_le _, rfl, Lib.hid rfl, rfl⟩
  case round =>
    obtain ⟨i, hi, rfl, hI, hwr⟩ := hrel
    subst hwr
    by_cases hlt : i < l.length
    · obtain ⟨g, o, eA, cv⟩ := hr i hlt
      have hic : (i : Int) < l.length := by omega
      have hwi : IntKind.i64.wrap ((i : Int) + 1) = ((i + 1 : Nat) : Int) := by rw [IntWalk.i64_in _ (by omega)]; omega
      have hstep : Hid (knownR n m l[i] = true → (l.take (i + 1)).all (knownR n m) = true) := Lib.hid (fun h => by
        rw [List.take_succ_eq_append_getElem hlt, List.all_append, hI.out]
        simp [h])
      have hno : Hid (knownR n m l[i] = false → R = false) := Lib.hid (fun h => by
        rw [← hR.out]
        apply Bool.eq_false_iff.2
        intro h2
        rw [List.all_eq_true] at h2
        rw [h2 _ (List.getElem_mem hlt)] at h
        cases h)
      obtain ⟨z, hz⟩ : ∃ z, Hid (l[i] = z) := ⟨_, Lib.hid rfl⟩
      rw [hz.out] at cv hstep hno
      by_cases h0 : 0 ≤ z
      · obtain ⟨k, rfl⟩ : ∃ k : Nat, z = k := ⟨z.toNat, by omega⟩
        have e1 : decide ((k : Int) < 0) = false := decide_eq_false (by omega)
        by_cases hk : k < n
        · have hkc : (k : Int) < n := by omega
          have e2 : decide ((n : Int) ≤ k) = false := decide_eq_false (by omega)
          have cb : W.cell? ⟨bk, k, none⟩ = some (.bool (decide (k ∈ m))) := by rw [hb.cell]; exact bools_get m hk
          by_cases hm : k ∈ m
          · have hs := Lib.hid (hstep.out (decide_eq_true ⟨by omega, hkc, by rw [Int.toNat_natCast]; exact hm⟩))
            rw [decide_eq_true hm] at cb
            clear hm hstep hno hI h0
            go_wp2_with fail
            try simp only [← eA]
            clear eA
            go_roundw
            case rel => exact ⟨i + 1, hlt, by go_num, hs, trivial⟩
            case measure => simp only [iOf]; omega
          · have hQ := Lib.hid (hno.out (decide_eq_false (fun h => hm (by have := h.2.2; rwa [Int.toNat_natCast] at this))))
            rw [decide_eq_false hm] at cb
            clear hm hstep hno hI h0 hR
            go_wp2
            go_ret
            exact ⟨by rw [hQ.out]; rfl, rfl⟩
        · have e2 : decide ((n : Int) ≤ k) = true := decide_eq_true (by omega)
          have hQ := Lib.hid (hno.out (decide_eq_false (fun h => by have := h.2.1; omega)))
          clear hstep hno hI h0 hR
          go_wp2
          go_ret
          exact ⟨by rw [hQ.out]; rfl, rfl⟩
      · have e1 : decide (z < 0) = true := decide_eq_true (by omega)
        have hQ := Lib.hid (hno.out (decide_eq_false (fun h => h0 h.1)))
        clear hstep hno hI h0 hR
        go_wp2
        go_ret
        exact ⟨by rw [hQ.out]; rfl, rfl⟩
    · have hQ : Hid (R = true) := Lib.hid (by have := hI.out; rw [List.take_of_length_le (by omega), hR.out] at this; exact this)
      have hie : i = l.length := by omega
      clear hI hR
      subst hie
      go_wp2
      go_ret
      exact ⟨by rw [hQ.out]; rfl, rfl⟩
def BoolPost (W : World) (e : Ending) (w' : World) : Prop := (∃ b, e = .returned (.bool b)) ∧ Below W.heap.size W w'
set_option maxRecDepth 100000 in
set_option maxHeartbeats 1600000 in
theorem Few_any {W : World} {c : Cd} {x : Sl} (hx : CdAt W c x) (ok : c.ok) :
    Calls Tryz.prog 12 #[.agg #[.slice x.S c.st.length x.sc, .slice x.N c.nm.length x.nc, .slice x.I c.ins.length x.ic, .slice x.K c.bk.length x.kc]] W (BoolPost W) := by
  have N := Box.new W 27 #[.slice x.S c.st.length x.sc, .slice x.N c.nm.length x.nc, .slice x.I c.ins.length x.ic, .slice x.K c.bk.length x.kc]
  have bA : Below W.heap.size W (W.alloc (.cells #[.slice x.S c.st.length x.sc, .slice x.N c.nm.length x.nc, .slice x.I c.ins.length x.ic, .slice x.K c.bk.length x.kc] 27)) := (Below.refl _ _).alloc (Nat.le_refl _) _
  have hx1 := hx.later bA
  have lst := ok.lst
  have lbk := ok.lbk
  go_enter Tryz.func12, Tryz.ntmps12
  go_upto_region 3 with fail
  obtain ⟨bu, hbu⟩ : ∃ b, Hid (W.heap.size = b) := ⟨_, Lib.hid rfl⟩
  obtain ⟨w1, hw1⟩ : ∃ Y, W.alloc (.cells #[.slice x.S c.st.length x.sc, .slice x.N c.nm.length x.nc, .slice x.I c.ins.length x.ic, .slice x.K c.bk.length x.kc] 27) = Y := ⟨_, rfl⟩
  rw [hw1] at N bA hx1
  rw [hbu.out] at N
  simp only [hw1, hbu.out]
  clear hw1
  go_loopw [3, 4] (fun v3 v4 wr => ∃ (z : Int) (i : Nat), v3 = .int .i64 z ∧ v4 = .int .i64 i ∧ i ≤ c.bk.length ∧ i ≤ 61 ∧ Below w1.heap.size w1 wr) (fun _ v _ => 61 - iOf v)
  case atStart => exact ⟨0, 0, rfl, rfl, Nat.zero_le _, by omega, Below.refl _ _⟩
  case round =>
    obtain ⟨z, i, rfl, rfl, hi, hi2, hB⟩ := hrel
    have Nr := N.below hB
    have n3 := Nr.cell 3
    have hxr := hx1.later hB
    by_cases hlt : i < c.bk.length
    case' neg =>
      have e1 : ¬ ((i : Int) < c.bk.length) := by omega
      clear hlt
    case' pos =>
      have hic : (i : Int) < c.bk.length := by omega
      by_cases h60 : i ≤ 60
      case' neg =>
        have e2 : ¬ ((i : Int) ≤ 60) := by omega
        clear h60 hlt
      case' pos =>
        have e2 : (i : Int) ≤ 60 := by omega
        obtain ⟨g, o, TA, EA, tc, ec, eK, ⟨c0, c1, c2, c3, c4, c5, c6, c7, c8, c9⟩, hle⟩ := hxr.k i hlt
        have d6 : wr.cell? ⟨g, o + i * 10 + 6, none⟩ = some (.slice TA c.bk[i].en.ta.length tc) := c6
        have d7 : wr.cell? ⟨g, o + i * 10 + 7, none⟩ = some (.slice EA c.bk[i].en.ea.length ec) := c7
        have hwi : IntKind.i64.wrap ((i : Int) + 1) = ((i + 1 : Nat) : Int) := by rw [IntWalk.i64_in _ (by omega)]; omega
        clear hle c0 c1 c2 c3 c4 c5 c6 c7 c8 c9
        go_wp2_with fail
        go_quiet (fail)
        try simp only [← eK]
        have hBn : Below w1.heap.size w1 (wr.drewN nq) := hB.trans ((Drew.below ⟨nq, rfl⟩).mono hB.size)
        obtain ⟨wn, hwn⟩ : ∃ Y, wr.drewN nq = Y := ⟨_, rfl⟩
        rw [hwn] at hBn
        simp only [hwn]
        clear hwn eK d6 d7 n3 Nr hxr hB
        go_wp2_with fail
        go_roundw
        case rel => exact ⟨_, i + 1, rfl, by go_num, hlt, by omega, hBn⟩
        case measure => simp only [iOf]; omega
    all_goals
      have n0 := Nr.cell 0
      clear hi hi2
      go_wp2_with fail
      clear n0 n3 hxr Nr
      go_loopw [5, 6] (fun v3 v4 wq => ∃ (z : Int) (j : Nat), v3 = .int .i64 z ∧ v4 = .int .i64 j ∧ j ≤ c.st.length ∧ j ≤ 21 ∧ Below w1.heap.size w1 wq) (fun _ v _ => 21 - iOf v)
      case atStart => exact ⟨0, 0, rfl, rfl, Nat.zero_le _, by omega, hB⟩
      case round =>
        clear hB
        obtain ⟨z2, j, rfl, rfl, hj, hj2, hB⟩ := hrel
        have Nr := N.below hB
        have m0 := Nr.cell 0
        have m1 := Nr.cell 1
        have m2 := Nr.cell 2
        have m3 := Nr.cell 3
        have hxr := hx1.later hB
        have bW := bA.trans (hB.mono bA.size)
        by_cases hjl : j < c.st.length
        case' neg =>
          have f1 : ¬ ((j : Int) < c.st.length) := by omega
          clear hjl
        case' pos =>
          have hjc : (j : Int) < c.st.length := by omega
          by_cases h20 : j ≤ 20
          case' neg =>
            have f2 : ¬ ((j : Int) ≤ 20) := by omega
            clear h20 hjl
          case' pos =>
            have f2 : (j : Int) ≤ 20 := by omega
            obtain ⟨g, o, A', c', eS, cS, _, _, _⟩ := hxr.s j hjl
            have hwj : IntKind.i64.wrap ((j : Int) + 1) = ((j + 1 : Nat) : Int) := by rw [IntWalk.i64_in _ (by omega)]; omega
            go_wp2_with fail
            try simp only [← eS]
            clear m0 m1 m2 m3 eS cS Nr hxr bW
            go_roundw
            case rel => exact ⟨_, j + 1, rfl, by go_num, hjl, by omega, hB⟩
            case measure => simp only [iOf]; omega
        all_goals
          obtain ⟨q1, hq1⟩ : ∃ q, decide ((c.bk.length : Int) ≤ 60) = q := ⟨_, rfl⟩
          obtain ⟨q2, hq2⟩ : ∃ q, decide ((c.ins.length : Int) ≤ 300) = q := ⟨_, rfl⟩
          obtain ⟨q3, hq3⟩ : ∃ q, decide ((c.nm.length : Int) ≤ 50) = q := ⟨_, rfl⟩
          obtain ⟨q4, hq4⟩ : ∃ q, decide ((c.st.length : Int) ≤ 20) = q := ⟨_, rfl⟩
          obtain ⟨q5, hq5⟩ : ∃ q, decide (z ≤ 500) = q := ⟨_, rfl⟩
          obtain ⟨q6, hq6⟩ : ∃ q, decide (z2 ≤ 400) = q := ⟨_, rfl⟩
          cases q1 with
          | false => go_wp2; go_ret; exact ⟨⟨_, rfl⟩, bW⟩
          | true =>
            cases q2 with
            | false => go_wp2; go_ret; exact ⟨⟨_, rfl⟩, bW⟩
            | true =>
              cases q3 with
              | false => go_wp2; go_ret; exact ⟨⟨_, rfl⟩, bW⟩
              | true =>
                cases q4 with
                | false => go_wp2; go_ret; exact ⟨⟨_, rfl⟩, bW⟩
                | true =>
                  cases q5 with
                  | false => go_wp2; go_ret; exact ⟨⟨_, rfl⟩, bW⟩
                  | true => go_wp2; go_ret; exact ⟨⟨_, rfl⟩, bW⟩
end Go.Proofs.YtnbgadndkepomaaGreatDoor
