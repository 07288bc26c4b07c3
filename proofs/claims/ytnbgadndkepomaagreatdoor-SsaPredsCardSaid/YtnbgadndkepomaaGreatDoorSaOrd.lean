/- ssa: the walk through the blocks. -/
import Derived.Test.YtnbgadndkepomaaGreatDoorSaPre
namespace Go.Proofs.YtnbgadndkepomaaGreatDoor
open Go.RowKit

/-- Which blocks were entered. -/
def bools (m : List Nat) (n : Nat) : Array Value := vals (fun j => .bool (decide (j ∈ m))) n
theorem bools_get (m : List Nat) {n i : Nat} (h : i < n) : (bools m n)[i]? = some (.bool (decide (i ∈ m))) := vals_get _ h
theorem bools_set (m : List Nat) (n b : Nat) : (bools m n).setIfInBounds b (.bool true) = bools (b :: m) n := by
  unfold bools
  rw [vals_set]
  refine vals_congr (fun i _ => ?_)
  unfold updV
  by_cases e : i = b
  · subst e; simp
  · rw [if_neg e]; simp [e]
/-- The closure. -/
def entV (x1 x2 x3 : Nat) : Value := .func (.func 96) #[] #[.pointer (some ⟨x2, 0, none⟩), .pointer (some ⟨x1, 0, none⟩), .pointer (some ⟨x3, 0, none⟩)]
/-- The walk's state in memory: what was entered, what was left (the last one first). -/
structure Wk (W0 w : World) (p : Nat) (c : Cd) (x : Sl) (cs : Array Value) (B be x1 x2 x3 : Nat) (V : Value) (m l : List Nat) : Prop where
  cod : Cod W0 w p c x (cs.setIfInBounds 117 V)
  own : IOwn w B V (nats l.reverse)
  ent : Box w be 4 (bools m c.bk.length)
  k1 : Box w x1 63 #[.pointer (some ⟨p, 0, none⟩)]
  k2 : Box w x2 38 #[.slice (some ⟨be, 0, none⟩) c.bk.length c.bk.length]
  k3 : Box w x3 104 #[entV x1 x2 x3]
/-- What the walk leaves as it is. -/
structure Kp (p be : Nat) (V : Value) (w w' : World) : Prop where
  os : w'.os = w.os
  tape : w'.tape = w.tape
  output : w'.output = w.output
  size : w.heap.size ≤ w'.heap.size
  block : ∀ k, k < w.heap.size → k ≠ p → k ≠ be → some k ≠ V.ownBlock → w'.heap[k]? = w.heap[k]?
/-- Where a row lies after a walk. -/
def Lies (w : World) (V V' : Value) : Prop := V'.ownBlock = V.ownBlock ∨ ∃ g, V'.ownBlock = some g ∧ w.heap.size ≤ g
section
variable {p be : Nat} {V V' V'' : Value} {w w' w'' : World}
theorem Kp.of (h : Below w.heap.size w w') : Kp p be V w w' := ⟨h.os, h.tape, h.output, h.size, fun k hk _ _ _ => h.block k hk⟩
theorem Kp.set_be (i : Nat) (v : Value) : Kp p be V w (w.setCell ⟨be, i, none⟩ v) :=
  have h : But be w (w.setCell ⟨be, i, none⟩ v) := But.set v
  ⟨h.os, h.tape, h.output, h.size, fun k hk _ h2 _ => h.block k hk h2⟩
theorem Kp.set_p (i : Nat) (v : Value) : Kp p be V w (w.setCell ⟨p, i, none⟩ v) :=
  have h : But p w (w.setCell ⟨p, i, none⟩ v) := But.set v
  ⟨h.os, h.tape, h.output, h.size, fun k hk h1 _ _ => h.block k hk h1⟩
theorem Kp.grown (h : w.grownBy w' V.ownBlock) : Kp p be V w w' := ⟨h.os, h.tape, h.output, h.size, fun k hk _ _ h3 => h.block k hk h3⟩
theorem Lies.refl : Lies w V V := .inl rfl
theorem Lies.mono (h : Lies w' V V') (hs : w.heap.size ≤ w'.heap.size) : Lies w V V' := by
  rcases h with h | ⟨g, h, h2⟩
  · exact .inl h
  · exact .inr ⟨g, h, Nat.le_trans hs h2⟩
theorem Lies.trans (h : Lies w V V') (k : Lies w V' V'') : Lies w V V'' := by
  rcases k with k | k
  · rcases h with h | ⟨g, h, h2⟩
    · exact .inl (k.trans h)
    · exact .inr ⟨g, k.trans h, h2⟩
  · exact .inr k
theorem Kp.trans (h : Kp p be V w w') (hl : Lies w V V') (k : Kp p be V' w' w'') : Kp p be V w w'' :=
  ⟨k.os.trans h.os, k.tape.trans h.tape, k.output.trans h.output, Nat.le_trans h.size k.size, fun i hi h1 h2 h3 =>
    (k.block i (Nat.lt_of_lt_of_le hi h.size) h1 h2 (by
      rcases hl with hl | ⟨g, hl, hg⟩
      · rw [hl]; exact h3
      · rw [hl]; intro e; cases e; omega)).trans (h.block i hi h1 h2 h3)⟩
theorem Kp.box (h : Kp p be V w w') {b : Nat} {T : TypeId} {cs : Array Value} (hb : Box w b T cs) (h1 : b ≠ p) (h2 : b ≠ be) (h3 : some b ≠ V.ownBlock) : Box w' b T cs := (h.block b hb.lt h1 h2 h3).trans hb
end
section
variable {W0 w w' : World} {p : Nat} {c : Cd} {x : Sl} {cs : Array Value} {B be x1 x2 x3 : Nat} {V : Value} {m l : List Nat}
theorem Wk.later (h : Wk W0 w p c x cs B be x1 x2 x3 V m l) (hb : Below w.heap.size w w') : Wk W0 w' p c x cs B be x1 x2 x3 V m l :=
  ⟨h.cod.later hb, h.own.later hb, h.ent.below hb, h.k1.below hb, h.k2.below hb, h.k3.below hb⟩
/-- A block is entered. -/
theorem Wk.enter (h : Wk W0 w p c x cs B be x1 x2 x3 V m l) (hB : W0.heap.size ≤ be) (b : Nat) : Wk W0 (w.setCell ⟨be, b, none⟩ (.bool true)) p c x cs B be x1 x2 x3 V (b :: m) l := by
  have hne : ∀ (q : Nat) (T : TypeId) (ds : Array Value), Box w q T ds → T ≠ 4 → q ≠ be := fun q T ds hq hT e => by subst e; exact hT (hq.type h.ent)
  refine ⟨h.cod.far hB (hne _ _ _ h.cod.box (by decide)) _, h.own.but (But.set _) (h.own.ne h.ent (by decide)), ?_, h.k1.far (hne _ _ _ h.k1 (by decide)) _, h.k2.far (hne _ _ _ h.k2 (by decide)) _, h.k3.far (hne _ _ _ h.k3 (by decide)) _⟩
  have := h.ent.set b (.bool true)
  rwa [bools_set] at this
/-- A block is left. -/
theorem Wk.leave (h : Wk W0 w p c x cs B be x1 x2 x3 V m l) (hB : W0.heap.size ≤ B) (hp : p < B) {b g n q : Nat} (hg : w.grownBy w' V.ownBlock) (ho : IOwn w' B (.slice (some ⟨g, 0, none⟩) n q) (nats l.reverse ++ [(b : Int)])) :
    Wk W0 (w'.setCell ⟨p, 117, none⟩ (.slice (some ⟨g, 0, none⟩) n q)) p c x cs B be x1 x2 x3 (.slice (some ⟨g, 0, none⟩) n q) m (b :: l) := by
  have hC := h.cod.grown hg (fun k e => Nat.le_trans hB (h.own.lt k e).1) (fun e => by have := (h.own.lt p e.symm).1; omega)
  have hne : ∀ (k : Nat) (T : TypeId) (ds : Array Value), Box w k T ds → T ≠ 72 → T ≠ 3 → Box (w'.setCell ⟨p, 117, none⟩ (.slice (some ⟨g, 0, none⟩) n q)) k T ds := fun k T ds hk h1 h2 =>
    (hk.grown hg (h.own.ne hk h2)).far (fun e => by subst e; exact h1 (hk.type h.cod.box)) _
  refine ⟨?_, ?_, hne _ _ _ h.ent (by decide) (by decide), hne _ _ _ h.k1 (by decide) (by decide), hne _ _ _ h.k2 (by decide) (by decide), hne _ _ _ h.k3 (by decide) (by decide)⟩
  · have := hC.set 117 (by omega) (.slice (some ⟨g, 0, none⟩) n q)
    rwa [Array.setIfInBounds_setIfInBounds] at this
  · have e : nats (b :: l).reverse = nats l.reverse ++ [(b : Int)] := by simp
    rw [e]
    exact ho.but (But.set _) (ho.ne hC.box (by decide))
end
/-- A step of the walk at a successor. -/
abbrev stp (s : Nat → List Nat) (f : Nat) (m : List Nat × List Nat) (t : Nat) : List Nat × List Nat := if t ∈ m.1 then m else visit s f t m
/-- The walk within a block, before the edge k. -/
def wat (s : Nat → List Nat) (f b k : Nat) (m : List Nat × List Nat) : List Nat × List Nat := ((s b).take k).foldl (stp s f) (b :: m.1, m.2)
section
variable {s : Nat → List Nat} {f b k n : Nat} {m : List Nat × List Nat}
theorem wat_zero : wat s f b 0 m = (b :: m.1, m.2) := by unfold wat; rfl
theorem wat_next (h : k < (s b).length) : wat s f b (k + 1) m = stp s f (wat s f b k m) (s b)[k] := by
  unfold wat
  rw [List.take_succ_eq_append_getElem h, List.foldl_append]
  rfl
theorem wat_end (h : (s b).length ≤ k) : visit s (f + 1) b m = ((wat s f b k m).1, b :: (wat s f b k m).2) := by
  unfold wat
  rw [List.take_of_length_le h]
  rfl
theorem visit_ok (hs : ∀ x, ∀ t ∈ s x, t < n) (hm : MetOk n m.1) (hf : n ≤ f + m.1.length) (hb : b ∉ m.1) (hbn : b < n) : MetOk n (visit s f b m).1 ∧ m.1.length ≤ (visit s f b m).1.length ∧ (visit s f b m).2.length + m.1.length = (visit s f b m).1.length + m.2.length := by
  obtain ⟨q, h1, _, h3⟩ := visit_adds hs f b m hm hf hb hbn
  exact ⟨h3, by rw [h1.len]; omega, by rw [h1.len, h1.out, List.length_append]; omega⟩
theorem fuel {f : Nat} (hm : MetOk n m.1) (hf : n ≤ f + m.1.length) (hb : b ∉ m.1) (hbn : b < n) : ∃ f', f = f' + 1 := by
  cases f with
  | zero =>
    have : MetOk n (b :: m.1) := ⟨List.nodup_cons.2 ⟨hb, hm.1⟩, fun x hx => by rcases List.mem_cons.1 hx with rfl | hx; exact hbn; exact hm.2 x hx⟩
    have := this.le
    simp at this; omega
  | succ f' => exact ⟨f', rfl⟩
end
/-- What a walk answers. -/
def EntPost (W0 : World) (p : Nat) (c : Cd) (x : Sl) (cs : Array Value) (B be x1 x2 x3 : Nat) (V : Value) (w : World) (r : List Nat × List Nat) (e : Ending) (w' : World) : Prop :=
  e = .returned (.tuple #[]) ∧ ∃ V', Wk W0 w' p c x cs B be x1 x2 x3 V' r.1 r.2 ∧ Kp p be V w w' ∧ Lies w V V'
set_option maxRecDepth 100000 in
set_option maxHeartbeats 3200000 in
theorem enter_any {W0 : World} {p : Nat} {c : Cd} {x : Sl} {cs : Array Value} {B be x1 x2 x3 : Nat} (hn : c.bk.length ≤ 400) (he : EndsP c) (hB : W0.heap.size ≤ B) (hbe : B ≤ be) (hp : p < B) :
    ∀ (f b : Nat) (V : Value) (m l : List Nat) (w : World), Wk W0 w p c x cs B be x1 x2 x3 V m l → MetOk c.bk.length m → c.bk.length ≤ f + m.length → b ∉ m → b < c.bk.length → l.length ≤ m.length →
      Calls Tryz.prog 96 #[.int .i64 b, .pointer (some ⟨x2, 0, none⟩), .pointer (some ⟨x1, 0, none⟩), .pointer (some ⟨x3, 0, none⟩)] w (EntPost W0 p c x cs B be x1 x2 x3 V w (visit (succs c) f b (m, l))) := by
  intro f
  induction f with
  | zero => intro b V m l w h hm hf hb hbn _; obtain ⟨f', e⟩ := fuel (m := (m, l)) hm hf hb hbn; cases e
  | succ f ih =>
    intro b V m l w h hm hf hb hbn hll
    have hsl : ∀ y, ∀ t ∈ succs c y, t < c.bk.length := fun y t ht => (succ_lt he ht).1
    replace hsl := Lib.hid hsl
    replace he := Lib.hid he
    replace ih := Lib.hid ih
    have g2 := h.k2.cell 0
    have ge : w.cell? ⟨be, b, none⟩ = some (.bool (decide (b ∈ m))) := by rw [h.ent.cell]; exact bools_get m hbn
    have fe := h.ent.free b
    have hbc : (b : Int) < c.bk.length := by omega
    have h1 := h.enter (Nat.le_trans hB hbe) b
    have K1 : Kp p be V w (w.setCell ⟨be, b, none⟩ (.bool true)) := Kp.set_be b _
    go_enter Tryz.func96, Tryz.ntmps96
    go_upto_region 1 with fail
    obtain ⟨w1, hw1⟩ : ∃ Y, w.setCell ⟨be, b, none⟩ (.bool true) = Y := ⟨_, rfl⟩
    rw [hw1] at h1 K1
    simp only [hw1]
    clear hw1 h g2 ge fe
    have g1 := h1.k1.cell 0
    have s3 := h1.cod.pt.s3
    obtain ⟨g, o, TA, EA, tc, ec, eK, ⟨c0, c1, c2, c3, c4, c5, c6, c7, c8, c9⟩, hle⟩ := h1.cod.at_.k b hbn
    have hsu := Lib.hid (succs_at hbn)
    have hed := Lib.hid ((he.out _ (List.getElem_mem hbn)).2.2)
    obtain ⟨y, hy⟩ : ∃ t, Hid (c.bk[b] = t) := ⟨_, Lib.hid rfl⟩
    simp only [hy.out] at c0 c1 c2 c3 c4 c5 c6 c7 c8 c9 hsu hed hle
    have d3 : w1.cell? ⟨g, o + b * 10 + 3, none⟩ = some (.int .i64 y.en.a) := c3
    have d4 : w1.cell? ⟨g, o + b * 10 + 4, none⟩ = some (.int .i64 y.en.to) := c4
    have d5 : w1.cell? ⟨g, o + b * 10 + 5, none⟩ = some (.int .i64 y.en.els) := c5
    have d6 : w1.cell? ⟨g, o + b * 10 + 6, none⟩ = some (.slice TA y.en.ta.length tc) := c6
    have d7 : w1.cell? ⟨g, o + b * 10 + 7, none⟩ = some (.slice EA y.en.ea.length ec) := c7
    have d8 : w1.cell? ⟨g, o + b * 10 + 8, none⟩ = some (.int .i64 y.en.n) := c8
    have d9 : w1.cell? ⟨g, o + b * 10 + 9, none⟩ = some (.int .i64 y.en.at_) := c9
    have hle2 := Lib.hid hle
    have eK2 := Lib.hid eK
    clear hle
    go_wp2_with fail
    refine (edgesOf_any2 y.en TA EA tc ec hle2.out).mono ?_
    rintro r w4 ⟨A, cc, rfl, l1, l2, hEd, B4⟩
    have h4 := h1.later B4
    have K4 := K1.trans Lies.refl (Kp.of B4)
    clear g1 s3 c0 c1 c2 c3 c4 c5 c6 c7 c8 c9 d3 d4 d5 d6 d7 d8 d9 h1 B4 K1 hle2
    have h2 := edges_le y.en
    obtain ⟨es, hes⟩ : ∃ q, Hid (edges y.en = q) := ⟨_, Lib.hid rfl⟩
    rw [hes.out] at hEd l1 h2 hsu hed
    simp only [hes.out]
    unfold maxLen at l2
    clear hes hy
    have hm0 : MetOk c.bk.length (b :: m) := ⟨List.nodup_cons.2 ⟨hb, hm.1⟩, fun z hz => by rcases List.mem_cons.1 hz with rfl | hz; exact hbn; exact hm.2 z hz⟩
    replace hm0 := Lib.hid hm0
    have hw0 : Hid (wat (succs c) f b 0 (m, l) = (b :: m, l)) := Lib.hid wat_zero
    have hll0 : l.length + 1 ≤ (b :: m).length := by simp; omega
    have hff0 : c.bk.length ≤ f + (b :: m).length := by simp; omega
    clear hm hb hll hf
    generalize b :: m = m0 at h4 hm0 hw0 hll0 hff0
    go_wp2_with fail
    go_loopw [21] (fun v wr => ∃ (k : Nat) (V' : Value) (M L : List Nat), k ≤ es.length ∧ v = .int .i64 k ∧ Hid (wat (succs c) f b k (m, l) = (M, L)) ∧ Wk W0 wr p c x cs B be x1 x2 x3 V' M L ∧ Kp p be V w wr ∧ Lies w V V' ∧ Hid (MetOk c.bk.length M) ∧ c.bk.length ≤ f + M.length ∧ L.length + 1 ≤ M.length ∧ EdOk w1 w1.heap.size wr A es) (fun v _ => es.length - iOf v)
    case atStart => exact ⟨0, V, m0, l, Nat.zero_le _, rfl, hw0, h4, K4, Lies.refl, hm0, hff0, hll0, hEd⟩
    case round =>
      clear hw0 h4 K4 hm0 hff0 hll0 hEd
      obtain ⟨k, V', M, L, hk, rfl, hw, hW, hK, hLi, hM, hF, hLL, hE⟩ := hrel
      by_cases hkl : k < es.length
      · obtain ⟨bE, csE, eA, hm, hX, hCs⟩ := hE (by omega)
        obtain ⟨TB, tb, k0, k1, k2, k3, k4, k5⟩ := hCs k hkl
        obtain ⟨q1, q2, q3, _⟩ := hed.out _ (List.getElem_mem hkl)
        have hsk : (succs c b)[k]? = some es[k].to.toNat := by rw [hsu.out]; simp [hkl]
        have hks : k < (succs c b).length := by rw [hsu.out]; simpa using hkl
        obtain ⟨t, ht⟩ : ∃ t : Nat, es[k].to = t := ⟨es[k].to.toNat, by omega⟩
        rw [ht] at k0 q2 hsk
        have htn : t < c.bk.length := by simpa using q2
        have hst : (succs c b)[k] = t := by rw [List.getElem?_eq_getElem hks] at hsk; simpa using hsk
        have hnx : Hid (wat (succs c) f b (k + 1) (m, l) = stp (succs c) f (M, L) t) := Lib.hid (by rw [wat_next hks, hw.out, hst])
        obtain ⟨z, hz⟩ : ∃ z, Hid (es[k].args = z) := ⟨_, Lib.hid rfl⟩
        rw [hz.out] at k1 k2
        have d0 : wr.cell? ⟨bE, k * 2, none⟩ = some (.int .i64 (t : Nat)) := by rw [hX.cell]; exact k0
        have d1 : wr.cell? ⟨bE, k * 2 + 1, none⟩ = some (.slice TB z.length tb) := by rw [hX.cell]; exact k1
        have hltc : (k : Int) < es.length := by omega
        have hwk : IntKind.i64.wrap ((k : Int) + 1) = ((k + 1 : Nat) : Int) := by rw [IntWalk.i64_in _ (by omega)]; omega
        have N5 := Box.new wr 100 #[.int .i64 (t : Nat), .slice TB z.length tb]
        have bN : Below wr.heap.size wr (wr.alloc (.cells #[.int .i64 (t : Nat), .slice TB z.length tb] 100)) := (Below.refl _ _).alloc (Nat.le_refl _) _
        have hW5 := hW.later bN
        have hK5 := hK.trans hLi (Kp.of (V := V') bN)
        have hE5 := hE.later bN
        have eA2 := Lib.hid eA
        clear hE k5 k3 k4 hCs hX q1 q2 q3 k0 k1 k2 hsk hst hw
        go_upto_region 4 with fail
        try simp only [← eA]
        clear eA d0 d1 hm
        obtain ⟨bn, hbn2⟩ : ∃ b, Hid (wr.heap.size = b) := ⟨_, Lib.hid rfl⟩
        obtain ⟨w5, hw5⟩ : ∃ Y, wr.alloc (.cells #[.int .i64 (t : Nat), .slice TB z.length tb] 100) = Y := ⟨_, rfl⟩
        rw [hw5] at N5 hW5 hK5 hE5
        rw [hbn2.out] at N5
        simp only [hw5, hbn2.out]
        clear hw5 bN hW hK
        have n0 := N5.cell 0
        have g2 := hW5.k2.cell 0
        have g3 := hW5.k3.cell 0
        unfold entV at g3
        have htc : (t : Int) < c.bk.length := by omega
        have ge : w5.cell? ⟨be, t, none⟩ = some (.bool (decide (t ∈ M))) := by rw [hW5.ent.cell]; exact bools_get M htn
        by_cases hin : t ∈ M
        · rw [decide_eq_true hin] at ge
          have hnx2 : Hid (wat (succs c) f b (k + 1) (m, l) = (M, L)) := Lib.hid (by rw [hnx.out]; exact if_pos hin)
          clear hnx hin
          go_wp2_with fail
          go_roundw
          case rel => exact ⟨k + 1, V', M, L, hkl, by go_num, hnx2, hW5, hK5, hLi, hM, hF, hLL, hE5⟩
          case measure => simp only [iOf]; omega
        · rw [decide_eq_false hin] at ge
          have hnx2 : Hid (wat (succs c) f b (k + 1) (m, l) = visit (succs c) f t (M, L)) := Lib.hid (by rw [hnx.out]; exact if_neg hin)
          obtain ⟨v1, v2, v3⟩ := visit_ok (m := (M, L)) hsl.out hM.out hF hin htn
          have hcl := ih.out t V' M L w5 hW5 hM.out hF hin htn (by omega)
          simp only at v2 v3
          obtain ⟨⟨M2, L2⟩, hr⟩ : ∃ q, Hid (visit (succs c) f t (M, L) = q) := ⟨_, Lib.hid rfl⟩
          rw [hr.out] at v1 v2 v3 hcl hnx2
          simp only at v1 v2 v3
          replace v1 := Lib.hid v1
          replace hcl := Lib.hid hcl
          clear hnx hin hr
          go_wp2_with fail
          refine hcl.out.mono ?_
          rintro r w6 ⟨rfl, V2, hW6, hK6, hL6⟩
          have hK7 := hK5.trans hLi hK6
          have hL7 := hLi.trans (hL6.mono hK5.size)
          have hE6 : EdOk w1 w1.heap.size w6 A es := fun h0 => by
            obtain ⟨b2, cs2, e, h5, h6, h7⟩ := hE5 h0
            exact ⟨b2, cs2, e, h5, hK6.box h6 (fun e => by subst e; exact absurd (h6.type hW5.cod.box) (by decide)) (fun e => by subst e; exact absurd (h6.type hW5.ent) (by decide)) (hW5.own.ne h6 (by decide)), h7⟩
          clear hcl hK5 hK6 hL6 hE5 hW5 n0 g2 g3 ge N5
          go_wp2_with fail
          go_roundw
          case rel => exact ⟨k + 1, V2, M2, L2, hkl, by go_num, hnx2, hW6, hK7, hL7, v1, by omega, by omega, hE6⟩
          case measure => simp only [iOf]; omega
      · have hv : Hid (visit (succs c) (f + 1) b (m, l) = (M, b :: L)) := Lib.hid (by rw [wat_end (k := k) (by rw [hsu.out]; simp; omega), hw.out])
        have hMl := hM.out.le
        clear hE hw hM
        obtain ⟨r, hr⟩ : ∃ r, Hid (nats L.reverse = r) := ⟨_, Lib.hid rfl⟩
        have hrn : r.length ≤ 400 := by rw [← hr.out]; simp; omega
        have ho := hW.own
        rw [hr.out] at ho
        obtain ⟨A', c', hV⟩ := ho.form
        subst hV
        have hcell : (cs.setIfInBounds 117 (.slice A' r.length c'))[117]? = some (.slice A' r.length c') := by rw [Array.getElem?_setIfInBounds_self_of_lt (by have := hW.cod.sz; simp at this; omega)]
        have bY : Below wr.heap.size wr (wr.drew.alloc (.cells #[.int .i64 b] 3)) := ((Drew.below ⟨1, rfl⟩ : Below wr.heap.size wr wr.drew)).alloc (Nat.le_refl _) _
        have hWY := hW.later bY
        have hKY := hK.trans hLi (Kp.of (V := .slice A' r.length c') bY)
        have hoY := ho.later bY
        have hY := heap_alloc_new wr.drew (.cells #[.int .i64 b] 3)
        have kp : wr.cell? ⟨p, 117, none⟩ = some (.slice A' r.length c') := by rw [hW.cod.box.cell]; exact hcell
        have k1 := hW.k1.cell 0
        have kpY : (wr.drew.alloc (.cells #[.int .i64 b] 3)).cell? ⟨p, 117, none⟩ = some (.slice A' r.length c') := by rw [hWY.cod.box.cell]; exact hcell
        have k1Y := hWY.k1.cell 0
        have qp := hW.cod.box.lt
        have q1 := hW.k1.lt
        have qe := hW.ent.lt
        have hLY : Lies w V (.slice A' r.length c') := hLi
        replace hcell := Lib.hid hcell
        clear hLL hF
        go_wp2_with fail
        go_region_law (first
          | (refine step_append_lies _ rfl (.tmp 40) (.tmp 42) 30 rfl B 3 Tryz.t3 (.int .i64 0) 1 8 Tryz.underlying30 (by kernel_rfl) (by kernel_rfl) rfl rfl rfl (by decide) (Value.slice A' r.length c') r.length (r.map fun k => Value.int .i64 k) (by simp [Act.eval]) hoY ⟨wr.heap.size, 0, none⟩ 1 1 [.int .i64 b] (by simp [Act.eval]) rfl (by exact World.news_of_block hY) (by simp [Value.oneCell']) (by decide) (by unfold maxLen; omega) (by omega) (by simp; omega) _ rfl ?_; intro g2 cap wA o2 gr p2 z2; have XA := hWY.k1.grown gr (hWY.own.ne hWY.k1 (by decide)); have k1A := XA.cell 0; have CA := hWY.cod.box.grown gr (fun e => by have := (hWY.own.lt p e.symm).1; omega); have kpA : wA.cell? ⟨p, 117, none⟩ = some (.slice A' r.length c') := (by rw [CA.cell]; exact hcell.out); have fA := CA.free 117))
        all_goals
          have o3 : IOwn wA B (.slice (some ⟨g2, 0, none⟩) (r.length + 1) cap) (nats L.reverse ++ [(b : Int)]) := by
            rw [hr.out]
            unfold IOwn
            rw [List.length_append, List.map_append]
            exact o2
          have W7 := hWY.leave (b := b) hB hp gr o3
          have L7 : Lies w V (.slice (some ⟨g2, 0, none⟩) (r.length + 1) cap) := by
            refine hLi.trans ?_
            rcases p2 with p2 | p2
            · exact .inl p2.symm
            · refine .inr ⟨g2, rfl, ?_⟩
              have := hK.size
              simp at p2
              omega
          have K7 := (hKY.trans hLY (Kp.grown (be := be) (p := p) gr)).trans hLY (Kp.set_p (be := be) (V := .slice A' r.length c') 117 (.slice (some ⟨g2, 0, none⟩) (r.length + 1) cap))
          clear o2 gr p2 z2 k1A kpA fA XA CA o3 hWY hKY hoY hY bY hW hK hLi kp k1 kpY k1Y
          go_wp2_with fail
          refine ⟨rfl, _, results_none rfl _ _ _, ?_⟩
          rw [hv.out]
          exact ⟨rfl, _, W7, K7, L7⟩
end Go.Proofs.YtnbgadndkepomaaGreatDoor
