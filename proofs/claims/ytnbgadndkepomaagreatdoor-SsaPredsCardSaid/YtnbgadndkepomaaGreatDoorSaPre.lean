/- ssa: the predecessors of all blocks. -/
import Derived.Test.YtnbgadndkepomaaGreatDoorSQD
import Derived.Test.YtnbgadndkepomaaGreatDoorSQF
import Derived.Deep.RegionLaw
namespace Go.Proofs.YtnbgadndkepomaaGreatDoor
open Go.RowKit

/-- Numbers as the program holds them. -/
abbrev nats (l : List Nat) : List Int := List.map (fun k : Nat => (k : Int)) l
theorem But.alloc {p : Nat} {w w' : World} (h : But p w w') (o : Obj) : But p w (w'.alloc o) := h.trans (But.of ((Below.refl _ _).alloc (Nat.le_refl _) o))
theorem But.below' {p : Nat} {w w' w'' : World} (h : But p w w') (hb : Below w'.heap.size w' w'') : But p w w'' := h.trans (But.of hb)
/-- A change of a block that the call made. -/
theorem But.own {p q : Nat} {w w' w'' : World} (h : But p w w') (hq : w.heap.size ≤ q) (hb : But q w' w'') : But p w w'' :=
  ⟨hb.os.trans h.os, hb.tape.trans h.tape, hb.output.trans h.output, Nat.le_trans h.size hb.size, fun k hk hn => (hb.block k (Nat.lt_of_lt_of_le hk h.size) (by omega)).trans (h.block k hk hn)⟩
theorem But.grown {p : Nat} {w w' w'' : World} {row : Option Nat} (h : But p w w') (hg : w'.grownBy w'' row) (hr : ∀ k, row = some k → w.heap.size ≤ k) : But p w w'' :=
  ⟨hg.os.trans h.os, hg.tape.trans h.tape, hg.output.trans h.output, Nat.le_trans h.size hg.size, fun k hk hn => (hg.block k (Nat.lt_of_lt_of_le hk h.size) (fun e => by have := hr k e.symm; omega)).trans (h.block k hk hn)⟩
theorem Cod.grown {W0 w w' : World} {p : Nat} {c : Cd} {x : Sl} {cs : Array Value} {row : Option Nat} (h : Cod W0 w p c x cs) (hg : w.grownBy w' row) (hr : ∀ k, row = some k → W0.heap.size ≤ k) (hne : some p ≠ row) : Cod W0 w' p c x cs :=
  { h with below := h.below.grown hg h.below.size hr, box := h.box.grown hg hne }
theorem Cod.but {W0 w w' : World} {p q : Nat} {c : Cd} {x : Sl} {cs : Array Value} (h : Cod W0 w p c x cs) (hb : But q w w') (hq : W0.heap.size ≤ q) (hne : p ≠ q) : Cod W0 w' p c x cs :=
  h.grown hb.grownBy (fun k e => by cases e; exact hq) (fun e => hne (Option.some.inj e))
def FprePost (W0 W : World) (p : Nat) (c : Cd) (x : Sl) (cs : Array Value) (e : Ending) (w' : World) : Prop :=
  e = .returned (.tuple #[]) ∧ ∃ (bp : Nat) (V : Nat → Value), W.heap.size ≤ bp ∧ Cod W0 w' p c x (cs.setIfInBounds 118 (.slice (some ⟨bp, 0, none⟩) c.bk.length c.bk.length)) ∧
    PTab w' W.heap.size bp c.bk.length V (fun t => nats (predsOf (succs c) c.bk.length t)) ∧ But p W w'
theorem succs_at {c : Cd} {i : Nat} (h : i < c.bk.length) : succs c i = (edges c.bk[i].en).map fun e => e.to.toNat := by
  unfold succs
  rw [List.getElem?_eq_getElem h]
  rfl
theorem getLast_nats (l : List Nat) : (nats l).getLast? = l.getLast?.map fun k : Nat => (k : Int) := by simp [nats]
theorem edges_le (e : CEn) : (edges e).length ≤ 2 := by
  unfold edges
  by_cases q : e.kind = 1
  · rw [if_pos q]; simp
  · rw [if_neg q]
    by_cases r : e.kind = 2
    · rw [if_pos r]; simp
    · rw [if_neg r]; simp
theorem EdOk.grown {W w w' : World} {m : Nat} {A : Option Addr} {l : List Edge} {row : Option Nat} (h : EdOk W m w A l) (hg : w.grownBy w' row) (hne : ∀ b cs, Box w b 100 cs → some b ≠ row) : EdOk W m w' A l := fun h0 => by
  obtain ⟨b, cs, e, hm, hB, hC⟩ := h h0
  exact ⟨b, cs, e, hm, hB.grown hg (hne b cs hB), hC⟩
theorem Box.type {w : World} {b : Nat} {T T' : TypeId} {cs cs' : Array Value} (h : Box w b T cs) (h' : Box w b T' cs') : T = T' := by
  unfold Box at h h'
  rw [h] at h'
  simp at h'
  exact h'.2
/-- The state within a block. -/
def PreR (c : Cd) (i k : Nat) (R : Nat → List Int) : Prop := ∀ t, R t = nats (preAt (succs c) i k t)
set_option maxRecDepth 100000 in
set_option maxHeartbeats 3200000 in
theorem findPredecessors_any {W0 W : World} {p : Nat} {c : Cd} {x : Sl} {cs : Array Value} (h : Cod W0 W p c x cs) (hn : c.bk.length ≤ 400) (he : EndsP c) :
    Calls Tryz.prog 49 #[.pointer (some ⟨p, 0, none⟩)] W (FprePost W0 W p c x cs) := by
  replace he := Lib.hid he
  obtain ⟨v5, e5, z5⟩ := h.cell 118 (by omega)
  have f5 := h.box.free 118
  have s3 := h.pt.s3
  go_enter Tryz.func49, Tryz.ntmps49
  have mk1 := fun w => mk_rows c.bk.length (by omega) w
  have bA : Below W.heap.size W (W.alloc (.cells (vals (fun _ => .slice none 0 0) c.bk.length) 30)) := (Below.refl _ _).alloc (Nat.le_refl _) _
  have hA := h.later bA
  have NP := Box.new W 30 (vals (fun _ => .slice none 0 0) c.bk.length)
  have y5 := cell_later bA z5
  have g5 := hA.box.free 118
  go_upto_region 1 with fail
  have hpW : p < W.heap.size := h.box.lt
  have hW0 := h.below.size
  have h1 := hA.set 118 (by omega) (.slice (some ⟨W.heap.size, 0, none⟩) c.bk.length c.bk.length)
  replace NP := NP.far (b' := p) (i := 118) (by omega) (.slice (some ⟨W.heap.size, 0, none⟩) c.bk.length c.bk.length)
  have hB1 : But p W ((W.alloc (.cells (vals (fun _ => .slice none 0 0) c.bk.length) 30)).setCell ⟨p, 118, none⟩ (.slice (some ⟨W.heap.size, 0, none⟩) c.bk.length c.bk.length)) := (But.of bA).trans (But.set _)
  obtain ⟨w1, hw1⟩ : ∃ Y, (W.alloc (.cells (vals (fun _ => .slice none 0 0) c.bk.length) 30)).setCell ⟨p, 118, none⟩ (.slice (some ⟨W.heap.size, 0, none⟩) c.bk.length c.bk.length) = Y := ⟨_, rfl⟩
  rw [hw1] at h1 NP hB1
  simp only [hw1]
  clear hw1 mk1 bA hA y5 g5 f5 s3 z5 e5
  have e118 : Hid ((cs.setIfInBounds 118 (.slice (some ⟨W.heap.size, 0, none⟩) c.bk.length c.bk.length))[118]? = some (.slice (some ⟨W.heap.size, 0, none⟩) c.bk.length c.bk.length)) := Lib.hid (by rw [Array.getElem?_setIfInBounds_self_of_lt (by rw [h.sz]; omega)])
  obtain ⟨cs2, hcs2⟩ : ∃ q, Hid (cs.setIfInBounds 118 (.slice (some ⟨W.heap.size, 0, none⟩) c.bk.length c.bk.length) = q) := ⟨_, Lib.hid rfl⟩
  simp only [hcs2.out] at h1 e118
  clear h
  have hP1 : PTab w1 W.heap.size W.heap.size c.bk.length (fun _ => .slice none 0 0) (fun _ => []) := PTab.new NP
  clear NP
  have hR1 : Hid (PreR c 0 0 (fun _ => [])) := Lib.hid (fun t => by rw [preAt_zero]; rfl)
  obtain ⟨B, hB⟩ : ∃ b, Hid (W.heap.size = b) := ⟨_, Lib.hid rfl⟩
  rw [hB.out] at hP1 e118 hpW hW0 hcs2
  simp only [hB.out]
  have s3 := h1.pt.s3
  go_wp2_with fail
  clear s3
  go_loopw [23] (fun v wr => ∃ (i : Nat) (V : Nat → Value) (R : Nat → List Int), i ≤ c.bk.length ∧ v = .int .i64 i ∧ Hid (PreR c i 0 R) ∧ Cod W0 wr p c x cs2 ∧ PTab wr B B c.bk.length V R ∧ But p W wr) (fun v _ => c.bk.length - iOf v)
  case atStart => exact ⟨0, _, _, Nat.zero_le _, rfl, hR1, h1, hP1, hB1⟩
  case round =>
    clear h1 hP1 hB1 hR1
    obtain ⟨i, V, R, hi, rfl, hI, hC, hP, hBw⟩ := hrel
    by_cases hlt : i < c.bk.length
    · obtain ⟨g, o, TA, EA, tc, ec, eK, ⟨c0, c1, c2, c3, c4, c5, c6, c7, c8, c9⟩, hle⟩ := hC.at_.k i hlt
      have hsu := Lib.hid (succs_at hlt)
      have hed := Lib.hid ((he.out _ (List.getElem_mem hlt)).2.2)
      obtain ⟨y, hy⟩ : ∃ t, Hid (c.bk[i] = t) := ⟨_, Lib.hid rfl⟩
      simp only [hy.out] at c0 c1 c2 c3 c4 c5 c6 c7 c8 c9 hsu hed hle
      have d3 : wr.cell? ⟨g, o + i * 10 + 3, none⟩ = some (.int .i64 y.en.a) := c3
      have d4 : wr.cell? ⟨g, o + i * 10 + 4, none⟩ = some (.int .i64 y.en.to) := c4
      have d5 : wr.cell? ⟨g, o + i * 10 + 5, none⟩ = some (.int .i64 y.en.els) := c5
      have d6 : wr.cell? ⟨g, o + i * 10 + 6, none⟩ = some (.slice TA y.en.ta.length tc) := c6
      have d7 : wr.cell? ⟨g, o + i * 10 + 7, none⟩ = some (.slice EA y.en.ea.length ec) := c7
      have d8 : wr.cell? ⟨g, o + i * 10 + 8, none⟩ = some (.int .i64 y.en.n) := c8
      have d9 : wr.cell? ⟨g, o + i * 10 + 9, none⟩ = some (.int .i64 y.en.at_) := c9
      have N0 := Box.new wr 43 #[.int .i64 y.frm, .int .i64 y.til, .int .i64 y.en.kind, .int .i64 y.en.a, .int .i64 y.en.to, .int .i64 y.en.els, .slice TA y.en.ta.length tc, .slice EA y.en.ea.length ec, .int .i64 y.en.n, .int .i64 y.en.at_]
      have bN : Below wr.heap.size wr (wr.alloc (.cells #[.int .i64 y.frm, .int .i64 y.til, .int .i64 y.en.kind, .int .i64 y.en.a, .int .i64 y.en.to, .int .i64 y.en.els, .slice TA y.en.ta.length tc, .slice EA y.en.ea.length ec, .int .i64 y.en.n, .int .i64 y.en.at_] 43)) := (Below.refl _ _).alloc (Nat.le_refl _) _
      have hlc : (i : Int) < c.bk.length := by omega
      have hwi : IntKind.i64.wrap ((i : Int) + 1) = ((i + 1 : Nat) : Int) := by rw [IntWalk.i64_in _ (by omega)]; omega
      have hC2 := hC.later bN
      have hP2 := hP.later bN
      have hB2 := hBw.below' bN
      have hle2 := Lib.hid (hle.later bN)
      go_upto_region 4 with fail
      obtain ⟨w3, hw3⟩ : ∃ Y, wr.alloc (.cells #[.int .i64 y.frm, .int .i64 y.til, .int .i64 y.en.kind, .int .i64 y.en.a, .int .i64 y.en.to, .int .i64 y.en.els, .slice TA y.en.ta.length tc, .slice EA y.en.ea.length ec, .int .i64 y.en.n, .int .i64 y.en.at_] 43) = Y := ⟨_, rfl⟩
      rw [hw3] at N0 hC2 hP2 hB2 hle2
      simp only [hw3]
      clear hw3 bN c0 c1 c2 c3 c4 c5 c6 c7 c8 c9 d3 d4 d5 d6 d7 d8 d9 hle eK hC hP hBw
      have n2 := N0.cell 2
      have n3 := N0.cell 3
      have n4 := N0.cell 4
      have n5 := N0.cell 5
      have n6 := N0.cell 6
      have n7 := N0.cell 7
      have n8 := N0.cell 8
      have n9 := N0.cell 9
      go_wp2_with fail
      refine (edgesOf_any2 y.en TA EA tc ec hle2.out).mono ?_
      rintro r w4 ⟨A, cc, rfl, l1, l2, hEd, B4⟩
      have hC4 := hC2.later B4
      have hP4 := hP2.later B4
      have hB4 := hB2.below' B4
      clear n2 n3 n4 n5 n6 n7 n8 n9 N0 hC2 hP2 hB2 B4 hle2
      have h2 := edges_le y.en
      obtain ⟨es, hes⟩ : ∃ q, Hid (edges y.en = q) := ⟨_, Lib.hid rfl⟩
      rw [hes.out] at hEd l1 h2 hsu hed
      simp only [hes.out]
      unfold maxLen at l2
      clear hes hy
      go_wp2_with fail
      go_loopw [32] (fun v wq => ∃ (k : Nat) (V : Nat → Value) (R : Nat → List Int), k ≤ es.length ∧ v = .int .i64 k ∧ Hid (PreR c i k R) ∧ Cod W0 wq p c x cs2 ∧ PTab wq B B c.bk.length V R ∧ But p W wq ∧ EdOk w3 w3.heap.size wq A es) (fun v _ => es.length - iOf v)
      case atStart => exact ⟨0, _, _, Nat.zero_le _, rfl, hI, hC4, hP4, hB4, hEd⟩
      case round =>
        clear hI hC4 hP4 hB4 hEd
        obtain ⟨k, V, R, hk, rfl, hI, hC, hP, hBw, hE⟩ := hrel
        by_cases hkl : k < es.length
        · obtain ⟨bE, csE, eA, hm, hX, hCs⟩ := hE (by omega)
          obtain ⟨TB, tb, k0, k1, k2, k3, k4, k5⟩ := hCs k hkl
          obtain ⟨q1, q2, q3, _⟩ := hed.out _ (List.getElem_mem hkl)
          have hsk : (succs c i)[k]? = some es[k].to.toNat := by rw [hsu.out]; simp [hkl]
          have hks : k < (succs c i).length := by rw [hsu.out]; simpa using hkl
          obtain ⟨t, ht⟩ : ∃ t : Nat, es[k].to = t := ⟨es[k].to.toNat, by omega⟩
          rw [ht] at k0 q2 hsk
          have htn : t < c.bk.length := by simpa using q2
          have hst : (succs c i)[k] = t := by rw [List.getElem?_eq_getElem hks] at hsk; simpa using hsk
          obtain ⟨z, hz⟩ : ∃ z, Hid (es[k].args = z) := ⟨_, Lib.hid rfl⟩
          rw [hz.out] at k1 k2
          have d0 : wr.cell? ⟨bE, k * 2, none⟩ = some (.int .i64 (t : Nat)) := by rw [hX.cell]; exact k0
          have d1 : wr.cell? ⟨bE, k * 2 + 1, none⟩ = some (.slice TB z.length tb) := by rw [hX.cell]; exact k1
          have hltc : (k : Int) < es.length := by omega
          have hwk : IntKind.i64.wrap ((k : Int) + 1) = ((k + 1 : Nat) : Int) := by rw [IntWalk.i64_in _ (by omega)]; omega
          have N5 := Box.new wr 100 #[.int .i64 (t : Nat), .slice TB z.length tb]
          have bN : Below wr.heap.size wr (wr.alloc (.cells #[.int .i64 (t : Nat), .slice TB z.length tb] 100)) := (Below.refl _ _).alloc (Nat.le_refl _) _
          have hC5 := hC.later bN
          have hP5 := hP.later bN
          have hB5 := hBw.below' bN
          have hE5 := hE.later bN
          have eA2 := Lib.hid eA
          clear hE k5 k3 k4 hCs hX q1 q2 q3 k0 k1 k2 hsk
          go_upto_region 7 with fail
          try simp only [← eA]
          clear eA d0 d1 hm
          obtain ⟨bn, hbn⟩ : ∃ b, Hid (wr.heap.size = b) := ⟨_, Lib.hid rfl⟩
          obtain ⟨w5, hw5⟩ : ∃ Y, wr.alloc (.cells #[.int .i64 (t : Nat), .slice TB z.length tb] 100) = Y := ⟨_, rfl⟩
          rw [hw5] at N5 hC5 hP5 hB5 hE5
          rw [hbn.out] at N5
          simp only [hw5, hbn.out]
          clear hw5 bN hC hP hBw
          have n0 := N5.cell 0
          have r118 : w5.cell? ⟨p, 118, none⟩ = some (.slice (some ⟨B, 0, none⟩) c.bk.length c.bk.length) := by rw [hC5.box.cell]; exact e118.out
          have ho := hP5.own t htn
          have rt : w5.cell? ⟨B, t, none⟩ = some (V t) := by rw [hP5.box.cell]; exact vals_get _ htn
          obtain ⟨r, hr⟩ : ∃ r, Hid (R t = r) := ⟨_, Lib.hid rfl⟩
          have hRt : Hid (r = nats (preAt (succs c) i k t)) := Lib.hid (by rw [← hr.out]; exact hI.out t)
          rw [hr.out] at ho
          obtain ⟨A', c', hV, lV1, lV2, hRow⟩ := ho.read
          have hlen : r.length ≤ 401 := by rw [hRt.out]; have := preAt_len (s := succs c) (i := i) (k := k) (t := t); simp; omega
          rw [hV] at rt ho
          have hVo : Hid ((V t).ownBlock = (Value.slice A' r.length c').ownBlock) := Lib.hid (by rw [hV])
          replace hV := Lib.hid hV
          have htc : (t : Int) < c.bk.length := by omega
          unfold maxLen at lV2
          go_wp2_with fail
          go_quiet (fail)
          clear n0 r118 rt
          obtain ⟨w6, hw6⟩ : ∃ Y, w5.drewN nq = Y := ⟨_, rfl⟩
          have D6 : Below w5.heap.size w5 w6 := by rw [← hw6]; exact Drew.below ⟨nq, rfl⟩
          have hC6 := hC5.later D6
          have hP6 := hP5.later D6
          have hB6 := hB5.below' D6
          have hE6 := hE5.later D6
          have N6 := N5.below D6
          have ho6 := ho.later D6
          have hRow6 := hRow.later D6
          simp only [hw6]
          clear hw6 D6 hC5 hP5 hB5 hE5 N5 ho hRow
          by_cases hq : (preAt (succs c) i k t).getLast? = some i
          · have hsame := Lib.hid (preAt_same (k := k) hks (by rw [hst]; exact hq))
            have hla : r.getLast? = some (i : Int) := by rw [hRt.out, getLast_nats, hq]; rfl
            have hm0 : 0 < r.length := by cases r with | nil => simp at hla | cons => simp
            have g0 : (((r.length : Nat) : Int) == 0) = false := by
              have : ((r.length : Nat) : Int) ≠ 0 := by omega
              simpa using this
            obtain ⟨gA, oA, rfl, cA⟩ := hRow6 (r.length - 1) (by omega)
            have hl2 : r[r.length - 1] = (i : Int) := by
              rw [List.getLast?_eq_getElem?, List.getElem?_eq_getElem (by omega)] at hla
              exact Option.some.inj hla
            rw [hl2] at cA
            have hw1 : IntKind.i64.wrap (((r.length : Nat) : Int) - 1) = ((r.length - 1 : Nat) : Int) := by rw [IntWalk.i64_in _ (by omega)]; omega
            have hlt1 : ((r.length - 1 : Nat) : Int) < r.length := by omega
            have hRn : Hid (PreR c i (k + 1) R) := Lib.hid (fun u => by rw [hsame.out u]; exact hI.out u)
            clear hq hsame hla hl2 hI
            go_wp2_with fail
            go_roundw
            case rel => exact ⟨k + 1, V, R, hkl, by go_num, hRn, hC6, hP6, hB6, hE6⟩
            case measure => simp only [iOf]; omega
          · have hRn : Hid (PreR c i (k + 1) (fun u => if u = t then r ++ [(i : Int)] else R u)) := Lib.hid (fun u => by
              show (if u = t then r ++ [(i : Int)] else R u) = _
              by_cases e : u = t
              · subst e
                rw [if_pos rfl, hRt.out]
                have := preAt_new (k := k) hks (by rw [hst]; exact hq)
                rw [hst] at this
                rw [this]
                simp
              · rw [if_neg e, preAt_other hks (by rw [hst]; exact e)]
                exact hI.out u)
            have hla : r.getLast? ≠ some (i : Int) := by
              rw [hRt.out, getLast_nats]
              intro e
              obtain ⟨q, h3, h4⟩ := Option.map_eq_some_iff.1 e
              have h5 : q = i := by omega
              rw [h5] at h3
              exact hq h3
            have n0 := N6.cell 0
            have r118 : w6.cell? ⟨p, 118, none⟩ = some (.slice (some ⟨B, 0, none⟩) c.bk.length c.bk.length) := by rw [hC6.box.cell]; exact e118.out
            have bY : Below w6.heap.size w6 (w6.drew.alloc (.cells #[.int .i64 i] 3)) := ((Drew.below ⟨1, rfl⟩ : Below w6.heap.size w6 w6.drew)).alloc (Nat.le_refl _) _
            have hCY := hC6.later bY
            have hPY := hP6.later bY
            have hBY := hB6.below' bY
            have hEY := hE6.later bY
            have NY := N6.below bY
            have hoY := ho6.later bY
            have hY := heap_alloc_new w6.drew (.cells #[.int .i64 i] 3)
            have q1 := hC6.box.lt
            have q2 := N6.lt
            have q3 := hP6.box.lt
            clear hq hI
            by_cases hm0 : r.length = 0
            case' pos =>
              have g0 : (((r.length : Nat) : Int) == 0) = true := by rw [hm0]; rfl
              clear hm0
              go_wp2_with fail
              clear g0
            case' neg =>
              have g0 : (((r.length : Nat) : Int) == 0) = false := by
                have : ((r.length : Nat) : Int) ≠ 0 := by omega
                simpa using this
              obtain ⟨gA, oA, eA1, cA⟩ := hRow6 (r.length - 1) (by omega)
              have hl2 : (r[r.length - 1] != (i : Int)) = true := by
                rw [List.getLast?_eq_getElem?, List.getElem?_eq_getElem (by omega)] at hla
                simpa using hla
              obtain ⟨rl, hrl⟩ : ∃ q, Hid (r[r.length - 1] = q) := ⟨_, Lib.hid rfl⟩
              rw [hrl.out] at cA hl2
              have hw1 : IntKind.i64.wrap (((r.length : Nat) : Int) - 1) = ((r.length - 1 : Nat) : Int) := by rw [IntWalk.i64_in _ (by omega)]; omega
              have hlt1 : ((r.length - 1 : Nat) : Int) < r.length := by omega
              go_wp2_with fail
              try simp only [← eA1]
              clear g0 cA hl2 hw1 hlt1 hrl eA1
            all_goals
              clear hla
              go_region_held3 (fun w' => w'.cell? ⟨p, 118, none⟩ = some (.slice (some ⟨B, 0, none⟩) c.bk.length c.bk.length) ∧ w'.cell? ⟨bn, 0, none⟩ = some (.int .i64 (t : Nat))) (first | go_keep | exact ⟨rA, nA⟩ | exact ⟨rB, nB⟩)
                ((refine step_append_lies _ rfl (.tmp 63) (.tmp 65) 30 rfl B 3 Tryz.t3 (.int .i64 0) 1 8 Tryz.underlying30 (by kernel_rfl) (by kernel_rfl) rfl rfl rfl (by decide) (Value.slice A' r.length c') r.length (r.map fun k => Value.int .i64 k) (by rfl) hoY ⟨w6.heap.size, 0, none⟩ 1 1 [.int .i64 i] (by rfl) rfl (by exact World.news_of_block hY) (by simp [Value.oneCell']) (by decide) (by unfold maxLen; omega) (by omega) (by simp; omega) (w6.heap.size + 1) (by simp) ?_; intro g2 cap wA o2 gr p2 z2; rw [← hVo.out] at gr p2; have bA := hPY.box.grown gr ((hPY.own t htn).ne hPY.box (by decide)); have kA := (bA.cell t).trans (vals_get _ htn); rw [hV.out] at kA; have fA := bA.free t; have CA := hCY.grown gr (fun q e => Nat.le_trans hW0 (((hPY.own t htn).lt q e).1)) (fun e => by have := ((hPY.own t htn).lt p e.symm).1; omega); have rA : wA.cell? ⟨p, 118, none⟩ = some (.slice (some ⟨B, 0, none⟩) c.bk.length c.bk.length) := (by rw [CA.box.cell]; exact e118.out); have NA := NY.grown gr ((hPY.own t htn).ne NY (by decide)); have nA := NA.cell 0; have C7 := CA.far (b := B) (i := t) hW0 (by omega) (.slice (some ⟨g2, 0, none⟩) (r.length + 1) cap); have N7 := NA.far (b' := B) (i := t) (by intro e; rw [e] at NA; exact absurd (NA.type bA) (by decide)) (.slice (some ⟨g2, 0, none⟩) (r.length + 1) cap); have nB := N7.cell 0; have rB : (wA.setCell ⟨B, t, none⟩ (.slice (some ⟨g2, 0, none⟩) (r.length + 1) cap)).cell? ⟨p, 118, none⟩ = some (.slice (some ⟨B, 0, none⟩) c.bk.length c.bk.length) := (by rw [C7.box.cell]; exact e118.out)))
              all_goals
                have o3 : IOwn wA B (.slice (some ⟨g2, 0, none⟩) (r.length + 1) cap) (r ++ [(i : Int)]) := by
                  unfold IOwn
                  rw [List.length_append, List.map_append]
                  exact o2
                have P7 := hPY.step htn o3 gr (by simpa using p2)
                have B7 : But p W (wA.setCell ⟨B, t, none⟩ (.slice (some ⟨g2, 0, none⟩) (r.length + 1) cap)) := (hBY.grown gr (fun q e => by rw [hB.out]; exact ((hPY.own t htn).lt q e).1)).own (q := B) (by rw [hB.out]; exact Nat.le_refl _) (But.set _)
                have E7 := (hEY.grown gr (fun b cs hb => (hPY.own t htn).ne hb (by decide))).grown (But.set (p := B) (i := t) (.slice (some ⟨g2, 0, none⟩) (r.length + 1) cap)).grownBy (fun b cs hb e => by cases e; exact absurd (hb.type bA) (by decide))
                clear o2 gr p2 z2 kA fA CA rA NA nA N7 nB rB o3 hCY hPY hBY hEY NY hoY hY bA n0 r118
                go_wp2_with fail
                go_roundw
                case rel => exact ⟨k + 1, _, _, hkl, by go_num, hRn, C7, P7, B7, E7⟩
                case measure => simp only [iOf]; omega
        · have hO : Hid (PreR c (i + 1) 0 R) := Lib.hid (fun t => by rw [hI.out t, preAt_end (by rw [hsu.out]; simp; omega)])
          clear hI
          go_wp2_with fail
          go_roundw
          case rel => exact ⟨i + 1, V, R, hlt, by go_num, hO, hC, hP, hBw⟩
          case measure => simp only [iOf]; omega
    · have hie : i = c.bk.length := by omega
      subst hie
      go_wp2
      refine ⟨rfl, _, results_none rfl _ _ _, ?_⟩
      exact ⟨rfl, B, V, by rw [hB.out]; omega, by rw [hcs2.out]; exact hC, hB.out ▸ hP.congr (fun t _ => by rw [hI.out t, preAt_start]), hBw⟩
end Go.Proofs.YtnbgadndkepomaaGreatDoor
