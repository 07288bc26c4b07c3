/- ssa: which blocks dominate each block. -/
import Derived.Test.YtnbgadndkepomaaGreatDoorSQG
import Derived.Test.YtnbgadndkepomaaGreatDoorSaFo
import Derived.Test.YtnbgadndkepomaaGreatDoorSQH
namespace Go.Proofs.YtnbgadndkepomaaGreatDoor
open Go.RowKit

/-- What holds within a round: the sets at its start, and those before the k-th block of it. -/
structure Rnd (s : Nat → List Nat) (n : Nat) (pr : Nat → List Nat) (o : List Nat) (D0 D : List Bs) (ch : Bool) (k : Nat) : Prop where
  doms : Doms s n pr D
  le : totalS D ≤ totalS D0
  lt : ch = true → totalS D < totalS D0
  same : ch = false → D = D0 ∧ ∀ (j : Nat) (h : j < o.length), j < k → newS D0 (pr o[j]) o[j] = D0.getD o[j] noneS
theorem Rnd.start {s : Nat → List Nat} {n : Nat} {pr : Nat → List Nat} {o : List Nat} {D : List Bs} (h : Doms s n pr D) : Rnd s n pr o D D false 0 :=
  ⟨h, Nat.le_refl _, fun e => by simp at e, fun _ => ⟨rfl, fun j _ hj => by omega⟩⟩
theorem Rnd.step {s : Nat → List Nat} {n : Nat} {pr : Nat → List Nat} {o : List Nat} {D0 D : List Bs} {ch : Bool} {k : Nat} (h : Rnd s n pr o D0 D ch k) (hn : n ≤ 400) (hp : ∀ b p, b < n → (p ∈ pr b ↔ p < n ∧ b ∈ s p)) (hk : k < o.length) (h0 : 0 < o[k]) (hb : o[k] < n) :
    Rnd s n pr o D0 (D.set o[k] (newS D (pr o[k]) o[k])) (ch || decide (newS D (pr o[k]) o[k] ≠ D.getD o[k] noneS)) (k + 1) := by
  obtain ⟨h1, h2, h3⟩ := h.doms.step hn hp h0 hb
  refine ⟨h1, Nat.le_trans h2 h.le, fun e => ?_, fun e => ?_⟩
  · rw [Bool.or_eq_true, decide_eq_true_eq] at e
    rcases e with e | e
    · have := h.lt e; omega
    · have := h3 e; have := h.le; omega
  · rw [Bool.or_eq_false_iff, decide_eq_false_iff_not, Classical.not_not] at e
    obtain ⟨e1, e2⟩ := e
    obtain ⟨e3, e4⟩ := h.same e1
    subst e3
    refine ⟨?_, fun j hj hjk => ?_⟩
    · rw [e2]
      have hl : o[k] < D.length := by rw [h.doms.len]; exact hb
      rw [gd_lt _ hl]
      exact List.set_getElem_self hl
    · by_cases q : j = k
      · subst q; exact e2
      · exact e4 j hj (by omega)
theorem IRow.but {w w' : World} {g o p : Nat} {l : List Int} (h : IRow w (some ⟨g, o, none⟩) l) (hb : But p w w') (hn : g ≠ p) : IRow w' (some ⟨g, o, none⟩) l := fun i hi => by
  obtain ⟨g', o', e, hc⟩ := h i hi
  injection e with e
  injection e with e1 e2 _
  subst e1 e2
  exact ⟨g, o, rfl, hb.cell hc hn⟩
theorem PTab.but {w w' : World} {B bp n p : Nat} {V : Nat → Value} {R : Nat → List Int} {T : TypeId} {cs : Array Value} (h : PTab w B bp n V R) (hb : But p w w') (hp : Box w p T cs) (h1 : T ≠ 3) (h2 : T ≠ 30) : PTab w' B bp n V R :=
  ⟨h.box.grown hb.grownBy (fun e => by cases e; exact h2 (hp.type h.box)), fun t ht => (h.own t ht).but hb ((h.own t ht).ne hp h1), h.far⟩
theorem IOwn.row {w : World} {B : Nat} {A : Option Addr} {n c : Nat} {l : List Int} (h : IOwn w B (.slice A n c) l) : IRow w A l := by
  obtain ⟨A', c', e, _, _, h4⟩ := h.read
  injection e with e _ _
  subst e
  exact h4
def chN : Value → Nat
  | .bool true => 1
  | _ => 0
def DoPost (W0 W : World) (p : Nat) (c : Cd) (x : Sl) (cs : Array Value) (e : Ending) (w' : World) : Prop :=
  e = .returned (.tuple #[]) ∧ ∃ (bd : Nat) (D : List Bs), W.heap.size ≤ bd ∧ Cod W0 w' p c x (cs.setIfInBounds 119 (.slice (some ⟨bd, 0, none⟩) c.bk.length c.bk.length)) ∧
    Box w' bd 108 (u64s D.flatten) ∧ okD D ∧ D.length = c.bk.length ∧ (∀ b h, b < c.bk.length → h < c.bk.length → (hasS (D.getD b noneS) h = true ↔ Dom (succs c) h b)) ∧ But p W w'
theorem allBlocks_is {W : World} : Calls Tryz.prog 99 #[] W fun e w' => e = .returned (.agg #[.int .u64 18446744073709551615, .int .u64 18446744073709551615, .int .u64 18446744073709551615, .int .u64 18446744073709551615, .int .u64 18446744073709551615, .int .u64 18446744073709551615, .int .u64 18446744073709551615]) ∧ Below W.heap.size W w' := allBlocks_any
set_option maxRecDepth 100000 in
set_option maxHeartbeats 3200000 in
theorem findDominators_any {W0 W : World} {p : Nat} {c : Cd} {x : Sl} {cs : Array Value} (h : Cod W0 W p c x cs) (h0 : 0 < c.bk.length) (hn : c.bk.length ≤ 400) (he : EndsP c) (hr : ReachP c)
    {og oq pb B : Nat} {ord : List Nat} {V : Nat → Value} (h117 : cs[117]? = some (.slice (some ⟨og, 0, none⟩) (nats (0 :: ord)).length oq)) (hoq : (nats (0 :: ord)).length ≤ oq ∧ oq ≤ maxLen) (hord : IRow W (some ⟨og, 0, none⟩) (nats (0 :: ord)))
    (hin : ∀ b, b ∈ ord ↔ 0 < b ∧ b < c.bk.length) (hon : ord.length ≤ 400) (h118 : cs[118]? = some (.slice (some ⟨pb, 0, none⟩) c.bk.length c.bk.length)) (hpt : PTab W B pb c.bk.length V (fun t => nats (predsOf (succs c) c.bk.length t))) (hog : og ≠ p) :
    Calls Tryz.prog 50 #[.pointer (some ⟨p, 0, none⟩)] W (DoPost W0 W p c x cs) := by
  obtain ⟨v6, e6, z6⟩ := h.cell 119 (by omega)
  have f6 := h.box.free 119
  have s3 := h.pt.s3
  have hpW := h.box.lt
  have hW0 := h.below.size
  go_enter Tryz.func50, Tryz.ntmps50
  have hq0 := Bel.refl W
  have hs3 : ∀ X, Bel W X → X.cell? ⟨p, 3, none⟩ = some (.slice x.K c.bk.length x.kc) := fun X hX => hX.cell s3
  have hc6 : ∀ X, Bel W X → X.cell? ⟨p, 119, none⟩ = some v6 := fun X hX => hX.cell z6
  go_wp2_with fail
  go_region_held3 (fun w' => w'.cell? ⟨p, 3, none⟩ = some (.slice x.K c.bk.length x.kc))
    (first | assumption | (refine hs3 _ ?_; repeat (first | assumption | exact hq0 | refine Bel.drew ?_ | refine Bel.alloc ?_ _)) | exact hs9)
    (first
      | (go_at_call 99; refine allBlocks_is.mono ?_; rintro e w5 ⟨rfl, b5⟩; have hS5 := (Bel.drew hq0).below b5)
      | (go_at_call 98; refine (Repeat_any allS okS_all w5.heap.size 1 c.bk.length (heap_alloc_new w5 _) h0 hn).mono ?_; rintro e w6 ⟨bd, rfl, hbd, Bd, b6⟩; have hS6 : Bel W w6 := Bel.below (Bel.alloc hS5 _) b6; have k6 := hc6 _ hS6; have C6 := h.later (show Below W.heap.size W w6 from hS6); have f9 := C6.box.free 119; have C7 := C6.set 119 (by omega) (.slice (some ⟨bd, 0, none⟩) c.bk.length c.bk.length); have hs9 := C7.pt.s3))
  have hpbd : p ≠ bd := by
    have h1 := hS6.size
    have h2 : w5.heap.size ≤ bd := by simp at hbd; omega
    have := hS5.size
    omega
  have hbdW : W.heap.size ≤ bd := by
    have h2 : w5.heap.size ≤ bd := by simp at hbd; omega
    exact Nat.le_trans hS5.size h2
  have B7 : But p W (w6.setCell ⟨p, 119, none⟩ (.slice (some ⟨bd, 0, none⟩) c.bk.length c.bk.length)) := (But.of (show Below W.heap.size W w6 from hS6)).trans (But.set _)
  have X7 := Bd.far (b' := p) (i := 119) (fun e => hpbd e.symm) (.slice (some ⟨bd, 0, none⟩) c.bk.length c.bk.length)
  obtain ⟨w7, hw7⟩ : ∃ Y, w6.setCell ⟨p, 119, none⟩ (.slice (some ⟨bd, 0, none⟩) c.bk.length c.bk.length) = Y := ⟨_, rfl⟩
  rw [hw7] at B7 X7 C7
  simp only [hw7]
  have e119 : Hid ((cs.setIfInBounds 119 (.slice (some ⟨bd, 0, none⟩) c.bk.length c.bk.length))[119]? = some (.slice (some ⟨bd, 0, none⟩) c.bk.length c.bk.length)) := Lib.hid (by rw [Array.getElem?_setIfInBounds_self_of_lt (by rw [h.sz]; omega)])
  have e117 : Hid ((cs.setIfInBounds 119 (.slice (some ⟨bd, 0, none⟩) c.bk.length c.bk.length))[117]? = some (.slice (some ⟨og, 0, none⟩) (nats (0 :: ord)).length oq)) := Lib.hid (by rw [Array.getElem?_setIfInBounds_ne (by omega)]; exact h117)
  have e118 : Hid ((cs.setIfInBounds 119 (.slice (some ⟨bd, 0, none⟩) c.bk.length c.bk.length))[118]? = some (.slice (some ⟨pb, 0, none⟩) c.bk.length c.bk.length)) := Lib.hid (by rw [Array.getElem?_setIfInBounds_ne (by omega)]; exact h118)
  obtain ⟨cs2, hcs2⟩ : ∃ q, Hid (cs.setIfInBounds 119 (.slice (some ⟨bd, 0, none⟩) c.bk.length c.bk.length) = q) := ⟨_, Lib.hid rfl⟩
  rw [hcs2.out] at C7 e119 e117 e118
  clear hw7 hs9 f9 C6 k6 hS6 b6 Bd hbd hS5 b5 hc6 hs3 hq0 s3 f6 z6 e6 h117 h118
  have hbx := Lib.hid h.box
  clear h
  have k119 : w7.cell? ⟨p, 119, none⟩ = some (.slice (some ⟨bd, 0, none⟩) c.bk.length c.bk.length) := by rw [C7.box.cell]; exact e119.out
  have l7 : len7 (List.replicate c.bk.length allS) := fun s hs => by rw [(List.mem_replicate.1 hs).2]; rfl
  have hfl := flat_len l7
  rw [List.length_replicate] at hfl
  have d0 := (X7.cell 0).trans (u64s_get _ 0 (by omega))
  have d1 := (X7.cell 1).trans (u64s_get _ 1 (by omega))
  have d2 := (X7.cell 2).trans (u64s_get _ 2 (by omega))
  have d3 := (X7.cell 3).trans (u64s_get _ 3 (by omega))
  have d4 := (X7.cell 4).trans (u64s_get _ 4 (by omega))
  have d5 := (X7.cell 5).trans (u64s_get _ 5 (by omega))
  have d6 := (X7.cell 6).trans (u64s_get _ 6 (by omega))
  have f0 := X7.free 0
  have f1 := X7.free 1
  have f2 := X7.free 2
  have f3 := X7.free 3
  have f4 := X7.free 4
  have f5 := X7.free 5
  have f6 := X7.free 6
  have h0c : (0 : Int) < c.bk.length := by omega
  go_upto_region 2 with fail
  have X8 : Box (((((((w7.setCell ⟨bd, 0, none⟩ (.int .u64 0)).setCell ⟨bd, 1, none⟩ (.int .u64 0)).setCell ⟨bd, 2, none⟩ (.int .u64 0)).setCell ⟨bd, 3, none⟩ (.int .u64 0)).setCell ⟨bd, 4, none⟩ (.int .u64 0)).setCell ⟨bd, 5, none⟩ (.int .u64 0)).setCell ⟨bd, 6, none⟩ (.int .u64 0)) bd 108 (u64s ((List.replicate c.bk.length allS).set 0 noneS).flatten) := (set_seven l7 (e := 0) (by simpa using h0) 0 0 0 0 0 0 0) ▸ (((((((X7.set (0) (.int .u64 0)).set (1) (.int .u64 0)).set (2) (.int .u64 0)).set (3) (.int .u64 0)).set (4) (.int .u64 0)).set (5) (.int .u64 0)).set (6) (.int .u64 0))
  have b8 : But bd w7 (((((((w7.setCell ⟨bd, 0, none⟩ (.int .u64 0)).setCell ⟨bd, 1, none⟩ (.int .u64 0)).setCell ⟨bd, 2, none⟩ (.int .u64 0)).setCell ⟨bd, 3, none⟩ (.int .u64 0)).setCell ⟨bd, 4, none⟩ (.int .u64 0)).setCell ⟨bd, 5, none⟩ (.int .u64 0)).setCell ⟨bd, 6, none⟩ (.int .u64 0)) := (((((((But.set _).trans (But.set _)).trans (But.set _)).trans (But.set _)).trans (But.set _)).trans (But.set _)).trans (But.set _))
  have C8 := C7.but b8 (Nat.le_trans hW0 hbdW) hpbd
  have B8 := B7.own hbdW b8
  obtain ⟨w8, hw8⟩ : ∃ Y, (((((((w7.setCell ⟨bd, 0, none⟩ (.int .u64 0)).setCell ⟨bd, 1, none⟩ (.int .u64 0)).setCell ⟨bd, 2, none⟩ (.int .u64 0)).setCell ⟨bd, 3, none⟩ (.int .u64 0)).setCell ⟨bd, 4, none⟩ (.int .u64 0)).setCell ⟨bd, 5, none⟩ (.int .u64 0)).setCell ⟨bd, 6, none⟩ (.int .u64 0)) = Y := ⟨_, rfl⟩
  rw [hw8] at X8 C8 B8
  simp only [hw8]
  clear hw8 b8 X7 C7 B7 d0 d1 d2 d3 d4 d5 d6 f0 f1 f2 f3 f4 f5 f6 k119
  have k119 : w8.cell? ⟨p, 119, none⟩ = some (.slice (some ⟨bd, 0, none⟩) c.bk.length c.bk.length) := by rw [C8.box.cell]; exact e119.out
  have l8 : len7 ((List.replicate c.bk.length allS).set 0 noneS) := len7_set l7 0 rfl
  have hz8 : (u64s ((List.replicate c.bk.length allS).set 0 noneS).flatten)[0 / 64]? = some (.int .u64 ((0 : Nat) : Int)) := by
    rw [u64s_get _ _ (by rw [flat_len l8]; simp; omega)]
    have e := flat_get l8 0 0 (by simpa using h0) (by omega)
    rw [show (0 * 7 + 0) = 0 / 64 from rfl] at e
    rw [e, getD_set_self (by simpa using h0)]
    rfl
  have hadd := add_any X8 0 0 (by omega) hz8 (by omega)
  replace hadd := Lib.hid hadd
  clear hz8
  go_wp2_with fail
  refine hadd.out.mono ?_
  rintro e w9 ⟨rfl, X9, b9⟩
  have C9 := C8.but b9 (Nat.le_trans hW0 hbdW) hpbd
  have B9 := B8.own hbdW b9
  have e9 : ((List.replicate c.bk.length allS).set 0 noneS).set 0 ((((List.replicate c.bk.length allS).set 0 noneS).getD 0 noneS).set 0 (0 ||| 2 ^ (0 % 64))) = startD c.bk.length := by
    rw [getD_set_self (by simpa using h0), List.set_set]
    rfl
  have X9' : Box w9 bd 108 (u64s (startD c.bk.length).flatten) := by
    have := set_one l8 (e := 0) (k := 0) (by simpa using h0) (by omega) (0 ||| 2 ^ (0 % 64))
    rw [e9] at this
    rw [← this]
    exact X9
  clear hadd X8 C8 B8 X9 b9 e9 k119 l8 hfl l7
  have hsucc : Hid (∀ b t, b < c.bk.length → t ∈ succs c b → 0 < t ∧ t < c.bk.length) := Lib.hid (fun b t _ ht => by have := succ_lt he ht; omega)
  have hprd : Hid (∀ b q, b < c.bk.length → (q ∈ predsOf (succs c) c.bk.length b ↔ q < c.bk.length ∧ b ∈ succs c q)) := Lib.hid (fun b q _ => mem_predsOf)
  have hD9 : Hid (Doms (succs c) c.bk.length (fun b => predsOf (succs c) c.bk.length b) (startD c.bk.length)) := Lib.hid (start_doms (succs c) h0 _)
  replace he := Lib.hid he
  replace hr := Lib.hid hr
  replace hin := Lib.hid hin
  have hl1 : (nats (0 :: ord)).length = ord.length + 1 := by simp
  rw [hl1] at hoq e117
  obtain ⟨hoq1, hoq2⟩ := hoq
  unfold maxLen at hoq2
  replace hl1 := Lib.hid hl1
  generalize startD c.bk.length = D9 at X9' hD9
  go_wp2_with fail
  go_loopw [2] (fun f wr => ∃ (ch : Bool) (D : List Bs), f = .bool ch ∧ Hid (Doms (succs c) c.bk.length (fun b => predsOf (succs c) c.bk.length b) D) ∧ Hid (ch = false → ∀ b, 0 < b → b < c.bk.length → newS D (predsOf (succs c) c.bk.length b) b = D.getD b noneS) ∧ Box wr bd 108 (u64s D.flatten) ∧ Cod W0 wr p c x cs2 ∧ But p W wr) (fun f wr => 2 * sumAt wr bd + chN f)
  case atStart => exact ⟨true, D9, rfl, hD9, Lib.hid (fun e => by simp at e), X9', C9, B9⟩
  case round =>
    rename_i wr
    clear hD9 X9' C9 B9
    obtain ⟨ch, D, rfl, hD, hF, hX, hC, hB⟩ := hrel
    cases ch with
    | false =>
      go_wp2_with fail
      refine ⟨rfl, _, results_none rfl _ _ _, ?_⟩
      exact ⟨rfl, bd, D, hbdW, by rw [hcs2.out]; exact hC, hX, hD.out.ok, hD.out.len, fun b q hb hq => hD.out.done hn hprd.out hsucc.out h0 (hF.out (by first | exact trivial | rfl)) hb hq, hB⟩
    | true =>
      clear hF
      have k117 : wr.cell? ⟨p, 117, none⟩ = some (.slice (some ⟨og, 0, none⟩) (ord.length + 1) oq) := by rw [hC.box.cell]; exact e117.out
      have hl2 : ((1 : Nat) : Int) ≤ (ord.length + 1 : Nat) := by omega
      go_upto_region 7 with fail
      case' inl =>
        replace h := Lib.hid h
        have hrow : Hid (∀ X, But p W X → IRow X (some ⟨og, 0, none⟩) (nats ord)) := Lib.hid (fun X _ i hi => by
          have h1 := h.out
          have h2 : (nats ord).length = ord.length := by simp
          omega)
        obtain ⟨A1, hA1⟩ : ∃ A, (some (⟨og, 0, none⟩ : Addr)) = A := ⟨_, rfl⟩
        rw [hA1] at hrow
        simp only [hA1]
        clear hA1 k117
      case' inr =>
        clear h
        have hrow : Hid (∀ X, But p W X → IRow X (some ⟨og, 1, none⟩) (nats ord)) := Lib.hid (fun X hX i hi => by
          obtain ⟨g, o, e, hc⟩ := (hord.but hX hog) (i + 1) (by simp at hi ⊢; exact hi)
          injection e with e
          injection e with e1 e2 _
          subst e1 e2
          refine ⟨og, 1, rfl, ?_⟩
          rw [show 1 + i = 0 + (i + 1) by omega, hc]
          simp)
        obtain ⟨A1, hA1⟩ : ∃ A, (some (⟨og, 1, none⟩ : Addr)) = A := ⟨_, rfl⟩
        rw [hA1] at hrow
        simp only [hA1]
        clear hA1 k117
      all_goals
        have hR0 : Hid (Rnd (succs c) c.bk.length (fun b => predsOf (succs c) c.bk.length b) ord D D false 0) := Lib.hid (Rnd.start hD.out)
        have hB0 := hB
        have hsum := Lib.hid (sumAt_of hX)
        go_loopw [2, 39] (fun f v wq => ∃ (ch : Bool) (D2 : List Bs) (k : Nat), k ≤ ord.length ∧ f = .bool ch ∧ v = .int .i64 k ∧ Hid (Rnd (succs c) c.bk.length (fun b => predsOf (succs c) c.bk.length b) ord D D2 ch k) ∧ Box wq bd 108 (u64s D2.flatten) ∧ Cod W0 wq p c x cs2 ∧ But p W wq) (fun _ v _ => ord.length - iOf v)
        case atStart => exact ⟨false, D, 0, Nat.zero_le _, rfl, rfl, hR0, hX, hC, hB⟩
        case round =>
          clear hR0 hX hC hB
          obtain ⟨ch, D2, k, hk, rfl, rfl, hR, hX, hC, hB⟩ := hrel
          by_cases hkl : k < ord.length
          · obtain ⟨g1, o1, eA1, c1⟩ := hrow.out _ hB k (by simpa using hkl)
            have hDl : D2.length = c.bk.length := hR.out.doms.len
            have hDo : okD D2 := hR.out.doms.ok
            have hpos := (hin.out ord[k]).1 (List.getElem_mem hkl)
            have hstep := Lib.hid (hR.out.step hn hprd.out hkl hpos.1 hpos.2)
            obtain ⟨b, hb⟩ : ∃ b, Hid (ord[k] = b) := ⟨_, Lib.hid rfl⟩
            have c1' : wr.cell? ⟨g1, o1 + k, none⟩ = some (.int .i64 b) := by rw [c1]; simp [hb.out]
            rw [hb.out] at hpos hstep
            obtain ⟨hb0, hbn⟩ := hpos
            have hkc : (k : Int) < ord.length := by omega
            have hwk : IntKind.i64.wrap ((k : Int) + 1) = ((k + 1 : Nat) : Int) := by rw [IntWalk.i64_in _ (by omega)]; omega
            clear c1
            go_upto_region 9 with fail
            try simp only [← eA1]
            clear eA1 c1'
            go_wp2_with fail
            refine allBlocks_is.mono ?_
            rintro r wa ⟨rfl, ba⟩
            have Xa := hX.below ba
            have Ca := hC.later ba
            have Ba := hB.below' ba
            have hsa := Ba.size
            have hxa := Xa.lt
            have Na := Box.new wa 108 #[.int .u64 18446744073709551615, .int .u64 18446744073709551615, .int .u64 18446744073709551615, .int .u64 18446744073709551615, .int .u64 18446744073709551615, .int .u64 18446744073709551615, .int .u64 18446744073709551615]
            have bb : Below wa.heap.size wa (wa.alloc (.cells #[.int .u64 18446744073709551615, .int .u64 18446744073709551615, .int .u64 18446744073709551615, .int .u64 18446744073709551615, .int .u64 18446744073709551615, .int .u64 18446744073709551615, .int .u64 18446744073709551615] 108)) := (Below.refl _ _).alloc (Nat.le_refl _) _
            have Xb := Xa.below bb
            have Cb := Ca.later bb
            have Bb := Ba.below' bb
            clear Xa Ca Ba hX hC hB ba
            go_upto_region 10 with fail
            obtain ⟨bs, hbs⟩ : ∃ b, Hid (wa.heap.size = b) := ⟨_, Lib.hid rfl⟩
            obtain ⟨wb, hwb⟩ : ∃ Y, wa.alloc (.cells #[.int .u64 18446744073709551615, .int .u64 18446744073709551615, .int .u64 18446744073709551615, .int .u64 18446744073709551615, .int .u64 18446744073709551615, .int .u64 18446744073709551615, .int .u64 18446744073709551615] 108) = Y := ⟨_, rfl⟩
            rw [hwb] at Na Xb Cb Bb
            rw [hbs.out] at Na
            simp only [hwb, hbs.out]
            clear hwb bb
            rw [hbs.out] at hsa hxa
            have hbsW : W.heap.size ≤ bs := hsa
            have hne : bd ≠ bs := by omega
            clear hsa hxa
            have hptb := hpt.but Bb hbx.out (by decide) (by decide)
            obtain ⟨Ab, cb, hV, lV1, lV2, _⟩ := (hptb.own b hbn).read
            have k118 : wb.cell? ⟨p, 118, none⟩ = some (.slice (some ⟨pb, 0, none⟩) c.bk.length c.bk.length) := by rw [Cb.box.cell]; exact e118.out
            have kV : wb.cell? ⟨pb, b, none⟩ = some (V b) := by rw [hptb.box.cell]; exact vals_get _ hbn
            rw [hV] at kV
            obtain ⟨pl, hpl⟩ : ∃ q, Hid (predsOf (succs c) c.bk.length b = q) := ⟨_, Lib.hid rfl⟩
            rw [hpl.out] at hV lV1 kV hstep
            have hll : (nats pl).length = pl.length := by simp
            rw [hll] at hV lV1 kV
            replace hV := Lib.hid hV
            unfold maxLen at lV2
            have hbc : (b : Int) < c.bk.length := by omega
            have hpll : pl.length ≤ 400 := by rw [← hpl.out]; exact Nat.le_trans predsOf_len hn
            clear hll
            go_upto_region 11 with fail
            clear k118 kV
            have hS0 : Hid (([] : List Nat).foldl (fun s p => keepS s (D2.getD p noneS)) allS = allS) := Lib.hid rfl
            go_loopw [52] (fun v wq => ∃ (j : Nat) (S : Bs), j ≤ pl.length ∧ v = .int .i64 j ∧ Hid ((pl.take j).foldl (fun s p => keepS s (D2.getD p noneS)) allS = S) ∧ okS S ∧ Box wq bs 108 (u64s S) ∧ But bs wb wq) (fun v _ => pl.length - iOf v)
            case atStart => exact ⟨0, allS, Nat.zero_le _, rfl, by rw [List.take_zero]; exact hS0, okS_all, Na, But.refl _ _⟩
            case round =>
              clear Na hS0
              obtain ⟨j, S, hj, rfl, hS, okS', Ns, Bs⟩ := hrel
              by_cases hjl : j < pl.length
              · have Bq := Bb.own hbsW Bs
                have Xq := Xb.grown Bs.grownBy (fun e => hne (Option.some.inj e))
                have Cq := Cb.but Bs (Nat.le_trans hW0 hbsW) (by have := hpW; omega)
                have hptq := hpt.but Bq hbx.out (by decide) (by decide)
                have ho := hptq.own b hbn
                rw [hV.out, hpl.out] at ho
                have hrw := ho.row
                obtain ⟨g2, o2, eA2, c2⟩ := hrw j (by simpa using hjl)
                obtain ⟨q, hq⟩ : ∃ q, Hid (pl[j] = q) := ⟨_, Lib.hid rfl⟩
                have c2' : wr.cell? ⟨g2, o2 + j, none⟩ = some (.int .i64 q) := by rw [c2]; simp [hq.out]
                have hqn : q < c.bk.length := by
                  have : pl[j] ∈ predsOf (succs c) c.bk.length b := by rw [hpl.out]; exact List.getElem_mem hjl
                  rw [hq.out] at this
                  exact (mem_predsOf.1 this).1
                have hqc : (q : Int) < c.bk.length := by omega
                have hjc : (j : Int) < pl.length := by omega
                have hwj : IntKind.i64.wrap ((j : Int) + 1) = ((j + 1 : Nat) : Int) := by rw [IntWalk.i64_in _ (by omega)]; omega
                have k119 : wr.cell? ⟨p, 119, none⟩ = some (.slice (some ⟨bd, 0, none⟩) c.bk.length c.bk.length) := by rw [Cq.box.cell]; exact e119.out
                have oko := okD_getD hDo q
                have hnS : Hid ((pl.take (j + 1)).foldl (fun s p => keepS s (D2.getD p noneS)) allS = keepS S (D2.getD q noneS)) := Lib.hid (by rw [List.take_succ_eq_append_getElem hjl, List.foldl_append, hS.out, hq.out]; rfl)
                have hcl : ∀ k, k < 7 → wr.cell? ⟨bd, q * 7 + k, none⟩ = some (.int .u64 ((D2.getD q noneS).getD k 0 : Nat)) := fun k hk => by
                  rw [Xq.cell, u64s_get _ _ (by rw [flat_len hDo.len7, hDl]; omega), flat_get hDo.len7 q k (by rw [hDl]; exact hqn) hk]
                have okn := okS_keep okS' oko
                generalize D2.getD q noneS = od at oko hnS hcl okn
                obtain ⟨x0, x1, x2, x3, x4, x5, x6, rfl⟩ := seven oko
                have y0 : wr.cell? ⟨bd, q * 7, none⟩ = some (.int .u64 (x0 : Nat)) := hcl 0 (by omega)
                have y1 : wr.cell? ⟨bd, q * 7 + 1, none⟩ = some (.int .u64 (x1 : Nat)) := hcl 1 (by omega)
                have y2 : wr.cell? ⟨bd, q * 7 + 2, none⟩ = some (.int .u64 (x2 : Nat)) := hcl 2 (by omega)
                have y3 : wr.cell? ⟨bd, q * 7 + 3, none⟩ = some (.int .u64 (x3 : Nat)) := hcl 3 (by omega)
                have y4 : wr.cell? ⟨bd, q * 7 + 4, none⟩ = some (.int .u64 (x4 : Nat)) := hcl 4 (by omega)
                have y5 : wr.cell? ⟨bd, q * 7 + 5, none⟩ = some (.int .u64 (x5 : Nat)) := hcl 5 (by omega)
                have y6 : wr.cell? ⟨bd, q * 7 + 6, none⟩ = some (.int .u64 (x6 : Nat)) := hcl 6 (by omega)
                have hke := Lib.hid (keep_any S _ Ns okS' oko)
                clear hcl c2 hrw
                have eA3 := Lib.hid eA2
                go_wp2_with fail
                try simp only [← eA2]
                clear eA2 y0 y1 y2 y3 y4 y5 y6 c2' k119 Xq Cq hptq ho Bq
                refine hke.out.mono ?_
                rintro r w9 ⟨rfl, N9, B9⟩
                clear hke
                go_wp2_with fail
                go_roundw
                case rel => exact ⟨j + 1, _, hjl, by go_num, hnS, okn, N9, Bs.trans B9⟩
                case measure => simp only [iOf]; omega
              · have hje : j = pl.length := by omega
                subst hje
                rw [List.take_length] at hS
                have hb448 : b < 448 := by omega
                have hb7 : b / 64 < S.length := by rw [okS'.1]; omega
                have hgs : (u64s S)[b / 64]? = some (.int .u64 (S.getD (b / 64) 0 : Nat)) := u64s_get _ _ hb7
                have hadd := Lib.hid (add_any Ns b (S.getD (b / 64) 0) hb448 hgs (okS_getD okS' _))
                have hnew : Hid (addS S b = newS D2 pl b) := Lib.hid (by unfold newS meetS; rw [hS.out])
                clear hgs hb7
                go_wp2_with fail
                refine hadd.out.mono ?_
                rintro r w9 ⟨rfl, N9, B9⟩
                clear hadd
                rw [u64s_set] at N9
                replace N9 : Box w9 bs 108 (u64s (addS S b)) := N9
                rw [hnew.out] at N9
                have Bs9 := Bs.trans B9
                have Bq := Bb.own hbsW Bs9
                have Xq := Xb.grown Bs9.grownBy (fun e => hne (Option.some.inj e))
                have Cq := Cb.but Bs9 (Nat.le_trans hW0 hbsW) (by have := hpW; omega)
                have k119 : w9.cell? ⟨p, 119, none⟩ = some (.slice (some ⟨bd, 0, none⟩) c.bk.length c.bk.length) := by rw [Cq.box.cell]; exact e119.out
                have okN := new_ok hDo pl b
                have okO := okD_getD hDo b
                have hcl : ∀ k, k < 7 → w9.cell? ⟨bd, b * 7 + k, none⟩ = some (.int .u64 ((D2.getD b noneS).getD k 0 : Nat)) := fun k hk => by
                  rw [Xq.cell, u64s_get _ _ (by rw [flat_len hDo.len7, hDl]; omega), flat_get hDo.len7 b k (by rw [hDl]; exact hbn) hk]
                clear Ns Xb Cb Bb hnew hS okS' hptb
                have hlb : b < D2.length := by rw [hDl]; exact hbn
                generalize newS D2 pl b = nw at okN N9 hstep
                generalize D2.getD b noneS = od at okO hcl hstep
                obtain ⟨n0, n1, n2, n3, n4, n5, n6, rfl⟩ := seven okN
                obtain ⟨x0, x1, x2, x3, x4, x5, x6, rfl⟩ := seven okO
                have y0 : w9.cell? ⟨bd, b * 7, none⟩ = some (.int .u64 (x0 : Nat)) := hcl 0 (by omega)
                have y1 : w9.cell? ⟨bd, b * 7 + 1, none⟩ = some (.int .u64 (x1 : Nat)) := hcl 1 (by omega)
                have y2 : w9.cell? ⟨bd, b * 7 + 2, none⟩ = some (.int .u64 (x2 : Nat)) := hcl 2 (by omega)
                have y3 : w9.cell? ⟨bd, b * 7 + 3, none⟩ = some (.int .u64 (x3 : Nat)) := hcl 3 (by omega)
                have y4 : w9.cell? ⟨bd, b * 7 + 4, none⟩ = some (.int .u64 (x4 : Nat)) := hcl 4 (by omega)
                have y5 : w9.cell? ⟨bd, b * 7 + 5, none⟩ = some (.int .u64 (x5 : Nat)) := hcl 5 (by omega)
                have y6 : w9.cell? ⟨bd, b * 7 + 6, none⟩ = some (.int .u64 (x6 : Nat)) := hcl 6 (by omega)
                have z0 : w9.cell? ⟨bs, 0, none⟩ = some (.int .u64 (n0 : Nat)) := N9.cell 0
                have z1 : w9.cell? ⟨bs, 1, none⟩ = some (.int .u64 (n1 : Nat)) := N9.cell 1
                have z2 : w9.cell? ⟨bs, 2, none⟩ = some (.int .u64 (n2 : Nat)) := N9.cell 2
                have z3 : w9.cell? ⟨bs, 3, none⟩ = some (.int .u64 (n3 : Nat)) := N9.cell 3
                have z4 : w9.cell? ⟨bs, 4, none⟩ = some (.int .u64 (n4 : Nat)) := N9.cell 4
                have z5 : w9.cell? ⟨bs, 5, none⟩ = some (.int .u64 (n5 : Nat)) := N9.cell 5
                have z6 : w9.cell? ⟨bs, 6, none⟩ = some (.int .u64 (n6 : Nat)) := N9.cell 6
                clear hcl
                have fr : ∀ k, w9.frozen? ⟨bd, k, none⟩ = false := fun k => Xq.free k
                obtain ⟨nb, hnb⟩ : ∃ q, Hid (decide ([n0, n1, n2, n3, n4, n5, n6] = [x0, x1, x2, x3, x4, x5, x6]) = q) := ⟨_, Lib.hid rfl⟩
                have heq : ∀ w, (Op.equalIn 10000 108 (.agg #[.int .u64 n0, .int .u64 n1, .int .u64 n2, .int .u64 n3, .int .u64 n4, .int .u64 n5, .int .u64 n6]) (.agg #[.int .u64 x0, .int .u64 x1, .int .u64 x2, .int .u64 x3, .int .u64 x4, .int .u64 x5, .int .u64 x6])).run Tryz.prog w = .ok nb w := fun w => (equal_sets w 9998 n0 n1 n2 n3 n4 n5 n6 x0 x1 x2 x3 x4 x5 x6).trans (by rw [hnb.out])
                have hgd : Tryz.prog.eqGuardType Tryz.prog.depth 108 = false := by kernel_rfl
                have hdec : Hid (decide ([n0, n1, n2, n3, n4, n5, n6] ≠ [x0, x1, x2, x3, x4, x5, x6]) = !nb) := Lib.hid (by rw [← hnb.out]; exact decide_not)
                rw [hdec.out] at hstep
                clear hdec hnb
                go_wp2_with fail
                cases ch
                case' true => go_quiet (fail)
                case' false => go_quiet (fail)
                all_goals
                  obtain ⟨wz, hwz⟩ : ∃ Y, w9.drewN nq = Y := ⟨_, rfl⟩
                  have Dz0 : Below w9.heap.size w9 wz := by rw [← hwz]; exact Drew.below ⟨nq, rfl⟩
                  have Nz : Box wz bs 108 (u64s [n0, n1, n2, n3, n4, n5, n6]) := N9.below Dz0
                  have Xz : Box wz bd 108 (u64s D2.flatten) := Xq.below Dz0
                  have Cz : Cod W0 wz p c x cs2 := Cq.later Dz0
                  have Bz : But p W wz := Bq.below' Dz0
                  have y0' : wz.cell? ⟨bd, b * 7, none⟩ = some (.int .u64 (x0 : Nat)) := cell_later Dz0 y0
                  have z0' : wz.cell? ⟨bs, 0, none⟩ = some (.int .u64 (n0 : Nat)) := cell_later Dz0 z0
                  have fz0 : wz.frozen? ⟨bd, b * 7, none⟩ = false := Xz.free (b * 7)
                  have y1' : wz.cell? ⟨bd, b * 7 + 1, none⟩ = some (.int .u64 (x1 : Nat)) := cell_later Dz0 y1
                  have z1' : wz.cell? ⟨bs, 1, none⟩ = some (.int .u64 (n1 : Nat)) := cell_later Dz0 z1
                  have fz1 : wz.frozen? ⟨bd, b * 7 + 1, none⟩ = false := Xz.free (b * 7 + 1)
                  have y2' : wz.cell? ⟨bd, b * 7 + 2, none⟩ = some (.int .u64 (x2 : Nat)) := cell_later Dz0 y2
                  have z2' : wz.cell? ⟨bs, 2, none⟩ = some (.int .u64 (n2 : Nat)) := cell_later Dz0 z2
                  have fz2 : wz.frozen? ⟨bd, b * 7 + 2, none⟩ = false := Xz.free (b * 7 + 2)
                  have y3' : wz.cell? ⟨bd, b * 7 + 3, none⟩ = some (.int .u64 (x3 : Nat)) := cell_later Dz0 y3
                  have z3' : wz.cell? ⟨bs, 3, none⟩ = some (.int .u64 (n3 : Nat)) := cell_later Dz0 z3
                  have fz3 : wz.frozen? ⟨bd, b * 7 + 3, none⟩ = false := Xz.free (b * 7 + 3)
                  have y4' : wz.cell? ⟨bd, b * 7 + 4, none⟩ = some (.int .u64 (x4 : Nat)) := cell_later Dz0 y4
                  have z4' : wz.cell? ⟨bs, 4, none⟩ = some (.int .u64 (n4 : Nat)) := cell_later Dz0 z4
                  have fz4 : wz.frozen? ⟨bd, b * 7 + 4, none⟩ = false := Xz.free (b * 7 + 4)
                  have y5' : wz.cell? ⟨bd, b * 7 + 5, none⟩ = some (.int .u64 (x5 : Nat)) := cell_later Dz0 y5
                  have z5' : wz.cell? ⟨bs, 5, none⟩ = some (.int .u64 (n5 : Nat)) := cell_later Dz0 z5
                  have fz5 : wz.frozen? ⟨bd, b * 7 + 5, none⟩ = false := Xz.free (b * 7 + 5)
                  have y6' : wz.cell? ⟨bd, b * 7 + 6, none⟩ = some (.int .u64 (x6 : Nat)) := cell_later Dz0 y6
                  have z6' : wz.cell? ⟨bs, 6, none⟩ = some (.int .u64 (n6 : Nat)) := cell_later Dz0 z6
                  have fz6 : wz.frozen? ⟨bd, b * 7 + 6, none⟩ = false := Xz.free (b * 7 + 6)
                  have k119' : wz.cell? ⟨p, 119, none⟩ = some (.slice (some ⟨bd, 0, none⟩) c.bk.length c.bk.length) := cell_later Dz0 k119
                  simp only [hwz]
                  clear hwz Dz0 N9 Xq Cq Bq y0 y1 y2 y3 y4 y5 y6 z0 z1 z2 z3 z4 z5 z6 k119 fr heq hgd
                  have XZ := (Xz.seven hDo.len7 hlb n0 n1 n2 n3 n4 n5 n6).drew
                  have bZ := (But.seven wz bd b n0 n1 n2 n3 n4 n5 n6).trans (But.of (Drew.below ⟨1, rfl⟩ : Below ((((((((wz.setCell ⟨bd, b * 7, none⟩ (.int .u64 (n0 : Nat))).setCell ⟨bd, b * 7 + 1, none⟩ (.int .u64 (n1 : Nat))).setCell ⟨bd, b * 7 + 2, none⟩ (.int .u64 (n2 : Nat))).setCell ⟨bd, b * 7 + 3, none⟩ (.int .u64 (n3 : Nat))).setCell ⟨bd, b * 7 + 4, none⟩ (.int .u64 (n4 : Nat))).setCell ⟨bd, b * 7 + 5, none⟩ (.int .u64 (n5 : Nat))).setCell ⟨bd, b * 7 + 6, none⟩ (.int .u64 (n6 : Nat)))).heap.size (((((((wz.setCell ⟨bd, b * 7, none⟩ (.int .u64 (n0 : Nat))).setCell ⟨bd, b * 7 + 1, none⟩ (.int .u64 (n1 : Nat))).setCell ⟨bd, b * 7 + 2, none⟩ (.int .u64 (n2 : Nat))).setCell ⟨bd, b * 7 + 3, none⟩ (.int .u64 (n3 : Nat))).setCell ⟨bd, b * 7 + 4, none⟩ (.int .u64 (n4 : Nat))).setCell ⟨bd, b * 7 + 5, none⟩ (.int .u64 (n5 : Nat))).setCell ⟨bd, b * 7 + 6, none⟩ (.int .u64 (n6 : Nat))) ((((((((wz.setCell ⟨bd, b * 7, none⟩ (.int .u64 (n0 : Nat))).setCell ⟨bd, b * 7 + 1, none⟩ (.int .u64 (n1 : Nat))).setCell ⟨bd, b * 7 + 2, none⟩ (.int .u64 (n2 : Nat))).setCell ⟨bd, b * 7 + 3, none⟩ (.int .u64 (n3 : Nat))).setCell ⟨bd, b * 7 + 4, none⟩ (.int .u64 (n4 : Nat))).setCell ⟨bd, b * 7 + 5, none⟩ (.int .u64 (n5 : Nat))).setCell ⟨bd, b * 7 + 6, none⟩ (.int .u64 (n6 : Nat)))).drew))
                  have CZ := Cz.but bZ (Nat.le_trans hW0 hbdW) hpbd
                  have BZ := Bz.own hbdW bZ
                  go_wp2_with fail
                  go_region
                  clear y0' y1' y2' y3' y4' y5' y6' z0' z1' z2' z3' z4' z5' z6' fz0 fz1 fz2 fz3 fz4 fz5 fz6 k119' Nz Xz Cz Bz bZ
                  go_wp2_with fail
                  go_roundw
                  case rel => exact ⟨_, _, k + 1, hkl, rfl, by go_num, hstep, XZ, CZ, BZ⟩
                  case measure => simp only [iOf]; omega
          · have hke : k = ord.length := by omega
            subst hke
            have hR2 := hR.out
            have hsum2 := sumAt_of hX
            have hF2 : Hid (ch = false → ∀ b, 0 < b → b < c.bk.length → newS D2 (predsOf (succs c) c.bk.length b) b = D2.getD b noneS) := Lib.hid (fun e b hb0 hbn => by
              obtain ⟨e1, e2⟩ := hR2.same e
              have hbm := (hin.out b).2 ⟨hb0, hbn⟩
              obtain ⟨j, hj, rfl⟩ := List.getElem_of_mem hbm
              rw [e1]
              exact e2 j hj hj)
            have hD2 := Lib.hid hR2.doms
            have hms : Hid (2 * sumAt wr bd + chN (.bool ch) < 2 * totalS D + 1) := Lib.hid (by
              rw [hsum2]
              have h1 := hR2.le
              cases ch with
              | false => show 2 * totalS D2 + 0 < _; omega
              | true => have h2 := hR2.lt rfl; show 2 * totalS D2 + 1 < _; omega)
            clear hR hR2 hsum2
            go_wp2_with fail
            go_roundw
            case rel => exact ⟨ch, D2, rfl, hD2, hF2, hX, hC, hB⟩
            case measure =>
              have h1 := hms.out
              have h2 := hsum.out
              show 2 * sumAt wr bd + chN (.bool ch) < _ + 1
              rw [h2]
              exact h1
end Go.Proofs.YtnbgadndkepomaaGreatDoor
