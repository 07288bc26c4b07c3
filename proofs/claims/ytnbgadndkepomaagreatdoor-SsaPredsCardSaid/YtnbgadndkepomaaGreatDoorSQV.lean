/- Joined texts: SaRi7, SaRg1, SaRg2, SaUa, SaPz. -/
import Derived.Test.YtnbgadndkepomaaGreatDoorSQR
import Derived.Test.YtnbgadndkepomaaGreatDoorSQS
import Derived.Test.YtnbgadndkepomaaGreatDoorSQT
import Derived.Test.YtnbgadndkepomaaGreatDoorSQU
import Derived.Test.YtnbgadndkepomaaGreatDoorSQP
import Derived.Test.YtnbgadndkepomaaGreatDoorSQO
import Derived.Test.YtnbgadndkepomaaGreatDoorSaRd3
import Derived.Test.YtnbgadndkepomaaGreatDoorSaHead

namespace Go.Proofs.YtnbgadndkepomaaGreatDoor
open Go.RowKit

set_option maxRecDepth 100000 in
set_option maxHeartbeats 3200000 in
theorem rinst_np {W : World} {c : Cd} {x : Sl} (hx : CdAt W c x) (op w p a b k : Int) (n : Nat) (t : Int) (hpl : ¬ PlainR ⟨op, w, p, a, b, k, n, t⟩) :
    Calls Tryz.prog 38 #[.agg #[.slice x.S c.st.length x.sc, .slice x.N c.nm.length x.nc, .slice x.I c.ins.length x.ic, .slice x.K c.bk.length x.kc], .agg #[.int .i64 op, .int .i64 w, .int .i64 p, .int .i64 a, .int .i64 b, .int .i64 k, .int .u64 (n : Int), .int .i64 t]] W fun e w' => e = .returned (.bool false) ∧ Below W.heap.size W w' := by
  obtain ⟨X, hX, I⟩ := IS.new hx ⟨op, w, p, a, b, k, n, t⟩
  obtain ⟨e0, e1, e2, e3, e4, e5, e6, e7, v0, v1, v2, v3⟩ := I.cs
  go_enter Tryz.func38, Tryz.ntmps38
  go_upto_region 1 with fail
  simp only [hX.out]
  go_wp2_with fail
  refine (rplain_any ⟨op, w, p, a, b, k, n, t⟩).mono ?_
  rintro e' w1 ⟨rfl, b1⟩
  rw [B_not hpl]
  clear e0 e1 e2 e3 e4 e5 e6 e7 v0 v1 v2 v3
  replace I := I.later b1
  obtain ⟨e0, e1, e2, e3, e4, e5, e6, e7, v0, v1, v2, v3⟩ := I.cs
  go_wp2
  go_ret
  exact ⟨rfl, I.bA⟩
set_option maxRecDepth 100000 in
set_option maxHeartbeats 3200000 in
theorem rinst_nt {W : World} {c : Cd} {x : Sl} (hx : CdAt W c x) (op w p a b k : Int) (n : Nat) (t : Int) (hpl : PlainR ⟨op, w, p, a, b, k, n, t⟩) (hat : plcB t = false) :
    Calls Tryz.prog 38 #[.agg #[.slice x.S c.st.length x.sc, .slice x.N c.nm.length x.nc, .slice x.I c.ins.length x.ic, .slice x.K c.bk.length x.kc], .agg #[.int .i64 op, .int .i64 w, .int .i64 p, .int .i64 a, .int .i64 b, .int .i64 k, .int .u64 (n : Int), .int .i64 t]] W fun e w' => e = .returned (.bool false) ∧ Below W.heap.size W w' := by
  obtain ⟨X, hX, I⟩ := IS.new hx ⟨op, w, p, a, b, k, n, t⟩
  obtain ⟨e0, e1, e2, e3, e4, e5, e6, e7, v0, v1, v2, v3⟩ := I.cs
  go_enter Tryz.func38, Tryz.ntmps38
  go_upto_region 1 with fail
  simp only [hX.out]
  go_wp2_with fail
  refine (rplain_any ⟨op, w, p, a, b, k, n, t⟩).mono ?_
  rintro e' w1 ⟨rfl, b1⟩
  rw [B_of hpl]
  clear e0 e1 e2 e3 e4 e5 e6 e7 v0 v1 v2 v3
  replace I := I.later b1
  obtain ⟨e0, e1, e2, e3, e4, e5, e6, e7, v0, v1, v2, v3⟩ := I.cs
  go_wp2_with fail
  refine (rplace_any _ _).mono ?_
  rintro e' w2 ⟨rfl, rfl⟩
  rw [hat]
  go_wp2
  go_ret
  exact ⟨rfl, I.bA⟩
/-- What inst says of an instruction. -/
def InsW (c : Cd) (i : CIn) : Prop := PlainR i ∧ Plc i.at_ ∧ RW c i
theorem rinst_any {W : World} {c : Cd} {x : Sl} (hx : CdAt W c x) (ok : c.ok) (hst : c.st.length ≤ 8) (hnm : c.nm.length ≤ 32) (i : CIn) (hn : i.n < 18446744073709551616) :
    Calls Tryz.prog 38 #[.agg #[.slice x.S c.st.length x.sc, .slice x.N c.nm.length x.nc, .slice x.I c.ins.length x.ic, .slice x.K c.bk.length x.kc], .agg #[.int .i64 i.op, .int .i64 i.w, .int .i64 i.p, .int .i64 i.a, .int .i64 i.b, .int .i64 i.c, .int .u64 i.n, .int .i64 i.at_]] W fun e w' => e = .returned (.bool (B (InsW c i))) ∧ Below W.heap.size W w' := by
  obtain ⟨op, w, p, a, b, k, n, t⟩ := i
  show Calls Tryz.prog 38 #[.agg #[.slice x.S c.st.length x.sc, .slice x.N c.nm.length x.nc, .slice x.I c.ins.length x.ic, .slice x.K c.bk.length x.kc], .agg #[.int .i64 op, .int .i64 w, .int .i64 p, .int .i64 a, .int .i64 b, .int .i64 k, .int .u64 (n : Int), .int .i64 t]] W _
  simp only at hn
  have hpc : plcB t = true ↔ Plc t := by unfold plcB Plc; exact decide_eq_true_iff
  by_cases hpl : PlainR ⟨op, w, p, a, b, k, n, t⟩
  · by_cases hat : plcB t = true
    · have hq : B (InsW c ⟨op, w, p, a, b, k, n, t⟩) = B (RW c ⟨op, w, p, a, b, k, n, t⟩) := B_congr ⟨fun h => h.2.2, fun h => ⟨hpl, hpc.1 hat, h⟩⟩
      rw [hq]
      by_cases h1 : op = 1
      · subst h1; exact rinst_1 hx ok hst hnm w p a b k n t hpl hat hn
      by_cases h12 : op = 12
      · subst h12; exact rinst_12 hx ok hst hnm w p a b k n t hpl hat hn
      by_cases h13 : op = 13
      · subst h13; exact rinst_13 hx ok hst hnm w p a b k n t hpl hat hn
      by_cases h14 : op = 14
      · subst h14; exact rinst_14 hx ok hst hnm w p a b k n t hpl hat hn
      by_cases h15 : op = 15
      · subst h15; exact rinst_15 hx ok hst hnm w p a b k n t hpl hat hn
      by_cases h16 : op = 16
      · subst h16; exact rinst_16 hx ok hst hnm w p a b k n t hpl hat hn
      by_cases h17 : op = 17
      · subst h17; exact rinst_17 hx ok hst hnm w p a b k n t hpl hat hn
      by_cases h18 : op = 18
      · subst h18; exact rinst_18 hx ok hst hnm w p a b k n t hpl hat hn
      by_cases h19 : op = 19
      · subst h19; exact rinst_19 hx ok hst hnm w p a b k n t hpl hat hn
      by_cases h21 : op = 21
      · subst h21; exact rinst_21 hx ok hst hnm w p a b k n t hpl hat hn
      by_cases h22 : op = 22
      · subst h22; exact rinst_22 hx ok hst hnm w p a b k n t hpl hat hn
      by_cases h30 : op = 30
      · subst h30; exact rinst_30 hx ok hst hnm w p a b k n t hpl hat hn
      by_cases h31 : op = 31
      · subst h31; exact rinst_31 hx ok hst hnm w p a b k n t hpl hat hn
      by_cases h32 : op = 32
      · subst h32; exact rinst_32 hx ok hst hnm w p a b k n t hpl hat hn
      by_cases h33 : op = 33
      · subst h33; exact rinst_33 hx ok hst hnm w p a b k n t hpl hat hn
      by_cases h34 : op = 34
      · subst h34; exact rinst_34 hx ok hst hnm w p a b k n t hpl hat hn
      by_cases h35 : op = 35
      · subst h35; exact rinst_35 hx ok hst hnm w p a b k n t hpl hat hn
      by_cases h36 : op = 36
      · subst h36; exact rinst_36 hx ok hst hnm w p a b k n t hpl hat hn
      by_cases g1 : op ≤ 0
      · exact rinst_low hx ok hst hnm op w p a b k n t hpl hat hn g1
      by_cases g2 : 2 ≤ op ∧ op ≤ 11
      · exact rinst_bin hx ok hst hnm op w p a b k n t hpl hat hn g2
      · exact rinst_high hx ok hst hnm op w p a b k n t hpl hat hn (by omega)
    · have hq : B (InsW c ⟨op, w, p, a, b, k, n, t⟩) = false := B_not (fun h => hat (hpc.2 h.2.1))
      rw [hq]
      exact rinst_nt hx op w p a b k n t hpl (by simpa using hat)
  · have hq : B (InsW c ⟨op, w, p, a, b, k, n, t⟩) = false := B_not (fun h => hpl h.1)
    rw [hq]
    exact rinst_np hx op w p a b k n t hpl
end Go.Proofs.YtnbgadndkepomaaGreatDoor

namespace Go.Proofs.YtnbgadndkepomaaGreatDoor
open Go.RowKit

theorem rw_ri {c : Cd} {i : CIn} (h : RW c i) (h1 : i.op ≠ 18) (h2 : i.op ≠ 19) : RI c i := by
  unfold RW at h
  rw [if_neg h1, if_neg h2] at h
  exact h
theorem ri_rw {c : Cd} {i : CIn} (h : RI c i) (h1 : i.op ≠ 18) (h2 : i.op ≠ 19) : RW c i := by
  unfold RW
  rw [if_neg h1, if_neg h2]
  exact h
theorem args18 {i : CIn} (h : i.op = 18) : argsOf i = [i.a] := argsOf_one (by omega) (by omega) (by omega)
theorem args19 {i : CIn} (h : i.op = 19) : argsOf i = [i.a, i.b] := argsOf_two (Or.inr (Or.inl h))
theorem arg_W {c : Cd} {i : CIn} (h : RW c i) : ∀ v ∈ argsOf i, Ix v c.ins := by
  by_cases h1 : i.op = 18
  · unfold RW at h
    rw [if_pos h1] at h
    rw [args18 h1]
    intro v hv
    rw [List.mem_singleton] at hv
    subst hv
    exact w_ix h.1
  · by_cases h2 : i.op = 19
    · unfold RW at h
      rw [if_neg h1, if_pos h2] at h
      rw [args19 h2]
      intro v hv
      rcases List.mem_cons.1 hv with rfl | hv
      · exact w_ix h.1
      · rw [List.mem_singleton] at hv
        subst hv
        exact w_ix h.2.1
    · exact arg_R (rw_ri h h1 h2)
/-- What is found of a block. -/
def BlkW (c : Cd) (b : CBk) : Prop := (∀ (i : Nat) (hi : i < c.ins.length), b.frm + parR c b ≤ (i : Int) → (i : Int) < b.til → c.ins[i].op ≠ 30) ∧ EndR c b.en ∧ ∀ e ∈ edges b.en, e.to ≠ 0
structure VW (c : Cd) : Prop where
  li : ListsR c
  co : coversP c
  ins : ∀ i ∈ c.ins, InsW c i
  bks : ∀ b ∈ c.bk, BlkW c b
  re : ReachP c
  p0 : ∀ h : 0 < c.bk.length, parR c c.bk[0] = 0
  de : DefU c
theorem endR_p {c : Cd} {e : CEn} (h : EndR c e) : EndP e := by
  obtain ⟨_, h | h | h⟩ := h
  · exact Or.inl ⟨h.1, h.2.1, h.2.2.1, h.2.2.2.1, h.2.2.2.2.1⟩
  · exact Or.inr (Or.inl ⟨h.1, h.2.1⟩)
  · obtain ⟨h1, h2, h3, h4, h5, h6, h7, h8⟩ := h
    have hn : NoWhere e := ⟨h2, h3, h4, by omega, by omega⟩
    rcases h1 with h1 | h1
    · exact Or.inr (Or.inr (Or.inl ⟨h1, hn, by omega⟩))
    · exact Or.inr (Or.inr (Or.inr ⟨h1, hn, h6, h7⟩))
theorem endsW_ix {c : Cd} {e : CEn} (h : EndR c e) : ∀ v ∈ endsR e, Ix v c.ins := by
  have ht : ∀ {tg : Int} {args : List Int}, PassR c tg args → ∀ v ∈ args, Ix v c.ins := fun hp v hv => by
    obtain ⟨_, _, _, h3⟩ := hp
    obtain ⟨k, hk, rfl⟩ := List.getElem_of_mem hv
    exact (h3 k hk).1
  intro v hv
  unfold endsR at hv
  obtain ⟨_, h | h | h⟩ := h
  · rw [if_neg (by omega), List.nil_append, List.eq_nil_of_length_eq_zero h.2.2.2.1, List.append_nil] at hv
    exact ht h.2.2.2.2.2 v hv
  · rw [if_pos h.1] at hv
    rcases List.mem_append.1 hv with hv | hv
    · rcases List.mem_append.1 hv with hv | hv
      · rw [List.mem_singleton] at hv
        subst hv
        exact w_ix (by rw [h.2.2.1]; decide)
      · exact ht h.2.2.2.1 v hv
    · exact ht h.2.2.2.2 v hv
  · have h5 := h.2.2.2.2.1
    rw [if_neg (by rcases h.1 with q | q <;> omega), List.nil_append, List.eq_nil_of_length_eq_zero (show e.ta.length = 0 by omega), List.eq_nil_of_length_eq_zero (show e.ea.length = 0 by omega)] at hv
    simp at hv
theorem use_ix {c : Cd} (hi : ∀ i ∈ c.ins, InsW c i) (he : ∀ b ∈ c.bk, EndR c b.en) : ∀ b i v, UseAt c b i v → Ix v c.ins := by
  rintro b i v ⟨⟨B, hB, _, _⟩, hv⟩
  unfold usesL at hv
  rw [hB] at hv
  dsimp only at hv
  by_cases e : (i : Int) < B.til
  · rw [if_pos e] at hv
    cases hq : c.ins[i]? with
    | none => rw [hq] at hv; simp at hv
    | some y =>
      rw [hq] at hv
      exact arg_W (hi y (List.mem_of_getElem? hq)).2.2 v hv
  · rw [if_neg e] at hv
    exact endsW_ix (he B (List.mem_of_getElem? hB)) v hv
theorem ed_in {c : Cd} (he : ∀ b ∈ c.bk, EndR c b.en) : EdIn c := fun b hb e hm => by
  have hp : ∀ {tg : Int} {args : List Int}, PassR c tg args → 0 ≤ tg ∧ tg < c.bk.length := fun h => ⟨h.1, by obtain ⟨h0, h1, _⟩ := h; omega⟩
  obtain ⟨_, h | h | h⟩ := he b hb
  · rw [edges1 h.1] at hm
    rw [List.mem_singleton] at hm
    subst hm
    exact hp h.2.2.2.2.2
  · rw [edges2 h.1] at hm
    rcases List.mem_cons.1 hm with rfl | hm
    · exact hp h.2.2.2.1
    · rw [List.mem_singleton] at hm
      subst hm
      exact hp h.2.2.2.2
  · rw [edges0 (by rcases h.1 with q | q <;> omega) (by rcases h.1 with q | q <;> omega)] at hm
    simp at hm
theorem ends_len {c : Cd} (hb : BlocksP c) (hin : c.ins.length ≤ 3000) (he : ∀ b ∈ c.bk, EndR c b.en) : ∀ b ∈ c.bk, b.en.ta.length + b.en.ea.length ≤ 9000 := fun b hbm => by
  have hp : ∀ (tg : Int) (args : List Int), PassR c tg args → args.length ≤ 3000 := fun tg args h => by
    obtain ⟨h0, h1, h2, _⟩ := h
    have h4 := ins_len hb (List.getElem_mem h1)
    have h5 := bk_range hb (List.getElem_mem h1)
    have h6 := par_le (c := c) (b := c.bk[tg.toNat])
    omega
  obtain ⟨_, h | h | h⟩ := he b hbm
  · have := hp _ _ h.2.2.2.2.2
    have := h.2.2.2.1
    omega
  · have := hp _ _ h.2.2.2.1
    have := hp _ _ h.2.2.2.2
    omega
  · have := h.2.2.2.2.1
    omega
theorem wrap_sum {x y : Int} (h0 : 0 ≤ x) (h1 : x ≤ 64) (h2 : 0 ≤ y) (h3 : y ≤ 64) : wrap64 (x + y) = x + y := by unfold wrap64; omega
theorem rwbnd {c : Cd} (hs : ∀ l ∈ c.st, StructP l) (hch : BlocksP c) (hi0 : ∀ i ∈ c.ins, InsW c i) (hd : DefR c) : ∀ (N b : Nat) (hb : b < c.bk.length) (l : List Nat), Way (succs c) b l → l.length ≤ N → ∀ (i : Nat) (hi : i < c.ins.length), InBk c.bk[b] i → c.ins[i].w ≤ 64 ∧ RI c c.ins[i] := by
  intro N
  induction N with
  | zero =>
    intro b hb l hw hl
    have := way_self hw
    have : l = [] := List.length_eq_zero_iff.1 (by omega)
    subst this
    simp at *
  | succ N ih =>
    intro b hb l hw hl i
    induction i using Nat.strongRecOn with
    | _ i ih2 =>
      intro hi hin
      obtain ⟨hP, _, hRW⟩ := hi0 _ (List.getElem_mem hi)
      have key : ∀ v ∈ argsOf c.ins[i], 0 < wOf c v → wOf c v ≤ 64 := by
        intro v hv h3
        have hix := w_ix h3
        have hk : v.toNat < c.ins.length := by have := hix.1; have := hix.2; omega
        have hw1 : wOf c v = c.ins[v.toNat].w := by unfold wOf; rw [if_pos hix.1]; simp [hk]
        have hu := (hd b hb).1 i hi hin _ hv
        obtain ⟨hh, hhin⟩ := home_lt hch hk
        rw [hw1]
        by_cases e : homeN c v.toNat = b
        · have hlt := hu.1 e
          have hix1 := hix.1
          exact (ih2 _ (by omega) hk (by simpa only [e] using hhin)).1
        · obtain ⟨l', g1, _, g3⟩ := way_prefix hw (hu.2 e l hw)
          have := g3 e
          exact (ih _ hh l' g1 (by omega) _ hk hhin).1
      by_cases h18 : c.ins[i].op = 18
      · unfold RW at hRW
        rw [if_pos h18] at hRW
        obtain ⟨q1, q2, q3, q4⟩ := hRW
        have hA := key c.ins[i].a (by rw [args18 h18]; simp) q1
        unfold Wid at q2
        rw [wrap_sum (by omega) (by omega) (by omega) (by omega)] at q4
        refine ⟨q2.2, ?_⟩
        unfold RI
        dsimp only
        rw [if_neg (by omega), if_neg (by omega), if_neg (by omega), if_neg (by omega), if_pos h18]
        exact ⟨q1, q2, q3, q4⟩
      · by_cases h19 : c.ins[i].op = 19
        · unfold RW at hRW
          rw [if_neg h18, if_pos h19] at hRW
          obtain ⟨q1, q2, q3, q4⟩ := hRW
          have hA := key c.ins[i].a (by rw [args19 h19]; simp) q1
          have hB := key c.ins[i].b (by rw [args19 h19]; simp) q2
          rw [wrap_sum (by omega) hA (by omega) hB] at q3
          refine ⟨q4, ?_⟩
          unfold RI
          dsimp only
          rw [if_neg (by omega), if_neg (by omega), if_neg (by omega), if_neg (by omega), if_neg (by omega), if_pos h19]
          exact ⟨q1, q2, q3, q4⟩
        · have hRI := rw_ri hRW h18 h19
          refine ⟨?_, hRI⟩
          rcases (ri_bnd hs hP hRI).2.2.2 with h1 | ⟨h1, h2, h3⟩
          · exact h1
          · rw [h1]
            exact key _ (arg_a h2) h3
theorem vw_iff {c : Cd} : VW c ↔ ValidR c := by
  constructor
  · intro h
    obtain ⟨⟨l1, l2, l3, l4⟩, ⟨c1, c2, c3, c4⟩, hi, hb, hr, hp, hd⟩ := h
    have hE : ∀ b ∈ c.bk, EndR c b.en := fun b hbm => (hb b hbm).2.1
    have hD : DefR c := (defR_iff c4 (fun b hbm => endsR_is (endR_p (hE b hbm)))).2 hd
    refine ⟨l1, l2, c1, c2, c3, l3, l4, c4, fun i him => ?_, fun b hbm => (hb b hbm).1, hE, fun b hbm => (hb b hbm).2.2, hr, hp, hD⟩
    obtain ⟨k, hk, rfl⟩ := List.getElem_of_mem him
    obtain ⟨g1, g2⟩ := home_lt c4 hk
    obtain ⟨l, hl⟩ := hr _ g1
    exact ⟨(hi _ him).1, (hi _ him).2.1, (rwbnd l3 c4 hi hD l.length _ g1 l hl (Nat.le_refl _) k hk g2).2⟩
  · intro h
    have hbnd := rbnd h
    refine ⟨⟨h.st8, h.nm32, h.sts, h.nms⟩, ⟨h.bk1, h.bk400, h.in3000, h.chain⟩, fun i him => ⟨(h.insts i him).1, (h.insts i him).2.1, ?_⟩, fun b hbm => ⟨h.later b hbm, h.ends b hbm, h.noz b hbm⟩, h.reach, h.par0, (defR_iff h.chain (fun b hbm => endsR_is (endR_p (h.ends b hbm)))).1 h.defd⟩
    obtain ⟨k, hk, rfl⟩ := List.getElem_of_mem him
    have hRI := (h.insts _ him).2.2
    have key : ∀ v, 0 < wOf c v → wOf c v ≤ 64 := by
      intro v h3
      have hix := w_ix h3
      have hk : v.toNat < c.ins.length := by have := hix.1; have := hix.2; omega
      have hw1 : wOf c v = c.ins[v.toNat].w := by unfold wOf; rw [if_pos hix.1]; simp [hk]
      obtain ⟨g1, g2⟩ := home_lt h.chain hk
      obtain ⟨l, hl⟩ := h.reach _ g1
      rw [hw1]
      exact hbnd l.length _ g1 l hl (Nat.le_refl _) _ hk g2
    by_cases h18 : c.ins[k].op = 18
    · unfold RI at hRI
      dsimp only at hRI
      rw [if_neg (by omega), if_neg (by omega), if_neg (by omega), if_neg (by omega), if_pos h18] at hRI
      obtain ⟨q1, q2, q3, q4⟩ := hRI
      have hA := key _ q1
      have q2' := q2
      unfold Wid at q2'
      unfold RW
      rw [if_pos h18, wrap_sum (by omega) (by omega) (by omega) (by omega)]
      exact ⟨q1, q2, q3, q4⟩
    · by_cases h19 : c.ins[k].op = 19
      · unfold RI at hRI
        dsimp only at hRI
        rw [if_neg (by omega), if_neg (by omega), if_neg (by omega), if_neg (by omega), if_neg (by omega), if_pos h19] at hRI
        obtain ⟨q1, q2, q3, q4⟩ := hRI
        have hA := key _ q1
        have hB := key _ q2
        unfold RW
        rw [if_neg h18, if_pos h19, wrap_sum (by omega) hA (by omega) hB]
        exact ⟨q1, q2, q3, q4⟩
      · exact ri_rw hRI h18 h19
end Go.Proofs.YtnbgadndkepomaaGreatDoor

namespace Go.Proofs.YtnbgadndkepomaaGreatDoor
open Go.RowKit

def InsTo (c : Cd) (i : Nat) : Prop := ∀ (j : Nat) (h : j < c.ins.length), j < i → InsW c c.ins[j]
def BksTo (c : Cd) (b : Nat) : Prop := ∀ (j : Nat) (h : j < c.bk.length), j < b → BlkW c c.bk[j]
set_option maxRecDepth 100000 in
set_option maxHeartbeats 16000000 in
theorem rValid_any {W : World} {c : Cd} {x : Sl} (hx : CdAt W c x) (ok : c.ok) (hs : ∀ s ∈ c.nm, s.length ≤ 9223372036854775807) :
    Calls Tryz.prog 20 #[.agg #[.slice x.S c.st.length x.sc, .slice x.N c.nm.length x.nc, .slice x.I c.ins.length x.ic, .slice x.K c.bk.length x.kc]] W fun e w' => e = .returned (.bool (B (VW c))) ∧ Below W.heap.size W w' := by
  obtain ⟨Z, hZ⟩ : ∃ Z, Hid (B (VW c) = Z) := ⟨_, Lib.hid rfl⟩
  rw [hZ.out]
  have bA : Below W.heap.size W (W.alloc (.cells #[.slice x.S c.st.length x.sc, .slice x.N c.nm.length x.nc, .slice x.I c.ins.length x.ic, .slice x.K c.bk.length x.kc] 27)) := (Below.refl _ _).alloc (Nat.le_refl _) _
  have N := Box.new W 27 #[.slice x.S c.st.length x.sc, .slice x.N c.nm.length x.nc, .slice x.I c.ins.length x.ic, .slice x.K c.bk.length x.kc]
  have n0 := N.cell 0
  have n1 := N.cell 1
  have n2 := N.cell 2
  have n3 := N.cell 3
  have kL := rlists_any (hx.later bA) hs
  clear hs
  replace ok := Lib.hid ok
  go_enter Tryz.func20, Tryz.ntmps20
  go_wp2_with fail
  refine kL.mono ?_
  rintro e w1 ⟨rfl, b1⟩
  have hX := N.below b1
  have hW := bA.trans (b1.mono bA.size)
  obtain ⟨bu, hbu⟩ : ∃ b, Hid (W.heap.size = b) := ⟨_, Lib.hid rfl⟩
  rw [hbu.out] at hX
  try simp only [hbu.out]
  clear kL N n0 n1 n2 n3 b1 bA
  by_cases hL : ListsR c
  rotate_left
  · have hz : Hid (Z = false) := Lib.hid (by rw [← hZ.out]; exact B_not (fun h => hL h.li))
    rw [B_not hL]
    clear hL hZ
    go_wp2
    go_ret
    exact ⟨by rw [hz.out]; rfl, hW⟩
  rw [B_of hL]
  have kC := rcovers_any (hx.later hW) ok.out
  have s0 := hX.cell 0
  have s1 := hX.cell 1
  have s2 := hX.cell 2
  have s3 := hX.cell 3
  go_wp2_with fail
  refine kC.mono ?_
  rintro e w2 ⟨rfl, b2⟩
  replace hX := hX.below b2
  replace hW := hW.trans (b2.mono hW.size)
  clear kC s0 s1 s2 s3 b2
  by_cases hC : coversP c
  rotate_left
  · have hz : Hid (Z = false) := Lib.hid (by rw [← hZ.out]; exact B_not (fun h => hC h.co))
    rw [B_not hC]
    clear hC hZ
    go_wp2
    go_ret
    exact ⟨by rw [hz.out]; rfl, hW⟩
  rw [B_of hC]
  have hst : c.st.length ≤ 8 := hL.1
  have hnm : c.nm.length ≤ 32 := hL.2.1
  obtain ⟨hk1, hk4, hin, hch⟩ := hC
  have hC : Hid (coversP c) := Lib.hid ⟨hk1, hk4, hin, hch⟩
  replace hch := Lib.hid hch
  replace hL := Lib.hid hL
  go_wp2_with fail
  go_loopw [3] (fun v wr => ∃ i, i ≤ c.ins.length ∧ v = .int .i64 (i : Nat) ∧ Hid (InsTo c i) ∧ Below W.heap.size W wr ∧ Box wr bu 27 #[.slice x.S c.st.length x.sc, .slice x.N c.nm.length x.nc, .slice x.I c.ins.length x.ic, .slice x.K c.bk.length x.kc]) (fun v _ => c.ins.length - iOf v)
  case atStart => exact ⟨0, Nat.zero_le _, rfl, Lib.hid (fun j _ h => by omega), hW, hX⟩
  case round =>
    clear hW hX
    obtain ⟨i, hi, rfl, hI, hW, hX⟩ := hrel
    have s0 := hX.cell 0
    have s1 := hX.cell 1
    have s2 := hX.cell 2
    have s3 := hX.cell 3
    have hwi : IntKind.i64.wrap ((i : Int) + 1) = ((i + 1 : Nat) : Int) := by rw [IntWalk.i64_in _ (by omega)]; omega
    by_cases hlt : i < c.ins.length
    · have hic : (i : Int) < (c.ins.length : Int) := by omega
      obtain ⟨gi, oi, eI, d0, d1, d2, d3, d4, d5, d6, d7⟩ := (hx.later hW).i i hlt
      have kI : ∀ w5, Below wr.heap.size wr w5 → Calls Tryz.prog 38 #[.agg #[.slice x.S c.st.length x.sc, .slice x.N c.nm.length x.nc, .slice x.I c.ins.length x.ic, .slice x.K c.bk.length x.kc], .agg #[.int .i64 c.ins[i].op, .int .i64 c.ins[i].w, .int .i64 c.ins[i].p, .int .i64 c.ins[i].a, .int .i64 c.ins[i].b, .int .i64 c.ins[i].c, .int .u64 c.ins[i].n, .int .i64 c.ins[i].at_]] w5 fun e w' => e = .returned (.bool (B (InsW c c.ins[i]))) ∧ Below w5.heap.size w5 w' := fun w5 h5 => rinst_any (hx.later (hW.trans (h5.mono hW.size))) ok.out hst hnm c.ins[i] (ok.out.ins _ (List.getElem_mem hlt)).2.2.2.2.2.2.1
      rw [eI] at s2 kI
      by_cases hQ : InsW c c.ins[i]
      · rw [B_of hQ] at kI
        have hI2 : Hid (InsTo c (i + 1)) := Lib.hid (fun j hj hji => by
          by_cases e : j = i
          · subst e; exact hQ
          · exact hI.out j hj (by omega))
        clear hI hQ eI
        go_wp2_with fail
        have hmk : ∀ w', Below wr.heap.size wr w' → w'.cell? ⟨bu, 0, none⟩ = some (.slice x.S c.st.length x.sc) ∧ w'.cell? ⟨bu, 1, none⟩ = some (.slice x.N c.nm.length x.nc) ∧ w'.cell? ⟨bu, 2, none⟩ = some (.slice (some ⟨gi, oi, none⟩) c.ins.length x.ic) ∧ w'.cell? ⟨bu, 3, none⟩ = some (.slice x.K c.bk.length x.kc) ∧ w'.cell? ⟨gi, oi + i * 8, none⟩ = some (.int .i64 c.ins[i].op) ∧ w'.cell? ⟨gi, oi + i * 8 + 1, none⟩ = some (.int .i64 c.ins[i].w) ∧ w'.cell? ⟨gi, oi + i * 8 + 2, none⟩ = some (.int .i64 c.ins[i].p) ∧ w'.cell? ⟨gi, oi + i * 8 + 3, none⟩ = some (.int .i64 c.ins[i].a) ∧ w'.cell? ⟨gi, oi + i * 8 + 4, none⟩ = some (.int .i64 c.ins[i].b) ∧ w'.cell? ⟨gi, oi + i * 8 + 5, none⟩ = some (.int .i64 c.ins[i].c) ∧ w'.cell? ⟨gi, oi + i * 8 + 6, none⟩ = some (.int .u64 c.ins[i].n) ∧ w'.cell? ⟨gi, oi + i * 8 + 7, none⟩ = some (.int .i64 c.ins[i].at_) ∧ Below wr.heap.size wr w' := fun w' hb => ⟨cell_later hb s0, cell_later hb s1, cell_later hb s2, cell_later hb s3, cell_later hb d0, cell_later hb d1, cell_later hb d2, cell_later hb d3, cell_later hb d4, cell_later hb d5, cell_later hb d6, cell_later hb d7, hb⟩
        clear s0 s1 s2 s3 d0 d1 d2 d3 d4 d5 d6 d7
        refine wp_region_held_drew (S := (fun w' => w'.cell? ⟨bu, 0, none⟩ = some (.slice x.S c.st.length x.sc) ∧ w'.cell? ⟨bu, 1, none⟩ = some (.slice x.N c.nm.length x.nc) ∧ w'.cell? ⟨bu, 2, none⟩ = some (.slice (some ⟨gi, oi, none⟩) c.ins.length x.ic) ∧ w'.cell? ⟨bu, 3, none⟩ = some (.slice x.K c.bk.length x.kc) ∧ w'.cell? ⟨gi, oi + i * 8, none⟩ = some (.int .i64 c.ins[i].op) ∧ w'.cell? ⟨gi, oi + i * 8 + 1, none⟩ = some (.int .i64 c.ins[i].w) ∧ w'.cell? ⟨gi, oi + i * 8 + 2, none⟩ = some (.int .i64 c.ins[i].p) ∧ w'.cell? ⟨gi, oi + i * 8 + 3, none⟩ = some (.int .i64 c.ins[i].a) ∧ w'.cell? ⟨gi, oi + i * 8 + 4, none⟩ = some (.int .i64 c.ins[i].b) ∧ w'.cell? ⟨gi, oi + i * 8 + 5, none⟩ = some (.int .i64 c.ins[i].c) ∧ w'.cell? ⟨gi, oi + i * 8 + 6, none⟩ = some (.int .u64 c.ins[i].n) ∧ w'.cell? ⟨gi, oi + i * 8 + 7, none⟩ = some (.int .i64 c.ins[i].at_) ∧ Below wr.heap.size wr w')) (by kernel_rfl) (hmk _ (Drew.below ⟨1, rfl⟩)) (fun hHeld => ?_)
        refine wpAnyH_take (i := 0) (v := ?_) rfl (by kernel_rfl) (by kernel_rfl) (by kernel_rfl) (fun _ _ _ h => h) (Or.inl ⟨by rfl, ?_⟩) (by assumption) ?_
        rotate_left
        · (intro w hSw; (try dsimp only at hSw); go_simp; try (with_reducible rfl))
        try simp only [sm]
        refine wpAnyH_take (i := 1) (v := ?_) rfl (by kernel_rfl) (by kernel_rfl) (by kernel_rfl) (fun _ _ _ h => h) (Or.inl ⟨by rfl, ?_⟩) (by assumption) ?_
        rotate_left
        · (intro w hSw; (try dsimp only at hSw); go_simp; try (with_reducible rfl))
        try simp only [sm]
        refine wpAnyH_take (i := 2) (v := ?_) rfl (by kernel_rfl) (by kernel_rfl) (by kernel_rfl) (fun _ _ _ h => h) (Or.inl ⟨by rfl, ?_⟩) (by assumption) ?_
        rotate_left
        · (intro w hSw; (try dsimp only at hSw); go_simp; try (with_reducible rfl))
        try simp only [sm]
        refine wpAnyH_take (i := 3) (v := ?_) rfl (by kernel_rfl) (by kernel_rfl) (by kernel_rfl) (fun _ _ _ h => h) (Or.inl ⟨by rfl, ?_⟩) (by assumption) ?_
        rotate_left
        · (intro w hSw; (try dsimp only at hSw); go_simp; try (with_reducible rfl))
        try simp only [sm]
        refine wpAnyH_take (i := 4) (v := ?_) rfl (by kernel_rfl) (by kernel_rfl) (by kernel_rfl) (fun _ _ _ h => h) (Or.inl ⟨by rfl, ?_⟩) (by assumption) ?_
        rotate_left
        · (intro w hSw; (try dsimp only at hSw); go_simp; try (with_reducible rfl))
        try simp only [sm]
        refine wpAnyH_take (i := 5) (v := ?_) rfl (by kernel_rfl) (by kernel_rfl) (by kernel_rfl) (fun _ _ _ h => h) (Or.inl ⟨by rfl, ?_⟩) (by assumption) ?_
        rotate_left
        · (intro w hSw; (try dsimp only at hSw); go_simp; try (with_reducible rfl))
        try simp only [sm]
        refine wpAnyH_ready (rs := [6]) (by kernel_rfl) (by simp) ?_
        refine AllReadyH.cons rfl (fun K hK => ?_) AllReadyH.nil
        go_simp
        refine (kI _ (Drew.below ⟨1, rfl⟩)).mono ?_
        rintro e w5 ⟨rfl, b5⟩
        have hS5 : Below wr.heap.size wr w5 := (Drew.below ⟨1, rfl⟩).trans (b5.mono (Nat.le_refl _))
        refine hK.out _ _ (hmk _ hS5) (fun hHeld => ?_)
        clear hK
        try simp only [sm]
        refine wpAnyH_take (i := 7) (v := ?_) rfl (by kernel_rfl) (by kernel_rfl) (by kernel_rfl) (fun _ _ _ h => h) (Or.inl ⟨by rfl, ?_⟩) (by assumption) ?_
        rotate_left
        · (intro w hSw; (try dsimp only at hSw); go_simp; try (with_reducible rfl))
        try simp only [sm]
        refine wpAnyH_done (by kernel_rfl) ?_ _
        have hW5 := hW.trans (hS5.mono hW.size)
        have hX5 := hX.below hS5
        clear hmk
        clear kI
        go_wp2_with fail
        go_roundw
        case rel => exact ⟨i + 1, hlt, by go_num, hI2, hW5, hX5⟩
        case measure => simp only [iOf]; omega
      · rw [B_not hQ] at kI
        have hz : Hid (Z = false) := Lib.hid (by rw [← hZ.out]; exact B_not (fun h => hQ (h.ins _ (List.getElem_mem hlt))))
        clear hI hQ eI hZ
        go_wp2_with fail
        have hmk : ∀ w', Below wr.heap.size wr w' → w'.cell? ⟨bu, 0, none⟩ = some (.slice x.S c.st.length x.sc) ∧ w'.cell? ⟨bu, 1, none⟩ = some (.slice x.N c.nm.length x.nc) ∧ w'.cell? ⟨bu, 2, none⟩ = some (.slice (some ⟨gi, oi, none⟩) c.ins.length x.ic) ∧ w'.cell? ⟨bu, 3, none⟩ = some (.slice x.K c.bk.length x.kc) ∧ w'.cell? ⟨gi, oi + i * 8, none⟩ = some (.int .i64 c.ins[i].op) ∧ w'.cell? ⟨gi, oi + i * 8 + 1, none⟩ = some (.int .i64 c.ins[i].w) ∧ w'.cell? ⟨gi, oi + i * 8 + 2, none⟩ = some (.int .i64 c.ins[i].p) ∧ w'.cell? ⟨gi, oi + i * 8 + 3, none⟩ = some (.int .i64 c.ins[i].a) ∧ w'.cell? ⟨gi, oi + i * 8 + 4, none⟩ = some (.int .i64 c.ins[i].b) ∧ w'.cell? ⟨gi, oi + i * 8 + 5, none⟩ = some (.int .i64 c.ins[i].c) ∧ w'.cell? ⟨gi, oi + i * 8 + 6, none⟩ = some (.int .u64 c.ins[i].n) ∧ w'.cell? ⟨gi, oi + i * 8 + 7, none⟩ = some (.int .i64 c.ins[i].at_) ∧ Below wr.heap.size wr w' := fun w' hb => ⟨cell_later hb s0, cell_later hb s1, cell_later hb s2, cell_later hb s3, cell_later hb d0, cell_later hb d1, cell_later hb d2, cell_later hb d3, cell_later hb d4, cell_later hb d5, cell_later hb d6, cell_later hb d7, hb⟩
        clear s0 s1 s2 s3 d0 d1 d2 d3 d4 d5 d6 d7
        refine wp_region_held_drew (S := (fun w' => w'.cell? ⟨bu, 0, none⟩ = some (.slice x.S c.st.length x.sc) ∧ w'.cell? ⟨bu, 1, none⟩ = some (.slice x.N c.nm.length x.nc) ∧ w'.cell? ⟨bu, 2, none⟩ = some (.slice (some ⟨gi, oi, none⟩) c.ins.length x.ic) ∧ w'.cell? ⟨bu, 3, none⟩ = some (.slice x.K c.bk.length x.kc) ∧ w'.cell? ⟨gi, oi + i * 8, none⟩ = some (.int .i64 c.ins[i].op) ∧ w'.cell? ⟨gi, oi + i * 8 + 1, none⟩ = some (.int .i64 c.ins[i].w) ∧ w'.cell? ⟨gi, oi + i * 8 + 2, none⟩ = some (.int .i64 c.ins[i].p) ∧ w'.cell? ⟨gi, oi + i * 8 + 3, none⟩ = some (.int .i64 c.ins[i].a) ∧ w'.cell? ⟨gi, oi + i * 8 + 4, none⟩ = some (.int .i64 c.ins[i].b) ∧ w'.cell? ⟨gi, oi + i * 8 + 5, none⟩ = some (.int .i64 c.ins[i].c) ∧ w'.cell? ⟨gi, oi + i * 8 + 6, none⟩ = some (.int .u64 c.ins[i].n) ∧ w'.cell? ⟨gi, oi + i * 8 + 7, none⟩ = some (.int .i64 c.ins[i].at_) ∧ Below wr.heap.size wr w')) (by kernel_rfl) (hmk _ (Drew.below ⟨1, rfl⟩)) (fun hHeld => ?_)
        refine wpAnyH_take (i := 0) (v := ?_) rfl (by kernel_rfl) (by kernel_rfl) (by kernel_rfl) (fun _ _ _ h => h) (Or.inl ⟨by rfl, ?_⟩) (by assumption) ?_
        rotate_left
        · (intro w hSw; (try dsimp only at hSw); go_simp; try (with_reducible rfl))
        try simp only [sm]
        refine wpAnyH_take (i := 1) (v := ?_) rfl (by kernel_rfl) (by kernel_rfl) (by kernel_rfl) (fun _ _ _ h => h) (Or.inl ⟨by rfl, ?_⟩) (by assumption) ?_
        rotate_left
        · (intro w hSw; (try dsimp only at hSw); go_simp; try (with_reducible rfl))
        try simp only [sm]
        refine wpAnyH_take (i := 2) (v := ?_) rfl (by kernel_rfl) (by kernel_rfl) (by kernel_rfl) (fun _ _ _ h => h) (Or.inl ⟨by rfl, ?_⟩) (by assumption) ?_
        rotate_left
        · (intro w hSw; (try dsimp only at hSw); go_simp; try (with_reducible rfl))
        try simp only [sm]
        refine wpAnyH_take (i := 3) (v := ?_) rfl (by kernel_rfl) (by kernel_rfl) (by kernel_rfl) (fun _ _ _ h => h) (Or.inl ⟨by rfl, ?_⟩) (by assumption) ?_
        rotate_left
        · (intro w hSw; (try dsimp only at hSw); go_simp; try (with_reducible rfl))
        try simp only [sm]
        refine wpAnyH_take (i := 4) (v := ?_) rfl (by kernel_rfl) (by kernel_rfl) (by kernel_rfl) (fun _ _ _ h => h) (Or.inl ⟨by rfl, ?_⟩) (by assumption) ?_
        rotate_left
        · (intro w hSw; (try dsimp only at hSw); go_simp; try (with_reducible rfl))
        try simp only [sm]
        refine wpAnyH_take (i := 5) (v := ?_) rfl (by kernel_rfl) (by kernel_rfl) (by kernel_rfl) (fun _ _ _ h => h) (Or.inl ⟨by rfl, ?_⟩) (by assumption) ?_
        rotate_left
        · (intro w hSw; (try dsimp only at hSw); go_simp; try (with_reducible rfl))
        try simp only [sm]
        refine wpAnyH_ready (rs := [6]) (by kernel_rfl) (by simp) ?_
        refine AllReadyH.cons rfl (fun K hK => ?_) AllReadyH.nil
        go_simp
        refine (kI _ (Drew.below ⟨1, rfl⟩)).mono ?_
        rintro e w5 ⟨rfl, b5⟩
        have hS5 : Below wr.heap.size wr w5 := (Drew.below ⟨1, rfl⟩).trans (b5.mono (Nat.le_refl _))
        refine hK.out _ _ (hmk _ hS5) (fun hHeld => ?_)
        clear hK
        try simp only [sm]
        refine wpAnyH_take (i := 7) (v := ?_) rfl (by kernel_rfl) (by kernel_rfl) (by kernel_rfl) (fun _ _ _ h => h) (Or.inl ⟨by rfl, ?_⟩) (by assumption) ?_
        rotate_left
        · (intro w hSw; (try dsimp only at hSw); go_simp; try (with_reducible rfl))
        try simp only [sm]
        refine wpAnyH_done (by kernel_rfl) ?_ _
        have hW5 := hW.trans (hS5.mono hW.size)
        have hX5 := hX.below hS5
        clear hmk
        clear kI
        go_wp2
        go_ret
        exact ⟨by rw [hz.out]; rfl, hW5⟩
    · have hie : i = c.ins.length := by omega
      subst hie
      have hic : ¬ ((c.ins.length : Int) < (c.ins.length : Int)) := by omega
      have hins : Hid (∀ y ∈ c.ins, InsW c y) := Lib.hid (fun y hy => by
        obtain ⟨j, hj, rfl⟩ := List.getElem_of_mem hy
        exact hI.out j hj hj)
      clear hI hlt hwi
      go_wp2_with fail
      go_loopw [4, 5, 6, 7] (fun v _ _ _ wr => ∃ b, b ≤ c.bk.length ∧ v = .int .i64 (b : Nat) ∧ Hid (BksTo c b) ∧ Below W.heap.size W wr ∧ Box wr bu 27 #[.slice x.S c.st.length x.sc, .slice x.N c.nm.length x.nc, .slice x.I c.ins.length x.ic, .slice x.K c.bk.length x.kc]) (fun v _ _ _ _ => c.bk.length - iOf v)
      case atStart => exact ⟨0, Nat.zero_le _, rfl, Lib.hid (fun j _ h => by omega), hW, hX⟩
      case round =>
        clear hW hX s0 s1 s2 s3
        obtain ⟨b, hbl, rfl, hI, hW, hX⟩ := hrel
        have s0 := hX.cell 0
        have s1 := hX.cell 1
        have s2 := hX.cell 2
        have s3 := hX.cell 3
        by_cases hbn : b < c.bk.length
        · have hbc : (b : Int) < (c.bk.length : Int) := by omega
          have hwb : IntKind.i64.wrap ((b : Int) + 1) = ((b + 1 : Nat) : Int) := by rw [IntWalk.i64_in _ (by omega)]; omega
          obtain ⟨f, t, hf, ht, hft, htn⟩ := bk_nat hch.out hbn
          obtain ⟨g, o, TA, EA, tc, ec, eK, ⟨c0, _, _, _, _, _, _, _, _, _⟩, _⟩ := (hx.later hW).k b hbn
          rw [hf] at c0
          have hff : Hid (c.bk[b].frm = f) := Lib.hid hf
          have htl : Hid (c.bk[b].til = t) := Lib.hid ht
          have kP : ∀ w5, Below wr.heap.size wr w5 → Calls Tryz.prog 39 #[.agg #[.slice x.S c.st.length x.sc, .slice x.N c.nm.length x.nc, .slice x.I c.ins.length x.ic, .slice x.K c.bk.length x.kc], .int .i64 (b : Nat)] w5 fun e w' => e = .returned (.int .i64 (parR c c.bk[b])) ∧ Below w5.heap.size w5 w' := fun w5 h5 => rParams_any (hx.later (hW.trans (h5.mono hW.size))) hch.out hin b hbn
          obtain ⟨p, hp⟩ : ∃ p, Hid (parR c c.bk[b] = p) := ⟨_, Lib.hid rfl⟩
          have hpt : f + p ≤ t := by
            have h1 := par_le (c := c) (b := c.bk[b])
            have h2 := ins_len hch.out (List.getElem_mem hbn)
            rw [hp.out] at h1
            omega
          rw [hp.out] at kP
          rw [eK] at s3 kP
          have hwp : IntKind.i64.wrap ((f : Int) + (p : Int)) = ((f + p : Nat) : Int) := by rw [IntWalk.i64_in _ (by omega)]; omega
          clear hf ht eK
          go_wp2_with fail
          have hmk : ∀ w', Below wr.heap.size wr w' → w'.cell? ⟨bu, 0, none⟩ = some (.slice x.S c.st.length x.sc) ∧ w'.cell? ⟨bu, 1, none⟩ = some (.slice x.N c.nm.length x.nc) ∧ w'.cell? ⟨bu, 2, none⟩ = some (.slice x.I c.ins.length x.ic) ∧ w'.cell? ⟨bu, 3, none⟩ = some (.slice (some ⟨g, o, none⟩) c.bk.length x.kc) ∧ w'.cell? ⟨g, o + b * 10, none⟩ = some (.int .i64 (f : Int)) ∧ Below wr.heap.size wr w' := fun w' hb => ⟨cell_later hb s0, cell_later hb s1, cell_later hb s2, cell_later hb s3, cell_later hb c0, hb⟩
          clear s0 s1 s2 s3 c0
          refine wp_region_held_drew (S := (fun w' => w'.cell? ⟨bu, 0, none⟩ = some (.slice x.S c.st.length x.sc) ∧ w'.cell? ⟨bu, 1, none⟩ = some (.slice x.N c.nm.length x.nc) ∧ w'.cell? ⟨bu, 2, none⟩ = some (.slice x.I c.ins.length x.ic) ∧ w'.cell? ⟨bu, 3, none⟩ = some (.slice (some ⟨g, o, none⟩) c.bk.length x.kc) ∧ w'.cell? ⟨g, o + b * 10, none⟩ = some (.int .i64 (f : Int)) ∧ Below wr.heap.size wr w')) (by kernel_rfl) (hmk _ (Drew.below ⟨1, rfl⟩)) (fun hHeld => ?_)
          refine wpAnyH_take (i := 0) (v := ?_) rfl (by kernel_rfl) (by kernel_rfl) (by kernel_rfl) (fun _ _ _ h => h) (Or.inl ⟨by rfl, ?_⟩) (by assumption) ?_
          rotate_left
          · (intro w hSw; (try dsimp only at hSw); go_simp; try (with_reducible rfl))
          try simp only [sm]
          refine wpAnyH_take (i := 1) (v := ?_) rfl (by kernel_rfl) (by kernel_rfl) (by kernel_rfl) (fun _ _ _ h => h) (Or.inl ⟨by rfl, ?_⟩) (by assumption) ?_
          rotate_left
          · (intro w hSw; (try dsimp only at hSw); go_simp; try (with_reducible rfl))
          try simp only [sm]
          refine wpAnyH_take (i := 2) (v := ?_) rfl (by kernel_rfl) (by kernel_rfl) (by kernel_rfl) (fun _ _ _ h => h) (Or.inl ⟨by rfl, ?_⟩) (by assumption) ?_
          rotate_left
          · (intro w hSw; (try dsimp only at hSw); go_simp; try (with_reducible rfl))
          try simp only [sm]
          refine wpAnyH_take (i := 3) (v := ?_) rfl (by kernel_rfl) (by kernel_rfl) (by kernel_rfl) (fun _ _ _ h => h) (Or.inl ⟨by rfl, ?_⟩) (by assumption) ?_
          rotate_left
          · (intro w hSw; (try dsimp only at hSw); go_simp; try (with_reducible rfl))
          try simp only [sm]
          refine wpAnyH_take (i := 4) (v := ?_) rfl (by kernel_rfl) (by kernel_rfl) (by kernel_rfl) (fun _ _ _ h => h) (Or.inl ⟨by rfl, ?_⟩) (by assumption) ?_
          rotate_left
          · (intro w hSw; (try dsimp only at hSw); go_simp; try (with_reducible rfl))
          try simp only [sm]
          refine wpAnyH_take (i := 5) (v := ?_) rfl (by kernel_rfl) (by kernel_rfl) (by kernel_rfl) (fun _ _ _ h => h) (Or.inl ⟨by rfl, ?_⟩) (by assumption) ?_
          rotate_left
          · (intro w hSw; (try dsimp only at hSw); go_simp; try (with_reducible rfl))
          try simp only [sm]
          refine wpAnyH_take (i := 6) (v := ?_) rfl (by kernel_rfl) (by kernel_rfl) (by kernel_rfl) (fun _ _ _ h => h) (Or.inl ⟨by rfl, ?_⟩) (by assumption) ?_
          rotate_left
          · (intro w hSw; (try dsimp only at hSw); go_simp; try (with_reducible rfl))
          try simp only [sm]
          refine wpAnyH_take (i := 7) (v := ?_) rfl (by kernel_rfl) (by kernel_rfl) (by kernel_rfl) (fun _ _ _ h => h) (Or.inl ⟨by rfl, ?_⟩) (by assumption) ?_
          rotate_left
          · (intro w hSw; (try dsimp only at hSw); go_simp; try (with_reducible rfl))
          try simp only [sm]
          refine wpAnyH_ready (rs := [8]) (by kernel_rfl) (by simp) ?_
          refine AllReadyH.cons rfl (fun K hK => ?_) AllReadyH.nil
          go_simp
          refine (kP _ (Drew.below ⟨1, rfl⟩)).mono ?_
          rintro e w5 ⟨rfl, b5⟩
          have hS5 : Below wr.heap.size wr w5 := (Drew.below ⟨1, rfl⟩).trans (b5.mono (Nat.le_refl _))
          refine hK.out _ _ (hmk _ hS5) (fun hHeld => ?_)
          clear hK
          try simp only [sm]
          refine wpAnyH_take (i := 9) (v := ?_) rfl (by kernel_rfl) (by kernel_rfl) (by kernel_rfl) (fun _ _ _ h => h) (Or.inl ⟨by rfl, ?_⟩) (by assumption) ?_
          rotate_left
          · (intro w hSw; (try dsimp only at hSw); go_simp; try (with_reducible rfl))
          try simp only [sm]
          refine wpAnyH_take (i := 10) (v := ?_) rfl (by kernel_rfl) (by kernel_rfl) (by kernel_rfl) (fun _ _ _ h => h) (Or.inl ⟨by rfl, ?_⟩) (by assumption) ?_
          rotate_left
          · (intro w hSw; (try dsimp only at hSw); go_simp; try (with_reducible rfl))
          try simp only [sm]
          refine wpAnyH_done (by kernel_rfl) ?_ _
          have hW5 := hW.trans (hS5.mono hW.size)
          have hX5 := hX.below hS5
          clear hmk
          clear kP hW hX hwp
          go_wp2_with fail
          go_loopw [5] (fun v wr => ∃ j, f + p ≤ j ∧ j ≤ t ∧ v = .int .i64 (j : Nat) ∧ Hid (∀ (k : Nat) (hk : k < c.ins.length), f + p ≤ k → k < j → c.ins[k].op ≠ 30) ∧ Below W.heap.size W wr ∧ Box wr bu 27 #[.slice x.S c.st.length x.sc, .slice x.N c.nm.length x.nc, .slice x.I c.ins.length x.ic, .slice x.K c.bk.length x.kc]) (fun v _ => t - iOf v)
          case atStart => exact ⟨f + p, Nat.le_refl _, hpt, by go_num, Lib.hid (fun k _ h1 h2 => by omega), hW5, hX5⟩
          case round =>
            clear hW5 hX5 hS5 b5
            obtain ⟨j, hfj, hjt, rfl, hJ, hW, hX⟩ := hrel
            have s0 := hX.cell 0
            have s1 := hX.cell 1
            have s2 := hX.cell 2
            have s3 := hX.cell 3
            obtain ⟨g, o, TA, EA, tc, ec, eK, ⟨c0, c1, c2, c3, c4, c5, c6, c7, c8, c9⟩, hle⟩ := (hx.later hW).k b hbn
            rw [htl.out] at c1
            by_cases hjl : j < t
            · have hjc : (j : Int) < (t : Int) := by omega
              have hji : j < c.ins.length := by omega
              have hjn : (j : Int) < (c.ins.length : Int) := by omega
              have hwj : IntKind.i64.wrap ((j : Int) + 1) = ((j + 1 : Nat) : Int) := by rw [IntWalk.i64_in _ (by omega)]; omega
              obtain ⟨gi, oi, eI, d0, _, _, _, _, _, _, _⟩ := (hx.later hW).i j hji
              rw [eK] at s3
              rw [eI] at s2
              by_cases ho : c.ins[j].op = 30
              · have t1 : (c.ins[j].op == 30) = true := by simpa using ho
                have hz : Hid (Z = false) := Lib.hid (by rw [← hZ.out]; exact B_not (fun h => (h.bks _ (List.getElem_mem hbn)).1 j hji (by rw [hff.out, hp.out]; omega) (by rw [htl.out]; omega) ho))
                clear hJ ho hZ eK eI c0 c2 c3 c4 c5 c6 c7 c8 c9 hle hI
                go_wp2
                go_ret
                exact ⟨by rw [hz.out]; rfl, hW⟩
              · have t1 : (c.ins[j].op == 30) = false := by simpa using ho
                have hJ2 : Hid (∀ (k : Nat) (hk : k < c.ins.length), f + p ≤ k → k < j + 1 → c.ins[k].op ≠ 30) := Lib.hid (fun k hk h1 h2 => by
                  by_cases e : k = j
                  · subst e; exact ho
                  · exact hJ.out k hk h1 (by omega))
                clear hJ ho eK eI c0 c2 c3 c4 c5 c6 c7 c8 c9 hle
                go_wp2_with fail
                go_roundw
                case rel => exact ⟨j + 1, by omega, hjl, by go_num, hJ2, hW, hX⟩
                case measure => simp only [iOf]; omega
            · have hje : j = t := by omega
              subst hje
              have hjc : ¬ ((j : Int) < (j : Int)) := by omega
              have hlat : Hid (∀ (k : Nat) (hk : k < c.ins.length), c.bk[b].frm + parR c c.bk[b] ≤ (k : Int) → (k : Int) < c.bk[b].til → c.ins[k].op ≠ 30) := Lib.hid (fun k hk h1 h2 => hJ.out k hk (by rw [hff.out, hp.out] at h1; omega) (by rw [htl.out] at h2; omega))
              have kE : ∀ w5, Below wr.heap.size wr w5 → Calls Tryz.prog 40 #[.agg #[.slice x.S c.st.length x.sc, .slice x.N c.nm.length x.nc, .slice x.I c.ins.length x.ic, .slice x.K c.bk.length x.kc], .agg #[.int .i64 c.bk[b].en.kind, .int .i64 c.bk[b].en.a, .int .i64 c.bk[b].en.to, .int .i64 c.bk[b].en.els, .slice TA c.bk[b].en.ta.length tc, .slice EA c.bk[b].en.ea.length ec, .int .i64 c.bk[b].en.n, .int .i64 c.bk[b].en.at_]] w5 fun e w' => e = .returned (.bool (B (EndR c c.bk[b].en))) ∧ Below w5.heap.size w5 w' := fun w5 h5 => rend_any (hx.later (hW.trans (h5.mono hW.size))) hch.out hin c.bk[b].en TA EA tc ec (hle.later h5)
              have hbad : ¬ EndR c c.bk[b].en → Hid (Z = false) := fun hE => Lib.hid (by rw [← hZ.out]; exact B_not (fun h => hE (h.bks _ (List.getElem_mem hbn)).2.1))
              have hgood : EndR c c.bk[b].en → (∀ e ∈ edges c.bk[b].en, e.to ≠ 0) → Hid (BksTo c (b + 1)) := fun hE hN => Lib.hid (fun j hj hjb => by
                by_cases e : j = b
                · subst e; exact ⟨hlat.out, hE, hN⟩
                · exact hI.out j hj (by omega))
              have hnz : (∃ e ∈ edges c.bk[b].en, e.to = 0) → Hid (Z = false) := fun ⟨e, he, h0⟩ => Lib.hid (by rw [← hZ.out]; exact B_not (fun h => (h.bks _ (List.getElem_mem hbn)).2.2 e he h0))
              have kS : ∀ w5, Below W.heap.size W w5 → Calls Tryz.prog 26 #[.agg #[.slice x.S c.st.length x.sc, .slice x.N c.nm.length x.nc, .slice x.I c.ins.length x.ic, .slice x.K c.bk.length x.kc], .int .i64 (b : Nat)] w5 (ListP w5 ((edges c.bk[b].en).map (·.to))) := fun w5 h5 => Succs_any (hx.later h5) b hbn
              replace hbad := Lib.hid hbad
              replace hgood := Lib.hid hgood
              replace hnz := Lib.hid hnz
              obtain ⟨y, hy⟩ : ∃ y, Hid (c.bk[b].en = y) := ⟨_, Lib.hid rfl⟩
              simp only [hy.out] at c2 c3 c4 c5 c6 c7 c8 c9 kE hbad hgood hnz kS
              have d3 : wr.cell? ⟨g, o + b * 10 + 3, none⟩ = some (.int .i64 y.a) := c3
              have d4 : wr.cell? ⟨g, o + b * 10 + 4, none⟩ = some (.int .i64 y.to) := c4
              have d5 : wr.cell? ⟨g, o + b * 10 + 5, none⟩ = some (.int .i64 y.els) := c5
              have d6 : wr.cell? ⟨g, o + b * 10 + 6, none⟩ = some (.slice TA y.ta.length tc) := c6
              have d7 : wr.cell? ⟨g, o + b * 10 + 7, none⟩ = some (.slice EA y.ea.length ec) := c7
              have d8 : wr.cell? ⟨g, o + b * 10 + 8, none⟩ = some (.int .i64 y.n) := c8
              have d9 : wr.cell? ⟨g, o + b * 10 + 9, none⟩ = some (.int .i64 y.at_) := c9
              rw [eK] at s3 kE kS
              replace kS := Lib.hid kS
              clear hJ hlat hle eK c0 c3 c4 c5 c6 c7 c8 c9 hy hI
              by_cases hE : EndR c y
              rotate_left
              · have hz := hbad.out hE
                rw [B_not hE] at kE
                clear hbad hgood hnz hE hZ kS
                go_wp2_with fail
                clear c1
                have hmk : ∀ w', Below wr.heap.size wr w' → w'.cell? ⟨bu, 0, none⟩ = some (.slice x.S c.st.length x.sc) ∧ w'.cell? ⟨bu, 1, none⟩ = some (.slice x.N c.nm.length x.nc) ∧ w'.cell? ⟨bu, 2, none⟩ = some (.slice x.I c.ins.length x.ic) ∧ w'.cell? ⟨bu, 3, none⟩ = some (.slice (some ⟨g, o, none⟩) c.bk.length x.kc) ∧ w'.cell? ⟨g, o + b * 10 + 2, none⟩ = some (.int .i64 y.kind) ∧ w'.cell? ⟨g, o + b * 10 + 3, none⟩ = some (.int .i64 y.a) ∧ w'.cell? ⟨g, o + b * 10 + 4, none⟩ = some (.int .i64 y.to) ∧ w'.cell? ⟨g, o + b * 10 + 5, none⟩ = some (.int .i64 y.els) ∧ w'.cell? ⟨g, o + b * 10 + 6, none⟩ = some (.slice TA y.ta.length tc) ∧ w'.cell? ⟨g, o + b * 10 + 7, none⟩ = some (.slice EA y.ea.length ec) ∧ w'.cell? ⟨g, o + b * 10 + 8, none⟩ = some (.int .i64 y.n) ∧ w'.cell? ⟨g, o + b * 10 + 9, none⟩ = some (.int .i64 y.at_) ∧ Below wr.heap.size wr w' := fun w' hb => ⟨cell_later hb s0, cell_later hb s1, cell_later hb s2, cell_later hb s3, cell_later hb c2, cell_later hb d3, cell_later hb d4, cell_later hb d5, cell_later hb d6, cell_later hb d7, cell_later hb d8, cell_later hb d9, hb⟩
                clear s0 s1 s2 s3 c2 d3 d4 d5 d6 d7 d8 d9
                refine wp_region_held_drew (S := (fun w' => w'.cell? ⟨bu, 0, none⟩ = some (.slice x.S c.st.length x.sc) ∧ w'.cell? ⟨bu, 1, none⟩ = some (.slice x.N c.nm.length x.nc) ∧ w'.cell? ⟨bu, 2, none⟩ = some (.slice x.I c.ins.length x.ic) ∧ w'.cell? ⟨bu, 3, none⟩ = some (.slice (some ⟨g, o, none⟩) c.bk.length x.kc) ∧ w'.cell? ⟨g, o + b * 10 + 2, none⟩ = some (.int .i64 y.kind) ∧ w'.cell? ⟨g, o + b * 10 + 3, none⟩ = some (.int .i64 y.a) ∧ w'.cell? ⟨g, o + b * 10 + 4, none⟩ = some (.int .i64 y.to) ∧ w'.cell? ⟨g, o + b * 10 + 5, none⟩ = some (.int .i64 y.els) ∧ w'.cell? ⟨g, o + b * 10 + 6, none⟩ = some (.slice TA y.ta.length tc) ∧ w'.cell? ⟨g, o + b * 10 + 7, none⟩ = some (.slice EA y.ea.length ec) ∧ w'.cell? ⟨g, o + b * 10 + 8, none⟩ = some (.int .i64 y.n) ∧ w'.cell? ⟨g, o + b * 10 + 9, none⟩ = some (.int .i64 y.at_) ∧ Below wr.heap.size wr w')) (by kernel_rfl) (hmk _ (Drew.below ⟨1, rfl⟩)) (fun hHeld => ?_)
                refine wpAnyH_take (i := 0) (v := ?_) rfl (by kernel_rfl) (by kernel_rfl) (by kernel_rfl) (fun _ _ _ h => h) (Or.inl ⟨by rfl, ?_⟩) (by assumption) ?_
                rotate_left
                · (intro w hSw; (try dsimp only at hSw); go_simp; try (with_reducible rfl))
                try simp only [sm]
                refine wpAnyH_take (i := 1) (v := ?_) rfl (by kernel_rfl) (by kernel_rfl) (by kernel_rfl) (fun _ _ _ h => h) (Or.inl ⟨by rfl, ?_⟩) (by assumption) ?_
                rotate_left
                · (intro w hSw; (try dsimp only at hSw); go_simp; try (with_reducible rfl))
                try simp only [sm]
                refine wpAnyH_take (i := 2) (v := ?_) rfl (by kernel_rfl) (by kernel_rfl) (by kernel_rfl) (fun _ _ _ h => h) (Or.inl ⟨by rfl, ?_⟩) (by assumption) ?_
                rotate_left
                · (intro w hSw; (try dsimp only at hSw); go_simp; try (with_reducible rfl))
                try simp only [sm]
                refine wpAnyH_take (i := 3) (v := ?_) rfl (by kernel_rfl) (by kernel_rfl) (by kernel_rfl) (fun _ _ _ h => h) (Or.inl ⟨by rfl, ?_⟩) (by assumption) ?_
                rotate_left
                · (intro w hSw; (try dsimp only at hSw); go_simp; try (with_reducible rfl))
                try simp only [sm]
                refine wpAnyH_take (i := 4) (v := ?_) rfl (by kernel_rfl) (by kernel_rfl) (by kernel_rfl) (fun _ _ _ h => h) (Or.inl ⟨by rfl, ?_⟩) (by assumption) ?_
                rotate_left
                · (intro w hSw; (try dsimp only at hSw); go_simp; try (with_reducible rfl))
                try simp only [sm]
                refine wpAnyH_take (i := 5) (v := ?_) rfl (by kernel_rfl) (by kernel_rfl) (by kernel_rfl) (fun _ _ _ h => h) (Or.inl ⟨by rfl, ?_⟩) (by assumption) ?_
                rotate_left
                · (intro w hSw; (try dsimp only at hSw); go_simp; try (with_reducible rfl))
                try simp only [sm]
                refine wpAnyH_take (i := 6) (v := ?_) rfl (by kernel_rfl) (by kernel_rfl) (by kernel_rfl) (fun _ _ _ h => h) (Or.inl ⟨by rfl, ?_⟩) (by assumption) ?_
                rotate_left
                · (intro w hSw; (try dsimp only at hSw); go_simp; try (with_reducible rfl))
                try simp only [sm]
                refine wpAnyH_ready (rs := [7]) (by kernel_rfl) (by simp) ?_
                refine AllReadyH.cons rfl (fun K hK => ?_) AllReadyH.nil
                go_simp
                refine (kE _ (Drew.below ⟨1, rfl⟩)).mono ?_
                rintro e w5 ⟨rfl, b5⟩
                have hS5 : Below wr.heap.size wr w5 := (Drew.below ⟨1, rfl⟩).trans (b5.mono (Nat.le_refl _))
                refine hK.out _ _ (hmk _ hS5) (fun hHeld => ?_)
                clear hK
                try simp only [sm]
                refine wpAnyH_take (i := 8) (v := ?_) rfl (by kernel_rfl) (by kernel_rfl) (by kernel_rfl) (fun _ _ _ h => h) (Or.inl ⟨by rfl, ?_⟩) (by assumption) ?_
                rotate_left
                · (intro w hSw; (try dsimp only at hSw); go_simp; try (with_reducible rfl))
                try simp only [sm]
                refine wpAnyH_done (by kernel_rfl) ?_ _
                have hW5 := hW.trans (hS5.mono hW.size)
                have hX5 := hX.below hS5
                clear hmk
                clear kE
                go_wp2
                go_ret
                exact ⟨by rw [hz.out]; rfl, hW5⟩
              rw [B_of hE] at kE
              replace hgood := Lib.hid (hgood.out hE)
              clear hbad hE
              go_wp2_with fail
              clear c1
              have hmk : ∀ w', Below wr.heap.size wr w' → w'.cell? ⟨bu, 0, none⟩ = some (.slice x.S c.st.length x.sc) ∧ w'.cell? ⟨bu, 1, none⟩ = some (.slice x.N c.nm.length x.nc) ∧ w'.cell? ⟨bu, 2, none⟩ = some (.slice x.I c.ins.length x.ic) ∧ w'.cell? ⟨bu, 3, none⟩ = some (.slice (some ⟨g, o, none⟩) c.bk.length x.kc) ∧ w'.cell? ⟨g, o + b * 10 + 2, none⟩ = some (.int .i64 y.kind) ∧ w'.cell? ⟨g, o + b * 10 + 3, none⟩ = some (.int .i64 y.a) ∧ w'.cell? ⟨g, o + b * 10 + 4, none⟩ = some (.int .i64 y.to) ∧ w'.cell? ⟨g, o + b * 10 + 5, none⟩ = some (.int .i64 y.els) ∧ w'.cell? ⟨g, o + b * 10 + 6, none⟩ = some (.slice TA y.ta.length tc) ∧ w'.cell? ⟨g, o + b * 10 + 7, none⟩ = some (.slice EA y.ea.length ec) ∧ w'.cell? ⟨g, o + b * 10 + 8, none⟩ = some (.int .i64 y.n) ∧ w'.cell? ⟨g, o + b * 10 + 9, none⟩ = some (.int .i64 y.at_) ∧ Below wr.heap.size wr w' := fun w' hb => ⟨cell_later hb s0, cell_later hb s1, cell_later hb s2, cell_later hb s3, cell_later hb c2, cell_later hb d3, cell_later hb d4, cell_later hb d5, cell_later hb d6, cell_later hb d7, cell_later hb d8, cell_later hb d9, hb⟩
              clear s0 s1 s2 s3 c2 d3 d4 d5 d6 d7 d8 d9
              refine wp_region_held_drew (S := (fun w' => w'.cell? ⟨bu, 0, none⟩ = some (.slice x.S c.st.length x.sc) ∧ w'.cell? ⟨bu, 1, none⟩ = some (.slice x.N c.nm.length x.nc) ∧ w'.cell? ⟨bu, 2, none⟩ = some (.slice x.I c.ins.length x.ic) ∧ w'.cell? ⟨bu, 3, none⟩ = some (.slice (some ⟨g, o, none⟩) c.bk.length x.kc) ∧ w'.cell? ⟨g, o + b * 10 + 2, none⟩ = some (.int .i64 y.kind) ∧ w'.cell? ⟨g, o + b * 10 + 3, none⟩ = some (.int .i64 y.a) ∧ w'.cell? ⟨g, o + b * 10 + 4, none⟩ = some (.int .i64 y.to) ∧ w'.cell? ⟨g, o + b * 10 + 5, none⟩ = some (.int .i64 y.els) ∧ w'.cell? ⟨g, o + b * 10 + 6, none⟩ = some (.slice TA y.ta.length tc) ∧ w'.cell? ⟨g, o + b * 10 + 7, none⟩ = some (.slice EA y.ea.length ec) ∧ w'.cell? ⟨g, o + b * 10 + 8, none⟩ = some (.int .i64 y.n) ∧ w'.cell? ⟨g, o + b * 10 + 9, none⟩ = some (.int .i64 y.at_) ∧ Below wr.heap.size wr w')) (by kernel_rfl) (hmk _ (Drew.below ⟨1, rfl⟩)) (fun hHeld => ?_)
              refine wpAnyH_take (i := 0) (v := ?_) rfl (by kernel_rfl) (by kernel_rfl) (by kernel_rfl) (fun _ _ _ h => h) (Or.inl ⟨by rfl, ?_⟩) (by assumption) ?_
              rotate_left
              · (intro w hSw; (try dsimp only at hSw); go_simp; try (with_reducible rfl))
              try simp only [sm]
              refine wpAnyH_take (i := 1) (v := ?_) rfl (by kernel_rfl) (by kernel_rfl) (by kernel_rfl) (fun _ _ _ h => h) (Or.inl ⟨by rfl, ?_⟩) (by assumption) ?_
              rotate_left
              · (intro w hSw; (try dsimp only at hSw); go_simp; try (with_reducible rfl))
              try simp only [sm]
              refine wpAnyH_take (i := 2) (v := ?_) rfl (by kernel_rfl) (by kernel_rfl) (by kernel_rfl) (fun _ _ _ h => h) (Or.inl ⟨by rfl, ?_⟩) (by assumption) ?_
              rotate_left
              · (intro w hSw; (try dsimp only at hSw); go_simp; try (with_reducible rfl))
              try simp only [sm]
              refine wpAnyH_take (i := 3) (v := ?_) rfl (by kernel_rfl) (by kernel_rfl) (by kernel_rfl) (fun _ _ _ h => h) (Or.inl ⟨by rfl, ?_⟩) (by assumption) ?_
              rotate_left
              · (intro w hSw; (try dsimp only at hSw); go_simp; try (with_reducible rfl))
              try simp only [sm]
              refine wpAnyH_take (i := 4) (v := ?_) rfl (by kernel_rfl) (by kernel_rfl) (by kernel_rfl) (fun _ _ _ h => h) (Or.inl ⟨by rfl, ?_⟩) (by assumption) ?_
              rotate_left
              · (intro w hSw; (try dsimp only at hSw); go_simp; try (with_reducible rfl))
              try simp only [sm]
              refine wpAnyH_take (i := 5) (v := ?_) rfl (by kernel_rfl) (by kernel_rfl) (by kernel_rfl) (fun _ _ _ h => h) (Or.inl ⟨by rfl, ?_⟩) (by assumption) ?_
              rotate_left
              · (intro w hSw; (try dsimp only at hSw); go_simp; try (with_reducible rfl))
              try simp only [sm]
              refine wpAnyH_take (i := 6) (v := ?_) rfl (by kernel_rfl) (by kernel_rfl) (by kernel_rfl) (fun _ _ _ h => h) (Or.inl ⟨by rfl, ?_⟩) (by assumption) ?_
              rotate_left
              · (intro w hSw; (try dsimp only at hSw); go_simp; try (with_reducible rfl))
              try simp only [sm]
              refine wpAnyH_ready (rs := [7]) (by kernel_rfl) (by simp) ?_
              refine AllReadyH.cons rfl (fun K hK => ?_) AllReadyH.nil
              go_simp
              refine (kE _ (Drew.below ⟨1, rfl⟩)).mono ?_
              rintro e w5 ⟨rfl, b5⟩
              have hS5 : Below wr.heap.size wr w5 := (Drew.below ⟨1, rfl⟩).trans (b5.mono (Nat.le_refl _))
              refine hK.out _ _ (hmk _ hS5) (fun hHeld => ?_)
              clear hK
              try simp only [sm]
              refine wpAnyH_take (i := 8) (v := ?_) rfl (by kernel_rfl) (by kernel_rfl) (by kernel_rfl) (fun _ _ _ h => h) (Or.inl ⟨by rfl, ?_⟩) (by assumption) ?_
              rotate_left
              · (intro w hSw; (try dsimp only at hSw); go_simp; try (with_reducible rfl))
              try simp only [sm]
              refine wpAnyH_done (by kernel_rfl) ?_ _
              have hW5 := hW.trans (hS5.mono hW.size)
              have hX5 := hX.below hS5
              clear hmk
              clear kE hW hX
              have t0 := hX5.cell 0
              have t1 := hX5.cell 1
              have t2 := hX5.cell 2
              have t3 := hX5.cell 3
              go_wp2_with fail
              refine (kS.out _ hW5).mono ?_
              rintro r w6 ⟨A6, q6, rfl, l1, l2, hrow, b6⟩
              have hW6 := hW5.trans (b6.mono hW5.size)
              have hX6 := hX5.below b6
              obtain ⟨L, hL⟩ : ∃ L, Hid ((edges y).map (·.to) = L) := ⟨_, Lib.hid rfl⟩
              rw [hL.out] at l1 hrow
              rw [hL.out]
              unfold maxLen at l2
              clear t0 t1 t2 t3 hW5 hX5 hS5 b5 b6 kS
              go_wp2_with fail
              go_loopw [7] (fun v wr => ∃ k, k ≤ L.length ∧ v = .int .i64 (k : Nat) ∧ Hid (∀ (i : Nat) (hi : i < L.length), i < k → L[i] ≠ 0) ∧ Below W.heap.size W wr ∧ Box wr bu 27 #[.slice x.S c.st.length x.sc, .slice x.N c.nm.length x.nc, .slice x.I c.ins.length x.ic, .slice x.K c.bk.length x.kc] ∧ IRow wr A6 L) (fun v _ => L.length - iOf v)
              case atStart => exact ⟨0, Nat.zero_le _, rfl, Lib.hid (fun k _ h => by omega), hW6, hX6, hrow⟩
              case round =>
                clear hW6 hX6 hrow
                obtain ⟨k, hk, rfl, hK, hW, hX, hrow⟩ := hrel
                by_cases hkl : k < L.length
                · obtain ⟨g6, o6, rfl, e6⟩ := hrow k hkl
                  have hkc : (k : Int) < (L.length : Int) := by omega
                  have hwk : IntKind.i64.wrap ((k : Int) + 1) = ((k + 1 : Nat) : Int) := by rw [IntWalk.i64_in _ (by omega)]; omega
                  by_cases h0 : L[k] = 0
                  · have t1 : (L[k] == 0) = true := by simpa using h0
                    have hz := hnz.out (by
                      have hm : L[k] ∈ (edges y).map (·.to) := by rw [hL.out]; exact List.getElem_mem hkl
                      obtain ⟨e, he, h1⟩ := List.mem_map.1 hm
                      exact ⟨e, he, by rw [← h0, ← h1]⟩)
                    clear hK h0 hnz hgood hZ
                    go_wp2
                    go_ret
                    exact ⟨by rw [hz.out]; rfl, hW⟩
                  · have t1 : (L[k] == 0) = false := by simpa using h0
                    have hK2 : Hid (∀ (i : Nat) (hi : i < L.length), i < k + 1 → L[i] ≠ 0) := Lib.hid (fun i hi h1 => by
                      by_cases e : i = k
                      · subst e; exact h0
                      · exact hK.out i hi (by omega))
                    clear hK h0
                    go_wp2_with fail
                    go_roundw
                    case rel => exact ⟨k + 1, hkl, by go_num, hK2, hW, hX, hrow⟩
                    case measure => simp only [iOf]; omega
                · have hB2 := hgood.out (fun e he h0 => by
                    have hm : e.to ∈ L := by rw [← hL.out]; exact List.mem_map.2 ⟨e, he, rfl⟩
                    obtain ⟨i, hi, h1⟩ := List.getElem_of_mem hm
                    exact hK.out i hi (by omega) (by rw [h1, h0]))
                  have hkc : ¬ ((k : Int) < (L.length : Int)) := by omega
                  clear hK hgood hnz hkl
                  go_wp2_with fail
                  go_roundw
                  case rel => exact ⟨b + 1, hbn, by go_num, hB2, hW, hX⟩
                  case measure => simp only [iOf]; omega
        · have hbe : b = c.bk.length := by omega
          subst hbe
          have hbc : ¬ ((c.bk.length : Int) < (c.bk.length : Int)) := by omega
          have hbks : Hid (∀ y ∈ c.bk, BlkW c y) := Lib.hid (fun y hy => by
            obtain ⟨j, hj, rfl⟩ := List.getElem_of_mem hy
            exact hI.out j hj hj)
          clear hI hbn
          have hEall : Hid (∀ y ∈ c.bk, EndR c y.en) := Lib.hid (fun y hy => (hbks.out y hy).2.1)
          have hedin := Lib.hid (ed_in hEall.out)
          have kR : Calls Tryz.prog 28 #[.agg #[.slice x.S c.st.length x.sc, .slice x.N c.nm.length x.nc, .slice x.I c.ins.length x.ic, .slice x.K c.bk.length x.kc], .int .i64 0, .int .i64 (-1)] wr (RchPost wr c (-1) 0) := rReach_any (hx.later hW) hk4 hedin.out 0 (by omega) (-1)
          replace kR := Lib.hid kR
          go_wp2_with fail
          refine kR.out.mono ?_
          rintro e w5 ⟨bo, m, rfl, hbo, hBo, hm, b5⟩
          have hW5 := hW.trans (b5.mono hW.size)
          have hX5 := hX.below b5
          replace hm := Lib.hid hm
          clear kR s0 s1 s2 s3 hW hX b5 hbo
          go_wp2_with fail
          go_loopw [9] (fun v wr => ∃ k, k ≤ c.bk.length ∧ v = .int .i64 (k : Nat) ∧ Hid (∀ j, j < k → j ∈ m) ∧ Below W.heap.size W wr ∧ Box wr bu 27 #[.slice x.S c.st.length x.sc, .slice x.N c.nm.length x.nc, .slice x.I c.ins.length x.ic, .slice x.K c.bk.length x.kc] ∧ Box wr bo 4 (bools m c.bk.length)) (fun v _ => c.bk.length - iOf v)
          case atStart => exact ⟨0, Nat.zero_le _, rfl, Lib.hid (fun k h => by omega), hW5, hX5, hBo⟩
          case round =>
            clear hW5 hX5 hBo
            obtain ⟨k, hk, rfl, hK, hW, hX, hBo⟩ := hrel
            have s3 := hX.cell 3
            by_cases hkl : k < c.bk.length
            · have hkc : (k : Int) < (c.bk.length : Int) := by omega
              have hwk : IntKind.i64.wrap ((k : Int) + 1) = ((k + 1 : Nat) : Int) := by rw [IntWalk.i64_in _ (by omega)]; omega
              have cB : wr.cell? ⟨bo, k, none⟩ = some (.bool (decide (k ∈ m))) := by rw [hBo.cell]; exact bools_get m hkl
              by_cases hkm : k ∈ m
              · rw [decide_eq_true hkm] at cB
                have hK2 : Hid (∀ j, j < k + 1 → j ∈ m) := Lib.hid (fun j hj => by
                  by_cases e : j = k
                  · subst e; exact hkm
                  · exact hK.out j (by omega))
                clear hK hkm
                go_wp2_with fail
                go_roundw
                case rel => exact ⟨k + 1, hkl, by go_num, hK2, hW, hX, hBo⟩
                case measure => simp only [iOf]; omega
              · rw [decide_eq_false hkm] at cB
                have hz : Hid (Z = false) := Lib.hid (by rw [← hZ.out]; exact B_not (fun h => hkm ((hm.out k).2 (rch_iff.2 (h.re k hkl)))))
                clear hK hkm hZ hm
                go_wp2
                go_ret
                exact ⟨by rw [hz.out]; rfl, hW⟩
            · have hke : k = c.bk.length := by omega
              subst hke
              have hkc : ¬ ((c.bk.length : Int) < (c.bk.length : Int)) := by omega
              have hre : Hid (ReachP c) := Lib.hid (fun v hv => rch_iff.1 ((hm.out v).1 (hK.out v hv)))
              have s0 := hX.cell 0
              have s1 := hX.cell 1
              have s2 := hX.cell 2
              have kP : Calls Tryz.prog 39 #[.agg #[.slice x.S c.st.length x.sc, .slice x.N c.nm.length x.nc, .slice x.I c.ins.length x.ic, .slice x.K c.bk.length x.kc], .int .i64 0] wr fun e w' => e = .returned (.int .i64 (parR c c.bk[0])) ∧ Below wr.heap.size wr w' := rParams_any (hx.later hW) hch.out hin 0 (by omega)
              have hp0 : ∀ h : parR c c.bk[0] ≠ 0, Hid (Z = false) := fun h => Lib.hid (by rw [← hZ.out]; exact B_not (fun hv => h (hv.p0 (by omega))))
              have hfin : parR c c.bk[0] = 0 → Hid (Z = B (DefU c)) := fun h => Lib.hid (by
                rw [← hZ.out]
                exact B_congr ⟨fun hv => hv.de, fun hd => ⟨hL.out, hC.out, hins.out, hbks.out, hre.out, fun _ => h, hd⟩⟩)
              obtain ⟨p, hp⟩ : ∃ p, Hid (parR c c.bk[0] = p) := ⟨_, Lib.hid rfl⟩
              rw [hp.out] at kP hp0 hfin
              replace kP := Lib.hid kP
              replace hp0 := Lib.hid hp0
              replace hfin := Lib.hid hfin
              clear hK hm hBo hkl
              go_wp2_with fail
              refine kP.out.mono ?_
              rintro e w6 ⟨rfl, b6⟩
              have hW6 := hW.trans (b6.mono hW.size)
              have hX6 := hX.below b6
              clear kP s0 s1 s2 s3 hW hX b6 hp
              by_cases e0 : p = 0
              · have t0 : ((p : Int) == 0) = true := by subst e0; rfl
                have hz := hfin.out e0
                have s0 := hX6.cell 0
                have s1 := hX6.cell 1
                have s2 := hX6.cell 2
                have s3 := hX6.cell 3
                have kD := Lib.hid (rdefined_any (hx.later hW6) hch.out hin hk4 hk1 hedin.out (use_ix hins.out hEall.out) (ends_len hch.out hin hEall.out))
                clear hp0 hfin e0 hZ
                go_wp2_with fail
                refine kD.out.mono ?_
                rintro e w7 ⟨rfl, b7⟩
                have hW7 := hW6.trans (b7.mono hW6.size)
                clear kD s0 s1 s2 s3
                go_wp2
                go_ret
                exact ⟨by rw [hz.out]; rfl, hW7⟩
              · have t0 : ((p : Int) == 0) = false := by simp; omega
                have hz := hp0.out e0
                clear hp0 hfin e0 hZ
                go_wp2
                go_ret
                exact ⟨by rw [hz.out]; rfl, hW6⟩
end Go.Proofs.YtnbgadndkepomaaGreatDoor

namespace Go.Proofs.YtnbgadndkepomaaGreatDoor
open Go.RowKit

theorem vw_valid {c : Cd} (ok : c.ok) : VW c ↔ ValidP c := vw_iff.trans (valid_iff (fun i hi => (ok.ins i hi).2.2.2.2.2.2.1))
def UsPost (W : World) (c : Cd) (e : Ending) (w' : World) : Prop := ∃ b, e = .returned (.bool b) ∧ (b = true → ValidP c) ∧ Below W.heap.size W w'
set_option maxRecDepth 100000 in
set_option maxHeartbeats 1600000 in
theorem usable_any {W : World} {c : Cd} {x : Sl} (hx : CdAt W c x) (ok : c.ok) :
    Calls Tryz.prog 27 #[.agg #[.slice x.S c.st.length x.sc, .slice x.N c.nm.length x.nc, .slice x.I c.ins.length x.ic, .slice x.K c.bk.length x.kc]] W (UsPost W c) := by
  have bA : Below W.heap.size W (W.alloc (.cells #[.slice x.S c.st.length x.sc, .slice x.N c.nm.length x.nc, .slice x.I c.ins.length x.ic, .slice x.K c.bk.length x.kc] 27)) := (Below.refl _ _).alloc (Nat.le_refl _) _
  have N := Box.new W 27 #[.slice x.S c.st.length x.sc, .slice x.N c.nm.length x.nc, .slice x.I c.ins.length x.ic, .slice x.K c.bk.length x.kc]
  have n0 := N.cell 0
  have n1 := N.cell 1
  have n2 := N.cell 2
  have n3 := N.cell 3
  have hfw := Lib.hid (Few_any (hx.later bA) ok)
  have hvw := vw_valid ok
  have hVa := fun w h => rValid_any (W := w) (hx.later h) ok ok.nm
  replace hVa := Lib.hid hVa
  go_enter Tryz.func27, Tryz.ntmps27
  go_wp2_with fail
  refine hfw.out.mono ?_
  rintro e w1 ⟨⟨fb, rfl⟩, b1⟩
  have N1 := N.below b1
  have bW1 := bA.trans (b1.mono bA.size)
  clear hfw n0 n1 n2 n3 N b1 bA
  cases fb with
  | false =>
    have hfin : UsPost W c (.returned (.bool false)) w1 := ⟨false, rfl, (fun h => by cases h), bW1⟩
    clear N1 hVa
    go_wp2
    go_ret
    exact hfin
  | true =>
    have n0 := N1.cell 0
    have n1 := N1.cell 1
    have n2 := N1.cell 2
    have n3 := N1.cell 3
    go_wp2_with fail
    refine (hVa.out _ bW1).mono ?_
    rintro e w2 ⟨rfl, b2⟩
    obtain ⟨v, hv⟩ : ∃ v, B (VW c) = v := ⟨_, rfl⟩
    have hfin : UsPost W c (.returned (.bool v)) w2 := ⟨v, rfl, fun h => hvw.1 (B_true.1 (hv.trans h)), bW1.trans (b2.mono bW1.size)⟩
    rw [hv]
    clear hVa n0 n1 n2 n3 hv
    go_wp2
    go_ret
    exact hfin
end Go.Proofs.YtnbgadndkepomaaGreatDoor

namespace Go.Proofs.YtnbgadndkepomaaGreatDoor
open Go.RowKit

theorem preds_step (s : Nat → List Nat) (k t : Nat) : predsOf s (k + 1) t = predsOf s k t ++ (if t ∈ s k then [k] else []) := by
  unfold predsOf
  rw [List.range_succ, List.filter_append]
  congr 1
  by_cases h : t ∈ s k <;> simp [h]
theorem way_last {s : Nat → List Nat} {b : Nat} {l : List Nat} (h : Way s b l) : b = 0 ∨ ∃ p l', Way s p l' ∧ b ∈ s p := by
  cases h with
  | start => exact Or.inl rfl
  | step hw ht => exact Or.inr ⟨_, _, hw, ht⟩
theorem way_in {s : Nat → List Nat} {n : Nat} (hs : ∀ x, ∀ t ∈ s x, t < n) (h0 : 0 < n) {b : Nat} {l : List Nat} (h : Way s b l) : b < n := by
  cases h with
  | start => exact h0
  | step _ ht => exact hs _ _ ht
theorem succs_out {c : Cd} {b : Nat} (h : ¬ b < c.bk.length) : succs c b = [] := by
  unfold succs
  rw [List.getElem?_eq_none (by omega)]
  rfl
theorem valid_edin {c : Cd} (h : ValidP c) : EdIn c := fun b hb e he => by
  obtain ⟨_, h1, h2, _⟩ := (h.1.2.2 b hb).2.2 e he
  omega
theorem preds_zero {c : Cd} (h : ValidP c) (t : Nat) (ht : t < c.bk.length) : ((predsOf (succs c) c.bk.length t).length = 0) ↔ t = 0 := by
  constructor
  · intro h0
    have hn := List.eq_nil_of_length_eq_zero h0
    obtain ⟨l, hl⟩ := h.2.1 t ht
    rcases way_last hl with e | ⟨p, l', hw, hp⟩
    · exact e
    · have hpn : p < c.bk.length := Classical.byContradiction (fun hq => by rw [succs_out hq] at hp; simp at hp)
      have := mem_predsOf.2 ⟨hpn, hp⟩
      rw [hn] at this
      simp at this
  · rintro rfl
    rw [List.length_eq_zero_iff]
    apply List.eq_nil_iff_forall_not_mem.2
    intro p hp
    obtain ⟨h1, h2⟩ := mem_predsOf.1 hp
    rw [succs_at h1] at h2
    obtain ⟨e, he, h3⟩ := List.mem_map.1 h2
    obtain ⟨h4, h5, h6, _⟩ := (h.1.2.2 _ (List.getElem_mem h1)).2.2 e he
    omega
theorem succs_two {c : Cd} (k : Nat) : (succs c k).length ≤ 2 := by
  unfold succs
  cases c.bk[k]? with
  | none => simp
  | some y => simp only [Option.map_some, Option.getD_some, List.length_map]; exact edges_le y.en
theorem two_mem {L : List Nat} (h : L.length ≤ 2) (h0 : 0 < L.length) (t : Nat) : t ∈ L ↔ L[0] = t ∨ L[L.length - 1] = t := by
  match L, h, h0 with
  | [a], _, _ => simp [eq_comm]
  | [a, b], _, _ => simp [eq_comm]
set_option maxRecDepth 100000 in
set_option maxHeartbeats 6400000 in
theorem SsaPreds_any {W : World} {c : Cd} {x : Sl} (hx : CdAt W c x) (ok : c.ok) (hv : ErrV W) :
    Calls Tryz.prog 6 #[.agg #[.slice x.S c.st.length x.sc, .slice x.N c.nm.length x.nc, .slice x.I c.ins.length x.ic, .slice x.K c.bk.length x.kc]] W fun e w' => e = .returned (.bool true) ∧ Below W.heap.size W w' := by
  have bA : Below W.heap.size W (W.alloc (.cells #[.slice x.S c.st.length x.sc, .slice x.N c.nm.length x.nc, .slice x.I c.ins.length x.ic, .slice x.K c.bk.length x.kc] 27)) := (Below.refl _ _).alloc (Nat.le_refl _) _
  have N := Box.new W 27 #[.slice x.S c.st.length x.sc, .slice x.N c.nm.length x.nc, .slice x.I c.ins.length x.ic, .slice x.K c.bk.length x.kc]
  have hhd := Lib.hid (head_any _ (hv.later bA))
  go_enter Tryz.func6, Tryz.ntmps6
  go_wp2_with fail
  refine hhd.out.mono ?_
  rintro e w1 ⟨rfl, b1⟩
  have N1 := N.below b1
  have bW1 := bA.trans (b1.mono bA.size)
  have hus := Lib.hid (usable_any (hx.later bW1) ok)
  have n0 := N1.cell 0
  have n1 := N1.cell 1
  have n2 := N1.cell 2
  have n3 := N1.cell 3
  clear hhd N b1 bA
  go_wp2_with fail
  refine hus.out.mono ?_
  rintro e w2 ⟨ub, rfl, hub, b2⟩
  have N2 := N1.below b2
  have bW2 := bW1.trans (b2.mono bW1.size)
  clear hus N1 n0 n1 n2 n3 b2 bW1
  cases ub with
  | false =>
    clear hub
    go_wp2
    go_ret
    exact ⟨rfl, bW2⟩
  | true =>
    have hP := hub rfl
    have hPr := Preds_any (hx.later bW2) ok (hv.later bW2)
    rw [show predsE c = ((List.range c.bk.length).map fun t => nats (predsOf (succs c) c.bk.length t), 0) from by unfold predsE; rw [if_pos hP]] at hPr
    dsimp only at hPr
    have hk4 := hP.1.1.1.2.2.1.2
    have hk1 := hP.1.1.1.2.2.1.1
    replace hP := Lib.hid hP
    replace hPr := Lib.hid hPr
    have n0 := N2.cell 0
    have n1 := N2.cell 1
    have n2 := N2.cell 2
    have n3 := N2.cell 3
    obtain ⟨bu, hbu⟩ : ∃ b, Hid (W.heap.size = b) := ⟨_, Lib.hid rfl⟩
    clear hub
    go_wp2_with fail
    refine hPr.out.mono ?_
    rintro e w3 ⟨A, q, rfl, l1, l2, hrows, b3⟩
    have N3 := N2.below b3
    have bW3 := bW2.trans (b3.mono bW2.size)
    obtain ⟨rows, hrw⟩ : ∃ rows, Hid ((List.range c.bk.length).map (fun t => nats (predsOf (succs c) c.bk.length t)) = rows) := ⟨_, Lib.hid rfl⟩
    rw [hrw.out] at l1 hrows
    rw [hrw.out]
    have hrl : rows.length = c.bk.length := by rw [← hrw.out]; simp
    rw [hrl] at l1 ⊢
    replace hrl := Lib.hid hrl
    unfold maxLen at l2
    clear hPr N2 n0 n1 n2 n3 b3 bW2
    rw [hbu.out] at N3
    simp only [hbu.out]
    have s3 := N3.cell 3
    go_wp2_with fail
    clear s3
    have hEd := Lib.hid (valid_edin hP.out)
    go_loopw [33] (fun v33 wr => ∃ b, b ≤ c.bk.length ∧ v33 = .int .i64 (b : Nat) ∧ Below W.heap.size W wr ∧ Box wr bu 27 #[.slice x.S c.st.length x.sc, .slice x.N c.nm.length x.nc, .slice x.I c.ins.length x.ic, .slice x.K c.bk.length x.kc] ∧ LRow wr A rows) (fun v33 _ => c.bk.length - iOf v33)
    case atStart => exact ⟨0, Nat.zero_le _, rfl, bW3, N3, hrows⟩
    case round =>
      clear bW3 N3 hrows
      obtain ⟨b, hbl, rfl, hW, hX, hR⟩ := hrel
      have s3 := hX.cell 3
      by_cases hbn : b < c.bk.length
      · have hbr : b < rows.length := by rw [hrl.out]; exact hbn
        have hbc : (b : Int) < (c.bk.length : Int) := by omega
        have hwb : IntKind.i64.wrap ((b : Int) + 1) = ((b + 1 : Nat) : Int) := by rw [IntWalk.i64_in _ (by omega)]; omega
        obtain ⟨gr, or_, A', c', rfl, r0, hl1, hl2, hrow⟩ := hR b hbr
        obtain ⟨wo, hwo⟩ : ∃ wo, Hid (wo = wr) := ⟨wr, Lib.hid rfl⟩
        have hWo : Below W.heap.size W wo := by rw [hwo.out]; exact hW
        have hXo : Box wo bu 27 #[.slice x.S c.st.length x.sc, .slice x.N c.nm.length x.nc, .slice x.I c.ins.length x.ic, .slice x.K c.bk.length x.kc] := by rw [hwo.out]; exact hX
        have hRo : LRow wo (some ⟨gr, or_, none⟩) rows := by rw [hwo.out]; exact hR
        have hBo : Below wo.heap.size wo wr := by rw [hwo.out]; exact Below.refl _ _
        have hrb : rows[b] = nats (predsOf (succs c) c.bk.length b) := by
          have := hrw.out
          subst this
          simp
        have hz := preds_zero hP.out b hbn
        obtain ⟨p, hp⟩ : ∃ p, Hid (predsOf (succs c) c.bk.length b = p) := ⟨_, Lib.hid rfl⟩
        rw [hp.out] at hrb hz
        rw [hrb] at r0 hl1 hrow
        have hrow : IRow wo A' (nats (predsOf (succs c) c.bk.length b)) := by rw [hwo.out, hp.out]; exact hrow
        rw [hp.out] at hrow
        have hpl : (nats p).length = p.length := by simp [nats]
        have hpn : p.length ≤ 400 := by rw [← hp.out]; have := predsOf_len (s := succs c) (i := c.bk.length) (t := b); omega
        rw [hpl] at r0 hl1
        replace hpl := Lib.hid hpl
        replace hz := Lib.hid hz
        have hq0 : IOwn wr wo.heap.size (.slice none 0 0) (nats (predsOf (succs c) 0 b)) := ⟨rfl, .inl ⟨rfl, rfl⟩⟩
        have hIn : ∀ (w5 : World) (Aw : Option Addr) (qw : Nat) (l : List Nat), Below wo.heap.size wo w5 → IRow w5 Aw (nats l) → l.length ≤ qw → qw ≤ maxLen → Calls Tryz.prog 21 #[.slice A' p.length c', .slice Aw l.length qw] w5 fun e w' => e = .returned (.bool (sameB (nats p) (nats l))) ∧ Below w5.heap.size w5 w' := fun w5 Aw qw l h5 hr h1 h2 => by
          have := Ints_any (W := w5) (nats p) (nats l) A' Aw c' qw (fun k hk => by
            obtain ⟨g, o, e1, e2⟩ := hrow k hk
            exact ⟨g, o, e1, cell_later h5 e2⟩) hr ⟨by rw [hpl.out]; exact hl1, hl2⟩ ⟨by simp [nats]; exact h1, h2⟩
          rw [hpl.out, show (nats l).length = l.length by simp [nats]] at this
          exact this
        replace hIn := Lib.hid hIn
        have hR2 : Hid (∀ w5, Below wo.heap.size wo w5 → LRow w5 (some ⟨gr, or_, none⟩) rows) := Lib.hid (fun w5 h5 => hRo.later h5)
        unfold maxLen at hl2
        clear hR hrow hrb hRo
        go_wp2_with fail
        go_loopw [8, 41] (fun v8 v41 wq => ∃ k, k ≤ c.bk.length ∧ v41 = .int .i64 (k : Nat) ∧ IOwn wq wo.heap.size v8 (nats (predsOf (succs c) k b)) ∧ Below wo.heap.size wo wq) (fun _ v41 _ => c.bk.length - iOf v41)
        case atStart => exact ⟨0, Nat.zero_le _, rfl, hq0, hBo⟩
        case round =>
          clear hq0 s3 r0 hBo hW hX
          obtain ⟨k, hk, rfl, hO, hB⟩ := hrel
          have hW1 := hWo.trans (hB.mono hWo.size)
          have hX1 := hXo.below hB
          by_cases hkn : k < c.bk.length
          · have hkc : (k : Int) < (c.bk.length : Int) := by omega
            have hwk : IntKind.i64.wrap ((k : Int) + 1) = ((k + 1 : Nat) : Int) := by rw [IntWalk.i64_in _ (by omega)]; omega
            have s0 := hX1.cell 0
            have s1 := hX1.cell 1
            have s2 := hX1.cell 2
            have s3 := hX1.cell 3
            have kS := Lib.hid (Succs_any (hx.later hW1) k hkn)
            have hst := preds_step (succs c) k b
            have h2 := succs_two (c := c) k
            have hin := (succs_in hEd.out hkn).1
            have hm := fun h0 => two_mem h2 h0 b
            replace hm := Lib.hid hm
            replace hst := Lib.hid hst
            go_wp2_with fail
            refine kS.out.mono ?_
            rintro e w4 ⟨A4, q4, rfl, m1, m2, hrow4, b4⟩
            rw [hin] at m1 hrow4
            rw [hin]
            have hB4 := hB.trans (b4.mono hB.size)
            have hO4 := hO.later b4
            obtain ⟨S, hS⟩ : ∃ S, Hid (succs c k = S) := ⟨_, Lib.hid rfl⟩
            simp only [hS.out] at hst h2 hm m1 hrow4 ⊢
            have hSl : (nats S).length = S.length := by simp [nats]
            rw [hSl] at m1 ⊢
            unfold maxLen at m2
            clear kS s0 s1 s2 s3 hB hO b4 hin
            by_cases h0 : S.length = 0
            · have g0 : ¬ ((0 : Int) < (S.length : Int)) := by omega
              have hO5 := hO4
              have hpe : predsOf (succs c) k b = predsOf (succs c) (k + 1) b := by
                rw [hst.out, if_neg (by rw [List.eq_nil_of_length_eq_zero h0]; simp), List.append_nil]
              rw [hpe] at hO5
              clear hO4 hst hm hrow4 hSl h0 hpe
              go_wp2_with fail
              go_roundw
              case rel => exact ⟨k + 1, hkn, by go_num, hO5, hB4⟩
              case measure => simp only [iOf]; omega
            have g0 : (0 : Int) < (S.length : Int) := by omega
            obtain ⟨t0, ht0⟩ : ∃ t, Hid (S[0] = t) := ⟨_, Lib.hid rfl⟩
            obtain ⟨t1, ht1⟩ : ∃ t, Hid (S[S.length - 1] = t) := ⟨_, Lib.hid rfl⟩
            obtain ⟨g4, o4, rfl, c0⟩ := hrow4 0 (by rw [hSl]; omega)
            obtain ⟨g5, o5, e5, c1⟩ := hrow4 (S.length - 1) (by rw [hSl]; omega)
            obtain ⟨rfl, rfl⟩ : g4 = g5 ∧ o4 = o5 := by cases e5; exact ⟨rfl, rfl⟩
            rw [show (nats S)[0]'(by rw [hSl]; omega) = (t0 : Int) by simp [nats, ht0.out], Nat.add_zero] at c0
            rw [show (nats S)[S.length - 1]'(by rw [hSl]; omega) = (t1 : Int) by simp [nats, ht1.out]] at c1
            have hmm := hm.out (by omega)
            rw [ht0.out, ht1.out] at hmm
            replace hmm := Lib.hid hmm
            obtain ⟨ls, hls⟩ : ∃ ls : Nat, Hid (S.length = ls) := ⟨_, Lib.hid rfl⟩
            rw [hls.out] at c1 g0 m1 h2
            rw [hls.out]
            have hw1 : IntKind.i64.wrap ((ls : Int) - 1) = ((ls - 1 : Nat) : Int) := by rw [IntWalk.i64_in _ (by omega)]; omega
            have hlt1 : ((ls - 1 : Nat) : Int) < (ls : Int) := by omega
            clear e5 hm hrow4 hSl h0 ht0 ht1
            by_cases e12 : t0 = b ∨ t1 = b
            · have hO5 : Hid (predsOf (succs c) (k + 1) b = predsOf (succs c) k b ++ [k]) := Lib.hid (by rw [hst.out, if_pos (hmm.out.2 e12)])
              obtain ⟨A8, q8, rfl, p1, p2, _⟩ := hO4.read
              obtain ⟨l, hl⟩ : ∃ l, Hid (predsOf (succs c) k b = l) := ⟨_, Lib.hid rfl⟩
              rw [hl.out] at hO4 p1 hO5
              rw [hl.out]
              have hll : (nats l).length = l.length := by simp [nats]
              have hln : l.length ≤ 400 := by rw [← hl.out]; have := predsOf_len (s := succs c) (i := k) (t := b); omega
              rw [hll] at p1 ⊢
              unfold maxLen at p2
              have bY : Below w4.heap.size w4 (w4.alloc (.cells #[.int .i64 k] 3)) := (Below.refl _ _).alloc (Nat.le_refl _) _
              have oY := hO4.later bY
              unfold IOwn at oY
              rw [hll] at oY
              obtain ⟨Z, hZ⟩ : ∃ Z, Hid ((nats l).map (fun k => Value.int .i64 k) = Z) := ⟨_, Lib.hid rfl⟩
              rw [hZ.out] at oY
              have hBY := hB4.trans (bY.mono hB4.size)
              have hlo : ∀ g, (Value.slice A8 l.length q8).ownBlock = some g → wo.heap.size ≤ g := fun g hg => by
                have := hO4.lt g (by rw [hll]; exact hg)
                exact this.1
              have hY := heap_alloc_new w4 (.cells #[.int .i64 k] 3)
              replace hY := Lib.hid hY
              replace hlo := Lib.hid hlo
              clear hst hmm hO4 hll hB4
              have e1' : t0 = b ∨ (t0 ≠ b ∧ t1 = b) := by by_cases q : t0 = b; exact Or.inl q; exact Or.inr ⟨q, e12.resolve_left q⟩
              clear e12
              rcases e1' with e1 | ⟨e1, e2⟩
              case' inl =>
                have f1 : ((t0 : Int) == (b : Int)) = true := by simp; omega
                clear e1
              case' inr =>
                have f1 : ((t0 : Int) == (b : Int)) = false := by simp; omega
                have f2 : ((t1 : Int) == (b : Int)) = true := by simp; omega
                clear e1 e2
              all_goals
                go_wp2_with (at_builtin; refine wpList_append_own _ rfl (.tmp 67) (.tmp 69) 30 rfl wo.heap.size 3 Tryz.t3 (.int .i64 0) 1 8 Tryz.underlying30 (by kernel_rfl) (by kernel_rfl) rfl rfl rfl (by decide) (.slice A8 l.length q8) l.length Z rfl oY ⟨w4.heap.size, 0, none⟩ 1 1 [.int .i64 k] rfl rfl (World.news_of_block hY.out) ?c2 ?c3 ?c4 ?c5 ?_)
                case c2 => intro u hu; simp at hu; subst hu; rfl
                case c3 => unfold maxLen; omega
                case c4 => omega
                case c5 => exact hBY.size
                intro v' wA o2 gr _
                have oA : IOwn wA wo.heap.size v' (nats (predsOf (succs c) (k + 1) b)) := by
                  unfold IOwn
                  rw [hO5.out, show (nats (l ++ [k])).length = l.length + 1 by simp [nats], show (nats (l ++ [k])).map (fun k => Value.int .i64 k) = Z ++ [Value.int .i64 k] by rw [← hZ.out]; simp [nats]]
                  exact o2
                have bA2 : Below wo.heap.size wo wA := hBY.grown gr hBY.size hlo.out
                clear o2 gr oY hY hBY bY c0 c1
                go_wp2_with fail
                go_roundw
                case rel => exact ⟨k + 1, hkn, by go_num, oA, bA2⟩
                case measure => simp only [iOf]; omega
            · have f1 : ((t0 : Int) == (b : Int)) = false := by simp; omega
              have f2 : ((t1 : Int) == (b : Int)) = false := by simp; omega
              have hO5 := hO4
              have hpe : predsOf (succs c) k b = predsOf (succs c) (k + 1) b := by
                rw [hst.out, if_neg (fun q => e12 (hmm.out.1 q)), List.append_nil]
              rw [hpe] at hO5
              clear hO4 hst hmm e12 hpe
              go_wp2_with fail
              go_roundw
              case rel => exact ⟨k + 1, hkn, by go_num, hO5, hB4⟩
              case measure => simp only [iOf]; omega
          · have hke : k = c.bk.length := by omega
            subst hke
            have hkc : ¬ ((c.bk.length : Int) < (c.bk.length : Int)) := by omega
            rw [hp.out] at hO
            obtain ⟨A8, q8, rfl, p1, p2, hr8⟩ := hO.read
            rw [hpl.out] at p1 ⊢
            have kI := Lib.hid (hIn.out _ A8 q8 p hB hr8 p1 p2)
            have hR3 := hR2.out
            replace hR3 := Lib.hid hR3
            unfold maxLen at p2
            clear hO hr8 hIn hkn
            go_wp2_with fail
            refine kI.out.mono ?_
            rintro e w5 ⟨rfl, b5⟩
            rw [sameB_of rfl]
            have hB5 := hB.trans (b5.mono hB.size)
            have hR5 := hR3.out _ hB5
            have hW5 := hWo.trans (hB5.mono hWo.size)
            have hX5 := hXo.below hB5
            clear kI hR3 hB b5 hW1 hX1
            by_cases e0 : b = 0
            case' pos =>
              have f0 := hz.out.2 e0
              have f1 : ((p.length : Int) == 0) = true := by rw [f0]; rfl
              clear f0
              have f2 : ((b : Int) == 0) = true := by simp; omega
            case' neg =>
              have f0 : p.length ≠ 0 := fun q => e0 (hz.out.1 q)
              have f1 : ((p.length : Int) == 0) = false := by
                have : ((p.length : Nat) : Int) ≠ 0 := by omega
                simpa using this
              clear f0
              have f2 : ((b : Int) == 0) = false := by simp; omega
            all_goals
              clear e0
              go_wp2_with fail
              go_roundw
              case rel => exact ⟨b + 1, hbn, by go_num, hW5, hX5, hR5⟩
              case measure => simp only [iOf]; omega
      · have hbe : b = c.bk.length := by omega
        subst hbe
        have hbc : ¬ ((c.bk.length : Int) < (c.bk.length : Int)) := by omega
        clear hR hX hbn
        go_wp2
        go_ret
        exact ⟨rfl, hW⟩
end Go.Proofs.YtnbgadndkepomaaGreatDoor
