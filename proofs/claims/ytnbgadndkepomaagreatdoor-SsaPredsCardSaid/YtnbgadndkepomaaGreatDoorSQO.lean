/- Joined texts: SaRv1, SaRv2, SaRv3, SaRv4. -/
import Derived.Test.YtnbgadndkepomaaGreatDoorSaUse
import Derived.Test.YtnbgadndkepomaaGreatDoorSQN
import Derived.Test.YtnbgadndkepomaaGreatDoorSQF

namespace Go.Proofs.YtnbgadndkepomaaGreatDoor
open Go.RowKit

/-- What the walks by hand rewrite with. -/
theorem sm : (∀ (a : Act) (i : Nat) (v : Value), Act.put a (some i) v = { a with tmps := a.tmps.setIfInBounds i v }) ∧ (∀ (a : Act) (v : Value), Act.put a none v = a) ∧
    (∀ (l : List Oper) (i : Nat) (h : i < l.toArray.size), l.toArray[i] = l[i]'(by simpa using h)) ∧ (∀ (a : Oper) (l : List Oper), (a :: l)[0] = a) ∧ (∀ (a : Oper) (l : List Oper) (i : Nat) (h : i + 1 < (a :: l).length), (a :: l)[i + 1] = l[i]'(by simpa using h)) ∧
    (∀ (l : List Value) (i : Nat) (v : Value), l.toArray.setIfInBounds i v = (l.set i v).toArray) ∧ (∀ (a b : Value) (l : List Value), (a :: l).set 0 b = b :: l) ∧ (∀ (a b : Value) (l : List Value) (i : Nat), (a :: l).set (i + 1) b = a :: l.set i b) :=
  ⟨fun _ _ _ => rfl, fun _ _ => rfl, fun _ _ _ => List.getElem_toArray _, fun _ _ => rfl, fun _ _ _ _ => rfl, fun _ _ _ => List.setIfInBounds_toArray .., fun _ _ _ => rfl, fun _ _ _ _ => rfl⟩
theorem PtAt.new {w : World} {c : Cd} {x : Sl} (h : CdAt w c x) : PtAt (w.alloc (.cells #[.slice x.S c.st.length x.sc, .slice x.N c.nm.length x.nc, .slice x.I c.ins.length x.ic, .slice x.K c.bk.length x.kc] 27)) w.heap.size c x :=
  ⟨(Box.new w _ _).cell 0, (Box.new w _ _).cell 1, (Box.new w _ _).cell 2, (Box.new w _ _).cell 3, h.later ((Below.refl _ _).alloc (Nat.le_refl _) _)⟩
def widB (n : Int) : Bool := decide (1 ≤ n ∧ n ≤ 64)
def plcB (n : Int) : Bool := decide (0 ≤ n ∧ n ≤ 4000)
theorem rWidth_any (n : Int) (W : World) : Calls Tryz.prog 56 #[.int .i64 n] W fun e w' => e = .returned (.bool (widB n)) ∧ W = w' := by
  by_cases h1 : 1 ≤ n
  · have d1 : decide (1 ≤ n) = true := by simpa using h1
    by_cases h2 : n ≤ 64
    · have d2 : decide (n ≤ 64) = true := by simpa using h2
      have hz : Hid (widB n = true) := Lib.hid (decide_eq_true ⟨h1, h2⟩)
      clear h1 h2
      go_enter Tryz.func56, Tryz.ntmps56
      go_wp2
      go_ret
      exact ⟨by rw [hz.out]; rfl, rfl⟩
    · have d2 : decide (n ≤ 64) = false := by simpa using h2
      have hz : Hid (widB n = false) := Lib.hid (decide_eq_false (fun h => h2 h.2))
      clear h1 h2
      go_enter Tryz.func56, Tryz.ntmps56
      go_wp2
      go_ret
      exact ⟨by rw [hz.out]; rfl, rfl⟩
  · have d1 : decide (1 ≤ n) = false := by simpa using h1
    have hz : Hid (widB n = false) := Lib.hid (decide_eq_false (fun h => h1 h.1))
    clear h1
    go_enter Tryz.func56, Tryz.ntmps56
    go_wp2
    go_ret
    exact ⟨by rw [hz.out]; rfl, rfl⟩
theorem rplace_any (n : Int) (W : World) : Calls Tryz.prog 60 #[.int .i64 n] W fun e w' => e = .returned (.bool (plcB n)) ∧ W = w' := by
  by_cases h1 : 0 ≤ n
  · have d1 : decide (0 ≤ n) = true := by simpa using h1
    by_cases h2 : n ≤ 4000
    · have d2 : decide (n ≤ 4000) = true := by simpa using h2
      have hz : Hid (plcB n = true) := Lib.hid (decide_eq_true ⟨h1, h2⟩)
      clear h1 h2
      go_enter Tryz.func60, Tryz.ntmps60
      go_wp2
      go_ret
      exact ⟨by rw [hz.out]; rfl, rfl⟩
    · have d2 : decide (n ≤ 4000) = false := by simpa using h2
      have hz : Hid (plcB n = false) := Lib.hid (decide_eq_false (fun h => h2 h.2))
      clear h1 h2
      go_enter Tryz.func60, Tryz.ntmps60
      go_wp2
      go_ret
      exact ⟨by rw [hz.out]; rfl, rfl⟩
  · have d1 : decide (0 ≤ n) = false := by simpa using h1
    have hz : Hid (plcB n = false) := Lib.hid (decide_eq_false (fun h => h1 h.1))
    clear h1
    go_enter Tryz.func60, Tryz.ntmps60
    go_wp2
    go_ret
    exact ⟨by rw [hz.out]; rfl, rfl⟩
set_option maxRecDepth 100000 in
set_option maxHeartbeats 1600000 in
theorem rInt_any {W : World} {c : Cd} {x : Sl} (hx : CdAt W c x) (v : Int) : Calls Tryz.prog 61 #[.agg #[.slice x.S c.st.length x.sc, .slice x.N c.nm.length x.nc, .slice x.I c.ins.length x.ic, .slice x.K c.bk.length x.kc], .int .i64 v] W fun e w' => e = .returned (.int .i64 (wOf c v)) ∧ Below W.heap.size W w' := by
  have hp := PtAt.new hx
  have bA : Below W.heap.size W (W.alloc (.cells #[.slice x.S c.st.length x.sc, .slice x.N c.nm.length x.nc, .slice x.I c.ins.length x.ic, .slice x.K c.bk.length x.kc] 27)) := (Below.refl _ _).alloc (Nat.le_refl _) _
  by_cases h0 : v < 0
  · have hz : Hid (wOf c v = 0) := Lib.hid (by unfold wOf; rw [if_neg (by omega)])
    clear hp
    go_enter Tryz.func61, Tryz.ntmps61
    go_wp2
    go_ret
    exact ⟨by rw [hz.out]; rfl, bA⟩
  · by_cases h1 : (c.ins.length : Int) ≤ v
    · have hz : Hid (wOf c v = 0) := Lib.hid (by unfold wOf; rw [if_pos (by omega), List.getElem?_eq_none (by omega)]; rfl)
      have s2 := hp.s2
      clear hp
      go_enter Tryz.func61, Tryz.ntmps61
      go_wp2
      go_ret
      exact ⟨by rw [hz.out]; rfl, bA⟩
    · obtain ⟨k, rfl⟩ : ∃ k : Nat, v = k := ⟨v.toNat, by omega⟩
      have hk : k < c.ins.length := by omega
      have hkc : (k : Int) < c.ins.length := by omega
      obtain ⟨g, o, s2, h⟩ := hp.inst k hk
      have d : (W.alloc (.cells #[.slice x.S c.st.length x.sc, .slice x.N c.nm.length x.nc, .slice x.I c.ins.length x.ic, .slice x.K c.bk.length x.kc] 27)).cell? ⟨g, o + k * 8 + 1, none⟩ = some (.int .i64 c.ins[k].w) := h.2.1
      have hz : Hid (wOf c k = c.ins[k].w) := Lib.hid (by unfold wOf; rw [if_pos (by omega), Int.toNat_natCast, List.getElem?_eq_getElem hk]; rfl)
      generalize c.ins[k].w = y at d hz
      clear hp h h0 h1
      go_enter Tryz.func61, Tryz.ntmps61
      go_wp2
      go_ret
      exact ⟨by rw [hz.out]; rfl, bA⟩
set_option maxRecDepth 100000 in
set_option maxHeartbeats 1600000 in
theorem rPointer_any {W : World} {c : Cd} {x : Sl} (hx : CdAt W c x) (v : Int) : Calls Tryz.prog 63 #[.agg #[.slice x.S c.st.length x.sc, .slice x.N c.nm.length x.nc, .slice x.I c.ins.length x.ic, .slice x.K c.bk.length x.kc], .int .i64 v] W fun e w' => e = .returned (.int .i64 (pOf c v)) ∧ Below W.heap.size W w' := by
  have hp := PtAt.new hx
  have bA : Below W.heap.size W (W.alloc (.cells #[.slice x.S c.st.length x.sc, .slice x.N c.nm.length x.nc, .slice x.I c.ins.length x.ic, .slice x.K c.bk.length x.kc] 27)) := (Below.refl _ _).alloc (Nat.le_refl _) _
  by_cases h0 : v < 0
  · have hz : Hid (pOf c v = 0) := Lib.hid (by unfold pOf; rw [if_neg (by omega)])
    clear hp
    go_enter Tryz.func63, Tryz.ntmps63
    go_wp2
    go_ret
    exact ⟨by rw [hz.out]; rfl, bA⟩
  · by_cases h1 : (c.ins.length : Int) ≤ v
    · have hz : Hid (pOf c v = 0) := Lib.hid (by unfold pOf; rw [if_pos (by omega), List.getElem?_eq_none (by omega)]; rfl)
      have s2 := hp.s2
      clear hp
      go_enter Tryz.func63, Tryz.ntmps63
      go_wp2
      go_ret
      exact ⟨by rw [hz.out]; rfl, bA⟩
    · obtain ⟨k, rfl⟩ : ∃ k : Nat, v = k := ⟨v.toNat, by omega⟩
      have hk : k < c.ins.length := by omega
      have hkc : (k : Int) < c.ins.length := by omega
      obtain ⟨g, o, s2, h⟩ := hp.inst k hk
      have d : (W.alloc (.cells #[.slice x.S c.st.length x.sc, .slice x.N c.nm.length x.nc, .slice x.I c.ins.length x.ic, .slice x.K c.bk.length x.kc] 27)).cell? ⟨g, o + k * 8 + 2, none⟩ = some (.int .i64 c.ins[k].p) := h.2.2.1
      have hz : Hid (pOf c k = c.ins[k].p) := Lib.hid (by unfold pOf; rw [if_pos (by omega), Int.toNat_natCast, List.getElem?_eq_getElem hk]; rfl)
      generalize c.ins[k].p = y at d hz
      clear hp h h0 h1
      go_enter Tryz.func63, Tryz.ntmps63
      go_wp2
      go_ret
      exact ⟨by rw [hz.out]; rfl, bA⟩
end Go.Proofs.YtnbgadndkepomaaGreatDoor

namespace Go.Proofs.YtnbgadndkepomaaGreatDoor
open Go.RowKit

theorem bk_range {c : Cd} (hb : BlocksP c) {b : CBk} (hbm : b ∈ c.bk) : 0 ≤ b.frm ∧ b.frm ≤ b.til ∧ b.til ≤ (c.ins.length : Int) := chain_at _ _ _ hb b hbm
/-- The state of the loop of Params. -/
def ParS (c : Cd) (b : CBk) (n : Nat) : Prop := n ≤ (insOf c b).length ∧ ∀ (k : Nat) (hk : k < (insOf c b).length), k < n → isPar (insOf c b)[k] = true
set_option maxRecDepth 100000 in
set_option maxHeartbeats 1600000 in
theorem rParams_any {W : World} {c : Cd} {x : Sl} (hx : CdAt W c x) (hb : BlocksP c) (hin : c.ins.length ≤ 3000) (b : Nat) (hbl : b < c.bk.length) : Calls Tryz.prog 39 #[.agg #[.slice x.S c.st.length x.sc, .slice x.N c.nm.length x.nc, .slice x.I c.ins.length x.ic, .slice x.K c.bk.length x.kc], .int .i64 b] W fun e w' => e = .returned (.int .i64 (parR c c.bk[b])) ∧ Below W.heap.size W w' := by
  have hp := PtAt.new hx
  have bA : Below W.heap.size W (W.alloc (.cells #[.slice x.S c.st.length x.sc, .slice x.N c.nm.length x.nc, .slice x.I c.ins.length x.ic, .slice x.K c.bk.length x.kc] 27)) := (Below.refl _ _).alloc (Nat.le_refl _) _
  have hbm : c.bk[b] ∈ c.bk := List.getElem_mem hbl
  obtain ⟨r0, r1, r2⟩ := bk_range hb hbm
  have hlen := ins_len hb hbm
  have hget := fun k hk => ins_get hb hbm (k := k) hk
  have hbc : (b : Int) < c.bk.length := by omega
  obtain ⟨g, o, TA, EA, tc, ec, s3, hK⟩ := hp.blk b hbl
  have d0 : (W.alloc (.cells #[.slice x.S c.st.length x.sc, .slice x.N c.nm.length x.nc, .slice x.I c.ins.length x.ic, .slice x.K c.bk.length x.kc] 27)).cell? ⟨g, o + b * 10, none⟩ = some (.int .i64 c.bk[b].frm) := hK.1.1
  have d1 : (W.alloc (.cells #[.slice x.S c.st.length x.sc, .slice x.N c.nm.length x.nc, .slice x.I c.ins.length x.ic, .slice x.K c.bk.length x.kc] 27)).cell? ⟨g, o + b * 10 + 1, none⟩ = some (.int .i64 c.bk[b].til) := hK.1.2.1
  have s2 := hp.s2
  have hinst := fun k hk => hp.inst k hk
  obtain ⟨f, hf⟩ : ∃ f : Nat, c.bk[b].frm = f := ⟨c.bk[b].frm.toNat, by omega⟩
  obtain ⟨u, hu⟩ : ∃ u : Nat, c.bk[b].til = u := ⟨c.bk[b].til.toNat, by omega⟩
  have hP : Hid (parR c c.bk[b] = ((insOf c c.bk[b]).takeWhile isPar).length) := Lib.hid rfl
  have hS0 : ParS c c.bk[b] 0 := ⟨Nat.zero_le _, fun k hk h => by omega⟩
  generalize c.bk[b] = y at *
  rw [hf] at d0 r0 r1
  rw [hu] at d1 r1 r2
  rw [hf, hu] at hlen
  have hinst := Lib.hid hinst
  have hget := Lib.hid hget
  clear hp hK hb hx hbm
  obtain ⟨w1, hw1⟩ : ∃ w1, Hid ((W.alloc (.cells #[.slice x.S c.st.length x.sc, .slice x.N c.nm.length x.nc, .slice x.I c.ins.length x.ic, .slice x.K c.bk.length x.kc] 27)) = w1) := ⟨_, Lib.hid rfl⟩
  go_enter Tryz.func39, Tryz.ntmps39
  go_wp2_with fail
  go_loopw [5, 6] (fun v i wr => ∃ n : Nat, v = .int .i64 n ∧ i = .int .i64 ((f + n : Nat) : Int) ∧ Hid (ParS c y n) ∧ wr = (W.alloc (.cells #[.slice x.S c.st.length x.sc, .slice x.N c.nm.length x.nc, .slice x.I c.ins.length x.ic, .slice x.K c.bk.length x.kc] 27))) (fun _ i _ => u - iOf i)
  case atStart => exact ⟨0, rfl, by simp, Lib.hid hS0, rfl⟩
  case round =>
    obtain ⟨n, rfl, rfl, hS, rfl⟩ := hrel
    obtain ⟨hn, hall⟩ := hS.out
    by_cases hlt : n < (insOf c y).length
    · have hfu : ((f + n : Nat) : Int) < (u : Int) := by omega
      obtain ⟨hk, e1, _⟩ := hget.out n hlt
      have ef : y.frm.toNat = f := by rw [hf]; simp
      simp only [ef] at hk e1
      replace ef := Lib.hid ef
      obtain ⟨g2, o2, s2', hI⟩ := hinst.out (f + n) hk
      have i0 : (W.alloc (.cells #[.slice x.S c.st.length x.sc, .slice x.N c.nm.length x.nc, .slice x.I c.ins.length x.ic, .slice x.K c.bk.length x.kc] 27)).cell? ⟨g2, o2 + (f + n) * 8, none⟩ = some (.int .i64 c.ins[f + n].op) := hI.1
      have hkc : ((f + n : Nat) : Int) < (c.ins.length : Int) := by omega
      have hw1 : IntKind.i64.wrap (((f + n : Nat) : Int) + 1) = ((f + (n + 1) : Nat) : Int) := by rw [IntWalk.i64_in _ (by omega)]; omega
      have hw2 : IntKind.i64.wrap ((n : Int) + 1) = ((n + 1 : Nat) : Int) := by rw [IntWalk.i64_in _ (by omega)]; omega
      have hpar : isPar (insOf c y)[n] = decide (c.ins[f + n].op = 30) := by rw [e1]; rfl
      generalize c.ins[f + n].op = op at i0 hpar
      clear s2
      by_cases hop : op = 30
      · have hq : (op == 30) = true := by simpa using hop
        have hS2 : Hid (ParS c y (n + 1)) := Lib.hid ⟨hlt, fun k hk2 h => by
          by_cases e : k = n
          · subst e; rw [hpar, decide_eq_true hop]
          · exact hall k hk2 (by omega)⟩
        clear hop hall hpar hS
        go_wp2_with fail
        go_roundw
        case rel => exact ⟨n + 1, rfl, rfl, hS2, by first | rfl | trivial⟩
        case measure => simp only [iOf]; omega
      · have hq : (op == 30) = false := by simpa using hop
        have hz : Hid (parR c y = n) := Lib.hid (by rw [hP.out]; exact tw_len _ n hn hall (fun _ => by rw [hpar, decide_eq_false hop]))
        clear hop hall hpar hS
        go_wp2
        go_ret
        exact ⟨by rw [hz.out]; rfl, bA⟩
    · have hz : Hid (parR c y = n) := Lib.hid (by rw [hP.out]; exact tw_len _ n hn hall (fun h => absurd h hlt))
      have hfu : ¬ ((f + n : Nat) : Int) < (u : Int) := by omega
      have hfd : decide (((f + n : Nat) : Int) < (u : Int)) = false := by simpa using hfu
      clear hall hS hfu
      go_wp2
      go_ret
      exact ⟨by rw [hz.out]; rfl, bA⟩
end Go.Proofs.YtnbgadndkepomaaGreatDoor

namespace Go.Proofs.YtnbgadndkepomaaGreatDoor
open Go.RowKit

/-- What is asked of the value with an index among an edge's values. -/
def PassK (c : Cd) (f : Int) (_args : List Int) (k : Nat) (v : Int) : Prop := Ix v c.ins ∧ wOf c v = wOf c (f + k) ∧ pOf c v = pOf c (f + k)
def PassS (c : Cd) (f : Int) (args : List Int) (n : Nat) : Prop := ∀ (k : Nat) (hk : k < args.length), k < n → PassK c f args k args[k]
theorem wOf_at {c : Cd} {k : Nat} (h : k < c.ins.length) : wOf c k = c.ins[k].w ∧ pOf c k = c.ins[k].p := by
  unfold wOf pOf
  rw [if_pos (by omega), if_pos (by omega), Int.toNat_natCast, List.getElem?_eq_getElem h]
  exact ⟨rfl, rfl⟩
theorem par_le {c : Cd} {b : CBk} : parR c b ≤ (insOf c b).length := by
  unfold parR
  exact (List.takeWhile_prefix _).length_le
set_option maxRecDepth 100000 in
set_option maxHeartbeats 6400000 in
theorem rpasses_any {W : World} {c : Cd} {x : Sl} (hx : CdAt W c x) (hb : BlocksP c) (hin : c.ins.length ≤ 3000) (tg : Int) (args : List Int) (TA : Option Addr) (tc : Nat) (hr : IRow W TA args) (_hl : args.length ≤ tc ∧ tc ≤ maxLen) :
    Calls Tryz.prog 64 #[.agg #[.slice x.S c.st.length x.sc, .slice x.N c.nm.length x.nc, .slice x.I c.ins.length x.ic, .slice x.K c.bk.length x.kc], .int .i64 tg, .slice TA args.length tc] W fun e w' => e = .returned (.bool (B (PassR c tg args))) ∧ Below W.heap.size W w' := by
  have hp := PtAt.new hx
  have bA : Below W.heap.size W (W.alloc (.cells #[.slice x.S c.st.length x.sc, .slice x.N c.nm.length x.nc, .slice x.I c.ins.length x.ic, .slice x.K c.bk.length x.kc] 27)) := (Below.refl _ _).alloc (Nat.le_refl _) _
  by_cases h0 : tg < 0
  · have hz : Hid (B (PassR c tg args) = false) := Lib.hid (B_not (fun h => by have := h.1; omega))
    clear hp hx hr
    go_enter Tryz.func64, Tryz.ntmps64
    go_wp2
    go_ret
    exact ⟨by rw [hz.out]; rfl, bA⟩
  · by_cases h1 : (c.bk.length : Int) ≤ tg
    · have hz : Hid (B (PassR c tg args) = false) := Lib.hid (B_not (fun h => by obtain ⟨_, h2, _⟩ := h; omega))
      have s3 := hp.s3
      clear hp hx hr
      go_enter Tryz.func64, Tryz.ntmps64
      go_wp2
      go_ret
      exact ⟨by rw [hz.out]; rfl, bA⟩
    · obtain ⟨t, rfl⟩ : ∃ t : Nat, tg = t := ⟨tg.toNat, by omega⟩
      have ht : t < c.bk.length := by omega
      have htc : (t : Int) < c.bk.length := by omega
      have hPar := rParams_any (hx.later bA) hb hin t ht
      have hbm : c.bk[t] ∈ c.bk := List.getElem_mem ht
      obtain ⟨r0, r1, r2⟩ := bk_range hb hbm
      have hlen := ins_len hb hbm
      have hple := par_le (c := c) (b := c.bk[t])
      have hdef : PassR c (t : Int) args ↔ (args.length = parR c c.bk[t] ∧ PassS c c.bk[t].frm args args.length) := by
        unfold PassR PassS PassK
        constructor
        · rintro ⟨_, h2, h3, h4⟩
          simp only [Int.toNat_natCast] at h3 h4
          exact ⟨h3, fun k hk _ => h4 k hk⟩
        · rintro ⟨h3, h4⟩
          refine ⟨by omega, by simpa using ht, ?_⟩
          simp only [Int.toNat_natCast]
          exact ⟨h3, fun k hk => h4 k hk hk⟩
      have s0 := hp.s0
      have s1 := hp.s1
      have s2 := hp.s2
      have s3 := hp.s3
      by_cases hn : args.length = parR c c.bk[t]
      · have hz0 : Hid (PassR c (t : Int) args ↔ PassS c c.bk[t].frm args args.length) := Lib.hid ⟨fun h => (hdef.1 h).2, fun h => hdef.2 ⟨hn, h⟩⟩
        have hpn : args.length ≤ (insOf c c.bk[t]).length := by omega
        rw [← hn] at hPar
        have hxl : PtAt (W.alloc (.cells #[.slice x.S c.st.length x.sc, .slice x.N c.nm.length x.nc, .slice x.I c.ins.length x.ic, .slice x.K c.bk.length x.kc] 27)) W.heap.size c x := hp
        have hrl := hr.later bA
        obtain ⟨f, hf⟩ : ∃ f : Nat, c.bk[t].frm = f := ⟨c.bk[t].frm.toNat, by omega⟩
        have hfl : f + args.length ≤ c.ins.length := by omega
        rw [hf] at hz0
        clear hdef hn hple hlen hp hx hr r0 r1 r2 s0 s1 s2 s3 hpn hb
        obtain ⟨p0, hp0⟩ : ∃ p0, Hid (W.heap.size = p0) := ⟨_, Lib.hid rfl⟩
        have q3 := hxl.s3
        go_enter Tryz.func64, Tryz.ntmps64
        go_wp2_with fail
        refine hPar.mono ?_
        rintro e w1 ⟨rfl, b1⟩
        have hxl := hxl.later b1
        have hrl := hrl.later b1
        have b1 := bA.trans (b1.mono bA.size)
        clear hPar bA q3
        go_wp2_with fail
        go_loopw [7] (fun v wr => ∃ n : Nat, n ≤ args.length ∧ v = .int .i64 n ∧ Hid (PassS c f args n) ∧ Below W.heap.size W wr ∧ PtAt wr W.heap.size c x ∧ IRow wr TA args) (fun v _ => args.length - iOf v)
        case atStart => exact ⟨0, Nat.zero_le _, rfl, Lib.hid (fun k hk h => by omega), b1, hxl, hrl⟩
        case round =>
          rename_i wr
          clear b1 hxl hrl
          obtain ⟨n, hn, rfl, hS, bW, hxl, hrl⟩ := hrel
          have hS := hS.out
          by_cases hlt : n < args.length
          · have hlc : (n : Int) < args.length := by omega
            have hwi : IntKind.i64.wrap ((n : Int) + 1) = ((n + 1 : Nat) : Int) := by rw [IntWalk.i64_in _ (by omega)]; omega
            have hwf : IntKind.i64.wrap ((f : Int) + n) = ((f + n : Nat) : Int) := by rw [IntWalk.i64_in _ (by omega)]; omega
            have hfc : ((f + n : Nat) : Int) < (c.ins.length : Int) := by omega
            have hfn : f + n < c.ins.length := by omega
            obtain ⟨g2, o2, s2, hI⟩ := hxl.inst (f + n) hfn
            obtain ⟨g3, o3, T3, E3, t3, e3, s3, hK, _⟩ := hxl.blk t ht
            have d0 : wr.cell? ⟨g3, o3 + t * 10, none⟩ = some (.int .i64 f) := by rw [← hf]; exact hK.1
            obtain ⟨i0, i1, i2, i3, i4, i5, i6, i7⟩ := hI
            have hwp := wOf_at hfn
            generalize c.ins[f + n] = y at i0 i1 i2 i3 i4 i5 i6 i7 hwp
            have bN : Below wr.heap.size wr (wr.alloc (.cells #[.int .i64 y.op, .int .i64 y.w, .int .i64 y.p, .int .i64 y.a, .int .i64 y.b, .int .i64 y.c, .int .u64 y.n, .int .i64 y.at_] 47)) := (Below.refl _ _).alloc (Nat.le_refl _) _
            clear hK
            have zs2 := Lib.cell?_alloc_some (.cells #[.int .i64 0, .int .i64 0, .int .i64 0, .int .i64 0, .int .i64 0, .int .i64 0, .int .u64 0, .int .i64 0] 47) s2
            have zs3 := Lib.cell?_alloc_some (.cells #[.int .i64 0, .int .i64 0, .int .i64 0, .int .i64 0, .int .i64 0, .int .i64 0, .int .u64 0, .int .i64 0] 47) s3
            have zd0 := Lib.cell?_alloc_some (.cells #[.int .i64 0, .int .i64 0, .int .i64 0, .int .i64 0, .int .i64 0, .int .i64 0, .int .u64 0, .int .i64 0] 47) d0
            have zi0 := Lib.cell?_alloc_some (.cells #[.int .i64 0, .int .i64 0, .int .i64 0, .int .i64 0, .int .i64 0, .int .i64 0, .int .u64 0, .int .i64 0] 47) i0
            have zi1 := Lib.cell?_alloc_some (.cells #[.int .i64 0, .int .i64 0, .int .i64 0, .int .i64 0, .int .i64 0, .int .i64 0, .int .u64 0, .int .i64 0] 47) i1
            have zi2 := Lib.cell?_alloc_some (.cells #[.int .i64 0, .int .i64 0, .int .i64 0, .int .i64 0, .int .i64 0, .int .i64 0, .int .u64 0, .int .i64 0] 47) i2
            have zi3 := Lib.cell?_alloc_some (.cells #[.int .i64 0, .int .i64 0, .int .i64 0, .int .i64 0, .int .i64 0, .int .i64 0, .int .u64 0, .int .i64 0] 47) i3
            have zi4 := Lib.cell?_alloc_some (.cells #[.int .i64 0, .int .i64 0, .int .i64 0, .int .i64 0, .int .i64 0, .int .i64 0, .int .u64 0, .int .i64 0] 47) i4
            have zi5 := Lib.cell?_alloc_some (.cells #[.int .i64 0, .int .i64 0, .int .i64 0, .int .i64 0, .int .i64 0, .int .i64 0, .int .u64 0, .int .i64 0] 47) i5
            have zi6 := Lib.cell?_alloc_some (.cells #[.int .i64 0, .int .i64 0, .int .i64 0, .int .i64 0, .int .i64 0, .int .i64 0, .int .u64 0, .int .i64 0] 47) i6
            have zi7 := Lib.cell?_alloc_some (.cells #[.int .i64 0, .int .i64 0, .int .i64 0, .int .i64 0, .int .i64 0, .int .i64 0, .int .u64 0, .int .i64 0] 47) i7
            go_wp2_with fail
            go_region
            have N := Box.new wr 47 #[.int .i64 y.op, .int .i64 y.w, .int .i64 y.p, .int .i64 y.a, .int .i64 y.b, .int .i64 y.c, .int .u64 y.n, .int .i64 y.at_]
            obtain ⟨X, hX⟩ : ∃ Y, (wr.alloc (.cells #[.int .i64 y.op, .int .i64 y.w, .int .i64 y.p, .int .i64 y.a, .int .i64 y.b, .int .i64 y.c, .int .u64 y.n, .int .i64 y.at_] 47)).drew = Y := ⟨_, rfl⟩
            have bX : Below wr.heap.size wr X := hX ▸ Below.trans bN ((Drew.below ⟨1, rfl⟩).mono bN.size)
            have NX : Box X wr.heap.size 47 #[.int .i64 y.op, .int .i64 y.w, .int .i64 y.p, .int .i64 y.a, .int .i64 y.b, .int .i64 y.c, .int .u64 y.n, .int .i64 y.at_] := hX ▸ N
            have hxX := hxl.later bX
            have hrX := hrl.later bX
            have bWX := bW.trans (bX.mono bW.size)
            have hkn := Lib.hid (show PassS c f args n from hS)
            simp only [hX]
            clear hX N bN hxl hrl hS i0 i1 i2 i3 i4 i5 i6 i7 s2 s3 d0 zs2 zs3 zd0 zi0 zi1 zi2 zi3 zi4 zi5 zi6 zi7 bW
            obtain ⟨ga, oa, eTA, a0⟩ := hrX n hlt
            subst eTA
            obtain ⟨v, hv⟩ : ∃ v, Hid (args[n] = v) := ⟨_, Lib.hid rfl⟩
            rw [hv.out] at a0
            have n1 := NX.cell 1
            have n2 := NX.cell 2
            have s2 := hxX.s2
            have hbad : Hid (¬ PassK c f args n v → B (PassR c (t : Int) args) = false) := Lib.hid (fun h => B_not (fun h2 => h (by rw [← hv.out]; exact hz0.out.1 h2 n hlt hlt)))
            have hgood : Hid (PassK c f args n v → PassS c f args (n + 1)) := Lib.hid (fun h k hk hkn2 => by
              by_cases e : k = n
              · subst e; rw [hv.out]; exact h
              · exact hkn.out k hk (by omega))
            have hpk : Hid (PassK c f args n v ↔ (Ix v c.ins ∧ wOf c v = y.w ∧ pOf c v = y.p)) := Lib.hid (by unfold PassK; rw [show (f : Int) + n = ((f + n : Nat) : Int) by omega, hwp.1, hwp.2])
            clear hkn hwp hv NX
            by_cases v0 : v < 0
            · have dv : decide (v < 0) = true := by simpa using v0
              have hz := Lib.hid (hbad.out (fun h => by have := (hpk.out.1 h).1.1; omega))
              clear hbad hgood hpk v0
              go_wp2_with fail
              go_quiet (fail)
              go_wp2
              go_ret
              exact ⟨by rw [hz.out]; rfl, below_drewN bWX _⟩
            · have dv : decide (v < 0) = false := by simpa using v0
              by_cases v1 : (c.ins.length : Int) ≤ v
              · have dl : decide ((c.ins.length : Int) ≤ v) = true := by simpa using v1
                have hz := Lib.hid (hbad.out (fun h => by have := (hpk.out.1 h).1.2; omega))
                clear hbad hgood hpk v0 v1
                go_wp2_with fail
                go_quiet (fail)
                go_wp2
                go_ret
                exact ⟨by rw [hz.out]; rfl, below_drewN bWX _⟩
              · obtain ⟨V, rfl⟩ : ∃ V : Nat, v = V := ⟨v.toNat, by omega⟩
                have hVl : V < c.ins.length := by omega
                have hVc : (V : Int) < (c.ins.length : Int) := by omega
                have dl : decide (c.ins.length ≤ V) = false := by simp; omega
                obtain ⟨g5, o5, s5, hI⟩ := hxX.inst V hVl
                have hIx : Ix (V : Int) c.ins := ⟨by omega, hVc⟩
                have hwv := wOf_at hVl
                obtain ⟨_, u1, u2, _⟩ := hI
                rw [hwv.1, hwv.2] at hpk
                generalize c.ins[V].w = vw at u1 hpk
                generalize c.ins[V].p = vp at u2 hpk
                clear hwv s2 v0 v1 dv
                have dv : decide ((V : Int) < 0) = false := by simp
                by_cases e1 : vw = y.w
                · by_cases e2 : vp = y.p
                  · subst e1
                    subst e2
                    have hS2 := Lib.hid (hgood.out (hpk.out.2 ⟨hIx, rfl, rfl⟩))
                    clear hbad hgood hpk
                    go_wp2_with fail
                    go_quiet (fail)
                    go_wp2_with fail
                    go_roundw
                    case rel => exact ⟨n + 1, hlt, rfl, hS2, below_drewN bWX _, hxX.later (Drew.below ⟨_, rfl⟩), hrX.later (Drew.below ⟨_, rfl⟩)⟩
                    case measure => simp only [iOf]; omega
                  · have dp : (vp != y.p) = true := by simpa using e2
                    have hz := Lib.hid (hbad.out (fun h => e2 (hpk.out.1 h).2.2))
                    subst e1
                    clear hbad hgood hpk e2
                    go_wp2_with fail
                    go_quiet (fail)
                    go_wp2
                    go_ret
                    exact ⟨by rw [hz.out]; rfl, below_drewN bWX _⟩
                · have dw : (vw != y.w) = true := by simpa using e1
                  have hz := Lib.hid (hbad.out (fun h => e1 (hpk.out.1 h).2.1))
                  clear hbad hgood hpk e1
                  go_wp2_with fail
                  go_quiet (fail)
                  go_wp2
                  go_ret
                  exact ⟨by rw [hz.out]; rfl, below_drewN bWX _⟩
          · have hie : n = args.length := by omega
            subst hie
            have hz : Hid (B (PassR c (t : Int) args) = true) := Lib.hid (B_of (hz0.out.2 hS))
            clear hS hxl hrl
            go_wp2
            go_ret
            exact ⟨by rw [hz.out]; rfl, bW⟩
      · have hz : Hid (B (PassR c (t : Int) args) = false) := Lib.hid (B_not (fun h => hn (hdef.1 h).1))
        have hq : ((args.length : Int) != (parR c c.bk[t] : Int)) = true := by simp; omega
        generalize parR c c.bk[t] = pn at hPar hq
        clear hp hx hr hdef hn hple hlen
        go_enter Tryz.func64, Tryz.ntmps64
        go_wp2_with fail
        refine hPar.mono ?_
        rintro e w1 ⟨rfl, b1⟩
        clear hPar
        go_wp2
        go_ret
        exact ⟨by rw [hz.out]; rfl, bA.trans (b1.mono bA.size)⟩
end Go.Proofs.YtnbgadndkepomaaGreatDoor

namespace Go.Proofs.YtnbgadndkepomaaGreatDoor
open Go.RowKit

/-- The blocks from one place on follow each other up to an index. -/
def CovS (c : Cd) (i : Nat) (a : Int) : Prop := 0 ≤ a ∧ a ≤ (c.ins.length : Int) ∧ (BlocksP c ↔ ChainP a (c.bk.drop i) c.ins.length)
def coversP (c : Cd) : Prop := 1 ≤ c.bk.length ∧ c.bk.length ≤ 400 ∧ c.ins.length ≤ 3000 ∧ BlocksP c
theorem cov_step {c : Cd} {i : Nat} {a : Int} (h : CovS c i a) (hi : i < c.bk.length) (e : c.bk[i].frm = a) (h1 : a ≤ c.bk[i].til) (h2 : c.bk[i].til ≤ c.ins.length) : CovS c (i + 1) c.bk[i].til := by
  refine ⟨by have := h.1; omega, h2, ?_⟩
  rw [h.2.2, List.drop_eq_getElem_cons hi]
  show (c.bk[i].frm = a ∧ a ≤ c.bk[i].til ∧ ChainP c.bk[i].til (c.bk.drop (i + 1)) c.ins.length) ↔ _
  exact ⟨fun q => q.2.2, fun q => ⟨e, h1, q⟩⟩
theorem cov_bad {c : Cd} {i : Nat} {a : Int} (h : CovS c i a) (hi : i < c.bk.length) (hn : ¬ (c.bk[i].frm = a ∧ a ≤ c.bk[i].til ∧ c.bk[i].til ≤ c.ins.length)) : ¬ BlocksP c := by
  intro q
  have q2 := h.2.2.1 q
  rw [List.drop_eq_getElem_cons hi] at q2
  obtain ⟨e, h1, h2⟩ := (show c.bk[i].frm = a ∧ a ≤ c.bk[i].til ∧ ChainP c.bk[i].til (c.bk.drop (i + 1)) c.ins.length from q2)
  exact hn ⟨e, h1, chain_ge _ _ _ h2⟩
theorem cov_end {c : Cd} {a : Int} (h : CovS c c.bk.length a) : BlocksP c ↔ a = c.ins.length := by
  rw [h.2.2, List.drop_length]
  unfold ChainP
  exact Iff.rfl

set_option maxRecDepth 100000 in
set_option maxHeartbeats 1600000 in
theorem rcovers_any {W : World} {c : Cd} {x : Sl} (hx : CdAt W c x) (hok : c.ok) : Calls Tryz.prog 37 #[.agg #[.slice x.S c.st.length x.sc, .slice x.N c.nm.length x.nc, .slice x.I c.ins.length x.ic, .slice x.K c.bk.length x.kc]] W fun e w' => e = .returned (.bool (B (coversP c))) ∧ Below W.heap.size W w' := by
  have hp := PtAt.new hx
  have bA : Below W.heap.size W (W.alloc (.cells #[.slice x.S c.st.length x.sc, .slice x.N c.nm.length x.nc, .slice x.I c.ins.length x.ic, .slice x.K c.bk.length x.kc] 27)) := (Below.refl _ _).alloc (Nat.le_refl _) _
  have s2 := hp.s2
  have s3 := hp.s3
  by_cases h1 : c.bk.length < 1
  · have hz : Hid (B (coversP c) = false) := Lib.hid (B_not (fun h => by have := h.1; omega))
    have hd : (c.bk.length : Int) < 1 := by omega
    clear hp hx h1
    go_enter Tryz.func37, Tryz.ntmps37
    go_wp2
    go_ret
    exact ⟨by rw [hz.out]; rfl, bA⟩
  · have hd : ¬ (c.bk.length : Int) < 1 := by omega
    by_cases h4 : 400 < c.bk.length
    · have hz : Hid (B (coversP c) = false) := Lib.hid (B_not (fun h => by have := h.2.1; omega))
      have hd2 : (400 : Int) < c.bk.length := by omega
      clear hp hx h1 h4
      go_enter Tryz.func37, Tryz.ntmps37
      go_wp2
      go_ret
      exact ⟨by rw [hz.out]; rfl, bA⟩
    · have hd2 : ¬ (400 : Int) < c.bk.length := by omega
      by_cases h3 : 3000 < c.ins.length
      · have hz : Hid (B (coversP c) = false) := Lib.hid (B_not (fun h => by have := h.2.2.1; omega))
        have hd3 : (3000 : Int) < c.ins.length := by omega
        clear hp hx h1 h4 h3
        go_enter Tryz.func37, Tryz.ntmps37
        go_wp2
        go_ret
        exact ⟨by rw [hz.out]; rfl, bA⟩
      · have hd3 : ¬ (3000 : Int) < c.ins.length := by omega
        have hz0 : Hid (coversP c ↔ BlocksP c) := Lib.hid ⟨fun h => h.2.2.2, fun h => ⟨by omega, by omega, by omega, h⟩⟩
        have hokb := Lib.hid hok.bk
        have hbl : c.bk.length ≤ 400 := by omega
        have hil : c.ins.length ≤ 3000 := by omega
        clear hx h1 h4 h3 hok
        go_enter Tryz.func37, Tryz.ntmps37
        go_wp2_with fail
        go_loopw [3, 4] (fun a v wr => ∃ (i : Nat) (z : Int), i ≤ c.bk.length ∧ a = .int .i64 z ∧ v = .int .i64 i ∧ Hid (CovS c i z) ∧ Below W.heap.size W wr ∧ PtAt wr W.heap.size c x) (fun _ v _ => c.bk.length - iOf v)
        case atStart => exact ⟨0, 0, Nat.zero_le _, rfl, rfl, Lib.hid ⟨by omega, by omega, by rw [List.drop_zero]; exact Iff.rfl⟩, bA, hp⟩
        case round =>
          rename_i wr
          clear s2 s3 bA hp
          obtain ⟨i, z, hi, rfl, rfl, hS, bW, hp⟩ := hrel
          have s2 := hp.s2
          have s3 := hp.s3
          by_cases hlt : i < c.bk.length
          · have hlc : (i : Int) < c.bk.length := by omega
            have hwi : IntKind.i64.wrap ((i : Int) + 1) = ((i + 1 : Nat) : Int) := by rw [IntWalk.i64_in _ (by omega)]; omega
            obtain ⟨g, o, TA, EA, tc, ec, s3', ⟨c0, c1, c2, c3, c4, c5, c6, c7, c8, c9⟩, _⟩ := hp.blk i hlt
            have hgood := Lib.hid (fun h1 h2 h3 => cov_step hS.out hlt h1 h2 h3)
            have hbad := Lib.hid (cov_bad hS.out hlt)
            obtain ⟨y, hy⟩ : ∃ y, Hid (c.bk[i] = y) := ⟨_, Lib.hid rfl⟩
            simp only [hy.out] at c0 c1 c2 c3 c4 c5 c6 c7 c8 c9 hgood hbad
            have d0 : wr.cell? ⟨g, o + i * 10, none⟩ = some (.int .i64 y.frm) := c0
            have d1 : wr.cell? ⟨g, o + i * 10 + 1, none⟩ = some (.int .i64 y.til) := c1
            have d2 : wr.cell? ⟨g, o + i * 10 + 2, none⟩ = some (.int .i64 y.en.kind) := c2
            have d3 : wr.cell? ⟨g, o + i * 10 + 3, none⟩ = some (.int .i64 y.en.a) := c3
            have d4 : wr.cell? ⟨g, o + i * 10 + 4, none⟩ = some (.int .i64 y.en.to) := c4
            have d5 : wr.cell? ⟨g, o + i * 10 + 5, none⟩ = some (.int .i64 y.en.els) := c5
            have d6 : wr.cell? ⟨g, o + i * 10 + 6, none⟩ = some (.slice TA y.en.ta.length tc) := c6
            have d7 : wr.cell? ⟨g, o + i * 10 + 7, none⟩ = some (.slice EA y.en.ea.length ec) := c7
            have d8 : wr.cell? ⟨g, o + i * 10 + 8, none⟩ = some (.int .i64 y.en.n) := c8
            have d9 : wr.cell? ⟨g, o + i * 10 + 9, none⟩ = some (.int .i64 y.en.at_) := c9
            have N := Box.new wr 43 #[.int .i64 y.frm, .int .i64 y.til, .int .i64 y.en.kind, .int .i64 y.en.a, .int .i64 y.en.to, .int .i64 y.en.els, .slice TA y.en.ta.length tc, .slice EA y.en.ea.length ec, .int .i64 y.en.n, .int .i64 y.en.at_]
            have bN : Below wr.heap.size wr (wr.alloc (.cells #[.int .i64 y.frm, .int .i64 y.til, .int .i64 y.en.kind, .int .i64 y.en.a, .int .i64 y.en.to, .int .i64 y.en.els, .slice TA y.en.ta.length tc, .slice EA y.en.ea.length ec, .int .i64 y.en.n, .int .i64 y.en.at_] 43)) := (Below.refl _ _).alloc (Nat.le_refl _) _
            have hp2 := hp.later bN
            have bW2 := bW.trans (bN.mono bW.size)
            clear c0 c1 c2 c3 c4 c5 c6 c7 c8 c9 hy hS hp s2 s3
            go_upto_region 8 with fail
            obtain ⟨X, hX⟩ : ∃ Y, wr.alloc (.cells #[.int .i64 y.frm, .int .i64 y.til, .int .i64 y.en.kind, .int .i64 y.en.a, .int .i64 y.en.to, .int .i64 y.en.els, .slice TA y.en.ta.length tc, .slice EA y.en.ea.length ec, .int .i64 y.en.n, .int .i64 y.en.at_] 43) = Y := ⟨_, rfl⟩
            rw [hX] at N bN hp2 bW2
            simp only [hX]
            clear hX d0 d1 d2 d3 d4 d5 d6 d7 d8 d9 s3' bW bN
            have n0 := N.cell 0
            have n1 := N.cell 1
            have s2 := hp2.s2
            by_cases q1 : y.frm = z
            · have e1 : (y.frm != z) = false := by simpa using q1
              by_cases q2 : z ≤ y.til
              · have e2 : decide (y.til < z) = false := by simp; omega
                by_cases q3 : y.til ≤ (c.ins.length : Int)
                · have e3 : decide ((c.ins.length : Int) < y.til) = false := by simp; omega
                  have hS2 := Lib.hid (hgood.out q1 q2 q3)
                  clear hgood hbad q1 q2 q3 N
                  go_wp2_with fail
                  go_roundw
                  case rel => exact ⟨i + 1, _, hlt, rfl, rfl, hS2, bW2, hp2⟩
                  case measure => simp only [iOf]; omega
                · have e3 : decide ((c.ins.length : Int) < y.til) = true := by simp; omega
                  have hz := Lib.hid (B_not (fun h => hbad.out (fun hh => q3 hh.2.2) (hz0.out.1 h)))
                  clear hgood hbad q1 q2 q3 N hp2
                  go_wp2
                  go_ret
                  exact ⟨by rw [hz.out]; rfl, bW2⟩
              · have e2 : decide (y.til < z) = true := by simp; omega
                have hz := Lib.hid (B_not (fun h => hbad.out (fun hh => q2 hh.2.1) (hz0.out.1 h)))
                clear hgood hbad q1 q2 N hp2
                go_wp2
                go_ret
                exact ⟨by rw [hz.out]; rfl, bW2⟩
            · have e1 : (y.frm != z) = true := by simpa using q1
              have hz := Lib.hid (B_not (fun h => hbad.out (fun hh => q1 hh.1) (hz0.out.1 h)))
              clear hgood hbad q1 N hp2
              go_wp2
              go_ret
              exact ⟨by rw [hz.out]; rfl, bW2⟩
          · have hie : i = c.bk.length := by omega
            subst hie
            have hce := cov_end hS.out
            clear hS hp
            by_cases q : z = (c.ins.length : Int)
            · have e : (z == (c.ins.length : Int)) = true := by simpa using q
              have hz := Lib.hid (B_of (hz0.out.2 (hce.2 q)))
              clear hce q
              go_wp2
              go_ret
              exact ⟨by rw [hz.out]; rfl, bW⟩
            · have e : (z == (c.ins.length : Int)) = false := by simpa using q
              have hz := Lib.hid (B_not (fun h => q (hce.1 (hz0.out.1 h))))
              clear hce q
              go_wp2
              go_ret
              exact ⟨by rw [hz.out]; rfl, bW⟩
end Go.Proofs.YtnbgadndkepomaaGreatDoor
