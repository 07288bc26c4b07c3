/- Joined texts: SaRr1, SaRr2, SaRr3, SaRr5, SaRd1, SaRd2. -/
import Derived.Test.YtnbgadndkepomaaGreatDoorSaFo
import Derived.Test.YtnbgadndkepomaaGreatDoorSQO
import Derived.Test.YtnbgadndkepomaaGreatDoorSQL
import Derived.WalkSmall

namespace Go.Proofs.YtnbgadndkepomaaGreatDoor
open Go.RowKit

/-- What can be reached from a block without one. -/
inductive Rch (s : Nat → List Nat) (wo : Int) (f : Nat) : Nat → Prop
  | start : (f : Int) ≠ wo → Rch s wo f f
  | step {b t : Nat} : Rch s wo f b → t ∈ s b → (t : Int) ≠ wo → Rch s wo f t
theorem rch_way {s : Nat → List Nat} {wo : Int} {b : Nat} (h : Rch s wo 0 b) : ∃ l, Way s b l ∧ ∀ d ∈ l, (d : Int) ≠ wo := by
  induction h with
  | start h => exact ⟨[0], .start, fun d hd => by rw [List.mem_singleton] at hd; subst hd; exact h⟩
  | step _ ht hw ih =>
    obtain ⟨l, h1, h2⟩ := ih
    exact ⟨_, .step h1 ht, fun d hd => by
      rcases List.mem_cons.1 hd with rfl | hd
      · exact hw
      · exact h2 d hd⟩
theorem way_rch {s : Nat → List Nat} {wo : Int} {b : Nat} {l : List Nat} (h : Way s b l) (hn : ∀ d ∈ l, (d : Int) ≠ wo) : Rch s wo 0 b := by
  induction h with
  | start => exact .start (hn 0 (by simp))
  | step hw ht ih => exact .step (ih (fun d hd => hn d (List.mem_cons_of_mem _ hd))) ht (hn _ (by simp))
theorem rch_iff {s : Nat → List Nat} {b : Nat} : Rch s (-1) 0 b ↔ ∃ l, Way s b l :=
  ⟨fun h => (rch_way h).elim fun l h => ⟨l, h.1⟩, fun ⟨_, h⟩ => way_rch h (fun d _ => by omega)⟩
theorem dom_rch {s : Nat → List Nat} {d b : Nat} : Dom s d b ↔ ¬ Rch s d 0 b :=
  ⟨fun h hr => (rch_way hr).elim fun l hl => hl.2 d (h l hl.1) rfl, fun h l hl => Classical.byContradiction fun hd => h (way_rch hl (fun e he hde => hd ((show e = d by omega) ▸ he)))⟩
section
variable {s : Nat → List Nat} {wo : Int} {f n : Nat}
structure RcS (s : Nat → List Nat) (wo : Int) (f n : Nat) (m st : List Nat) : Prop where
  ok : MetOk n m
  sub : ∀ v ∈ st, v ∈ m
  snd : ∀ v ∈ m, Rch s wo f v
  has : f ∈ m
  cl : ∀ v ∈ m, v ∉ st → ∀ t ∈ s v, (t : Int) ≠ wo → t ∈ m
structure RcI (s : Nat → List Nat) (wo : Int) (f n b k : Nat) (m st : List Nat) : Prop where
  ok : MetOk n m
  sub : ∀ v ∈ st, v ∈ m
  snd : ∀ v ∈ m, Rch s wo f v
  has : f ∈ m
  hb : b ∈ m
  cl : ∀ v ∈ m, v ∉ st → v ≠ b → ∀ t ∈ s v, (t : Int) ≠ wo → t ∈ m
  cb : ∀ (j : Nat) (h : j < (s b).length), j < k → ((s b)[j] : Int) ≠ wo → (s b)[j] ∈ m
theorem RcS.start (h1 : f < n) (h2 : (f : Int) ≠ wo) : RcS s wo f n [f] [f] :=
  ⟨⟨by simp, fun x hx => by rw [List.mem_singleton] at hx; omega⟩, fun v hv => hv, fun v hv => by rw [List.mem_singleton] at hv; subst hv; exact .start h2, by simp, fun v hv hn => absurd hv hn⟩
theorem RcS.pop {b : Nat} {m st : List Nat} (h : RcS s wo f n m (st ++ [b])) : RcI s wo f n b 0 m st :=
  ⟨h.ok, fun v hv => h.sub v (List.mem_append_left _ hv), h.snd, h.has, h.sub b (by simp), fun v hv hn hb => h.cl v hv (by simp [hn, hb]), fun j _ hj => by omega⟩
theorem RcI.skip {b k : Nat} {m st : List Nat} (h : RcI s wo f n b k m st) (hk : k < (s b).length) (hs : ((s b)[k] : Int) = wo ∨ (s b)[k] ∈ m) : RcI s wo f n b (k + 1) m st :=
  ⟨h.ok, h.sub, h.snd, h.has, h.hb, h.cl, fun j hj hjk hw => by
    by_cases e : j = k
    · subst e; exact hs.elim (fun q => absurd q hw) id
    · exact h.cb j hj (by omega) hw⟩
theorem RcI.push {b k : Nat} {m st : List Nat} (h : RcI s wo f n b k m st) (hk : k < (s b).length) (hw : ((s b)[k] : Int) ≠ wo) (hm : (s b)[k] ∉ m) (hl : (s b)[k] < n) : RcI s wo f n b (k + 1) ((s b)[k] :: m) (st ++ [(s b)[k]]) :=
  ⟨⟨List.nodup_cons.2 ⟨hm, h.ok.1⟩, fun x hx => by
      rcases List.mem_cons.1 hx with rfl | hx
      · exact hl
      · exact h.ok.2 x hx⟩, fun v hv => by
      rcases List.mem_append.1 hv with hv | hv
      · exact List.mem_cons_of_mem _ (h.sub v hv)
      · rw [List.mem_singleton] at hv; subst hv; simp, fun v hv => by
      rcases List.mem_cons.1 hv with rfl | hv
      · exact .step (h.snd b h.hb) (List.getElem_mem hk) hw
      · exact h.snd v hv, List.mem_cons_of_mem _ h.has, List.mem_cons_of_mem _ h.hb, fun v hv hn hb t ht htw => by
      have hn1 : v ∉ st := fun q => hn (List.mem_append_left _ q)
      have hn2 : v ≠ (s b)[k] := fun q => hn (by rw [q]; simp)
      rcases List.mem_cons.1 hv with e | hv
      · exact absurd e hn2
      · exact List.mem_cons_of_mem _ (h.cl v hv hn1 hb t ht htw), fun j hj hjk hjw => by
      by_cases e : j = k
      · subst e; simp
      · exact List.mem_cons_of_mem _ (h.cb j hj (by omega) hjw)⟩
theorem RcI.done {b k : Nat} {m st : List Nat} (h : RcI s wo f n b k m st) (hk : (s b).length ≤ k) : RcS s wo f n m st :=
  ⟨h.ok, h.sub, h.snd, h.has, fun v hv hn t ht htw => by
    by_cases e : v = b
    · subst e
      obtain ⟨j, hj, rfl⟩ := List.getElem_of_mem ht
      exact h.cb j hj (by omega) htw
    · exact h.cl v hv hn e t ht htw⟩
theorem RcS.fin {m : List Nat} (h : RcS s wo f n m []) (v : Nat) : v ∈ m ↔ Rch s wo f v :=
  ⟨h.snd v, fun hr => by
    induction hr with
    | start _ => exact h.has
    | step _ ht hw ih => exact h.cl _ ih (by simp) _ ht hw⟩
end
/-- How many of the first bools of a block are true. -/
def isT (w : World) (a : Addr) : Bool := match w.cell? a with | some (.bool b) => b | _ => false
def metN (w : World) (bo n : Nat) : Nat := ((List.range n).filter fun i => isT w ⟨bo, i, none⟩).length
theorem metN_is {w : World} {bo n : Nat} {m : List Nat} (hb : Box w bo 4 (bools m n)) (ok : MetOk n m) : metN w bo n = m.length := by
  have he : (List.range n).filter (fun i => isT w ⟨bo, i, none⟩) = (List.range n).filter (fun i => decide (i ∈ m)) := by
    apply List.filter_congr
    intro i hi
    have hi := List.mem_range.1 hi
    unfold isT
    rw [hb.cell, bools_get m hi]
  unfold metN
  rw [he]
  apply Nat.le_antisymm
  · exact List.Nodup.length_le_of_subset (List.nodup_range.filter _) (fun x hx => by simpa using (List.mem_filter.1 hx).2)
  · exact List.Nodup.length_le_of_subset ok.1 (fun x hx => List.mem_filter.2 ⟨List.mem_range.2 (ok.2 x hx), by simpa using hx⟩)
/-- The length of a slice. -/
def lenV : Value → Nat
  | .slice _ l _ => l
  | _ => 0
end Go.Proofs.YtnbgadndkepomaaGreatDoor

namespace Go.Proofs.YtnbgadndkepomaaGreatDoor
open Go.RowKit

/-- A list of numbers in a block that the call made. -/
def ListB (W : World) (l : List Int) (e : Ending) (w' : World) : Prop :=
  ∃ A q, e = .returned (.slice A l.length q) ∧ l.length ≤ q ∧ q ≤ maxLen ∧ (0 < l.length → ∃ b, A = some ⟨b, 0, none⟩ ∧ W.heap.size ≤ b ∧ Box w' b 3 (ints l)) ∧ Below W.heap.size W w'
set_option maxRecDepth 100000 in
set_option maxHeartbeats 1600000 in
theorem Succs_own {W : World} {c : Cd} {x : Sl} (hx : CdAt W c x) (b : Nat) (hb : b < c.bk.length) :
    Calls Tryz.prog 26 #[.agg #[.slice x.S c.st.length x.sc, .slice x.N c.nm.length x.nc, .slice x.I c.ins.length x.ic, .slice x.K c.bk.length x.kc], .int .i64 b] W (ListB W ((edges c.bk[b].en).map (·.to))) := by
  obtain ⟨L, hL⟩ : ∃ L, Hid ((edges c.bk[b].en).map (·.to) = L) := ⟨_, Lib.hid rfl⟩
  rw [hL.out]
  have N := Box.new W 27 #[.slice x.S c.st.length x.sc, .slice x.N c.nm.length x.nc, .slice x.I c.ins.length x.ic, .slice x.K c.bk.length x.kc]
  have bA : Below W.heap.size W (W.alloc (.cells #[.slice x.S c.st.length x.sc, .slice x.N c.nm.length x.nc, .slice x.I c.ins.length x.ic, .slice x.K c.bk.length x.kc] 27)) := (Below.refl _ _).alloc (Nat.le_refl _) _
  have hx1 := hx.later bA
  go_enter Tryz.func26, Tryz.ntmps26
  go_upto_region 1 with fail
  obtain ⟨bu, hbu⟩ : ∃ b, Hid (W.heap.size = b) := ⟨_, Lib.hid rfl⟩
  obtain ⟨w1, hw1⟩ : ∃ Y, W.alloc (.cells #[.slice x.S c.st.length x.sc, .slice x.N c.nm.length x.nc, .slice x.I c.ins.length x.ic, .slice x.K c.bk.length x.kc] 27) = Y := ⟨_, rfl⟩
  rw [hw1] at N bA hx1
  rw [hbu.out] at N
  simp only [hw1, hbu.out]
  clear hw1
  have n3 := N.cell 3
  obtain ⟨g, o, TA, EA, tc, ec, eK, ⟨c0, c1, c2, c3, c4, c5, c6, c7, c8, c9⟩, hle⟩ := hx1.k b hb
  obtain ⟨y, hy⟩ : ∃ t, Hid (c.bk[b] = t) := ⟨_, Lib.hid rfl⟩
  simp only [hy.out] at c0 c1 c2 c3 c4 c5 c6 c7 c8 c9 hL
  rw [succs_list] at hL
  have d3 : w1.cell? ⟨g, o + b * 10 + 3, none⟩ = some (.int .i64 y.en.a) := c3
  have d4 : w1.cell? ⟨g, o + b * 10 + 4, none⟩ = some (.int .i64 y.en.to) := c4
  have d5 : w1.cell? ⟨g, o + b * 10 + 5, none⟩ = some (.int .i64 y.en.els) := c5
  have d6 : w1.cell? ⟨g, o + b * 10 + 6, none⟩ = some (.slice TA y.en.ta.length tc) := c6
  have d7 : w1.cell? ⟨g, o + b * 10 + 7, none⟩ = some (.slice EA y.en.ea.length ec) := c7
  have d8 : w1.cell? ⟨g, o + b * 10 + 8, none⟩ = some (.int .i64 y.en.n) := c8
  have d9 : w1.cell? ⟨g, o + b * 10 + 9, none⟩ = some (.int .i64 y.en.at_) := c9
  have hbc : (b : Int) < c.bk.length := by omega
  have N2 := Box.new w1 41 #[.int .i64 y.en.kind, .int .i64 y.en.a, .int .i64 y.en.to, .int .i64 y.en.els, .slice TA y.en.ta.length tc, .slice EA y.en.ea.length ec, .int .i64 y.en.n, .int .i64 y.en.at_]
  have b3 := bA.alloc bA.size (.cells #[.int .i64 y.en.kind, .int .i64 y.en.a, .int .i64 y.en.to, .int .i64 y.en.els, .slice TA y.en.ta.length tc, .slice EA y.en.ea.length ec, .int .i64 y.en.n, .int .i64 y.en.at_] 41)
  clear hle hx1
  go_upto_region 2 with fail
  clear eK c0 c1 c2 c3 c4 c5 c6 c7 c8 c9 d3 d4 d5 d6 d7 d8 d9
  obtain ⟨bn, hbn⟩ : ∃ b, Hid (w1.heap.size = b) := ⟨_, Lib.hid rfl⟩
  obtain ⟨w2, hw2⟩ : ∃ Y, w1.alloc (.cells #[.int .i64 y.en.kind, .int .i64 y.en.a, .int .i64 y.en.to, .int .i64 y.en.els, .slice TA y.en.ta.length tc, .slice EA y.en.ea.length ec, .int .i64 y.en.n, .int .i64 y.en.at_] 41) = Y := ⟨_, rfl⟩
  rw [hw2] at N2 b3
  rw [hbn.out] at N2
  simp only [hw2, hbn.out]
  clear hw2
  have m0 := N2.cell 0
  have m2 := N2.cell 2
  have m3 := N2.cell 3
  have b4 : ∀ l : List Int, Below W.heap.size W (w2.alloc (.cells (ints l) 3)) := fun l => b3.alloc b3.size _
  by_cases k1 : y.en.kind = 1
  · have e1 : (y.en.kind == 1) = true := by simpa using k1
    obtain rfl : L = [y.en.to] := by rw [← hL.out, if_pos k1]
    have hR := Box.new w2 3 (ints [y.en.to])
    have hfin : ListB W [y.en.to] (.returned (.slice (some ⟨w2.heap.size, 0, none⟩) 1 1)) (w2.alloc (.cells (ints [y.en.to]) 3)) := ⟨_, 1, rfl, by simp, by unfold maxLen; omega, fun _ => ⟨_, rfl, b3.size, hR⟩, b4 _⟩
    clear k1 hR hL
    go_wp2
    go_ret
    exact hfin
  have e1 : (y.en.kind == 1) = false := by simpa using k1
  rw [if_neg k1] at hL
  by_cases k2 : y.en.kind = 2
  · have e2 : (y.en.kind == 2) = true := by simpa using k2
    obtain rfl : L = [y.en.to, y.en.els] := by rw [← hL.out, if_pos k2]
    have hR := Box.new w2 3 (ints [y.en.to, y.en.els])
    have hfin : ListB W [y.en.to, y.en.els] (.returned (.slice (some ⟨w2.heap.size, 0, none⟩) 2 2)) (w2.alloc (.cells (ints [y.en.to, y.en.els]) 3)) := ⟨_, 2, rfl, by simp, by unfold maxLen; omega, fun _ => ⟨_, rfl, b3.size, hR⟩, b4 _⟩
    clear k1 k2 hR hL
    go_wp2
    go_ret
    exact hfin
  have e2 : (y.en.kind == 2) = false := by simpa using k2
  obtain rfl : L = [] := by rw [← hL.out, if_neg k2]
  clear k1 k2 hL
  go_wp2
  go_ret
  exact ⟨none, 0, rfl, Nat.le_refl _, by unfold maxLen; omega, (fun h => by simp at h), b3⟩
end Go.Proofs.YtnbgadndkepomaaGreatDoor

namespace Go.Proofs.YtnbgadndkepomaaGreatDoor
open Go.RowKit

structure RcW (W wr : World) (c : Cd) (x : Sl) (bu bo : Nat) (m st : List Nat) (v : Value) : Prop where
  bw : Below W.heap.size W wr
  bX : Box wr bu 27 #[.slice x.S c.st.length x.sc, .slice x.N c.nm.length x.nc, .slice x.I c.ins.length x.ic, .slice x.K c.bk.length x.kc]
  bB : Box wr bo 4 (bools m c.bk.length)
  own : IOwn wr W.heap.size v (nats st)
def RchPost (W : World) (c : Cd) (wo : Int) (f : Nat) (e : Ending) (w' : World) : Prop :=
  ∃ bo m, e = .returned (.slice (some ⟨bo, 0, none⟩) c.bk.length c.bk.length) ∧ W.heap.size ≤ bo ∧ Box w' bo 4 (bools m c.bk.length) ∧ (∀ v, v ∈ m ↔ Rch (succs c) wo f v) ∧ Below W.heap.size W w'
/-- Every edge leads to a block. -/
def EdIn (c : Cd) : Prop := ∀ b ∈ c.bk, ∀ e ∈ edges b.en, 0 ≤ e.to ∧ e.to < c.bk.length
theorem succs_in {c : Cd} (h : EdIn c) {b : Nat} (hb : b < c.bk.length) : (edges c.bk[b].en).map (·.to) = nats (succs c b) ∧ ∀ t ∈ succs c b, t < c.bk.length := by
  rw [succs_at hb]
  constructor
  · unfold nats
    rw [List.map_map]
    apply List.map_congr_left
    intro e he
    have := h _ (List.getElem_mem hb) e he
    show e.to = ((e.to.toNat : Nat) : Int)
    omega
  · intro t ht
    obtain ⟨e, he, rfl⟩ := List.mem_map.1 ht
    have := h _ (List.getElem_mem hb) e he
    omega
theorem no_rch {s : Nat → List Nat} {wo : Int} {f v : Nat} (h : (f : Int) = wo) : ¬ Rch s wo f v := fun hr => by
  induction hr with
  | start hn => exact hn h
  | step _ _ _ ih => exact ih
set_option maxRecDepth 100000 in
set_option maxHeartbeats 1600000 in
theorem rReach_any {W : World} {c : Cd} {x : Sl} (hx : CdAt W c x) (hn : c.bk.length ≤ 400) (he : EdIn c) (f : Nat) (hf : f < c.bk.length) (wo : Int) :
    Calls Tryz.prog 28 #[.agg #[.slice x.S c.st.length x.sc, .slice x.N c.nm.length x.nc, .slice x.I c.ins.length x.ic, .slice x.K c.bk.length x.kc], .int .i64 f, .int .i64 wo] W (RchPost W c wo f) := by
  have bA : Below W.heap.size W (W.alloc (.cells #[.slice x.S c.st.length x.sc, .slice x.N c.nm.length x.nc, .slice x.I c.ins.length x.ic, .slice x.K c.bk.length x.kc] 27)) := (Below.refl _ _).alloc (Nat.le_refl _) _
  have N := Box.new W 27 #[.slice x.S c.st.length x.sc, .slice x.N c.nm.length x.nc, .slice x.I c.ins.length x.ic, .slice x.K c.bk.length x.kc]
  have mk := fun w => mk_bools c.bk.length (by omega) w
  have n3 := N.cell 3
  have hfc : (f : Int) < (c.bk.length : Int) := by omega
  replace he := Lib.hid he
  go_enter Tryz.func28, Tryz.ntmps28
  go_upto_region 2 with fail
  obtain ⟨w2, hw2⟩ : ∃ Y, ((W.alloc (.cells #[.slice x.S c.st.length x.sc, .slice x.N c.nm.length x.nc, .slice x.I c.ins.length x.ic, .slice x.K c.bk.length x.kc] 27))).alloc (.cells (bools [] c.bk.length) 4) = Y := ⟨_, rfl⟩
  have N2 : Box w2 W.heap.size 27 #[.slice x.S c.st.length x.sc, .slice x.N c.nm.length x.nc, .slice x.I c.ins.length x.ic, .slice x.K c.bk.length x.kc] := by rw [← hw2]; exact N.alloc _
  have M2 : Box w2 (W.heap.size + 1) 4 (bools [] c.bk.length) := by rw [← hw2]; exact Box.newAt (by simp) _ _
  have bW2 : Below W.heap.size W w2 := by rw [← hw2]; exact bA.alloc bA.size _
  obtain ⟨bu, hbu⟩ : ∃ b, Hid (W.heap.size = b) := ⟨_, Lib.hid rfl⟩
  obtain ⟨bo, hbo⟩ : ∃ b, Hid (bu + 1 = b) := ⟨_, Lib.hid rfl⟩
  try simp only [hw2]
  rw [hbu.out] at N2 M2
  rw [hbo.out] at M2
  try simp only [hbu.out, hbo.out]
  clear hw2 N mk n3 bA
  have hboW : W.heap.size ≤ bo := by rw [← hbo.out, ← hbu.out]; omega
  by_cases hfw : (f : Int) = wo
  · have g0 : ((f : Int) == wo) = true := by simpa using hfw
    have hno : Hid (∀ v, v ∈ ([] : List Nat) ↔ Rch (succs c) wo f v) := Lib.hid (fun v => ⟨fun h => by simp at h, fun h => absurd h (no_rch hfw)⟩)
    clear hfw
    go_wp2
    go_ret
    exact ⟨bo, [], rfl, hboW, M2, hno.out, bW2⟩
  have g0 : ((f : Int) == wo) = false := by simpa using hfw
  have hS0 := RcS.start (s := succs c) hf hfw
  have M3 := M2.set f (.bool true)
  rw [bools_set] at M3
  have hne : bu ≠ bo := by rw [← hbo.out]; omega
  have N3 := N2.far hne (i := f) (.bool true)
  have fB := M2.free f
  have cB : w2.cell? ⟨bo, f, none⟩ = some (.bool false) := by rw [M2.cell]; exact (bools_get [] hf).trans (by simp)
  have b3 : Below W.heap.size W (w2.setCell ⟨bo, f, none⟩ (.bool true)) := bW2.setCell hboW _
  have hsz : (w2.setCell ⟨bo, f, none⟩ (.bool true)).heap.size = w2.heap.size := by simp
  replace hsz := Lib.hid hsz
  have N4 := N3.alloc (.cells #[.int .i64 f] 3)
  have M4 := M3.alloc (.cells #[.int .i64 f] 3)
  have b4 := b3.alloc b3.size (.cells #[.int .i64 f] 3)
  have hown : IOwn ((w2.setCell ⟨bo, f, none⟩ (.bool true)).alloc (.cells #[.int .i64 f] 3)) W.heap.size (.slice (some ⟨w2.heap.size, 0, none⟩) 1 1) (nats [f]) :=
    ⟨rfl, .inr ⟨w2.heap.size, 1, #[.int .i64 f], rfl, bW2.size, by rw [← hsz.out]; exact heap_alloc_new _ _, Nat.le_refl _, by unfold maxLen; omega, rfl, rfl⟩⟩
  clear hfw N3 M3 b3
  go_wp2_with fail
  obtain ⟨w3, hw3⟩ : ∃ Y, (w2.setCell ⟨bo, f, none⟩ (.bool true)).alloc (.cells #[.int .i64 f] 3) = Y := ⟨_, rfl⟩
  obtain ⟨ba, hba⟩ : ∃ b, Hid (w2.heap.size = b) := ⟨_, Lib.hid rfl⟩
  rw [hw3] at N4 M4 b4 hown
  rw [hba.out] at hown
  try simp only [hw3]
  try simp only [hba.out]
  clear hw3 N2 M2 fB cB hsz bW2 g0
  have hW3 : RcW W w3 c x bu bo [f] [f] (.slice (some ⟨ba, 0, none⟩) 1 1) := ⟨b4, N4, M4, hown⟩
  replace hS0 := Lib.hid hS0
  clear N4 M4 b4 hown hba
  go_loopw [8, 9, 10, 11] (fun v8 _ _ _ wr => ∃ m st, Hid (RcS (succs c) wo f c.bk.length m st) ∧ Hid (st.length ≤ m.length) ∧ RcW W wr c x bu bo m st v8) (fun v8 _ _ _ wr => 2 * (c.bk.length - metN wr bo c.bk.length) + lenV v8)
  case atStart => exact ⟨[f], [f], hS0, Lib.hid (Nat.le_refl _), hW3⟩
  case round =>
    clear hS0 hW3
    obtain ⟨m, st, hS, hSm, hW⟩ := hrel
    by_cases h0 : st = []
    · subst h0
      obtain ⟨A, q, rfl, _, _, _⟩ := hW.own.read
      have hfin : RchPost W c wo f (.returned (.slice (some ⟨bo, 0, none⟩) c.bk.length c.bk.length)) wr := ⟨bo, m, rfl, hboW, hW.bB, hS.out.fin, hW.bw⟩
      have g1 : ((nats []).length : Int) = 0 := rfl
      rw [show (nats []).length = 0 from rfl]
      clear hS hW g1
      go_wp2
      go_ret
      exact hfin
    · obtain ⟨st', b, rfl⟩ : ∃ st' b, st = st' ++ [b] := ⟨st.dropLast, st.getLast h0, (List.dropLast_concat_getLast h0).symm⟩
      clear h0
      have hbn : b < c.bk.length := hS.out.ok.2 b (hS.out.sub b (by simp))
      have hI0 := Lib.hid hS.out.pop
      have hmet := metN_is hW.bB hS.out.ok
      have hmn := hS.out.ok.le
      replace hmet := Lib.hid hmet
      obtain ⟨sl, hsl⟩ : ∃ sl, Hid (st'.length = sl) := ⟨_, Lib.hid rfl⟩
      have hslm : Hid (sl + 1 ≤ m.length) := Lib.hid (by have h1 := hSm.out; have h2 := hsl.out; simp at h1; omega)
      have hlen : (nats (st' ++ [b])).length = sl + 1 := by rw [← hsl.out]; simp [nats]
      obtain ⟨A, q, rfl, hq1, hq2, hrow⟩ := hW.own.read
      rw [hlen] at hq1
      obtain ⟨g, o, eA, hc⟩ := hrow sl (by omega)
      have hown0 := hW.own
      unfold IOwn at hown0
      rw [hlen] at hown0
      rw [show (nats (st' ++ [b])).length = sl + 1 from hlen]
      obtain ⟨g2, rfl⟩ : ∃ g2, A = some ⟨g2, 0, none⟩ := by
        rcases hown0.2 with ⟨_, h⟩ | ⟨g, cap, cur, hv, _⟩
        · omega
        · cases hv; exact ⟨g, rfl⟩
      obtain ⟨rfl, rfl⟩ : g2 = g ∧ 0 = o := by cases eA; exact ⟨rfl, rfl⟩
      clear eA
      have hbv : (nats (st' ++ [b]))[sl]'(by omega) = (b : Int) := by
        have := hsl.out
        subst this
        simp [nats]
      rw [hbv, Nat.zero_add] at hc
      have hpop : IOwn wr W.heap.size (.slice (some ⟨g2, 0, none⟩) sl q) (nats st') := by
        unfold IOwn
        rw [show (nats st').length = sl by simp [nats, hsl.out]]
        refine ownsRow_pop (last := [.int .i64 b]) (by simp [nats, hsl.out]) ?_
        have : (nats (st' ++ [b])).map (fun k => Value.int .i64 k) = (nats st').map (fun k => Value.int .i64 k) ++ [Value.int .i64 b] := by simp [nats]
        rw [← this]
        exact hown0
      have hW1 : RcW W wr c x bu bo m st' (.slice (some ⟨g2, 0, none⟩) sl q) := ⟨hW.bw, hW.bX, hW.bB, hpop⟩
      have hgl : g2 < wr.heap.size := ((hpop.lt g2 rfl).2)
      have s0 := hW.bX.cell 0
      have s1 := hW.bX.cell 1
      have s2 := hW.bX.cell 2
      have s3 := hW.bX.cell 3
      have hx1 := hx.later hW.bw
      have hw1 : IntKind.i64.wrap (((sl + 1 : Nat) : Int) - 1) = (sl : Int) := by rw [IntWalk.i64_in _ (by unfold maxLen at hq2; omega)]; omega
      have hlt1 : (sl : Int) < ((sl + 1 : Nat) : Int) := by omega
      have hcap : (sl : Int) ≤ (q : Int) := by omega
      have hpos : (0 : Int) < ((sl + 1 : Nat) : Int) := by omega
      unfold maxLen at hq2
      clear hlen hrow hown0 hbv hpop hW hS hSm
      go_wp2_with fail
      have hin := succs_in he.out hbn
      refine (Succs_own hx1 b hbn).mono ?_
      rintro r w4 ⟨A4, q4, rfl, l1, l2, hB4, b4⟩
      rw [hin.1] at l1 hB4
      rw [hin.1]
      obtain ⟨n4, hn4⟩ : ∃ n4, Hid ((succs c b).length = n4) := ⟨_, Lib.hid rfl⟩
      have hnl : (nats (succs c b)).length = n4 := by rw [← hn4.out]; simp [nats]
      rw [hnl] at l1 hB4 ⊢
      have hW4 : RcW W w4 c x bu bo m st' (.slice (some ⟨g2, 0, none⟩) sl q) := ⟨hW1.bw.trans (b4.mono hW1.bw.size), hW1.bX.below b4, hW1.bB.below b4, hW1.own.later b4⟩
      have hB5 : Hid (0 < n4 → ∃ b4, A4 = some ⟨b4, 0, none⟩ ∧ Box w4 b4 3 (ints (nats (succs c b))) ∧ (Value.slice (some ⟨g2, 0, none⟩) sl q).ownBlock ≠ some b4) := Lib.hid (fun h => by
        obtain ⟨b5, h1, h2, h3⟩ := hB4 h
        refine ⟨b5, h1, h3, fun e => ?_⟩
        simp [Value.ownBlock] at e
        omega)
      have hin2 := Lib.hid hin.2
      unfold maxLen at l2
      clear hB4 hnl hin hW1 b4 s0 s1 s2 s3 hc hx1 hlt1 hcap hpos hw1 hgl
      go_wp2_with fail
      go_loopw [8, 11] (fun v8 v11 wq => ∃ k m' st'', k ≤ n4 ∧ v11 = .int .i64 (k : Nat) ∧ Hid (RcI (succs c) wo f c.bk.length b k m' st'') ∧ RcW W wq c x bu bo m' st'' v8 ∧ Hid (0 < n4 → ∃ b4, A4 = some ⟨b4, 0, none⟩ ∧ Box wq b4 3 (ints (nats (succs c b))) ∧ v8.ownBlock ≠ some b4) ∧ Hid (st''.length + m.length = m'.length + sl ∧ m.length ≤ m'.length)) (fun _ v11 _ => n4 - iOf v11)
      case atStart => exact ⟨0, m, st', Nat.zero_le _, rfl, hI0, hW4, hB5, Lib.hid ⟨by rw [hsl.out]; omega, Nat.le_refl _⟩⟩
      case round =>
        clear hI0 hW4 hB5
        obtain ⟨k, m', st'', hk, rfl, hI, hW, hB, hL⟩ := hrel
        obtain ⟨A8, q8, rfl, hp1, hp2, _⟩ := hW.own.read
        have hnn : (nats st'').length = st''.length := by simp [nats]
        rw [hnn] at hp1 hB hW
        rw [hnn]
        have hOw := hW.own
        unfold IOwn at hOw
        rw [hnn] at hOw
        clear hnn
        obtain ⟨s8, hs8⟩ : ∃ s8, Hid (st''.length = s8) := ⟨_, Lib.hid rfl⟩
        rw [hs8.out] at hp1 hB hOw hL hW
        rw [hs8.out]
        by_cases hkl : k < n4
        · obtain ⟨b4, rfl, hb4, hne4⟩ := hB.out (by omega)
          have hks : k < (succs c b).length := by rw [hn4.out]; exact hkl
          obtain ⟨t, ht⟩ : ∃ t, Hid ((succs c b)[k] = t) := ⟨_, Lib.hid rfl⟩
          have htn : t < c.bk.length := by rw [← ht.out]; exact hin2.out _ (List.getElem_mem hks)
          have hc4 : wr.cell? ⟨b4, k, none⟩ = some (.int .i64 t) := by
            rw [hb4.cell, ints_get _ _ (by simp [nats]; omega)]
            simp [nats, ht.out]
          have hkc : (k : Int) < (n4 : Int) := by omega
          have htc : (t : Int) < (c.bk.length : Int) := by omega
          have hwk : IntKind.i64.wrap ((k : Int) + 1) = ((k + 1 : Nat) : Int) := by rw [IntWalk.i64_in _ (by have := hn4.out; omega)]; omega
          by_cases e1 : (t : Int) = wo
          · have g1 : ((t : Int) != wo) = false := by simpa using e1
            have hI2 := Lib.hid (hI.out.skip hks (Or.inl (by rw [ht.out]; exact e1)))
            clear hI e1
            go_wp2_with fail
            go_roundw
            case rel => exact ⟨k + 1, m', st'', hkl, by go_num, hI2, hW, hB, Lib.hid (by rw [hs8.out]; exact hL.out)⟩
            case measure => simp only [iOf]; omega
          have g1 : ((t : Int) != wo) = true := by simpa using e1
          have hbt : wr.cell? ⟨bo, t, none⟩ = some (.bool (decide (t ∈ m'))) := by rw [hW.bB.cell]; exact bools_get m' htn
          by_cases e2 : t ∈ m'
          · rw [decide_eq_true e2] at hbt
            have hI2 := Lib.hid (hI.out.skip hks (Or.inr (by rw [ht.out]; exact e2)))
            clear hI e1 e2
            go_wp2_with fail
            go_roundw
            case rel => exact ⟨k + 1, m', st'', hkl, by go_num, hI2, hW, hB, Lib.hid (by rw [hs8.out]; exact hL.out)⟩
            case measure => simp only [iOf]; omega
          rw [decide_eq_false e2] at hbt
          have hI2 := Lib.hid (hI.out.push hks (by rw [ht.out]; exact e1) (by rw [ht.out]; exact e2) (by rw [ht.out]; exact htn))
          rw [ht.out] at hI2
          have hbobu : bu ≠ bo := fun e => by subst e; exact absurd (hW.bX.type hW.bB) (by decide)
          have hb4bo : b4 ≠ bo := fun e => by subst e; exact absurd (hb4.type hW.bB) (by decide)
          have ft := hW.bB.free t
          have M5 := hW.bB.set t (.bool true)
          rw [bools_set] at M5
          have X5 := hW.bX.far hbobu (i := t) (.bool true)
          have H5 := hb4.far hb4bo (i := t) (.bool true)
          have w5 : Below W.heap.size W (wr.setCell ⟨bo, t, none⟩ (.bool true)) := hW.bw.setCell hboW _
          have o5 := hW.own.but (But.set (p := bo) (i := t) (.bool true)) (hW.own.ne hW.bB (by decide))
          have hg8 : ∀ g, (Value.slice A8 s8 q8).ownBlock = some g → g < wr.heap.size := fun g hg => (hW.own.lt g hg).2
          have hb4l := hb4.lt
          have hbol := hW.bB.lt
          clear hI e1 e2 hOw
          go_upto_region 15 with fail
          obtain ⟨w6, hw6⟩ : ∃ Y, Hid (wr.setCell ⟨bo, t, none⟩ (.bool true) = Y) := ⟨_, Lib.hid rfl⟩
          rw [hw6.out] at M5 X5 H5 w5 o5
          try simp only [hw6.out]
          have hsz6 : wr.heap.size = w6.heap.size := by rw [← hw6.out]; simp
          rw [hsz6] at hg8 hb4l hbol
          clear hbt ft hc4 hW hB hb4 hw6 hsz6
          have hc6 : w6.cell? ⟨b4, k, none⟩ = some (.int .i64 t) := by
            rw [H5.cell, ints_get _ _ (by simp [nats]; omega)]
            simp [nats, ht.out]
          have bY : Below w6.heap.size w6 (w6.alloc (.cells #[.int .i64 t] 3)) := (Below.refl _ _).alloc (Nat.le_refl _) _
          have oY := o5.later bY
          have XY := X5.below bY
          have MY := M5.below bY
          have HY := H5.below bY
          have wY := w5.trans (bY.mono w5.size)
          have hY := heap_alloc_new w6 (.cells #[.int .i64 t] 3)
          have hYs : (w6.alloc (.cells #[.int .i64 t] 3)).heap.size = w6.heap.size + 1 := by simp
          unfold IOwn at oY
          rw [show (nats st'').length = s8 by simp [nats, hs8.out]] at oY
          obtain ⟨Z, hZ⟩ : ∃ Z, Hid ((nats st'').map (fun k => Value.int .i64 k) = Z) := ⟨_, Lib.hid rfl⟩
          rw [hZ.out] at oY
          have hs8n : s8 ≤ 800 := by
            have h1 := hL.out
            have h2 := hI2.out.ok.le
            have h3 := hslm.out
            have h4 := hs8.out
            simp at h2
            omega
          replace hYs := Lib.hid hYs
          replace hY := Lib.hid hY
          clear X5 M5 H5 w5 o5
          go_wp2_with (at_builtin; refine wpList_append_lies _ rfl (.tmp 70) (.tmp 75) 30 rfl W.heap.size 3 Tryz.t3 (.int .i64 0) 1 8 Tryz.underlying30 (by kernel_rfl) (by kernel_rfl) rfl rfl rfl (by decide) (.slice A8 s8 q8) s8 Z rfl oY ⟨w6.heap.size, 0, none⟩ 1 1 [.int .i64 t] rfl rfl (World.news_of_block hY.out) ?c2 (by decide) ?c3 ?c4 ?c5 (w6.heap.size + 1) hYs.out ?_)
          case c2 => intro u hu; simp at hu; subst hu; rfl
          case c3 => unfold maxLen; omega
          case c4 => omega
          case c5 => exact wY.size
          intro g8 cap wA o2 gr p2 z2
          have oA : IOwn wA W.heap.size (.slice (some ⟨g8, 0, none⟩) (s8 + 1) cap) (nats (st'' ++ [t])) := by
            unfold IOwn
            rw [show (nats (st'' ++ [t])).length = s8 + 1 by simp [nats, hs8.out], show (nats (st'' ++ [t])).map (fun k => Value.int .i64 k) = Z ++ [Value.int .i64 t] by rw [← hZ.out]; simp [nats]]
            exact o2
          have oI : IOwn (w6.alloc (.cells #[.int .i64 t] 3)) W.heap.size (.slice A8 s8 q8) (nats st'') := by
            unfold IOwn
            rw [show (nats st'').length = s8 by simp [nats, hs8.out], hZ.out]
            exact oY
          have hWA : RcW W wA c x bu bo (t :: m') (st'' ++ [t]) (.slice (some ⟨g8, 0, none⟩) (s8 + 1) cap) :=
            ⟨wY.grown gr wY.size (fun k hk => (oI.lt k hk).1), XY.grown gr (oI.ne XY (by decide)), MY.grown gr (oI.ne MY (by decide)), oA⟩
          have hBA : Hid (0 < n4 → ∃ b5, (some ⟨b4, 0, none⟩ : Option Addr) = some ⟨b5, 0, none⟩ ∧ Box wA b5 3 (ints (nats (succs c b))) ∧ (Value.slice (some ⟨g8, 0, none⟩) (s8 + 1) cap).ownBlock ≠ some b5) := Lib.hid (fun _ => ⟨b4, rfl, HY.grown gr (fun e => hne4 e.symm), fun e => by
            have e2 : g8 = b4 := by simpa [Value.ownBlock] using e
            subst e2
            rcases p2 with p2 | p2
            · exact hne4 p2
            · omega⟩)
          have hLA : Hid ((st'' ++ [t]).length + m.length = (t :: m').length + sl ∧ m.length ≤ (t :: m').length) := Lib.hid (by
            have h1 := hL.out
            have h2 := hs8.out
            simp
            omega)
          clear o2 gr p2 z2 oI oY oA XY MY HY wY hY hYs hL bY hc6 hs8n
          go_wp2_with fail
          go_roundw
          case rel => exact ⟨k + 1, _, _, hkl, by go_num, hI2, hWA, hBA, hLA⟩
          case measure => simp only [iOf]; omega
        · have hS2 := Lib.hid (hI.out.done (by rw [hn4.out]; omega))
          have hme : 2 * (c.bk.length - metN wr bo c.bk.length) + lenV (.slice A8 s8 q8) < 2 * (c.bk.length - m.length) + (sl + 1) := by
            rw [metN_is hW.bB hI.out.ok]
            have h1 := hL.out
            have h2 := hI.out.ok.le
            show _ + s8 < _
            omega
          have hkc : ¬ ((k : Int) < (n4 : Int)) := by omega
          have hSm2 : Hid (st''.length ≤ m'.length) := Lib.hid (by have h1 := hL.out; have h3 := hslm.out; have h4 := hs8.out; omega)
          replace hme := Lib.hid hme
          clear hI hL hB hOw
          go_wp2_with fail
          go_roundw
          case rel => exact ⟨m', st'', hS2, hSm2, hW⟩
          case measure => rw [hmet.out]; exact hme.out
end Go.Proofs.YtnbgadndkepomaaGreatDoor

namespace Go.Proofs.YtnbgadndkepomaaGreatDoor
open Go.RowKit

def WhO (c : Cd) (b : Nat) (H : List Int) : Prop := H.length = c.ins.length ∧ ∀ (k : Nat) (hk : k < H.length), homeN c k < b → H[k] = (homeN c k : Int)
def WhI (c : Cd) (b j : Nat) (H : List Int) : Prop := H.length = c.ins.length ∧ ∀ (k : Nat) (hk : k < H.length), homeN c k < b ∨ (homeN c k = b ∧ k < j) → H[k] = (homeN c k : Int)
theorem WhO.enter {c : Cd} {b : Nat} {H : List Int} (h : WhO c b H) (hb : BlocksP c) (hbn : b < c.bk.length) {f : Nat} (hf : c.bk[b].frm = f) : WhI c b f H :=
  ⟨h.1, fun k hk hh => h.2 k hk (hh.elim id (fun q => by
    obtain ⟨g1, g2⟩ := home_lt hb (show k < c.ins.length by rw [← h.1]; exact hk)
    have h3 := g2.1
    simp only [q.1] at h3
    omega))⟩
theorem WhI.set {c : Cd} {b j : Nat} {H : List Int} (h : WhI c b j H) (hb : BlocksP c) (hbn : b < c.bk.length) (hj : InBk c.bk[b] j) : WhI c b (j + 1) (H.set j (b : Int)) :=
  ⟨by rw [List.length_set]; exact h.1, fun k hk hh => by
    rw [List.getElem_set]
    by_cases e : j = k
    · rw [if_pos e]; subst e; rw [home_is hb hbn hj]
    · rw [if_neg e]
      exact h.2 k (by rw [List.length_set] at hk; exact hk) (by omega)⟩
theorem WhI.leave {c : Cd} {b j : Nat} {H : List Int} (h : WhI c b j H) (hb : BlocksP c) (hbn : b < c.bk.length) (hj : c.bk[b].til ≤ (j : Int)) : WhO c (b + 1) H :=
  ⟨h.1, fun k hk hh => h.2 k hk (by
    by_cases e : homeN c k < b
    · exact Or.inl e
    · have e2 : homeN c k = b := by omega
      obtain ⟨g1, g2⟩ := home_lt hb (show k < c.ins.length by rw [← h.1]; exact hk)
      have h3 := g2.2
      simp only [e2] at h3
      exact Or.inr ⟨e2, by omega⟩)⟩
theorem WhO.fin {c : Cd} {H : List Int} (h : WhO c c.bk.length H) (hb : BlocksP c) (k : Nat) (hk : k < H.length) : H[k] = (homeN c k : Int) :=
  h.2 k hk (home_lt hb (show k < c.ins.length by rw [← h.1]; exact hk)).1
def WherePost (W : World) (c : Cd) (e : Ending) (w' : World) : Prop :=
  ∃ bh H, e = .returned (.slice (some ⟨bh, 0, none⟩) c.ins.length c.ins.length) ∧ W.heap.size ≤ bh ∧ Box w' bh 3 (ints H) ∧ H.length = c.ins.length ∧ (∀ (k : Nat) (hk : k < H.length), H[k] = (homeN c k : Int)) ∧ Below W.heap.size W w'
structure WhW (W wr : World) (c : Cd) (x : Sl) (bu bh : Nat) (H : List Int) : Prop where
  bw : Below W.heap.size W wr
  bX : Box wr bu 27 #[.slice x.S c.st.length x.sc, .slice x.N c.nm.length x.nc, .slice x.I c.ins.length x.ic, .slice x.K c.bk.length x.kc]
  bB : Box wr bh 3 (ints H)
set_option maxRecDepth 100000 in
set_option maxHeartbeats 1600000 in
theorem rWhere_any {W : World} {c : Cd} {x : Sl} (hx : CdAt W c x) (hb : BlocksP c) (hin : c.ins.length ≤ 3000) :
    Calls Tryz.prog 65 #[.agg #[.slice x.S c.st.length x.sc, .slice x.N c.nm.length x.nc, .slice x.I c.ins.length x.ic, .slice x.K c.bk.length x.kc]] W (WherePost W c) := by
  have bA : Below W.heap.size W (W.alloc (.cells #[.slice x.S c.st.length x.sc, .slice x.N c.nm.length x.nc, .slice x.I c.ins.length x.ic, .slice x.K c.bk.length x.kc] 27)) := (Below.refl _ _).alloc (Nat.le_refl _) _
  have N := Box.new W 27 #[.slice x.S c.st.length x.sc, .slice x.N c.nm.length x.nc, .slice x.I c.ins.length x.ic, .slice x.K c.bk.length x.kc]
  have mk := fun w => mk_ints c.ins.length (by omega) w
  have n2 := N.cell 2
  replace hb := Lib.hid hb
  go_enter Tryz.func65, Tryz.ntmps65
  go_upto_region 2 with fail
  obtain ⟨w2, hw2⟩ : ∃ Y, ((W.alloc (.cells #[.slice x.S c.st.length x.sc, .slice x.N c.nm.length x.nc, .slice x.I c.ins.length x.ic, .slice x.K c.bk.length x.kc] 27))).alloc (.cells (ints (List.replicate c.ins.length 0)) 3) = Y := ⟨_, rfl⟩
  have N2 : Box w2 W.heap.size 27 #[.slice x.S c.st.length x.sc, .slice x.N c.nm.length x.nc, .slice x.I c.ins.length x.ic, .slice x.K c.bk.length x.kc] := by rw [← hw2]; exact N.alloc _
  have M2 : Box w2 (W.heap.size + 1) 3 (ints (List.replicate c.ins.length 0)) := by rw [← hw2]; exact Box.newAt (by simp) _ _
  have bW2 : Below W.heap.size W w2 := by rw [← hw2]; exact bA.alloc bA.size _
  obtain ⟨bu, hbu⟩ : ∃ b, Hid (W.heap.size = b) := ⟨_, Lib.hid rfl⟩
  obtain ⟨bo, hbo⟩ : ∃ b, Hid (bu + 1 = b) := ⟨_, Lib.hid rfl⟩
  try simp only [hw2]
  rw [hbu.out] at N2 M2
  rw [hbo.out] at M2
  try simp only [hbu.out, hbo.out]
  clear hw2 N mk n2 bA
  have hboW : W.heap.size ≤ bo := by rw [← hbo.out, ← hbu.out]; omega
  have hne : bu ≠ bo := by rw [← hbo.out]; omega
  have hW2 : WhW W w2 c x bu bo (List.replicate c.ins.length 0) := ⟨bW2, N2, M2⟩
  have hS2 : Hid (WhO c 0 (List.replicate c.ins.length 0)) := Lib.hid ⟨by simp, fun k hk h => by omega⟩
  clear bW2 N2 M2
  go_wp2_with fail
  go_loopw [4, 5] (fun v4 _ wr => ∃ b H, b ≤ c.bk.length ∧ v4 = .int .i64 (b : Nat) ∧ Hid (WhO c b H) ∧ WhW W wr c x bu bo H) (fun v4 _ _ => c.bk.length - iOf v4)
  case atStart => exact ⟨0, _, Nat.zero_le _, rfl, hS2, hW2⟩
  case round =>
    clear hS2 hW2
    obtain ⟨b, H, hbl, rfl, hS, hW⟩ := hrel
    have s3 := hW.bX.cell 3
    by_cases hbn : b < c.bk.length
    · obtain ⟨f, t, hf, ht, hft, htn⟩ := bk_nat hb.out hbn
      have hI := Lib.hid (hS.out.enter hb.out hbn hf)
      obtain ⟨g, o, TA, EA, tc, ec, eK, ⟨c0, c1, _, _, _, _, _, _, _, _⟩, _⟩ := (hx.later hW.bw).k b hbn
      rw [hf] at c0
      rw [ht] at c1
      rw [eK] at s3
      have hbc : (b : Int) < (c.bk.length : Int) := by omega
      have hti : Hid (∀ j : Nat, f ≤ j → j < t → InBk c.bk[b] j) := Lib.hid (fun j h1 h2 => ⟨by omega, by omega⟩)
      have htl : Hid (c.bk[b].til = t) := Lib.hid ht
      have hwb : IntKind.i64.wrap ((b : Int) + 1) = ((b + 1 : Nat) : Int) := by rw [IntWalk.i64_in _ (by have := (hx.hk); unfold maxLen at this; omega)]; omega
      clear hf ht hS eK
      go_wp2_with fail
      go_loopw [5] (fun v5 wq => ∃ j H, f ≤ j ∧ j ≤ t ∧ v5 = .int .i64 (j : Nat) ∧ Hid (WhI c b j H) ∧ WhW W wq c x bu bo H) (fun v5 _ => t - iOf v5)
      case atStart => exact ⟨f, H, Nat.le_refl _, hft, rfl, hI, hW⟩
      case round =>
        clear hI hW s3 c0 c1
        obtain ⟨j, H, hfj, hjt, rfl, hI, hW⟩ := hrel
        have s3 := hW.bX.cell 3
        obtain ⟨g, o, TA, EA, tc, ec, eK, ⟨c0, c1, _, _, _, _, _, _, _, _⟩, _⟩ := (hx.later hW.bw).k b hbn
        rw [htl.out] at c1
        rw [eK] at s3
        by_cases hjl : j < t
        · have hjc : (j : Int) < (t : Int) := by omega
          have hjn : (j : Int) < (c.ins.length : Int) := by omega
          have hwj : IntKind.i64.wrap ((j : Int) + 1) = ((j + 1 : Nat) : Int) := by rw [IntWalk.i64_in _ (by omega)]; omega
          have hI2 := Lib.hid (hI.out.set hb.out hbn (hti.out j hfj hjl))
          have fB := hW.bB.free j
          obtain ⟨z, cB⟩ : ∃ z, wr.cell? ⟨bo, j, none⟩ = some (.int .i64 z) := ⟨_, by rw [hW.bB.cell]; exact ints_get _ j (by have := hI.out.1; omega)⟩
          have M5 := hW.bB.set j (.int .i64 (b : Int))
          rw [ints_set] at M5
          have hW2 : WhW W (wr.setCell ⟨bo, j, none⟩ (.int .i64 (b : Int))) c x bu bo (H.set j (b : Int)) := ⟨hW.bw.setCell hboW _, hW.bX.far hne _, M5⟩
          clear hI hW M5 eK c0
          go_wp2_with fail
          go_roundw
          case rel => exact ⟨j + 1, _, by omega, hjl, by go_num, hI2, hW2⟩
          case measure => simp only [iOf]; omega
        · have hjc : ¬ ((j : Int) < (t : Int)) := by omega
          have hO := Lib.hid (hI.out.leave hb.out hbn (by rw [htl.out]; omega))
          clear hI eK c0
          go_wp2_with fail
          go_roundw
          case rel => exact ⟨b + 1, H, hbn, by go_num, hO, hW⟩
          case measure => simp only [iOf]; omega
    · have hbe : b = c.bk.length := by omega
      subst hbe
      have hbc : ¬ ((c.bk.length : Int) < (c.bk.length : Int)) := by omega
      have hfin : WherePost W c (.returned (.slice (some ⟨bo, 0, none⟩) c.ins.length c.ins.length)) wr := ⟨bo, H, rfl, hboW, hW.bB, hS.out.1, hS.out.fin hb.out, hW.bw⟩
      clear hS hW hbn
      go_wp2
      go_ret
      exact hfin
end Go.Proofs.YtnbgadndkepomaaGreatDoor

namespace Go.Proofs.YtnbgadndkepomaaGreatDoor
open Go.RowKit

/-- What is used at a place of a block: by an instruction, or, behind the last one, by the end. -/
def usesL (c : Cd) (b i : Nat) : List Int := match c.bk[b]? with
  | none => []
  | some B => if (i : Int) < B.til then ((c.ins[i]?).map argsOf).getD [] else endsR B.en
def PlaceU (c : Cd) (b i : Nat) : Prop := ∃ B, c.bk[b]? = some B ∧ B.frm ≤ (i : Int) ∧ (i : Int) ≤ B.til
def UseAt (c : Cd) (b i : Nat) (v : Int) : Prop := PlaceU c b i ∧ v ∈ usesL c b i
def DefU (c : Cd) : Prop := ∀ b i v, UseAt c b i v → (homeN c v.toNat = b → v < (i : Int)) ∧ (homeN c v.toNat ≠ b → Dom (succs c) (homeN c v.toNat) b)
theorem defR_iff {c : Cd} (hb : BlocksP c) (he : ∀ b ∈ c.bk, endsR b.en = endArgs b.en) : DefR c ↔ DefU c := by
  constructor
  · rintro h b i v ⟨⟨B, hB, h1, h2⟩, hv⟩
    obtain ⟨hbn, rfl⟩ := List.getElem?_eq_some_iff.1 hB
    have hl := (bk_range hb (List.getElem_mem hbn)).2.2
    unfold usesL at hv
    rw [hB] at hv
    dsimp only at hv
    by_cases e : (i : Int) < c.bk[b].til
    · rw [if_pos e] at hv
      have hi : i < c.ins.length := by omega
      rw [List.getElem?_eq_getElem hi] at hv
      exact (h b hbn).1 i hi ⟨h1, e⟩ v hv
    · rw [if_neg e, he _ (List.getElem_mem hbn)] at hv
      have h3 := (h b hbn).2 v hv
      have h4 : c.bk[b].til = (i : Int) := by omega
      unfold UseR at h3
      rw [h4] at h3
      exact h3
  · intro h b hbn
    have hB : c.bk[b]? = some c.bk[b] := List.getElem?_eq_getElem hbn
    obtain ⟨r0, r1, r2⟩ := bk_range hb (List.getElem_mem hbn)
    refine ⟨fun i hi hI v hv => h b i v ⟨⟨_, hB, hI.1, by have := hI.2; omega⟩, ?_⟩, fun v hv => ?_⟩
    · unfold usesL
      rw [hB]
      dsimp only
      rw [if_pos hI.2, List.getElem?_eq_getElem hi]
      exact hv
    · have ht : ((c.bk[b].til.toNat : Nat) : Int) = c.bk[b].til := by omega
      have h3 := h b c.bk[b].til.toNat v ⟨⟨_, hB, by omega, by omega⟩, by
        unfold usesL
        rw [hB]
        dsimp only
        rw [if_neg (by omega), he _ (List.getElem_mem hbn)]
        exact hv⟩
      unfold UseR
      rw [ht] at h3
      exact h3
def DoneU (c : Cd) (b i k b' i' : Nat) (v : Int) : Prop := PlaceU c b' i' ∧ ((b' < b ∧ v ∈ usesL c b' i') ∨ (b' = b ∧ i' < i ∧ v ∈ usesL c b' i') ∨ (b' = b ∧ i' = i ∧ v ∈ (usesL c b i).take k))
structure DfS (c : Cd) (b i k : Nat) (R : Nat → List Nat) (q : Nat) : Prop where
  good : ∀ b' i' v, DoneU c b i k b' i' v → homeN c v.toNat = b' → v < (i' : Int)
  mem : ∀ h y, y ∈ R h ↔ ∃ i' v, DoneU c b i k y i' v ∧ homeN c v.toNat = h ∧ h ≠ y
  len : ∀ h, (R h).length ≤ q
section
variable {c : Cd} {b i k : Nat} {R : Nat → List Nat} {q : Nat}
theorem DfS.congr {b2 i2 k2 : Nat} (h : DfS c b i k R q) (e : ∀ b' i' v, DoneU c b i k b' i' v ↔ DoneU c b2 i2 k2 b' i' v) : DfS c b2 i2 k2 R q :=
  ⟨fun b' i' v hd => h.good b' i' v ((e _ _ _).2 hd), fun u y => (h.mem u y).trans ⟨fun ⟨i', v, h1, h2⟩ => ⟨i', v, (e _ _ _).1 h1, h2⟩, fun ⟨i', v, h1, h2⟩ => ⟨i', v, (e _ _ _).2 h1, h2⟩⟩, h.len⟩
theorem DfS.start : DfS c 0 0 0 (fun _ => []) 0 :=
  ⟨fun b' i' v hd => by obtain ⟨_, h | h | h⟩ := hd <;> simp at h, fun u y => ⟨fun h => by simp at h, fun ⟨i', v, hd, _⟩ => by obtain ⟨_, h | h | h⟩ := hd <;> simp at h⟩, fun _ => Nat.le_refl _⟩
theorem DfS.enter (h : DfS c b 0 0 R q) {B : CBk} (hB : c.bk[b]? = some B) {f : Nat} (hf : B.frm = f) : DfS c b f 0 R q := h.congr fun b' i' v => by
  constructor
  · rintro ⟨hp, h1 | h1 | h1⟩
    · exact ⟨hp, Or.inl h1⟩
    · omega
    · simp at h1
  · rintro ⟨hp, h1 | h1 | h1⟩
    · exact ⟨hp, Or.inl h1⟩
    · obtain ⟨rfl, h2, _⟩ := h1
      obtain ⟨B', hB', h3, _⟩ := hp
      rw [hB] at hB'
      cases hB'
      omega
    · simp at h1
theorem DfS.row (h : DfS c b i k R q) (hk : (usesL c b i).length ≤ k) : DfS c b (i + 1) 0 R q := h.congr fun b' i' v => by
  constructor
  · rintro ⟨hp, h1 | h1 | ⟨rfl, rfl, h1⟩⟩
    · exact ⟨hp, Or.inl h1⟩
    · exact ⟨hp, Or.inr (Or.inl ⟨h1.1, by omega, h1.2.2⟩)⟩
    · exact ⟨hp, Or.inr (Or.inl ⟨rfl, by omega, List.mem_of_mem_take h1⟩)⟩
  · rintro ⟨hp, h1 | ⟨rfl, h1, h2⟩ | h1⟩
    · exact ⟨hp, Or.inl h1⟩
    · by_cases e : i' = i
      · subst e
        exact ⟨hp, Or.inr (Or.inr ⟨rfl, rfl, by rw [List.take_of_length_le hk]; exact h2⟩)⟩
      · exact ⟨hp, Or.inr (Or.inl ⟨rfl, by omega, h2⟩)⟩
    · simp at h1
theorem DfS.block (h : DfS c b i 0 R q) {B : CBk} (hB : c.bk[b]? = some B) (hi : B.til < (i : Int)) : DfS c (b + 1) 0 0 R q := h.congr fun b' i' v => by
  constructor
  · rintro ⟨hp, h1 | h1 | h1⟩
    · exact ⟨hp, Or.inl ⟨by omega, h1.2⟩⟩
    · exact ⟨hp, Or.inl ⟨by omega, h1.2.2⟩⟩
    · simp at h1
  · rintro ⟨hp, h1 | h1 | h1⟩
    · by_cases e : b' = b
      · subst e
        obtain ⟨B', hB', h3, h4⟩ := hp
        rw [hB] at hB'
        cases hB'
        exact ⟨⟨B, hB, h3, h4⟩, Or.inr (Or.inl ⟨rfl, by omega, h1.2⟩)⟩
      · exact ⟨hp, Or.inl ⟨by omega, h1.2⟩⟩
    · omega
    · simp at h1
theorem done_step (hk : k < (usesL c b i).length) (b' i' : Nat) (v : Int) (hp : PlaceU c b i) : DoneU c b i (k + 1) b' i' v ↔ DoneU c b i k b' i' v ∨ (b' = b ∧ i' = i ∧ v = (usesL c b i)[k]) := by
  have ht : (usesL c b i).take (k + 1) = (usesL c b i).take k ++ [(usesL c b i)[k]] := List.take_succ_eq_append_getElem hk
  constructor
  · rintro ⟨hp, h1 | h1 | ⟨h1, h2, h3⟩⟩
    · exact Or.inl ⟨hp, Or.inl h1⟩
    · exact Or.inl ⟨hp, Or.inr (Or.inl h1)⟩
    · rw [ht] at h3
      rcases List.mem_append.1 h3 with h3 | h3
      · exact Or.inl ⟨hp, Or.inr (Or.inr ⟨h1, h2, h3⟩)⟩
      · exact Or.inr ⟨h1, h2, List.mem_singleton.1 h3⟩
  · rintro (⟨hp, h1 | h1 | ⟨h1, h2, h3⟩⟩ | ⟨h1, h2, h3⟩)
    · exact ⟨hp, Or.inl h1⟩
    · exact ⟨hp, Or.inr (Or.inl h1)⟩
    · exact ⟨hp, Or.inr (Or.inr ⟨h1, h2, by rw [ht]; exact List.mem_append_left _ h3⟩)⟩
    · subst h1; subst h2
      exact ⟨hp, Or.inr (Or.inr ⟨rfl, rfl, ht ▸ List.mem_append_right _ (List.mem_singleton.2 h3)⟩)⟩
theorem DfS.same (h : DfS c b i k R q) (hp : PlaceU c b i) (hk : k < (usesL c b i).length) (e1 : homeN c ((usesL c b i)[k]).toNat = b) (e2 : (usesL c b i)[k] < (i : Int)) : DfS c b i (k + 1) R q :=
  ⟨fun b' i' v hd he => by
    rcases (done_step hk b' i' v hp).1 hd with hd | ⟨rfl, rfl, rfl⟩
    · exact h.good b' i' v hd he
    · exact e2, fun u y => (h.mem u y).trans ⟨fun ⟨i', v, h1, h2⟩ => ⟨i', v, (done_step hk y i' v hp).2 (Or.inl h1), h2⟩, fun ⟨i', v, h1, h2⟩ => by
    rcases (done_step hk y i' v hp).1 h1 with hd | ⟨rfl, rfl, rfl⟩
    · exact ⟨i', v, hd, h2⟩
    · exact absurd (h2.1.symm.trans e1) h2.2⟩, h.len⟩
theorem DfS.other (h : DfS c b i k R q) (hp : PlaceU c b i) (hk : k < (usesL c b i).length) {u0 : Nat} (e1 : homeN c ((usesL c b i)[k]).toNat = u0) (e2 : u0 ≠ b) : DfS c b i (k + 1) (fun u => if u = u0 then R u0 ++ [b] else R u) (q + 1) :=
  ⟨fun b' i' v hd he => by
    rcases (done_step hk b' i' v hp).1 hd with hd | ⟨rfl, rfl, rfl⟩
    · exact h.good b' i' v hd he
    · exact absurd (e1.symm.trans he) e2, fun u y => by
    show y ∈ (if u = u0 then R u0 ++ [b] else R u) ↔ _
    constructor
    · intro hy
      by_cases e : u = u0
      · rw [if_pos e] at hy
        rcases List.mem_append.1 hy with hy | hy
        · obtain ⟨i', v, h1, h2, h3⟩ := (h.mem u0 y).1 hy
          exact ⟨i', v, (done_step hk y i' v hp).2 (Or.inl h1), by rw [e]; exact h2, by rw [e]; exact h3⟩
        · rw [List.mem_singleton] at hy
          subst hy
          exact ⟨i, _, (done_step hk y i _ hp).2 (Or.inr ⟨rfl, rfl, rfl⟩), by rw [e]; exact e1, by rw [e]; exact e2⟩
      · rw [if_neg e] at hy
        obtain ⟨i', v, h1, h2, h3⟩ := (h.mem u y).1 hy
        exact ⟨i', v, (done_step hk y i' v hp).2 (Or.inl h1), h2, h3⟩
    · rintro ⟨i', v, h1, h2, h3⟩
      rcases (done_step hk y i' v hp).1 h1 with hd | ⟨rfl, rfl, rfl⟩
      · have hy := (h.mem u y).2 ⟨i', v, hd, h2, h3⟩
        by_cases e : u = u0
        · rw [if_pos e, ← e]; exact List.mem_append_left _ hy
        · rw [if_neg e]; exact hy
      · rw [if_pos (h2.symm.trans e1)]; simp, fun u => by
    show (if u = u0 then R u0 ++ [b] else R u).length ≤ _
    by_cases e : u = u0
    · rw [if_pos e, List.length_append]; have := h.len u0; simp; omega
    · rw [if_neg e]; have := h.len u; omega⟩
theorem way_zero {s : Nat → List Nat} {b : Nat} {l : List Nat} (h : Way s b l) : 0 ∈ l := by
  induction h with
  | start => simp
  | step _ _ ih => exact List.mem_cons_of_mem _ ih
theorem DfS.fin (h : DfS c c.bk.length 0 0 R q) (hb : BlocksP c) (hU : ∀ b i v, UseAt c b i v → Ix v c.ins) : DefU c ↔ ∀ h, 1 ≤ h → h < c.bk.length → ∀ y ∈ R h, ¬ Rch (succs c) h 0 y := by
  constructor
  · intro hd u _ _ y hy
    obtain ⟨i', v, h1, h2, h3⟩ := (h.mem u y).1 hy
    have hv : UseAt c y i' v := ⟨h1.1, by
      rcases h1.2 with q | q | q
      · exact q.2
      · exact q.2.2
      · simp at q⟩
    have h4 := (hd y i' v hv).2 (by rw [h2]; exact h3)
    rw [h2] at h4
    exact dom_rch.1 h4
  · intro hd b i v hv
    obtain ⟨B, hB, _, _⟩ := hv.1
    obtain ⟨hbn, _⟩ := List.getElem?_eq_some_iff.1 hB
    have hD : DoneU c c.bk.length 0 0 b i v := ⟨hv.1, Or.inl ⟨hbn, hv.2⟩⟩
    refine ⟨h.good b i v hD, fun hne => ?_⟩
    by_cases e : homeN c v.toNat = 0
    · rw [e]; exact fun l hl => way_zero hl
    · have hix := hU b i v hv
      obtain ⟨g1, _⟩ := home_lt hb (show v.toNat < c.ins.length by have := hix.1; have := hix.2; omega)
      exact dom_rch.2 (hd _ (by omega) g1 b ((h.mem _ b).2 ⟨i, v, hD, rfl, hne⟩))
end
end Go.Proofs.YtnbgadndkepomaaGreatDoor

namespace Go.Proofs.YtnbgadndkepomaaGreatDoor
open Go.RowKit

set_option maxRecDepth 100000 in
set_option maxHeartbeats 1600000 in
theorem Args_own {W : World} (i : CIn) :
    Calls Tryz.prog 24 #[.agg #[.int .i64 i.op, .int .i64 i.w, .int .i64 i.p, .int .i64 i.a, .int .i64 i.b, .int .i64 i.c, .int .u64 i.n, .int .i64 i.at_]] W (ListB W (argsOf i)) := by
  obtain ⟨L, hL⟩ : ∃ L, Hid (argsOf i = L) := ⟨_, Lib.hid rfl⟩
  rw [hL.out]
  have N := Box.new W 47 #[.int .i64 i.op, .int .i64 i.w, .int .i64 i.p, .int .i64 i.a, .int .i64 i.b, .int .i64 i.c, .int .u64 i.n, .int .i64 i.at_]
  have bA : Below W.heap.size W (W.alloc (.cells #[.int .i64 i.op, .int .i64 i.w, .int .i64 i.p, .int .i64 i.a, .int .i64 i.b, .int .i64 i.c, .int .u64 i.n, .int .i64 i.at_] 47)) := (Below.refl _ _).alloc (Nat.le_refl _) _
  go_enter Tryz.func24, Tryz.ntmps24
  go_upto_region 2 with fail
  obtain ⟨bu, hbu⟩ : ∃ b, Hid (W.heap.size = b) := ⟨_, Lib.hid rfl⟩
  obtain ⟨w1, hw1⟩ : ∃ Y, W.alloc (.cells #[.int .i64 i.op, .int .i64 i.w, .int .i64 i.p, .int .i64 i.a, .int .i64 i.b, .int .i64 i.c, .int .u64 i.n, .int .i64 i.at_] 47) = Y := ⟨_, rfl⟩
  rw [hw1] at N bA
  rw [hbu.out] at N
  simp only [hw1, hbu.out]
  clear hw1
  have n3 := N.cell 3
  have n4 := N.cell 4
  have n5 := N.cell 5
  have b2 : ∀ l : List Int, Below W.heap.size W (w1.alloc (.cells (ints l) 3)) := fun l => bA.alloc bA.size _
  by_cases k1 : (2 ≤ i.op ∧ i.op ≤ 14) ∨ i.op = 19 ∨ i.op = 33
  · obtain rfl : L = [i.a, i.b] := by rw [← hL.out, argsOf_two k1]
    have hR := Box.new w1 3 (ints [i.a, i.b])
    have hfin : ListB W [i.a, i.b] (.returned (.slice (some ⟨w1.heap.size, 0, none⟩) 2 2)) (w1.alloc (.cells (ints [i.a, i.b]) 3)) := ⟨_, 2, rfl, by simp, by unfold maxLen; omega, fun _ => ⟨_, rfl, bA.size, hR⟩, b2 _⟩
    rcases k1 with ⟨k1, k2⟩ | k1 | k1
    · have e1 : decide (2 ≤ i.op) = true := decide_eq_true k1
      have e2 : decide (i.op ≤ 14) = true := decide_eq_true k2
      clear k1 k2 hL hR
      go_wp2
      go_ret
      exact hfin
    · have e0 : (i.op == 19) = true := by simpa using k1
      have e1 : decide (2 ≤ i.op) = true := decide_eq_true (by omega)
      have e2 : decide (i.op ≤ 14) = false := decide_eq_false (by omega)
      clear k1 hL hR
      go_wp2
      go_ret
      exact hfin
    · have e0 : (i.op == 19) = false := by
        have : i.op ≠ 19 := by omega
        simpa using this
      have e3 : (i.op == 33) = true := by simpa using k1
      have e1 : decide (2 ≤ i.op) = true := decide_eq_true (by omega)
      have e2 : decide (i.op ≤ 14) = false := decide_eq_false (by omega)
      clear k1 hL hR
      go_wp2
      go_ret
      exact hfin
  · have ne : ∀ k : Int, i.op ≠ k → (i.op == k) = false := fun k h => by simpa using h
    have k19 := ne 19 (by omega)
    have k33 := ne 33 (by omega)
    by_cases h2 : 2 ≤ i.op
    case' pos =>
      have e1 : decide (2 ≤ i.op) = true := decide_eq_true h2
      have e2 : decide (i.op ≤ 14) = false := decide_eq_false (by omega)
    case' neg =>
      have e1 : decide (2 ≤ i.op) = false := decide_eq_false h2
    all_goals
      by_cases k34 : i.op = 34
      · obtain rfl : L = [i.a, i.b, i.c] := by rw [← hL.out, argsOf_three k34]
        have hR := Box.new w1 3 (ints [i.a, i.b, i.c])
        have hfin : ListB W [i.a, i.b, i.c] (.returned (.slice (some ⟨w1.heap.size, 0, none⟩) 3 3)) (w1.alloc (.cells (ints [i.a, i.b, i.c]) 3)) := ⟨_, 3, rfl, by simp, by unfold maxLen; omega, fun _ => ⟨_, rfl, bA.size, hR⟩, b2 _⟩
        have e34 : (i.op == 34) = true := by simpa using k34
        clear hL hR k1 h2 ne k34
        go_wp2
        go_ret
        exact hfin
      have e34 := ne 34 k34
      by_cases k4 : i.op = 1 ∨ i.op = 22 ∨ i.op = 30 ∨ i.op = 32
      · obtain rfl : L = [] := by rw [← hL.out, argsOf_none k4]
        have hfin : ListB W [] (.returned (.slice none 0 0)) w1 := ⟨none, 0, rfl, Nat.le_refl _, by unfold maxLen; omega, (fun h => by simp at h), bA⟩
        rcases k4 with k4 | k4 | k4 | k4
        · have f1 : (i.op == 1) = true := by simpa using k4
          clear hL k1 h2 ne k34 k4
          go_wp2
          go_ret
          exact hfin
        · have f1 := ne 1 (by omega)
          have f2 : (i.op == 22) = true := by simpa using k4
          clear hL k1 h2 ne k34 k4
          go_wp2
          go_ret
          exact hfin
        · have f1 := ne 1 (by omega)
          have f2 := ne 22 (by omega)
          have f3 : (i.op == 30) = true := by simpa using k4
          clear hL k1 h2 ne k34 k4
          go_wp2
          go_ret
          exact hfin
        · have f1 := ne 1 (by omega)
          have f2 := ne 22 (by omega)
          have f3 := ne 30 (by omega)
          have f4 : (i.op == 32) = true := by simpa using k4
          clear hL k1 h2 ne k34 k4
          go_wp2
          go_ret
          exact hfin
      · obtain rfl : L = [i.a] := by rw [← hL.out, argsOf_one k1 k34 k4]
        have hR := Box.new w1 3 (ints [i.a])
        have hfin : ListB W [i.a] (.returned (.slice (some ⟨w1.heap.size, 0, none⟩) 1 1)) (w1.alloc (.cells (ints [i.a]) 3)) := ⟨_, 1, rfl, by simp, by unfold maxLen; omega, fun _ => ⟨_, rfl, bA.size, hR⟩, b2 _⟩
        have f1 := ne 1 (by omega)
        have f2 := ne 22 (by omega)
        have f3 := ne 30 (by omega)
        have f4 := ne 32 (by omega)
        clear hL hR k1 h2 ne k34 k4
        go_wp2
        go_ret
        exact hfin
end Go.Proofs.YtnbgadndkepomaaGreatDoor
