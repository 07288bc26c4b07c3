/- Joined texts: SaDefM, SaDef. -/
import Derived.Test.YtnbgadndkepomaaGreatDoorSQL

/- SsaDefined, plainly: on a way, what is used is known. -/
namespace Go.Proofs.YtnbgadndkepomaaGreatDoor

/-- What is known before the instruction j of the block b, behind the blocks of l. -/
def Kn (c : Cd) (l : List Nat) (b j : Nat) (m : List Nat) : Prop :=
  (∀ (hb : b < c.bk.length) (k : Nat), InBk c.bk[b] k → k < j → k ∈ m) ∧ (∀ h ∈ l, ∀ (hh : h < c.bk.length) (k : Nat), InBk c.bk[h] k → k ∈ m)
theorem Kn.known {c : Cd} (hb : BlocksP c) {l : List Nat} {b j : Nat} {m : List Nat} (h : Kn c l b j m) (hw : Way (succs c) b (b :: l)) (hbn : b < c.bk.length) {v : Int} {before : Int} (hu : UseP c v b before) (hj : before ≤ j) : knownR c.ins.length m v = true := by
  obtain ⟨hix, hu2⟩ := hu
  obtain ⟨k, rfl, hk⟩ := ix_nat hix
  obtain ⟨g1, g2⟩ := home_lt hb hk
  rw [Int.toNat_natCast] at hu2
  have h3 := hu2 (homeN c k) g1 g2
  unfold knownR
  rw [decide_eq_true_eq, Int.toNat_natCast]
  refine ⟨hix.1, hix.2, ?_⟩
  by_cases e : homeN c k = b
  · have := h3.1 e
    have h4 : InBk c.bk[b] k := by
      have h5 := g2
      simp only [e] at h5
      exact h5
    exact h.1 hbn k h4 (by omega)
  · have hm := h3.2 e _ hw
    rcases List.mem_cons.1 hm with h6 | h6
    · exact absurd h6 e
    · exact h.2 _ h6 g1 k g2
theorem Kn.step {c : Cd} {l : List Nat} {b j : Nat} {m : List Nat} (h : Kn c l b j m) : Kn c l b (j + 1) (j :: m) :=
  ⟨fun hb k hk hkj => by
    by_cases e : k = j
    · rw [e]; simp
    · exact List.mem_cons_of_mem _ (h.1 hb k hk (by omega)), fun g hg hh k hk => List.mem_cons_of_mem _ (h.2 g hg hh k hk)⟩
theorem Kn.leave {c : Cd} {l : List Nat} {b t : Nat} {m : List Nat} (h : Kn c l b t m) (hb : b < c.bk.length) (ht : c.bk[b].til ≤ t) (b' f : Nat) (hf : ∀ hb' : b' < c.bk.length, c.bk[b'].frm = f) : Kn c (b :: l) b' f m :=
  ⟨fun hb' k hk hkf => by
    have := hf hb'
    have := hk.1
    omega, fun g hg hh k hk => by
    rcases List.mem_cons.1 hg with e | hg
    · subst e; exact h.1 hh k hk (by have := hk.2; omega)
    · exact h.2 g hg hh k hk⟩
theorem Kn.first {c : Cd} {f : Nat} (hf : ∀ hb' : 0 < c.bk.length, c.bk[0].frm = f) : Kn c [] 0 f [] :=
  ⟨fun hb' k hk hkf => by
    have := hf hb'
    have := hk.1
    omega, fun g hg => by cases hg⟩
theorem all_known {c : Cd} {m : List Nat} {l : List Int} (h : ∀ v ∈ l, knownR c.ins.length m v = true) : l.all (knownR c.ins.length m) = true := List.all_eq_true.2 h
end Go.Proofs.YtnbgadndkepomaaGreatDoor

/- SsaDefined: the law's walk, over the head's contract. -/
namespace Go.Proofs.YtnbgadndkepomaaGreatDoor
open Go.RowKit

/-- What the head answers. -/
def HeadC : Prop := ∀ w : World, ErrV w → Calls Tryz.prog 11 #[] w fun e w' => e = .returned (.bool true) ∧ Below w.heap.size w w'
theorem edge_len {e : CEn} {sl : List Int} (hs : (edges e).map (·.to) = sl) : sl.length ≤ 2 := by
  subst hs
  rw [List.length_map]
  exact edges_le e
theorem edge_nonneg {c : Cd} {e : CEn} (h : ∀ d ∈ edges e, EdgeP c d) {sl : List Int} (hs : (edges e).map (·.to) = sl) (k : Nat) (hk : k < sl.length) : 0 ≤ sl[k] := by
  subst hs
  rw [List.getElem_map]
  rw [List.length_map] at hk
  obtain ⟨_, _, h3, _⟩ := h _ (List.getElem_mem hk)
  exact h3
theorem edge_succ {c : Cd} {b : Nat} {e : CEn} (hsu : succs c b = (edges e).map fun d => d.to.toNat) {sl : List Int} (hs : (edges e).map (·.to) = sl) (k : Nat) (hk : k < sl.length) : sl[k].toNat ∈ succs c b := by
  subst hs
  rw [List.getElem_map, hsu]
  rw [List.length_map] at hk
  exact List.mem_map.2 ⟨_, List.getElem_mem hk, rfl⟩
theorem chain_first : ∀ (l : List CBk) (f n : Int), ChainP f l n → ∀ h : 0 < l.length, l[0].frm = f
  | [], _, _, _, h => by simp at h
  | _ :: _, _, _, h, _ => h.1
/-- A row of choices. -/
def BRow (w : World) (A : Option Addr) (l : List Bool) : Prop := ∀ (i : Nat) (h : i < l.length), ∃ g o, A = some ⟨g, o, none⟩ ∧ w.cell? ⟨g, o + i, none⟩ = some (.bool l[i])
theorem BRow.later {w w' : World} (hb : Below w.heap.size w w') {A : Option Addr} {l : List Bool} (h : BRow w A l) : BRow w' A l := fun i hi => by
  obtain ⟨g, o, e, h⟩ := h i hi
  exact ⟨g, o, e, cell_later hb h⟩
/-- What the walk holds at the block b: what is known, in memory. -/
structure Knw (W0 w : World) (c : Cd) (bx bk xk : Nat) (x : Sl) (m : List Nat) : Prop where
  bw : Below W0.heap.size W0 w
  bX : Box w bx 27 #[.slice x.S c.st.length x.sc, .slice x.N c.nm.length x.nc, .slice x.I c.ins.length x.ic, .slice x.K c.bk.length x.kc]
  bB : Box w bk 4 (bools m c.ins.length)
  bK : Box w xk 38 #[.slice (some ⟨bk, 0, none⟩) c.ins.length c.ins.length]
theorem Knw.later {W0 w w' : World} {c : Cd} {bx bk xk : Nat} {x : Sl} {m : List Nat} (h : Knw W0 w c bx bk xk x m) (hb : Below w.heap.size w w') : Knw W0 w' c bx bk xk x m :=
  ⟨h.bw.trans (hb.mono h.bw.size), h.bX.below hb, h.bB.below hb, h.bK.below hb⟩
theorem Knw.set {W0 w : World} {c : Cd} {bx bk xk : Nat} {x : Sl} {m : List Nat} (h : Knw W0 w c bx bk xk x m) (h0 : W0.heap.size ≤ bk) (j : Nat) : Knw W0 (w.setCell ⟨bk, j, none⟩ (.bool true)) c bx bk xk x (j :: m) := by
  refine ⟨h.bw.setCell h0 _, h.bX.far (fun e => by subst e; exact absurd (h.bX.type h.bB) (by decide)) _, ?_, h.bK.far (fun e => by subst e; exact absurd (h.bK.type h.bB) (by decide)) _⟩
  have := h.bB.set j (.bool true)
  rwa [bools_set] at this
set_option maxRecDepth 200000 in
set_option maxHeartbeats 3200000 in
theorem defined_any (hh : HeadC) {W : World} {c : Cd} {x : Sl} (hx : CdAt W c x) (ok : c.ok) (hv : ErrV W) (ch : List Bool) (CA : Option Addr) (cc : Nat) (hch : BRow W CA ch) (hcl : ch.length ≤ cc ∧ cc ≤ maxLen) :
    Calls Tryz.prog 4 #[.agg #[.slice x.S c.st.length x.sc, .slice x.N c.nm.length x.nc, .slice x.I c.ins.length x.ic, .slice x.K c.bk.length x.kc], .slice CA ch.length cc] W fun e w' => e = .returned (.bool true) ∧ Below W.heap.size W w' := by
  have N := Box.new W 27 #[.slice x.S c.st.length x.sc, .slice x.N c.nm.length x.nc, .slice x.I c.ins.length x.ic, .slice x.K c.bk.length x.kc]
  have bA : Below W.heap.size W (W.alloc (.cells #[.slice x.S c.st.length x.sc, .slice x.N c.nm.length x.nc, .slice x.I c.ins.length x.ic, .slice x.K c.bk.length x.kc] 27)) := (Below.refl _ _).alloc (Nat.le_refl _) _
  have hx1 := hx.later bA
  have hv1 := hv.later bA
  have hhd := Lib.hid (hh _ hv1)
  obtain ⟨hc1, hc2⟩ := hcl
  unfold maxLen at hc2
  go_enter Tryz.func4, Tryz.ntmps4
  go_wp2_with fail
  refine hhd.out.mono ?_
  rintro e w2 ⟨rfl, b2⟩
  have N2 := N.below b2
  have hx2 := hx1.later b2
  have hv2 := hv1.later b2
  have bW2 := bA.trans (b2.mono bA.size)
  have n0 := N2.cell 0
  have n1 := N2.cell 1
  have n2 := N2.cell 2
  have n3 := N2.cell 3
  have hfw := Lib.hid (Few_any hx2 ok)
  obtain ⟨bu, hbu⟩ : ∃ b, Hid (W.heap.size = b) := ⟨_, Lib.hid rfl⟩
  clear hhd N hx1 hv1 b2 bA hh
  go_wp2_with fail
  refine hfw.out.mono ?_
  rintro e w3 ⟨⟨fb, rfl⟩, b3⟩
  have N3 := N2.below b3
  have hx3 := hx2.later b3
  have hv3 := hv2.later b3
  have bW3 := bW2.trans (b3.mono bW2.size)
  clear hfw N2 hx2 hv2 b3 bW2 n0 n1 n2 n3
  cases fb with
  | false =>
    go_wp2
    go_ret
    exact ⟨rfl, bW3⟩
  | true =>
  have n0 := N3.cell 0
  have n1 := N3.cell 1
  have n2 := N3.cell 2
  have n3 := N3.cell 3
  have hva := Lib.hid (Valid_any hx3 ok hv3)
  by_cases hvd : ValidP c
  rotate_left 1
  · rw [B_not hvd] at hva
    clear hvd
    go_wp2_with fail
    refine hva.out.mono ?_
    rintro e w4 ⟨rfl, b4⟩
    clear hva n0 n1 n2 n3
    go_wp2
    go_ret
    exact ⟨rfl, bW3.trans (b4.mono bW3.size)⟩
  rw [B_of hvd] at hva
  go_wp2_with fail
  refine hva.out.mono ?_
  rintro e w4 ⟨rfl, b4⟩
  have N4 := N3.below b4
  have hx4 := hx3.later b4
  have bW4 := bW3.trans (b4.mono bW3.size)
  clear hva N3 hx3 hv3 b4 bW3 n0 n1 n2 n3
  have hins := hvd.1.1.1.2.2.2.1
  have hbks := hvd.1.1.1.2.2.1
  replace hvd := Lib.hid hvd
  have n2 := N4.cell 2
  have mk := fun w => mk_bools c.ins.length (by omega) w
  have M0 := (Box.new w4 4 (bools [] c.ins.length)).alloc (.cells #[.slice (some ⟨w4.heap.size, 0, none⟩) c.ins.length c.ins.length] 38)
  have M1 := Box.newAt (X := w4.alloc (.cells (bools [] c.ins.length) 4)) (n := w4.heap.size + 1) (by simp) 38 #[.slice (some ⟨w4.heap.size, 0, none⟩) c.ins.length c.ins.length]
  have bM : Below w4.heap.size w4 ((w4.alloc (.cells (bools [] c.ins.length) 4)).alloc (.cells #[.slice (some ⟨w4.heap.size, 0, none⟩) c.ins.length c.ins.length] 38)) := ((Below.refl _ _).alloc (Nat.le_refl _) _).alloc (by simp) _
  go_upto_region 7 with fail
  obtain ⟨bk, hbk⟩ : ∃ b, Hid (w4.heap.size = b) := ⟨_, Lib.hid rfl⟩
  obtain ⟨w5, hw5⟩ : ∃ Y, (w4.alloc (.cells (bools [] c.ins.length) 4)).alloc (.cells #[.slice (some ⟨w4.heap.size, 0, none⟩) c.ins.length c.ins.length] 38) = Y := ⟨_, rfl⟩
  rw [hw5] at M0 M1 bM
  rw [hbk.out] at M0 M1
  rw [hbu.out] at N4
  simp only [hw5]
  simp only [hbk.out, hbu.out]
  clear hw5 mk n2
  have hbkW : W.heap.size ≤ bk := by rw [← hbk.out]; exact bW4.size
  have hK5 : Knw W w5 c bu bk (bk + 1) x [] := ⟨bW4.trans (bM.mono bW4.size), N4.below bM, M0, M1⟩
  clear M0 M1 N4 hx4 bM bW4
  have hkn : Hid (Kn c [] 0 0 []) := Lib.hid (Kn.first (fun hb' => chain_first _ _ _ hvd.out.1.1.2 hb'))
  have hwy : Hid (Way (succs c) 0 [0]) := Lib.hid .start
  go_wp2_with fail
  go_loopw [8, 29] (fun vb vn wr => ∃ (n b f : Nat) (m l : List Nat), n ≤ 200 ∧ vn = .int .i64 n ∧ vb = .int .i64 b ∧ b < c.bk.length ∧ Hid (∀ hb : b < c.bk.length, c.bk[b].frm = f) ∧ Hid (Kn c l b f m) ∧ Hid (Way (succs c) b (b :: l)) ∧ Knw W wr c bu bk (bk + 1) x m) (fun _ vn _ => 200 - iOf vn)
  case atStart => exact ⟨0, 0, 0, [], [], by omega, rfl, rfl, by omega, Lib.hid (fun hb' => chain_first _ _ _ hvd.out.1.1.2 hb'), hkn, hwy, hK5⟩
  case round =>
    clear hkn hwy hK5
    obtain ⟨n, b, f0, m, l, hn, rfl, rfl, hb, hf0, hkn, hwy, hK⟩ := hrel
    by_cases hn2 : n < 200
    · have hx1 := hx.later hK.bw
      have n3 := hK.bX.cell 3
      obtain ⟨g, o, TA, EA, tc, ec, eK, hBk, hle⟩ := hx.k b hb
      obtain ⟨c0, c1, c2, c3, c4, c5, c6, c7, c8, c9⟩ := hBk.later hK.bw
      replace hle := Lib.hid hle
      clear hBk
      obtain ⟨f, t, hf, ht, hft, htn⟩ := bk_nat hvd.out.1.1.2 hb
      have hff : f0 = f := by have := hf0.out hb; omega
      subst hff
      have hVb := Lib.hid (hvd.out.2.2.1 b hb)
      have hEb := Lib.hid ((hvd.out.1.2.2 _ (List.getElem_mem hb)))
      have hsu := Lib.hid (succs_at hb)
      have hSucc := Lib.hid (fun (w : World) (hw : CdAt w c x) => Succs_any (W := w) hw b hb)
      have hLv := Lib.hid (fun (m' : List Nat) (k' : Kn c l b t m') (b' f' : Nat) (hf' : ∀ hb' : b' < c.bk.length, c.bk[b'].frm = f') => k'.leave hb (by omega) b' f' hf')
      have hen2 := endArgs_le hvd.out.1.1.1 hvd.out.1.2.2 _ (List.getElem_mem hb)
      obtain ⟨y, hy⟩ : ∃ t, Hid (c.bk[b] = t) := ⟨_, Lib.hid rfl⟩
      simp only [hy.out] at c0 c1 c2 c3 c4 c5 c6 c7 c8 c9 hle hEb hsu hSucc hen2
      have d3 : wr.cell? ⟨g, o + b * 10 + 3, none⟩ = some (.int .i64 y.en.a) := c3
      have d4 : wr.cell? ⟨g, o + b * 10 + 4, none⟩ = some (.int .i64 y.en.to) := c4
      have d5 : wr.cell? ⟨g, o + b * 10 + 5, none⟩ = some (.int .i64 y.en.els) := c5
      have d6 : wr.cell? ⟨g, o + b * 10 + 6, none⟩ = some (.slice TA y.en.ta.length tc) := c6
      have d7 : wr.cell? ⟨g, o + b * 10 + 7, none⟩ = some (.slice EA y.en.ea.length ec) := c7
      have d8 : wr.cell? ⟨g, o + b * 10 + 8, none⟩ = some (.int .i64 y.en.n) := c8
      have d9 : wr.cell? ⟨g, o + b * 10 + 9, none⟩ = some (.int .i64 y.en.at_) := c9
      rw [hy.out] at hf ht
      rw [hf] at c0
      rw [ht] at c1
      have hf9 := Lib.hid hf
      replace ht := Lib.hid ht
      have hft2 := hft
      clear hf hft
      have hbc : (b : Int) < c.bk.length := by omega
      have hbneg : ¬ ((b : Int) < 0) := by omega
      have hbge : ¬ ((c.bk.length : Int) ≤ b) := by omega
      have hnc : (n : Int) < 200 := by omega
      have hwn : IntKind.i64.wrap ((n : Int) + 1) = ((n + 1 : Nat) : Int) := by rw [IntWalk.i64_in _ (by omega)]; omega
      have N0 := Box.new wr 43 #[.int .i64 (f0 : Nat), .int .i64 (t : Nat), .int .i64 y.en.kind, .int .i64 y.en.a, .int .i64 y.en.to, .int .i64 y.en.els, .slice TA y.en.ta.length tc, .slice EA y.en.ea.length ec, .int .i64 y.en.n, .int .i64 y.en.at_]
      have bN : Below wr.heap.size wr (wr.alloc (.cells #[.int .i64 (f0 : Nat), .int .i64 (t : Nat), .int .i64 y.en.kind, .int .i64 y.en.a, .int .i64 y.en.to, .int .i64 y.en.els, .slice TA y.en.ta.length tc, .slice EA y.en.ea.length ec, .int .i64 y.en.n, .int .i64 y.en.at_] 43)) := (Below.refl _ _).alloc (Nat.le_refl _) _
      have hK3 := hK.later bN
      go_upto_region 13 with fail
      try simp only [← eK]
      obtain ⟨bc, hbc2⟩ : ∃ b, Hid (wr.heap.size = b) := ⟨_, Lib.hid rfl⟩
      obtain ⟨w3', hw3⟩ : ∃ Y, wr.alloc (.cells #[.int .i64 (f0 : Nat), .int .i64 (t : Nat), .int .i64 y.en.kind, .int .i64 y.en.a, .int .i64 y.en.to, .int .i64 y.en.els, .slice TA y.en.ta.length tc, .slice EA y.en.ea.length ec, .int .i64 y.en.n, .int .i64 y.en.at_] 43) = Y := ⟨_, rfl⟩
      rw [hw3] at N0 hK3
      rw [hbc2.out] at N0
      simp only [hw3, hbc2.out]
      clear hw3 bN c0 c1 c2 c3 c4 c5 c6 c7 c8 c9 d3 d4 d5 d6 d7 d8 d9 eK hK hx1 n3
      have n0 := N0.cell 0
      go_wp2_with fail
      clear n0
      go_loopw [11] (fun v wq => ∃ (j : Nat) (m' : List Nat), f0 ≤ j ∧ j ≤ t ∧ v = .int .i64 j ∧ Hid (Kn c l b j m') ∧ Knw W wq c bu bk (bk + 1) x m' ∧ Box wq bc 43 #[.int .i64 (f0 : Nat), .int .i64 (t : Nat), .int .i64 y.en.kind, .int .i64 y.en.a, .int .i64 y.en.to, .int .i64 y.en.els, .slice TA y.en.ta.length tc, .slice EA y.en.ea.length ec, .int .i64 y.en.n, .int .i64 y.en.at_]) (fun v _ => t - iOf v)
      case atStart => exact ⟨f0, m, Nat.le_refl _, hft2, rfl, hkn, hK3, N0⟩
      case round =>
        clear hkn hK3 N0
        obtain ⟨j, m', hfj, hjt, rfl, hkn, hK, BC⟩ := hrel
        have k1 := BC.cell 1
        by_cases hjl : j < t
        · have hji : j < c.ins.length := by omega
          have hx1 := hx.later hK.bw
          have n2 := hK.bX.cell 2
          obtain ⟨gi, oi, eI, c0, c1, c2, c3, c4, c5, c6, c7⟩ := hx1.i j hji
          have hin : InBk c.bk[b] j := ⟨by rw [hy.out, hf9.out]; omega, by rw [hy.out, ht.out]; omega⟩
          have hall := Lib.hid (all_known (c := c) (m := m') (l := argsOf c.ins[j]) (fun v hv2 => hkn.out.known hvd.out.1.1.2 hwy.out hb ((hVb.out).1 j hji hin v hv2) (Int.le_refl _)))
          have hAr := Lib.hid (fun w => Args_any (W := w) c.ins[j])
          obtain ⟨⟨op, iw, ip, ia, ib, ic, inn, iat⟩, hyi⟩ : ∃ t, Hid (c.ins[j] = t) := ⟨_, Lib.hid rfl⟩
          simp only [hyi.out] at c0 c1 c2 c3 c4 c5 c6 c7 hall hAr
          have hjc : (j : Int) < c.ins.length := by omega
          have hjtc : (j : Int) < (t : Nat) := by omega
          have hjneg : ¬ ((j : Int) < 0) := by omega
          have hjge : ¬ ((c.ins.length : Int) ≤ j) := by omega
          have hwj : IntKind.i64.wrap ((j : Int) + 1) = ((j + 1 : Nat) : Int) := by rw [IntWalk.i64_in _ (by omega)]; omega
          clear hin
          go_wp2_with fail
          refine (hAr.out _).mono ?_
          rintro r w6 ⟨A6, q6, rfl, l6, l7, hr6, b6⟩
          have hK6 := hK.later b6
          have BC6 := BC.below b6
          have hal := Lib.hid (all_any hK6.bK hK6.bB _ A6 q6 hr6 ⟨l6, l7⟩)
          rw [hall.out] at hal
          try simp only [← eI]
          clear hAr n2 c0 c1 c2 c3 c4 c5 c6 c7 eI hx1 hK BC k1 b6 hall
          go_wp2_with fail
          refine hal.out.mono ?_
          rintro r w7 ⟨rfl, rfl⟩
          clear hal
          have x0 := hK6.bK.cell 0
          have cb : w6.cell? ⟨bk, j, none⟩ = some (.bool (decide (j ∈ m'))) := by rw [hK6.bB.cell]; exact bools_get m' hji
          have fb := hK6.bB.free j
          have hK7 := hK6.set hbkW j
          have BC7 := BC6.far (b' := bk) (i := j) (fun e => by subst e; exact absurd (BC6.type hK6.bB) (by decide)) (.bool true)
          have hkn2 := Lib.hid hkn.out.step
          clear hkn
          go_wp2_with fail
          clear hK6 BC6 x0 cb fb
          go_roundw
          case rel => exact ⟨j + 1, j :: m', by omega, hjl, by go_num, hkn2, hK7, BC7⟩
          case measure => simp only [iOf]; omega
        · have hje : j = t := by omega
          subst hje
          have n2 := BC.cell 2
          have n3 := BC.cell 3
          have n4 := BC.cell 4
          have n5 := BC.cell 5
          have n6 := BC.cell 6
          have n7 := BC.cell 7
          have n8 := BC.cell 8
          have n9 := BC.cell 9
          have heq := endsR_is hEb.out.2.1
          have hlen : y.en.ta.length + y.en.ea.length ≤ 1000000000 := by
            have h1 : (endsR y.en).length ≤ 1000000000 := by rw [heq]; exact hen2
            unfold endsR at h1
            rw [List.length_append, List.length_append] at h1
            omega
          have hEn := Lib.hid (Ends_any (W := wr) y.en TA EA tc ec (hle.out.later hK.bw) hlen)
          have hall := Lib.hid (all_known (c := c) (m := m') (l := endsR y.en) (fun v hv2 => hkn.out.known hvd.out.1.1.2 hwy.out hb ((hVb.out).2 v (by rw [hy.out, ← heq]; exact hv2)) (by rw [hy.out, ht.out]; exact Int.le_refl _)))
          clear heq hfj hjt hjl
          go_wp2_with fail
          refine hEn.out.mono ?_
          rintro r w6 ⟨v6, rfl, hO6, b6⟩
          have hK6 := hK.later b6
          obtain ⟨le, hle9⟩ : ∃ q, Hid (endsR y.en = q) := ⟨_, Lib.hid rfl⟩
          rw [hle9.out] at hO6 hall
          obtain ⟨A6, q6, hV6, l6, l7, hr6⟩ := hO6.read
          subst hV6
          have hal := Lib.hid (all_any hK6.bK hK6.bB le A6 q6 hr6 ⟨l6, l7⟩)
          rw [hall.out] at hal
          clear hEn n2 n3 n4 n5 n6 n7 n8 n9 BC k1 b6 hK hO6 hall hr6
          go_wp2_with fail
          refine hal.out.mono ?_
          rintro r w7 ⟨rfl, rfl⟩
          clear hal l6 l7
          have x0 := hK6.bX.cell 0
          have x1 := hK6.bX.cell 1
          have x2 := hK6.bX.cell 2
          have x3 := hK6.bX.cell 3
          have hsc := Lib.hid (hSucc.out w6 (hx.later hK6.bw))
          obtain ⟨sl, hsl9⟩ : ∃ q, Hid ((edges y.en).map (·.to) = q) := ⟨_, Lib.hid rfl⟩
          have hsll := edge_len hsl9.out
          have hEdge := Lib.hid (edge_nonneg hEb.out.2.2 hsl9.out)
          have hSl := Lib.hid (edge_succ hsu.out hsl9.out)
          rw [hsl9.out] at hsc
          clear hsl9
          go_wp2_with fail
          refine hsc.out.mono ?_
          rintro r w9 ⟨A8, q8, rfl, l8, l9, hr8, b8⟩
          have hK9 := hK6.later b8
          clear hsc x0 x1 x2 x3 b8 hK6
          unfold maxLen at l9
          by_cases hs0 : sl.length = 0
          · have g0 : (((sl.length : Nat) : Int) == 0) = true := by rw [hs0]; rfl
            clear hs0
            go_wp2
            go_ret
            exact ⟨rfl, hK9.bw⟩
          have g0 : (((sl.length : Nat) : Int) == 0) = false := by
            have : ((sl.length : Nat) : Int) ≠ 0 := by omega
            simpa using this
          by_cases hnl : n < ch.length
          · have hnlc : (n : Int) < ch.length := by omega
            obtain ⟨gc, oc, eC, cch⟩ := (hch.later hK9.bw) n hnl
            obtain ⟨cb, hcb⟩ : ∃ z, Hid (ch[n] = z) := ⟨_, Lib.hid rfl⟩
            rw [hcb.out] at cch
            cases cb with
            | true =>
              have hk0 : sl.length - 1 < sl.length := by omega
              have hw1 : IntKind.i64.wrap (((sl.length : Nat) : Int) - 1) = ((sl.length - 1 : Nat) : Int) := by rw [IntWalk.i64_in _ (by omega)]; omega
              have hlt1 : ((sl.length - 1 : Nat) : Int) < sl.length := by omega
              obtain ⟨g8, o8, eA8, c8⟩ := hr8 (sl.length - 1) hk0
              have hedge := hEdge.out (sl.length - 1) hk0
              have hsl := hSl.out (sl.length - 1) hk0
              obtain ⟨z, hz⟩ : ∃ z, Hid (sl[sl.length - 1] = z) := ⟨_, Lib.hid rfl⟩
              rw [hz.out] at c8 hedge hsl
              obtain ⟨b2, rfl⟩ : ∃ q : Nat, z = q := ⟨z.toNat, by omega⟩
              rw [Int.toNat_natCast] at hsl
              have hb2 := (succ_lt hvd.out.1.2.2 hsl).1
              obtain ⟨f2, t2, hf2, _, _, _⟩ := bk_nat hvd.out.1.1.2 hb2
              have hkn3 := Lib.hid (hLv.out m' hkn.out b2 f2 (fun _ => hf2))
              have hwy3 := Lib.hid (Way.step hwy.out hsl)
              have hf3 : Hid (∀ hb : b2 < c.bk.length, c.bk[b2].frm = f2) := Lib.hid (fun _ => hf2)
              clear hedge hsl hf2 hr8
              go_wp2_with fail
              try simp only [← eA8]
              try simp only [← eC]
              clear eA8 c8
              go_roundw
              case rel => exact ⟨n + 1, b2, f2, m', b :: l, by omega, by go_num, rfl, hb2, hf3, hkn3, hwy3, hK9⟩
              case measure => simp only [iOf]; omega
            | false =>
              have hk0 : 0 < sl.length := by omega
              obtain ⟨g8, o8, eA8, c8⟩ := hr8 0 hk0
              have hedge := hEdge.out 0 hk0
              have hsl := hSl.out 0 hk0
              obtain ⟨z, hz⟩ : ∃ z, Hid (sl[0] = z) := ⟨_, Lib.hid rfl⟩
              rw [hz.out] at c8 hedge hsl
              obtain ⟨b2, rfl⟩ : ∃ q : Nat, z = q := ⟨z.toNat, by omega⟩
              rw [Int.toNat_natCast] at hsl
              have c8' : w9.cell? ⟨g8, o8, none⟩ = some (.int .i64 (b2 : Nat)) := c8
              have hb2 := (succ_lt hvd.out.1.2.2 hsl).1
              obtain ⟨f2, t2, hf2, _, _, _⟩ := bk_nat hvd.out.1.1.2 hb2
              have hkn3 := Lib.hid (hLv.out m' hkn.out b2 f2 (fun _ => hf2))
              have hwy3 := Lib.hid (Way.step hwy.out hsl)
              have hf3 : Hid (∀ hb : b2 < c.bk.length, c.bk[b2].frm = f2) := Lib.hid (fun _ => hf2)
              clear hedge hsl hf2 hr8 c8
              go_wp2_with fail
              try simp only [← eA8]
              try simp only [← eC]
              clear eA8 c8'
              go_roundw
              case rel => exact ⟨n + 1, b2, f2, m', b :: l, by omega, by go_num, rfl, hb2, hf3, hkn3, hwy3, hK9⟩
              case measure => simp only [iOf]; omega
          · have hnlc : ¬ ((n : Int) < ch.length) := by omega
            have hk0 : 0 < sl.length := by omega
            obtain ⟨g8, o8, eA8, c8⟩ := hr8 0 hk0
            have hedge := hEdge.out 0 hk0
            have hsl := hSl.out 0 hk0
            obtain ⟨z, hz⟩ : ∃ z, Hid (sl[0] = z) := ⟨_, Lib.hid rfl⟩
            rw [hz.out] at c8 hedge hsl
            obtain ⟨b2, rfl⟩ : ∃ q : Nat, z = q := ⟨z.toNat, by omega⟩
            rw [Int.toNat_natCast] at hsl
            have c8' : w9.cell? ⟨g8, o8, none⟩ = some (.int .i64 (b2 : Nat)) := c8
            have hb2 := (succ_lt hvd.out.1.2.2 hsl).1
            obtain ⟨f2, t2, hf2, _, _, _⟩ := bk_nat hvd.out.1.1.2 hb2
            have hkn3 := Lib.hid (hLv.out m' hkn.out b2 f2 (fun _ => hf2))
            have hwy3 := Lib.hid (Way.step hwy.out hsl)
            have hf3 : Hid (∀ hb : b2 < c.bk.length, c.bk[b2].frm = f2) := Lib.hid (fun _ => hf2)
            clear hedge hsl hf2 hr8 c8
            go_wp2_with fail
            try simp only [← eA8]
            clear eA8 c8'
            go_roundw
            case rel => exact ⟨n + 1, b2, f2, m', b :: l, by omega, by go_num, rfl, hb2, hf3, hkn3, hwy3, hK9⟩
            case measure => simp only [iOf]; omega
    · have hne : n = 200 := by omega
      subst hne
      go_wp2
      go_ret
      exact ⟨rfl, hK.bw⟩
end Go.Proofs.YtnbgadndkepomaaGreatDoor
