/- Joined texts: SaBlk, SaPar. -/
import Derived.Test.YtnbgadndkepomaaGreatDoorSaLst
import Derived.Test.YtnbgadndkepomaaGreatDoorSQA

/- ssa: the blocks share out the instructions. -/
namespace Go.Proofs.YtnbgadndkepomaaGreatDoor
open Go.RowKit

/-- The cells of a block. -/
abbrev bkCells (t : CBk) (TA EA : Option Addr) (tc ec : Nat) : Array Value := #[.int .i64 t.frm, .int .i64 t.til, .int .i64 t.en.kind, .int .i64 t.en.a, .int .i64 t.en.to, .int .i64 t.en.els, .slice TA t.en.ta.length tc, .slice EA t.en.ea.length ec, .int .i64 t.en.n, .int .i64 t.en.at_]
theorem PtAt.blk {w : World} {p : Nat} {c : Cd} {x : Sl} (h : PtAt w p c x) (k : Nat) (hk : k < c.bk.length) : ∃ g o TA EA tc ec, w.cell? ⟨p, 3, none⟩ = some (.slice (some ⟨g, o, none⟩) c.bk.length x.kc) ∧ BkAt w g (o + k * 10) c.bk[k] TA EA tc ec ∧ EndL w c.bk[k].en TA EA tc ec := by
  obtain ⟨g, o, TA, EA, tc, ec, e, h2, h3⟩ := h.at_.k k hk
  exact ⟨g, o, TA, EA, tc, ec, by rw [← e]; exact h.s3, h2, h3⟩
set_option maxRecDepth 100000 in
set_option maxHeartbeats 1600000 in
theorem blocksFit_any {W : World} {p : Nat} {c : Cd} {x : Sl} (h : PtAt W p c x) (ok : c.ok) :
    Calls Tryz.prog 44 #[.pointer (some ⟨p, 0, none⟩)] W fun e w' => e = .returned (.bool (B (BlocksP c))) ∧ Below W.heap.size W w' := by
  obtain ⟨R, hR⟩ : ∃ R, Hid (B (BlocksP c) = R) := ⟨_, Lib.hid rfl⟩
  rw [hR.out]
  have l2 := ok.lin
  have l3 := ok.lbk
  have s3 := h.s3
  replace ok := Lib.hid ok
  go_enter Tryz.func44, Tryz.ntmps44
  go_wp2_with fail
  go_loopw [3, 12] (fun f v wr => ∃ (i : Nat) (z : Int), i ≤ c.bk.length ∧ v = .int .i64 i ∧ f = .int .i64 z ∧ Hid (R = B (ChainP z (c.bk.drop i) c.ins.length)) ∧ Below W.heap.size W wr) (fun _ v _ => c.bk.length - iOf v)
  case atStart => exact ⟨0, 0, Nat.zero_le _, rfl, rfl, Lib.hid hR.out.symm, Below.refl _ _⟩
  case round =>
    rename_i wr
    obtain ⟨i, z, hi, rfl, rfl, hI, hb⟩ := hrel
    have hp := h.later hb
    clear s3
    by_cases hlt : i < c.bk.length
    · obtain ⟨g, o, TA, EA, tc, ec, eK, ⟨c0, c1, c2, c3, c4, c5, c6, c7, c8, c9⟩, hl⟩ := hp.at_.k i hlt
      have hdr : c.bk.drop i = c.bk[i] :: c.bk.drop (i + 1) := List.drop_eq_getElem_cons hlt
      obtain ⟨t, ht⟩ : ∃ t, Hid (c.bk[i] = t) := ⟨_, Lib.hid rfl⟩
      rw [ht.out] at hdr
      simp only [ht.out] at c0 c1 c2 c3 c4 c5 c6 c7 c8 c9
      have hI2 : Hid (R = B (t.frm = z ∧ z ≤ t.til ∧ ChainP t.til (c.bk.drop (i + 1)) c.ins.length)) := Lib.hid (by rw [hI.out, hdr]; rfl)
      have d3 : wr.cell? ⟨g, o + i * 10 + 3, none⟩ = some (.int .i64 t.en.a) := c3
      have d4 : wr.cell? ⟨g, o + i * 10 + 4, none⟩ = some (.int .i64 t.en.to) := c4
      have d5 : wr.cell? ⟨g, o + i * 10 + 5, none⟩ = some (.int .i64 t.en.els) := c5
      have d6 : wr.cell? ⟨g, o + i * 10 + 6, none⟩ = some (.slice TA t.en.ta.length tc) := c6
      have d7 : wr.cell? ⟨g, o + i * 10 + 7, none⟩ = some (.slice EA t.en.ea.length ec) := c7
      have d8 : wr.cell? ⟨g, o + i * 10 + 8, none⟩ = some (.int .i64 t.en.n) := c8
      have d9 : wr.cell? ⟨g, o + i * 10 + 9, none⟩ = some (.int .i64 t.en.at_) := c9
      have N0 := Box.new wr 43 (bkCells t TA EA tc ec)
      have n0 := N0.cell 0
      have n1 := N0.cell 1
      have bN : Below W.heap.size W (wr.alloc (.cells (bkCells t TA EA tc ec) 43)) := hb.alloc hb.size _
      have hlc : (i : Int) < c.bk.length := by omega
      have hw2 : IntKind.i64.wrap ((i : Int) + 1) = ((i + 1 : Nat) : Int) := by rw [IntWalk.i64_in _ (by omega)]; omega
      clear hI hdr ht c3 c4 c5 c6 c7 c8 c9 hl hp
      by_cases q1 : t.frm = z
      rotate_left 1
      · have b1 : (t.frm != z) = true := by simpa using q1
        have hQ : Hid (R = false) := Lib.hid (by rw [hI2.out]; exact B_not (fun h => q1 h.1))
        clear hI2 q1 hR
        go_wp2
        go_ret
        exact ⟨by rw [hQ.out]; rfl, bN⟩
      have b1 : (t.frm != z) = false := by simpa using q1
      by_cases q2 : z ≤ t.til
      rotate_left 1
      · have b2 : decide (t.til < z) = true := by simp; omega
        have hQ : Hid (R = false) := Lib.hid (by rw [hI2.out]; exact B_not (fun h => q2 h.2.1))
        clear hI2 q1 q2 hR
        go_wp2
        go_ret
        exact ⟨by rw [hQ.out]; rfl, bN⟩
      have b2 : decide (t.til < z) = false := by simp; omega
      have hQ : Hid (R = B (ChainP t.til (c.bk.drop (i + 1)) c.ins.length)) := Lib.hid (by rw [hI2.out]; exact B_congr ⟨fun h => h.2.2, fun h => ⟨q1, q2, h⟩⟩)
      clear hI2 q1 q2 hR
      go_wp2_with fail
      go_roundw
      case rel => exact ⟨i + 1, t.til, hlt, by go_num, rfl, hQ, bN⟩
      case measure => simp only [iOf]; omega
    · have hie : i = c.bk.length := by omega
      subst hie
      have s2 := hp.s2
      have hQ : Hid (R = (z == (c.ins.length : Int))) := Lib.hid (by rw [hI.out, List.drop_length]; exact (B_eq (by rw [beq_iff_eq]; rfl)).symm)
      clear hI hR
      go_wp2
      go_ret
      exact ⟨by rw [hQ.out]; rfl, hb⟩
end Go.Proofs.YtnbgadndkepomaaGreatDoor

/- ssa: the parameters and the homes. -/
namespace Go.Proofs.YtnbgadndkepomaaGreatDoor
open Go.RowKit

/-- The code's own block, known whole; what was given lies in an older world. -/
structure Cod (W0 w : World) (p : Nat) (c : Cd) (x : Sl) (cs : Array Value) : Prop where
  base : CdAt W0 c x
  below : Below W0.heap.size W0 w
  hp : W0.heap.size ≤ p
  box : Box w p 72 cs
  sz : cs.size = 120
  c0 : cs[0]? = some (.slice x.S c.st.length x.sc)
  c1 : cs[1]? = some (.slice x.N c.nm.length x.nc)
  c2 : cs[2]? = some (.slice x.I c.ins.length x.ic)
  c3 : cs[3]? = some (.slice x.K c.bk.length x.kc)
  rows : ∀ i, i < 111 → cs[4 + i]? = rowsA[i]?
section
variable {W0 w w' : World} {p : Nat} {c : Cd} {x : Sl} {cs : Array Value}
theorem Cod.at_ (h : Cod W0 w p c x cs) : CdAt w c x := h.base.later h.below
theorem Cod.pt (h : Cod W0 w p c x cs) : PtAt w p c x := ⟨by rw [h.box.cell, h.c0], by rw [h.box.cell, h.c1], by rw [h.box.cell, h.c2], by rw [h.box.cell, h.c3], h.at_⟩
theorem Cod.later (h : Cod W0 w p c x cs) (hb : Below w.heap.size w w') : Cod W0 w' p c x cs :=
  { h with below := h.below.trans (hb.mono h.below.size), box := h.box.below hb }
theorem Cod.set (h : Cod W0 w p c x cs) (i : Nat) (hi : 115 ≤ i) (v : Value) : Cod W0 (w.setCell ⟨p, i, none⟩ v) p c x (cs.setIfInBounds i v) :=
  ⟨h.base, h.below.setCell h.hp v, h.hp, h.box.set i v, by simp [h.sz], by rw [Array.getElem?_setIfInBounds_ne (by omega)]; exact h.c0, by rw [Array.getElem?_setIfInBounds_ne (by omega)]; exact h.c1,
    by rw [Array.getElem?_setIfInBounds_ne (by omega)]; exact h.c2, by rw [Array.getElem?_setIfInBounds_ne (by omega)]; exact h.c3, fun j hj => by rw [Array.getElem?_setIfInBounds_ne (by omega)]; exact h.rows j hj⟩
theorem Cod.far (h : Cod W0 w p c x cs) {b i : Nat} (hb : W0.heap.size ≤ b) (hn : p ≠ b) (v : Value) : Cod W0 (w.setCell ⟨b, i, none⟩ v) p c x cs :=
  { h with below := h.below.setCell hb v, box := h.box.far hn v }
theorem Cod.cell (h : Cod W0 w p c x cs) (i : Nat) (hi : i < 120) : ∃ v, cs[i]? = some v ∧ w.cell? ⟨p, i, none⟩ = some v := by
  have hs : i < cs.size := by rw [h.sz]; exact hi
  exact ⟨cs[i], by simp [hs], by rw [h.box.cell]; simp [hs]⟩
end
/-- The cells of numbers. -/
abbrev ints (l : List Int) : Array Value := (l.map fun v => Value.int .i64 v).toArray
theorem ints_get (l : List Int) (i : Nat) (h : i < l.length) : (ints l)[i]? = some (.int .i64 l[i]) := by simp [ints, h]

theorem ints_set (l : List Int) (i : Nat) (v : Int) : (ints l).setIfInBounds i (.int .i64 v) = ints (l.set i v) := by
  apply Array.toList_inj.1
  simp [List.map_set]
theorem mk_ints (n : Nat) (hn : n ≤ 100000) (w : World) : (Instr.makeSlice 30 (.int .i64 n) (.int .i64 n)).run Tryz.prog w = .ok (.slice (some ⟨w.heap.size, 0, none⟩) n n) (w.alloc (.cells (ints (List.replicate n 0)) 3)) := by
  have h := run_makeSlice (P := Tryz.prog) (w := w) 30 3 Tryz.t3 (.int .i64 0) Tryz.underlying30 (by kernel_rfl) (by kernel_rfl) .i64 .i64 (n : Int) (n : Int) (by omega) (Int.le_refl _) (by show (n : Int).toNat * 1 ≤ _; omega) (by show ((8 : Nat) : Int) * (n : Int) ≤ _; omega) (by omega)
  rw [h]
  have e : madeCells (Value.cells (.int .i64 0)) ((n : Int).toNat * Tryz.t3.size) = ints (List.replicate n 0) := by
    show madeCells #[Value.int .i64 0] ((n : Int).toNat * 1) = _
    rw [Int.toNat_natCast, Nat.mul_one]
    apply Array.ext
    · simp [madeCells]
    · intro i h1 h2
      simp [madeCells, Nat.mod_one]
  rw [e]
  simp
def FpPost (W0 W : World) (p : Nat) (c : Cd) (x : Sl) (cs : Array Value) (e : Ending) (w' : World) : Prop :=
  e = .returned (.tuple #[]) ∧ ∃ (b1 b2 : Nat) (P H : List Int), W.heap.size ≤ b1 ∧ W.heap.size ≤ b2 ∧ b1 ≠ b2 ∧ P.length = c.bk.length ∧ H.length = c.ins.length ∧
    (∀ (n : Nat) (h : n < c.bk.length) (h2 : n < P.length), P[n] = (parN c c.bk[n] : Int)) ∧ (∀ (n : Nat) (h2 : n < H.length), H[n] = (homeN c n : Int)) ∧
    Cod W0 w' p c x ((cs.setIfInBounds 115 (.slice (some ⟨b1, 0, none⟩) c.bk.length c.bk.length)).setIfInBounds 116 (.slice (some ⟨b2, 0, none⟩) c.ins.length c.ins.length)) ∧
    Box w' b1 3 (ints P) ∧ Box w' b2 3 (ints H)
set_option maxRecDepth 100000 in
set_option maxHeartbeats 1600000 in
theorem findParameters_any {W0 W : World} {p : Nat} {c : Cd} {x : Sl} {cs : Array Value} (h : Cod W0 W p c x cs) (_ok : c.ok) (hl : ListsP c) (hb : BlocksP c) :
    Calls Tryz.prog 45 #[.pointer (some ⟨p, 0, none⟩)] W (FpPost W0 W p c x cs) := by
  have l2 := hl.2.2.2.1
  have l3 := hl.2.2.1.2
  have l31 := hl.2.2.1.1
  replace hl := Lib.hid hl
  replace hb := Lib.hid hb
  obtain ⟨v5, e5, z5⟩ := h.cell 115 (by omega)
  obtain ⟨v6, e6, z6⟩ := h.cell 116 (by omega)
  have f5 := h.box.free 115
  have f6 := h.box.free 116
  have s3 := h.pt.s3
  have s2 := h.pt.s2
  go_enter Tryz.func45, Tryz.ntmps45
  have mk1 := fun w => mk_ints c.bk.length (by omega) w
  have mk2 := fun w => mk_ints c.ins.length (by omega) w
  have bA : Below W.heap.size W (W.alloc (.cells (ints (List.replicate c.bk.length 0)) 3)) := (Below.refl _ _).alloc (Nat.le_refl _) _
  have hA := h.later bA
  have NP := Box.new W 3 (ints (List.replicate c.bk.length 0))
  have y5 := cell_later bA z5
  have g5 := hA.box.free 115
  go_upto_region 1 with fail
  have hpW : p < W.heap.size := h.box.lt
  have hW0 := h.below.size
  have h1 := hA.set 115 (by omega) (.slice (some ⟨W.heap.size, 0, none⟩) c.bk.length c.bk.length)
  replace NP := NP.far (b' := p) (i := 115) (by omega) (.slice (some ⟨W.heap.size, 0, none⟩) c.bk.length c.bk.length)
  have hsz1 : ((W.alloc (.cells (ints (List.replicate c.bk.length 0)) 3)).setCell ⟨p, 115, none⟩ (.slice (some ⟨W.heap.size, 0, none⟩) c.bk.length c.bk.length)).heap.size = W.heap.size + 1 := by simp [World.setCell]
  obtain ⟨w1, hw1⟩ : ∃ Y, (W.alloc (.cells (ints (List.replicate c.bk.length 0)) 3)).setCell ⟨p, 115, none⟩ (.slice (some ⟨W.heap.size, 0, none⟩) c.bk.length c.bk.length) = Y := ⟨_, rfl⟩
  rw [hw1] at h1 NP hsz1
  simp only [hw1]
  replace hsz1 := Lib.hid hsz1
  clear hw1 bA hA y5 g5 z5 z6 f5 f6 s2 s3
  have bA : Below w1.heap.size w1 (w1.alloc (.cells (ints (List.replicate c.ins.length 0)) 3)) := (Below.refl _ _).alloc (Nat.le_refl _) _
  have hA := h1.later bA
  have NH := Box.new w1 3 (ints (List.replicate c.ins.length 0))
  obtain ⟨v6', e6', z6⟩ := h1.cell 116 (by omega)
  have y6 := cell_later bA z6
  have g6 := hA.box.free 116
  have s2 := h1.pt.s2
  go_upto_region 2 with fail
  have hs1' := hsz1.out
  have h2 := hA.set 116 (by omega) (.slice (some ⟨w1.heap.size, 0, none⟩) c.ins.length c.ins.length)
  replace NH := NH.far (b' := p) (i := 116) (by omega) (.slice (some ⟨w1.heap.size, 0, none⟩) c.ins.length c.ins.length)
  replace NP := (NP.below bA).far (b' := p) (i := 116) (by omega) (.slice (some ⟨w1.heap.size, 0, none⟩) c.ins.length c.ins.length)
  clear hs1'
  obtain ⟨w2, hw2⟩ : ∃ Y, (w1.alloc (.cells (ints (List.replicate c.ins.length 0)) 3)).setCell ⟨p, 116, none⟩ (.slice (some ⟨w1.heap.size, 0, none⟩) c.ins.length c.ins.length) = Y := ⟨_, rfl⟩
  rw [hw2] at h2 NP NH
  simp only [hw2]
  clear hw2 bA hA y6 g6 z6 s2 mk1 mk2 e5 e6 e6'
  obtain ⟨b2, hb2⟩ : ∃ b, Hid (w1.heap.size = b) := ⟨_, Lib.hid rfl⟩
  have hb12 : Hid (b2 = W.heap.size + 1) := Lib.hid (hb2.out.symm.trans hsz1.out)
  rw [hb2.out] at h2 NH
  have hcsz := Lib.hid h.sz
  clear hsz1 h1 h
  obtain ⟨b1, hb1⟩ : ∃ b, Hid (W.heap.size = b) := ⟨_, Lib.hid rfl⟩
  rw [hb1.out] at h2 NP hb12 hpW hW0
  obtain ⟨cs2, hcs⟩ : ∃ y, Hid ((cs.setIfInBounds 115 (.slice (some ⟨b1, 0, none⟩) c.bk.length c.bk.length)).setIfInBounds 116 (.slice (some ⟨b2, 0, none⟩) c.ins.length c.ins.length) = y) := ⟨_, Lib.hid rfl⟩
  rw [hcs.out] at h2
  simp only [hb1.out, hb2.out]
  have hb12n : b2 = b1 + 1 := hb12.out
  have pn1 : p ≠ b1 := by omega
  have pn2 : p ≠ b2 := by omega
  have n12 : b1 ≠ b2 := by omega
  have b1W : W0.heap.size ≤ b1 := by omega
  have b2W : W0.heap.size ≤ b2 := by omega
  have hs0 := ParO.start hb.out l31
  have e115 : Hid (cs2[115]? = some (.slice (some ⟨b1, 0, none⟩) c.bk.length c.bk.length)) := Lib.hid (by
    have := hcsz.out
    rw [← hcs.out]; simp [this])
  have e116 : Hid (cs2[116]? = some (.slice (some ⟨b2, 0, none⟩) c.ins.length c.ins.length)) := Lib.hid (by
    have := hcsz.out
    rw [← hcs.out]; simp [this])
  have s3 := h2.pt.s3
  clear hb12n
  go_wp2_with fail
  clear s3
  go_loopw [31] (fun v wr => ∃ (i : Nat) (P H : List Int), i ≤ c.bk.length ∧ v = .int .i64 i ∧ Hid (ParO c i P H) ∧ Cod W0 wr p c x cs2 ∧ Box wr b1 3 (ints P) ∧ Box wr b2 3 (ints H)) (fun v _ => c.bk.length - iOf v)
  case atStart => exact ⟨0, _, _, Nat.zero_le _, rfl, Lib.hid hs0, h2, NP, NH⟩
  case round =>
    obtain ⟨i, P, H, hi, rfl, hI, hC, BP, BH⟩ := hrel
    by_cases hlt : i < c.bk.length
    · obtain ⟨g, o, TA, EA, tc, ec, eK, ⟨c0, c1, c2, c3, c4, c5, c6, c7, c8, c9⟩, hle⟩ := hC.at_.k i hlt
      obtain ⟨f, t, hf, ht, hft, htn⟩ := bk_nat hb.out hlt
      have hE := hI.out.enter hlt hf
      obtain ⟨y, hy⟩ : ∃ t, Hid (c.bk[i] = t) := ⟨_, Lib.hid rfl⟩
      simp only [hy.out] at c0 c1 c2 c3 c4 c5 c6 c7 c8 c9
      rw [hy.out] at hf ht
      have d3 : wr.cell? ⟨g, o + i * 10 + 3, none⟩ = some (.int .i64 y.en.a) := c3
      have d4 : wr.cell? ⟨g, o + i * 10 + 4, none⟩ = some (.int .i64 y.en.to) := c4
      have d5 : wr.cell? ⟨g, o + i * 10 + 5, none⟩ = some (.int .i64 y.en.els) := c5
      have d6 : wr.cell? ⟨g, o + i * 10 + 6, none⟩ = some (.slice TA y.en.ta.length tc) := c6
      have d7 : wr.cell? ⟨g, o + i * 10 + 7, none⟩ = some (.slice EA y.en.ea.length ec) := c7
      have d8 : wr.cell? ⟨g, o + i * 10 + 8, none⟩ = some (.int .i64 y.en.n) := c8
      have d9 : wr.cell? ⟨g, o + i * 10 + 9, none⟩ = some (.int .i64 y.en.at_) := c9
      rw [hf] at c0
      rw [ht] at c1
      replace hf := Lib.hid hf
      replace ht := Lib.hid ht
      have N0 := Box.new wr 43 #[.int .i64 (f : Nat), .int .i64 (t : Nat), .int .i64 y.en.kind, .int .i64 y.en.a, .int .i64 y.en.to, .int .i64 y.en.els, .slice TA y.en.ta.length tc, .slice EA y.en.ea.length ec, .int .i64 y.en.n, .int .i64 y.en.at_]
      have bN : Below wr.heap.size wr (wr.alloc (.cells #[.int .i64 (f : Nat), .int .i64 (t : Nat), .int .i64 y.en.kind, .int .i64 y.en.a, .int .i64 y.en.to, .int .i64 y.en.els, .slice TA y.en.ta.length tc, .slice EA y.en.ea.length ec, .int .i64 y.en.n, .int .i64 y.en.at_] 43)) := (Below.refl _ _).alloc (Nat.le_refl _) _
      have n0 := N0.cell 0
      have hlc : (i : Int) < c.bk.length := by omega
      have hC2 := hC.later bN
      have BP2 := BP.below bN
      have BH2 := BH.below bN
      have q1 := BP.lt
      have q2 := BH.lt
      have q3 := hC.box.lt
      go_upto_region 5 with fail
      obtain ⟨w3, hw3⟩ : ∃ Y, wr.alloc (.cells #[.int .i64 (f : Nat), .int .i64 (t : Nat), .int .i64 y.en.kind, .int .i64 y.en.a, .int .i64 y.en.to, .int .i64 y.en.els, .slice TA y.en.ta.length tc, .slice EA y.en.ea.length ec, .int .i64 y.en.n, .int .i64 y.en.at_] 43) = Y := ⟨_, rfl⟩
      rw [hw3] at N0 n0 hC2 BP2 BH2
      simp only [hw3]
      clear hw3 bN c0 c1 c2 c3 c4 c5 c6 c7 c8 c9 d3 d4 d5 d6 d7 d8 d9 hle eK
      obtain ⟨bc, hbc⟩ : ∃ b, Hid (wr.heap.size = b) := ⟨_, Lib.hid rfl⟩
      rw [hbc.out] at N0 n0 q1 q2 q3
      simp only [hbc.out]
      replace hE := Lib.hid hE
      have hwi : IntKind.i64.wrap ((i : Int) + 1) = ((i + 1 : Nat) : Int) := by rw [IntWalk.i64_in _ (by omega)]; omega
      clear hI hC BP BH
      go_wp2_with fail
      clear n0
      go_loopw [4] (fun v wq => ∃ (j : Nat) (P H : List Int), f ≤ j ∧ j ≤ t ∧ v = .int .i64 j ∧ Hid (ParR c i f j P H) ∧ Cod W0 wq p c x cs2 ∧ Box wq b1 3 (ints P) ∧ Box wq b2 3 (ints H) ∧ Box wq bc 43 #[.int .i64 (f : Nat), .int .i64 (t : Nat), .int .i64 y.en.kind, .int .i64 y.en.a, .int .i64 y.en.to, .int .i64 y.en.els, .slice TA y.en.ta.length tc, .slice EA y.en.ea.length ec, .int .i64 y.en.n, .int .i64 y.en.at_]) (fun v _ => t - iOf v)
      case atStart => exact ⟨f, _, _, Nat.le_refl _, hft, rfl, hE, hC2, BP2, BH2, N0⟩
      case round =>
        clear hC2 BP2 BH2 N0 hE
        obtain ⟨j, P2, H2, hfj, hjt, rfl, hI, hC, BP, BH, BC⟩ := hrel
        have k1 := BC.cell 1
        have hlh := hI.out.lh
        have hlp := hI.out.lp
        by_cases hjl : j < t
        · have hji : j < c.ins.length := by omega
          have e6 : wr.cell? ⟨p, 116, none⟩ = some (.slice (some ⟨b2, 0, none⟩) c.ins.length c.ins.length) := by rw [hC.box.cell]; exact e116.out
          have hj2 : j < H2.length := by omega
          have m2 : wr.cell? ⟨b2, j, none⟩ = some (.int .i64 H2[j]) := by rw [BH.cell]; exact ints_get _ _ hj2
          have fz2 := BH.free j
          have hjlc : (j : Int) < c.ins.length := by omega
          have hjt2 : (j : Int) < (t : Nat) := by omega
          have hstp := Lib.hid (hI.out.step hb.out hlt (by rw [hy.out]; exact hf.out) hfj hji (by rw [hy.out, ht.out]; omega))
          have hbd := Lib.hid (fun h2 => hI.out.bound (i := i) h2)
          have hC4 := hC.far b2W pn2 (.int .i64 i) (i := j)
          have BP4 := BP.far (b' := b2) (i := j) n12 (.int .i64 i)
          have BH4 := BH.set j (.int .i64 i)
          rw [ints_set] at BH4
          have BC4 := BC.far (b' := b2) (i := j) (by omega) (.int .i64 i)
          go_upto_region 9 with fail
          obtain ⟨w4, hw4⟩ : ∃ Y, wr.setCell ⟨b2, j, none⟩ (.int .i64 i) = Y := ⟨_, rfl⟩
          rw [hw4] at hC4 BP4 BH4 BC4
          simp only [hw4]
          clear hw4 hC BP BH BC e6 m2 fz2 k1
          obtain ⟨g, o, eI, hin⟩ := hC4.at_.i j hji
          have s2 := hC4.pt.s2
          have o0 := hin.1
          obtain ⟨z, hz⟩ : ∃ z, Hid (c.ins[j].op = z) := ⟨_, Lib.hid rfl⟩
          rw [hz.out] at o0
          have hwj : IntKind.i64.wrap ((j : Int) + 1) = ((j + 1 : Nat) : Int) := by rw [IntWalk.i64_in _ (by omega)]; omega
          clear hin hI
          by_cases h30 : z = 30
          · have b30 : (z == 30) = true := by simpa using h30
            have e5 : w4.cell? ⟨p, 115, none⟩ = some (.slice (some ⟨b1, 0, none⟩) c.bk.length c.bk.length) := by rw [hC4.box.cell]; exact e115.out
            have hi2 : i < P2.length := by omega
            have m1 : w4.cell? ⟨b1, i, none⟩ = some (.int .i64 P2[i]) := by rw [BP4.cell]; exact ints_get _ _ hi2
            have fz1 := BP4.free i
            obtain ⟨bd1, bd2⟩ := hbd.out hi2
            have hR := Lib.hid (hstp.out.2 (by rw [hz.out]; exact h30) hi2)
            obtain ⟨q, hq⟩ : ∃ q, Hid (P2[i] = q) := ⟨_, Lib.hid rfl⟩
            rw [hq.out] at m1 bd1 bd2 hR
            have hwr : IntKind.i64.wrap (q + 1) = q + 1 := IntWalk.i64_in _ (by omega)
            have hC5 := hC4.far b1W pn1 (.int .i64 (q + 1)) (i := i)
            have BH5 := BH4.far (b' := b1) (i := i) (by omega) (.int .i64 (q + 1))
            have BP5 := BP4.set i (.int .i64 (q + 1))
            rw [ints_set] at BP5
            have BC5 := BC4.far (b' := b1) (i := i) (by omega) (.int .i64 (q + 1))
            clear h30 hstp hbd
            go_wp2_with fail
            go_roundw
            case rel => exact ⟨j + 1, _, _, by omega, by omega, by go_num, hR, hC5, BP5, BH5, BC5⟩
            case measure => simp only [iOf]; omega
          · have b30 : (z == 30) = false := by simpa using h30
            have hR := Lib.hid (hstp.out.1 (by rw [hz.out]; exact h30))
            clear h30 hstp hbd
            go_wp2_with fail
            go_roundw
            case rel => exact ⟨j + 1, _, _, by omega, by omega, by go_num, hR, hC4, BP4, BH4, BC4⟩
            case measure => simp only [iOf]; omega
        · have hje : j = t := by omega
          subst hje
          have hO := Lib.hid (hI.out.leave hb.out hlt (by rw [hy.out]; exact hf.out) (by rw [hy.out]; exact ht.out))
          clear hI
          go_wp2_with fail
          go_roundw
          case rel => exact ⟨i + 1, _, _, hlt, by go_num, hO, hC, BP, BH⟩
          case measure => simp only [iOf]; omega
    · have hie : i = c.bk.length := by omega
      subst hie
      obtain ⟨dn1, dn2⟩ := hI.out.done
      have hlh := hI.out.lh
      have hlp := hI.out.lp
      have dn1 := Lib.hid dn1
      have dn2 := Lib.hid dn2
      clear hI
      go_wp2
      refine ⟨rfl, _, results_none rfl _ _ _, ?_⟩
      refine ⟨rfl, b1, b2, P, H, (by have := hb1.out; omega), (by have := hb1.out; have := hb12.out; omega), n12, hlp, hlh, dn1.out, dn2.out, ?_, BP, BH⟩
      rw [hcs.out]
      exact hC
end Go.Proofs.YtnbgadndkepomaaGreatDoor
