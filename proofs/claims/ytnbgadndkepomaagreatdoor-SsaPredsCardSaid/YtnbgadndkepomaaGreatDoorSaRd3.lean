/- The reference of layer 6: defined. -/
import Derived.Test.YtnbgadndkepomaaGreatDoorSQU
namespace Go.Proofs.YtnbgadndkepomaaGreatDoor
open Go.RowKit

structure DfW (W wr : World) (c : Cd) (x : Sl) (bu bh bn : Nat) (H : List Int) (V : Nat → Value) (R : Nat → List Nat) : Prop where
  bw : Below W.heap.size W wr
  bX : Box wr bu 27 #[.slice x.S c.st.length x.sc, .slice x.N c.nm.length x.nc, .slice x.I c.ins.length x.ic, .slice x.K c.bk.length x.kc]
  bH : Box wr bh 3 (ints H)
  tab : PTab wr bn bn c.bk.length V (fun t => nats (R t))
theorem DfW.later {W wr w : World} {c : Cd} {x : Sl} {bu bh bn : Nat} {H : List Int} {V : Nat → Value} {R : Nat → List Nat} (h : DfW W wr c x bu bh bn H V R) (hb : Below wr.heap.size wr w) : DfW W w c x bu bh bn H V R :=
  ⟨h.bw.trans (hb.mono h.bw.size), h.bX.below hb, h.bH.below hb, h.tab.later hb⟩
/-- A row of numbers in a block that is none of the table's. -/
def RowB (w : World) (c : Cd) (V : Nat → Value) (A : Option Addr) (l : List Int) : Prop :=
  0 < l.length → ∃ b cur, A = some ⟨b, 0, none⟩ ∧ Box w b 3 cur ∧ (∀ (k : Nat) (hk : k < l.length), cur[k]? = some (.int .i64 l[k])) ∧ ∀ t, t < c.bk.length → (V t).ownBlock ≠ some b
theorem RowB.later {w w' : World} {c : Cd} {V : Nat → Value} {A : Option Addr} {l : List Int} (h : RowB w c V A l) (hb : Below w.heap.size w w') : RowB w' c V A l := fun h0 => by
  obtain ⟨b, cur, h1, h2, h3⟩ := h h0
  exact ⟨b, cur, h1, h2.below hb, h3⟩
/-- A bound on how long a row of the table is. -/
def QB (q b d k : Nat) : Prop := q ≤ 100000000 * b + 10000 * d + k
theorem QB.zero : QB 0 0 0 0 := by unfold QB; omega
theorem QB.step {q b d k : Nat} (h : QB q b d k) : QB (q + 1) b d (k + 1) := by unfold QB at *; omega
theorem QB.keep {q b d k : Nat} (h : QB q b d k) : QB q b d (k + 1) := by unfold QB at *; omega
theorem QB.row {q b d k : Nat} (h : QB q b d k) (hk : k ≤ 10000) : QB q b (d + 1) 0 := by unfold QB at *; omega
set_option maxRecDepth 100000 in
theorem QB.block {q b d : Nat} (h : QB q b d 0) (hk : d ≤ 9999) : QB q (b + 1) 0 0 := by unfold QB at *; omega
theorem QB.le {q b d k : Nat} (h : QB q b d k) (hb : b ≤ 400) (hd : d ≤ 9999) (hk : k ≤ 10000) : q ≤ 40200000000 := by unfold QB at *; omega
theorem usesL_le {c : Cd} (h : ∀ b ∈ c.bk, b.en.ta.length + b.en.ea.length ≤ 9000) (b i : Nat) : (usesL c b i).length ≤ 10000 := by
  unfold usesL
  cases hB : c.bk[b]? with
  | none => simp
  | some B =>
    dsimp only
    by_cases e : (i : Int) < B.til
    · rw [if_pos e]
      cases hi : c.ins[i]? with
      | none => simp
      | some y =>
        simp only [Option.map_some, Option.getD_some]
        unfold argsOf valsOf
        rw [List.length_take]
        simp
        omega
    · rw [if_neg e]
      have := h B (List.mem_of_getElem? hB)
      unfold endsR
      rw [List.length_append, List.length_append]
      split <;> simp <;> omega
theorem PlaceU.lt {c : Cd} {b i : Nat} (h : PlaceU c b i) : b < c.bk.length := by
  obtain ⟨B, hB, _⟩ := h
  exact (List.getElem?_eq_some_iff.1 hB).1
theorem DfS.mem_lt {c : Cd} {b i k : Nat} {R : Nat → List Nat} {q : Nat} (h : DfS c b i k R q) {u y : Nat} (hy : y ∈ R u) : y < c.bk.length := by
  obtain ⟨i', v, h1, _⟩ := (h.mem u y).1 hy
  exact h1.1.lt
theorem ListB.row {W w' : World} {l : List Int} {e : Ending} {c : Cd} {V : Nat → Value} (h : ListB W l e w') (hV : ∀ t, t < c.bk.length → ∀ g, (V t).ownBlock = some g → g < W.heap.size) :
    ∃ A q, e = .returned (.slice A l.length q) ∧ l.length ≤ q ∧ q ≤ maxLen ∧ RowB w' c V A l ∧ Below W.heap.size W w' := by
  obtain ⟨A, q, h1, h2, h3, h4, h5⟩ := h
  refine ⟨A, q, h1, h2, h3, fun h0 => ?_, h5⟩
  obtain ⟨b, e1, e2, e3⟩ := h4 h0
  exact ⟨b, _, e1, e3, fun k hk => ints_get l k hk, fun t ht e => by have := hV t ht b e; omega⟩
theorem EndsPost.row {W w' : World} {y : CEn} {e : Ending} {c : Cd} {V : Nat → Value} (h : EndsPost W y e w') (hV : ∀ t, t < c.bk.length → ∀ g, (V t).ownBlock = some g → g < W.heap.size) :
    ∃ A q, e = .returned (.slice A (endsR y).length q) ∧ (endsR y).length ≤ q ∧ q ≤ maxLen ∧ RowB w' c V A (endsR y) ∧ Below W.heap.size W w' := by
  obtain ⟨v, h1, h2, h3⟩ := h
  have hlen := h2.1
  rcases h2.2 with ⟨rfl, h4⟩ | ⟨g, cap, cur, rfl, h4, hg, h5, h6, h7, h8⟩
  · exact ⟨none, 0, by rw [h1, h4], by omega, by unfold maxLen; omega, fun h0 => by omega, h3⟩
  · refine ⟨_, cap, h1, h5, h6, fun h0 => ⟨g, cur, rfl, hg, fun k hk => ?_, fun t ht e => ?_⟩, h3⟩
    · have e : (cur.toList.take ((endsR y).length * 1))[k]? = ((endsR y).map fun k => Value.int .i64 k)[k]? := by rw [h8]
      rw [List.getElem?_take_of_lt (by omega), List.getElem?_map, List.getElem?_eq_getElem hk] at e
      simpa using e
    · have := hV t ht g e; omega
set_option maxRecDepth 100000 in
set_option maxHeartbeats 16000000 in
theorem rdefined_any {W : World} {c : Cd} {x : Sl} (hx : CdAt W c x) (hb : BlocksP c) (hin : c.ins.length ≤ 3000) (hbk : c.bk.length ≤ 400) (hb1 : 1 ≤ c.bk.length) (hed : EdIn c) (hU : ∀ b i v, UseAt c b i v → Ix v c.ins) (hel : ∀ b ∈ c.bk, b.en.ta.length + b.en.ea.length ≤ 9000) :
    Calls Tryz.prog 41 #[.agg #[.slice x.S c.st.length x.sc, .slice x.N c.nm.length x.nc, .slice x.I c.ins.length x.ic, .slice x.K c.bk.length x.kc]] W fun e w' => e = .returned (.bool (B (DefU c))) ∧ Below W.heap.size W w' := by
  obtain ⟨Z, hZ⟩ : ∃ Z, Hid (B (DefU c) = Z) := ⟨_, Lib.hid rfl⟩
  rw [hZ.out]
  have bA : Below W.heap.size W (W.alloc (.cells #[.slice x.S c.st.length x.sc, .slice x.N c.nm.length x.nc, .slice x.I c.ins.length x.ic, .slice x.K c.bk.length x.kc] 27)) := (Below.refl _ _).alloc (Nat.le_refl _) _
  have N := Box.new W 27 #[.slice x.S c.st.length x.sc, .slice x.N c.nm.length x.nc, .slice x.I c.ins.length x.ic, .slice x.K c.bk.length x.kc]
  have n0 := N.cell 0
  have n1 := N.cell 1
  have n2 := N.cell 2
  have n3 := N.cell 3
  have hWh := rWhere_any (hx.later bA) hb hin
  replace hb := Lib.hid hb
  replace hed := Lib.hid hed
  replace hU := Lib.hid hU
  replace hel := Lib.hid hel
  go_enter Tryz.func41, Tryz.ntmps41
  go_wp2_with fail
  refine hWh.mono ?_
  rintro e w1 ⟨bh, H, rfl, hbh, hBH, hHl, hH, b1⟩
  have N1 := N.below b1
  have bW1 := bA.trans (b1.mono bA.size)
  have mk := fun w => mk_rows c.bk.length (by omega) w
  have n3' := N1.cell 3
  replace hH := Lib.hid hH
  clear hWh N n0 n1 n2 n3 bA b1
  go_upto_region 3 with fail
  obtain ⟨w2, hw2⟩ : ∃ Y, w1.alloc (.cells (vals (fun _ => .slice none 0 0) c.bk.length) 30) = Y := ⟨_, rfl⟩
  obtain ⟨bu, hbu⟩ : ∃ b, Hid (W.heap.size = b) := ⟨_, Lib.hid rfl⟩
  obtain ⟨bn, hbn⟩ : ∃ b, Hid (w1.heap.size = b) := ⟨_, Lib.hid rfl⟩
  have M2 : Box w2 w1.heap.size 30 (vals (fun _ => .slice none 0 0) c.bk.length) := by rw [← hw2]; exact Box.new _ _ _
  have b2 : Below w1.heap.size w1 w2 := by rw [← hw2]; exact (Below.refl _ _).alloc (Nat.le_refl _) _
  have hbhn : bh < bn := by rw [← hbn.out]; exact hBH.lt
  rw [hbn.out] at M2
  rw [hbu.out] at N1
  have hbnW : W.heap.size ≤ bn := by rw [← hbn.out]; exact bW1.size
  have hW2 : DfW W w2 c x bu bh bn H (fun _ => .slice none 0 0) (fun _ => []) := ⟨bW1.trans (b2.mono bW1.size), N1.below b2, hBH.below b2, PTab.new M2⟩
  try simp only [hw2]
  try simp only [hbu.out, hbn.out]
  clear hw2 mk n3' M2 b2 N1 hBH bW1
  have hS2 := DfS.start (c := c)
  replace hS2 := Lib.hid hS2
  go_wp2_with fail
  go_loopw [5, 6, 7, 8] (fun v5 _ _ _ wr => ∃ b R V q, b ≤ c.bk.length ∧ v5 = .int .i64 (b : Nat) ∧ Hid (DfS c b 0 0 R q) ∧ Hid (QB q b 0 0) ∧ DfW W wr c x bu bh bn H V R) (fun v5 _ _ _ _ => c.bk.length - iOf v5)
  case atStart => exact ⟨0, _, _, 0, Nat.zero_le _, rfl, hS2, Lib.hid QB.zero, hW2⟩
  case round =>
    clear hS2 hW2
    obtain ⟨b, R, V, q, hbl, rfl, hS, hq, hW⟩ := hrel
    have s3 := hW.bX.cell 3
    by_cases hbn2 : b < c.bk.length
    · obtain ⟨f, t, hf, ht, hft, htn⟩ := bk_nat hb.out hbn2
      have hB? : Hid (c.bk[b]? = some c.bk[b]) := Lib.hid (List.getElem?_eq_getElem hbn2)
      have hI := Lib.hid (hS.out.enter hB?.out hf)
      have hq2 : Hid (QB q b (f - f) 0) := Lib.hid (by rw [Nat.sub_self]; exact hq.out)
      obtain ⟨g, o, TA, EA, tc, ec, eK, ⟨c0, _, _, _, _, _, _, _, _, _⟩, _⟩ := (hx.later hW.bw).k b hbn2
      rw [hf] at c0
      rw [eK] at s3
      have hbc : (b : Int) < (c.bk.length : Int) := by omega
      have hff : Hid (c.bk[b].frm = f) := Lib.hid hf
      have htl : Hid (c.bk[b].til = t) := Lib.hid ht
      have hwb : IntKind.i64.wrap ((b : Int) + 1) = ((b + 1 : Nat) : Int) := by rw [IntWalk.i64_in _ (by omega)]; omega
      clear hf ht hS eK hq
      go_wp2_with fail
      clear s3 c0
      go_loopw [6, 7, 8] (fun v6 _ _ wr => ∃ i R V q, f ≤ i ∧ i ≤ t + 1 ∧ v6 = .int .i64 (i : Nat) ∧ Hid (DfS c b i 0 R q) ∧ Hid (QB q b (i - f) 0) ∧ DfW W wr c x bu bh bn H V R) (fun v6 _ _ _ => t + 1 - iOf v6)
      case atStart => exact ⟨f, _, _, _, Nat.le_refl _, by omega, rfl, hI, hq2, hW⟩
      case round =>
        clear hI hW hq2
        obtain ⟨i, R, V, q, hfi, hit, rfl, hI, hq, hW⟩ := hrel
        have s3 := hW.bX.cell 3
        obtain ⟨g, o, TA, EA, tc, ec, eK, ⟨c0, c1, c2, c3, c4, c5, c6, c7, c8, c9⟩, hle⟩ := (hx.later hW.bw).k b hbn2
        rw [htl.out] at c1
        rw [eK] at s3
        have hwi : IntKind.i64.wrap ((i : Int) + 1) = ((i + 1 : Nat) : Int) := by rw [IntWalk.i64_in _ (by omega)]; omega
        by_cases hil : i ≤ t
        · have hic : (i : Int) ≤ (t : Int) := by omega
          have hPl : Hid (PlaceU c b i) := Lib.hid ⟨_, hB?.out, by rw [hff.out]; omega, by rw [htl.out]; omega⟩
          have hV : ∀ u, u < c.bk.length → ∀ g, (V u).ownBlock = some g → g < wr.heap.size := fun u hu g hg => ((hW.tab.own u hu).lt g hg).2
          replace hV := Lib.hid hV
          by_cases hin2 : i < t
          case' pos =>
            have hii : i < c.ins.length := by omega
            have hus : argsOf c.ins[i] = usesL c b i := by
              unfold usesL
              rw [hB?.out]
              dsimp only
              rw [htl.out, if_pos (by omega), List.getElem?_eq_getElem hii]
              rfl
            have hic2 : (i : Int) < (t : Int) := by omega
            have hic3 : (i : Int) < (c.ins.length : Int) := by omega
            have s2 := hW.bX.cell 2
            obtain ⟨gi, oi, eI, d0, d1, d2, d3, d4, d5, d6, d7⟩ := (hx.later hW.bw).i i hii
            rw [eI] at s2
            have hAr := Lib.hid (Args_own (W := wr) c.ins[i])
            clear eK eI c0 c2 c3 c4 c5 c6 c7 c8 c9 hle
            go_wp2_with fail
            refine hAr.out.mono ?_
            intro r w4 hr
            obtain ⟨A4, q4, rfl, l1, l2, hrow, b4⟩ := hr.row (c := c) (V := V) hV.out
            rw [hus] at l1 hrow
            rw [hus]
            clear hr hAr hus d0 d1 d2 d3 d4 d5 d6 d7 s2 s3 c1 hic2 hic3
          case' neg =>
            have hie : i = t := by omega
            have hus : endsR c.bk[b].en = usesL c b i := by
              unfold usesL
              rw [hB?.out]
              dsimp only
              rw [htl.out, if_neg (by omega)]
            have hic2 : ¬ (i : Int) < (t : Int) := by omega
            have hlen := hel.out _ (List.getElem_mem hbn2)
            have hEn := Lib.hid (Ends_any (W := wr) c.bk[b].en TA EA tc ec hle (by omega))
            clear hle hlen
            obtain ⟨y, hy⟩ : ∃ y, Hid (c.bk[b].en = y) := ⟨_, Lib.hid rfl⟩
            simp only [hy.out] at c2 c3 c4 c5 c6 c7 c8 c9 hEn hus
            have d3 : wr.cell? ⟨g, o + b * 10 + 3, none⟩ = some (.int .i64 y.a) := c3
            have d4 : wr.cell? ⟨g, o + b * 10 + 4, none⟩ = some (.int .i64 y.to) := c4
            have d5 : wr.cell? ⟨g, o + b * 10 + 5, none⟩ = some (.int .i64 y.els) := c5
            have d6 : wr.cell? ⟨g, o + b * 10 + 6, none⟩ = some (.slice TA y.ta.length tc) := c6
            have d7 : wr.cell? ⟨g, o + b * 10 + 7, none⟩ = some (.slice EA y.ea.length ec) := c7
            have d8 : wr.cell? ⟨g, o + b * 10 + 8, none⟩ = some (.int .i64 y.n) := c8
            have d9 : wr.cell? ⟨g, o + b * 10 + 9, none⟩ = some (.int .i64 y.at_) := c9
            clear eK c0 hie
            go_wp2_with fail
            refine hEn.out.mono ?_
            intro r w4 hr
            obtain ⟨A4, q4, rfl, l1, l2, hrow, b4⟩ := hr.row (c := c) (V := V) hV.out
            rw [hus] at l1 hrow
            rw [hus]
            clear hr hEn hus c2 c3 c4 c5 c6 c7 c8 c9 d3 d4 d5 d6 d7 d8 d9 s3 c1 hic2 hy
          all_goals
            have hW4 := hW.later b4
            obtain ⟨m4, hm4⟩ : ∃ m4, Hid ((usesL c b i).length = m4) := ⟨_, Lib.hid rfl⟩
            rw [hm4.out] at l1 ⊢
            replace hrow := Lib.hid hrow
            unfold maxLen at l2
            clear hW hV b4
            go_wp2_with fail
            go_loopw [8] (fun v8 wr => ∃ k R V q, k ≤ m4 ∧ v8 = .int .i64 (k : Nat) ∧ Hid (DfS c b i k R q) ∧ Hid (QB q b (i - f) k) ∧ DfW W wr c x bu bh bn H V R ∧ Hid (RowB wr c V A4 (usesL c b i))) (fun v8 _ => m4 - iOf v8)
            case atStart => exact ⟨0, _, _, _, Nat.zero_le _, rfl, hI, hq, hW4, hrow⟩
            case round =>
              clear hI hW4 hrow hq
              obtain ⟨k, R, V, q, hk, rfl, hI, hq, hW, hrow⟩ := hrel
              by_cases hkl : k < m4
              · have hks : k < (usesL c b i).length := by rw [hm4.out]; exact hkl
                have huse : Hid (UseAt c b i (usesL c b i)[k]) := Lib.hid ⟨hPl.out, List.getElem_mem hks⟩
                obtain ⟨z, hz, hzl⟩ := ix_nat (hU.out b i _ huse.out)
                have hz2 : (usesL c b i)[k].toNat = z := by rw [hz]; simp
                obtain ⟨g1, _⟩ := home_lt hb.out hzl
                obtain ⟨h, hh⟩ : ∃ h, Hid (homeN c z = h) := ⟨_, Lib.hid rfl⟩
                rw [hh.out] at g1
                obtain ⟨b4, cur, rfl, hb4, hcur, hne4⟩ := hrow.out (by omega)
                have cL : wr.cell? ⟨b4, k, none⟩ = some (.int .i64 z) := by rw [hb4.cell, hcur k hks, hz]
                have cH : wr.cell? ⟨bh, z, none⟩ = some (.int .i64 h) := by
                  rw [hW.bH.cell, ints_get _ _ (by omega), hH.out z (by omega), hh.out]
                have hzc : (z : Int) < (c.ins.length : Int) := by omega
                have hkc : (k : Int) < (m4 : Int) := by omega
                have hhc : (h : Int) < (c.bk.length : Int) := by omega
                have hwk : IntKind.i64.wrap ((k : Int) + 1) = ((k + 1 : Nat) : Int) := by rw [IntWalk.i64_in _ (by omega)]; omega
                replace hcur := Lib.hid hcur
                by_cases e1 : h = b
                · have t1 : ((h : Int) == (b : Int)) = true := by subst e1; simp
                  by_cases e2 : z < i
                  · have t2 : ¬ ((i : Int) ≤ (z : Int)) := by omega
                    have t3 : ((h : Int) != (b : Int)) = false := by subst e1; simp
                    have hI2 := Lib.hid (hI.out.same hPl.out hks (by rw [hz2, hh.out]; exact e1) (by rw [hz]; omega))
                    have hq2 := Lib.hid hq.out.keep
                    clear hI hq e1 e2 hcur hb4 hne4 hks hz hz2 huse g1
                    go_wp2_with fail
                    go_roundw
                    case rel => exact ⟨k + 1, R, V, q, hkl, by go_num, hI2, hq2, hW, hrow⟩
                    case measure => simp only [iOf]; omega
                  · have t2 : (i : Int) ≤ (z : Int) := by omega
                    have hbad : Hid (Z = false) := Lib.hid (by
                      rw [← hZ.out]
                      exact B_not (fun hd => by
                        have h3 := (hd b i _ huse.out).1 (by rw [hz2, hh.out]; exact e1)
                        rw [hz] at h3
                        omega))
                    clear hI hq e1 e2 hcur hb4 hne4 hks hz hz2 huse g1 hZ hrow
                    go_wp2
                    go_ret
                    exact ⟨by rw [hbad.out]; rfl, hW.bw⟩
                · have t1 : ((h : Int) == (b : Int)) = false := by simp; omega
                  have t3 : ((h : Int) != (b : Int)) = true := by simp; omega
                  have hI2 := Lib.hid (hI.out.other hPl.out hks (u0 := h) (by rw [hz2, hh.out]) e1)
                  have hq2 := Lib.hid hq.out.step
                  have hql := hq.out.le (by omega) (by omega) (by have := usesL_le hel.out b i; rw [hm4.out] at this; omega)
                  have ho := hW.tab.own h g1
                  obtain ⟨A', c', hVh, lV1, lV2, _⟩ := ho.read
                  have hrl : (nats (R h)).length ≤ 40200000000 := by have := hI.out.len h; simp [nats]; omega
                  have hVo : Hid ((V h).ownBlock = (Value.slice A' (nats (R h)).length c').ownBlock) := Lib.hid (by rw [hVh])
                  have cR : wr.cell? ⟨bn, h, none⟩ = some (V h) := by rw [hW.tab.box.cell]; exact vals_get _ g1
                  rw [hVh] at cR ho
                  replace hVh := Lib.hid hVh
                  obtain ⟨r, hr⟩ : ∃ r, Hid (nats (R h) = r) := ⟨_, Lib.hid rfl⟩
                  rw [hr.out] at hrl hVo hVh cR ho lV1
                  obtain ⟨Lr, hLr⟩ : ∃ Lr, Hid (r.map (fun k => Value.int .i64 k) = Lr) := ⟨_, Lib.hid rfl⟩
                  unfold maxLen at lV2
                  have bY : Below wr.heap.size wr (wr.drew.alloc (.cells #[.int .i64 b] 3)) := ((Drew.below ⟨1, rfl⟩ : Below wr.heap.size wr wr.drew)).alloc (Nat.le_refl _) _
                  have hWY := hW.later bY
                  have hbY := hb4.below bY
                  have oY := ho.later bY
                  unfold IOwn at oY
                  rw [hLr.out] at oY
                  have hY := heap_alloc_new wr.drew (.cells #[.int .i64 b] 3)
                  have cLY : (wr.drew.alloc (.cells #[.int .i64 b] 3)).cell? ⟨b4, k, none⟩ = some (.int .i64 z) := by rw [hbY.cell, hcur.out k hks, hz]
                  have cHY : (wr.drew.alloc (.cells #[.int .i64 b] 3)).cell? ⟨bh, z, none⟩ = some (.int .i64 h) := by
                    rw [hWY.bH.cell, ints_get _ _ (by omega), hH.out z (by omega), hh.out]
                  have cRY : (wr.drew.alloc (.cells #[.int .i64 b] 3)).cell? ⟨bn, h, none⟩ = some (.slice A' r.length c') := by
                    rw [hWY.tab.box.cell]; exact (vals_get _ g1).trans (by rw [hVh.out])
                  have q1 := hb4.lt
                  have q2 := hW.bH.lt
                  have q3 := hW.tab.box.lt
                  have hnh := hne4 h g1
                  rw [hVo.out] at hnh
                  replace hcur := Lib.hid hcur
                  replace hnh := Lib.hid hnh
                  replace hY := Lib.hid hY
                  clear hI hq e1 hb4 ho huse
                  go_wp2_with fail
                  refine wp_region_held_drew (S := (fun w' => w'.cell? ⟨b4, k, none⟩ = some (.int .i64 z) ∧ w'.cell? ⟨bh, z, none⟩ = some (.int .i64 h))) (by kernel_rfl) ⟨cL, cH⟩ (fun hHeld => ?_)
                  refine wpAnyH_take (i := 0) (v := ?_) rfl (by kernel_rfl) (by kernel_rfl) (by kernel_rfl) (fun _ _ _ h => h) (Or.inl ⟨by rfl, ?_⟩) (by assumption) ?_
                  rotate_left
                  · (intro w hSw; (try dsimp only at hSw); go_simp; try (with_reducible rfl))
                  try simp only [sm]
                  refine wpAnyH_take (i := 1) (v := ?_) rfl (by kernel_rfl) (by kernel_rfl) (by kernel_rfl) (fun _ _ _ h => h) (Or.inl ⟨by rfl, ?_⟩) (by assumption) ?_
                  rotate_left
                  · (intro w hSw; (try dsimp only at hSw); go_simp; try (with_reducible rfl))
                  try simp only [sm]
                  refine wpAnyH_take (i := 2) (v := ?_) rfl (by kernel_rfl) (by kernel_rfl) (by kernel_rfl) (fun _ _ _ h => h) (Or.inl ⟨by rfl, ?_⟩) (by assumption) ?_
                  rotate_left
                  · (intro w hSw; (try dsimp only at hSw); go_simp; try (with_reducible rfl))
                  try simp only [sm]
                  refine wpAnyH_take (i := 3) (v := ?_) rfl (by kernel_rfl) (by kernel_rfl) (by kernel_rfl) (fun _ _ _ h => h) (Or.inl ⟨by rfl, ?_⟩) (by assumption) ?_
                  rotate_left
                  · (intro w hSw; (try dsimp only at hSw); go_simp; try (with_reducible rfl))
                  try simp only [sm]
                  refine wpAnyH_take (i := 4) (v := ?_) rfl (by kernel_rfl) (by kernel_rfl) (by kernel_rfl) (fun _ _ _ h => h) (Or.inl ⟨by rfl, ?_⟩) (by assumption) ?_
                  rotate_left
                  · (intro w hSw; (try dsimp only at hSw); go_simp; try (with_reducible rfl))
                  try simp only [sm]
                  refine wpAnyH_take (i := 5) (v := ?_) rfl (by kernel_rfl) (by kernel_rfl) (by kernel_rfl) (fun _ _ _ h => h) (Or.inl ⟨by rfl, ?_⟩) (by assumption) ?_
                  rotate_left
                  · (intro w hSw; (try dsimp only at hSw); go_simp; try (with_reducible rfl))
                  try simp only [sm]
                  refine wpAnyH_take (i := 6) (v := ?_) rfl (by kernel_rfl) (by kernel_rfl) (by kernel_rfl) (fun _ _ _ h => h) (Or.inl ⟨by rfl, ?_⟩) (by assumption) ?_
                  rotate_left
                  · (intro w hSw; (try dsimp only at hSw); go_simp; try (with_reducible rfl))
                  try simp only [sm]
                  refine wpAnyH_take (i := 7) (v := ?_) rfl (by kernel_rfl) (by kernel_rfl) (by kernel_rfl) (fun _ _ _ h => h) (Or.inl ⟨by rfl, ?_⟩) (by assumption) ?_
                  rotate_left
                  · (intro w hSw; (try dsimp only at hSw); go_simp; try (with_reducible rfl))
                  try simp only [sm]
                  refine wpAnyH_take (i := 8) (v := ?_) rfl (by kernel_rfl) (by kernel_rfl) (by kernel_rfl) (fun _ _ _ h => h) (Or.inl ⟨by rfl, ?_⟩) (by assumption) ?_
                  rotate_left
                  · (intro w hSw; (try dsimp only at hSw); go_simp; try (with_reducible rfl))
                  try simp only [sm]
                  refine wpAnyH_take (i := 9) (v := ?_) rfl (by kernel_rfl) (by kernel_rfl) (by kernel_rfl) (fun _ _ _ h => h) (Or.inl ⟨by rfl, ?_⟩) (by assumption) ?_
                  rotate_left
                  · (intro w hSw; (try dsimp only at hSw); go_simp; try (with_reducible rfl))
                  try simp only [sm]
                  refine wpAnyH_take (i := 10) (v := ?_) rfl (by kernel_rfl) (by kernel_rfl) (by kernel_rfl) (fun _ _ _ h => h) (Or.inl ⟨by rfl, ?_⟩) (by assumption) ?_
                  rotate_left
                  · (intro w hSw; (try dsimp only at hSw); go_simp; try (with_reducible rfl))
                  try simp only [sm]
                  refine wpAnyH_take (i := 11) (v := ?_) rfl (by kernel_rfl) (by kernel_rfl) (by kernel_rfl) (fun _ _ _ h => h) (Or.inl ⟨by rfl, ?_⟩) (by assumption) ?_
                  rotate_left
                  · (intro w hSw; (try dsimp only at hSw); go_simp; try (with_reducible rfl))
                  try simp only [sm]
                  refine wpAnyH_take (i := 12) (v := ?_) rfl (by kernel_rfl) (by kernel_rfl) (by kernel_rfl) (fun _ _ _ h => h) (Or.inl ⟨by rfl, ?_⟩) (by assumption) ?_
                  rotate_left
                  · (intro w hSw; (try dsimp only at hSw); go_simp; try (with_reducible rfl))
                  try simp only [sm]
                  refine wpAnyH_take (i := 13) (v := ?_) rfl (by kernel_rfl) (by kernel_rfl) (by kernel_rfl) (fun _ _ _ h => h) (Or.inl ⟨by rfl, ?_⟩) (by assumption) ?_
                  rotate_left
                  · (intro w hSw; (try dsimp only at hSw); go_simp; try (with_reducible rfl))
                  try simp only [sm]
                  refine wpAnyH_take (i := 14) (v := ?_) rfl (by kernel_rfl) (by kernel_rfl) (by kernel_rfl) (fun _ _ _ h => h) (Or.inl ⟨by rfl, ?_⟩) (by assumption) ?_
                  rotate_left
                  · (intro w hSw; (try dsimp only at hSw); go_simp; try (with_reducible rfl))
                  try simp only [sm]
                  refine wpAnyH_take (i := 15) (v := ?_) rfl (by kernel_rfl) (by kernel_rfl) (by kernel_rfl) (fun _ _ _ h => h) (Or.inl ⟨by rfl, ?_⟩) (by assumption) ?_
                  rotate_left
                  · (intro w hSw; (try dsimp only at hSw); go_simp; try (with_reducible rfl))
                  try simp only [sm]
                  refine wpAnyH_take (i := 16) (v := ?_) rfl (by kernel_rfl) (by kernel_rfl) (by kernel_rfl) (fun _ _ _ h => h) (Or.inl ⟨by rfl, ?_⟩) (by assumption) ?_
                  rotate_left
                  · (intro w hSw; (try dsimp only at hSw); go_simp; try (with_reducible rfl))
                  try simp only [sm]
                  refine wpAnyH_take (i := 18) (v := ?_) rfl (by kernel_rfl) (by kernel_rfl) (by kernel_rfl) (fun _ _ _ h => h) (Or.inl ⟨by rfl, ?_⟩) (by assumption) ?_
                  rotate_left
                  · (intro w hSw; (try dsimp only at hSw); go_simp; try (with_reducible rfl))
                  try simp only [sm]
                  refine wpAnyH_ready (rs := [17, 19]) (by kernel_rfl) (by simp) ?_
                  refine AllReadyH.cons rfl (fun K hK => ?_) (AllReadyH.cons rfl (fun K hK => ?_) AllReadyH.nil)
                  · go_simp
                    refine hK.out _ _ ⟨cL, cH⟩ (fun hHeld => ?_)
                    clear hK
                    try simp only [sm]
                    refine wpAnyH_ready (rs := [19]) (by kernel_rfl) (by simp) ?_
                    refine AllReadyH.cons rfl (fun K hK => ?_) AllReadyH.nil
                    go_simp
                    refine hK.out _ _ ⟨cLY, cHY⟩ (fun hHeld => ?_)
                    clear hK
                    try simp only [sm]
                    refine wpAnyH_ready (rs := [20]) (by kernel_rfl) (by simp) ?_
                    refine AllReadyH.cons rfl (fun K hK => ?_) AllReadyH.nil
                    refine step_append_lies _ rfl (.tmp 111) (.tmp 113) 30 rfl bn 3 Tryz.t3 (.int .i64 0) 1 8 Tryz.underlying30 (by kernel_rfl) (by kernel_rfl) rfl rfl rfl (by decide) (Value.slice A' r.length c') r.length Lr (by rfl) oY ⟨wr.heap.size, 0, none⟩ 1 1 [.int .i64 b] (by rfl) rfl (by exact World.news_of_block hY.out) (by simp [Value.oneCell']) (by decide) (by unfold maxLen; omega) (by omega) (by simp; omega) (wr.heap.size + 1) (by simp) ?_
                    intro g8 cap wA o2 gr p2 z2
                    have XA := hWY.tab.box.grown gr (by rw [← hVo.out]; exact (hWY.tab.own h g1).ne hWY.tab.box (by decide))
                    have kA := (XA.cell h).trans (vals_get _ g1)
                    rw [hVh.out] at kA
                    have fA := XA.free h
                    have BA := hbY.grown gr (fun e => hnh.out e.symm)
                    have cLA : wA.cell? ⟨b4, k, none⟩ = some (.int .i64 z) := (by rw [BA.cell, hcur.out k hks, hz])
                    have HA := hWY.bH.grown gr (fun e => by have := ((hWY.tab.own h g1).lt bh (by rw [hVo.out]; exact e.symm)).1; omega)
                    have cHA : wA.cell? ⟨bh, z, none⟩ = some (.int .i64 h) := (by rw [HA.cell, ints_get _ _ (by omega), hH.out z (by omega), hh.out])
                    have BB := BA.far (b' := bn) (i := h) (fun e => by subst e; exact absurd (BA.type XA) (by decide)) (.slice (some ⟨g8, 0, none⟩) (r.length + 1) cap)
                    have HB := HA.far (b' := bn) (i := h) (by omega) (.slice (some ⟨g8, 0, none⟩) (r.length + 1) cap)
                    have cLB : (wA.setCell ⟨bn, h, none⟩ (.slice (some ⟨g8, 0, none⟩) (r.length + 1) cap)).cell? ⟨b4, k, none⟩ = some (.int .i64 z) := (by rw [BB.cell, hcur.out k hks, hz])
                    have cHB : (wA.setCell ⟨bn, h, none⟩ (.slice (some ⟨g8, 0, none⟩) (r.length + 1) cap)).cell? ⟨bh, z, none⟩ = some (.int .i64 h) := (by rw [HB.cell, ints_get _ _ (by omega), hH.out z (by omega), hh.out])
                    refine hK.out _ _ ⟨cLA, cHA⟩ (fun hHeld => ?_)
                    clear hK
                    try simp only [sm]
                    refine wpAnyH_take (i := 21) (v := ?_) rfl (by kernel_rfl) (by kernel_rfl) (by kernel_rfl) (fun _ _ _ h => h) (Or.inl ⟨by rfl, ?_⟩) (by assumption) ?_
                    rotate_left
                    · (intro w hSw; (try dsimp only at hSw); go_simp; try (with_reducible rfl))
                    try simp only [sm]
                    refine wpAnyH_ready (rs := [22]) (by kernel_rfl) (by simp) ?_
                    refine AllReadyH.cons rfl (fun K hK => ?_) AllReadyH.nil
                    go_simp
                    refine hK.out _ _ ⟨cLB, cHB⟩ (fun hHeld => ?_)
                    clear hK
                    try simp only [sm]
                    refine wpAnyH_done (by kernel_rfl) ?_ _
                    have o3 : IOwn wA bn (.slice (some ⟨g8, 0, none⟩) (r.length + 1) cap) (nats (R h ++ [b])) := by
                      unfold IOwn
                      rw [show (nats (R h ++ [b])).length = r.length + 1 by rw [← hr.out]; simp [nats], show (nats (R h ++ [b])).map (fun k => Value.int .i64 k) = Lr ++ [Value.int .i64 b] by rw [← hLr.out, ← hr.out]; simp [nats]]
                      exact o2
                    rw [← hVo.out] at gr p2
                    have hbubn : bu ≠ bn := fun e => by subst e; exact absurd (hWY.bX.type hWY.tab.box) (by decide)
                    have hownlt := fun q hq => (hWY.tab.own h g1).lt q hq
                    have hWA : DfW W (wA.setCell ⟨bn, h, none⟩ (.slice (some ⟨g8, 0, none⟩) (r.length + 1) cap)) c x bu bh bn H (updV V h (.slice (some ⟨g8, 0, none⟩) (r.length + 1) cap)) (fun u => if u = h then R h ++ [b] else R u) :=
                      ⟨(hWY.bw.grown gr hWY.bw.size (fun q hq => Nat.le_trans hbnW (hownlt q hq).1)).setCell hbnW _,
                       (hWY.bX.grown gr ((hWY.tab.own h g1).ne hWY.bX (by decide))).far hbubn _,
                       HA.far (by omega) _,
                       (hWY.tab.step g1 o3 gr (by simpa using p2)).congr (fun u _ => by by_cases e : u = h <;> simp [e])⟩
                    have hrow2 : Hid (RowB (wA.setCell ⟨bn, h, none⟩ (.slice (some ⟨g8, 0, none⟩) (r.length + 1) cap)) c (updV V h (.slice (some ⟨g8, 0, none⟩) (r.length + 1) cap)) (some ⟨b4, 0, none⟩) (usesL c b i)) := Lib.hid (fun _ => ⟨b4, cur, rfl, BA.far (fun e => by subst e; exact absurd (BA.type XA) (by decide)) _, hcur.out, fun u hu => by
                      unfold updV
                      by_cases e : u = h
                      · rw [if_pos e]
                        intro e2
                        have e3 : g8 = b4 := by simpa [Value.ownBlock] using e2
                        subst e3
                        rcases p2 with p2 | p2
                        · exact hne4 h g1 p2
                        · omega
                      · rw [if_neg e]; exact hne4 u hu⟩)
                    clear o2 gr p2 z2 kA fA XA BA HA BB HB cLA cHA cLB cHB o3 hWY hbY oY hY cLY cHY cRY hW hrow cL cH cR hcur hne4 q1 q2 q3 bY hownlt
                    go_wp2_with fail
                    go_roundw
                    case rel => exact ⟨k + 1, _, _, _, hkl, by go_num, hI2, hq2, hWA, hrow2⟩
                    case measure => simp only [iOf]; omega
                  · go_simp
                    refine hK.out _ _ ⟨cLY, cHY⟩ (fun hHeld => ?_)
                    clear hK
                    try simp only [sm]
                    refine wpAnyH_ready (rs := [17]) (by kernel_rfl) (by simp) ?_
                    refine AllReadyH.cons rfl (fun K hK => ?_) AllReadyH.nil
                    go_simp
                    refine hK.out _ _ ⟨cLY, cHY⟩ (fun hHeld => ?_)
                    clear hK
                    try simp only [sm]
                    refine wpAnyH_ready (rs := [20]) (by kernel_rfl) (by simp) ?_
                    refine AllReadyH.cons rfl (fun K hK => ?_) AllReadyH.nil
                    refine step_append_lies _ rfl (.tmp 111) (.tmp 113) 30 rfl bn 3 Tryz.t3 (.int .i64 0) 1 8 Tryz.underlying30 (by kernel_rfl) (by kernel_rfl) rfl rfl rfl (by decide) (Value.slice A' r.length c') r.length Lr (by rfl) oY ⟨wr.heap.size, 0, none⟩ 1 1 [.int .i64 b] (by rfl) rfl (by exact World.news_of_block hY.out) (by simp [Value.oneCell']) (by decide) (by unfold maxLen; omega) (by omega) (by simp; omega) (wr.heap.size + 1) (by simp) ?_
                    intro g8 cap wA o2 gr p2 z2
                    have XA := hWY.tab.box.grown gr (by rw [← hVo.out]; exact (hWY.tab.own h g1).ne hWY.tab.box (by decide))
                    have kA := (XA.cell h).trans (vals_get _ g1)
                    rw [hVh.out] at kA
                    have fA := XA.free h
                    have BA := hbY.grown gr (fun e => hnh.out e.symm)
                    have cLA : wA.cell? ⟨b4, k, none⟩ = some (.int .i64 z) := (by rw [BA.cell, hcur.out k hks, hz])
                    have HA := hWY.bH.grown gr (fun e => by have := ((hWY.tab.own h g1).lt bh (by rw [hVo.out]; exact e.symm)).1; omega)
                    have cHA : wA.cell? ⟨bh, z, none⟩ = some (.int .i64 h) := (by rw [HA.cell, ints_get _ _ (by omega), hH.out z (by omega), hh.out])
                    have BB := BA.far (b' := bn) (i := h) (fun e => by subst e; exact absurd (BA.type XA) (by decide)) (.slice (some ⟨g8, 0, none⟩) (r.length + 1) cap)
                    have HB := HA.far (b' := bn) (i := h) (by omega) (.slice (some ⟨g8, 0, none⟩) (r.length + 1) cap)
                    have cLB : (wA.setCell ⟨bn, h, none⟩ (.slice (some ⟨g8, 0, none⟩) (r.length + 1) cap)).cell? ⟨b4, k, none⟩ = some (.int .i64 z) := (by rw [BB.cell, hcur.out k hks, hz])
                    have cHB : (wA.setCell ⟨bn, h, none⟩ (.slice (some ⟨g8, 0, none⟩) (r.length + 1) cap)).cell? ⟨bh, z, none⟩ = some (.int .i64 h) := (by rw [HB.cell, ints_get _ _ (by omega), hH.out z (by omega), hh.out])
                    refine hK.out _ _ ⟨cLA, cHA⟩ (fun hHeld => ?_)
                    clear hK
                    try simp only [sm]
                    refine wpAnyH_take (i := 21) (v := ?_) rfl (by kernel_rfl) (by kernel_rfl) (by kernel_rfl) (fun _ _ _ h => h) (Or.inl ⟨by rfl, ?_⟩) (by assumption) ?_
                    rotate_left
                    · (intro w hSw; (try dsimp only at hSw); go_simp; try (with_reducible rfl))
                    try simp only [sm]
                    refine wpAnyH_ready (rs := [22]) (by kernel_rfl) (by simp) ?_
                    refine AllReadyH.cons rfl (fun K hK => ?_) AllReadyH.nil
                    go_simp
                    refine hK.out _ _ ⟨cLB, cHB⟩ (fun hHeld => ?_)
                    clear hK
                    try simp only [sm]
                    refine wpAnyH_done (by kernel_rfl) ?_ _
                    have o3 : IOwn wA bn (.slice (some ⟨g8, 0, none⟩) (r.length + 1) cap) (nats (R h ++ [b])) := by
                      unfold IOwn
                      rw [show (nats (R h ++ [b])).length = r.length + 1 by rw [← hr.out]; simp [nats], show (nats (R h ++ [b])).map (fun k => Value.int .i64 k) = Lr ++ [Value.int .i64 b] by rw [← hLr.out, ← hr.out]; simp [nats]]
                      exact o2
                    rw [← hVo.out] at gr p2
                    have hbubn : bu ≠ bn := fun e => by subst e; exact absurd (hWY.bX.type hWY.tab.box) (by decide)
                    have hownlt := fun q hq => (hWY.tab.own h g1).lt q hq
                    have hWA : DfW W (wA.setCell ⟨bn, h, none⟩ (.slice (some ⟨g8, 0, none⟩) (r.length + 1) cap)) c x bu bh bn H (updV V h (.slice (some ⟨g8, 0, none⟩) (r.length + 1) cap)) (fun u => if u = h then R h ++ [b] else R u) :=
                      ⟨(hWY.bw.grown gr hWY.bw.size (fun q hq => Nat.le_trans hbnW (hownlt q hq).1)).setCell hbnW _,
                       (hWY.bX.grown gr ((hWY.tab.own h g1).ne hWY.bX (by decide))).far hbubn _,
                       HA.far (by omega) _,
                       (hWY.tab.step g1 o3 gr (by simpa using p2)).congr (fun u _ => by by_cases e : u = h <;> simp [e])⟩
                    have hrow2 : Hid (RowB (wA.setCell ⟨bn, h, none⟩ (.slice (some ⟨g8, 0, none⟩) (r.length + 1) cap)) c (updV V h (.slice (some ⟨g8, 0, none⟩) (r.length + 1) cap)) (some ⟨b4, 0, none⟩) (usesL c b i)) := Lib.hid (fun _ => ⟨b4, cur, rfl, BA.far (fun e => by subst e; exact absurd (BA.type XA) (by decide)) _, hcur.out, fun u hu => by
                      unfold updV
                      by_cases e : u = h
                      · rw [if_pos e]
                        intro e2
                        have e3 : g8 = b4 := by simpa [Value.ownBlock] using e2
                        subst e3
                        rcases p2 with p2 | p2
                        · exact hne4 h g1 p2
                        · omega
                      · rw [if_neg e]; exact hne4 u hu⟩)
                    clear o2 gr p2 z2 kA fA XA BA HA BB HB cLA cHA cLB cHB o3 hWY hbY oY hY cLY cHY cRY hW hrow cL cH cR hcur hne4 q1 q2 q3 bY hownlt
                    go_wp2_with fail
                    go_roundw
                    case rel => exact ⟨k + 1, _, _, _, hkl, by go_num, hI2, hq2, hWA, hrow2⟩
                    case measure => simp only [iOf]; omega
              · have hI2 := Lib.hid (hI.out.row (by rw [hm4.out]; omega))
                have hm4l := usesL_le hel.out b i
                rw [hm4.out] at hm4l
                have hke : k = m4 := by omega
                subst hke
                have hq2 : Hid (QB q b (i + 1 - f) 0) := Lib.hid (by have h1 := hq.out.row hm4l; rw [show i + 1 - f = i - f + 1 by omega]; exact h1)
                have hkc : ¬ ((k : Int) < (k : Int)) := by omega
                clear hI hq hrow hkl
                go_wp2_with fail
                go_roundw
                case rel => exact ⟨i + 1, R, V, q, by omega, by omega, by go_num, hI2, hq2, hW⟩
                case measure => simp only [iOf]; omega
        · have hie : i = t + 1 := by omega
          have hic : ¬ ((i : Int) ≤ (t : Int)) := by omega
          have hI2 := Lib.hid (hI.out.block hB?.out (by rw [htl.out]; omega))
          have hq2 : Hid (QB q (b + 1) 0 0) := Lib.hid (hq.out.block (by omega))
          clear hI hq hle eK c0 c2 c3 c4 c5 c6 c7 c8 c9 hie
          go_wp2_with fail
          go_roundw
          case rel => exact ⟨b + 1, R, V, q, hbn2, by go_num, hI2, hq2, hW⟩
          case measure => simp only [iOf]; omega
    · have hbe : b = c.bk.length := by omega
      subst hbe
      have hbc : ¬ ((c.bk.length : Int) < (c.bk.length : Int)) := by omega
      have hfin := Lib.hid (hS.out.fin hb.out hU.out)
      have hmlt : Hid (∀ u y, y ∈ R u → y < c.bk.length) := Lib.hid (fun u y h => hS.out.mem_lt h)
      have hrl : Hid (∀ u, (R u).length ≤ q) := Lib.hid hS.out.len
      have hql : q ≤ 40200000000 := hq.out.le (by omega) (by omega) (by omega)
      clear hS hq hbn2
      go_wp2_with fail
      clear s3
      go_loopw [9, 10, 11] (fun v9 _ _ wr => ∃ u, 1 ≤ u ∧ u ≤ c.bk.length ∧ v9 = .int .i64 (u : Nat) ∧ Hid (∀ h, 1 ≤ h → h < u → ∀ y ∈ R h, ¬ Rch (succs c) h 0 y) ∧ DfW W wr c x bu bh bn H V R) (fun v9 _ _ _ => c.bk.length - iOf v9)
      case atStart => exact ⟨1, Nat.le_refl _, hb1, rfl, Lib.hid (fun h h1 h2 => by omega), hW⟩
      case round =>
        clear hW
        obtain ⟨u, hu1, hul, rfl, hP, hW⟩ := hrel
        have s3 := hW.bX.cell 3
        by_cases hun : u < c.bk.length
        · have huc : (u : Int) < (c.bk.length : Int) := by omega
          have hwu : IntKind.i64.wrap ((u : Int) + 1) = ((u + 1 : Nat) : Int) := by rw [IntWalk.i64_in _ (by omega)]; omega
          have hnl : (nats (R u)).length = (R u).length := by simp [nats]
          have hLq := hrl.out u
          obtain ⟨L, hL⟩ : ∃ L, Hid ((R u).length = L) := ⟨_, Lib.hid rfl⟩
          rw [hL.out] at hnl hLq
          have cR : wr.cell? ⟨bn, u, none⟩ = some (V u) := by rw [hW.tab.box.cell]; exact vals_get _ hun
          obtain ⟨A, qq, hVu, l1, l2, _⟩ := (hW.tab.own u hun).read
          rw [hnl] at hVu l1
          rw [hVu] at cR
          replace hVu := Lib.hid hVu
          replace hnl := Lib.hid hnl
          unfold maxLen at l2
          by_cases h0 : L = 0
          · have hP2 : Hid (∀ h, 1 ≤ h → h < u + 1 → ∀ y ∈ R h, ¬ Rch (succs c) h 0 y) := Lib.hid (fun h h1 h2 y hy => by
              by_cases e : h = u
              · subst e
                have h3 := List.eq_nil_of_length_eq_zero (show (R h).length = 0 by rw [hL.out]; exact h0)
                rw [h3] at hy
                simp at hy
              · exact hP.out h h1 (by omega) y hy)
            have g0 : ¬ ((0 : Int) < (L : Int)) := by omega
            clear hP h0
            go_wp2_with fail
            go_roundw
            case rel => exact ⟨u + 1, by omega, hun, by go_num, hP2, hW⟩
            case measure => simp only [iOf]; omega
          · have g0 : (0 : Int) < (L : Int) := by omega
            have s0 := hW.bX.cell 0
            have s1 := hW.bX.cell 1
            have s2 := hW.bX.cell 2
            have kR : Calls Tryz.prog 28 #[.agg #[.slice x.S c.st.length x.sc, .slice x.N c.nm.length x.nc, .slice x.I c.ins.length x.ic, .slice x.K c.bk.length x.kc], .int .i64 0, .int .i64 (u : Nat)] wr (RchPost wr c (u : Nat) 0) := rReach_any (hx.later hW.bw) hbk hed.out 0 (by omega) (u : Nat)
            replace kR := Lib.hid kR
            clear h0
            go_wp2_with fail
            refine kR.out.mono ?_
            rintro e w5 ⟨bo, m, rfl, hbo, hBo, hm, b5⟩
            have hW5 := hW.later b5
            replace hm := Lib.hid hm
            clear kR s0 s1 s2 s3 cR hW b5
            go_wp2_with fail
            go_loopw [11] (fun v wr => ∃ k, k ≤ L ∧ v = .int .i64 (k : Nat) ∧ Hid (∀ (j : Nat) (hj : j < (R u).length), j < k → (R u)[j] ∉ m) ∧ DfW W wr c x bu bh bn H V R ∧ Box wr bo 4 (bools m c.bk.length)) (fun v _ => L - iOf v)
            case atStart => exact ⟨0, Nat.zero_le _, rfl, Lib.hid (fun j _ h => by omega), hW5, hBo⟩
            case round =>
              clear hW5 hBo
              obtain ⟨k, hk, rfl, hK, hW, hBo⟩ := hrel
              have cR : wr.cell? ⟨bn, u, none⟩ = some (V u) := by rw [hW.tab.box.cell]; exact vals_get _ hun
              rw [hVu.out] at cR
              have hrow := hW.tab.own u hun
              obtain ⟨A2, q2, hV2, _, _, hrow⟩ := hrow.read
              rw [hVu.out] at hV2
              obtain ⟨rfl⟩ : A = A2 := by cases hV2; rfl
              by_cases hkl : k < L
              · have hku : k < (R u).length := by rw [hL.out]; exact hkl
                obtain ⟨g6, o6, rfl, e6⟩ := hrow k (by rw [hnl.out]; exact hkl)
                obtain ⟨y, hy⟩ : ∃ y, Hid ((R u)[k] = y) := ⟨_, Lib.hid rfl⟩
                rw [show (nats (R u))[k]'(by rw [hnl.out]; exact hkl) = (y : Int) by simp [nats, hy.out]] at e6
                have hyR : y ∈ R u := by rw [← hy.out]; exact List.getElem_mem hku
                have hyn := hmlt.out u y hyR
                have hkc : (k : Int) < (L : Int) := by omega
                have hyc : (y : Int) < (c.bk.length : Int) := by omega
                have hwk : IntKind.i64.wrap ((k : Int) + 1) = ((k + 1 : Nat) : Int) := by rw [IntWalk.i64_in _ (by omega)]; omega
                have cB : wr.cell? ⟨bo, y, none⟩ = some (.bool (decide (y ∈ m))) := by rw [hBo.cell]; exact bools_get m hyn
                by_cases hym : y ∈ m
                · rw [decide_eq_true hym] at cB
                  have hz : Hid (Z = false) := Lib.hid (by rw [← hZ.out]; exact B_not (fun h => hfin.out.1 h u hu1 hun y hyR ((hm.out y).1 hym)))
                  have hbw := hW.bw
                  clear hK hym hy hyR hZ hV2 hrow hW hBo hku hVu
                  go_wp2
                  go_ret
                  exact ⟨by rw [hz.out]; rfl, hbw⟩
                · rw [decide_eq_false hym] at cB
                  have hK2 : Hid (∀ (j : Nat) (hj : j < (R u).length), j < k + 1 → (R u)[j] ∉ m) := Lib.hid (fun j hj hjk => by
                    by_cases e : j = k
                    · subst e; rw [hy.out]; exact hym
                    · exact hK.out j hj (by omega))
                  clear hK hym hy hyR hV2 hrow hku
                  go_wp2_with fail
                  go_roundw
                  case rel => exact ⟨k + 1, hkl, by go_num, hK2, hW, hBo⟩
                  case measure => simp only [iOf]; omega
              · have hP2 : Hid (∀ h, 1 ≤ h → h < u + 1 → ∀ y ∈ R h, ¬ Rch (succs c) h 0 y) := Lib.hid (fun h h1 h2 y hy => by
                  by_cases e : h = u
                  · subst e
                    obtain ⟨j, hj, rfl⟩ := List.getElem_of_mem hy
                    exact fun hr => hK.out j hj (by have := hL.out; omega) ((hm.out _).2 hr)
                  · exact hP.out h h1 (by omega) y hy)
                have hkc : ¬ ((k : Int) < (L : Int)) := by omega
                clear hP hK hV2 hrow
                go_wp2_with fail
                go_roundw
                case rel => exact ⟨u + 1, by omega, hun, by go_num, hP2, hW⟩
                case measure => simp only [iOf]; omega
        · have hue : u = c.bk.length := by omega
          subst hue
          have hz : Hid (Z = true) := Lib.hid (by rw [← hZ.out]; exact B_of (hfin.out.2 hP.out))
          have hbw := hW.bw
          clear hP hfin hZ hW hmlt hrl hun
          go_wp2
          go_ret
          exact ⟨by rw [hz.out]; rfl, hbw⟩
end Go.Proofs.YtnbgadndkepomaaGreatDoor
