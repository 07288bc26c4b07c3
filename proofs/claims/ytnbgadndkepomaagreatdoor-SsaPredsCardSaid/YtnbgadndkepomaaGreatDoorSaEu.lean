/- ssa: the visits of all uses. -/
import Derived.Test.YtnbgadndkepomaaGreatDoorSaVf
namespace Go.Proofs.YtnbgadndkepomaaGreatDoor
open Go.RowKit

/-- A visitor: what it answers at each use, and what it keeps. -/
structure VisOk (F : FuncId) (c : Cd) (q xc : Nat) (Vis : List Us → World → Prop) (Out : World → Prop) (g : Us → Bool) : Prop where
  later : ∀ us w w', Vis us w → Below w.heap.size w w' → Vis us w'
  call : ∀ us u w, us ++ [u] <+: allUses c → Vis us w → Calls Tryz.prog F #[.agg #[.int .i64 u.v, .int .i64 (u.b : Nat), .int .i64 u.before], .pointer (some ⟨xc, 0, none⟩)] w fun e w' => e = .returned (.bool (g u)) ∧ But q w w' ∧ (g u = true → Vis (us ++ [u]) w') ∧ (g u = false → Out w')
def EuPost (W : World) (c : Cd) (q : Nat) (Vis : List Us → World → Prop) (Out : World → Prop) (g : Us → Bool) (e : Ending) (w' : World) : Prop :=
  ∃ r, e = .returned (.bool r) ∧ (r = true → Vis (allUses c) w' ∧ ∀ u ∈ allUses c, g u = true) ∧ (r = false → Out w' ∧ ∃ u ∈ allUses c, g u = false) ∧ But q W w'
theorem good_snoc {g : Us → Bool} {us : List Us} {u : Us} (h : ∀ z ∈ us, g z = true) (hu : g u = true) : ∀ z ∈ us ++ [u], g z = true := fun z hz => by
  rcases List.mem_append.1 hz with hz | hz
  · exact h z hz
  · rw [List.mem_singleton] at hz; rw [hz]; exact hu
theorem valN_le (op : Int) : valN op ≤ 3 := by unfold valN; split <;> (try split) <;> (try split) <;> omega
theorem But.below2 {q : Nat} {W w w' : World} (h : But q W w) (hb : Below w.heap.size w w') : But q W w' := h.trans (But.of hb)
theorem But.box {q : Nat} {w w' : World} (h : But q w w') {b : Nat} {T : TypeId} {cs : Array Value} (hb : Box w b T cs) (hn : b ≠ q) : Box w' b T cs := (h.block b hb.lt hn).trans hb
set_option maxRecDepth 100000 in
set_option maxHeartbeats 3200000 in
theorem eachUse_v {W0 W : World} {p : Nat} {c : Cd} {x : Sl} {cs : Array Value} (h : Cod W0 W p c x cs) (hl : ListsP c) (hb : BlocksP c) (hop : ∀ i ∈ c.ins, OpP i.op) (hend : ∀ b ∈ c.bk, (endArgs b.en).length ≤ 1000000000)
    {q xc : Nat} (hq0 : W0.heap.size ≤ q) (hqp : p ≠ q) (hqW : q < W.heap.size) {Vis : List Us → World → Prop} {Out : World → Prop} {g : Us → Bool} (hv : VisOk 102 c q xc Vis Out g) (h0 : Vis [] W) :
    Calls Tryz.prog 34 #[.pointer (some ⟨p, 0, none⟩), .func (.func 102) #[] #[.pointer (some ⟨xc, 0, none⟩)]] W (EuPost W c q Vis Out g) := by
  have l3 := hl.2.2.1.2
  have l2 := hl.2.2.2.1
  have s3 := h.pt.s3
  replace hl := Lib.hid hl
  replace hb := Lib.hid hb
  replace hop := Lib.hid hop
  replace hend := Lib.hid hend
  replace hv := Lib.hid hv
  have hpW := h.box.lt
  go_enter Tryz.func34, Tryz.ntmps34
  go_wp2_with fail
  clear s3
  go_loopw [19] (fun v wr => ∃ i : Nat, i ≤ c.bk.length ∧ v = .int .i64 i ∧ Vis (usesBefore c i) wr ∧ Hid (∀ u ∈ usesBefore c i, g u = true) ∧ But q W wr) (fun v _ => c.bk.length - iOf v)
  case atStart => exact ⟨0, Nat.zero_le _, rfl, h0, Lib.hid (fun u hu => by rw [usesBefore_zero] at hu; cases hu), But.refl _ _⟩
  case round =>
    rename_i wr
    clear h0
    obtain ⟨i, hi, rfl, hV, hG, hBw⟩ := hrel
    have hC := h.but hBw hq0 hqp
    by_cases hlt : i < c.bk.length
    · obtain ⟨g0, o, TA, EA, tc, ec, eK0, hBk, hle⟩ := h.base.k i hlt
      obtain ⟨c0, c1, c2, c3, c4, c5, c6, c7, c8, c9⟩ := hBk.later hC.below
      obtain ⟨f, t, hf, ht, hft, htn⟩ := bk_nat hb.out hlt
      have hen := hend.out _ (List.getElem_mem hlt)
      have hPt := Lib.hid (fun j (h1 : f ≤ j) (h2 : j ≤ t) => usesTo_pre (c := c) hlt hf ht h1 h2)
      have hPa := Lib.hid (fun j k (h1 : f ≤ j) (h2 : j < t) => usesAt_pre (k := k) hlt hf ht h1 h2)
      have hPe := Lib.hid (fun k => usesEnd_pre (k := k) hlt hf ht)
      have hAl := Lib.hid (usesTo_all hlt hf ht)
      obtain ⟨y, hy⟩ : ∃ t, Hid (c.bk[i] = t) := ⟨_, Lib.hid rfl⟩
      simp only [hy.out] at c0 c1 c2 c3 c4 c5 c6 c7 c8 c9 hle hen hPe hAl
      rw [hy.out] at hf ht
      have s3 := hC.pt.s3
      have d3 : wr.cell? ⟨g0, o + i * 10 + 3, none⟩ = some (.int .i64 y.en.a) := c3
      have d4 : wr.cell? ⟨g0, o + i * 10 + 4, none⟩ = some (.int .i64 y.en.to) := c4
      have d5 : wr.cell? ⟨g0, o + i * 10 + 5, none⟩ = some (.int .i64 y.en.els) := c5
      have d6 : wr.cell? ⟨g0, o + i * 10 + 6, none⟩ = some (.slice TA y.en.ta.length tc) := c6
      have d7 : wr.cell? ⟨g0, o + i * 10 + 7, none⟩ = some (.slice EA y.en.ea.length ec) := c7
      have d8 : wr.cell? ⟨g0, o + i * 10 + 8, none⟩ = some (.int .i64 y.en.n) := c8
      have d9 : wr.cell? ⟨g0, o + i * 10 + 9, none⟩ = some (.int .i64 y.en.at_) := c9
      rw [hf] at c0
      rw [ht] at c1
      replace hf := Lib.hid hf
      replace ht := Lib.hid ht
      replace hle := Lib.hid hle
      have eK := eK0
      replace eK0 := Lib.hid eK0
      have N0 := Box.new wr 43 #[.int .i64 (f : Nat), .int .i64 (t : Nat), .int .i64 y.en.kind, .int .i64 y.en.a, .int .i64 y.en.to, .int .i64 y.en.els, .slice TA y.en.ta.length tc, .slice EA y.en.ea.length ec, .int .i64 y.en.n, .int .i64 y.en.at_]
      have bN : Below wr.heap.size wr (wr.alloc (.cells #[.int .i64 (f : Nat), .int .i64 (t : Nat), .int .i64 y.en.kind, .int .i64 y.en.a, .int .i64 y.en.to, .int .i64 y.en.els, .slice TA y.en.ta.length tc, .slice EA y.en.ea.length ec, .int .i64 y.en.n, .int .i64 y.en.at_] 43)) := (Below.refl _ _).alloc (Nat.le_refl _) _
      have hlc : (i : Int) < c.bk.length := by omega
      have hwi : IntKind.i64.wrap ((i : Int) + 1) = ((i + 1 : Nat) : Int) := by rw [IntWalk.i64_in _ (by omega)]; omega
      have hV2 := hv.out.later _ _ _ hV bN
      have hB2 := hBw.below2 bN
      have hsz := hBw.size
      rw [← usesTo_none f] at hV2 hG
      go_upto_region 4 with fail
      try simp only [← eK]
      obtain ⟨bc, hbc⟩ : ∃ b, Hid (wr.heap.size = b) := ⟨_, Lib.hid rfl⟩
      obtain ⟨w3, hw3⟩ : ∃ Y, wr.alloc (.cells #[.int .i64 (f : Nat), .int .i64 (t : Nat), .int .i64 y.en.kind, .int .i64 y.en.a, .int .i64 y.en.to, .int .i64 y.en.els, .slice TA y.en.ta.length tc, .slice EA y.en.ea.length ec, .int .i64 y.en.n, .int .i64 y.en.at_] 43) = Y := ⟨_, rfl⟩
      rw [hw3] at N0 hV2 hB2
      rw [hbc.out] at N0 hsz
      simp only [hw3, hbc.out]
      have hbq : bc ≠ q := by omega
      clear hw3 bN c0 c1 c2 c3 c4 c5 c6 c7 c8 c9 d3 d4 d5 d6 d7 d8 d9 eK hC hV hBw hBk s3
      have n0 := N0.cell 0
      go_wp2_with fail
      clear n0
      go_loopw [7] (fun v wq => ∃ j : Nat, f ≤ j ∧ j ≤ t ∧ v = .int .i64 j ∧ Vis (usesTo c i f j) wq ∧ Hid (∀ u ∈ usesTo c i f j, g u = true) ∧ But q W wq ∧ Box wq bc 43 #[.int .i64 (f : Nat), .int .i64 (t : Nat), .int .i64 y.en.kind, .int .i64 y.en.a, .int .i64 y.en.to, .int .i64 y.en.els, .slice TA y.en.ta.length tc, .slice EA y.en.ea.length ec, .int .i64 y.en.n, .int .i64 y.en.at_]) (fun v _ => t - iOf v)
      case atStart => exact ⟨f, Nat.le_refl _, hft, rfl, hV2, hG, hB2, N0⟩
      case round =>
        clear hV2 hG hB2 N0
        obtain ⟨j, hfj, hjt, rfl, hV, hG, hBw, BC⟩ := hrel
        have k1 := BC.cell 1
        have hC := h.but hBw hq0 hqp
        by_cases hjl : j < t
        · have hji : j < c.ins.length := by omega
          obtain ⟨gi, oi, eI, c0, c1, c2, c3, c4, c5, c6, c7⟩ := hC.at_.i j hji
          have s2 := hC.pt.s2
          have hyop := hop.out _ (List.getElem_mem hji)
          have hus := Lib.hid (usesAt_of (c := c) (i := i) hji)
          have hnx := Lib.hid (usesTo_next (c := c) (i := i) hfj)
          obtain ⟨⟨opI, iw, ip, ia, ib, ic, inn, iat⟩, hyi⟩ : ∃ t, Hid (c.ins[j] = t) := ⟨_, Lib.hid rfl⟩
          simp only [hyi.out] at c0 c1 c2 c3 c4 c5 c6 c7 hyop hus
          obtain ⟨op, rfl, hol⟩ : ∃ k : Nat, opI = k ∧ k < 37 := ⟨opI.toNat, by have := op_lt hyop; omega, by have := op_lt hyop; omega⟩
          have hrv := (row_val op hol hyop).1
          have hr := hC.rowv op hol
          rw [hrv] at hr
          have hvn := valN_le (op : Int)
          have ha : Hid (argsOf ⟨op, iw, ip, ia, ib, ic, inn, iat⟩ = [ia, ib, ic].take (valN (op : Int))) := Lib.hid rfl
          rw [ha.out] at hus
          obtain ⟨vn, hvn2⟩ : ∃ q, Hid (valN (op : Int) = q) := ⟨_, Lib.hid rfl⟩
          rw [hvn2.out] at hr hvn hus
          have hjc : (j : Int) < c.ins.length := by omega
          have hjtc : (j : Int) < (t : Nat) := by omega
          have hwj : IntKind.i64.wrap ((j : Int) + 1) = ((j + 1 : Nat) : Int) := by rw [IntWalk.i64_in _ (by omega)]; omega
          have N4 := Box.new wr 47 #[.int .i64 (op : Nat), .int .i64 iw, .int .i64 ip, .int .i64 ia, .int .i64 ib, .int .i64 ic, .int .u64 inn, .int .i64 iat]
          have bN : Below wr.heap.size wr (wr.alloc (.cells #[.int .i64 (op : Nat), .int .i64 iw, .int .i64 ip, .int .i64 ia, .int .i64 ib, .int .i64 ic, .int .u64 inn, .int .i64 iat] 47)) := (Below.refl _ _).alloc (Nat.le_refl _) _
          have hV4 := hv.out.later _ _ _ hV bN
          have hB4 := hBw.below2 bN
          have BC4 := BC.below bN
          have hr4 := cell_later bN hr
          have hszr := hBw.size
          go_upto_region 8 with fail
          try simp only [← eI]
          obtain ⟨bi, hbi⟩ : ∃ b, Hid (wr.heap.size = b) := ⟨_, Lib.hid rfl⟩
          obtain ⟨w4, hw4⟩ : ∃ Y, wr.alloc (.cells #[.int .i64 (op : Nat), .int .i64 iw, .int .i64 ip, .int .i64 ia, .int .i64 ib, .int .i64 ic, .int .u64 inn, .int .i64 iat] 47) = Y := ⟨_, rfl⟩
          rw [hw4] at N4 hV4 hB4 BC4 hr4
          rw [hbi.out] at N4 hszr
          simp only [hw4, hbi.out]
          clear hw4 bN c0 c1 c2 c3 c4 c5 c6 c7 s2 eI hC hV hBw BC k1 hr hyop hrv ha
          have hopc : (op : Int) < 37 := by omega
          have hmk : Hid (∀ X, Bel w4 X → X.cell? ⟨bi, 0, none⟩ = some (.int .i64 (op : Nat)) ∧ X.cell? ⟨bi, 1, none⟩ = some (.int .i64 iw) ∧ X.cell? ⟨bi, 2, none⟩ = some (.int .i64 ip) ∧ X.cell? ⟨bi, 3, none⟩ = some (.int .i64 ia) ∧ X.cell? ⟨bi, 4, none⟩ = some (.int .i64 ib) ∧ X.cell? ⟨bi, 5, none⟩ = some (.int .i64 ic) ∧ X.cell? ⟨bi, 6, none⟩ = some (.int .u64 inn) ∧ X.cell? ⟨bi, 7, none⟩ = some (.int .i64 iat) ∧ X.cell? ⟨p, 4 + op * 3, none⟩ = some (.int .i64 (vn : Nat)) ∧ Bel w4 X) :=
            Lib.hid (fun X hX => ⟨hX.cell (N4.cell 0), hX.cell (N4.cell 1), hX.cell (N4.cell 2), hX.cell (N4.cell 3), hX.cell (N4.cell 4), hX.cell (N4.cell 5), hX.cell (N4.cell 6), hX.cell (N4.cell 7), hX.cell hr4, hX⟩)
          have hcc := hmk.out _ (Bel.refl w4)
          have hq4 := Bel.refl w4
          have hvnc : (vn : Int) ≤ 3 := by omega
          go_region_held3 (fun w' => w'.cell? ⟨bi, 0, none⟩ = some (.int .i64 (op : Nat)) ∧ w'.cell? ⟨bi, 1, none⟩ = some (.int .i64 iw) ∧ w'.cell? ⟨bi, 2, none⟩ = some (.int .i64 ip) ∧ w'.cell? ⟨bi, 3, none⟩ = some (.int .i64 ia) ∧ w'.cell? ⟨bi, 4, none⟩ = some (.int .i64 ib) ∧ w'.cell? ⟨bi, 5, none⟩ = some (.int .i64 ic) ∧ w'.cell? ⟨bi, 6, none⟩ = some (.int .u64 inn) ∧ w'.cell? ⟨bi, 7, none⟩ = some (.int .i64 iat) ∧ w'.cell? ⟨p, 4 + op * 3, none⟩ = some (.int .i64 (vn : Nat)) ∧ Bel w4 w')
            ((first | assumption | (refine hmk.out _ ?_; repeat (first | assumption | refine Bel.drew ?_)))) (first | (go_at_call 54; refine (valuesOf_any ⟨op, iw, ip, ia, ib, ic, inn, iat⟩).mono ?_; rintro e w5 ⟨rfl, B5, b5⟩; have hS5 : Bel w4 w5 := Bel.below (Bel.drew hq4) b5))
          have hV5 := hv.out.later _ _ _ hV4 hS5
          have hB5 := hB4.below2 hS5
          have BC5 := BC4.below hS5
          obtain ⟨bv, hbv⟩ : ∃ q, Hid (w4.heap.size + 1 = q) := ⟨_, Lib.hid rfl⟩
          have B5' : Box w5 bv 3 (ints [ia, ib, ic]) := hbv.out ▸ B5
          have hsz4 := hB4.size
          have hbvq : bv ≠ q := by have := hbv.out; omega
          have hbcq : bc ≠ q := hbq
          simp only [hbv.out]
          have hlen3 : [ia, ib, ic].length = 3 := rfl
          obtain ⟨vl, hvl⟩ : ∃ q, Hid ([ia, ib, ic] = q) := ⟨_, Lib.hid rfl⟩
          rw [hvl.out] at hus hlen3 B5'
          obtain ⟨ul, hul⟩ : ∃ q, Hid (usesAt c i j = q) := ⟨_, Lib.hid rfl⟩
          have hulen : Hid (ul.length = vn) := Lib.hid (by rw [← hul.out, hus.out]; simp; omega)
          have hulat : Hid (∀ (kk : Nat) (h1 : kk < ul.length) (h2 : kk < vl.length), ul[kk] = ⟨vl[kk], i, j⟩) := Lib.hid (fun kk h1 h2 => by
            have e : ul = (vl.take vn).map fun v => ⟨v, i, j⟩ := by rw [← hul.out, hus.out]
            subst e
            simp)
          have hP2 := Lib.hid (fun kk => hPa.out j kk hfj hjl)
          rw [hul.out] at hP2 hnx
          clear hcc hmk hS5 b5 B5 hV4 hB4 BC4 hr4 N4 hq4 hus
          have hV6 : Vis (usesTo c i f j ++ ul.take 0) w5 := by rw [List.take_zero, List.append_nil]; exact hV5
          have hG6 : Hid (∀ u ∈ usesTo c i f j ++ ul.take 0, g u = true) := by rw [List.take_zero, List.append_nil]; exact hG
          go_wp2_with fail
          go_loopw [52] (fun v wq => ∃ kk : Nat, kk ≤ vn ∧ v = .int .i64 kk ∧ Vis (usesTo c i f j ++ ul.take kk) wq ∧ Hid (∀ u ∈ usesTo c i f j ++ ul.take kk, g u = true) ∧ But q W wq ∧ Box wq bc 43 #[.int .i64 (f : Nat), .int .i64 (t : Nat), .int .i64 y.en.kind, .int .i64 y.en.a, .int .i64 y.en.to, .int .i64 y.en.els, .slice TA y.en.ta.length tc, .slice EA y.en.ea.length ec, .int .i64 y.en.n, .int .i64 y.en.at_] ∧ Box wq bv 3 (ints vl)) (fun v _ => vn - iOf v)
          case atStart => exact ⟨0, Nat.zero_le _, rfl, hV6, hG6, hB5, BC5, B5'⟩
          case round =>
            clear hV5 hV6 hG6 hB5 BC5 B5' hG
            obtain ⟨kk, hkk, rfl, hV, hG, hBw, BC, BV⟩ := hrel
            by_cases hkl : kk < vn
            · have hk3 : kk < vl.length := by omega
              have hku : kk < ul.length := by rw [hulen.out]; exact hkl
              have cv := BV.cell kk
              rw [ints_get _ _ hk3] at cv
              have hue := hulat.out kk hku hk3
              obtain ⟨z, hz⟩ : ∃ z, Hid (vl[kk] = z) := ⟨_, Lib.hid rfl⟩
              rw [hz.out] at cv hue
              have hpre := hP2.out (kk + 1)
              rw [take_snoc hku, hue] at hpre
              have hcall := hv.out.call _ ⟨z, i, j⟩ _ hpre hV
              have hmem : (⟨z, i, j⟩ : Us) ∈ allUses c := hpre.subset (by simp)
              have hsn := Lib.hid (take_snoc hku (usesTo c i f j))
              rw [hue] at hsn
              obtain ⟨gb, hgb⟩ : ∃ q, Hid (g ⟨z, i, j⟩ = q) := ⟨_, Lib.hid rfl⟩
              rw [hgb.out] at hcall
              replace hcall := Lib.hid hcall
              replace hmem := Lib.hid hmem
              have hkc : (kk : Int) < vn := by omega
              have hwk : IntKind.i64.wrap ((kk : Int) + 1) = ((kk + 1 : Nat) : Int) := by rw [IntWalk.i64_in _ (by omega)]; omega
              clear hue hpre
              go_wp2_with fail
              refine hcall.out.mono ?_
              rintro r w6 ⟨rfl, b6, v6, o6⟩
              have hB6 := hBw.trans b6
              clear hcall cv
              cases gb with
              | false =>
                have ho := o6 rfl
                clear v6 o6
                go_wp2
                go_ret
                exact ⟨false, rfl, fun e => by simp at e, fun _ => ⟨ho, _, hmem.out, hgb.out⟩, hB6⟩
              | true =>
                have hv6 := v6 rfl
                have hgs := Lib.hid (good_snoc hG.out hgb.out)
                rw [← hsn.out] at hv6 hgs
                clear v6 o6
                have BC6 := b6.box BC hbq
                have BV6 := b6.box BV hbvq
                go_wp2_with fail
                go_roundw
                case rel => exact ⟨kk + 1, hkl, by go_num, hv6, hgs, hB6, BC6, BV6⟩
                case measure => simp only [iOf]; omega
            · have hke : kk = ul.length := by rw [hulen.out]; omega
              have hV7 : Vis (usesTo c i f (j + 1)) wr := by rw [hnx.out]; rw [hke, List.take_length] at hV; exact hV
              have hG7 : Hid (∀ u ∈ usesTo c i f (j + 1), g u = true) := by rw [hnx.out]; rw [hke, List.take_length] at hG; exact hG
              clear hV hG hke
              go_wp2_with fail
              go_roundw
              case rel => exact ⟨j + 1, by omega, hjl, by go_num, hV7, hG7, hBw, BC⟩
              case measure => simp only [iOf]; omega
        · have hje : j = t := by omega
          subst hje
          have n2 := BC.cell 2
          have n3 := BC.cell 3
          have n4 := BC.cell 4
          have n5 := BC.cell 5
          have n6 := BC.cell 6
          have n7 := BC.cell 7
          have n8 := BC.cell 8
          have n9 := BC.cell 9
          obtain ⟨w0, hw0⟩ : ∃ X, Hid (X = wr) := ⟨_, Lib.hid rfl⟩
          have hub := Lib.hid (usedByEnd_any (W := wr) y.en TA EA tc ec (hle.out.later hC.below) hen)
          have hszr := hBw.size
          clear hfj hjt hjl
          go_wp2_with fail
          refine hub.out.mono ?_
          rintro r w5 ⟨v5, rfl, hO5, b5⟩
          rw [← hw0.out] at hO5 hszr
          have hV5 := hv.out.later _ _ _ hV b5
          have hB5 := hBw.below2 b5
          have BC5 := BC.below b5
          obtain ⟨A5, c5, rfl⟩ := hO5.form
          clear hub n2 n3 n4 n5 n6 n7 n8 n9 k1 hV hBw BC hC b5
          obtain ⟨ea, hea⟩ : ∃ q, Hid (endArgs y.en = q) := ⟨_, Lib.hid rfl⟩
          rw [hea.out] at hO5 hen
          simp only [hea.out]
          obtain ⟨ul, hul⟩ : ∃ q, Hid (usesEnd i j y.en = q) := ⟨_, Lib.hid rfl⟩
          have hulen : Hid (ul.length = ea.length) := Lib.hid (by rw [← hul.out, ← hea.out]; unfold usesEnd; simp)
          have hulat : Hid (∀ (kk : Nat) (h1 : kk < ul.length) (h2 : kk < ea.length), ul[kk] = ⟨ea[kk], i, j⟩) := Lib.hid (fun kk h1 h2 => by
            have e : ul = ea.map fun v => ⟨v, i, j⟩ := by rw [← hul.out, ← hea.out]; rfl
            subst e
            simp)
          rw [hul.out] at hPe hAl
          have hV6 : Vis (usesTo c i f j ++ ul.take 0) w5 := by rw [List.take_zero, List.append_nil]; exact hV5
          have hG6 : Hid (∀ u ∈ usesTo c i f j ++ ul.take 0, g u = true) := by rw [List.take_zero, List.append_nil]; exact hG
          go_wp2_with fail
          go_loopw [68] (fun v wq => ∃ kk : Nat, kk ≤ ea.length ∧ v = .int .i64 kk ∧ Vis (usesTo c i f j ++ ul.take kk) wq ∧ Hid (∀ u ∈ usesTo c i f j ++ ul.take kk, g u = true) ∧ But q W wq ∧ Box wq bc 43 #[.int .i64 (f : Nat), .int .i64 (j : Nat), .int .i64 y.en.kind, .int .i64 y.en.a, .int .i64 y.en.to, .int .i64 y.en.els, .slice TA y.en.ta.length tc, .slice EA y.en.ea.length ec, .int .i64 y.en.n, .int .i64 y.en.at_] ∧ IOwn wq w0.heap.size (.slice A5 ea.length c5) ea) (fun v _ => ea.length - iOf v)
          case atStart => exact ⟨0, Nat.zero_le _, rfl, hV6, hG6, hB5, BC5, hO5⟩
          case round =>
            clear hV5 hV6 hG6 hB5 BC5 hO5 hG
            obtain ⟨kk, hkk, rfl, hV, hG, hBw, BC, hO⟩ := hrel
            by_cases hkl : kk < ea.length
            · have hku : kk < ul.length := by rw [hulen.out]; exact hkl
              obtain ⟨_, c9, e9, lc1, lc2, hrow⟩ := hO.read
              obtain ⟨g9, o9, eA9, cv⟩ := hO.row kk hkl
              clear e9 hrow lc1 lc2 c9
              have hue := hulat.out kk hku hkl
              obtain ⟨z, hz⟩ : ∃ z, Hid (ea[kk] = z) := ⟨_, Lib.hid rfl⟩
              rw [hz.out] at cv hue
              have hpre := hPe.out (kk + 1)
              rw [take_snoc hku, hue] at hpre
              have hcall := hv.out.call _ ⟨z, i, j⟩ _ hpre hV
              have hmem : (⟨z, i, j⟩ : Us) ∈ allUses c := hpre.subset (by simp)
              have hsn := Lib.hid (take_snoc hku (usesTo c i f j))
              rw [hue] at hsn
              obtain ⟨gb, hgb⟩ : ∃ q, Hid (g ⟨z, i, j⟩ = q) := ⟨_, Lib.hid rfl⟩
              rw [hgb.out] at hcall
              replace hcall := Lib.hid hcall
              replace hmem := Lib.hid hmem
              have hkc : (kk : Int) < ea.length := by omega
              have hwk : IntKind.i64.wrap ((kk : Int) + 1) = ((kk + 1 : Nat) : Int) := by rw [IntWalk.i64_in _ (by omega)]; omega
              have k1 := BC.cell 1
              have eA8 := Lib.hid eA9
              clear hue hpre
              go_wp2_with fail
              try simp only [← eA9]
              refine hcall.out.mono ?_
              rintro r w6 ⟨rfl, b6, v6, o6⟩
              have hB6 := hBw.trans b6
              clear hcall cv eA9 k1
              cases gb with
              | false =>
                have ho := o6 rfl
                clear v6 o6
                go_wp2
                go_ret
                exact ⟨false, rfl, fun e => by simp at e, fun _ => ⟨ho, _, hmem.out, hgb.out⟩, hB6⟩
              | true =>
                have hv6 := v6 rfl
                have hgs := Lib.hid (good_snoc hG.out hgb.out)
                rw [← hsn.out] at hv6 hgs
                clear v6 o6
                have BC6 := b6.box BC hbq
                have hO6 : IOwn w6 w0.heap.size (.slice A5 ea.length c5) ea := hO.but b6 (fun e => by have := (hO.lt q e.symm).1; omega)
                go_wp2_with fail
                go_roundw
                case rel => exact ⟨kk + 1, hkl, by go_num, hv6, hgs, hB6, BC6, hO6⟩
                case measure => simp only [iOf]; omega
            · have hke : kk = ul.length := by rw [hulen.out]; omega
              have hV7 : Vis (usesBefore c (i + 1)) wr := by rw [← hAl.out]; rw [hke, List.take_length] at hV; exact hV
              have hG7 : Hid (∀ u ∈ usesBefore c (i + 1), g u = true) := by rw [← hAl.out]; rw [hke, List.take_length] at hG; exact hG
              clear hV hG hke
              go_wp2_with fail
              go_roundw
              case rel => exact ⟨i + 1, hlt, by go_num, hV7, hG7, hBw⟩
              case measure => simp only [iOf]; omega
    · have hie : i = c.bk.length := by omega
      subst hie
      rw [usesBefore_all] at hV hG
      go_wp2
      go_ret
      exact ⟨true, rfl, fun _ => ⟨hV, hG.out⟩, fun e => by simp at e, hBw⟩
end Go.Proofs.YtnbgadndkepomaaGreatDoor
