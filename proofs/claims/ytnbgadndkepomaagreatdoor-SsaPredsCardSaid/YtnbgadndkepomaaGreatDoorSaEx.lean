/- ssa: examine. -/
import Derived.Test.YtnbgadndkepomaaGreatDoorSQA
import Derived.Test.YtnbgadndkepomaaGreatDoorSaVf2
import Derived.Test.YtnbgadndkepomaaGreatDoorSaLst
import Derived.Test.YtnbgadndkepomaaGreatDoorSQF
import Derived.Test.YtnbgadndkepomaaGreatDoorSaFf
import Derived.Test.YtnbgadndkepomaaGreatDoorSaEnf
import Derived.Test.YtnbgadndkepomaaGreatDoorSaIn2
import Derived.Test.YtnbgadndkepomaaGreatDoorSaArg
namespace Go.Proofs.YtnbgadndkepomaaGreatDoor
open Go.RowKit

/-- The cells of a code that is to be examined. -/
def codeA (s n i k : Value) : Array Value := #[s, n, i, k] ++ rowsA ++ #[.slice none 0 0, .slice none 0 0, .slice none 0 0, .slice none 0 0, .slice none 0 0]
theorem codeA_size (s n i k : Value) : (codeA s n i k).size = 120 := by kernel_rfl
theorem codeA_rows (s n i k : Value) : ∀ j, j < 111 → (codeA s n i k)[4 + j]? = rowsA[j]? := fun j hj => by
  have h : (List.range 111).map (fun j => (codeA s n i k)[4 + j]?) = (List.range 111).map (fun j => rowsA[j]?) := by kernel_rfl
  have := congrArg (·[j]?) h
  simpa [hj] using this
theorem codeA_117 (s n i k : Value) : (codeA s n i k)[117]? = some (.slice none 0 0) := by kernel_rfl
/-- What is known of a valid code that was examined. -/
structure Exd (W0 w : World) (p : Nat) (c : Cd) (x : Sl) (cs : Array Value) : Prop where
  cod : Cod W0 w p c x cs
  valid : ValidP c
  ord : ∃ g q, cs[117]? = some (.slice (some ⟨g, 0, none⟩) (orderOf (succs c) c.bk.length).length q) ∧ (orderOf (succs c) c.bk.length).length ≤ q ∧ q ≤ maxLen ∧ IRow w (some ⟨g, 0, none⟩) (nats (orderOf (succs c) c.bk.length))
  pre : ∃ bp V B, cs[118]? = some (.slice (some ⟨bp, 0, none⟩) c.bk.length c.bk.length) ∧ PTab w B bp c.bk.length V (fun t => nats (predsOf (succs c) c.bk.length t))
def ExPost (W : World) (c : Cd) (x : Sl) (e : Ending) (w' : World) : Prop :=
  ∃ (r : Option Addr) (v : Bool), e = .returned (.tuple #[.pointer r, .bool v]) ∧ v = B (ValidP c) ∧ Below W.heap.size W w' ∧ (v = true → ∃ p cs, r = some ⟨p, 0, none⟩ ∧ Exd W w' p c x cs)
set_option maxRecDepth 100000 in
set_option maxHeartbeats 3200000 in
theorem examine_any {W : World} {c : Cd} {x : Sl} (hx : CdAt W c x) (ok : c.ok) (hv : ErrV W) :
    Calls Tryz.prog 32 #[.agg #[.slice x.S c.st.length x.sc, .slice x.N c.nm.length x.nc, .slice x.I c.ins.length x.ic, .slice x.K c.bk.length x.kc]] W (ExPost W c x) := by
  obtain ⟨R, hR⟩ : ∃ R, Hid (B (ValidP c) = R) := ⟨_, Lib.hid rfl⟩
  unfold ExPost
  simp only [hR.out]
  have N := Box.new W 27 #[.slice x.S c.st.length x.sc, .slice x.N c.nm.length x.nc, .slice x.I c.ins.length x.ic, .slice x.K c.bk.length x.kc]
  have bA : Below W.heap.size W (W.alloc (.cells #[.slice x.S c.st.length x.sc, .slice x.N c.nm.length x.nc, .slice x.I c.ins.length x.ic, .slice x.K c.bk.length x.kc] 27)) := (Below.refl _ _).alloc (Nat.le_refl _) _
  go_enter Tryz.func32, Tryz.ntmps32
  go_upto_region 1 with fail
  obtain ⟨bu, hbu⟩ : ∃ b, Hid (W.heap.size = b) := ⟨_, Lib.hid rfl⟩
  obtain ⟨w1, hw1⟩ : ∃ Y, W.alloc (.cells #[.slice x.S c.st.length x.sc, .slice x.N c.nm.length x.nc, .slice x.I c.ins.length x.ic, .slice x.K c.bk.length x.kc] 27) = Y := ⟨_, rfl⟩
  rw [hw1] at N bA
  rw [hbu.out] at N
  simp only [hw1, hbu.out]
  clear hw1
  have hmk : Hid (∀ X, Bel w1 X → X.cell? ⟨bu, 0, none⟩ = some (.slice x.S c.st.length x.sc) ∧ X.cell? ⟨bu, 1, none⟩ = some (.slice x.N c.nm.length x.nc) ∧ X.cell? ⟨bu, 2, none⟩ = some (.slice x.I c.ins.length x.ic) ∧ X.cell? ⟨bu, 3, none⟩ = some (.slice x.K c.bk.length x.kc) ∧ Bel w1 X) :=
    Lib.hid (fun X hX => ⟨hX.cell (N.cell 0), hX.cell (N.cell 1), hX.cell (N.cell 2), hX.cell (N.cell 3), hX⟩)
  have hcc := hmk.out _ (Bel.refl w1)
  have hq0 := Bel.refl w1
  have hszr : rowsA.size = 111 := by kernel_rfl
  have hfold : Array.foldl (fun cs x => cs.setIfInBounds (4 + x.snd) x.fst) ((((Tryz.zeroCells72.setIfInBounds 0 (Value.slice x.S c.st.length x.sc)).setIfInBounds 1 (Value.slice x.N c.nm.length x.nc)).setIfInBounds 2 (Value.slice x.I c.ins.length x.ic)).setIfInBounds 3 (Value.slice x.K c.bk.length x.kc)) rowsA.zipIdx 0 111 = codeA (.slice x.S c.st.length x.sc) (.slice x.N c.nm.length x.nc) (.slice x.I c.ins.length x.ic) (.slice x.K c.bk.length x.kc) := by kernel_rfl
  go_region_held3 (fun w' => w'.cell? ⟨bu, 0, none⟩ = some (.slice x.S c.st.length x.sc) ∧ w'.cell? ⟨bu, 1, none⟩ = some (.slice x.N c.nm.length x.nc) ∧ w'.cell? ⟨bu, 2, none⟩ = some (.slice x.I c.ins.length x.ic) ∧ w'.cell? ⟨bu, 3, none⟩ = some (.slice x.K c.bk.length x.kc) ∧ Bel w1 w')
    ((first | assumption | (refine hmk.out _ ?_; repeat (first | assumption | refine Bel.drew ?_ | refine Bel.alloc ?_ _)))) (first | (go_at_call 42; refine rows_any.mono ?_; rintro e w5 ⟨rfl, b5⟩; have hS5 : Bel w1 w5 := Bel.below (Bel.drew hq0) b5))
  obtain ⟨cA, hcA⟩ : ∃ q, Hid (codeA (.slice x.S c.st.length x.sc) (.slice x.N c.nm.length x.nc) (.slice x.I c.ins.length x.ic) (.slice x.K c.bk.length x.kc) = q) := ⟨_, Lib.hid rfl⟩
  have hz1 := codeA_size (.slice x.S c.st.length x.sc) (.slice x.N c.nm.length x.nc) (.slice x.I c.ins.length x.ic) (.slice x.K c.bk.length x.kc)
  have hz2 := codeA_rows (.slice x.S c.st.length x.sc) (.slice x.N c.nm.length x.nc) (.slice x.I c.ins.length x.ic) (.slice x.K c.bk.length x.kc)
  have hz3 := codeA_117 (.slice x.S c.st.length x.sc) (.slice x.N c.nm.length x.nc) (.slice x.I c.ins.length x.ic) (.slice x.K c.bk.length x.kc)
  have hz4 : (codeA (.slice x.S c.st.length x.sc) (.slice x.N c.nm.length x.nc) (.slice x.I c.ins.length x.ic) (.slice x.K c.bk.length x.kc))[0]? = some (.slice x.S c.st.length x.sc) := by kernel_rfl
  have hz5 : (codeA (.slice x.S c.st.length x.sc) (.slice x.N c.nm.length x.nc) (.slice x.I c.ins.length x.ic) (.slice x.K c.bk.length x.kc))[1]? = some (.slice x.N c.nm.length x.nc) := by kernel_rfl
  have hz6 : (codeA (.slice x.S c.st.length x.sc) (.slice x.N c.nm.length x.nc) (.slice x.I c.ins.length x.ic) (.slice x.K c.bk.length x.kc))[2]? = some (.slice x.I c.ins.length x.ic) := by kernel_rfl
  have hz7 : (codeA (.slice x.S c.st.length x.sc) (.slice x.N c.nm.length x.nc) (.slice x.I c.ins.length x.ic) (.slice x.K c.bk.length x.kc))[3]? = some (.slice x.K c.bk.length x.kc) := by kernel_rfl
  simp only [hcA.out]
  rw [hcA.out] at hz1 hz2 hz3 hz4 hz5 hz6 hz7
  clear hfold hszr hmk hcc
  have b6 : Below w5.heap.size w5 (w5.alloc (.cells cA 72)) := (Below.refl _ _).alloc (Nat.le_refl _) _
  have N6 := Box.new w5 72 cA
  have bW5 : Below W.heap.size W w5 := bA.trans (Below.mono hS5 bA.size)
  have bW6 := bW5.trans (b6.mono bW5.size)
  obtain ⟨p, hp⟩ : ∃ q, Hid (w5.heap.size = q) := ⟨_, Lib.hid rfl⟩
  obtain ⟨w6, hw6⟩ : ∃ Y, w5.alloc (.cells cA 72) = Y := ⟨_, rfl⟩
  have hpW : W.heap.size ≤ p := by rw [← hp.out]; exact bW5.size
  rw [hw6] at b6 N6 bW6
  rw [hp.out] at N6
  simp only [hw6, hp.out]
  have hC6 : Cod W w6 p c x cA := ⟨hx, bW6, hpW, N6, hz1, hz4, hz5, hz6, hz7, hz2⟩
  have hv6 := hv.later bW6
  clear hw6 N6 b6 hS5 b5 bW5 hz1 hz2 hz4 hz5 hz6 hz7 hcA
  have hlf := Lib.hid (listsFit_any hC6.pt ok hv6)
  have hno : Hid (¬ ListsP c → R = false) := Lib.hid (fun h => by rw [← hR.out]; exact B_not (fun k => h k.1.1.1))
  by_cases hL : ListsP c
  rotate_left 1
  · rw [B_not hL] at hlf
    have hQ := Lib.hid (hno.out hL)
    clear hL hno
    go_wp2_with fail
    refine hlf.out.mono ?_
    rintro e w7 ⟨rfl, b7⟩
    clear hlf
    go_wp2
    refine bodyPost_ret (v := .tuple #[.pointer none, .bool false]) (by simp [results, Tryz.results32, go_sem]) rfl ?_
    exact ⟨none, false, rfl, hQ.out.symm, bW6.trans (b7.mono bW6.size), fun e => by simp at e⟩
  rw [B_of hL] at hlf
  clear hno
  go_wp2_with fail
  refine hlf.out.mono ?_
  rintro e w7 ⟨rfl, b7⟩
  clear hlf
  have hC7 := hC6.later b7
  have hbf := Lib.hid (blocksFit_any hC7.pt ok)
  have hno : Hid (¬ BlocksP c → R = false) := Lib.hid (fun h => by rw [← hR.out]; exact B_not (fun k => h k.1.1.2))
  clear hC6 b7 hv6
  by_cases hBl : BlocksP c
  rotate_left 1
  · rw [B_not hBl] at hbf
    have hQ := Lib.hid (hno.out hBl)
    clear hBl hno
    go_wp2_with fail
    refine hbf.out.mono ?_
    rintro e w8 ⟨rfl, b8⟩
    clear hbf
    go_wp2
    refine bodyPost_ret (v := .tuple #[.pointer none, .bool false]) (by simp [results, Tryz.results32, go_sem]) rfl ?_
    exact ⟨none, false, rfl, hQ.out.symm, (hC7.later b8).below, fun e => by simp at e⟩
  rw [B_of hBl] at hbf
  clear hno
  have hn := hL.2.2.1.2
  have hn0 := hL.2.2.1.1
  replace hL := Lib.hid hL
  replace hBl := Lib.hid hBl
  go_wp2_with fail
  refine hbf.out.mono ?_
  rintro e w8 ⟨rfl, b8⟩
  clear hbf
  have hC8 := hC7.later b8
  have hfp := Lib.hid (findParameters_any hC8 ok hL.out hBl.out)
  clear hC7 b8
  go_wp2_with fail
  refine hfp.out.mono ?_
  rintro e w9 ⟨rfl, b1, b2, P, H, g1, g2, g12, lP, lH, vP, vH, hC9, BP, BH⟩
  have hgb2 : W.heap.size ≤ b2 := Nat.le_trans hC8.below.size g2
  clear hfp hC8
  have hz3' : Hid (((cA.setIfInBounds 115 (.slice (some ⟨b1, 0, none⟩) c.bk.length c.bk.length)).setIfInBounds 116 (.slice (some ⟨b2, 0, none⟩) c.ins.length c.ins.length))[117]? = some (.slice none 0 0)) := Lib.hid (by rw [Array.getElem?_setIfInBounds_ne (by omega), Array.getElem?_setIfInBounds_ne (by omega)]; exact hz3)
  have hz115 : Hid (((cA.setIfInBounds 115 (.slice (some ⟨b1, 0, none⟩) c.bk.length c.bk.length)).setIfInBounds 116 (.slice (some ⟨b2, 0, none⟩) c.ins.length c.ins.length))[115]? = some (.slice (some ⟨b1, 0, none⟩) c.bk.length c.bk.length)) := Lib.hid (by have := hC9.sz; simp at this; rw [Array.getElem?_setIfInBounds_ne (by omega), Array.getElem?_setIfInBounds_self_of_lt (by omega)])
  have hz116 : Hid (((cA.setIfInBounds 115 (.slice (some ⟨b1, 0, none⟩) c.bk.length c.bk.length)).setIfInBounds 116 (.slice (some ⟨b2, 0, none⟩) c.ins.length c.ins.length))[116]? = some (.slice (some ⟨b2, 0, none⟩) c.ins.length c.ins.length)) := Lib.hid (by have := hC9.sz; simp at this; rw [Array.getElem?_setIfInBounds_self_of_lt (by simp; omega)])
  clear hz3
  obtain ⟨cB, hcB⟩ : ∃ q, Hid ((cA.setIfInBounds 115 (.slice (some ⟨b1, 0, none⟩) c.bk.length c.bk.length)).setIfInBounds 116 (.slice (some ⟨b2, 0, none⟩) c.ins.length c.ins.length) = q) := ⟨_, Lib.hid rfl⟩
  rw [hcB.out] at hC9 hz3' hz115 hz116
  have hPre : Pre w9 p c b1 b2 P H := ⟨by rw [hC9.box.cell]; exact hz115.out, by rw [hC9.box.cell]; exact hz116.out, lP, lH, vP, vH, BP, BH⟩
  replace vH := Lib.hid vH
  replace lH := Lib.hid lH
  clear vP lP BP hcB hz115
  have hff := Lib.hid (fieldsFit_any hC9 ok hL.out hBl.out hPre)
  have hno : Hid (¬ FieldsP c → R = false) := Lib.hid (fun h => by rw [← hR.out]; exact B_not (fun k => h k.1.2.1))
  by_cases hF : FieldsP c
  rotate_left 1
  · rw [B_not hF] at hff
    have hQ := Lib.hid (hno.out hF)
    clear hF hno
    go_wp2_with fail
    refine hff.out.mono ?_
    rintro e wa ⟨rfl, ba⟩
    clear hff
    go_wp2
    refine bodyPost_ret (v := .tuple #[.pointer none, .bool false]) (by simp [results, Tryz.results32, go_sem]) rfl ?_
    exact ⟨none, false, rfl, hQ.out.symm, (hC9.later ba).below, fun e => by simp at e⟩
  rw [B_of hF] at hff
  clear hno
  replace hF := Lib.hid hF
  go_wp2_with fail
  refine hff.out.mono ?_
  rintro e wa ⟨rfl, ba⟩
  clear hff
  have hCa := hC9.later ba
  have hPa := hPre.later ba
  have BHa := BH.below ba
  clear hC9 hPre ba BH
  have hef := Lib.hid (endsFit_any hCa.pt hPa hL.out ok)
  have hno : Hid (¬ EndsP c → R = false) := Lib.hid (fun h => by rw [← hR.out]; exact B_not (fun k => h k.1.2.2))
  by_cases hE : EndsP c
  rotate_left 1
  · rw [B_not hE] at hef
    have hQ := Lib.hid (hno.out hE)
    clear hE hno
    go_wp2_with fail
    refine hef.out.mono ?_
    rintro e wb ⟨rfl, bb⟩
    clear hef
    go_wp2
    refine bodyPost_ret (v := .tuple #[.pointer none, .bool false]) (by simp [results, Tryz.results32, go_sem]) rfl ?_
    exact ⟨none, false, rfl, hQ.out.symm, (hCa.later bb).below, fun e => by simp at e⟩
  rw [B_of hE] at hef
  clear hno
  replace hE := Lib.hid hE
  go_wp2_with fail
  refine hef.out.mono ?_
  rintro e wb ⟨rfl, bb⟩
  clear hef
  have hCb := hCa.later bb
  have BHb := BHa.below bb
  clear hCa hPa bb BHa
  have hfo := Lib.hid (findOrder_any hCb hz3'.out hn0 hn hE.out)
  go_wp2_with fail
  refine hfo.out.mono ?_
  rintro e wc ⟨rfl, og, oq, g5, l1, l2, hCc, hRow, Bc⟩
  clear hfo
  have BHc : Box wc b2 3 (ints H) := (Bc.block b2 BHb.lt (fun e => by subst e; exact absurd (BHb.type hCb.box) (by decide))).trans BHb
  have k117 : wc.cell? ⟨p, 117, none⟩ = some (.slice (some ⟨og, 0, none⟩) (orderOf (succs c) c.bk.length).length oq) := by rw [hCc.box.cell]; rw [Array.getElem?_setIfInBounds_self_of_lt (by rw [hCb.sz]; omega)]
  have s3 := hCc.pt.s3
  have hogp : og ≠ p := by have := hCb.box.lt; omega
  have hri := reach_iff hE.out hn0
  have hno : Hid (¬ ReachP c → R = false) := Lib.hid (fun h => by rw [← hR.out]; exact B_not (fun k => h k.2.1))
  clear hCb BHb Bc g5
  by_cases hre : ReachP c
  rotate_left 1
  · have hne : ((((orderOf (succs c) c.bk.length).length : Nat) : Int) != (c.bk.length : Int)) = true := by
      have : (orderOf (succs c) c.bk.length).length ≠ c.bk.length := fun e => hre (hri.1 e)
      have h2 : (((orderOf (succs c) c.bk.length).length : Nat) : Int) ≠ (c.bk.length : Int) := by omega
      simpa using h2
    have hQ := Lib.hid (hno.out hre)
    have hbl := hCc.below
    clear hre hno hri hRow l1 l2
    go_wp2_with fail
    go_quiet (fail)
    go_wp2
    refine bodyPost_ret (v := .tuple #[.pointer none, .bool false]) (by simp [results, Tryz.results32, go_sem]) rfl ?_
    exact ⟨none, false, rfl, hQ.out.symm, hbl.trans ((Drew.below ⟨_, rfl⟩ : Below wc.heap.size wc _).mono hbl.size), fun e => by simp at e⟩
  have hne : ((((orderOf (succs c) c.bk.length).length : Nat) : Int) != (c.bk.length : Int)) = false := by
    rw [hri.2 hre]; simp
  clear hno hri
  go_wp2_with fail
  go_quiet (fail)
  clear hne k117 s3
  obtain ⟨wd, hwd⟩ : ∃ Y, wc.drewN nq = Y := ⟨_, rfl⟩
  have Dd : Below wc.heap.size wc wd := by rw [← hwd]; exact Drew.below ⟨nq, rfl⟩
  simp only [hwd]
  have hCd := hCc.later Dd
  have hRd := hRow.later Dd
  have BHd := BHc.below Dd
  clear hwd Dd hCc hRow BHc
  obtain ⟨ord, ho1, ho2, ho3⟩ := order_cons hE.out hn0 hre
  replace ho2 := Lib.hid ho2
  obtain ⟨OL, hOL⟩ : ∃ q, Hid (orderOf (succs c) c.bk.length = q) := ⟨_, Lib.hid rfl⟩
  simp only [hOL.out]
  rw [hOL.out] at l1 hCd hRd ho1
  obtain ⟨cC, hcC⟩ : ∃ q, Hid (cB.setIfInBounds 117 (.slice (some ⟨og, 0, none⟩) OL.length oq) = q) := ⟨_, Lib.hid rfl⟩
  have hc117 : Hid (cC[117]? = some (.slice (some ⟨og, 0, none⟩) OL.length oq)) := Lib.hid (by rw [← hcC.out, Array.getElem?_setIfInBounds_self_of_lt (by have := hCd.sz; simp at this; omega)])
  have hc116 : Hid (cC[116]? = some (.slice (some ⟨b2, 0, none⟩) c.ins.length c.ins.length)) := Lib.hid (by rw [← hcC.out, Array.getElem?_setIfInBounds_ne (by omega)]; exact hz116.out)
  rw [hcC.out] at hCd
  clear hz116 hz3' hcC
  have hfq := Lib.hid (findPredecessors_any hCd hn hE.out)
  go_wp2_with fail
  refine hfq.out.mono ?_
  rintro e we ⟨rfl, bp, V, g6, hCe, hPt, Be⟩
  clear hfq
  have BHe : Box we b2 3 (ints H) := (Be.block b2 BHd.lt (fun e => by subst e; exact absurd (BHd.type hCd.box) (by decide))).trans BHd
  have hRe := hRd.but Be hogp
  clear BHd hRd hCd Be g6
  obtain ⟨cD, hcD⟩ : ∃ q, Hid (cC.setIfInBounds 118 (.slice (some ⟨bp, 0, none⟩) c.bk.length c.bk.length) = q) := ⟨_, Lib.hid rfl⟩
  have hd118 : Hid (cD[118]? = some (.slice (some ⟨bp, 0, none⟩) c.bk.length c.bk.length)) := Lib.hid (by rw [← hcD.out, Array.getElem?_setIfInBounds_self_of_lt (by have := hCe.sz; simp at this; omega)])
  have hd117 : Hid (cD[117]? = some (.slice (some ⟨og, 0, none⟩) OL.length oq)) := Lib.hid (by rw [← hcD.out, Array.getElem?_setIfInBounds_ne (by omega)]; exact hc117.out)
  have hd116 : Hid (cD[116]? = some (.slice (some ⟨b2, 0, none⟩) c.ins.length c.ins.length)) := Lib.hid (by rw [← hcD.out, Array.getElem?_setIfInBounds_ne (by omega)]; exact hc116.out)
  rw [hcD.out] at hCe
  clear hc117 hc116 hcD
  subst ho1
  have hnl : (nats (0 :: ord)).length = (0 :: ord).length := by simp
  have hfd := Lib.hid (findDominators_any hCe hn0 hn hE.out hre (og := og) (oq := oq) (ord := ord) (by rw [hnl]; exact hd117.out) (by rw [hnl]; exact ⟨l1, l2⟩) hRe ho2.out (by omega) hd118.out hPt hogp)
  go_wp2_with fail
  refine hfd.out.mono ?_
  rintro e wf ⟨rfl, bd, D, g7, hCf, hBD, hokD, hlD, hdom, Bf⟩
  clear hfd
  have BHf : Box wf b2 3 (ints H) := (Bf.block b2 BHe.lt (fun e => by subst e; exact absurd (BHe.type hCe.box) (by decide))).trans BHe
  have hRf := hRe.but Bf hogp
  have hPf := hPt.but Bf hCe.box (by decide) (by decide)
  obtain ⟨cE, hcE⟩ : ∃ q, Hid (cD.setIfInBounds 119 (.slice (some ⟨bd, 0, none⟩) c.bk.length c.bk.length) = q) := ⟨_, Lib.hid rfl⟩
  have he119 : Hid (cE[119]? = some (.slice (some ⟨bd, 0, none⟩) c.bk.length c.bk.length)) := Lib.hid (by rw [← hcE.out, Array.getElem?_setIfInBounds_self_of_lt (by rw [hCe.sz]; omega)])
  have he118 : Hid (cE[118]? = some (.slice (some ⟨bp, 0, none⟩) c.bk.length c.bk.length)) := Lib.hid (by rw [← hcE.out, Array.getElem?_setIfInBounds_ne (by omega)]; exact hd118.out)
  have he117 : Hid (cE[117]? = some (.slice (some ⟨og, 0, none⟩) (0 :: ord).length oq)) := Lib.hid (by rw [← hcE.out, Array.getElem?_setIfInBounds_ne (by omega)]; exact hd117.out)
  have he116 : Hid (cE[116]? = some (.slice (some ⟨b2, 0, none⟩) c.ins.length c.ins.length)) := Lib.hid (by rw [← hcE.out, Array.getElem?_setIfInBounds_ne (by omega)]; exact hd116.out)
  rw [hcE.out] at hCf
  clear hd118 hd117 hd116 hcE BHe hRe hPt hCe Bf g7
  have hFn : Fnd wf c cE b2 bd H D := ⟨he116.out, he119.out, BHf, hBD, lH.out, vH.out, hokD, hlD, hdom⟩
  have hvf := Lib.hid (valuesFit_any hCf ok hL.out hBl.out (fields_op hF.out) (endArgs_le hL.out hE.out) hFn hgb2)
  have hno : Hid (¬ ValuesP c → R = false) := Lib.hid (fun h => by rw [← hR.out]; exact B_not (fun k => h k.2.2.1))
  clear hFn BHf hBD hokD hlD hdom he119 he116 lH vH
  by_cases hVa : ValuesP c
  rotate_left 1
  · rw [B_not hVa] at hvf
    have hQ := Lib.hid (hno.out hVa)
    clear hVa hno
    go_wp2_with fail
    refine hvf.out.mono ?_
    rintro e wg ⟨rfl, bg⟩
    clear hvf
    go_wp2
    refine bodyPost_ret (v := .tuple #[.pointer (some ⟨p, 0, none⟩), .bool false]) (by simp [results, Tryz.results32, go_sem]) rfl ?_
    exact ⟨some ⟨p, 0, none⟩, false, rfl, hQ.out.symm, (hCf.later bg).below, fun e => by simp at e⟩
  rw [B_of hVa] at hvf
  clear hno
  replace hVa := Lib.hid hVa
  go_wp2_with fail
  refine hvf.out.mono ?_
  rintro e wg ⟨rfl, bg⟩
  clear hvf
  have hCg := hCf.later bg
  have hRg := hRf.later bg
  have hPg := hPf.later bg
  clear hCf hRf hPf bg
  have hif := Lib.hid (instructionsFit_any hCg ok hL.out (fields_op hF.out) (args_ix hBl.out hVa.out))
  have hno : Hid (¬ InstrP c → R = false) := Lib.hid (fun h => by rw [← hR.out]; exact B_not (fun k => h k.2.2.2.1))
  by_cases hIn : InstrP c
  rotate_left 1
  · rw [B_not hIn] at hif
    have hQ := Lib.hid (hno.out hIn)
    clear hIn hno
    go_wp2_with fail
    refine hif.out.mono ?_
    rintro e wh ⟨rfl, bh⟩
    clear hif
    go_wp2
    refine bodyPost_ret (v := .tuple #[.pointer (some ⟨p, 0, none⟩), .bool false]) (by simp [results, Tryz.results32, go_sem]) rfl ?_
    exact ⟨some ⟨p, 0, none⟩, false, rfl, hQ.out.symm, (hCg.later bh).below, fun e => by simp at e⟩
  rw [B_of hIn] at hif
  clear hno
  replace hIn := Lib.hid hIn
  go_wp2_with fail
  refine hif.out.mono ?_
  rintro e wh ⟨rfl, bh⟩
  clear hif
  have hCh := hCg.later bh
  have hRh := hRg.later bh
  have hPh := hPg.later bh
  clear hCg hRg hPg bh
  have haf := Lib.hid (argumentsFit_any hCh.pt hL.out hBl.out hE.out (ends_ix hVa.out))
  have hno : Hid (R = B (ArgsP c)) := Lib.hid (by rw [← hR.out]; exact B_congr ⟨fun k => k.2.2.2.2, fun k => ⟨⟨⟨hL.out, hBl.out⟩, hF.out, hE.out⟩, hre, hVa.out, hIn.out, k⟩⟩)
  rw [← hno.out] at haf
  replace hre := Lib.hid hre
  go_wp2_with fail
  refine haf.out.mono ?_
  rintro e wi ⟨rfl, bi⟩
  clear haf
  have hCi := hCh.later bi
  have hRi := hRh.later bi
  have hPi := hPh.later bi
  clear hCh hRh hPh bi
  go_wp2
  refine bodyPost_ret (v := .tuple #[.pointer (some ⟨p, 0, none⟩), .bool R]) (by simp [results, Tryz.results32, go_sem]) rfl ?_
  refine ⟨some ⟨p, 0, none⟩, R, rfl, rfl, hCi.below, fun e => ⟨p, cE, rfl, hCi, ?_, ⟨og, oq, ?_, ?_, l2, ?_⟩, ⟨bp, V, _, he118.out, hPi⟩⟩⟩
  · have := hR.out
    rw [e] at this
    exact B_true.1 this
  · rw [hOL.out]; exact he117.out
  · rw [hOL.out]; exact l1
  · rw [hOL.out]; exact hRi
end Go.Proofs.YtnbgadndkepomaaGreatDoor
