/- ssa: lists: names, structs. -/
import Derived.Test.YtnbgadndkepomaaGreatDoorSaIxf
namespace Go.Proofs.YtnbgadndkepomaaGreatDoor
open Go.RowKit

set_option maxRecDepth 100000 in
set_option maxHeartbeats 1600000 in
theorem indexS_any (l : List Str) (s : ByteArray) (A : Option Addr) (c : Nat) (w : World) (hl : l.length ≤ 100000) (hr : SRow w A l) :
    Calls Tryz.prog 133 #[.slice A l.length c, .string s] w fun e w' => e = .returned (.int .i64 (inI l s.data.toList 0)) ∧ w = w' := by
  obtain ⟨R, hR⟩ : ∃ R, Hid (inI l s.data.toList 0 = R) := ⟨_, Lib.hid rfl⟩
  rw [hR.out]
  have hs := Lib.hid hr
  clear hr
  go_enter Tryz.func133, Tryz.ntmps133
  go_wp2_with fail
  go_loop [8] (fun v => ∃ i : Nat, i ≤ l.length ∧ v = .int .i64 i ∧ Hid (inI (l.drop i) s.data.toList i = R)) (fun v => l.length - (intOf v).toNat)
  case atStart => exact ⟨0, Nat.zero_le _, rfl, hR⟩
  case round =>
    obtain ⟨i, hi, rfl, hI⟩ := hrel
    by_cases hlt : i < l.length
    · obtain ⟨g, o, rfl, hcell⟩ := hs.out i hlt
      have hdr : l.drop i = l[i] :: l.drop (i + 1) := List.drop_eq_getElem_cons hlt
      have hb : (s.toList == (⟨l[i].toArray⟩ : ByteArray).toList) = decide (l[i] = s.data.toList) := by
        rw [ByteArray.toList_eq, ByteArray.toList_eq, Bool.eq_iff_iff, beq_iff_eq, decide_eq_true_iff, show (⟨l[i].toArray⟩ : ByteArray).data.toList = l[i] by simp]; exact ⟨fun h => h.symm, fun h => h.symm⟩
      by_cases he : l[i] = s.data.toList
      · have hQ : Hid (R = (i : Int)) := Lib.hid (by rw [← hI.out, hdr, inI, if_pos he])
        have hb2 : (s.toList == (⟨l[i].toArray⟩ : ByteArray).toList) = true := by rw [hb]; simpa using he
        clear hb he hI hdr hR hs
        generalize (⟨l[i].toArray⟩ : ByteArray) = T at *
        go_wp2
        go_ret
        exact ⟨by rw [hQ.out]; rfl, rfl⟩
      · have hQ : Hid (inI (l.drop (i + 1)) s.data.toList (i + 1) = R) := Lib.hid (by rw [← hI.out, hdr, inI, if_neg he])
        have hb2 : (s.toList == (⟨l[i].toArray⟩ : ByteArray).toList) = false := by rw [hb]; simpa using he
        clear hb he hI hdr hR
        generalize (⟨l[i].toArray⟩ : ByteArray) = T at *
        go_wp2_with fail
        go_round
        case rel => exact ⟨i + 1, hlt, by go_num, hQ⟩
        case measure => simp [intOf]; omega
    · have hie : i = l.length := by omega
      subst hie
      have hQ : Hid (R = -1) := Lib.hid (by rw [← hI.out, List.drop_length]; rfl)
      clear hI hR hs
      go_wp2
      go_ret
      exact ⟨by rw [hQ.out]; rfl, rfl⟩
set_option maxRecDepth 100000 in
set_option maxHeartbeats 1600000 in
theorem containsS_any (l : List Str) (s : ByteArray) (A : Option Addr) (c : Nat) (w : World) (hl : l.length ≤ 100000) (hr : SRow w A l) :
    Calls Tryz.prog 121 #[.slice A l.length c, .string s] w fun e w' => e = .returned (.bool (l.contains s.data.toList)) ∧ w = w' := by
  have hC := indexS_any l s A c w hl hr
  have hq := inI_nn l s.data.toList 0
  obtain ⟨R, hR⟩ : ∃ R, Hid (inI l s.data.toList 0 = R) := ⟨_, Lib.hid rfl⟩
  rw [hR.out] at hC hq
  replace hq := Lib.hid hq
  clear hr hR
  go_enter Tryz.func121, Tryz.ntmps121
  go_wp2_with fail
  refine hC.mono ?_
  rintro e w' ⟨rfl, rfl⟩
  clear hC
  go_wp2
  go_ret
  exact ⟨by rw [← hq.out]; rfl, rfl⟩
def NmTo (l : List Str) (i : Nat) : Prop := ∀ (j : Nat) (h : j < l.length), j < i → nameR l[j] = true ∧ l[j] ∉ l.take j
theorem NmTo.all {l : List Str} (h : NmTo l l.length) : NamesP l := fun j hj => h j hj hj
set_option maxRecDepth 100000 in
set_option maxHeartbeats 1600000 in
theorem namesFit_any (l : List Str) (hs : ∀ s ∈ l, s.length ≤ 9223372036854775807) (A : Option Addr) (c : Nat) (W : World) (hl : l.length ≤ 100000) (hc : l.length ≤ c) (hr : SRow W A l) (hv : ErrV W) :
    Calls Tryz.prog 85 #[.slice A l.length c] W fun e w' => e = .returned (.bool (B (NamesP l))) ∧ Below W.heap.size W w' := by
  obtain ⟨R, hR⟩ : ∃ R, Hid (B (NamesP l) = R) := ⟨_, Lib.hid rfl⟩
  rw [hR.out]
  replace hs := Lib.hid hs
  replace hr := Lib.hid hr
  go_enter Tryz.func85, Tryz.ntmps85
  go_wp2_with fail
  go_loopw [7] (fun v wr => ∃ i : Nat, i ≤ l.length ∧ v = .int .i64 i ∧ Hid (NmTo l i) ∧ Below W.heap.size W wr) (fun v _ => l.length - iOf v)
  case atStart => exact ⟨0, Nat.zero_le _, rfl, Lib.hid (fun j _ h => by omega), Below.refl _ _⟩
  case round =>
    rename_i wr
    obtain ⟨i, hi, rfl, hI, hb⟩ := hrel
    by_cases hlt : i < l.length
    · have hrw := hr.out.later hb
      obtain ⟨g, o, rfl, hcell⟩ := hrw i hlt
      have hsz := hs.out _ (List.getElem_mem hlt)
      have hlc : (i : Int) < l.length := by omega
      have hno1 : nameR l[i] = false → Hid (R = false) := fun h => Lib.hid (by rw [← hR.out]; exact B_not (fun hn => by have := (hn i hlt).1; rw [h] at this; cases this))
      have hno2 : (l.take i).contains l[i] = true → Hid (R = false) := fun h => Lib.hid (by rw [← hR.out]; exact B_not (fun hn => (hn i hlt).2 (by simpa using h)))
      have hyes : nameR l[i] = true → (l.take i).contains l[i] = false → Hid (NmTo l (i + 1)) := fun h1 h2 => Lib.hid (fun j hj hji => by
        by_cases e : j = i
        · subst e; exact ⟨h1, by simpa using h2⟩
        · exact hI.out j hj (by omega))
      replace hno1 := Lib.hid hno1
      replace hno2 := Lib.hid hno2
      replace hyes := Lib.hid hyes
      have hrt : SRow wr (some ⟨g, o, none⟩) (l.take i) := fun j hj => by
        have hj2 : j < l.length := by rw [List.length_take] at hj; omega
        obtain ⟨g2, o2, e, h⟩ := hrw j hj2
        exact ⟨g2, o2, e, by rw [List.getElem_take]; exact h⟩
      replace hrt := Lib.hid hrt
      obtain ⟨t, ht⟩ : ∃ t, Hid (l[i] = t) := ⟨_, Lib.hid rfl⟩
      simp only [ht.out] at hcell hsz hno1 hno2 hyes
      have htl : ((⟨t.toArray⟩ : ByteArray).data.toList) = t := by simp
      obtain ⟨T, hT⟩ : ∃ T : ByteArray, Hid ((⟨t.toArray⟩ : ByteArray) = T) := ⟨_, Lib.hid rfl⟩
      have hTl : Hid (T.data.toList = t) := Lib.hid (by rw [← hT.out])
      have hTs : T.size ≤ 9223372036854775807 := by rw [← hT.out]; exact hsz
      rw [hT.out] at hcell
      clear hrw ht hI hsz htl hT
      go_wp2_with fail
      refine (isName_any T hTs wr (hv.later hb)).mono ?_
      rintro e w1 ⟨rfl, b1⟩
      rw [hTl.out]
      have hb1 := hb.trans (b1.mono hb.size)
      cases hn : nameR t with
      | false =>
        have hQ := hno1.out hn
        clear hno1 hno2 hyes hn hrt hR
        go_wp2
        go_ret
        exact ⟨by rw [hQ.out]; rfl, hb1⟩
      | true =>
        have hil : (l.take i).length = i := by rw [List.length_take]; omega
        have hC := containsS_any (l.take i) T (some ⟨g, o, none⟩) c w1 (by omega) (hrt.out.later b1)
        rw [hil, hTl.out] at hC
        replace hC := Lib.hid hC
        clear hil hrt
        go_wp2_with fail
        refine hC.out.mono ?_
        rintro e w2 ⟨rfl, rfl⟩
        clear hC
        cases hcn : (l.take i).contains t with
        | true =>
          have hQ := hno2.out hcn
          clear hno1 hno2 hyes hn hcn hR
          go_wp2
          go_ret
          exact ⟨by rw [hQ.out]; rfl, hb1⟩
        | false =>
          have hN := hyes.out hn hcn
          clear hno1 hno2 hyes hn hcn hR
          go_wp2_with fail
          go_roundw
          case rel => exact ⟨i + 1, hlt, by go_num, hN, hb1⟩
          case measure => simp only [iOf]; omega
    · have hie : i = l.length := by omega
      subst hie
      have hQ : Hid (R = true) := Lib.hid (by rw [← hR.out]; exact B_of hI.out.all)
      clear hI hR hs hr
      go_wp2
      go_ret
      exact ⟨by rw [hQ.out]; rfl, hb⟩
set_option maxRecDepth 100000 in
set_option maxHeartbeats 1600000 in
theorem isNoStruct1_any (v : Int) (w : World) : Calls Tryz.prog 119 #[.int .i64 v] w fun e w' => e = .returned (.bool (!B (Wid v))) ∧ Below w.heap.size w w' := by
  go_enter Tryz.func119, Tryz.ntmps119
  go_wp2_with fail
  refine (isWidth_any v _).mono ?_
  rintro e w' ⟨rfl, rfl⟩
  go_wp2
  go_ret
  exact ⟨rfl, Below.refl _ _⟩
theorem any_wid (l : List Int) : l.any (fun v => !B (Wid v)) = !B (∀ w ∈ l, Wid w) := by
  rw [Bool.eq_iff_iff]
  simp only [List.any_eq_true, Bool.not_eq_true', B_false]
  constructor
  · rintro ⟨x, hx, h⟩ hall; exact h (hall x hx)
  · intro h
    apply Classical.byContradiction
    intro hn
    exact h (fun w hw => Classical.byContradiction fun hc => hn ⟨w, hw, hc⟩)
set_option maxRecDepth 100000 in
set_option maxHeartbeats 1600000 in
theorem isNoStruct_any (l : List Int) (A : Option Addr) (c : Nat) (w : World) (_hl : l.length ≤ c) (_hc : c ≤ maxLen) (hr : IRow w A l) :
    Calls Tryz.prog 84 #[.slice A l.length c] w fun e w' => e = .returned (.bool (!B (StructP l))) ∧ Below w.heap.size w w' := by
  obtain ⟨R, hR⟩ : ∃ R, Hid ((!B (StructP l)) = R) := ⟨_, Lib.hid rfl⟩
  rw [hR.out]
  replace hr := Lib.hid hr
  go_enter Tryz.func84, Tryz.ntmps84
  go_wp2_with fail
  refine (within_any _ _ _ _).mono ?_
  rintro e w' ⟨rfl, rfl⟩
  by_cases q : 1 ≤ l.length ∧ l.length ≤ 16
  rotate_left 1
  · have hQ : Hid (R = true) := Lib.hid (by rw [← hR.out, B_not (fun h => q ⟨h.1, h.2.1⟩)]; rfl)
    rw [B_not (by omega)]
    clear hR q
    go_wp2
    go_ret
    exact ⟨by rw [hQ.out]; rfl, Below.refl _ _⟩
  rw [B_of (by omega)]
  have hC := contains_int l (fun v => !B (Wid v)) w A c (by omega) hr.out (fun t _ w _ _ => isNoStruct1_any t w)
  rw [any_wid] at hC
  replace hC := Lib.hid hC
  have hQ : Hid (R = (!B (∀ w ∈ l, Wid w))) := Lib.hid (by rw [← hR.out]; congr 1; exact B_congr ⟨fun h => h.2.2, fun h => ⟨q.1, q.2, h⟩⟩)
  clear hR
  go_wp2_with fail
  refine hC.out.mono ?_
  rintro e w1 ⟨rfl, b1⟩
  clear hC q
  go_wp2
  go_ret
  exact ⟨by rw [hQ.out]; rfl, b1⟩
theorem any_struct (l : List (List Int)) : l.any (fun v => !B (StructP v)) = !B (∀ w ∈ l, StructP w) := by
  rw [Bool.eq_iff_iff]
  simp only [List.any_eq_true, Bool.not_eq_true', B_false]
  constructor
  · rintro ⟨x, hx, h⟩ hall; exact h (hall x hx)
  · intro h
    apply Classical.byContradiction
    intro hn
    exact h (fun w hw => Classical.byContradiction fun hc => hn ⟨w, hw, hc⟩)
set_option maxRecDepth 100000 in
set_option maxHeartbeats 1600000 in
theorem listsFit_any {W : World} {p : Nat} {c : Cd} {x : Sl} (h : PtAt W p c x) (ok : c.ok) (hv : ErrV W) :
    Calls Tryz.prog 43 #[.pointer (some ⟨p, 0, none⟩)] W fun e w' => e = .returned (.bool (B (ListsP c))) ∧ Below W.heap.size W w' := by
  obtain ⟨R, hR⟩ : ∃ R, Hid (B (ListsP c) = R) := ⟨_, Lib.hid rfl⟩
  rw [hR.out]
  have s0 := h.s0
  have s1 := h.s1
  have s2 := h.s2
  have s3 := h.s3
  have l0 := ok.lst
  have l1 := ok.lnm
  have l2 := ok.lin
  have l3 := ok.lbk
  by_cases q0 : c.st.length ≤ 8
  rotate_left 1
  · have hQ : Hid (R = false) := Lib.hid (by rw [← hR.out]; exact B_not (fun h => q0 h.1))
    have b0 : decide ((c.st.length : Int) ≤ 8) = false := by simp; omega
    clear hR q0
    go_enter Tryz.func43, Tryz.ntmps43
    go_wp2
    go_ret
    exact ⟨by rw [hQ.out]; rfl, Below.refl _ _⟩
  have b0 : decide ((c.st.length : Int) ≤ 8) = true := by simp; omega
  by_cases q1 : c.nm.length ≤ 32
  rotate_left 1
  · have hQ : Hid (R = false) := Lib.hid (by rw [← hR.out]; exact B_not (fun h => q1 h.2.1))
    have b1 : decide ((c.nm.length : Int) ≤ 32) = false := by simp; omega
    clear hR q0 q1
    go_enter Tryz.func43, Tryz.ntmps43
    go_wp2
    go_ret
    exact ⟨by rw [hQ.out]; rfl, Below.refl _ _⟩
  have b1 : decide ((c.nm.length : Int) ≤ 32) = true := by simp; omega
  by_cases q2 : 1 ≤ c.bk.length ∧ c.bk.length ≤ 400
  rotate_left 1
  · have hQ : Hid (R = false) := Lib.hid (by rw [← hR.out]; exact B_not (fun h => q2 h.2.2.1))
    have k2 := within_any c.bk.length 1 400 W
    rw [B_not (by omega)] at k2
    replace k2 := Lib.hid k2
    clear hR q0 q1 q2
    go_enter Tryz.func43, Tryz.ntmps43
    go_wp2_with fail
    refine k2.out.mono ?_
    rintro e w' ⟨rfl, rfl⟩
    clear k2
    go_wp2
    go_ret
    exact ⟨by rw [hQ.out]; rfl, Below.refl _ _⟩
  have k2 := within_any c.bk.length 1 400 W
  rw [B_of (by omega)] at k2
  replace k2 := Lib.hid k2
  by_cases q3 : c.ins.length ≤ 3000
  rotate_left 1
  · have hQ : Hid (R = false) := Lib.hid (by rw [← hR.out]; exact B_not (fun h => q3 h.2.2.2.1))
    have b3 : decide ((c.ins.length : Int) ≤ 3000) = false := by simp; omega
    clear hR q0 q1 q2 q3
    go_enter Tryz.func43, Tryz.ntmps43
    go_wp2_with fail
    refine k2.out.mono ?_
    rintro e w' ⟨rfl, rfl⟩
    clear k2
    go_wp2
    go_ret
    exact ⟨by rw [hQ.out]; rfl, Below.refl _ _⟩
  have b3 : decide ((c.ins.length : Int) ≤ 3000) = true := by simp; omega
  have hS := contains_list c.st (fun v => !B (StructP v)) W x.S x.sc (by omega) h.at_.s (fun t _ w _ A' c' l1 l2 r1 => isNoStruct_any t A' c' w l1 l2 r1)
  rw [any_struct] at hS
  replace hS := Lib.hid hS
  by_cases q4 : ∀ w ∈ c.st, StructP w
  rotate_left 1
  · have hQ : Hid (R = false) := Lib.hid (by rw [← hR.out]; exact B_not (fun h => q4 h.2.2.2.2.1))
    rw [B_not q4] at hS
    clear hR q0 q1 q2 q3 q4
    go_enter Tryz.func43, Tryz.ntmps43
    go_wp2_with fail
    refine k2.out.mono ?_
    rintro e w' ⟨rfl, rfl⟩
    clear k2
    go_wp2_with fail
    refine hS.out.mono ?_
    rintro e w1 ⟨rfl, bb⟩
    clear hS
    go_wp2
    go_ret
    exact ⟨by rw [hQ.out]; rfl, bb⟩
  have hQ : Hid (R = B (NamesP c.nm)) := Lib.hid (by rw [← hR.out]; exact B_congr ⟨fun h => h.2.2.2.2.2, fun h => ⟨q0, q1, q2, q3, q4, h⟩⟩)
  rw [B_of q4] at hS
  have hN : Hid (∀ w1, Below W.heap.size W w1 → Calls Tryz.prog 85 #[.slice x.N c.nm.length x.nc] w1 fun e w' => e = .returned (.bool (B (NamesP c.nm))) ∧ Below w1.heap.size w1 w') := Lib.hid fun w1 bb => namesFit_any c.nm ok.nm x.N x.nc w1 (by omega) h.at_.hn.1 (h.at_.n.later bb) (hv.later bb)
  clear hR q0 q1 q2 q3 q4
  go_enter Tryz.func43, Tryz.ntmps43
  go_wp2_with fail
  refine k2.out.mono ?_
  rintro e w' ⟨rfl, rfl⟩
  clear k2
  go_wp2_with fail
  refine hS.out.mono ?_
  rintro e w1 ⟨rfl, bb⟩
  clear hS
  have t1 := cell_later bb s1
  go_wp2_with fail
  refine (hN.out w1 bb).mono ?_
  rintro e w2 ⟨rfl, b2⟩
  clear hN
  go_wp2
  go_ret
  exact ⟨by rw [hQ.out]; rfl, bb.trans (b2.mono bb.size)⟩
end Go.Proofs.YtnbgadndkepomaaGreatDoor
