/- LexerJoins: the walk. -/
import Derived.Test.YtnanfedggmkboaaDoorLGaps
namespace Go.Proofs.YtnanfedggmkboaaDoor
open Go.RowKit

set_option maxHeartbeats 400000 in
theorem joins_long (a b : ByteArray) (w : World) (hl : 4000 < a.size ∨ 4000 < b.size) (hs : a.size ≤ 9223372036854775807) (hs2 : b.size ≤ 9223372036854775807) (ht : Tab w) (he : Errs w) :
    Calls Tryd.prog 6 #[.string a, .string b] w fun e w' => e = .returned (.bool true) ∧ Below w.heap.size w w' := by
  by_cases h1 : 4000 < a.size
  · go_enter Tryd.func6, Tryd.ntmps6
    go_wp2_with (go_at_call 10; refine (head_any _ ht he).mono ?_; rintro e w1 ⟨rfl, B⟩)
    all_goals go_ret
    all_goals exact ⟨rfl, B⟩
  · have h2 : 4000 < b.size := by omega
    go_enter Tryd.func6, Tryd.ntmps6
    go_wp2_with (go_at_call 10; refine (head_any _ ht he).mono ?_; rintro e w1 ⟨rfl, B⟩)
    all_goals go_ret
    all_goals exact ⟨rfl, B⟩

set_option maxRecDepth 100000 in
set_option maxHeartbeats 1600000 in
theorem joins_err (a b : ByteArray) (ts us : List Tok) (x1 k1 x2 k2 : Nat) (w : World) (hl : a.size ≤ 4000) (hl2 : b.size ≤ 4000) (hx : x1 ≠ 0 ∨ x2 ≠ 0) (h : Hid (lexS a.data.toList = (ts, x1, k1))) (h' : Hid (lexS b.data.toList = (us, x2, k2))) (ht : Tab w) (he : Errs w) :
    Calls Tryd.prog 6 #[.string a, .string b] w fun e w' => e = .returned (.bool true) ∧ Below w.heap.size w w' := by
  go_enter Tryd.func6, Tryd.ntmps6
  have E0 := Env.start ht he
  clear ht he
  go_wp2_with fail
  refine (head_any _ E0.tab E0.errs).mono ?_
  rintro e w1 ⟨rfl, B⟩
  have E1 := E0.later B
  clear E0 B
  go_wp2_with fail
  refine (lex_at a ts x1 k1 _ (by omega) h E1.tab E1.errs).mono ?_
  rintro e w2 ⟨A, c, rfl, hc1, hc2, hT, B⟩
  have E2 := E1.later B
  clear E1 B
  go_wp2_with fail
  refine (lex_at b us x2 k2 _ (by omega) h' E2.tab E2.errs).mono ?_
  rintro e w3 ⟨A2, c', rfl, hd1, hd2, hU, B⟩
  have E3 := E2.later B
  have T3 := hT.later B
  clear E2 B hT
  by_cases z1 : x1 = 0
  · have z2 : x2 ≠ 0 := by omega
    have b1 : ((x1 : Int) != 0) = false := by simp; omega
    have b2 : ((x2 : Int) != 0) = true := by simp; omega
    go_wp2
    all_goals go_ret
    all_goals exact ⟨rfl, E3.below⟩
  · have b1 : ((x1 : Int) != 0) = true := by simp; omega
    go_wp2
    all_goals go_ret
    all_goals exact ⟨rfl, E3.below⟩

set_option maxRecDepth 100000 in
set_option maxHeartbeats 3200000 in
theorem joins_far (a b Y : ByteArray) (ts us vs : List Tok) (y1 y2 _K : Nat) (w : World) (hl : a.size ≤ 4000) (hl2 : b.size ≤ 4000) (_h5 : ts.length ≤ 1500) (_h5' : us.length ≤ 1500) (hY : a ++ ⟨#[10]⟩ ++ b = Y) (hYs : Y.size ≤ 100000) (h : Hid (lexS a.data.toList = (ts, 0, 0))) (h' : Hid (lexS b.data.toList = (us, 0, 0))) (hv : Hid (lexS Y.data.toList = (vs, y1, y2))) (_hO : Hid (∀ t ∈ ts, t.off ≤ 100000)) (_hO' : Hid (∀ t ∈ us, t.off ≤ 100000)) (hz : 4000 < a.size + b.size + 1) (hy1 : y1 = 2) (hy2 : y2 = 0) (ht : Tab w) (he : Errs w) :
    Calls Tryd.prog 6 #[.string a, .string b] w fun e w' => e = .returned (.bool true) ∧ Below w.heap.size w w' := by
  go_enter Tryd.func6, Tryd.ntmps6
  have E0 := Env.start ht he
  clear ht he
  go_wp2_with fail
  refine (head_any _ E0.tab E0.errs).mono ?_
  rintro e w1 ⟨rfl, B⟩
  have E1 := E0.later B
  clear E0 B
  go_wp2_with fail
  refine (lex_at a ts 0 0 _ (by omega) h E1.tab E1.errs).mono ?_
  rintro e w2 ⟨A, c, rfl, hc1, hc2, hT, B⟩
  have E2 := E1.later B
  clear E1 B
  go_wp2_with fail
  refine (lex_at b us 0 0 _ (by omega) h' E2.tab E2.errs).mono ?_
  rintro e w3 ⟨A2, c', rfl, hd1, hd2, hU, B⟩
  have E3 := E2.later B
  have T3 := hT.later B
  clear E2 B hT
  go_wp2_with fail
  refine (lex_at Y vs y1 y2 _ (by omega) hv E3.tab E3.errs).mono ?_
  rintro e w4 ⟨A3, d, rfl, hf1, hf2, hV, B⟩
  have E4 := E3.later B
  have T4 := T3.later B
  have U4 := hU.later B
  clear E3 B T3 hU
  subst hy1 hy2
  have z0 : 4000 < (a.size : Int) + b.size + 1 := by omega
  go_wp2
  all_goals go_ret
  all_goals exact ⟨rfl, E4.below⟩

set_option maxRecDepth 100000 in
set_option maxHeartbeats 3200000 in
theorem joins_many (a b Y : ByteArray) (ts us vs : List Tok) (y1 y2 K : Nat) (w : World) (hl : a.size ≤ 4000) (hl2 : b.size ≤ 4000) (h5 : ts.length ≤ 1500) (_h5' : us.length ≤ 1500) (hY : a ++ ⟨#[10]⟩ ++ b = Y) (hYs : Y.size ≤ 100000) (h : Hid (lexS a.data.toList = (ts, 0, 0))) (h' : Hid (lexS b.data.toList = (us, 0, 0))) (hv : Hid (lexS Y.data.toList = (vs, y1, y2))) (_hO : Hid (∀ t ∈ ts, t.off ≤ 100000)) (hO' : Hid (∀ t ∈ us, t.off ≤ 100000)) (hz : a.size + b.size + 1 ≤ 4000) (hy1 : y1 = 2) (hK0 : K + ts.length = 1500) (hK : K < us.length) (hy2 : y2 = a.size + 1 + us[K].off) (ht : Tab w) (he : Errs w) :
    Calls Tryd.prog 6 #[.string a, .string b] w fun e w' => e = .returned (.bool true) ∧ Below w.heap.size w w' := by
  go_enter Tryd.func6, Tryd.ntmps6
  have E0 := Env.start ht he
  clear ht he
  go_wp2_with fail
  refine (head_any _ E0.tab E0.errs).mono ?_
  rintro e w1 ⟨rfl, B⟩
  have E1 := E0.later B
  clear E0 B
  go_wp2_with fail
  refine (lex_at a ts 0 0 _ (by omega) h E1.tab E1.errs).mono ?_
  rintro e w2 ⟨A, c, rfl, hc1, hc2, hT, B⟩
  have E2 := E1.later B
  clear E1 B
  go_wp2_with fail
  refine (lex_at b us 0 0 _ (by omega) h' E2.tab E2.errs).mono ?_
  rintro e w3 ⟨A2, c', rfl, hd1, hd2, hU, B⟩
  have E3 := E2.later B
  have T3 := hT.later B
  clear E2 B hT
  go_wp2_with fail
  refine (lex_at Y vs y1 y2 _ (by omega) hv E3.tab E3.errs).mono ?_
  rintro e w4 ⟨A3, d, rfl, hf1, hf2, hV, B⟩
  have E4 := E3.later B
  have T4 := T3.later B
  have U4 := hU.later B
  clear E3 B T3 hU
  subst hy1 hy2
  have z0 : ¬ 4000 < (a.size : Int) + b.size + 1 := by omega
  have hKi : (1500 : Int) - (ts.length : Int) = (K : Int) := by omega
  obtain ⟨g, o, rfl, _, _, _, r3⟩ := U4 K hK
  have o1 := hO'.out _ (List.getElem_mem hK)
  generalize us[K].off = Q at *
  go_wp2
  all_goals go_ret
  all_goals exact ⟨rfl, E4.below⟩

set_option maxRecDepth 100000 in
set_option maxHeartbeats 3200000 in
theorem joins_fit (a b Y : ByteArray) (ts us vs : List Tok) (y1 y2 _K : Nat) (w : World) (hl : a.size ≤ 4000) (hl2 : b.size ≤ 4000) (h5 : ts.length ≤ 1500) (h5' : us.length ≤ 1500) (hY : a ++ ⟨#[10]⟩ ++ b = Y) (hYs : Y.size ≤ 100000) (h : Hid (lexS a.data.toList = (ts, 0, 0))) (h' : Hid (lexS b.data.toList = (us, 0, 0))) (hv : Hid (lexS Y.data.toList = (vs, y1, y2))) (hO : Hid (∀ t ∈ ts, t.off ≤ 100000)) (hO' : Hid (∀ t ∈ us, t.off ≤ 100000)) (hz : a.size + b.size + 1 ≤ 4000) (hy1 : y1 = 0) (hK0 : ts.length + us.length ≤ 1500) (hvl : vs.length = ts.length + us.length) (S1 : Hid (Shift 0 ts (vs.take ts.length))) (S2 : Hid (Shift ((a.size : Int) + 1) us (vs.drop ts.length))) (ht : Tab w) (he : Errs w) :
    Calls Tryd.prog 6 #[.string a, .string b] w fun e w' => e = .returned (.bool true) ∧ Below w.heap.size w w' := by
  go_enter Tryd.func6, Tryd.ntmps6
  have E0 := Env.start ht he
  clear ht he
  go_wp2_with fail
  refine (head_any _ E0.tab E0.errs).mono ?_
  rintro e w1 ⟨rfl, B⟩
  have E1 := E0.later B
  clear E0 B
  go_wp2_with fail
  refine (lex_at a ts 0 0 _ (by omega) h E1.tab E1.errs).mono ?_
  rintro e w2 ⟨A, c, rfl, hc1, hc2, hT, B⟩
  have E2 := E1.later B
  clear E1 B
  go_wp2_with fail
  refine (lex_at b us 0 0 _ (by omega) h' E2.tab E2.errs).mono ?_
  rintro e w3 ⟨A2, c', rfl, hd1, hd2, hU, B⟩
  have E3 := E2.later B
  have T3 := hT.later B
  clear E2 B hT
  go_wp2_with fail
  refine (lex_at Y vs y1 y2 _ (by omega) hv E3.tab E3.errs).mono ?_
  rintro e w4 ⟨A3, d, rfl, hf1, hf2, hV, B⟩
  have E4 := E3.later B
  have T4 := T3.later B
  have U4 := hU.later B
  clear E3 B T3 hU
  subst hy1
  have z0 : ¬ 4000 < (a.size : Int) + b.size + 1 := by omega
  go_wp2_with fail
  refine (same_at A A3 c d ts.length ts (vs.take ts.length) 0 _ rfl (by omega) (by omega) hO T4 (hV.take _) S1).mono ?_
  rintro e w5 ⟨rfl, D⟩
  have E5 := E4.later D.below
  have U5 := U4.later D.below
  have V5 := hV.later D.below
  clear E4 D T4 U4 hV
  by_cases hd0 : d = ts.length
  · subst hd0
    have V6 : TRd w5 A3 (vs.drop ts.length) := by
      have : vs.drop ts.length = [] := List.drop_of_length_le (by omega)
      rw [this]; exact TRd.nil _ _
    go_wp2_with fail
    refine (same_at A2 A3 c' _ us.length us (vs.drop ts.length) ((a.size : Int) + 1) _ rfl (by omega) (by omega) hO' U5 V6 S2).mono ?_
    rintro e w6 ⟨rfl, D⟩
    go_wp2
    go_ret
    exact ⟨rfl, (E5.later D.below).below⟩
  · have V6 := V5.drop ts.length
    go_wp2_with fail
    refine (same_at A2 _ c' _ us.length us (vs.drop ts.length) ((a.size : Int) + 1) _ rfl (by omega) (by omega) hO' U5 V6 S2).mono ?_
    rintro e w6 ⟨rfl, D⟩
    go_wp2
    go_ret
    exact ⟨rfl, (E5.later D.below).below⟩

theorem posOf_lt {us : List Tok} {K e : Nat} (h : K < us.length) : posOf us K e = us[K].off := by unfold posOf; rw [dif_pos h]
theorem joins_any (a b : ByteArray) (w : World) (hs : a.size ≤ 9223372036854775807) (hs2 : b.size ≤ 9223372036854775807) (ht : Tab w) (he : Errs w) :
    Calls Tryd.prog 6 #[.string a, .string b] w fun e w' => e = .returned (.bool true) ∧ Below w.heap.size w w' := by
  by_cases hl : 4000 < a.size ∨ 4000 < b.size
  · exact joins_long a b w hl hs hs2 ht he
  · obtain ⟨ts, x1, k1, h⟩ : ∃ ts x k, lexS a.data.toList = (ts, x, k) := ⟨_, _, _, rfl⟩
    obtain ⟨us, x2, k2, h'⟩ : ∃ ts x k, lexS b.data.toList = (ts, x, k) := ⟨_, _, _, rfl⟩
    have hln : a.data.toList.length = a.size := rfl
    have hln2 : b.data.toList.length = b.size := rfl
    by_cases hx : x1 ≠ 0 ∨ x2 ≠ 0
    · exact joins_err a b ts us x1 k1 x2 k2 w (by omega) (by omega) hx (Lib.hid h) (Lib.hid h') ht he
    · obtain ⟨rfl, rfl⟩ : x1 = 0 ∧ x2 = 0 := by omega
      obtain ⟨h1, h2, h3, rfl⟩ := lexS_ok h
      obtain ⟨i1, i2, i3, rfl⟩ := lexS_ok h'
      have hJ := h3.join i3
      have hO : Hid (∀ t ∈ ts, t.off ≤ 100000) := Lib.hid fun t ht => by
        obtain ⟨g, l, _, _, hp⟩ := h3
        have := lp_off hp t ht
        omega
      have hO' : Hid (∀ t ∈ us, t.off ≤ 100000) := Lib.hid fun t ht => by
        obtain ⟨g, l, _, _, hp⟩ := i3
        have := lp_off hp t ht
        omega
      obtain ⟨Y, hY⟩ : ∃ Y, a ++ (⟨#[10]⟩ : ByteArray) ++ b = Y := ⟨_, rfl⟩
      have hYl : Y.data.toList = a.data.toList ++ 10 :: b.data.toList := by
        rw [← hY, ByteArray.data_append, ByteArray.data_append, Array.toList_append, Array.toList_append]; simp
      have hYs : Y.size = a.size + 1 + b.size := by
        have e1 : Y.data.toList.length = Y.size := rfl
        rw [← e1, hYl]; simp; omega
      obtain ⟨vs, y1, y2, hv⟩ : ∃ us y1 y2, lexS Y.data.toList = (us, y1, y2) := ⟨_, _, _, rfl⟩
      by_cases hz : 4000 < a.size + b.size + 1
      · have hv2 := hv
        rw [lexS_long (by show 4000 < Y.data.toList.length; rw [show Y.data.toList.length = Y.size from rfl]; omega)] at hv2
        simp only [Prod.mk.injEq] at hv2
        exact joins_far a b Y ts us vs y1 y2 0 w (by omega) (by omega) h2 i2 hY (by omega) (Lib.hid h) (Lib.hid h') (Lib.hid hv) hO hO' hz hv2.2.1.symm hv2.2.2.symm ht he
      · by_cases hm : ts.length + us.length ≤ 1500
        · have hv2 := hv
          rw [hYl, lexS_of hJ (by simp; omega) (by simp; omega)] at hv2
          simp only [Prod.mk.injEq] at hv2
          have t1 : vs.take ts.length = ts := by rw [← hv2.1]; exact List.take_left
          have t2 : vs.drop ts.length = us.map (sh (a.size + 1)) := by rw [← hv2.1]; exact List.drop_left
          refine joins_fit a b Y ts us vs y1 y2 0 w (by omega) (by omega) h2 i2 hY (by omega) (Lib.hid h) (Lib.hid h') (Lib.hid hv) hO hO' (by omega) hv2.2.1.symm hm (by rw [← hv2.1]; simp) ?_ ?_ ht he
          · rw [t1]; exact Lib.hid (Shift.refl _)
          · rw [t2]; exact Lib.hid (shift_sh _ _)
        · obtain ⟨K, hK0⟩ : ∃ K, K + ts.length = 1500 := ⟨1500 - ts.length, by omega⟩
          have hK : K < us.length := by omega
          obtain ⟨m', j1, j2, j3⟩ := hJ.part 1500 (by simp; omega)
          have e0 : (ts ++ us.map (sh (a.data.toList.length + 1)))[1500]'(by simp; omega) = sh (a.data.toList.length + 1) us[K] := by
            rw [List.getElem_append_right (by omega), List.getElem_map]
            congr 1
            have : 1500 - ts.length = K := by omega
            simp only [this]
          rw [e0] at j1
          have hlt : ((ts ++ us.map (sh (a.data.toList.length + 1))).take 1500).length = 1500 := by rw [List.length_take]; simp; omega
          have hv2 := hv
          rw [hYl, lexS_of_err j1 (by simp; omega) (by omega) j3 (Or.inr (Or.inl ⟨j2, hlt, rfl⟩)) (by omega)] at hv2
          simp only [Prod.mk.injEq] at hv2
          refine joins_many a b Y ts us vs y1 y2 K w (by omega) (by omega) h2 i2 hY (by omega) (Lib.hid h) (Lib.hid h') (Lib.hid hv) hO hO' (by omega) hv2.2.1.symm hK0 hK ?_ ht he
          rw [← hv2.2.2]
          show us[K].off + (a.data.toList.length + 1) = _
          omega
end Go.Proofs.YtnanfedggmkboaaDoor
