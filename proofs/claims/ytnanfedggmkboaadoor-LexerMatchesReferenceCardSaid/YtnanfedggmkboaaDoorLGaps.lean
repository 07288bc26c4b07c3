/- LexerGaps: the walk. -/
import Derived.Test.YtnanfedggmkboaaDoorLTxt
namespace Go.Proofs.YtnanfedggmkboaaDoor
open Go.RowKit

/-- Two lists of tokens, as the slices' lengths say them. -/
theorem same_at (A1 A2 : Option Addr) (c1 c2 n : Nat) (ts us : List Tok) (d : Int) (w : World) (hn : ts.length = n) (hd : -100000 ≤ d ∧ d ≤ 100000) (hlen : n ≤ 100000) (hO : Hid (∀ t ∈ ts, t.off ≤ 100000)) (h1 : TRd w A1 ts) (h2 : TRd w A2 us) (hS : Hid (Shift d ts us)) :
    Calls Tryd.prog 13 #[.slice A1 n c1, .slice A2 n c2, .int .i64 d] w fun e w' => e = .returned (.bool true) ∧ Drew w w' := by
  subst hn
  exact same_any A1 A2 c1 c2 ts us d w hd hlen hO h1 h2 hS

set_option maxHeartbeats 400000 in
theorem gaps_long (s : ByteArray) (wh kd : Int) (w : World) (hl : 4000 < s.size) (hs : s.size ≤ 9223372036854775807) (ht : Tab w) (he : Errs w) :
    Calls Tryd.prog 5 #[.string s, .int .u16 wh, .int .u16 kd] w fun e w' => e = .returned (.bool true) ∧ Below w.heap.size w w' := by
  go_enter Tryd.func5, Tryd.ntmps5
  go_wp2_with (go_at_call 10; refine (head_any _ ht he).mono ?_; rintro e w1 ⟨rfl, B⟩)
  go_ret
  exact ⟨rfl, B⟩
set_option maxHeartbeats 800000 in
theorem gaps_err (s : ByteArray) (wh kd : Int) (x k : Nat) (w : World) (hl : s.size ≤ 4000) (hx : x ≠ 0) (h : Hid (lexS s.data.toList = ([], x, k))) (ht : Tab w) (he : Errs w) :
    Calls Tryd.prog 5 #[.string s, .int .u16 wh, .int .u16 kd] w fun e w' => e = .returned (.bool true) ∧ Below w.heap.size w w' := by
  have b0 : ((x : Int) != 0) = true := by simp; omega
  go_enter Tryd.func5, Tryd.ntmps5
  have E0 := Env.start ht he
  clear ht he
  go_wp2_with fail
  refine (head_any _ E0.tab E0.errs).mono ?_
  rintro e w1 ⟨rfl, B⟩
  have E1 := E0.later B
  clear E0 B
  go_wp2_with fail
  refine (lex_at s [] x k _ (by omega) h E1.tab E1.errs).mono ?_
  rintro e w2 ⟨A, c, rfl, _, _, _, B⟩
  have E2 := E1.later B
  clear E1 B
  go_wp2
  go_ret
  exact ⟨rfl, E2.below⟩

def gap5 : List (List UInt8) := [[32], [9, 9], [10], [32, 35, 32, 97, 32, 60, 32, 55, 59, 10], [35, 10, 10]]
theorem gap_len5 : ∀ r : Fin 5, (gap5.getD r.val []).length ≤ 10 := by decide
theorem gap_good5 : ∀ r : Fin 5, goodGap (gap5.getD r.val []) := fun r => by
  match r with
  | 0 => exact ⟨by decide, fun b h => by cases h; decide, by decide, by decide, by decide⟩
  | 1 => exact ⟨by decide, fun b h => by cases h; decide, by decide, by decide, by decide⟩
  | 2 => exact ⟨by decide, fun b h => by cases h; decide, by decide, by decide, by decide⟩
  | 3 => exact ⟨by decide, fun b h => by cases h; decide, by decide, by decide, by decide⟩
  | 4 => exact ⟨by decide, fun b h => by cases h; decide, by decide, by decide, by decide⟩

theorem TRd.nil (w : World) (A : Option Addr) : TRd w A [] := fun i h => absurd h (by simp)
theorem trd_some {w : World} {g o : Nat} {ts : List Tok} (h : TRd w (some ⟨g, o, none⟩) ts) (k : Nat) : TRd w (some ⟨g, o + k * 4, none⟩) (ts.drop k) := by
  have h2 := h.drop k
  have e : Option.map (fun x : Addr => x.add (k * 4)) (some (⟨g, o, none⟩ : Addr)) = some ⟨g, o + k * 4, none⟩ := by
    show some (Addr.add _ _) = _
    unfold Addr.add
    split <;> simp_all
  rw [e] at h2
  exact h2
theorem lexEnv (w0 : World) (s : ByteArray) (ts : List Tok) (x k : Nat) (hs : s.size ≤ 9223372036854775807) (h : Hid (lexS s.data.toList = (ts, x, k))) :
    Hid (∀ w, Env w0 w → Calls Tryd.prog 11 #[.string s] w fun e w' => ∃ A c, e = .returned (.tuple #[.slice A ts.length c, .int .i64 x, .int .i64 k]) ∧ ts.length ≤ c ∧ c ≤ maxLen ∧ TRd w' A ts ∧ Below w.heap.size w w') :=
  Lib.hid fun w E => lex_at s ts x k w hs h E.tab E.errs

set_option maxRecDepth 100000 in
set_option maxHeartbeats 1600000 in
theorem gaps_in (s G Y : ByteArray) (wh kd : Int) (r K P : Nat) (ts us : List Tok) (y1 y2 : Nat) (w : World) (hl : s.size ≤ 4000) (h5 : ts.length ≤ 1500) (hw : 0 ≤ wh ∧ wh < 65536) (hkd : 0 ≤ kd ∧ kd < 65536) (hr : kd.tmod 5 = r) (hr5 : r < 5) (hG : ∀ h : r < [Value.string { data := #[32] }, Value.string { data := #[9, 9] }, Value.string { data := #[10] }, Value.string { data := #[32, 35, 32, 97, 32, 60, 32, 55, 59, 10] }, Value.string { data := #[35, 10, 10] }].length, [Value.string { data := #[32] }, Value.string { data := #[9, 9] }, Value.string { data := #[10] }, Value.string { data := #[32, 35, 32, 97, 32, 60, 32, 55, 59, 10] }, Value.string { data := #[35, 10, 10] }][r] = Value.string G) (hG10 : G.size ≤ 10) (hK : wh.tmod ((ts.length : Int) + 1) = K) (hK2 : K < ts.length) (hPK : ts[K].off = P) (hP : P ≤ s.size) (hY : s.extract 0 P ++ G ++ s.extract P s.size = Y) (hYs : Y.size = s.size + G.size) (h : Hid (lexS s.data.toList = (ts, 0, 0))) (hu : Hid (lexS Y.data.toList = (us, y1, y2))) (hO : Hid (∀ t ∈ ts, t.off ≤ 100000))
    (hres : (4000 < Y.size ∧ y1 = 2 ∧ y2 = 0) ∨ (Y.size ≤ 4000 ∧ y1 = 0 ∧ us.length = ts.length ∧ Hid (Shift 0 (ts.take K) (us.take K)) ∧ Hid (Shift G.size (ts.drop K) (us.drop K)))) (ht : Tab w) (he : Errs w) :
    Calls Tryd.prog 5 #[.string s, .int .u16 wh, .int .u16 kd] w fun e w' => e = .returned (.bool true) ∧ Below w.heap.size w w' := by
  go_enter Tryd.func5, Tryd.ntmps5
  have E0 := Env.start ht he
  clear ht he
  go_wp2_with fail
  refine (head_any _ E0.tab E0.errs).mono ?_
  rintro e w1 ⟨rfl, B⟩
  have E1 := E0.later B
  clear E0 B
  go_wp2_with fail
  refine (lex_at s ts 0 0 _ (by omega) h E1.tab E1.errs).mono ?_
  rintro e w2 ⟨A, c, rfl, hc1, hc2, hT, B⟩
  have E2 := E1.later B
  clear E1 B
  obtain ⟨g, o, rfl, _, _, _, r3⟩ := hT K hK2
  rw [hPK] at r3
  have r3' : ∀ (ob : Obj), (w2.alloc ob).cell? ⟨g, o + K * 4 + 3, none⟩ = some (.int .i64 P) := fun ob => cell_later ((Below.refl _ _).alloc (Nat.le_refl _) ob) r3
  have lexY := lexEnv w Y us y1 y2 (by omega) hu
  go_wp2_with fail
  go_region_with (first
      | (go_at_call 11; refine (lexY.out _ (E2.alloc _).drew).mono ?_; rintro e w9 ⟨A2, d, rfl, d1, d2, T2, B9⟩))
  have E9 := E2.later (below_new B9)
  have T9 := hT.later (below_new B9)
  rcases hres with ⟨z1, rfl, rfl⟩ | ⟨z1, rfl, z3, z4, z5⟩
  · have z0 : 4000 < s.size + G.size := by omega
    go_wp2
    go_ret
    exact ⟨rfl, E9.below⟩
  · have z0 : ¬ 4000 < s.size + G.size := by omega
    go_wp2_with fail
    have hO1 : Hid (∀ t ∈ ts.take K, t.off ≤ 100000) := Lib.hid fun t h => hO.out t (List.mem_of_mem_take h)
    have hO2 : Hid (∀ t ∈ ts.drop K, t.off ≤ 100000) := Lib.hid fun t h => hO.out t (List.mem_of_mem_drop h)
    have n1 : (ts.take K).length = K := by rw [List.length_take]; omega
    have n2 : (ts.drop K).length = ts.length - K := List.length_drop
    have D9 : TRd w9 (some ⟨g, o + K * 4, none⟩) (ts.drop K) := trd_some T9 K
    go_quiet (first
      | (go_at_call_of 13 (Value.int IntKind.i64 (G.size : Int)); exact Calls.quiet_of (same_at _ _ _ _ (ts.length - K) (ts.drop K) (us.drop K) G.size _ n2 (by omega) (by omega) hO2 D9 (T2.drop K) z5))
      | (go_at_call 13; exact Calls.quiet_of (same_at _ _ _ _ K (ts.take K) (us.take K) 0 _ n1 (by omega) (by omega) hO1 (T9.take K) (T2.take K) z4)))
    all_goals go_wp2
    all_goals go_ret
    all_goals exact ⟨rfl, (E9.later (Drew.below ⟨_, rfl⟩)).below⟩

set_option maxRecDepth 100000 in
set_option maxHeartbeats 1600000 in
theorem gaps_end (s G Y : ByteArray) (wh kd : Int) (r K P : Nat) (ts us : List Tok) (y1 y2 : Nat) (w : World) (hl : s.size ≤ 4000) (h5 : ts.length ≤ 1500) (hw : 0 ≤ wh ∧ wh < 65536) (hkd : 0 ≤ kd ∧ kd < 65536) (hr : kd.tmod 5 = r) (hr5 : r < 5) (hG : ∀ h : r < [Value.string { data := #[32] }, Value.string { data := #[9, 9] }, Value.string { data := #[10] }, Value.string { data := #[32, 35, 32, 97, 32, 60, 32, 55, 59, 10] }, Value.string { data := #[35, 10, 10] }].length, [Value.string { data := #[32] }, Value.string { data := #[9, 9] }, Value.string { data := #[10] }, Value.string { data := #[32, 35, 32, 97, 32, 60, 32, 55, 59, 10] }, Value.string { data := #[35, 10, 10] }][r] = Value.string G) (hG10 : G.size ≤ 10) (hK : wh.tmod ((ts.length : Int) + 1) = K) (hK2 : K = ts.length) (hPK : P = s.size) (hP : P ≤ s.size) (hY : s ++ G = Y) (hYs : Y.size = s.size + G.size) (h : Hid (lexS s.data.toList = (ts, 0, 0))) (hu : Hid (lexS Y.data.toList = (us, y1, y2))) (hO : Hid (∀ t ∈ ts, t.off ≤ 100000))
    (hres : (4000 < Y.size ∧ y1 = 2 ∧ y2 = 0) ∨ (Y.size ≤ 4000 ∧ y1 = 0 ∧ us.length = ts.length ∧ Hid (Shift 0 (ts.take K) (us.take K)) ∧ Hid (Shift G.size (ts.drop K) (us.drop K)))) (ht : Tab w) (he : Errs w) :
    Calls Tryd.prog 5 #[.string s, .int .u16 wh, .int .u16 kd] w fun e w' => e = .returned (.bool true) ∧ Below w.heap.size w w' := by
  go_enter Tryd.func5, Tryd.ntmps5
  have E0 := Env.start ht he
  clear ht he
  go_wp2_with fail
  refine (head_any _ E0.tab E0.errs).mono ?_
  rintro e w1 ⟨rfl, B⟩
  have E1 := E0.later B
  clear E0 B
  go_wp2_with fail
  refine (lex_at s ts 0 0 _ (by omega) h E1.tab E1.errs).mono ?_
  rintro e w2 ⟨A, c, rfl, hc1, hc2, hT, B⟩
  have E2 := E1.later B
  clear E1 B
  subst hK2 hPK
  have lexY := lexEnv w Y us y1 y2 (by omega) hu
  go_wp2_with fail
  go_region_with (first
      | (go_at_call 11; refine (lexY.out _ (E2.alloc _).drew).mono ?_; rintro e w9 ⟨A2, d, rfl, d1, d2, T2, B9⟩))
  have E9 := E2.later (below_new B9)
  have T9 := hT.later (below_new B9)
  rcases hres with ⟨z1, rfl, rfl⟩ | ⟨z1, rfl, z3, z4, z5⟩
  · have z0 : 4000 < s.size + G.size := by omega
    go_wp2
    go_ret
    exact ⟨rfl, E9.below⟩
  · have z0 : ¬ 4000 < s.size + G.size := by omega
    go_wp2_with fail
    have hO1 : Hid (∀ t ∈ ts.take ts.length, t.off ≤ 100000) := Lib.hid fun t h => hO.out t (List.mem_of_mem_take h)
    have hO2 : Hid (∀ t ∈ ts.drop ts.length, t.off ≤ 100000) := Lib.hid fun t h => hO.out t (List.mem_of_mem_drop h)
    have n1 : (ts.take ts.length).length = ts.length := by rw [List.length_take]; omega
    have n2 : (ts.drop ts.length).length = ts.length - ts.length := List.length_drop
    go_quiet (first
      | (go_at_call_of 13 (Value.int IntKind.i64 (G.size : Int)); exact Calls.quiet_of (same_at _ _ _ _ 0 [] [] G.size _ rfl (by omega) (by omega) (Lib.hid (by simp)) (TRd.nil _ _) (TRd.nil _ _) (Lib.hid ⟨rfl, fun i h => absurd h (by simp)⟩)))
      | (go_at_call 13; exact Calls.quiet_of (same_at _ _ _ _ ts.length (ts.take ts.length) (us.take ts.length) 0 _ n1 (by omega) (by omega) hO1 (T9.take ts.length) (T2.take ts.length) z4)))
    all_goals go_wp2
    all_goals go_ret
    all_goals exact ⟨rfl, (E9.later (Drew.below ⟨_, rfl⟩)).below⟩

/-! ### The statement's parts -/
theorem lp_off {l : List UInt8} {o : Nat} {ts : List Tok} {m : List UInt8} {o' : Nat} (h : Lp l o ts m o') : ∀ t ∈ ts, t.off ≤ o' := by
  induction h with
  | stop => simp
  | cons x g r v o ts m o' h1 h2 h3 h4 h5 ih =>
    have hl := lp_len h5
    have hle : o + x.length + g.length ≤ o' := by
      clear ih h1 h2 h3 h4 hl
      have : ∀ {l : List UInt8} {o : Nat} {ts : List Tok} {m : List UInt8} {o' : Nat}, Lp l o ts m o' → o ≤ o' := fun h => by
        induction h with
        | stop => omega
        | cons => omega
      exact this h5
    intro t ht
    rcases List.mem_cons.1 ht with rfl | ht
    · show o ≤ o'; omega
    · exact ih t ht
theorem shift_sh (d : Nat) (ts : List Tok) : Shift d ts (ts.map (sh d)) := by
  refine ⟨by simp, fun i h h' => ?_⟩
  rw [List.getElem_map]
  exact ⟨rfl, rfl, rfl, by simp [sh]⟩
theorem gap_value (r : Nat) (hr : r < 5) (h : r < [Value.string { data := #[32] }, Value.string { data := #[9, 9] }, Value.string { data := #[10] }, Value.string { data := #[32, 35, 32, 97, 32, 60, 32, 55, 59, 10] }, Value.string { data := #[35, 10, 10] }].length) :
    [Value.string { data := #[32] }, Value.string { data := #[9, 9] }, Value.string { data := #[10] }, Value.string { data := #[32, 35, 32, 97, 32, 60, 32, 55, 59, 10] }, Value.string { data := #[35, 10, 10] }][r] = Value.string ⟨(gap5.getD r []).toArray⟩ := by
  match r, hr with
  | 0, _ => rfl
  | 1, _ => rfl
  | 2, _ => rfl
  | 3, _ => rfl
  | 4, _ => rfl
theorem tmod_nat {x n : Int} (hx : 0 ≤ x) (hn : 0 < n) : x.tmod n = ((x.tmod n).toNat : Int) ∧ (x.tmod n).toNat < n.toNat := by
  rw [Int.tmod_eq_emod_of_nonneg hx]
  have h1 := Int.emod_nonneg x (by omega : n ≠ 0)
  have h2 := Int.emod_lt_of_pos x hn
  omega

theorem gaps_any (s : ByteArray) (wh kd : Int) (w : World) (hs : s.size ≤ 9223372036854775807) (hw : 0 ≤ wh ∧ wh < 65536) (hkd : 0 ≤ kd ∧ kd < 65536) (ht : Tab w) (he : Errs w) :
    Calls Tryd.prog 5 #[.string s, .int .u16 wh, .int .u16 kd] w fun e w' => e = .returned (.bool true) ∧ Below w.heap.size w w' := by
  by_cases hl : 4000 < s.size
  · exact gaps_long s wh kd w hl hs ht he
  · obtain ⟨ts, x, k, h⟩ : ∃ ts x k, lexS s.data.toList = (ts, x, k) := ⟨_, _, _, rfl⟩
    have hln : s.data.toList.length = s.size := rfl
    by_cases hx : x = 0
    · subst hx
      obtain ⟨h1, h2, h3, rfl⟩ := lexS_ok h
      obtain ⟨a1, a2⟩ := tmod_nat (n := 5) hkd.1 (by omega)
      obtain ⟨b1, b2⟩ := tmod_nat (n := (ts.length : Int) + 1) hw.1 (by omega)
      obtain ⟨r, hr⟩ : ∃ r, (kd.tmod 5).toNat = r := ⟨_, rfl⟩
      obtain ⟨K, hK⟩ : ∃ K, (wh.tmod ((ts.length : Int) + 1)).toNat = K := ⟨_, rfl⟩
      rw [hr] at a1 a2
      rw [hK] at b1 b2
      have hr5 : r < 5 := by omega
      have hKl : K ≤ ts.length := by omega
      have good := gap_good5 ⟨r, hr5⟩
      have len := gap_len5 ⟨r, hr5⟩
      have hG := gap_value r hr5
      simp only at good len
      obtain ⟨i1, i2⟩ := h3.insert _ good K hKl
      obtain ⟨P, hPe⟩ : ∃ P, posOf ts K s.data.toList.length = P := ⟨_, rfl⟩
      rw [hPe] at i1 i2
      generalize gap5.getD r [] = gp at *
      have hO : Hid (∀ t ∈ ts, t.off ≤ 100000) := Lib.hid fun t ht => by
        obtain ⟨g, l, _, _, hp⟩ := h3
        have := lp_off hp t ht
        omega
      have hYl : (s.extract 0 P ++ (⟨gp.toArray⟩ : ByteArray) ++ s.extract P s.size).data.toList = s.data.toList.take P ++ (gp ++ s.data.toList.drop P) := by
        rw [ByteArray.data_append, ByteArray.data_append, Array.toList_append, Array.toList_append, extract_mid, extract_mid, List.drop_zero]
        have e1 : (s.data.toList.drop P).take (s.size - P) = s.data.toList.drop P := List.take_of_length_le (by rw [List.length_drop]; omega)
        rw [e1]; simp
      obtain ⟨Y, hY⟩ : ∃ Y, s.extract 0 P ++ (⟨gp.toArray⟩ : ByteArray) ++ s.extract P s.size = Y := ⟨_, rfl⟩
      have hgz : (⟨gp.toArray⟩ : ByteArray).size = gp.length := size_mk gp
      rw [hY] at hYl
      have hYs : Y.size = s.size + (⟨gp.toArray⟩ : ByteArray).size := by
        have e1 : Y.data.toList.length = Y.size := rfl
        rw [← e1, hYl, hgz]; simp; omega
      obtain ⟨us, y1, y2, hu⟩ : ∃ us y1 y2, lexS Y.data.toList = (us, y1, y2) := ⟨_, _, _, rfl⟩
      have hres : (4000 < Y.size ∧ y1 = 2 ∧ y2 = 0) ∨ (Y.size ≤ 4000 ∧ y1 = 0 ∧ us.length = ts.length ∧ Hid (Shift 0 (ts.take K) (us.take K)) ∧ Hid (Shift (⟨gp.toArray⟩ : ByteArray).size (ts.drop K) (us.drop K))) := by
        by_cases hz : 4000 < Y.size
        · left
          rw [lexS_long (by show 4000 < Y.data.toList.length; exact hz)] at hu
          simp only [Prod.mk.injEq] at hu
          exact ⟨hz, hu.2.1.symm, hu.2.2.symm⟩
        · right
          rw [hYl, lexS_of i1 (by rw [← hYl]; show Y.size ≤ 4000; omega) (by simp; omega)] at hu
          simp only [Prod.mk.injEq] at hu
          have hlK : (ts.take K).length = K := by rw [List.length_take]; omega
          have t1 : us.take K = ts.take K := by
            rw [← hu.1, List.take_append_of_le_length (by omega), List.take_of_length_le (by omega)]
          have t2 : us.drop K = (ts.drop K).map (sh gp.length) := by
            rw [← hu.1, List.drop_append_of_le_length (by omega), List.drop_of_length_le (by omega)]; rfl
          refine ⟨by omega, hu.2.1.symm, by rw [← hu.1]; simp; omega, ?_, ?_⟩
          · rw [t1]; exact Lib.hid (Shift.refl _)
          · rw [t2, hgz]; exact Lib.hid (shift_sh _ _)
      by_cases hKt : K < ts.length
      · have hPK : ts[K].off = P := by rw [← hPe]; unfold posOf; rw [dif_pos hKt]
        exact gaps_in s _ Y wh kd r K P ts us y1 y2 w (by omega) h2 hw hkd a1 hr5 hG (by rw [hgz]; exact len) b1 hKt hPK (by omega) hY hYs (Lib.hid h) (Lib.hid hu) hO hres ht he
      · have hKe : K = ts.length := by omega
        have hPK : P = s.size := by rw [← hPe]; unfold posOf; rw [dif_neg hKt]; rfl
        have hY2 : s ++ (⟨gp.toArray⟩ : ByteArray) = Y := by
          rw [← hY, hPK]
          apply ByteArray.ext
          apply Array.toList_inj.1
          rw [ByteArray.data_append, ByteArray.data_append, ByteArray.data_append, Array.toList_append, Array.toList_append, Array.toList_append, extract_mid, extract_mid, List.drop_zero]
          rw [List.drop_of_length_le (by omega), List.take_of_length_le (by omega)]; simp
        exact gaps_end s _ Y wh kd r K P ts us y1 y2 w (by omega) h2 hw hkd a1 hr5 hG (by rw [hgz]; exact len) b1 hKe hPK (by omega) hY2 hYs (Lib.hid h) (Lib.hid hu) hO hres ht he
    · obtain ⟨rfl, _⟩ := lexS_err h hx (by omega)
      exact gaps_err s wh kd x k w (by omega) hx (Lib.hid h) ht he
end Go.Proofs.YtnanfedggmkboaaDoor
