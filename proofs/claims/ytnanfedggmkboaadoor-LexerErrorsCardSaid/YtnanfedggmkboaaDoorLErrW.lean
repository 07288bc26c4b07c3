/- LexerErrors: the walk. -/
import Derived.Test.YtnanfedggmkboaaDoorLGaps
import Derived.Test.YtnanfedggmkboaaDoorLRefE
namespace Go.Proofs.YtnanfedggmkboaaDoor
open Go.RowKit

set_option maxHeartbeats 400000 in
theorem errors_long (a b : ByteArray) (w : World) (hl : 4000 < a.size ∨ 4000 < b.size) (hs : a.size ≤ 9223372036854775807) (hs2 : b.size ≤ 9223372036854775807) (ht : Tab w) (he : Errs w) :
    Calls Tryd.prog 8 #[.string a, .string b] w fun e w' => e = .returned (.bool true) ∧ Below w.heap.size w w' := by
  by_cases h1 : 4000 < a.size
  · go_enter Tryd.func8, Tryd.ntmps8
    go_wp2_with (go_at_call 10; refine (head_any _ ht he).mono ?_; rintro e w1 ⟨rfl, B⟩)
    all_goals go_ret
    all_goals exact ⟨rfl, B⟩
  · have h2 : 4000 < b.size := by omega
    go_enter Tryd.func8, Tryd.ntmps8
    go_wp2_with (go_at_call 10; refine (head_any _ ht he).mono ?_; rintro e w1 ⟨rfl, B⟩)
    all_goals go_ret
    all_goals exact ⟨rfl, B⟩

set_option maxRecDepth 100000 in
set_option maxHeartbeats 1600000 in
theorem errors_ok (a b : ByteArray) (ts : List Tok) (w : World) (hl : a.size ≤ 4000) (hl2 : b.size ≤ 4000) (h : Hid (lexS a.data.toList = (ts, 0, 0))) (ht : Tab w) (he : Errs w) :
    Calls Tryd.prog 8 #[.string a, .string b] w fun e w' => e = .returned (.bool true) ∧ Below w.heap.size w w' := by
  go_enter Tryd.func8, Tryd.ntmps8
  have E0 := Env.start ht he
  clear ht he
  go_wp2_with fail
  refine (head_any _ E0.tab E0.errs).mono ?_
  rintro e w1 ⟨rfl, B⟩
  have E1 := E0.later B
  clear E0 B
  go_wp2_with fail
  refine (lex_at a ts 0 0 _ (by omega) h E1.tab E1.errs).mono ?_
  rintro e w2 ⟨A, c, rfl, hc1, hc2, hT, B⟩
  have E2 := E1.later B
  clear E1 B
  go_wp2
  go_ret
  exact ⟨rfl, E2.below⟩

set_option maxRecDepth 100000 in
set_option maxHeartbeats 3200000 in
theorem errors_at (a b P O : ByteArray) (us : List Tok) (x k N M : Nat) (w : World) (hl : a.size ≤ 4000) (hl2 : b.size ≤ 4000) (hx : x ≠ 0) (hk : k < a.size)
    (h : Hid (lexS a.data.toList = ([], x, k))) (hP : a.extract 0 k = P) (h' : Hid (lexS P.data.toList = (us, 0, 0))) (hN : Hid (k + tokLen (a.data.toList.drop k) = N))
    (hM : M = max (k + 1) N) (hM2 : M ≤ a.size) (hO : a.extract 0 M ++ ⟨#[32]⟩ ++ b = O) (hOs : O.size ≤ 100000) (h2 : Hid (x = 2 → us.length = 1500)) (hf : Hid (O.size ≤ 4000 → lexS O.data.toList = ([], x, k))) (ht : Tab w) (he : Errs w) :
    Calls Tryd.prog 8 #[.string a, .string b] w fun e w' => e = .returned (.bool true) ∧ Below w.heap.size w w' := by
  go_enter Tryd.func8, Tryd.ntmps8
  have E0 := Env.start ht he
  clear ht he
  go_wp2_with fail
  refine (head_any _ E0.tab E0.errs).mono ?_
  rintro e w1 ⟨rfl, B⟩
  have E1 := E0.later B
  clear E0 B
  go_wp2_with fail
  refine (lex_at a [] x k _ (by omega) h E1.tab E1.errs).mono ?_
  rintro e w2 ⟨A, c, rfl, hc1, hc2, hT, B⟩
  have E2 := E1.later B
  clear E1 B hT
  have b1 : ((x : Int) == 0) = false := by simp; omega
  go_wp2_with fail
  have hPs : P.size ≤ 9223372036854775807 := by rw [← hP]; simp; omega
  refine (lex_at P us 0 0 _ hPs h' E2.tab E2.errs).mono ?_
  rintro e w3 ⟨A2, c', rfl, hd1, hd2, hU, B⟩
  have E3 := E2.later B
  clear E2 B hU
  go_wp2_with fail
  refine (endR_any a k N _ hk (by omega) hN).mono ?_
  rintro e w4 ⟨rfl, B⟩
  have E4 := E3.later B
  clear E3 B
  have hm : max ((k : Int) + 1) (N : Int) = (M : Int) := by omega
  clear hM hN
  by_cases ho : O.size ≤ 4000
  · have ho2 : ¬ 4000 < (O.size : Int) := by omega
    have hOs2 : O.size ≤ 9223372036854775807 := by omega
    have hF : Hid (lexS O.data.toList = ([], x, k)) := Lib.hid (hf.out ho)
    clear hf
    by_cases h2x : x = 2
    · have hu := h2.out h2x
      subst h2x
      clear h2
      go_wp2_with (go_at_call 21; refine (fails_yes O 2 k _ hOs2 hF E4.tab E4.errs).mono ?_; rintro e w5 ⟨rfl, B⟩)
      go_ret
      exact ⟨rfl, (E4.later B).below⟩
    · have b2 : ((x : Int) != 2) = true := by simp; omega
      clear h2
      go_wp2_with (go_at_call 21; refine (fails_yes O x k _ hOs2 hF E4.tab E4.errs).mono ?_; rintro e w5 ⟨rfl, B⟩)
      go_ret
      exact ⟨rfl, (E4.later B).below⟩
  · have ho2 : 4000 < (O.size : Int) := by omega
    by_cases h2x : x = 2
    · have hu := h2.out h2x
      subst h2x
      clear h2 hf
      go_wp2
      go_ret
      exact ⟨rfl, E4.below⟩
    · have b2 : ((x : Int) != 2) = true := by simp; omega
      clear h2 hf
      go_wp2
      go_ret
      exact ⟨rfl, E4.below⟩

theorem readT_err (l : List UInt8) : (readT l).2 ≠ 2 := by
  cases l with
  | nil => simp [readT]
  | cons b l =>
    rw [readT]
    by_cases h1 : isLet b = true
    · rw [if_pos h1]
      by_cases h2 : widthOf (b :: l) ≠ 0
      · rw [if_pos h2]; simp
      · rw [if_neg h2]
        by_cases h3 : 12 < (b :: l).length
        · rw [if_pos h3]; simp
        · rw [if_neg h3]; simp
    · rw [if_neg h1]
      by_cases h2 : isDig b = true
      · rw [if_pos h2]
        by_cases h3 : l ≠ [] ∧ b.toNat = 48
        · rw [if_pos h3]; simp
        · rw [if_neg h3]
          cases Lib.parseUintB 64 (b :: l) <;> simp
      · rw [if_neg h2]; simp
/-- The source with something else behind the wrong token. -/
theorem err_tail {s : List UInt8} {us : List Tok} {m : List UInt8} {a e : Nat} (h : LpS s us m a) (hm : m ≠ []) (hu : us.length ≤ 1500) (he : ErrAt m us.length e) (tail : List UInt8)
    (hl : (s.take (max (a + 1) (a + tokLen m)) ++ 32 :: tail).length ≤ 4000) : lexS (s.take (max (a + 1) (a + tokLen m)) ++ 32 :: tail) = ([], e, a) := by
  have hlen := tokLen_le m
  have hm1 : 1 ≤ m.length := List.length_pos_iff.2 hm
  obtain ⟨b, r, rfl⟩ : ∃ b r, m = b :: r := by cases m with | nil => exact absurd rfl hm | cons b r => exact ⟨b, r, rfl⟩
  obtain ⟨p, hp, ha, hq⟩ := h.swap ((b :: r).take (max 1 (tokLen (b :: r))) ++ 32 :: tail) (Or.inr (by
    have : 1 ≤ max 1 (tokLen (b :: r)) := Nat.le_max_left _ _
    obtain ⟨n, hn⟩ : ∃ n, max 1 (tokLen (b :: r)) = n + 1 := ⟨max 1 (tokLen (b :: r)) - 1, by omega⟩
    rw [hn]; rfl))
  have e1 : s.take (max (a + 1) (a + tokLen (b :: r))) = p ++ (b :: r).take (max 1 (tokLen (b :: r))) := by
    rw [hp, show max (a + 1) (a + tokLen (b :: r)) = p.length + max 1 (tokLen (b :: r)) by omega, List.take_append, List.take_of_length_le (by omega)]
    congr 2; omega
  rw [e1, List.append_assoc] at hl ⊢
  refine lexS_of_err hq hl hu (by simp) ?_ he.ne
  by_cases h0 : tokLen (b :: r) = 0
  · rw [h0]
    have hn := tok_none (r' := tail) h0
    rcases he with ⟨_, rfl⟩ | ⟨h, _⟩ | ⟨h, _⟩
    · exact Or.inl ⟨hn, rfl⟩
    · exact absurd h0 h
    · exact absurd h0 h
  · have h1 : max 1 (tokLen (b :: r)) = tokLen (b :: r) := by omega
    rw [h1]
    have hx : ((b :: r).take (tokLen (b :: r))).length = tokLen (b :: r) := by rw [List.length_take]; omega
    have ht : tokLen ((b :: r).take (tokLen (b :: r)) ++ 32 :: tail) = tokLen (b :: r) := by
      have := tok_swap (x := (b :: r).take (tokLen (b :: r))) (r := (b :: r).drop (tokLen (b :: r))) (r' := 32 :: tail) (by rw [List.take_append_drop, hx]) (by intro e; rw [e] at hx; simp at hx; omega) (Or.inr (Or.inr ⟨32, rfl, by decide⟩))
      rw [hx] at this; exact this
    rcases he with ⟨h, _⟩ | ⟨h, hn, rfl⟩ | ⟨h, hn, he1, he2⟩
    · exact absurd h h0
    · exact Or.inr (Or.inl ⟨by rw [ht]; exact h0, hn, rfl⟩)
    · refine Or.inr (Or.inr ⟨by rw [ht]; exact h0, hn, ?_, he2⟩)
      rw [he1, ht, List.take_append_of_le_length (by omega), List.take_take, Nat.min_self]

theorem errors_any (a b : ByteArray) (w : World) (hs : a.size ≤ 9223372036854775807) (hs2 : b.size ≤ 9223372036854775807) (ht : Tab w) (he : Errs w) :
    Calls Tryd.prog 8 #[.string a, .string b] w fun e w' => e = .returned (.bool true) ∧ Below w.heap.size w w' := by
  by_cases hl : 4000 < a.size ∨ 4000 < b.size
  · exact errors_long a b w hl hs hs2 ht he
  · obtain ⟨ts, x, k, h⟩ : ∃ ts x k, lexS a.data.toList = (ts, x, k) := ⟨_, _, _, rfl⟩
    have hln : a.data.toList.length = a.size := rfl
    have hln2 : b.data.toList.length = b.size := rfl
    by_cases hx : x = 0
    · subst hx
      obtain ⟨h1, h2, h3, rfl⟩ := lexS_ok h
      exact errors_ok a b ts w (by omega) (by omega) (Lib.hid h) ht he
    · obtain ⟨rfl, us, m, j1, j2, j3, j4⟩ := lexS_err h hx (by omega)
      have jl := j1.len
      have hm1 : 1 ≤ m.length := List.length_pos_iff.2 j2
      obtain ⟨p, hp, hk, hq⟩ := j1.swap [] (Or.inl rfl)
      have hd : a.data.toList.drop k = m := by rw [hp, hk]; simp
      have htk : a.data.toList.take k = p := by rw [hp, hk]; simp
      have tl := tokLen_le m
      obtain ⟨M, hM⟩ : ∃ M, M = max (k + 1) (k + tokLen m) := ⟨_, rfl⟩
      have hP : (a.extract 0 k).data.toList = p := by rw [extract_mid]; simpa using htk
      have hO : (a.extract 0 M ++ ⟨#[32]⟩ ++ b).data.toList = a.data.toList.take M ++ 32 :: b.data.toList := by
        rw [ByteArray.data_append, ByteArray.data_append, Array.toList_append, Array.toList_append, extract_mid]
        simp
      have hOl : (a.extract 0 M ++ ⟨#[32]⟩ ++ b).size = (a.data.toList.take M ++ 32 :: b.data.toList).length := by rw [← hO]; rfl
      refine errors_at a b _ _ us x k (k + tokLen m) M w (by omega) (by omega) hx (by omega) (Lib.hid h) rfl (Lib.hid ?_) (Lib.hid (by rw [hd])) hM (by omega) rfl ?_ (Lib.hid ?_) (Lib.hid ?_) ht he
      · rw [hP]
        rw [List.append_nil] at hq
        exact lexS_of (a := k) hq (by omega) j3
      · rw [hOl]; simp; omega
      · intro h2
        rcases j4 with ⟨_, rfl⟩ | ⟨_, hn, _⟩ | ⟨_, _, e1, _⟩
        · omega
        · exact hn
        · rw [h2] at e1
          exact absurd e1.symm (readT_err _)
      · intro hl
        rw [hO]
        rw [hOl] at hl
        rw [hM] at hl ⊢
        exact err_tail j1 j2 j3 j4 _ hl
end Go.Proofs.YtnanfedggmkboaaDoor
