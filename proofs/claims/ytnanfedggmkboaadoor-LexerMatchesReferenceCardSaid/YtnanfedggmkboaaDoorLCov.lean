/- LexerCovers: the walk. -/
import Derived.Test.YtnanfedggmkboaaDoorLTxt
import Derived.Test.YtnanfedggmkboaaDoorLGapR
namespace Go.Proofs.YtnanfedggmkboaaDoor
open Go.RowKit

set_option maxHeartbeats 400000 in
theorem covers_long (s : ByteArray) (w : World) (hl : 4000 < s.size) (hs : s.size ≤ 9223372036854775807) (ht : Tab w) (he : Errs w) :
    Calls Tryd.prog 4 #[.string s] w fun e w' => e = .returned (.bool true) ∧ Below w.heap.size w w' := by
  go_enter Tryd.func4, Tryd.ntmps4
  go_wp2_with (go_at_call 10; refine (head_any _ ht he).mono ?_; rintro e w1 ⟨rfl, B⟩)
  go_ret
  exact ⟨rfl, B⟩
set_option maxHeartbeats 800000 in
theorem covers_err (s : ByteArray) (x k : Nat) (w : World) (hl : s.size ≤ 4000) (hx : x ≠ 0) (h : Hid (lexS s.data.toList = ([], x, k))) (ht : Tab w) (he : Errs w) :
    Calls Tryd.prog 4 #[.string s] w fun e w' => e = .returned (.bool true) ∧ Below w.heap.size w w' := by
  have b0 : ((x : Int) != 0) = true := by simp; omega
  go_enter Tryd.func4, Tryd.ntmps4
  have E0 := Env.start ht he
  clear ht he
  go_wp2_with fail
  refine (head_any _ E0.tab E0.errs).mono ?_
  rintro e w1 ⟨rfl, B⟩
  have E1 := E0.later B
  clear E0 B
  go_wp2_with fail
  refine (lex_at s [] x k _ (by omega) h E1.tab E1.errs).mono ?_
  rintro e w2 ⟨A, c, rfl, _, _, _, B⟩
  have E2 := E1.later B
  clear E1 B
  go_wp2
  go_ret
  exact ⟨rfl, E2.below⟩

theorem gapQ (s : ByteArray) (p o : Nat) (hp : p ≤ s.size) (hs : s.size ≤ 100000) (h : Hid (p + gapLen (s.data.toList.drop p) = o)) :
    Hid (∀ w, Calls Tryd.prog 15 #[.string s, .int .i64 p] w fun e w' => e = .returned (.int .i64 o) ∧ ∃ n, w' = w.drewN n) :=
  Lib.hid fun w => by
    have := gapR_any s p w hp hs
    rw [h.out] at this
    exact this
set_option maxRecDepth 100000 in
set_option maxHeartbeats 1600000 in
theorem covers_ok (s : ByteArray) (ts : List Tok) (w : World) (hl : s.size ≤ 4000) (ht5 : ts.length ≤ 1500) (h : Hid (lexS s.data.toList = (ts, 0, 0))) (hC : Hid (Cov s.data.toList 0 ts)) (ht : Tab w) (he : Errs w) :
    Calls Tryd.prog 4 #[.string s] w fun e w' => e = .returned (.bool true) ∧ Below w.heap.size w w' := by
  go_enter Tryd.func4, Tryd.ntmps4
  have E0 := Env.start ht he
  clear ht he
  go_wp2_with fail
  refine (head_any _ E0.tab E0.errs).mono ?_
  rintro e w1 ⟨rfl, B⟩
  have E1 := E0.later B
  clear E0 B
  go_wp2_with fail
  refine (lex_at s ts 0 0 _ (by omega) h E1.tab E1.errs).mono ?_
  rintro e w2 ⟨A, c, rfl, hc1, hc2, hT, B⟩
  have E2 := E1.later B
  clear E1 B
  go_wp2_with fail
  go_loopw [7, 32] (fun a i wr => ∃ k p : Nat, k ≤ ts.length ∧ p ≤ s.size ∧ a = .int .i64 p ∧ i = .int .i64 k ∧ Hid (Cov s.data.toList p (ts.drop k)) ∧ Env w wr ∧ TRd wr A ts) (fun _ i _ => ts.length - (intOf i).toNat)
  case atStart => exact ⟨0, 0, Nat.zero_le _, Nat.zero_le _, rfl, rfl, by simpa using hC, E2, hT⟩
  case round =>
    rename_i wr
    obtain ⟨k, p, hk, hp, rfl, rfl, hCk, E3, hT3⟩ := hrel
    clear hC h E2 hT
    by_cases hlt : k < ts.length
    · have hd : ts.drop k = ts[k] :: ts.drop (k + 1) := List.drop_eq_getElem_cons hlt
      have hc0 := hCk.out
      rw [hd, Cov] at hc0
      obtain ⟨x1, x2, x3, x4, x5, x6⟩ := hc0
      obtain ⟨g, o, rfl, r0, r1, r2, r3⟩ := hT3 k hlt
      have hText := Lib.hid (text_any ts[k].kind ts[k].text ts[k].num ts[k].off x5)
      have hx : ∃ X : ByteArray, (⟨(textV (ts[k].kind, ts[k].text, ts[k].num)).toArray⟩ : ByteArray) = X ∧ X.size = (textOf ts[k]).length ∧ 0 < X.size ∧ s.extract ts[k].off (ts[k].off + X.size) = X ∧ ts[k].off + X.size ≤ s.size := by
        refine ⟨_, rfl, size_mk _, ?_, ?_, ?_⟩
        · rw [size_mk]
          exact List.length_pos_iff.2 x1
        · rw [size_mk]
          apply ByteArray.ext
          apply Array.toList_inj.1
          rw [extract_mid, show ts[k].off + (textV (ts[k].kind, ts[k].text, ts[k].num)).length - ts[k].off = (textOf ts[k]).length by unfold textOf; omega, x4]
          rfl
        · rw [size_mk]; exact x3
      obtain ⟨X, e1, e2, e3, e4, e5⟩ := hx
      rw [e1] at hText
      rw [← e2] at x6
      have HN : Hid (Cov s.data.toList (ts[k].off + X.size) (ts.drop (k + 1))) := Lib.hid x6
      have HG : Hid (p + gapLen (s.data.toList.drop p) = ts[k].off) := Lib.hid x2
      have hpo : p ≤ ts[k].off := by omega
      clear hd x1 x2 x3 x4 x5 x6 e1 e2 hCk
      generalize ts[k].kind = a0 at *
      generalize ts[k].text = a1 at *
      generalize ts[k].num = a2 at *
      generalize ts[k].off = a3 at *
      go_wp2_with fail
      refine (hText.out _).mono ?_
      rintro e w4 ⟨rfl, B4⟩
      have c3 : w4.cell? ⟨wr.heap.size, 3, none⟩ = some (.int .i64 a3) := cell_later B4 (by simp [go_sem])
      have B5 : Below wr.heap.size wr w4 := ((Below.refl _ _).alloc (Nat.le_refl _) _).trans (B4.mono (by simp))
      have E4 := E3.later B5
      have T4 := hT3.later B5
      clear E3 hT3 B4 B5 r0 r1 r2 r3 hText
      have hq := gapQ s p a3 hp (by omega) HG
      have hz0 : X.toList ≠ [] := by
        rw [ByteArray.toList_eq]
        intro e
        have : X.data.toList.length = X.size := rfl
        rw [e] at this; simp at this; omega
      have hz1 : (X.toList == ([] : List UInt8)) = false := by simpa using hz0
      have hz2 : (X.toList == (⟨#[]⟩ : ByteArray).toList) = false := by rw [ByteArray.toList_eq ⟨#[]⟩]; exact hz1
      have hz3 : ((a3 : Int) < p) = False := by simp; omega
      have hz4 : ((s.size : Int) - X.size < a3) = False := by simp; omega
      go_wp2_with fail
      go_quiet ((go_at_call 15; exact Calls.quiet_of (hq.out _)))
      go_wp2
      go_roundw
      case rel => exact ⟨k + 1, a3 + X.size, by omega, by omega, by go_num, by go_num, HN, E4.later (Drew.below ⟨_, rfl⟩), T4.later (Drew.below ⟨_, rfl⟩)⟩
      case measure => simp [intOf]; omega
    · have HN : Hid (p + gapLen (s.data.toList.drop p) = s.size) := Lib.hid (by
        have h := hCk.out
        rw [List.drop_eq_nil_of_le (by omega), Cov] at h
        exact h)
      clear hCk
      go_wp2_with fail
      refine (gapR_any s p _ hp (by omega)).mono ?_
      rintro e w4 ⟨rfl, D⟩
      rw [HN.out]
      have E4 := E3.later D.below
      clear E3 D
      go_wp2
      go_ret
      exact ⟨rfl, E4.below⟩

theorem covers_any (s : ByteArray) (w : World) (hs : s.size ≤ 9223372036854775807) (ht : Tab w) (he : Errs w) :
    Calls Tryd.prog 4 #[.string s] w fun e w' => e = .returned (.bool true) ∧ Below w.heap.size w w' := by
  by_cases hl : 4000 < s.size
  · exact covers_long s w hl hs ht he
  · obtain ⟨ts, x, k, h⟩ : ∃ ts x k, lexS s.data.toList = (ts, x, k) := ⟨_, _, _, rfl⟩
    have hl2 : s.data.toList.length ≤ 4000 := by
      have : s.data.toList.length = s.size := rfl
      omega
    by_cases hx : x = 0
    · subst hx
      obtain ⟨h1, h2, h3, rfl⟩ := lexS_ok h
      exact covers_ok s ts w (by omega) h2 (Lib.hid h) (Lib.hid h3.cov) ht he
    · obtain ⟨rfl, _⟩ := lexS_err h hx hl2
      exact covers_err s x k w (by omega) hx (Lib.hid h) ht he
end Go.Proofs.YtnanfedggmkboaaDoor
