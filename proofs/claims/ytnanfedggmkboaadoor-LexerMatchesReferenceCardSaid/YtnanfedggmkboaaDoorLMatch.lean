/- LexerMatchesReference: the walk. -/
import Derived.Test.YtnanfedggmkboaaDoorLGaps
import Derived.Test.YtnanfedggmkboaaDoorLRefL
namespace Go.Proofs.YtnanfedggmkboaaDoor
open Go.RowKit

set_option maxHeartbeats 400000 in
theorem matches_long (s : ByteArray) (w : World) (hl : 5000 < s.size) (hs : s.size ≤ 9223372036854775807) (ht : Tab w) (he : Errs w) :
    Calls Tryd.prog 3 #[.string s] w fun e w' => e = .returned (.bool true) ∧ Below w.heap.size w w' := by
  go_enter Tryd.func3, Tryd.ntmps3
  go_wp2_with (go_at_call 10; refine (head_any _ ht he).mono ?_; rintro e w1 ⟨rfl, B⟩)
  go_ret
  exact ⟨rfl, B⟩
set_option maxRecDepth 100000 in
set_option maxHeartbeats 1600000 in
theorem matches_in (s : ByteArray) (ts : List Tok) (x k : Nat) (w : World) (hl : s.size ≤ 5000) (ht5 : ts.length ≤ 1500) (h : Hid (lexS s.data.toList = (ts, x, k))) (hO : Hid (∀ t ∈ ts, t.off ≤ 100000)) (ht : Tab w) (he : Errs w) :
    Calls Tryd.prog 3 #[.string s] w fun e w' => e = .returned (.bool true) ∧ Below w.heap.size w w' := by
  go_enter Tryd.func3, Tryd.ntmps3
  have E0 := Env.start ht he
  clear ht he
  go_wp2_with fail
  refine (head_any _ E0.tab E0.errs).mono ?_
  rintro e w1 ⟨rfl, B⟩
  have E1 := E0.later B
  clear E0 B
  go_wp2_with fail
  refine (lex_at s ts x k _ (by omega) h E1.tab E1.errs).mono ?_
  rintro e w2 ⟨A, c, rfl, hc1, hc2, hT, B⟩
  have E2 := E1.later B
  clear E1 B
  go_wp2_with fail
  refine (lexR_at s ts x k _ (by omega) h).mono ?_
  rintro e w3 ⟨A2, c2, rfl, hd1, hd2, hU, B⟩
  have E3 := E2.later B
  have T3 := hT.later B
  clear E2 B hT
  have hS : Hid (Shift 0 ts ts) := Lib.hid (Shift.refl _)
  go_wp2_with fail
  refine (same_at A A2 c c2 _ ts ts 0 _ rfl (by omega) (by omega) hO T3 hU hS).mono ?_
  rintro e w4 ⟨rfl, D⟩
  go_wp2
  go_ret
  exact ⟨rfl, (E3.later D.below).below⟩
theorem matches_any (s : ByteArray) (w : World) (hs : s.size ≤ 9223372036854775807) (ht : Tab w) (he : Errs w) :
    Calls Tryd.prog 3 #[.string s] w fun e w' => e = .returned (.bool true) ∧ Below w.heap.size w w' := by
  by_cases hl : 5000 < s.size
  · exact matches_long s w hl hs ht he
  · obtain ⟨ts, x, k, h⟩ : ∃ ts x k, lexS s.data.toList = (ts, x, k) := ⟨_, _, _, rfl⟩
    have hln : s.data.toList.length = s.size := rfl
    by_cases h4 : s.data.toList.length ≤ 4000
    · by_cases hx : x = 0
      · subst hx
        obtain ⟨h1, h2, h3, rfl⟩ := lexS_ok h
        refine matches_in s ts 0 0 w (by omega) h2 (Lib.hid h) (Lib.hid fun t ht => ?_) ht he
        obtain ⟨g, l, _, _, hp⟩ := h3
        have := lp_off hp t ht
        omega
      · obtain ⟨rfl, _⟩ := lexS_err h hx h4
        exact matches_in s [] x k w (by omega) (by simp) (Lib.hid h) (Lib.hid (by simp)) ht he
    · have h2 := h
      rw [lexS_long (by omega)] at h2
      simp only [Prod.mk.injEq] at h2
      obtain ⟨rfl, rfl, rfl⟩ := h2
      exact matches_in s [] 2 0 w (by omega) (by simp) (Lib.hid h) (Lib.hid (by simp)) ht he
end Go.Proofs.YtnanfedggmkboaaDoor
