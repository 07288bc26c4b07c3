/- The check of known sources. -/
import Derived.Test.YtnanfedggmkboaaDoorLLex
import Derived.Test.YtnanfedggmkboaaDoorLSame
namespace Go.Proofs.YtnanfedggmkboaaDoor
open Go.RowKit

theorem lex_at (s : ByteArray) (ts : List Tok) (x k : Nat) (w : World) (hs : s.size ≤ 9223372036854775807) (h : Hid (lexS s.data.toList = (ts, x, k))) (ht : Tab w) (he : Errs w) :
    Calls Tryd.prog 11 #[.string s] w fun e w' => ∃ A c, e = .returned (.tuple #[.slice A ts.length c, .int .i64 x, .int .i64 k]) ∧ ts.length ≤ c ∧ c ≤ maxLen ∧ TRd w' A ts ∧ Below w.heap.size w w' := by
  refine (lex_any s w hs ht he).mono fun e w' ⟨v, he, hT, hB⟩ => ?_
  rw [h.out] at he hT
  obtain ⟨A, c, rfl, h1, h2, h3⟩ := hT.read
  exact ⟨A, c, he, h1, h2, h3, hB⟩

set_option maxHeartbeats 400000 in
theorem fails_yes (s : ByteArray) (x k : Nat) (w : World) (hs : s.size ≤ 9223372036854775807) (h : Hid (lexS s.data.toList = ([], x, k))) (ht : Tab w) (he : Errs w) :
    Calls Tryd.prog 21 #[.string s, .int .i64 x, .int .i64 k] w fun e w' => e = .returned (.bool true) ∧ Below w.heap.size w w' := by
  go_enter Tryd.func21, Tryd.ntmps21
  go_wp2_with (go_at_call 11; refine (lex_at s [] x k _ hs h ht he).mono ?_; rintro e w' ⟨A, c, rfl, _, _, _, hB⟩)
  go_wp2
  go_ret
  exact ⟨rfl, hB⟩

def src0 : List UInt8 := [105, 110, 91, 50, 93, 60, 60, 117, 49, 54, 32, 120, 61, 117, 54, 53]
def want0 : List Tok := [⟨1, [105, 110], 0, 0⟩, ⟨4, [91], 0, 2⟩, ⟨2, [], 2, 3⟩, ⟨4, [93], 0, 4⟩, ⟨4, [60, 60], 0, 5⟩, ⟨3, [], 16, 7⟩, ⟨1, [120], 0, 11⟩, ⟨4, [61], 0, 12⟩, ⟨1, [117, 54, 53], 0, 13⟩]
set_option maxRecDepth 100000 in
theorem lex_src0 : lexS src0 = (want0, 0, 0) := by decide +kernel
set_option maxRecDepth 100000 in
theorem lex_1 : lexS [97, 33, 98] = ([], 10, 1) := by decide +kernel
set_option maxRecDepth 100000 in
theorem lex_2 : lexS [120, 32, 48, 48, 55] = ([], 10, 2) := by decide +kernel
set_option maxRecDepth 100000 in
theorem lex_3 : lexS [32, 49, 56, 52, 52, 54, 55, 52, 52, 48, 55, 51, 55, 48, 57, 53, 53, 49, 54, 49, 54] = ([], 3, 1) := by decide +kernel
set_option maxRecDepth 100000 in
theorem lex_4 : lexS [97, 98, 99, 100, 101, 102, 103, 104, 105, 106, 107, 108, 109] = ([], 3, 0) := by decide +kernel
set_option maxRecDepth 100000 in
theorem lex_5 : lexS (Lib.repeatL [59] 1501) = ([], 2, 1500) := by decide +kernel
set_option maxRecDepth 100000 in
theorem lex_6 : lexS (Lib.repeatL [59] 1500 ++ [33]) = ([], 10, 1500) := by decide +kernel
set_option maxRecDepth 100000 in
theorem lex_7 : lexS (Lib.repeatL [32] 4001) = ([], 2, 0) := by decide +kernel

theorem trd_want (w : World) (T : TypeId) : TRd (w.alloc (.cells #[.int .i64 1, .string { data := #[105, 110] }, .int .u64 0, .int .i64 0, .int .i64 4, .string { data := #[91] }, .int .u64 0, .int .i64 2, .int .i64 2, .string { data := #[] }, .int .u64 2, .int .i64 3, .int .i64 4, .string { data := #[93] }, .int .u64 0, .int .i64 4, .int .i64 4, .string { data := #[60, 60] }, .int .u64 0, .int .i64 5, .int .i64 3, .string { data := #[] }, .int .u64 16, .int .i64 7, .int .i64 1, .string { data := #[120] }, .int .u64 0, .int .i64 11, .int .i64 4, .string { data := #[61] }, .int .u64 0, .int .i64 12, .int .i64 1, .string { data := #[117, 54, 53] }, .int .u64 0, .int .i64 13] T)) (some ⟨w.heap.size, 0, none⟩) want0 := by
  intro i hi
  refine ⟨w.heap.size, 0, rfl, ?_⟩
  match i, hi with
  | 0, _ => refine ⟨?_, ?_, ?_, ?_⟩ <;> simp [go_sem, want0]
  | 1, _ => refine ⟨?_, ?_, ?_, ?_⟩ <;> simp [go_sem, want0]
  | 2, _ => refine ⟨?_, ?_, ?_, ?_⟩ <;> simp [go_sem, want0]
  | 3, _ => refine ⟨?_, ?_, ?_, ?_⟩ <;> simp [go_sem, want0]
  | 4, _ => refine ⟨?_, ?_, ?_, ?_⟩ <;> simp [go_sem, want0]
  | 5, _ => refine ⟨?_, ?_, ?_, ?_⟩ <;> simp [go_sem, want0]
  | 6, _ => refine ⟨?_, ?_, ?_, ?_⟩ <;> simp [go_sem, want0]
  | 7, _ => refine ⟨?_, ?_, ?_, ?_⟩ <;> simp [go_sem, want0]
  | 8, _ => refine ⟨?_, ?_, ?_, ?_⟩ <;> simp [go_sem, want0]
  | i + 9, hi => exact absurd hi (by simp [want0])

/-- What the laws' walks carry from world to world. -/
structure Env (w0 w : World) : Prop where
  tab : Tab w
  errs : Errs w
  below : Below w0.heap.size w0 w
theorem Env.start {w : World} (ht : Tab w) (he : Errs w) : Env w w := ⟨ht, he, Below.refl _ _⟩
theorem Env.later {w0 w w' : World} (h : Env w0 w) (hb : Below w.heap.size w w') : Env w0 w' := ⟨h.tab.later hb, h.errs.later hb, h.below.trans (hb.mono h.below.size)⟩
theorem Env.drew {w0 w : World} (h : Env w0 w) : Env w0 w.drew := h.later (Drew.below ⟨1, rfl⟩)
theorem Env.alloc {w0 w : World} (h : Env w0 w) (o : Obj) : Env w0 (w.alloc o) := h.later ((Below.refl _ _).alloc (Nat.le_refl _) o)
theorem repeat_one (b : UInt8) (c : Nat) (l : List UInt8) (w : World) (hc : 2 ≤ c) (hl : c ≤ 100000) (h : Hid (Lib.repeatL [b] c = l)) :
    Calls Tryd.prog 23 #[.string ⟨#[b]⟩, .int .i64 c] w fun e w' => e = .returned (.string ⟨l.toArray⟩) ∧ Below w.heap.size w w' := by
  have e := h.out
  subst e
  have hz : (⟨#[b]⟩ : ByteArray).size = 1 := rfl
  exact Tryd.strings_Repeat_main ⟨#[b]⟩ c w hc (by omega) (by rw [hz]; omega) (by rw [hz]; omega)

theorem app_list (a b : Array UInt8) : (({ data := a } : ByteArray) ++ { data := b }).data.toList = a.toList ++ b.toList := by
  rw [ByteArray.data_append, Array.toList_append]
theorem app_size (a b : Array UInt8) : (({ data := a } : ByteArray) ++ { data := b }).size = a.size + b.size := by
  rw [ByteArray.size_append]; rfl
set_option maxRecDepth 100000 in
set_option maxHeartbeats 1600000 in
theorem head_walk (w : World) (l5 l6 l7 : List UInt8) (h5 : Hid (Lib.repeatL [59] 1501 = l5)) (h6 : Hid (Lib.repeatL [59] 1500 = l6)) (h7 : Hid (Lib.repeatL [32] 4001 = l7)) (g5 : Hid (lexS l5 = ([], 2, 1500))) (g6 : Hid (lexS (l6 ++ [33]) = ([], 10, 1500))) (g7 : Hid (lexS l7 = ([], 2, 0))) (z5 : l5.length ≤ 100000) (z6 : l6.length ≤ 100000) (z7 : l7.length ≤ 100000) (ht : Tab w) (he : Errs w) :
    Calls Tryd.prog 10 #[] w fun e w' => e = .returned (.bool true) ∧ Below w.heap.size w w' := by
  go_enter Tryd.func10, Tryd.ntmps10
  have E0 := Env.start ht he
  have k6 : (({ data := l6.toArray } : ByteArray) ++ { data := #[33] }).size ≤ 9223372036854775807 := by
    rw [app_size]; simp; omega
  have g6' : Hid (lexS (({ data := l6.toArray } : ByteArray) ++ { data := #[33] }).data.toList = ([], 10, 1500)) := Lib.hid (by
    rw [app_list]; exact g6.out)
  clear ht he
  go_wp2_with fail
  refine (lex_at ⟨src0.toArray⟩ want0 0 0 _ (by decide) (Lib.hid lex_src0) E0.tab E0.errs).mono ?_
  rintro e w1 ⟨A, c, rfl, c1, c2, T1, B1⟩
  have E1 := E0.later B1
  clear E0 B1
  go_wp2_with fail
  refine (same_any A (some ⟨w1.heap.size, 0, none⟩) c 9 want0 want0 0 _ (by omega) (by decide) (Lib.hid (by decide)) (T1.later ((Below.refl _ _).alloc (Nat.le_refl _) _)) (trd_want _ _) (Lib.hid (Shift.refl _))).mono ?_
  rintro e w2 ⟨rfl, D2⟩
  have E2 := (E1.alloc _).later D2.below
  clear E1 T1 D2
  go_wp2_with fail
  refine (fails_yes ⟨#[97, 33, 98]⟩ 10 1 _ (by decide) (Lib.hid lex_1) E2.tab E2.errs).mono ?_
  rintro e w3 ⟨rfl, B⟩
  have E3 := E2.later B
  clear E2 B
  go_wp2_with fail
  refine (fails_yes ⟨#[120, 32, 48, 48, 55]⟩ 10 2 _ (by decide) (Lib.hid lex_2) E3.tab E3.errs).mono ?_
  rintro e w4 ⟨rfl, B⟩
  have E4 := E3.later B
  clear E3 B
  go_wp2_with fail
  refine (fails_yes ⟨#[32, 49, 56, 52, 52, 54, 55, 52, 52, 48, 55, 51, 55, 48, 57, 53, 53, 49, 54, 49, 54]⟩ 3 1 _ (by decide) (Lib.hid lex_3) E4.tab E4.errs).mono ?_
  rintro e w5 ⟨rfl, B⟩
  have E5 := E4.later B
  clear E4 B
  go_wp2_with fail
  refine (fails_yes ⟨#[97, 98, 99, 100, 101, 102, 103, 104, 105, 106, 107, 108, 109]⟩ 3 0 _ (by decide) (Lib.hid lex_4) E5.tab E5.errs).mono ?_
  rintro e w6 ⟨rfl, B⟩
  have E6 := E5.later B
  clear E5 B
  go_wp2_with fail
  refine (repeat_one 59 1501 l5 _ (by decide) (by decide) h5).mono ?_
  rintro e w7 ⟨rfl, B⟩
  have E7 := E6.later B
  clear E6 B
  go_wp2_with fail
  refine (fails_yes ⟨l5.toArray⟩ 2 1500 _ (show l5.toArray.size ≤ _ by simp; omega) g5 E7.tab E7.errs).mono ?_
  rintro e w8 ⟨rfl, B⟩
  have E8 := E7.later B
  clear E7 B
  go_wp2_with fail
  refine (repeat_one 59 1500 l6 _ (by decide) (by decide) h6).mono ?_
  rintro e w9 ⟨rfl, B⟩
  have E9 := E8.later B
  clear E8 B
  go_wp2_with fail
  generalize (({ data := l6.toArray } : ByteArray) ++ { data := #[33] }) = S6 at *
  refine (fails_yes S6 10 1500 _ k6 g6' E9.tab E9.errs).mono ?_
  rintro e w10 ⟨rfl, B⟩
  have E10 := E9.later B
  clear E9 B
  go_wp2_with fail
  refine (repeat_one 32 4001 l7 _ (by decide) (by decide) h7).mono ?_
  rintro e w11 ⟨rfl, B⟩
  have E11 := E10.later B
  clear E10 B
  go_wp2_with fail
  refine (fails_yes ⟨l7.toArray⟩ 2 0 _ (show l7.toArray.size ≤ _ by simp; omega) g7 E11.tab E11.errs).mono ?_
  rintro e w12 ⟨rfl, B⟩
  have E12 := E11.later B
  clear E11 B
  go_wp2
  go_ret
  exact ⟨rfl, E12.below⟩

theorem head_any (w : World) (ht : Tab w) (he : Errs w) :
    Calls Tryd.prog 10 #[] w fun e w' => e = .returned (.bool true) ∧ Below w.heap.size w w' :=
  head_walk w _ _ _ (Lib.hid rfl) (Lib.hid rfl) (Lib.hid rfl) (Lib.hid lex_5) (Lib.hid lex_6) (Lib.hid lex_7) (by rw [Lib.repeatL_length]; decide) (by rw [Lib.repeatL_length]; decide) (by rw [Lib.repeatL_length]; decide) ht he
end Go.Proofs.YtnanfedggmkboaaDoor
