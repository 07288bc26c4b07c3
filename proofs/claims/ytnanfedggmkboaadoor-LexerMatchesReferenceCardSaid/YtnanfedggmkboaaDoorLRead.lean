/- What a token's text is read as. -/
import Derived.Test.YtnanfedggmkboaaDoorLWidth
namespace Go.Proofs.YtnanfedggmkboaaDoor
open Go.RowKit

/-- Behind what a call has made, all that was there is as it was. -/
theorem bcell {W w1 : World} (hb : Below W.heap.size W w1) : (∀ b o, b < W.heap.size → w1.cell? ⟨b, o, none⟩ = W.cell? ⟨b, o, none⟩) ∧ (∀ b o, b < W.heap.size → w1.frozen? ⟨b, o, none⟩ = W.frozen? ⟨b, o, none⟩) :=
  ⟨fun b o h => hb.cell (p := ⟨b, o, none⟩) h, fun b o h => hb.frozen (p := ⟨b, o, none⟩) h⟩
theorem below1 {w w1 : World} {o : Obj} (hb : Below (w.alloc o).heap.size (w.alloc o) w1) : Below w.heap.size w w1 :=
  ((Below.refl _ _).alloc (Nat.le_refl _) _).trans (hb.mono (by simp))

set_option maxRecDepth 100000 in
set_option maxHeartbeats 800000 in
theorem readWord_type (s : ByteArray) (n : Nat) (h1 : 1 ≤ n) (h2 : n ≤ 64) (h : Hid (s.data.toList = 117 :: Lib.decDigits n)) (w : World) :
    Calls Tryd.prog 45 #[.string s] w fun e w' => e = .returned (.tuple #[.agg #[.int .i64 3, .string ⟨#[]⟩, .int .u64 n, .int .i64 0], .int .i64 0]) ∧ Below w.heap.size w w' := by
  go_enter Tryd.func45, Tryd.ntmps45
  go_wp2_with fail
  refine (width_yes s n h1 h2 h _).mono ?_
  rintro e w1 ⟨rfl, hb1⟩
  obtain ⟨hc1, hf1⟩ := bcell hb1
  have hz1 : w.heap.size < w1.heap.size := by have hs := hb1.size; simp at hs; omega
  go_wp2
  refine bodyPost_ret (v := .tuple #[.agg #[.int .i64 3, .string ⟨#[]⟩, .int .u64 n, .int .i64 0], .int .i64 0]) (by simp [results, Tryd.results45, go_sem, hc1]) rfl ⟨rfl, ?_⟩
  (repeat (first | exact below1 hb1 | exact Below.refl _ _ | refine Below.setCell ?_ (by simp) _ | refine Below.alloc ?_ (by simp) _))

set_option maxRecDepth 100000 in
set_option maxHeartbeats 800000 in
theorem readWord_long (s : ByteArray) (h1 : 12 < s.size) (hs : s.size ≤ 100000) (h : Hid (widthOf s.data.toList = 0)) (w : World) (he : Errs w) :
    Calls Tryd.prog 45 #[.string s] w fun e w' => e = .returned (.tuple #[.agg #[.int .i64 0, .string ⟨#[]⟩, .int .u64 0, .int .i64 0], .int .i64 3]) ∧ Below w.heap.size w w' := by
  go_enter Tryd.func45, Tryd.ntmps45
  go_wp2_with fail
  refine (width_no s hs h.out _ (he.later ((Below.refl _ _).alloc (Nat.le_refl _) _))).mono ?_
  rintro e w1 ⟨rfl, hb1⟩
  obtain ⟨hc1, hf1⟩ := bcell hb1
  have hz1 : w.heap.size < w1.heap.size := by have hs := hb1.size; simp at hs; omega
  go_wp2
  refine bodyPost_ret (v := .tuple #[.agg #[.int .i64 0, .string ⟨#[]⟩, .int .u64 0, .int .i64 0], .int .i64 3]) (by simp [results, Tryd.results45, go_sem, hc1]) rfl ⟨rfl, ?_⟩
  (repeat (first | exact below1 hb1 | exact Below.refl _ _ | refine Below.setCell ?_ (by simp) _ | refine Below.alloc ?_ (by simp) _))

set_option maxRecDepth 100000 in
set_option maxHeartbeats 800000 in
theorem readWord_name (s : ByteArray) (h1 : ¬ 12 < s.size) (hs : s.size ≤ 100000) (h : Hid (widthOf s.data.toList = 0)) (w : World) (he : Errs w) :
    Calls Tryd.prog 45 #[.string s] w fun e w' => e = .returned (.tuple #[.agg #[.int .i64 1, .string s, .int .u64 0, .int .i64 0], .int .i64 0]) ∧ Below w.heap.size w w' := by
  go_enter Tryd.func45, Tryd.ntmps45
  go_wp2_with fail
  refine (width_no s hs h.out _ (he.later ((Below.refl _ _).alloc (Nat.le_refl _) _))).mono ?_
  rintro e w1 ⟨rfl, hb1⟩
  obtain ⟨hc1, hf1⟩ := bcell hb1
  have hz1 : w.heap.size < w1.heap.size := by have hs := hb1.size; simp at hs; omega
  go_wp2
  refine bodyPost_ret (v := .tuple #[.agg #[.int .i64 1, .string s, .int .u64 0, .int .i64 0], .int .i64 0]) (by simp [results, Tryd.results45, go_sem, hc1]) rfl ⟨rfl, ?_⟩
  (repeat (first | exact below1 hb1 | exact Below.refl _ _ | refine Below.setCell ?_ (by simp) _ | refine Below.alloc ?_ (by simp) _))

set_option maxRecDepth 100000 in
set_option maxHeartbeats 800000 in
theorem readNumber_zero (s : ByteArray) (h0 : 1 < s.size) (hs : s.size ≤ 100000) (h48 : Hid (s[0].toNat = 48)) (w : World) :
    Calls Tryd.prog 46 #[.string s] w fun e w' => e = .returned (.tuple #[.agg #[.int .i64 0, .string ⟨#[]⟩, .int .u64 0, .int .i64 0], .int .i64 10]) ∧ Below w.heap.size w w' := by
  have t48 : ((s[0].toNat : Int) == 48) = true := by
    have := h48.out
    simp; omega
  clear h48
  go_enter Tryd.func46, Tryd.ntmps46
  go_wp2
  refine bodyPost_ret (v := .tuple #[.agg #[.int .i64 0, .string ⟨#[]⟩, .int .u64 0, .int .i64 0], .int .i64 10]) (by simp [results, Tryd.results46, go_sem]) rfl ⟨rfl, ?_⟩
  (repeat (first | exact Below.refl _ _ | refine Below.setCell ?_ (by simp) _ | refine Below.alloc ?_ (by simp) _))

set_option maxRecDepth 100000 in
set_option maxHeartbeats 800000 in
theorem readNumber_ok1 (s : ByteArray) (h0 : ¬ 1 < s.size) (hs : s.size ≤ 100000) (u : Nat) (h : Hid (Lib.parseUintB 64 s.data.toList = .ok u)) (w : World) :
    Calls Tryd.prog 46 #[.string s] w fun e w' => e = .returned (.tuple #[.agg #[.int .i64 2, .string ⟨#[]⟩, .int .u64 u, .int .i64 0], .int .i64 0]) ∧ Below w.heap.size w w' := by
  go_enter Tryd.func46, Tryd.ntmps46
  go_wp2_with fail
  refine (parse_ok s hs u h _).mono ?_
  rintro e w1 ⟨rfl, hb1⟩
  obtain ⟨hc1, hf1⟩ := bcell hb1
  have hz1 : w.heap.size < w1.heap.size := by have hs := hb1.size; simp at hs; omega
  go_wp2
  refine bodyPost_ret (v := .tuple #[.agg #[.int .i64 2, .string ⟨#[]⟩, .int .u64 u, .int .i64 0], .int .i64 0]) (by simp [results, Tryd.results46, go_sem, hc1]) rfl ⟨rfl, ?_⟩
  (repeat (first | exact below1 hb1 | exact Below.refl _ _ | refine Below.setCell ?_ (by simp) _ | refine Below.alloc ?_ (by simp) _))

set_option maxRecDepth 100000 in
set_option maxHeartbeats 800000 in
theorem readNumber_err1 (s : ByteArray) (h0 : ¬ 1 < s.size) (hs : s.size ≤ 100000) (h : Hid (∀ u, Lib.parseUintB 64 s.data.toList ≠ .ok u)) (w : World) (he : Errs w) :
    Calls Tryd.prog 46 #[.string s] w fun e w' => e = .returned (.tuple #[.agg #[.int .i64 0, .string ⟨#[]⟩, .int .u64 0, .int .i64 0], .int .i64 3]) ∧ Below w.heap.size w w' := by
  go_enter Tryd.func46, Tryd.ntmps46
  go_wp2_with fail
  refine (parse_err s hs h _ (he.later ((Below.refl _ _).alloc (Nat.le_refl _) _))).mono ?_
  rintro e w1 ⟨x, T, N, rfl, hb1⟩
  obtain ⟨hc1, hf1⟩ := bcell hb1
  have hz1 : w.heap.size < w1.heap.size := by have hs := hb1.size; simp at hs; omega
  go_wp2
  refine bodyPost_ret (v := .tuple #[.agg #[.int .i64 0, .string ⟨#[]⟩, .int .u64 0, .int .i64 0], .int .i64 3]) (by simp [results, Tryd.results46, go_sem, hc1]) rfl ⟨rfl, ?_⟩
  (repeat (first | exact below1 hb1 | exact Below.refl _ _ | refine Below.setCell ?_ (by simp) _ | refine Below.alloc ?_ (by simp) _))

set_option maxRecDepth 100000 in
set_option maxHeartbeats 800000 in
theorem readNumber_ok2 (s : ByteArray) (h0 : 1 < s.size) (hs : s.size ≤ 100000) (h48 : Hid (s[0].toNat ≠ 48)) (u : Nat) (h : Hid (Lib.parseUintB 64 s.data.toList = .ok u)) (w : World) :
    Calls Tryd.prog 46 #[.string s] w fun e w' => e = .returned (.tuple #[.agg #[.int .i64 2, .string ⟨#[]⟩, .int .u64 u, .int .i64 0], .int .i64 0]) ∧ Below w.heap.size w w' := by
  have t48 : ((s[0].toNat : Int) == 48) = false := by
    have := h48.out
    simp; omega
  clear h48
  go_enter Tryd.func46, Tryd.ntmps46
  go_wp2_with fail
  refine (parse_ok s hs u h _).mono ?_
  rintro e w1 ⟨rfl, hb1⟩
  obtain ⟨hc1, hf1⟩ := bcell hb1
  have hz1 : w.heap.size < w1.heap.size := by have hs := hb1.size; simp at hs; omega
  go_wp2
  refine bodyPost_ret (v := .tuple #[.agg #[.int .i64 2, .string ⟨#[]⟩, .int .u64 u, .int .i64 0], .int .i64 0]) (by simp [results, Tryd.results46, go_sem, hc1]) rfl ⟨rfl, ?_⟩
  (repeat (first | exact below1 hb1 | exact Below.refl _ _ | refine Below.setCell ?_ (by simp) _ | refine Below.alloc ?_ (by simp) _))

set_option maxRecDepth 100000 in
set_option maxHeartbeats 800000 in
theorem readNumber_err2 (s : ByteArray) (h0 : 1 < s.size) (hs : s.size ≤ 100000) (h48 : Hid (s[0].toNat ≠ 48)) (h : Hid (∀ u, Lib.parseUintB 64 s.data.toList ≠ .ok u)) (w : World) (he : Errs w) :
    Calls Tryd.prog 46 #[.string s] w fun e w' => e = .returned (.tuple #[.agg #[.int .i64 0, .string ⟨#[]⟩, .int .u64 0, .int .i64 0], .int .i64 3]) ∧ Below w.heap.size w w' := by
  have t48 : ((s[0].toNat : Int) == 48) = false := by
    have := h48.out
    simp; omega
  clear h48
  go_enter Tryd.func46, Tryd.ntmps46
  go_wp2_with fail
  refine (parse_err s hs h _ (he.later ((Below.refl _ _).alloc (Nat.le_refl _) _))).mono ?_
  rintro e w1 ⟨x, T, N, rfl, hb1⟩
  obtain ⟨hc1, hf1⟩ := bcell hb1
  have hz1 : w.heap.size < w1.heap.size := by have hs := hb1.size; simp at hs; omega
  go_wp2
  refine bodyPost_ret (v := .tuple #[.agg #[.int .i64 0, .string ⟨#[]⟩, .int .u64 0, .int .i64 0], .int .i64 3]) (by simp [results, Tryd.results46, go_sem, hc1]) rfl ⟨rfl, ?_⟩
  (repeat (first | exact below1 hb1 | exact Below.refl _ _ | refine Below.setCell ?_ (by simp) _ | refine Below.alloc ?_ (by simp) _))

theorem readWord_any (s : ByteArray) (k : Nat) (t : List UInt8) (n er : Nat) (h0 : 0 < s.size) (hs : s.size ≤ 100000) (hl : isLet s[0] = true) (h : readT s.data.toList = ((k, t, n), er)) (w : World) (he : Errs w) :
    Calls Tryd.prog 45 #[.string s] w fun e w' => e = .returned (.tuple #[.agg #[.int .i64 k, .string ⟨t.toArray⟩, .int .u64 n, .int .i64 0], .int .i64 er]) ∧ Below w.heap.size w w' := by
  have e := drop_at s 0 h0
  rw [List.drop_zero] at e
  have hlen : s.data.toList.length = s.size := rfl
  by_cases hw : widthOf s.data.toList ≠ 0
  · obtain ⟨h1, h2, h3⟩ := width_is rfl hw
    have h' := h
    rw [e, readT, if_pos hl, ← e, if_pos hw] at h'
    simp only [Prod.mk.injEq] at h'
    obtain ⟨⟨rfl, rfl, rfl⟩, rfl⟩ := h'
    exact readWord_type s _ h1 h2 (Lib.hid h3) w
  · have hw0 : widthOf s.data.toList = 0 := by omega
    by_cases h12 : 12 < s.size
    · have h' := h
      rw [e, readT, if_pos hl, ← e, if_neg hw, if_pos (by rw [hlen]; exact h12)] at h'
      simp only [Prod.mk.injEq] at h'
      obtain ⟨⟨rfl, rfl, rfl⟩, rfl⟩ := h'
      exact readWord_long s h12 hs (Lib.hid hw0) w he
    · have h' := h
      rw [e, readT, if_pos hl, ← e, if_neg hw, if_neg (by rw [hlen]; exact h12)] at h'
      simp only [Prod.mk.injEq] at h'
      obtain ⟨⟨rfl, rfl, rfl⟩, rfl⟩ := h'
      exact readWord_name s h12 hs (Lib.hid hw0) w he
theorem readNumber_any (s : ByteArray) (k : Nat) (t : List UInt8) (n er : Nat) (h0 : 0 < s.size) (hs : s.size ≤ 100000) (hl : isLet s[0] = false) (hd : isDig s[0] = true) (h : readT s.data.toList = ((k, t, n), er)) (w : World) (he : Errs w) :
    Calls Tryd.prog 46 #[.string s] w fun e w' => e = .returned (.tuple #[.agg #[.int .i64 k, .string ⟨t.toArray⟩, .int .u64 n, .int .i64 0], .int .i64 er]) ∧ Below w.heap.size w w' := by
  have e := drop_at s 0 h0
  rw [List.drop_zero] at e
  have hlen : (s.data.toList.drop (0 + 1)).length = s.size - 1 := by
    have : s.data.toList.length = s.size := rfl
    rw [List.length_drop, this]
  have hne : s.data.toList.drop (0 + 1) ≠ [] ↔ 1 < s.size := by
    rw [← List.length_pos_iff, hlen]; omega
  by_cases hz : s.data.toList.drop (0 + 1) ≠ [] ∧ s[0].toNat = 48
  · have h' := h
    rw [e, readT, if_neg (by simp [hl]), if_pos hd, if_pos hz] at h'
    simp only [Prod.mk.injEq] at h'
    obtain ⟨⟨rfl, rfl, rfl⟩, rfl⟩ := h'
    exact readNumber_zero s (hne.1 hz.1) hs (Lib.hid hz.2) w
  · have h' := h
    rw [e, readT, if_neg (by simp [hl]), if_pos hd, if_neg hz, ← e] at h'
    cases hp : Lib.parseUintB 64 s.data.toList with
    | ok u =>
      rw [hp] at h'
      simp only [Prod.mk.injEq] at h'
      obtain ⟨⟨rfl, rfl, rfl⟩, rfl⟩ := h'
      by_cases h1 : 1 < s.size
      · exact readNumber_ok2 s h1 hs (Lib.hid fun h48 => hz ⟨hne.2 h1, h48⟩) _ (Lib.hid hp) w
      · exact readNumber_ok1 s h1 hs _ (Lib.hid hp) w
    | range =>
      rw [hp] at h'
      simp only [Prod.mk.injEq] at h'
      obtain ⟨⟨rfl, rfl, rfl⟩, rfl⟩ := h'
      by_cases h1 : 1 < s.size
      · exact readNumber_err2 s h1 hs (Lib.hid fun h48 => hz ⟨hne.2 h1, h48⟩) (Lib.hid (by rw [hp]; simp)) w he
      · exact readNumber_err1 s h1 hs (Lib.hid (by rw [hp]; simp)) w he
    | _ =>
      rw [hp] at h'
      simp only [Prod.mk.injEq] at h'
      obtain ⟨⟨rfl, rfl, rfl⟩, rfl⟩ := h'
      by_cases h1 : 1 < s.size
      · exact readNumber_err2 s h1 hs (Lib.hid fun h48 => hz ⟨hne.2 h1, h48⟩) (Lib.hid (by rw [hp]; simp)) w he
      · exact readNumber_err1 s h1 hs (Lib.hid (by rw [hp]; simp)) w he

set_option maxRecDepth 100000 in
set_option maxHeartbeats 800000 in
theorem read_word (s : ByteArray) (k : Nat) (t : List UInt8) (n er : Nat) (h0 : 0 < s.size) (hs : s.size ≤ 100000) (hl : Hid (isLet s[0] = true)) (h : Hid (readT s.data.toList = ((k, t, n), er))) (w : World) (ht : Tab w) (he : Errs w) :
    Calls Tryd.prog 26 #[.string s] w fun e w' => e = .returned (.tuple #[.agg #[.int .i64 k, .string ⟨t.toArray⟩, .int .u64 n, .int .i64 0], .int .i64 er]) ∧ Below w.heap.size w w' := by
  have hb0 : s[0].toNat < 256 := s[0].toNat_lt
  have m2 := (mask2.at_ s[0]).trans hl.out
  have ht2 : Tab (w.alloc (.cells #[.int .i64 0, .string { data := #[] }, .int .u64 0, .int .i64 0] 31)) := ht.later ((Below.refl _ _).alloc (Nat.le_refl _) _)
  go_enter Tryd.func26, Tryd.ntmps26
  go_wp2_with fail
  refine (roles_any _ hb0 _ ht2).mono ?_
  rintro e w0 ⟨rfl, hw0⟩
  rw [hw0]
  clear hw0 w0
  go_wp2_with fail
  refine (readWord_any s k t n er h0 hs hl.out h.out _ (he.later ((Below.refl _ _).alloc (Nat.le_refl _) _))).mono ?_
  rintro e w1 ⟨rfl, hb1⟩
  obtain ⟨hc1, hf1⟩ := bcell hb1
  have hz1 : w.heap.size < w1.heap.size := by have hs := hb1.size; simp at hs; omega
  go_wp2
  refine bodyPost_ret (v := .tuple #[.agg #[.int .i64 k, .string ⟨t.toArray⟩, .int .u64 n, .int .i64 0], .int .i64 er]) (by simp [results, Tryd.results26, go_sem, hc1]) rfl ⟨rfl, ?_⟩
  (repeat (first | exact below1 hb1 | refine Below.setCell ?_ (by simp) _ | refine Below.alloc ?_ (by simp) _))

set_option maxRecDepth 100000 in
set_option maxHeartbeats 800000 in
theorem read_number (s : ByteArray) (k : Nat) (t : List UInt8) (n er : Nat) (h0 : 0 < s.size) (hs : s.size ≤ 100000) (hl : Hid (isLet s[0] = false)) (hd : Hid (isDig s[0] = true)) (h : Hid (readT s.data.toList = ((k, t, n), er))) (w : World) (ht : Tab w) (he : Errs w) :
    Calls Tryd.prog 26 #[.string s] w fun e w' => e = .returned (.tuple #[.agg #[.int .i64 k, .string ⟨t.toArray⟩, .int .u64 n, .int .i64 0], .int .i64 er]) ∧ Below w.heap.size w w' := by
  have hb0 : s[0].toNat < 256 := s[0].toNat_lt
  have m2 := (mask2.at_ s[0]).trans hl.out
  have m4 := (mask4.at_ s[0]).trans hd.out
  have ht2 : Tab (w.alloc (.cells #[.int .i64 0, .string { data := #[] }, .int .u64 0, .int .i64 0] 31)) := ht.later ((Below.refl _ _).alloc (Nat.le_refl _) _)
  go_enter Tryd.func26, Tryd.ntmps26
  go_wp2_with fail
  refine (roles_any _ hb0 _ ht2).mono ?_
  rintro e w0 ⟨rfl, hw0⟩
  rw [hw0]
  clear hw0 w0
  go_wp2_with fail
  refine (readNumber_any s k t n er h0 hs hl.out hd.out h.out _ (he.later ((Below.refl _ _).alloc (Nat.le_refl _) _))).mono ?_
  rintro e w1 ⟨rfl, hb1⟩
  obtain ⟨hc1, hf1⟩ := bcell hb1
  have hz1 : w.heap.size < w1.heap.size := by have hs := hb1.size; simp at hs; omega
  go_wp2
  refine bodyPost_ret (v := .tuple #[.agg #[.int .i64 k, .string ⟨t.toArray⟩, .int .u64 n, .int .i64 0], .int .i64 er]) (by simp [results, Tryd.results26, go_sem, hc1]) rfl ⟨rfl, ?_⟩
  (repeat (first | exact below1 hb1 | refine Below.setCell ?_ (by simp) _ | refine Below.alloc ?_ (by simp) _))

set_option maxRecDepth 100000 in
set_option maxHeartbeats 800000 in
theorem read_sign (s : ByteArray) (h0 : 0 < s.size) (_hs : s.size ≤ 100000) (hl : Hid (isLet s[0] = false)) (hd : Hid (isDig s[0] = false)) (w : World) (ht : Tab w) (_he : Errs w) :
    Calls Tryd.prog 26 #[.string s] w fun e w' => e = .returned (.tuple #[.agg #[.int .i64 4, .string s, .int .u64 0, .int .i64 0], .int .i64 0]) ∧ Below w.heap.size w w' := by
  have hb0 : s[0].toNat < 256 := s[0].toNat_lt
  have m2 := (mask2.at_ s[0]).trans hl.out
  have m4 := (mask4.at_ s[0]).trans hd.out
  have ht2 : Tab (w.alloc (.cells #[.int .i64 0, .string { data := #[] }, .int .u64 0, .int .i64 0] 31)) := ht.later ((Below.refl _ _).alloc (Nat.le_refl _) _)
  go_enter Tryd.func26, Tryd.ntmps26
  go_wp2_with fail
  refine (roles_any _ hb0 _ ht2).mono ?_
  rintro e w0 ⟨rfl, hw0⟩
  rw [hw0]
  clear hw0 w0
  go_wp2
  refine bodyPost_ret (v := .tuple #[.agg #[.int .i64 4, .string s, .int .u64 0, .int .i64 0], .int .i64 0]) (by simp [results, Tryd.results26, go_sem]) rfl ⟨rfl, ?_⟩
  (repeat (first | exact Below.refl _ _ | refine Below.setCell ?_ (by simp) _ | refine Below.alloc ?_ (by simp) _))

theorem read_any (s : ByteArray) (k : Nat) (t : List UInt8) (n er : Nat) (h0 : 0 < s.size) (hs : s.size ≤ 100000) (h : Hid (readT s.data.toList = ((k, t, n), er))) (w : World) (ht : Tab w) (he : Errs w) :
    Calls Tryd.prog 26 #[.string s] w fun e w' => e = .returned (.tuple #[.agg #[.int .i64 k, .string ⟨t.toArray⟩, .int .u64 n, .int .i64 0], .int .i64 er]) ∧ Below w.heap.size w w' := by
  cases hl : isLet s[0]
  · cases hd : isDig s[0]
    · have e := drop_at s 0 h0
      rw [List.drop_zero] at e
      have h' := h.out
      rw [e, readT, if_neg (by simp [hl]), if_neg (by simp [hd]), ← e] at h'
      simp only [Prod.mk.injEq] at h'
      obtain ⟨⟨rfl, rfl, rfl⟩, rfl⟩ := h'
      exact read_sign s h0 hs (Lib.hid hl) (Lib.hid hd) w ht he
    · exact read_number s k t n er h0 hs (Lib.hid hl) (Lib.hid hd) h w ht he
  · exact read_word s k t n er h0 hs (Lib.hid hl) h w ht he
end Go.Proofs.YtnanfedggmkboaaDoor
