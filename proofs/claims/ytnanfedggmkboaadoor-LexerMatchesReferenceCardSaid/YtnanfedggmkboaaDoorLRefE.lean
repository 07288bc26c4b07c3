/- The reference's End. -/
import Derived.Test.YtnanfedggmkboaaDoorLRefM
import Derived.Test.YtnanfedggmkboaaDoorLCov
namespace Go.Proofs.YtnanfedggmkboaaDoor
open Go.RowKit

set_option maxHeartbeats 400000 in
theorem letter_any (b : UInt8) (w : World) :
    Calls Tryd.prog 30 #[.int .u8 b.toNat] w fun e w' => e = .returned (.bool (isLet b)) ∧ w = w' := by
  have hb : b.toNat < 256 := b.toNat_lt
  have e : isLet b = (decide (97 ≤ (b.toNat : Int)) && decide ((b.toNat : Int) ≤ 122)) := by
    unfold isLet; rw [Bool.eq_iff_iff]; simp; omega
  rw [e]; clear e
  generalize b.toNat = n at *
  go_enter Tryd.func30, Tryd.ntmps30
  by_cases h : 97 ≤ (n : Int)
  · go_wp2
    go_ret
    exact ⟨by simp [h], rfl⟩
  · go_wp2
    go_ret
    exact ⟨by simp; omega, rfl⟩
set_option maxHeartbeats 400000 in
theorem digit_any (b : UInt8) (w : World) :
    Calls Tryd.prog 31 #[.int .u8 b.toNat] w fun e w' => e = .returned (.bool (isDig b)) ∧ w = w' := by
  have hb : b.toNat < 256 := b.toNat_lt
  have e : isDig b = (decide (48 ≤ (b.toNat : Int)) && decide ((b.toNat : Int) ≤ 57)) := by
    unfold isDig; rw [Bool.eq_iff_iff]; simp; omega
  rw [e]; clear e
  generalize b.toNat = n at *
  go_enter Tryd.func31, Tryd.ntmps31
  by_cases h : 48 ≤ (n : Int)
  · go_wp2
    go_ret
    exact ⟨by simp [h], rfl⟩
  · go_wp2
    go_ret
    exact ⟨by simp; omega, rfl⟩

def sgnB (i : Nat) : ByteArray := ⟨(sgnL.getD i []).toArray⟩
/-- The signs in memory. -/
def Sgns (w : World) (b : Nat) : Prop := ∀ i, i < 28 → w.cell? ⟨b, i, none⟩ = some (.string (sgnB i))
theorem Sgns.later {w w' : World} {b : Nat} (hb : Below w.heap.size w w') (h : Sgns w b) : Sgns w' b := fun i hi => cell_later hb (h i hi)
set_option maxRecDepth 100000 in
set_option maxHeartbeats 800000 in
theorem signs_any (w : World) :
    Calls Tryd.prog 32 #[] w fun e w' => ∃ b : Nat, e = .returned (.slice (some ⟨b, 0, none⟩) 28 28) ∧ Sgns w' b ∧ Below w.heap.size w w' := by
  go_enter Tryd.func32, Tryd.ntmps32
  go_wp2
  go_ret
  refine ⟨_, rfl, ?_, (Below.refl _ _).alloc (Nat.le_refl _) _⟩
  intro i hi
  match i, hi with
  | 0, _ => simp [go_sem, sgnB, sgnL]
  | 1, _ => simp [go_sem, sgnB, sgnL]
  | 2, _ => simp [go_sem, sgnB, sgnL]
  | 3, _ => simp [go_sem, sgnB, sgnL]
  | 4, _ => simp [go_sem, sgnB, sgnL]
  | 5, _ => simp [go_sem, sgnB, sgnL]
  | 6, _ => simp [go_sem, sgnB, sgnL]
  | 7, _ => simp [go_sem, sgnB, sgnL]
  | 8, _ => simp [go_sem, sgnB, sgnL]
  | 9, _ => simp [go_sem, sgnB, sgnL]
  | 10, _ => simp [go_sem, sgnB, sgnL]
  | 11, _ => simp [go_sem, sgnB, sgnL]
  | 12, _ => simp [go_sem, sgnB, sgnL]
  | 13, _ => simp [go_sem, sgnB, sgnL]
  | 14, _ => simp [go_sem, sgnB, sgnL]
  | 15, _ => simp [go_sem, sgnB, sgnL]
  | 16, _ => simp [go_sem, sgnB, sgnL]
  | 17, _ => simp [go_sem, sgnB, sgnL]
  | 18, _ => simp [go_sem, sgnB, sgnL]
  | 19, _ => simp [go_sem, sgnB, sgnL]
  | 20, _ => simp [go_sem, sgnB, sgnL]
  | 21, _ => simp [go_sem, sgnB, sgnL]
  | 22, _ => simp [go_sem, sgnB, sgnL]
  | 23, _ => simp [go_sem, sgnB, sgnL]
  | 24, _ => simp [go_sem, sgnB, sgnL]
  | 25, _ => simp [go_sem, sgnB, sgnL]
  | 26, _ => simp [go_sem, sgnB, sgnL]
  | 27, _ => simp [go_sem, sgnB, sgnL]
  | i + 28, h => omega

theorem sgnB_get (k : Nat) (h : k < sgnL.length) : sgnB k = ⟨(sgnL[k]).toArray⟩ := by
  unfold sgnB; rw [List.getD_eq_getElem?_getD, List.getElem?_eq_getElem h]; rfl
theorem sgnB_size (k : Nat) (h : k < sgnL.length) : (sgnB k).size = sgnL[k].length := by rw [sgnB_get k h, size_mk]
/-- Whether a sign stands at an offset. -/
theorem sgn_at (s : ByteArray) (k0 k : Nat) (hk : k < sgnL.length) (h0 : k0 ≤ s.size) : (sgnL[k].isPrefixOf (s.data.toList.drop k0)) = decide (k0 + (sgnB k).size ≤ s.size ∧ s.extract k0 (k0 + (sgnB k).size) = sgnB k) := by
  rw [prefix_take, sgnB_size k hk]
  rw [Bool.eq_iff_iff]
  simp only [decide_eq_true_eq]
  have e1 : (s.data.toList.drop k0).length = s.size - k0 := by rw [List.length_drop]; rfl
  rw [e1]
  have e2 : s.extract k0 (k0 + sgnL[k].length) = sgnB k ↔ (s.data.toList.drop k0).take sgnL[k].length = sgnL[k] := by
    have h1 := extract_mid s k0 (k0 + sgnL[k].length)
    rw [show k0 + sgnL[k].length - k0 = sgnL[k].length by omega] at h1
    rw [← h1, sgnB_get k hk]
    constructor
    · intro h; rw [h]
    · intro h; apply ByteArray.ext; apply Array.toList_inj.1; rw [h]
  rw [e2]
  have := (sgnL_pos k hk).1
  constructor
  · rintro ⟨a, b⟩; exact ⟨by omega, b⟩
  · rintro ⟨a, b⟩; exact ⟨by omega, b⟩

set_option maxRecDepth 100000 in
set_option maxHeartbeats 3200000 in
theorem endR_sign (s : ByteArray) (k0 N : Nat) (w : World) (hk0 : k0 < s.size) (hs : s.size ≤ 100000) (hl : isLet s[k0] = false) (hd : isDig s[k0] = false) (hN : Hid (k0 + signLen (s.data.toList.drop k0) = N)) :
    Calls Tryd.prog 20 #[.string s, .int .i64 k0] w fun e w' => e = .returned (.int .i64 N) ∧ Below w.heap.size w w' := by
  have HL := Lib.hid hl
  have HD := Lib.hid hd
  clear hl hd
  go_enter Tryd.func20, Tryd.ntmps20
  go_wp2_with fail
  refine (letter_any _ _).mono ?_
  rintro e w' ⟨rfl, rfl⟩
  rw [HL.out]
  go_wp2_with fail
  refine (digit_any _ _).mono ?_
  rintro e w' ⟨rfl, rfl⟩
  rw [HD.out]
  go_wp2_with fail
  refine (signs_any _).mono ?_
  rintro e w1 ⟨b, rfl, hS, hb⟩
  go_wp2_with fail
  go_loopw [7] (fun i wr => ∃ k : Nat, k ≤ 28 ∧ i = .int .i64 k ∧ Hid (∀ i (h : i < k) (h2 : i < sgnL.length), sgnL[i].isPrefixOf (s.data.toList.drop k0) = false) ∧ Below w.heap.size w wr ∧ Sgns wr b) (fun i _ => 28 - (intOf i).toNat)
  case atStart => exact ⟨0, by omega, rfl, Lib.hid (fun i h => absurd h (by omega)), hb, hS⟩
  case round =>
    rename_i wr
    obtain ⟨k, hk, rfl, hR, hB, hS2⟩ := hrel
    clear hS hb
    by_cases hlt : k < 28
    · have hc := hS2 k hlt
      have hsz := sgnB_size k hlt
      have hp := sgnL_pos k hlt
      have hat := sgn_at s k0 k hlt (by omega)
      rw [← hsz] at hp
      by_cases hpre : sgnL[k].isPrefixOf (s.data.toList.drop k0) = true
      · have hres := sgn_hit (s.data.toList.drop k0) k hlt (fun i h => hR.out i h _) hpre
        rw [← hsz] at hres
        have HN : Hid (k0 + (sgnB k).size = N) := Lib.hid (by rw [← hres]; exact hN.out)
        rw [hpre] at hat
        obtain ⟨f1, f2⟩ := of_decide_eq_true hat.symm
        clear hpre hres hat hR hN hsz hS2
        generalize sgnB k = X at *
        have hd : decide ((k0 : Int) + X.size ≤ s.size) = true := by simp; omega
        go_wp2
        go_quiet (fail)
        go_wp2
        go_ret
        exact ⟨ret_int (by have := HN.out; omega), hB.trans ((Drew.below ⟨_, rfl⟩).mono hB.size)⟩
      · have hpre2 : sgnL[k].isPrefixOf (s.data.toList.drop k0) = false := (Bool.not_eq_true _).mp hpre
        have HN : Hid (∀ i (h : i < k + 1) (h2 : i < sgnL.length), sgnL[i].isPrefixOf (s.data.toList.drop k0) = false) := Lib.hid (by
          intro i h h2
          by_cases e : i = k
          · subst e; exact hpre2
          · exact hR.out i (by omega) h2)
        rw [hpre2] at hat
        have hat2 := of_decide_eq_false hat.symm
        have hB2 : ∀ n, Below w.heap.size w (wr.drewN n) := fun n => hB.trans ((Drew.below ⟨n, rfl⟩).mono hB.size)
        have hS3 : ∀ n, Sgns (wr.drewN n) b := fun n => hS2.later (Drew.below ⟨n, rfl⟩)
        clear hpre hpre2 hat hR hN hsz hS2 hB
        generalize sgnB k = X at *
        by_cases hf : k0 + X.size ≤ s.size
        · have hne : s.extract k0 (k0 + X.size) ≠ X := fun e => hat2 ⟨hf, e⟩
          have hne2 : ((s.extract k0 (k0 + X.size)).toList == X.toList) = false := by
            simp only [beq_eq_false_iff_ne, ne_eq]
            intro e
            rw [ByteArray.toList_eq, ByteArray.toList_eq] at e
            exact hne (ByteArray.ext (Array.toList_inj.1 e))
          clear hat2
          have hd : decide ((k0 : Int) + X.size ≤ s.size) = true := by simp; omega
          go_wp2
          go_quiet (fail)
          go_wp2
          go_roundw
          case rel => exact ⟨k + 1, by omega, by go_num, HN, hB2 _, hS3 _⟩
          case measure => simp [intOf]; omega
        · have hd : decide ((k0 : Int) + X.size ≤ s.size) = false := by simp; omega
          clear hat2
          go_wp2
          go_quiet (fail)
          go_wp2
          go_roundw
          case rel => exact ⟨k + 1, by omega, by go_num, HN, hB2 _, hS3 _⟩
          case measure => simp [intOf]; omega
    · have hres := sgn_miss (s.data.toList.drop k0) (fun i h => hR.out i (by have := sgnL_len; omega) h)
      have HN : Hid (k0 = N) := Lib.hid (by have := hN.out; omega)
      clear hres hR hN hS2
      go_wp2
      go_ret
      exact ⟨ret_int (by have := HN.out; omega), hB⟩

set_option maxRecDepth 100000 in
set_option maxHeartbeats 3200000 in
theorem endR_word (s : ByteArray) (k0 N : Nat) (w : World) (hk0 : k0 < s.size) (hs : s.size ≤ 100000) (hl : isLet s[k0] = true) (hN : Hid (k0 + run isWrd (s.data.toList.drop k0) = N)) :
    Calls Tryd.prog 20 #[.string s, .int .i64 k0] w fun e w' => e = .returned (.int .i64 N) ∧ Below w.heap.size w w' := by
  have HL := Lib.hid hl
  clear hl
  go_enter Tryd.func20, Tryd.ntmps20
  go_wp2_with fail
  refine (letter_any _ _).mono ?_
  rintro e w' ⟨rfl, rfl⟩
  rw [HL.out]
  go_wp2_with fail
  go_loop [5] (fun i => ∃ k : Nat, k ≤ s.size ∧ i = .int .i64 k ∧ Hid (k + run isWrd (s.data.toList.drop k) = N)) (fun i => s.size - (intOf i).toNat)
  case atStart => exact ⟨k0, by omega, rfl, hN⟩
  case round =>
    obtain ⟨k, hk, rfl, hR⟩ := hrel
    clear hN HL
    by_cases hlt : k < s.size
    · have hc := run_cons isWrd s k hlt
      by_cases hL : isLet s[k] = true
      · rw [if_pos (by unfold isWrd; rw [hL]; rfl)] at hc
        have HN : Hid (k + 1 + run isWrd (s.data.toList.drop (k + 1)) = N) := Lib.hid (by have := hR.out; omega)
        have HL := Lib.hid hL
        clear hc hL hR
        go_wp2_with (go_at_call 30; refine (letter_any _ _).mono ?_; rintro e w' ⟨rfl, rfl⟩; rw [HL.out])
        go_round
        case rel => exact ⟨k + 1, by omega, by go_num, HN⟩
        case measure => simp [intOf]; omega
      · have hL2 : isLet s[k] = false := (Bool.not_eq_true _).mp hL
        by_cases hD : isDig s[k] = true
        · rw [if_pos (by unfold isWrd; rw [hD, Bool.or_true])] at hc
          have HN : Hid (k + 1 + run isWrd (s.data.toList.drop (k + 1)) = N) := Lib.hid (by have := hR.out; omega)
          have HL := Lib.hid hL2
          have HD := Lib.hid hD
          clear hc hL hL2 hD hR
          go_wp2_with (first | (go_at_call 30; refine (letter_any _ _).mono ?_; rintro e w' ⟨rfl, rfl⟩; rw [HL.out]) | (go_at_call 31; refine (digit_any _ _).mono ?_; rintro e w' ⟨rfl, rfl⟩; rw [HD.out]))
          go_round
          case rel => exact ⟨k + 1, by omega, by go_num, HN⟩
          case measure => simp [intOf]; omega
        · have hD2 : isDig s[k] = false := (Bool.not_eq_true _).mp hD
          rw [if_neg (by unfold isWrd; rw [hL2, hD2]; simp)] at hc
          have HN : Hid (k = N) := Lib.hid (by have := hR.out; omega)
          have HL := Lib.hid hL2
          have HD := Lib.hid hD2
          clear hc hL hL2 hD hD2 hR
          go_wp2_with (first | (go_at_call 30; refine (letter_any _ _).mono ?_; rintro e w' ⟨rfl, rfl⟩; rw [HL.out]) | (go_at_call 31; refine (digit_any _ _).mono ?_; rintro e w' ⟨rfl, rfl⟩; rw [HD.out]))
          go_ret
          exact ⟨ret_int (by have := HN.out; omega), Below.refl _ _⟩
    · have hc := run_end isWrd s k (by omega)
      have HN : Hid (k = N) := Lib.hid (by have := hR.out; omega)
      clear hc hR
      go_wp2
      go_ret
      exact ⟨ret_int (by have := HN.out; omega), Below.refl _ _⟩

set_option maxRecDepth 100000 in
set_option maxHeartbeats 3200000 in
theorem endR_num (s : ByteArray) (k0 N : Nat) (w : World) (hk0 : k0 < s.size) (hs : s.size ≤ 100000) (hl : isLet s[k0] = false) (hd : isDig s[k0] = true) (hN : Hid (k0 + run isDig (s.data.toList.drop k0) = N)) :
    Calls Tryd.prog 20 #[.string s, .int .i64 k0] w fun e w' => e = .returned (.int .i64 N) ∧ Below w.heap.size w w' := by
  have HL := Lib.hid hl
  have HD := Lib.hid hd
  clear hl hd
  go_enter Tryd.func20, Tryd.ntmps20
  go_wp2_with fail
  refine (letter_any _ _).mono ?_
  rintro e w' ⟨rfl, rfl⟩
  rw [HL.out]
  go_wp2_with fail
  refine (digit_any _ _).mono ?_
  rintro e w' ⟨rfl, rfl⟩
  rw [HD.out]
  go_wp2_with fail
  go_loop [5] (fun i => ∃ k : Nat, k ≤ s.size ∧ i = .int .i64 k ∧ Hid (k + run isDig (s.data.toList.drop k) = N)) (fun i => s.size - (intOf i).toNat)
  case atStart => exact ⟨k0, by omega, rfl, hN⟩
  case round =>
    obtain ⟨k, hk, rfl, hR⟩ := hrel
    clear hN HL HD
    by_cases hlt : k < s.size
    · have hc := run_cons isDig s k hlt
      by_cases hD : isDig s[k] = true
      · rw [if_pos hD] at hc
        have HN : Hid (k + 1 + run isDig (s.data.toList.drop (k + 1)) = N) := Lib.hid (by have := hR.out; omega)
        have HD := Lib.hid hD
        clear hc hD hR
        go_wp2_with (go_at_call 31; refine (digit_any _ _).mono ?_; rintro e w' ⟨rfl, rfl⟩; rw [HD.out])
        go_round
        case rel => exact ⟨k + 1, by omega, by go_num, HN⟩
        case measure => simp [intOf]; omega
      · have hD2 : isDig s[k] = false := (Bool.not_eq_true _).mp hD
        rw [if_neg hD] at hc
        have HN : Hid (k = N) := Lib.hid (by have := hR.out; omega)
        have HD := Lib.hid hD2
        clear hc hD hD2 hR
        go_wp2_with (go_at_call 31; refine (digit_any _ _).mono ?_; rintro e w' ⟨rfl, rfl⟩; rw [HD.out])
        go_ret
        exact ⟨ret_int (by have := HN.out; omega), Below.refl _ _⟩
    · have hc := run_end isDig s k (by omega)
      have HN : Hid (k = N) := Lib.hid (by have := hR.out; omega)
      clear hc hR
      go_wp2
      go_ret
      exact ⟨ret_int (by have := HN.out; omega), Below.refl _ _⟩

theorem endR_any (s : ByteArray) (k0 N : Nat) (w : World) (hk0 : k0 < s.size) (hs : s.size ≤ 100000) (hN : Hid (k0 + tokLen (s.data.toList.drop k0) = N)) :
    Calls Tryd.prog 20 #[.string s, .int .i64 k0] w fun e w' => e = .returned (.int .i64 N) ∧ Below w.heap.size w w' := by
  by_cases hl : isLet s[k0] = true
  · exact endR_word s k0 N w hk0 hs hl (Lib.hid (by rw [← tok_let s k0 hk0 hl]; exact hN.out))
  · have hl2 := (Bool.not_eq_true _).mp hl
    by_cases hd : isDig s[k0] = true
    · exact endR_num s k0 N w hk0 hs hl2 hd (Lib.hid (by rw [← tok_dig s k0 hk0 hl2 hd]; exact hN.out))
    · have hd2 := (Bool.not_eq_true _).mp hd
      exact endR_sign s k0 N w hk0 hs hl2 hd2 (Lib.hid (by rw [← tok_sgn s k0 hk0 hl2 hd2]; exact hN.out))
end Go.Proofs.YtnanfedggmkboaaDoor
