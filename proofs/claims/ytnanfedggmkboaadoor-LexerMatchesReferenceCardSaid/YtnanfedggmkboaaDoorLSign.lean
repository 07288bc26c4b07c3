/- The length of a sign; the end of a token. -/
import Derived.Test.YtnanfedggmkboaaDoorLGap
namespace Go.Proofs.YtnanfedggmkboaaDoor
open Go.RowKit

def signV (a b c d e : Bool) : Nat := if (a && b) || (c && d) then 2 else if e then 1 else 0
theorem int_beq (a b : Nat) : ((a : Int) == (b : Int)) = (a == b) := by rw [Bool.eq_iff_iff]; simp; omega
theorem u8_beq (a b : UInt8) : (a == b) = (a.toNat == b.toNat) := by
  rw [Bool.eq_iff_iff]; simp [UInt8.toNat_inj]
theorem sign_two (s : ByteArray) (h : 1 < s.size) : signLen s.data.toList = signV (s[1].toNat == 61) (isEq (s[0]'(by omega))) (s[1] == (s[0]'(by omega))) (isDbl (s[0]'(by omega))) (isSgn (s[0]'(by omega))) := by
  have e : s.data.toList = (s[0]'(by omega)) :: s[1] :: s.data.toList.drop 2 := by
    have e0 := drop_at s 0 (by omega)
    have e1 := drop_at s 1 h
    rw [List.drop_zero] at e0
    rw [e0, e1]; simp
  rw [e]; rfl
theorem sign_one (s : ByteArray) (h0 : 0 < s.size) (h : ¬ 1 < s.size) : signLen s.data.toList = signV false false false false (isSgn s[0]) := by
  have e : s.data.toList = [s[0]] := by
    have e0 := drop_at s 0 h0
    rw [List.drop_zero, List.drop_eq_nil_of_le (show s.data.toList.length ≤ 0 + 1 by show s.size ≤ 1; omega)] at e0
    exact e0
  rw [e]; rfl

set_option maxHeartbeats 4000000 in
theorem sign_any (s : ByteArray) (w : World) (h0 : 0 < s.size) (hs : s.size ≤ 100000) (ht : Tab w) :
    Calls Tryd.prog 44 #[.string s] w fun e w' => e = .returned (.int .i64 ((signLen s.data.toList : Nat) : Int)) ∧ w' = w := by
  have hb0 : s[0].toNat < 256 := s[0].toNat_lt
  have m16 := mask16.at_ s[0]
  have m32 := mask32.at_ s[0]
  have m8 := mask8.at_ s[0]
  by_cases h1 : 1 < s.size
  · have E := sign_two s h1
    have f1 : ((s[1].toNat : Int) == 61) = (s[1].toNat == 61) := int_beq s[1].toNat 61
    have f2 : ((s[1].toNat : Int) == (s[0].toNat : Int)) = (s[1] == s[0]) := (int_beq s[1].toNat s[0].toNat).trans (u8_beq s[1] s[0]).symm
    generalize isEq s[0] = b at *
    generalize isDbl s[0] = d at *
    generalize isSgn s[0] = e at *
    generalize (s[1].toNat == 61) = a at *
    generalize (s[1] == s[0]) = c at *
    cases a
    · clear m16
      cases c
      · clear m32
        have E2 : signLen s.data.toList = signV false false false false e := E
        clear E
        cases e
        all_goals
          have HE := Lib.hid E2
          clear E2
          go_enter Tryd.func44, Tryd.ntmps44
          go_wp2_with (go_at_call 43; refine (roles_any _ hb0 _ ht).mono ?_; rintro e w' ⟨rfl, rfl⟩)
          go_ret
          exact ⟨ret_int (by rw [HE.out]; rfl), rfl⟩
      · cases d
        · have E2 : signLen s.data.toList = signV false false false false e := E
          clear E
          cases e
          all_goals
            have HE := Lib.hid E2
            clear E2
            go_enter Tryd.func44, Tryd.ntmps44
            go_wp2_with (go_at_call 43; refine (roles_any _ hb0 _ ht).mono ?_; rintro e w' ⟨rfl, rfl⟩)
            go_ret
            exact ⟨ret_int (by rw [HE.out]; rfl), rfl⟩
        · clear m8
          have HE : Hid (signLen s.data.toList = 2) := Lib.hid E
          clear E
          go_enter Tryd.func44, Tryd.ntmps44
          go_wp2_with (go_at_call 43; refine (roles_any _ hb0 _ ht).mono ?_; rintro e w' ⟨rfl, rfl⟩)
          go_ret
          exact ⟨ret_int (by rw [HE.out]; rfl), rfl⟩
    · cases b
      · cases c
        · clear m32
          have E2 : signLen s.data.toList = signV false false false false e := E
          clear E
          cases e
          all_goals
            have HE := Lib.hid E2
            clear E2
            go_enter Tryd.func44, Tryd.ntmps44
            go_wp2_with (go_at_call 43; refine (roles_any _ hb0 _ ht).mono ?_; rintro e w' ⟨rfl, rfl⟩)
            go_ret
            exact ⟨ret_int (by rw [HE.out]; rfl), rfl⟩
        · cases d
          · have E2 : signLen s.data.toList = signV false false false false e := E
            clear E
            cases e
            all_goals
              have HE := Lib.hid E2
              clear E2
              go_enter Tryd.func44, Tryd.ntmps44
              go_wp2_with (go_at_call 43; refine (roles_any _ hb0 _ ht).mono ?_; rintro e w' ⟨rfl, rfl⟩)
              go_ret
              exact ⟨ret_int (by rw [HE.out]; rfl), rfl⟩
          · clear m8
            have HE : Hid (signLen s.data.toList = 2) := Lib.hid E
            clear E
            go_enter Tryd.func44, Tryd.ntmps44
            go_wp2_with (go_at_call 43; refine (roles_any _ hb0 _ ht).mono ?_; rintro e w' ⟨rfl, rfl⟩)
            go_ret
            exact ⟨ret_int (by rw [HE.out]; rfl), rfl⟩
      · clear f2 m32 m8
        have HE : Hid (signLen s.data.toList = 2) := Lib.hid E
        clear E
        go_enter Tryd.func44, Tryd.ntmps44
        go_wp2_with (go_at_call 43; refine (roles_any _ hb0 _ ht).mono ?_; rintro e w' ⟨rfl, rfl⟩)
        go_ret
        exact ⟨ret_int (by rw [HE.out]; rfl), rfl⟩
  · have E := sign_one s h0 h1
    clear m16 m32
    cases he : isSgn s[0] <;> rw [he] at m8 E <;> clear he
    all_goals
      have HE := Lib.hid E
      clear E
      go_enter Tryd.func44, Tryd.ntmps44
      go_wp2_with (go_at_call 43; refine (roles_any _ hb0 _ ht).mono ?_; rintro e w' ⟨rfl, rfl⟩)
      go_ret
      exact ⟨ret_int (by rw [HE.out]; rfl), rfl⟩

theorem sign_any' (s : ByteArray) (N : Nat) (w : World) (h0 : 0 < s.size) (hs : s.size ≤ 100000) (ht : Tab w) (hN : Hid (signLen s.data.toList = N)) :
    Calls Tryd.prog 44 #[.string s] w fun e w' => e = .returned (.int .i64 N) ∧ w' = w := by
  have e := hN.out; subst e
  exact sign_any s w h0 hs ht

theorem extract_end (s : ByteArray) (k : Nat) : (s.extract k s.size).data.toList = s.data.toList.drop k := by
  have hl : s.data.toList.length = s.size := rfl
  simp [ByteArray.data_extract, Array.toList_extract]
  rw [List.take_of_length_le (by rw [List.length_drop, hl]; omega)]
theorem tok_let (s : ByteArray) (k : Nat) (h : k < s.size) (hl : isLet s[k] = true) : tokLen (s.data.toList.drop k) = run isWrd (s.data.toList.drop k) := by
  rw [drop_at s k h, tokLen, if_pos hl]
theorem tok_dig (s : ByteArray) (k : Nat) (h : k < s.size) (hl : isLet s[k] = false) (hd : isDig s[k] = true) : tokLen (s.data.toList.drop k) = run isDig (s.data.toList.drop k) := by
  rw [drop_at s k h, tokLen, if_neg (by simp [hl]), if_pos hd]
theorem tok_sgn (s : ByteArray) (k : Nat) (h : k < s.size) (hl : isLet s[k] = false) (hd : isDig s[k] = false) : tokLen (s.data.toList.drop k) = signLen (s.data.toList.drop k) := by
  rw [drop_at s k h, tokLen, if_neg (by simp [hl]), if_neg (by simp [hd])]

set_option maxRecDepth 100000 in
set_option maxHeartbeats 1600000 in
theorem tokenEnd_any (s : ByteArray) (k0 : Nat) (w : World) {gs gb gc tw tn pb qb rb pc qc pw qw rw_ pn qn rn : Addr} (hk0 : k0 < s.size) (hs : s.size ≤ 100000) (hE : EndsIn s w gs gb gc tw tn pb qb rb pc qc pw qw rw_ pn qn rn) :
    Calls Tryd.prog 42 #[.int .i64 k0, .pointer (some gs), .pointer (some tw), .pointer (some tn)] w fun e w' => e = .returned (.int .i64 ((k0 + tokLen (s.data.toList.drop k0) : Nat) : Int)) ∧ ∃ n, w' = w.drewN n := by
  have hb0 : s[k0].toNat < 256 := s[k0].toNat_lt
  have m2 := mask2.at_ s[k0]
  have m4 := mask4.at_ s[k0]
  have c1 := hE.src
  have c2 := hE.word
  have c3 := hE.numb
  have ht := hE.tab
  obtain ⟨K, hK⟩ : ∃ K, k0 + tokLen (s.data.toList.drop k0) = K := ⟨_, rfl⟩
  rw [hK]
  cases hl : isLet s[k0]
  · rw [hl] at m2
    cases hd : isDig s[k0]
    · rw [hd] at m4
      have hx0 : 0 < (s.extract k0 s.size).size := by simp; omega
      have hx1 : (s.extract k0 s.size).size ≤ 100000 := by simp; omega
      obtain ⟨N, hN⟩ : ∃ N, signLen (s.extract k0 s.size).data.toList = N := ⟨_, rfl⟩
      have hsl : N ≤ 100000 := by
        have := signLen_le (s.extract k0 s.size).data.toList
        rw [extract_end, List.length_drop, show s.data.toList.length = s.size from rfl] at this
        rw [← hN, extract_end]; omega
      have HK : Hid (k0 + N = K) := Lib.hid (by rw [← hN, extract_end, ← tok_sgn s k0 hk0 hl hd]; exact hK)
      have HN := Lib.hid hN
      clear hl hd hK hN
      go_enter Tryd.func42, Tryd.ntmps42
      go_wp2_with (first
        | (go_at_call 43; refine (roles_any _ hb0 _ ht).mono ?_; rintro e w' ⟨rfl, rfl⟩)
        | (go_at_call 44; refine (sign_any' (s.extract k0 s.size) N _ hx0 hx1 ht HN).mono ?_; rintro e w' ⟨rfl, rfl⟩))
      go_ret
      exact ⟨ret_int (by have := HK.out; omega), 0, rfl⟩
    · rw [hd] at m4
      have HT : Hid (k0 + run isDig (s.data.toList.drop k0) = K) := Lib.hid (by rw [← tok_dig s k0 hk0 hl hd]; exact hK)
      have M := Lib.hid mask4
      clear hl hd hK
      go_enter Tryd.func42, Tryd.ntmps42
      go_wp2_with (first
        | (go_at_call 43; refine (roles_any _ hb0 _ ht).mono ?_; rintro e w' ⟨rfl, rfl⟩)
        | (go_at_call 59; refine (stretch_mask' s k0 K isDig pn qn rn 4 _ (by omega) hs hE.pn_ hE.tab hE.qn_ hE.rn_ M HT).mono ?_; rintro e w' ⟨rfl, n0, rfl⟩))
      go_ret
      exact ⟨rfl, n0, rfl⟩
  · rw [hl] at m2
    have HT : Hid (k0 + run isWrd (s.data.toList.drop k0) = K) := Lib.hid (by rw [← tok_let s k0 hk0 hl]; exact hK)
    have M := Lib.hid mask6
    clear hl hK m4
    go_enter Tryd.func42, Tryd.ntmps42
    go_wp2_with (first
      | (go_at_call 43; refine (roles_any _ hb0 _ ht).mono ?_; rintro e w' ⟨rfl, rfl⟩)
      | (go_at_call 59; refine (stretch_mask' s k0 K isWrd pw qw rw_ 6 _ (by omega) hs hE.pw_ hE.tab hE.qw_ hE.rww M HT).mono ?_; rintro e w' ⟨rfl, n0, rfl⟩))
    go_ret
    exact ⟨rfl, n0, rfl⟩
end Go.Proofs.YtnanfedggmkboaaDoor
