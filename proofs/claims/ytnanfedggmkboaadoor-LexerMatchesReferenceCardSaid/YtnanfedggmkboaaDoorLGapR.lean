/- The document's own gaps. -/
import Derived.Test.YtnanfedggmkboaaDoorLHead
import Derived.Test.YtnanfedggmkboaaDoorLPlain2
namespace Go.Proofs.YtnanfedggmkboaaDoor
open Go.RowKit

theorem drop_cons (s : ByteArray) (k : Nat) (h : k < s.size) : s.data.toList.drop k = s[k] :: s.data.toList.drop (k + 1) := by
  rw [List.drop_eq_getElem_cons (by simpa using h)]; rfl
theorem drop_end (s : ByteArray) (k : Nat) (h : s.size ≤ k) : s.data.toList.drop k = [] := List.drop_eq_nil_of_le (by simpa using h)
theorem byte_eq (b : UInt8) (n : Nat) : ((b.toNat : Int) == (n : Int)) = (b.toNat == n) := by
  rw [Bool.eq_iff_iff]; simp; omega
theorem gap_true (s : ByteArray) (k : Nat) (h : k < s.size) : gapC true (s.data.toList.drop k) = if s[k].toNat == 10 then gapC false (s.data.toList.drop (k + 1)) + 1 else gapC true (s.data.toList.drop (k + 1)) + 1 := by
  rw [drop_cons s k h, gapC_true]
theorem gap_false (s : ByteArray) (k : Nat) (h : k < s.size) : gapC false (s.data.toList.drop k) = if s[k].toNat == 35 then gapC true (s.data.toList.drop (k + 1)) + 1 else if isBlk s[k] then gapC false (s.data.toList.drop (k + 1)) + 1 else 0 := by
  rw [drop_cons s k h, gapC_false]

set_option maxRecDepth 100000 in
set_option maxHeartbeats 1600000 in
theorem gapR_any (s : ByteArray) (k0 : Nat) (w : World) (hk0 : k0 ≤ s.size) (hs : s.size ≤ 100000) :
    Calls Tryd.prog 15 #[.string s, .int .i64 k0] w fun e w' => e = .returned (.int .i64 ((k0 + gapLen (s.data.toList.drop k0) : Nat) : Int)) ∧ Drew w w' := by
  obtain ⟨G, hG⟩ : ∃ G, k0 + gapLen (s.data.toList.drop k0) = G := ⟨_, rfl⟩
  rw [hG]
  have HG := Lib.hid hG
  clear hG
  go_enter Tryd.func15, Tryd.ntmps15
  go_wp2_with fail
  go_loopw [1] (fun a wr => ∃ k : Nat, k ≤ s.size ∧ a = .int .i64 k ∧ Hid (k + gapC false (s.data.toList.drop k) = G) ∧ Drew w wr) (fun a _ => s.size - (intOf a).toNat)
  case atStart => exact ⟨k0, hk0, rfl, HG, Drew.refl _⟩
  case round =>
    rename_i wr
    obtain ⟨k, hk2, rfl, hR, hD⟩ := hrel
    clear HG
    by_cases hlt : k < s.size
    · by_cases h35 : s[k].toNat = 35
      · have b35 : ((s[k].toNat : Int) == 35) = true := by rw [h35]; rfl
        go_wp2_with fail
        go_loopw [1] (fun a wx => ∃ j : Nat, k ≤ j ∧ j ≤ s.size ∧ a = .int .i64 j ∧ Hid (j + gapC true (s.data.toList.drop j) = G) ∧ Drew w wx) (fun a _ => s.size - (intOf a).toNat)
        case atStart => exact ⟨k, Nat.le_refl _, hk2, rfl, Lib.hid (by
          have h := hR.out
          rw [gap_false s k hlt, if_pos (by simpa using h35)] at h
          rw [gap_true s k hlt, if_neg (by simp [h35])]; exact h), hD⟩
        case round =>
          rename_i wx
          obtain ⟨j, hj1, hj2, rfl, hR2, hD2⟩ := hrel
          by_cases hlt2 : j < s.size
          · by_cases h10 : s[j].toNat = 10
            · have b10 : ((s[j].toNat : Int) != 10) = false := by rw [h10]; rfl
              have hkj : k < j := by
                rcases Nat.lt_or_ge k j with h | h
                · exact h
                · exfalso
                  have e : j = k := by omega
                  subst e
                  omega
              have HN : Hid (j + gapC false (s.data.toList.drop j) = G) := Lib.hid (by
                have h := hR2.out
                rw [gap_true s j hlt2, if_pos (by simpa using h10)] at h
                rw [gap_false s j hlt2, if_neg (by simp [h10]), if_pos (by simp [isBlk, h10])]; exact h)
              clear hR hR2 b35 h35
              go_wp2
              go_roundw
              case rel => exact ⟨j, hj2, rfl, HN, hD2⟩
              case measure => simp [intOf]; omega
            · have b10 : ((s[j].toNat : Int) != 10) = true := by simp; omega
              have HN : Hid (j + 1 + gapC true (s.data.toList.drop (j + 1)) = G) := Lib.hid (by
                have h := hR2.out
                rw [gap_true s j hlt2, if_neg (by simpa using h10)] at h
                omega)
              clear hR hR2 b35 h35
              go_wp2
              go_roundw
              case rel => exact ⟨j + 1, by omega, by omega, by go_num, HN, hD2⟩
              case measure => simp [intOf]; omega
          · have hkj : k < j := by omega
            have HN : Hid (j + gapC false (s.data.toList.drop j) = G) := Lib.hid (by
              have h := hR2.out
              rw [drop_end s j (by omega)] at h ⊢
              simpa [gapC] using h)
            clear hR hR2 b35 h35
            go_wp2
            go_roundw
            case rel => exact ⟨j, hj2, rfl, HN, hD2⟩
            case measure => simp [intOf]; omega
      · have b35 : ((s[k].toNat : Int) == 35) = false := by simp; omega
        by_cases hb : isBlk s[k] = true
        · have HN : Hid (k + 1 + gapC false (s.data.toList.drop (k + 1)) = G) := Lib.hid (by
            have h := hR.out
            rw [gap_false s k hlt, if_neg (by simpa using h35), if_pos hb] at h
            omega)
          have hb' : s[k].toNat = 32 ∨ s[k].toNat = 9 ∨ s[k].toNat = 10 := by
            unfold isBlk at hb; simp at hb; omega
          clear hR hb
          rcases hb' with hx | hx | hx
          · have b32 : ((s[k].toNat : Int) == 32) = true := by rw [hx]; rfl
            have b9 : ((s[k].toNat : Int) == 9) = false := by rw [hx]; rfl
            have b10 : ((s[k].toNat : Int) == 10) = false := by rw [hx]; rfl
            clear hx
            go_wp2
            go_roundw
            case rel => exact ⟨k + 1, by omega, by go_num, HN, hD⟩
            case measure => simp [intOf]; omega
          · have b32 : ((s[k].toNat : Int) == 32) = false := by rw [hx]; rfl
            have b9 : ((s[k].toNat : Int) == 9) = true := by rw [hx]; rfl
            have b10 : ((s[k].toNat : Int) == 10) = false := by rw [hx]; rfl
            clear hx
            go_wp2
            go_roundw
            case rel => exact ⟨k + 1, by omega, by go_num, HN, hD⟩
            case measure => simp [intOf]; omega
          · have b32 : ((s[k].toNat : Int) == 32) = false := by rw [hx]; rfl
            have b9 : ((s[k].toNat : Int) == 9) = false := by rw [hx]; rfl
            have b10 : ((s[k].toNat : Int) == 10) = true := by rw [hx]; rfl
            clear hx
            go_wp2
            go_roundw
            case rel => exact ⟨k + 1, by omega, by go_num, HN, hD⟩
            case measure => simp [intOf]; omega
        · have HN : Hid (k = G) := Lib.hid (by
            have h := hR.out
            rw [gap_false s k hlt, if_neg (by simpa using h35), if_neg hb] at h
            omega)
          have hb' : ((s[k].toNat : Int) == 32) = false ∧ ((s[k].toNat : Int) == 9) = false ∧ ((s[k].toNat : Int) == 10) = false := by
            unfold isBlk at hb; simp at hb; simp; omega
          obtain ⟨b1, b2, b3⟩ := hb'
          clear hR hb
          go_wp2
          go_ret
          exact ⟨ret_int (by have := HN.out; omega), hD⟩
    · have HN : Hid (k = G) := Lib.hid (by
        have h := hR.out
        rw [drop_end s k (by omega)] at h
        simpa [gapC] using h)
      clear hR
      go_wp2
      go_ret
      exact ⟨ret_int (by have := HN.out; omega), hD⟩
end Go.Proofs.YtnanfedggmkboaaDoor
