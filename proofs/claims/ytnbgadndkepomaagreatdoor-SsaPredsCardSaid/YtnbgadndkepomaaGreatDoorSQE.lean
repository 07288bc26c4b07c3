/- Joined texts: SaNam, SaNam2. -/
import Derived.Test.YtnbgadndkepomaaGreatDoorSQB
import Derived.Test.YtnbgadndkepomaaGreatDoorShelf
import Derived.Lib.SmallJoins

/- ssa: names. -/
namespace Go.Proofs.YtnbgadndkepomaaGreatDoor
open Go.RowKit

set_option maxRecDepth 100000 in
set_option maxHeartbeats 3200000 in
theorem isKey_any (s : Str) (w : World) : Calls Tryz.prog 131 #[.string ⟨s.toArray⟩] w fun e w' => e = .returned (.bool (isKey s)) ∧ w = w' := by
  by_cases ckStruct : s = kStruct
  · have hk : isKey s = true := by rw [ckStruct]; decide
    have bkStruct : (s == [115, 116, 114, 117, 99, 116]) = true := by rw [ckStruct]; rfl
    rw [hk]
    clear hk ckStruct 
    go_enter Tryz.func131, Tryz.ntmps131
    go_wp2
    go_ret
    exact ⟨rfl, rfl⟩
  have bkStruct : (s == [115, 116, 114, 117, 99, 116]) = false := by simpa [kStruct] using ckStruct
  by_cases ckFunc : s = kFunc
  · have hk : isKey s = true := by rw [ckFunc]; decide
    have bkFunc : (s == [102, 117, 110, 99]) = true := by rw [ckFunc]; rfl
    rw [hk]
    clear hk ckFunc ckStruct
    go_enter Tryz.func131, Tryz.ntmps131
    go_wp2
    go_ret
    exact ⟨rfl, rfl⟩
  have bkFunc : (s == [102, 117, 110, 99]) = false := by simpa [kFunc] using ckFunc
  by_cases ckParse : s = kParse
  · have hk : isKey s = true := by rw [ckParse]; decide
    have bkParse : (s == [112, 97, 114, 115, 101]) = true := by rw [ckParse]; rfl
    rw [hk]
    clear hk ckParse ckStruct ckFunc
    go_enter Tryz.func131, Tryz.ntmps131
    go_wp2
    go_ret
    exact ⟨rfl, rfl⟩
  have bkParse : (s == [112, 97, 114, 115, 101]) = false := by simpa [kParse] using ckParse
  by_cases ckLet : s = kLet
  · have hk : isKey s = true := by rw [ckLet]; decide
    have bkLet : (s == [108, 101, 116]) = true := by rw [ckLet]; rfl
    rw [hk]
    clear hk ckLet ckStruct ckFunc ckParse
    go_enter Tryz.func131, Tryz.ntmps131
    go_wp2
    go_ret
    exact ⟨rfl, rfl⟩
  have bkLet : (s == [108, 101, 116]) = false := by simpa [kLet] using ckLet
  by_cases ckNew : s = kNew
  · have hk : isKey s = true := by rw [ckNew]; decide
    have bkNew : (s == [110, 101, 119]) = true := by rw [ckNew]; rfl
    rw [hk]
    clear hk ckNew ckStruct ckFunc ckParse ckLet
    go_enter Tryz.func131, Tryz.ntmps131
    go_wp2
    go_ret
    exact ⟨rfl, rfl⟩
  have bkNew : (s == [110, 101, 119]) = false := by simpa [kNew] using ckNew
  by_cases ckMake : s = kMake
  · have hk : isKey s = true := by rw [ckMake]; decide
    have bkMake : (s == [109, 97, 107, 101]) = true := by rw [ckMake]; rfl
    rw [hk]
    clear hk ckMake ckStruct ckFunc ckParse ckLet ckNew
    go_enter Tryz.func131, Tryz.ntmps131
    go_wp2
    go_ret
    exact ⟨rfl, rfl⟩
  have bkMake : (s == [109, 97, 107, 101]) = false := by simpa [kMake] using ckMake
  by_cases ckFree : s = kFree
  · have hk : isKey s = true := by rw [ckFree]; decide
    have bkFree : (s == [102, 114, 101, 101]) = true := by rw [ckFree]; rfl
    rw [hk]
    clear hk ckFree ckStruct ckFunc ckParse ckLet ckNew ckMake
    go_enter Tryz.func131, Tryz.ntmps131
    go_wp2
    go_ret
    exact ⟨rfl, rfl⟩
  have bkFree : (s == [102, 114, 101, 101]) = false := by simpa [kFree] using ckFree
  by_cases ckSame : s = kSame
  · have hk : isKey s = true := by rw [ckSame]; decide
    have bkSame : (s == [115, 97, 109, 101]) = true := by rw [ckSame]; rfl
    rw [hk]
    clear hk ckSame ckStruct ckFunc ckParse ckLet ckNew ckMake ckFree
    go_enter Tryz.func131, Tryz.ntmps131
    go_wp2
    go_ret
    exact ⟨rfl, rfl⟩
  have bkSame : (s == [115, 97, 109, 101]) = false := by simpa [kSame] using ckSame
  by_cases ckIf : s = kIf
  · have hk : isKey s = true := by rw [ckIf]; decide
    have bkIf : (s == [105, 102]) = true := by rw [ckIf]; rfl
    rw [hk]
    clear hk ckIf ckStruct ckFunc ckParse ckLet ckNew ckMake ckFree ckSame
    go_enter Tryz.func131, Tryz.ntmps131
    go_wp2
    go_ret
    exact ⟨rfl, rfl⟩
  have bkIf : (s == [105, 102]) = false := by simpa [kIf] using ckIf
  by_cases ckElse : s = kElse
  · have hk : isKey s = true := by rw [ckElse]; decide
    have bkElse : (s == [101, 108, 115, 101]) = true := by rw [ckElse]; rfl
    rw [hk]
    clear hk ckElse ckStruct ckFunc ckParse ckLet ckNew ckMake ckFree ckSame ckIf
    go_enter Tryz.func131, Tryz.ntmps131
    go_wp2
    go_ret
    exact ⟨rfl, rfl⟩
  have bkElse : (s == [101, 108, 115, 101]) = false := by simpa [kElse] using ckElse
  by_cases ckWhile : s = kWhile
  · have hk : isKey s = true := by rw [ckWhile]; decide
    have bkWhile : (s == [119, 104, 105, 108, 101]) = true := by rw [ckWhile]; rfl
    rw [hk]
    clear hk ckWhile ckStruct ckFunc ckParse ckLet ckNew ckMake ckFree ckSame ckIf ckElse
    go_enter Tryz.func131, Tryz.ntmps131
    go_wp2
    go_ret
    exact ⟨rfl, rfl⟩
  have bkWhile : (s == [119, 104, 105, 108, 101]) = false := by simpa [kWhile] using ckWhile
  by_cases ckEmit : s = kEmit
  · have hk : isKey s = true := by rw [ckEmit]; decide
    have bkEmit : (s == [101, 109, 105, 116]) = true := by rw [ckEmit]; rfl
    rw [hk]
    clear hk ckEmit ckStruct ckFunc ckParse ckLet ckNew ckMake ckFree ckSame ckIf ckElse ckWhile
    go_enter Tryz.func131, Tryz.ntmps131
    go_wp2
    go_ret
    exact ⟨rfl, rfl⟩
  have bkEmit : (s == [101, 109, 105, 116]) = false := by simpa [kEmit] using ckEmit
  by_cases ckAccept : s = kAccept
  · have hk : isKey s = true := by rw [ckAccept]; decide
    have bkAccept : (s == [97, 99, 99, 101, 112, 116]) = true := by rw [ckAccept]; rfl
    rw [hk]
    clear hk ckAccept ckStruct ckFunc ckParse ckLet ckNew ckMake ckFree ckSame ckIf ckElse ckWhile ckEmit
    go_enter Tryz.func131, Tryz.ntmps131
    go_wp2
    go_ret
    exact ⟨rfl, rfl⟩
  have bkAccept : (s == [97, 99, 99, 101, 112, 116]) = false := by simpa [kAccept] using ckAccept
  by_cases ckReject : s = kReject
  · have hk : isKey s = true := by rw [ckReject]; decide
    have bkReject : (s == [114, 101, 106, 101, 99, 116]) = true := by rw [ckReject]; rfl
    rw [hk]
    clear hk ckReject ckStruct ckFunc ckParse ckLet ckNew ckMake ckFree ckSame ckIf ckElse ckWhile ckEmit ckAccept
    go_enter Tryz.func131, Tryz.ntmps131
    go_wp2
    go_ret
    exact ⟨rfl, rfl⟩
  have bkReject : (s == [114, 101, 106, 101, 99, 116]) = false := by simpa [kReject] using ckReject
  by_cases ckReturn : s = kReturn
  · have hk : isKey s = true := by rw [ckReturn]; decide
    have bkReturn : (s == [114, 101, 116, 117, 114, 110]) = true := by rw [ckReturn]; rfl
    rw [hk]
    clear hk ckReturn ckStruct ckFunc ckParse ckLet ckNew ckMake ckFree ckSame ckIf ckElse ckWhile ckEmit ckAccept ckReject
    go_enter Tryz.func131, Tryz.ntmps131
    go_wp2
    go_ret
    exact ⟨rfl, rfl⟩
  have bkReturn : (s == [114, 101, 116, 117, 114, 110]) = false := by simpa [kReturn] using ckReturn
  by_cases ckIn : s = kIn
  · have hk : isKey s = true := by rw [ckIn]; decide
    have bkIn : (s == [105, 110]) = true := by rw [ckIn]; rfl
    rw [hk]
    clear hk ckIn ckStruct ckFunc ckParse ckLet ckNew ckMake ckFree ckSame ckIf ckElse ckWhile ckEmit ckAccept ckReject ckReturn
    go_enter Tryz.func131, Tryz.ntmps131
    go_wp2
    go_ret
    exact ⟨rfl, rfl⟩
  have bkIn : (s == [105, 110]) = false := by simpa [kIn] using ckIn
  by_cases ckLen : s = kLen
  · have hk : isKey s = true := by rw [ckLen]; decide
    have bkLen : (s == [108, 101, 110]) = true := by rw [ckLen]; rfl
    rw [hk]
    clear hk ckLen ckStruct ckFunc ckParse ckLet ckNew ckMake ckFree ckSame ckIf ckElse ckWhile ckEmit ckAccept ckReject ckReturn ckIn
    go_enter Tryz.func131, Tryz.ntmps131
    go_wp2
    go_ret
    exact ⟨rfl, rfl⟩
  have bkLen : (s == [108, 101, 110]) = false := by simpa [kLen] using ckLen
  by_cases ckSext : s = kSext
  · have hk : isKey s = true := by rw [ckSext]; decide
    have bkSext : (s == [115, 101, 120, 116]) = true := by rw [ckSext]; rfl
    rw [hk]
    clear hk ckSext ckStruct ckFunc ckParse ckLet ckNew ckMake ckFree ckSame ckIf ckElse ckWhile ckEmit ckAccept ckReject ckReturn ckIn ckLen
    go_enter Tryz.func131, Tryz.ntmps131
    go_wp2
    go_ret
    exact ⟨rfl, rfl⟩
  have bkSext : (s == [115, 101, 120, 116]) = false := by simpa [kSext] using ckSext
  by_cases ckSlt : s = kSlt
  · have hk : isKey s = true := by rw [ckSlt]; decide
    have bkSlt : (s == [115, 108, 116]) = true := by rw [ckSlt]; rfl
    rw [hk]
    clear hk ckSlt ckStruct ckFunc ckParse ckLet ckNew ckMake ckFree ckSame ckIf ckElse ckWhile ckEmit ckAccept ckReject ckReturn ckIn ckLen ckSext
    go_enter Tryz.func131, Tryz.ntmps131
    go_wp2
    go_ret
    exact ⟨rfl, rfl⟩
  have bkSlt : (s == [115, 108, 116]) = false := by simpa [kSlt] using ckSlt
  have hk : isKey s = false := by
    cases h : isKey s with
    | false => rfl
    | true =>
      unfold isKey keyWords at h
      simp only [List.contains_cons, List.contains_nil, Bool.or_false, Bool.or_eq_true, beq_iff_eq] at h
      rcases h with h | h | h | h | h | h | h | h | h | h | h | h | h | h | h | h | h | h | h
      · exact absurd h ckStruct
      · exact absurd h ckFunc
      · exact absurd h ckParse
      · exact absurd h ckLet
      · exact absurd h ckNew
      · exact absurd h ckMake
      · exact absurd h ckFree
      · exact absurd h ckSame
      · exact absurd h ckIf
      · exact absurd h ckElse
      · exact absurd h ckWhile
      · exact absurd h ckEmit
      · exact absurd h ckAccept
      · exact absurd h ckReject
      · exact absurd h ckReturn
      · exact absurd h ckIn
      · exact absurd h ckLen
      · exact absurd h ckSext
      · exact absurd h ckSlt
  rw [hk]
  clear hk ckStruct ckFunc ckParse ckLet ckNew ckMake ckFree ckSame ckIf ckElse ckWhile ckEmit ckAccept ckReject ckReturn ckIn ckLen ckSext ckSlt
  go_enter Tryz.func131, Tryz.ntmps131
  go_wp2
  go_ret
  exact ⟨rfl, rfl⟩

theorem ba_get (s : ByteArray) (k : Nat) (h : k < s.size) : s.data.toList[k]'(by simpa using h) = s[k] := by simp; rfl
def wordB (l : Str) : Bool := (l.take 1).all isLet && l.all isWrd
def WdI (l : Str) (k : Nat) : Prop := (l.take k).all isWrd = true ∧ (1 ≤ k → (l.take 1).all isLet = true)
set_option maxRecDepth 100000 in
set_option maxHeartbeats 1600000 in
theorem isWord_any (s : ByteArray) (h1 : 1 ≤ s.size) (h12 : s.size ≤ 12) (w : World) : Calls Tryz.prog 130 #[.string s] w fun e w' => e = .returned (.bool (wordB s.data.toList)) ∧ w = w' := by
  obtain ⟨R, hR⟩ : ∃ R, Hid (wordB s.data.toList = R) := ⟨_, Lib.hid rfl⟩
  rw [hR.out]
  have hlen : s.data.toList.length = s.size := rfl
  go_enter Tryz.func130, Tryz.ntmps130
  go_wp2_with fail
  go_loop [8] (fun v => ∃ k : Nat, k ≤ s.size ∧ v = .int .i64 k ∧ Hid (WdI s.data.toList k)) (fun v => s.size - (intOf v).toNat)
  case atStart => exact ⟨0, Nat.zero_le _, rfl, Lib.hid ⟨rfl, fun h => by omega⟩⟩
  case round =>
    obtain ⟨k, hk, rfl, hI⟩ := hrel
    by_cases hlt : k < s.size
    · have hst : s.data.toList.take (k + 1) = s.data.toList.take k ++ [s[k]] := by
        rw [List.take_succ_eq_append_getElem (by rw [hlen]; exact hlt), ba_get s k hlt]
      have hm : s[k] ∈ s.data.toList := by rw [← ba_get s k hlt]; exact List.getElem_mem _
      have good : isLet s[k] = true ∨ (k ≠ 0 ∧ isDig s[k] = true) → Hid (WdI s.data.toList (k + 1)) := fun h => Lib.hid (by
        refine ⟨?_, fun _ => ?_⟩
        · rw [hst, List.all_append, hI.out.1]
          have : isWrd s[k] = true := by unfold isWrd; rcases h with h | ⟨_, h⟩ <;> simp [h]
          simp [this]
        · by_cases h0 : k = 0
          · subst h0
            rw [show (1 : Nat) = 0 + 1 from rfl, hst]
            rcases h with h | ⟨h, _⟩
            · simp [h]
            · exact absurd rfl h
          · exact hI.out.2 (by omega))
      have bad : isLet s[k] = false → (k = 0 ∨ isDig s[k] = false) → Hid (R = false) := fun h g => Lib.hid (by
        rw [← hR.out]
        unfold wordB
        rcases g with g | g
        · subst g
          rw [show (1 : Nat) = 0 + 1 from rfl, hst]
          simp [h]
        · have : s.data.toList.all isWrd = false := by
            rw [Bool.eq_false_iff]
            intro ha
            have := List.all_eq_true.1 ha _ hm
            unfold isWrd at this
            rw [h, g] at this; cases this
          rw [this]; simp)
      have HG := Lib.hid good
      have HB := Lib.hid bad
      have hL : B (97 ≤ (s[k].toNat : Int) ∧ (s[k].toNat : Int) ≤ 122) = isLet s[k] := (B_eq (by unfold isLet; simp; omega)).symm
      have hD : B (48 ≤ (s[k].toNat : Int) ∧ (s[k].toNat : Int) ≤ 57) = isDig s[k] := (B_eq (by unfold isDig; simp; omega)).symm
      have hL := Lib.hid hL
      have hD := Lib.hid hD
      clear hst good bad hI hlen hm
      have hwr : wrap64 (s[k].toNat : Int) = (s[k].toNat : Int) := IntWalk.wrap64_in _ (by have := s[k].toNat_lt; omega)
      go_wp2_with fail
      refine (within_any _ _ _ _).mono ?_
      rintro e w' ⟨rfl, rfl⟩
      rw [hL.out]
      go_wp2_with fail
      refine (within_any _ _ _ _).mono ?_
      rintro e w' ⟨rfl, rfl⟩
      rw [hD.out]
      cases hl : isLet s[k] with
      | true =>
        have hN := HG.out (.inl hl)
        clear HG HB hl hL hD
        go_wp2_with fail
        go_round
        case rel => exact ⟨k + 1, hlt, by go_num, hN⟩
        case measure => simp [intOf]; omega
      | false =>
        by_cases h0 : k = 0
        · have hQ := HB.out hl (.inl h0)
          have b0 : ((k : Int) == 0) = true := by simpa using h0
          clear HG HB hl hL hD hR h0
          go_wp2
          go_ret
          exact ⟨by rw [hQ.out]; rfl, rfl⟩
        · have b0 : ((k : Int) == 0) = false := by simpa using h0
          cases hd : isDig s[k] with
          | true =>
            have hN := HG.out (.inr ⟨h0, hd⟩)
            clear HG HB hl hL hD hd h0
            go_wp2_with fail
            go_round
            case rel => exact ⟨k + 1, hlt, by go_num, hN⟩
            case measure => simp [intOf]; omega
          | false =>
            have hQ := HB.out hl (.inr hd)
            clear HG HB hl hL hD hd h0 hR
            go_wp2
            go_ret
            exact ⟨by rw [hQ.out]; rfl, rfl⟩
    · have hke : k = s.size := by omega
      have hQ : Hid (R = true) := Lib.hid (by
        rw [← hR.out]
        have h := hI.out
        rw [hke] at h
        unfold wordB
        rw [h.2 h1]
        have := h.1
        rw [List.take_of_length_le (by rw [hlen]; exact Nat.le_refl _)] at this
        rw [this]; rfl)
      clear hI hR hke hlen
      go_wp2
      go_ret
      exact ⟨by rw [hQ.out]; rfl, rfl⟩

/-! ### Types -/
theorem digits_one : ∀ d : Nat, d < 10 → 1 ≤ d → Lib.decDigits d = [UInt8.ofNat (48 + d)] := by decide +kernel
theorem digits_two : ∀ x : Nat, x < 7 → ∀ y : Nat, y < 10 → 1 ≤ x → Lib.decDigits (10 * x + y) = [UInt8.ofNat (48 + x), UInt8.ofNat (48 + y)] := by decide +kernel
theorem atoi_dec : ∀ n : Nat, n < 65 → Lib.atoi (Lib.decDigits n) = some (n : Int) := by decide +kernel
theorem width_dec : ∀ n : Nat, n < 65 → 1 ≤ n → widthOf (117 :: Lib.decDigits n) = n := by decide +kernel
theorem u8_eq {a : UInt8} {n : Nat} (h : a.toNat = n) : a = UInt8.ofNat n := by rw [← h]; simp
theorem width_le (l : Str) : widthOf l ≤ 64 := by
  unfold widthOf
  split
  · split
    · rename_i h; simp at h; omega
    · omega
  · split
    · rename_i h; simp at h; omega
    · omega
  · omega
theorem width_form {l : Str} (h : widthOf l ≠ 0) : l = 117 :: Lib.decDigits (widthOf l) := by
  unfold widthOf at h ⊢
  split at h
  · rename_i u a
    split at h
    · rename_i hc
      simp only [Bool.and_eq_true, beq_iff_eq, decide_eq_true_eq] at hc
      rw [if_pos (by simp; omega), digits_one _ (by omega) (by omega), u8_eq hc.1.1, show 48 + (a.toNat - 48) = a.toNat by omega]
      simp
    · exact absurd rfl h
  · rename_i u a b
    split at h
    · rename_i hc
      simp only [Bool.and_eq_true, beq_iff_eq, decide_eq_true_eq] at hc
      rw [if_pos (by simp; omega), digits_two _ (by omega) _ (by omega) (by omega), u8_eq hc.1.1.1.1.1, show 48 + (a.toNat - 48) = a.toNat by omega, show 48 + (b.toNat - 48) = b.toNat by omega]
      simp
    · exact absurd rfl h
  · exact absurd rfl h
/-- What the number behind a word's first letter says of the word. -/
theorem type_iff {l : Str} {n : Int} (h : Lib.atoi (l.drop 1) = some n) : (Wid n ∧ l = 117 :: Lib.decDigits n.toNat) ↔ widthOf l ≠ 0 := by
  constructor
  · rintro ⟨hw, e⟩
    have h1 : n.toNat < 65 := by have := hw.2; omega
    have h2 : 1 ≤ n.toNat := by have := hw.1; omega
    rw [e, width_dec _ h1 h2]; omega
  · intro hw
    have hf := width_form hw
    have hl := width_le l
    have hd : l.drop 1 = Lib.decDigits (widthOf l) := by conv => lhs; rw [hf]
                                                         simp
    rw [hd, atoi_dec _ (by omega)] at h
    have hn : n = (widthOf l : Int) := by simpa using h.symm
    refine ⟨by rw [hn]; exact ⟨by omega, by omega⟩, ?_⟩
    rw [hn]
    simpa using hf
theorem type_none {l : Str} (h : Lib.atoi (l.drop 1) = none) : widthOf l = 0 := by
  apply Classical.byContradiction
  intro hw
  have hf := width_form hw
  have hl := width_le l
  have hd : l.drop 1 = Lib.decDigits (widthOf l) := by conv => lhs; rw [hf]
                                                       simp
  rw [hd, atoi_dec _ (by omega)] at h
  cases h
end Go.Proofs.YtnbgadndkepomaaGreatDoor

/- ssa: names, continued. -/
namespace Go.Proofs.YtnbgadndkepomaaGreatDoor
open Go.RowKit

/-- The variable of strconv that its errors name. -/
def ErrV (w : World) : Prop := ∃ te pe, w.cell? ⟨0, 0, none⟩ = some (.iface te pe)
theorem ErrV.later {w w' : World} (hb : Below w.heap.size w w') (h : ErrV w) : ErrV w' := by
  obtain ⟨te, pe, h⟩ := h
  exact ⟨te, pe, cell_later hb h⟩
def AtP (l : Str) (W : World) (e : Ending) (w' : World) : Prop :=
  (∃ n : Int, Lib.atoi l = some n ∧ e = .returned (.tuple #[.int .i64 n, .nilIface]) ∧ Below W.heap.size W w') ∨ (Lib.atoi l = none ∧ ∃ te pe, e = .returned (.tuple #[.int .i64 0, .iface te pe]) ∧ Below W.heap.size W w')
theorem atoi_any (s : ByteArray) (hs : s.size ≤ 18) (w : World) (hv : ErrV w) : Calls Tryz.prog 136 #[.string s] w (AtP s.data.toList w) := by
  cases h : Lib.atoi s.data.toList with
  | some n => exact (Tryz.strconv_Atoi s n hs h w).mono fun e w' ⟨he, t, hw⟩ => .inl ⟨n, h, he, by rw [hw]; exact Joins.below_bytesWorld _ _ _ _ (Nat.le_refl _)⟩
  | none =>
    obtain ⟨te, pe, hv⟩ := hv
    exact (Tryz.strconv_Atoi_err s hs h _ w hv (.inr ⟨te, pe, rfl⟩)).mono fun e w' ⟨N, he, _, _, hb⟩ => .inr ⟨h, _, _, he, hb⟩
theorem dec_len : ∀ k : Nat, k < 100 → (Lib.decDigits k).length ≤ 100 := by decide +kernel
theorem u_text (L : List UInt8) : (({ data := #[117] } : ByteArray) ++ ({ data := L.toArray } : ByteArray)).data.toList = 117 :: L := by
  rw [ByteArray.data_append]; simp
set_option maxRecDepth 100000 in
set_option maxHeartbeats 1600000 in
theorem isType_any (s : ByteArray) (h1 : 1 ≤ s.size) (h12 : s.size ≤ 12) (w : World) (hv : ErrV w) : Calls Tryz.prog 132 #[.string s] w fun e w' => e = .returned (.bool (widthOf s.data.toList != 0)) ∧ Below w.heap.size w w' := by
  obtain ⟨R, hR⟩ : ∃ R, Hid ((widthOf s.data.toList != 0) = R) := ⟨_, Lib.hid rfl⟩
  rw [hR.out]
  have hle : (1 : Int) ≤ s.size := by omega
  go_enter Tryz.func132, Tryz.ntmps132
  go_wp2_with fail
  have hx : (s.extract 1 s.size).data.toList = s.data.toList.drop 1 := by
    rw [ByteArray.data_extract]
    simp [List.take_of_length_le]
  have hsz : (s.extract 1 s.size).size ≤ 18 := by rw [ByteArray.size_extract]; omega
  refine (atoi_any (s.extract 1 s.size) hsz _ hv).mono ?_
  rintro e w1 (⟨n, hn, rfl, b1⟩ | ⟨hn, te, pe, rfl, b1⟩)
  · rw [hx] at hn
    have ht := Lib.hid (type_iff hn)
    clear hx hn hsz
    go_wp2_with fail
    refine (isWidth_any n _).mono ?_
    rintro e w' ⟨rfl, rfl⟩
    by_cases q : Wid n
    rotate_left 1
    · have hQ : Hid (R = false) := Lib.hid (by rw [← hR.out]; have := ht.out; simp; apply Classical.byContradiction; intro h; exact q (this.2 h).1)
      rw [B_not q]
      clear hR ht q
      go_wp2
      go_ret
      exact ⟨by rw [hQ.out]; rfl, b1⟩
    rw [B_of q]
    obtain ⟨k, rfl, hk⟩ : ∃ k : Nat, n = k ∧ k < 100 := ⟨n.toNat, by have := q.1; omega, by have := q.2; omega⟩
    have hQ : Hid (R = (s.data.toList == 117 :: Lib.decDigits k)) := Lib.hid (by
      rw [← hR.out, Bool.eq_iff_iff]
      have := ht.out
      simp at this ⊢
      exact this.symm.trans ⟨fun h => h.2, fun h => ⟨q, h⟩⟩)
    clear hR ht q
    go_wp2_with fail
    refine (Tryz.strconv_Itoa_small k hk _).mono ?_
    rintro e w' ⟨rfl, rfl⟩
    obtain ⟨L, hL⟩ : ∃ L, Hid (Lib.decDigits k = L) := ⟨_, Lib.hid rfl⟩
    have hLl : L.length ≤ 100 := by rw [← hL.out]; exact dec_len k hk
    rw [hL.out] at hQ ⊢
    clear hL
    go_wp2
    go_ret
    exact ⟨by rw [hQ.out, ByteArray.toList_eq, ByteArray.toList_eq, u_text]; rfl, b1⟩
  · rw [hx] at hn
    have ht := type_none hn
    have hQ : Hid (R = false) := Lib.hid (by rw [← hR.out, ht]; rfl)
    clear hx hn hsz ht hR
    go_wp2
    go_ret
    exact ⟨by rw [hQ.out]; rfl, b1⟩
set_option maxRecDepth 100000 in
set_option maxHeartbeats 1600000 in
theorem isName_any (s : ByteArray) (hs : s.size ≤ 9223372036854775807) (w : World) (hv : ErrV w) : Calls Tryz.prog 120 #[.string s] w fun e w' => e = .returned (.bool (nameR s.data.toList)) ∧ Below w.heap.size w w' := by
  obtain ⟨R, hR⟩ : ∃ R, Hid (nameR s.data.toList = R) := ⟨_, Lib.hid rfl⟩
  rw [hR.out]
  have hlen : s.data.toList.length = s.size := rfl
  have hRR : Hid (R = (decide (1 ≤ s.size ∧ s.size ≤ 12) && wordB s.data.toList && !(isKey s.data.toList) && widthOf s.data.toList == 0)) := Lib.hid (by
    rw [← hR.out]; unfold nameR wordB; rw [hlen]; simp [Bool.and_assoc])
  clear hR
  go_enter Tryz.func120, Tryz.ntmps120
  go_wp2_with fail
  refine (within_any _ _ _ _).mono ?_
  rintro e w' ⟨rfl, rfl⟩
  by_cases q : 1 ≤ s.size ∧ s.size ≤ 12
  rotate_left 1
  · have hQ : Hid (R = false) := Lib.hid (by rw [hRR.out, decide_eq_false q]; rfl)
    rw [B_not (by omega)]
    clear hRR hlen q
    go_wp2
    go_ret
    exact ⟨by rw [hQ.out]; rfl, Below.refl _ _⟩
  have hRR : Hid (R = (wordB s.data.toList && !(isKey s.data.toList) && widthOf s.data.toList == 0)) := Lib.hid (by rw [hRR.out, decide_eq_true q]; rfl)
  rw [B_of (by omega)]
  go_wp2_with fail
  refine (isWord_any s q.1 q.2 _).mono ?_
  rintro e w' ⟨rfl, rfl⟩
  cases hw : wordB s.data.toList with
  | false =>
    have hQ : Hid (R = false) := Lib.hid (by rw [hRR.out, hw]; rfl)
    clear hRR hlen q hw
    go_wp2
    go_ret
    exact ⟨by rw [hQ.out]; rfl, Below.refl _ _⟩
  | true =>
    have hRR : Hid (R = (!(isKey s.data.toList) && widthOf s.data.toList == 0)) := Lib.hid (by rw [hRR.out, hw]; rfl)
    clear hw
    have hkk := isKey_any s.data.toList w
    rw [show (⟨s.data.toList.toArray⟩ : ByteArray) = s by simp] at hkk
    have hK := Lib.hid hkk
    clear hkk
    go_wp2_with fail
    refine hK.out.mono ?_
    rintro e w2 ⟨rfl, rfl⟩
    clear hK
    cases hk : isKey s.data.toList with
    | true =>
      have hQ : Hid (R = false) := Lib.hid (by rw [hRR.out, hk]; rfl)
      clear hRR hlen q hk
      go_wp2
      go_ret
      exact ⟨by rw [hQ.out]; rfl, Below.refl _ _⟩
    | false =>
      have hQ : Hid (R = !(widthOf s.data.toList != 0)) := Lib.hid (by rw [hRR.out, hk]; simp [bne])
      clear hRR hlen hk
      go_wp2_with fail
      refine (isType_any s q.1 q.2 _ hv).mono ?_
      rintro e w3 ⟨rfl, b3⟩
      clear q
      go_wp2
      go_ret
      exact ⟨by rw [hQ.out]; rfl, b3⟩
/-! ### Texts among others -/
/-- The place of a text in a list, or -1. -/
def inI : List Str → Str → Nat → Int
  | [], _, _ => -1
  | a :: r, s, k => if a = s then (k : Int) else inI r s (k + 1)
theorem inI_nn : ∀ (l : List Str) (s : Str) (k : Nat), decide (0 ≤ inI l s k) = l.contains s
  | [], s, k => rfl
  | a :: r, s, k => by
    unfold inI
    by_cases h : a = s
    · rw [if_pos h, h]; simp
    · rw [if_neg h, inI_nn r s (k + 1)]
      have : (s == a) = false := by simpa using fun e => h e.symm
      rw [List.contains_cons, this]; rfl
theorem inI_le : ∀ (l : List Str) (s : Str) (k : Nat), -1 ≤ inI l s k ∧ inI l s k ≤ (k : Int) + l.length
  | [], s, k => by simp [inI]
  | a :: r, s, k => by
    have := inI_le r s (k + 1)
    unfold inI
    split
    · simp; omega
    · simp at this ⊢; omega
end Go.Proofs.YtnbgadndkepomaaGreatDoor
