/- The reference's Number, Width and Token. -/
import Derived.Test.YtnanfedggmkboaaDoorLRefE
namespace Go.Proofs.YtnanfedggmkboaaDoor
open Go.RowKit

theorem pM_nil (n : Nat) : Lib.parseUintM M64 n [] = .ok n := rfl
theorem pM_far {n : Nat} {c : UInt8} {l : List UInt8} (hc : isDig c = true) (h : 1844674407370955161 < n ∨ n = 1844674407370955161 ∧ 5 < c.toNat - 48) : Lib.parseUintM M64 n (c :: l) = .range := by
  have hd : 48 ≤ c.toNat ∧ c.toNat ≤ 57 := by unfold isDig at hc; simpa using hc
  rw [Lib.parseUintM, if_pos hd]
  by_cases h1 : 1844674407370955162 ≤ n
  · rw [if_pos h1]
  · rw [if_neg h1, if_pos (by unfold M64; omega)]
theorem pM_near {n : Nat} {c : UInt8} {l : List UInt8} (hc : isDig c = true) (h : ¬ (1844674407370955161 < n ∨ n = 1844674407370955161 ∧ 5 < c.toNat - 48)) : Lib.parseUintM M64 n (c :: l) = Lib.parseUintM M64 (10 * n + (c.toNat - 48)) l ∧ 10 * n + (c.toNat - 48) ≤ M64 := by
  have hd : 48 ≤ c.toNat ∧ c.toNat ≤ 57 := by unfold isDig at hc; simpa using hc
  rw [Lib.parseUintM, if_pos hd, if_neg (by omega), if_neg (by unfold M64; omega)]
  refine ⟨by congr 1; omega, by unfold M64; omega⟩

/-- What Number answers. -/
def NumPost (l : List UInt8) (e : Ending) : Prop := (∃ u, Lib.parseUintB 64 l = .ok u ∧ e = .returned (.tuple #[.int .u64 u, .bool true])) ∨ ((∀ u, Lib.parseUintB 64 l ≠ .ok u) ∧ e = .returned (.tuple #[.int .u64 0, .bool false]))

set_option maxRecDepth 100000 in
set_option maxHeartbeats 1600000 in
theorem number_any (s : ByteArray) (w : World) (h0 : 0 < s.size) (hs : s.size ≤ 100000) (hd : Hid (∀ b ∈ s.data.toList, isDig b = true)) :
    Calls Tryd.prog 48 #[.string s] w fun e w' => NumPost s.data.toList e ∧ w = w' := by
  have hP : Lib.parseUintB 64 s.data.toList = Lib.parseUintM M64 0 (s.data.toList.drop 0) := by
    have hne : s.data.toList ≠ [] := by
      intro e
      have : s.data.toList.length = s.size := rfl
      rw [e] at this; simp at this; omega
    rw [Lib.parseUintB, if_neg hne, List.drop_zero]
  obtain ⟨R, hR⟩ : ∃ R, Lib.parseUintB 64 s.data.toList = R := ⟨_, rfl⟩
  have HP : Hid (Lib.parseUintM M64 0 (s.data.toList.drop 0) = R) := Lib.hid (by rw [← hP, hR])
  have hEnd : ∀ e, ((∃ u, R = .ok u ∧ e = Ending.returned (.tuple #[.int .u64 u, .bool true])) ∨ ((∀ u, R ≠ .ok u) ∧ e = .returned (.tuple #[.int .u64 0, .bool false]))) → NumPost s.data.toList e := by
    intro e h; unfold NumPost; rw [hR]; exact h
  have HEnd := Lib.hid hEnd
  clear hP hR hEnd
  go_enter Tryd.func48, Tryd.ntmps48
  go_wp2
  go_loop [4, 5] (fun n i => ∃ k m : Nat, k ≤ s.size ∧ i = .int .i64 k ∧ n = .int .u64 m ∧ Hid (m ≤ M64) ∧ Hid (Lib.parseUintM M64 m (s.data.toList.drop k) = R)) (fun _ i => s.size - (intOf i).toNat)
  case atStart => exact ⟨0, 0, Nat.zero_le _, rfl, rfl, Lib.hid (Nat.zero_le _), HP⟩
  case round =>
    obtain ⟨k, m, hk, rfl, rfl, hm, hR⟩ := hrel
    clear HP
    by_cases hlt : k < s.size
    · have hc := hd.out s[k] (by rw [show s[k] = s.data.toList[k]'(by simpa using hlt) from rfl]; exact List.getElem_mem _)
      have hb : 48 ≤ s[k].toNat ∧ s[k].toNat ≤ 57 := by unfold isDig at hc; simpa using hc
      have hcons := drop_cons s k hlt
      obtain ⟨D, hDe⟩ : ∃ D, s[k].toNat - 48 = D := ⟨_, rfl⟩
      have hD9 : D ≤ 9 := by omega
      have hDm : ((s[k].toNat : Int) - 48) % 256 = (D : Int) := by omega
      by_cases hf : 1844674407370955161 < m ∨ m = 1844674407370955161 ∧ 5 < D
      · have hr := pM_far (l := s.data.toList.drop (k + 1)) hc (by rw [hDe]; exact hf)
        rw [← hcons, hR.out] at hr
        have HR := Lib.hid hr
        clear hr hcons hc hR hm hDe hb
        by_cases h1 : 1844674407370955161 < m
        · have d1 : decide (1844674407370955161 < (m : Int)) = true := by simp; omega
          go_wp2
          go_ret2
          exact ⟨HEnd.out _ (Or.inr ⟨by rw [HR.out]; simp, rfl⟩), rfl⟩
        · have h2 : m = 1844674407370955161 ∧ 5 < D := by omega
          have d1 : decide (1844674407370955161 < (m : Int)) = false := by simp; omega
          have d2 : ((m : Int) == 1844674407370955161) = true := by simp; omega
          have d3 : (5 : Int) < (D : Int) := by omega
          clear hf h1 h2
          go_wp2
          go_ret2
          exact ⟨HEnd.out _ (Or.inr ⟨by rw [HR.out]; simp, rfl⟩), rfl⟩
      · have hpn := pM_near (l := s.data.toList.drop (k + 1)) hc (by rw [hDe]; exact hf)
        rw [hDe] at hpn
        obtain ⟨hr, hle⟩ := hpn
        rw [← hcons, hR.out] at hr
        have HR := Lib.hid hr.symm
        have HL := Lib.hid hle
        clear hr hcons hc hR hm hle hDe hb
        have w1 : IntKind.u64.wrap (10 * (m : Int)) = 10 * (m : Int) := by simp [IntKind.wrap, IntKind.signed, IntKind.bits]; omega
        have w2 : IntKind.u64.wrap (10 * (m : Int) + (D : Int)) = ((10 * m + D : Nat) : Int) := by simp [IntKind.wrap, IntKind.signed, IntKind.bits]; omega
        have d1 : decide (1844674407370955161 < (m : Int)) = false := by simp; omega
        by_cases h2 : m = 1844674407370955161
        · have d2 : ((m : Int) == 1844674407370955161) = true := by simp; omega
          have d3 : ¬ (5 : Int) < (D : Int) := by omega
          clear hf h2
          go_wp2
          go_round
          case rel => exact ⟨k + 1, 10 * m + D, by omega, by go_num, by go_num, HL, HR⟩
          case measure => simp [intOf]; omega
        · have d2 : ((m : Int) == 1844674407370955161) = false := by simp; omega
          clear hf h2
          go_wp2
          go_round
          case rel => exact ⟨k + 1, 10 * m + D, by omega, by go_num, by go_num, HL, HR⟩
          case measure => simp [intOf]; omega
    · have hr := hR.out
      rw [drop_end s k (by omega), pM_nil] at hr
      have HR := Lib.hid hr.symm
      clear hr hR hm
      go_wp2
      go_ret2
      exact ⟨HEnd.out _ (Or.inl ⟨_, HR.out, rfl⟩), rfl⟩

/-! ### Width -/
theorem width_short {s : ByteArray} (h : s.size < 2 ∨ 3 < s.size) : widthOf s.data.toList = 0 := by
  have hl : s.data.toList.length = s.size := rfl
  match e : s.data.toList with
  | [] => rfl
  | [_] => rfl
  | [_, _] => rw [e] at hl; simp at hl; omega
  | [_, _, _] => rw [e] at hl; simp at hl; omega
  | _ :: _ :: _ :: _ :: _ => rfl
theorem list_two (s : ByteArray) (h : s.size = 2) : s.data.toList = [s[0], s[1]] := by
  have h1 := drop_cons s 0 (by omega)
  have h2 := drop_cons s 1 (by omega)
  have h3 := drop_end s 2 (by omega)
  rw [List.drop_zero] at h1
  rw [h1, h2, h3]
theorem list_three (s : ByteArray) (h : s.size = 3) : s.data.toList = [s[0], s[1], s[2]] := by
  have h1 := drop_cons s 0 (by omega)
  have h2 := drop_cons s 1 (by omega)
  have h3 := drop_cons s 2 (by omega)
  have h4 := drop_end s 3 (by omega)
  rw [List.drop_zero] at h1
  rw [h1, h2, h3, h4]
theorem dig_bounds {b : UInt8} : isDig b = true ↔ 48 ≤ b.toNat ∧ b.toNat ≤ 57 := by unfold isDig; simp
theorem width_two (u a : UInt8) : widthOf [u, a] = if u.toNat = 117 ∧ 49 ≤ a.toNat ∧ a.toNat ≤ 57 then a.toNat - 48 else 0 := by simp [widthOf, and_assoc]
theorem width_three (u a b : UInt8) : widthOf [u, a, b] = if u.toNat = 117 ∧ 49 ≤ a.toNat ∧ a.toNat ≤ 57 ∧ 48 ≤ b.toNat ∧ b.toNat ≤ 57 ∧ 10 * (a.toNat - 48) + (b.toNat - 48) ≤ 64 then 10 * (a.toNat - 48) + (b.toNat - 48) else 0 := by simp [widthOf, and_assoc]
/-- What the loop has read so far. -/
def WidthAt (s : ByteArray) (k n : Nat) : Prop := (k = 1 ∧ n = 0) ∨ (∃ h : 1 < s.size, k = 2 ∧ isDig s[1] = true ∧ n = s[1].toNat - 48) ∨ (∃ h : 2 < s.size, k = 3 ∧ isDig s[1] = true ∧ isDig s[2] = true ∧ n = 10 * (s[1].toNat - 48) + (s[2].toNat - 48))
theorem WidthAt.small {s : ByteArray} {k n : Nat} (h : WidthAt s k n) : n ≤ 99 ∧ (k ≤ 2 → n ≤ 9) := by
  rcases h with ⟨_, rfl⟩ | ⟨h, rfl, h1, rfl⟩ | ⟨h, rfl, h1, h2, rfl⟩
  · omega
  · have := dig_bounds.1 h1; omega
  · have := dig_bounds.1 h1; have := dig_bounds.1 h2; omega
theorem WidthAt.more {s : ByteArray} {k n : Nat} (h : WidthAt s k n) (hs : s.size ≤ 3) (hk : k < s.size) (hd : isDig s[k] = true) : WidthAt s (k + 1) (10 * n + (s[k].toNat - 48)) := by
  rcases h with ⟨rfl, rfl⟩ | ⟨h, rfl, h1, rfl⟩ | ⟨h, rfl, h1, h2, rfl⟩
  · exact Or.inr (Or.inl ⟨hk, rfl, hd, by omega⟩)
  · exact Or.inr (Or.inr ⟨hk, rfl, h1, hd, rfl⟩)
  · omega
theorem WidthAt.bad {s : ByteArray} {k n : Nat} (h : WidthAt s k n) (h2 : 2 ≤ s.size) (hs : s.size ≤ 3) (hk : k < s.size) (hd : isDig s[k] = false) : widthOf s.data.toList = 0 := by
  have hnd : ¬ (48 ≤ s[k].toNat ∧ s[k].toNat ≤ 57) := fun h => by rw [dig_bounds.2 h] at hd; cases hd
  by_cases e : s.size = 2
  · rw [list_two s e]
    rcases h with ⟨rfl, rfl⟩ | ⟨h, rfl, h1, rfl⟩ | ⟨h, rfl, h1, h2, rfl⟩
    · rw [width_two, if_neg (by omega)]
    · omega
    · omega
  · have e3 : s.size = 3 := by omega
    rw [list_three s e3]
    rcases h with ⟨rfl, rfl⟩ | ⟨h, rfl, h1, rfl⟩ | ⟨h, rfl, h1, h2, rfl⟩
    · rw [width_three, if_neg (by omega)]
    · rw [width_three, if_neg (by omega)]
    · omega
theorem WidthAt.done {s : ByteArray} {k n : Nat} (h : WidthAt s k n) (h2 : 2 ≤ s.size) (hk : k = s.size) (hu : (s[0]'(by omega)).toNat = 117) (h0 : (s[1]'(by omega)).toNat ≠ 48) : widthOf s.data.toList = if n ≤ 64 then n else 0 := by
  rcases h with ⟨rfl, rfl⟩ | ⟨h, rfl, h1, rfl⟩ | ⟨h, rfl, h1, h2, rfl⟩
  · omega
  · rw [list_two s hk.symm]
    have := dig_bounds.1 h1
    rw [width_two, if_pos (by omega), if_pos (by omega)]
  · rw [list_three s hk.symm]
    have b1 := dig_bounds.1 h1
    have b2 := dig_bounds.1 h2
    by_cases hn : 10 * (s[1].toNat - 48) + (s[2].toNat - 48) ≤ 64
    · rw [width_three, if_pos (by omega), if_pos hn]
    · rw [width_three, if_neg (by omega), if_neg hn]
theorem width_not {s : ByteArray} (h2 : 2 ≤ s.size) (hs : s.size ≤ 3) (hn : (s[0]'(by omega)).toNat ≠ 117 ∨ (s[1]'(by omega)).toNat = 48) : widthOf s.data.toList = 0 := by
  by_cases e : s.size = 2
  · rw [list_two s e]
    rw [width_two, if_neg (by omega)]
  · rw [list_three s (by omega)]
    rw [width_three, if_neg (by omega)]

set_option maxRecDepth 100000 in
set_option maxHeartbeats 1600000 in
theorem widthR_any (s : ByteArray) (N : Nat) (w : World) (hs : s.size ≤ 100000) (hN : Hid (widthOf s.data.toList = N)) :
    Calls Tryd.prog 47 #[.string s] w fun e w' => e = .returned (.int .i64 N) ∧ w = w' := by
  by_cases hz : s.size < 2 ∨ 3 < s.size
  · have HN : Hid (0 = N) := Lib.hid (by rw [← hN.out, width_short hz])
    clear hN
    rcases hz with hz | hz
    · go_enter Tryd.func47, Tryd.ntmps47
      go_wp2
      go_ret
      exact ⟨ret_int (by have := HN.out; omega), rfl⟩
    · have hz' : ¬ s.size < 2 := by omega
      go_enter Tryd.func47, Tryd.ntmps47
      go_wp2
      go_ret
      exact ⟨ret_int (by have := HN.out; omega), rfl⟩
  · have z2 : 2 ≤ s.size := by omega
    have z3 : s.size ≤ 3 := by omega
    have z0 : 0 < s.size := by omega
    have z1 : 1 < s.size := by omega
    clear hz
    by_cases hn : s[0].toNat ≠ 117 ∨ s[1].toNat = 48
    · have HN : Hid (0 = N) := Lib.hid (by rw [← hN.out, width_not z2 z3 hn])
      clear hN
      by_cases h117 : s[0].toNat = 117
      · have h48 : s[1].toNat = 48 := by omega
        have b1 : ((s[0].toNat : Int) != 117) = false := by simp; omega
        have b2 : ((s[1].toNat : Int) == 48) = true := by simp; omega
        clear hn h117 h48
        go_enter Tryd.func47, Tryd.ntmps47
        go_wp2
        go_ret
        exact ⟨ret_int (by have := HN.out; omega), rfl⟩
      · have b1 : ((s[0].toNat : Int) != 117) = true := by simp; omega
        clear hn h117
        go_enter Tryd.func47, Tryd.ntmps47
        go_wp2
        go_ret
        exact ⟨ret_int (by have := HN.out; omega), rfl⟩
    · have h117 : s[0].toNat = 117 := by omega
      have h48 : s[1].toNat ≠ 48 := by omega
      have H1 := Lib.hid h117
      have H4 := Lib.hid h48
      have b1 : ((s[0].toNat : Int) != 117) = false := by simp; omega
      have b2 : ((s[1].toNat : Int) == 48) = false := by simp; omega
      clear hn h117 h48
      go_enter Tryd.func47, Tryd.ntmps47
      go_wp2
      go_loop [3, 4] (fun n i => ∃ k m : Nat, 1 ≤ k ∧ k ≤ s.size ∧ i = .int .i64 k ∧ n = .int .i64 m ∧ Hid (WidthAt s k m)) (fun _ i => s.size - (intOf i).toNat)
      case atStart => exact ⟨1, 0, by omega, by omega, rfl, rfl, Lib.hid (Or.inl ⟨rfl, rfl⟩)⟩
      case round =>
        obtain ⟨k, m, hk1, hk, rfl, rfl, hW⟩ := hrel
        clear b1 b2
        have hm := hW.out.small
        by_cases hlt : k < s.size
        · have hm9 : m ≤ 9 := hm.2 (by omega)
          by_cases hD : isDig s[k] = true
          · have hb := dig_bounds.1 hD
            obtain ⟨D, hDe⟩ : ∃ D, s[k].toNat - 48 = D := ⟨_, rfl⟩
            have hD9 : D ≤ 9 := by omega
            have hDm : ((s[k].toNat : Int) - 48) % 256 = (D : Int) := by omega
            have HM : Hid (WidthAt s (k + 1) (10 * m + D)) := Lib.hid (by rw [← hDe]; exact hW.out.more z3 hlt hD)
            have HD := Lib.hid hD
            clear hm hb hDe hW hD
            go_wp2_with (go_at_call 31; refine (digit_any _ _).mono ?_; rintro e w' ⟨rfl, rfl⟩; rw [HD.out])
            go_round
            case rel => exact ⟨k + 1, 10 * m + D, by omega, by omega, by go_num, by go_num, HM⟩
            case measure => simp [intOf]; omega
          · have hD2 := (Bool.not_eq_true _).mp hD
            have HN : Hid (0 = N) := Lib.hid (by rw [← hN.out, hW.out.bad z2 z3 hlt hD2])
            have HD := Lib.hid hD2
            clear hm hW hD hD2 hN
            go_wp2_with (go_at_call 31; refine (digit_any _ _).mono ?_; rintro e w' ⟨rfl, rfl⟩; rw [HD.out])
            go_ret
            exact ⟨ret_int (by have := HN.out; omega), rfl⟩
        · have hd := hW.out.done z2 (by omega) H1.out H4.out
          rw [hN.out] at hd
          by_cases h64 : m ≤ 64
          · rw [if_pos h64] at hd
            have HN := Lib.hid hd
            clear hd hm hW hN
            go_wp2
            go_ret
            exact ⟨ret_int (by have := HN.out; omega), rfl⟩
          · rw [if_neg h64] at hd
            have HN := Lib.hid hd
            clear hd hm hW hN
            go_wp2
            go_ret
            exact ⟨ret_int (by have := HN.out; omega), rfl⟩

/-! ### Token -/
def TokPost (_s : ByteArray) (at_ : Nat) (w : World) (k : Nat) (t : List UInt8) (n er : Nat) (e : Ending) (w' : World) : Prop :=
  e = .returned (.tuple #[.agg #[.int .i64 k, .string ⟨t.toArray⟩, .int .u64 n, .int .i64 ((if er = 0 then at_ else 0 : Nat) : Int)], .int .i64 er]) ∧ Below w.heap.size w w'
theorem tok_ret (s : ByteArray) (at_ : Nat) (w w' : World) (k : Nat) (t : List UInt8) (n er o : Nat) (T : ByteArray) (hT : T = ⟨t.toArray⟩) (ho : o = if er = 0 then at_ else 0) (hb : Below w.heap.size w w') :
    TokPost s at_ w k t n er (.returned (.tuple #[.agg #[.int .i64 k, .string T, .int .u64 n, .int .i64 o], .int .i64 er])) w' := by
  subst hT ho; exact ⟨rfl, hb⟩

set_option maxRecDepth 100000 in
set_option maxHeartbeats 1600000 in
theorem tokR_word (s : ByteArray) (at_ : Nat) (k : Nat) (t : List UInt8) (n er : Nat) (h0 : 0 < s.size) (hs : s.size ≤ 100000) (_ha : at_ ≤ 100000) (hl : Hid (isLet s[0] = true)) (h : Hid (readT s.data.toList = ((k, t, n), er))) (w : World) :
    Calls Tryd.prog 27 #[.string s, .int .i64 at_] w (TokPost s at_ w k t n er) := by
  have e0 := drop_cons s 0 h0
  rw [List.drop_zero] at e0
  have hlen : s.data.toList.length = s.size := rfl
  have h' := h.out
  rw [e0, readT, if_pos hl.out, ← e0] at h'
  obtain ⟨N, hN⟩ : ∃ N, widthOf s.data.toList = N := ⟨_, rfl⟩
  rw [hN] at h'
  have HN := Lib.hid hN
  have hN64 : N ≤ 64 := by
    by_cases hz : N = 0
    · omega
    · exact (width_is hN hz).2.1
  clear e0 hN h
  by_cases hz : N ≠ 0
  · rw [if_pos hz] at h'
    simp only [Prod.mk.injEq] at h'
    obtain ⟨⟨rfl, rfl, rfl⟩, rfl⟩ := h'
    have hz1 : 0 < (N : Int) := by omega
    have hF := tok_ret s at_ w
    have HF := Lib.hid hF
    clear hF hz
    go_enter Tryd.func27, Tryd.ntmps27
    go_wp2_with (first | (go_at_call 30; refine (letter_any _ _).mono ?_; rintro e w' ⟨rfl, rfl⟩; rw [hl.out]) | (go_at_call 47; refine (widthR_any s N _ hs HN).mono ?_; rintro e w' ⟨rfl, rfl⟩))
    refine bodyPost_ret (v := .tuple #[.agg #[.int .i64 3, .string ⟨#[]⟩, .int .u64 N, .int .i64 at_], .int .i64 0]) (by simp [results, Tryd.results27, go_sem]) rfl (HF.out _ 3 [] N 0 at_ _ rfl rfl ?_)
    (repeat (first | exact Below.refl _ _ | refine Below.setCell ?_ (by simp) _ | refine Below.alloc ?_ (by simp) _))
  · have hz1 : ¬ 0 < (N : Int) := by omega
    rw [if_neg hz] at h'
    by_cases h12 : 12 < s.size
    · rw [if_pos (by rw [hlen]; exact h12)] at h'
      simp only [Prod.mk.injEq] at h'
      obtain ⟨⟨rfl, rfl, rfl⟩, rfl⟩ := h'
      have HF := Lib.hid (tok_ret s at_ w)
      clear hz
      go_enter Tryd.func27, Tryd.ntmps27
      go_wp2_with (first | (go_at_call 30; refine (letter_any _ _).mono ?_; rintro e w' ⟨rfl, rfl⟩; rw [hl.out]) | (go_at_call 47; refine (widthR_any s N _ hs HN).mono ?_; rintro e w' ⟨rfl, rfl⟩))
      refine bodyPost_ret (v := .tuple #[.agg #[.int .i64 0, .string ⟨#[]⟩, .int .u64 0, .int .i64 0], .int .i64 3]) (by simp [results, Tryd.results27, go_sem]) rfl (HF.out _ 0 [] 0 3 0 _ rfl rfl ?_)
      (repeat (first | exact Below.refl _ _ | refine Below.setCell ?_ (by simp) _ | refine Below.alloc ?_ (by simp) _))
    · rw [if_neg (by rw [hlen]; exact h12)] at h'
      simp only [Prod.mk.injEq] at h'
      obtain ⟨⟨rfl, rfl, rfl⟩, rfl⟩ := h'
      have HF := Lib.hid (tok_ret s at_ w)
      clear hz
      go_enter Tryd.func27, Tryd.ntmps27
      go_wp2_with (first | (go_at_call 30; refine (letter_any _ _).mono ?_; rintro e w' ⟨rfl, rfl⟩; rw [hl.out]) | (go_at_call 47; refine (widthR_any s N _ hs HN).mono ?_; rintro e w' ⟨rfl, rfl⟩))
      refine bodyPost_ret (v := .tuple #[.agg #[.int .i64 1, .string s, .int .u64 0, .int .i64 at_], .int .i64 0]) (by simp [results, Tryd.results27, go_sem]) rfl (HF.out _ 1 s.data.toList 0 0 at_ s rfl rfl ?_)
      (repeat (first | exact Below.refl _ _ | refine Below.setCell ?_ (by simp) _ | refine Below.alloc ?_ (by simp) _))

set_option maxRecDepth 100000 in
set_option maxHeartbeats 1600000 in
theorem tokR_sign (s : ByteArray) (at_ : Nat) (h0 : 0 < s.size) (_ha : at_ ≤ 100000) (hl : Hid (isLet s[0] = false)) (hd : Hid (isDig s[0] = false)) (w : World) :
    Calls Tryd.prog 27 #[.string s, .int .i64 at_] w (TokPost s at_ w 4 s.data.toList 0 0) := by
  have HF := Lib.hid (tok_ret s at_ w)
  go_enter Tryd.func27, Tryd.ntmps27
  go_wp2_with (first | (go_at_call 30; refine (letter_any _ _).mono ?_; rintro e w' ⟨rfl, rfl⟩; rw [hl.out]) | (go_at_call 31; refine (digit_any _ _).mono ?_; rintro e w' ⟨rfl, rfl⟩; rw [hd.out]))
  refine bodyPost_ret (v := .tuple #[.agg #[.int .i64 4, .string s, .int .u64 0, .int .i64 at_], .int .i64 0]) (by simp [results, Tryd.results27, go_sem]) rfl (HF.out _ 4 s.data.toList 0 0 at_ s rfl rfl ?_)
  (repeat (first | exact Below.refl _ _ | refine Below.setCell ?_ (by simp) _ | refine Below.alloc ?_ (by simp) _))

set_option maxRecDepth 100000 in
set_option maxHeartbeats 1600000 in
theorem tokR_zero (s : ByteArray) (at_ : Nat) (h0 : 0 < s.size) (h1 : 1 < s.size) (hs : s.size ≤ 100000) (_ha : at_ ≤ 100000) (hl : Hid (isLet s[0] = false)) (hd : Hid (isDig s[0] = true)) (h48 : s[0].toNat = 48) (w : World) :
    Calls Tryd.prog 27 #[.string s, .int .i64 at_] w (TokPost s at_ w 0 [] 0 10) := by
  have HF := Lib.hid (tok_ret s at_ w)
  have b1 : ((s[0].toNat : Int) == 48) = true := by simp; omega
  clear h48
  go_enter Tryd.func27, Tryd.ntmps27
  go_wp2_with (first | (go_at_call 30; refine (letter_any _ _).mono ?_; rintro e w' ⟨rfl, rfl⟩; rw [hl.out]) | (go_at_call 31; refine (digit_any _ _).mono ?_; rintro e w' ⟨rfl, rfl⟩; rw [hd.out]))
  refine bodyPost_ret (v := .tuple #[.agg #[.int .i64 0, .string ⟨#[]⟩, .int .u64 0, .int .i64 0], .int .i64 10]) (by simp [results, Tryd.results27, go_sem]) rfl (HF.out _ 0 [] 0 10 0 _ rfl rfl ?_)
  (repeat (first | exact Below.refl _ _ | refine Below.setCell ?_ (by simp) _ | refine Below.alloc ?_ (by simp) _))

set_option maxRecDepth 100000 in
set_option maxHeartbeats 1600000 in
theorem tokR_num (s : ByteArray) (at_ : Nat) (n : Nat) (h0 : 0 < s.size) (hs : s.size ≤ 100000) (_ha : at_ ≤ 100000) (hl : Hid (isLet s[0] = false)) (hd : Hid (isDig s[0] = true)) (hall : Hid (∀ b ∈ s.data.toList, isDig b = true)) (h48 : s.size ≤ 1 ∨ s[0].toNat ≠ 48) (hp : Hid (Lib.parseUintB 64 s.data.toList = .ok n)) (w : World) :
    Calls Tryd.prog 27 #[.string s, .int .i64 at_] w (TokPost s at_ w 2 [] n 0) := by
  have HF := Lib.hid (tok_ret s at_ w)
  have hnum : ∀ w, Calls Tryd.prog 48 #[.string s] w fun e w' => e = .returned (.tuple #[.int .u64 n, .bool true]) ∧ w = w' := fun w => (number_any s w h0 hs hall).mono fun e w' ⟨h1, h2⟩ => ⟨by
    rcases h1 with ⟨u, e1, e2⟩ | ⟨e1, _⟩
    · rw [hp.out] at e1; cases e1; exact e2
    · exact absurd hp.out (e1 n), h2⟩
  have HNum := Lib.hid hnum
  clear hnum hp hall
  by_cases h1 : 1 < s.size
  · have b1 : ((s[0].toNat : Int) == 48) = false := by simp; omega
    clear h48
    go_enter Tryd.func27, Tryd.ntmps27
    go_wp2_with (first | (go_at_call 30; refine (letter_any _ _).mono ?_; rintro e w' ⟨rfl, rfl⟩; rw [hl.out]) | (go_at_call 31; refine (digit_any _ _).mono ?_; rintro e w' ⟨rfl, rfl⟩; rw [hd.out]) | (go_at_call 48; refine (HNum.out _).mono ?_; rintro e w' ⟨rfl, rfl⟩))
    refine bodyPost_ret (v := .tuple #[.agg #[.int .i64 2, .string ⟨#[]⟩, .int .u64 n, .int .i64 at_], .int .i64 0]) (by simp [results, Tryd.results27, go_sem]) rfl (HF.out _ 2 [] n 0 at_ _ rfl rfl ?_)
    (repeat (first | exact Below.refl _ _ | refine Below.setCell ?_ (by simp) _ | refine Below.alloc ?_ (by simp) _))
  · clear h48
    go_enter Tryd.func27, Tryd.ntmps27
    go_wp2_with (first | (go_at_call 30; refine (letter_any _ _).mono ?_; rintro e w' ⟨rfl, rfl⟩; rw [hl.out]) | (go_at_call 31; refine (digit_any _ _).mono ?_; rintro e w' ⟨rfl, rfl⟩; rw [hd.out]) | (go_at_call 48; refine (HNum.out _).mono ?_; rintro e w' ⟨rfl, rfl⟩))
    refine bodyPost_ret (v := .tuple #[.agg #[.int .i64 2, .string ⟨#[]⟩, .int .u64 n, .int .i64 at_], .int .i64 0]) (by simp [results, Tryd.results27, go_sem]) rfl (HF.out _ 2 [] n 0 at_ _ rfl rfl ?_)
    (repeat (first | exact Below.refl _ _ | refine Below.setCell ?_ (by simp) _ | refine Below.alloc ?_ (by simp) _))

set_option maxRecDepth 100000 in
set_option maxHeartbeats 1600000 in
theorem tokR_far (s : ByteArray) (at_ : Nat) (h0 : 0 < s.size) (hs : s.size ≤ 100000) (_ha : at_ ≤ 100000) (hl : Hid (isLet s[0] = false)) (hd : Hid (isDig s[0] = true)) (hall : Hid (∀ b ∈ s.data.toList, isDig b = true)) (h48 : s.size ≤ 1 ∨ s[0].toNat ≠ 48) (hp : Hid (∀ n, Lib.parseUintB 64 s.data.toList ≠ .ok n)) (w : World) :
    Calls Tryd.prog 27 #[.string s, .int .i64 at_] w (TokPost s at_ w 0 [] 0 3) := by
  have HF := Lib.hid (tok_ret s at_ w)
  have hnum : ∀ w, Calls Tryd.prog 48 #[.string s] w fun e w' => e = .returned (.tuple #[.int .u64 0, .bool false]) ∧ w = w' := fun w => (number_any s w h0 hs hall).mono fun e w' ⟨h1, h2⟩ => ⟨by
    rcases h1 with ⟨u, e1, e2⟩ | ⟨_, e2⟩
    · exact absurd e1 (hp.out u)
    · exact e2, h2⟩
  have HNum := Lib.hid hnum
  clear hnum hp hall
  by_cases h1 : 1 < s.size
  · have b1 : ((s[0].toNat : Int) == 48) = false := by simp; omega
    clear h48
    go_enter Tryd.func27, Tryd.ntmps27
    go_wp2_with (first | (go_at_call 30; refine (letter_any _ _).mono ?_; rintro e w' ⟨rfl, rfl⟩; rw [hl.out]) | (go_at_call 31; refine (digit_any _ _).mono ?_; rintro e w' ⟨rfl, rfl⟩; rw [hd.out]) | (go_at_call 48; refine (HNum.out _).mono ?_; rintro e w' ⟨rfl, rfl⟩))
    refine bodyPost_ret (v := .tuple #[.agg #[.int .i64 0, .string ⟨#[]⟩, .int .u64 0, .int .i64 0], .int .i64 3]) (by simp [results, Tryd.results27, go_sem]) rfl (HF.out _ 0 [] 0 3 0 _ rfl rfl ?_)
    (repeat (first | exact Below.refl _ _ | refine Below.setCell ?_ (by simp) _ | refine Below.alloc ?_ (by simp) _))
  · clear h48
    go_enter Tryd.func27, Tryd.ntmps27
    go_wp2_with (first | (go_at_call 30; refine (letter_any _ _).mono ?_; rintro e w' ⟨rfl, rfl⟩; rw [hl.out]) | (go_at_call 31; refine (digit_any _ _).mono ?_; rintro e w' ⟨rfl, rfl⟩; rw [hd.out]) | (go_at_call 48; refine (HNum.out _).mono ?_; rintro e w' ⟨rfl, rfl⟩))
    refine bodyPost_ret (v := .tuple #[.agg #[.int .i64 0, .string ⟨#[]⟩, .int .u64 0, .int .i64 0], .int .i64 3]) (by simp [results, Tryd.results27, go_sem]) rfl (HF.out _ 0 [] 0 3 0 _ rfl rfl ?_)
    (repeat (first | exact Below.refl _ _ | refine Below.setCell ?_ (by simp) _ | refine Below.alloc ?_ (by simp) _))

theorem tokR_any (s : ByteArray) (at_ : Nat) (k : Nat) (t : List UInt8) (n er : Nat) (h0 : 0 < s.size) (hs : s.size ≤ 100000) (ha : at_ ≤ 100000) (h : Hid (readT s.data.toList = ((k, t, n), er)))
    (hall : isLet s[0] = false → isDig s[0] = true → ∀ b ∈ s.data.toList, isDig b = true) (w : World) :
    Calls Tryd.prog 27 #[.string s, .int .i64 at_] w (TokPost s at_ w k t n er) := by
  cases hl : isLet s[0]
  · have e := drop_cons s 0 h0
    rw [List.drop_zero] at e
    have h' := h.out
    cases hd : isDig s[0]
    · rw [e, readT, if_neg (by simp [hl]), if_neg (by simp [hd]), ← e] at h'
      simp only [Prod.mk.injEq] at h'
      obtain ⟨⟨rfl, rfl, rfl⟩, rfl⟩ := h'
      exact tokR_sign s at_ h0 ha (Lib.hid hl) (Lib.hid hd) w
    · have hlen : (s.data.toList.drop (0 + 1)).length = s.size - 1 := by
        have : s.data.toList.length = s.size := rfl
        rw [List.length_drop, this]
      have hne : s.data.toList.drop (0 + 1) ≠ [] ↔ 1 < s.size := by
        rw [← List.length_pos_iff, hlen]; omega
      have hal := Lib.hid (hall hl hd)
      by_cases hz : s.data.toList.drop (0 + 1) ≠ [] ∧ s[0].toNat = 48
      · rw [e, readT, if_neg (by simp [hl]), if_pos hd, if_pos hz] at h'
        simp only [Prod.mk.injEq] at h'
        obtain ⟨⟨rfl, rfl, rfl⟩, rfl⟩ := h'
        exact tokR_zero s at_ h0 (hne.1 hz.1) hs ha (Lib.hid hl) (Lib.hid hd) hz.2 w
      · have h48 : s.size ≤ 1 ∨ s[0].toNat ≠ 48 := by
          by_cases h1 : 1 < s.size
          · exact Or.inr fun h => hz ⟨hne.2 h1, h⟩
          · exact Or.inl (by omega)
        rw [e, readT, if_neg (by simp [hl]), if_pos hd, if_neg hz, ← e] at h'
        cases hp : Lib.parseUintB 64 s.data.toList with
        | ok u =>
          rw [hp] at h'
          simp only [Prod.mk.injEq] at h'
          obtain ⟨⟨rfl, rfl, rfl⟩, rfl⟩ := h'
          exact tokR_num s at_ _ h0 hs ha (Lib.hid hl) (Lib.hid hd) hal h48 (Lib.hid hp) w
        | range =>
          rw [hp] at h'
          simp only [Prod.mk.injEq] at h'
          obtain ⟨⟨rfl, rfl, rfl⟩, rfl⟩ := h'
          exact tokR_far s at_ h0 hs ha (Lib.hid hl) (Lib.hid hd) hal h48 (Lib.hid (by rw [hp]; simp)) w
        | _ =>
          rw [hp] at h'
          simp only [Prod.mk.injEq] at h'
          obtain ⟨⟨rfl, rfl, rfl⟩, rfl⟩ := h'
          exact tokR_far s at_ h0 hs ha (Lib.hid hl) (Lib.hid hd) hal h48 (Lib.hid (by rw [hp]; simp)) w
  · exact tokR_word s at_ k t n er h0 hs ha (Lib.hid hl) h w
end Go.Proofs.YtnanfedggmkboaaDoor
