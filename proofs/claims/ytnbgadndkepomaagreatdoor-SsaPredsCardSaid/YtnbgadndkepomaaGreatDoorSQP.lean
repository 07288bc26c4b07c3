/- Joined texts: SaRn, SaRv8, SaRv5. -/
import Derived.Test.YtnbgadndkepomaaGreatDoorSQO
import Derived.IntWalk

namespace Go.Proofs.YtnbgadndkepomaaGreatDoor
open Go.RowKit

/-- The place of a text in a list, or -1. -/
def inQ : List Str → Str → Nat → Int
  | [], _, _ => -1
  | a :: r, s, k => if a = s then (k : Int) else inQ r s (k + 1)
theorem inQ_neg : ∀ (l : List Str) (s : Str) (k : Nat), decide (inQ l s k < 0) = !(l.contains s)
  | [], s, k => rfl
  | a :: r, s, k => by
    unfold inQ
    by_cases h : a = s
    · rw [if_pos h, h]; simp
    · rw [if_neg h, inQ_neg r s (k + 1)]
      have : (s == a) = false := by simpa using fun e => h e.symm
      rw [List.contains_cons, this]; rfl
theorem inQ_le : ∀ (l : List Str) (s : Str) (k : Nat), -1 ≤ inQ l s k ∧ inQ l s k ≤ (k : Int) + l.length
  | [], s, k => by simp [inQ]
  | a :: r, s, k => by
    have := inQ_le r s (k + 1)
    unfold inQ
    split
    · simp; omega
    · simp at this ⊢; omega
set_option maxRecDepth 100000 in
set_option maxHeartbeats 1600000 in
theorem in_any (l : List Str) (s : ByteArray) (A : Option Addr) (c : Nat) (w : World) (hl : l.length ≤ 100000) (hr : SRow w A l) :
    Calls Tryz.prog 58 #[.slice A l.length c, .string s] w fun e w' => e = .returned (.int .i64 (inQ l s.data.toList 0)) ∧ w = w' := by
  obtain ⟨R, hR⟩ : ∃ R, Hid (inQ l s.data.toList 0 = R) := ⟨_, Lib.hid rfl⟩
  rw [hR.out]
  have hs := Lib.hid hr
  clear hr
  go_enter Tryz.func58, Tryz.ntmps58
  go_wp2_with fail
  go_loop [5] (fun v => ∃ i : Nat, i ≤ l.length ∧ v = .int .i64 i ∧ Hid (inQ (l.drop i) s.data.toList i = R)) (fun v => l.length - (intOf v).toNat)
  case atStart => exact ⟨0, Nat.zero_le _, rfl, hR⟩
  case round =>
    obtain ⟨i, hi, rfl, hI⟩ := hrel
    by_cases hlt : i < l.length
    · obtain ⟨ga, oa, rfl, hcell⟩ := hs.out i hlt
      have hdr : l.drop i = l[i] :: l.drop (i + 1) := List.drop_eq_getElem_cons hlt
      have hb : ((⟨l[i].toArray⟩ : ByteArray).toList == s.toList) = decide (l[i] = s.data.toList) := by
        rw [ByteArray.toList_eq, ByteArray.toList_eq, Bool.eq_iff_iff]; simp
      by_cases he : l[i] = s.data.toList
      · have hQ : Hid (R = (i : Int)) := Lib.hid (by rw [← hI.out, hdr, inQ, if_pos he])
        have hb2 : ((⟨l[i].toArray⟩ : ByteArray).toList == s.toList) = true := by rw [hb]; simpa using he
        clear hb he hI hdr hR hs
        generalize (⟨l[i].toArray⟩ : ByteArray) = T at *
        go_wp2
        go_ret
        exact ⟨by rw [hQ.out]; rfl, rfl⟩
      · have hQ : Hid (inQ (l.drop (i + 1)) s.data.toList (i + 1) = R) := Lib.hid (by rw [← hI.out, hdr, inQ, if_neg he])
        have hb2 : ((⟨l[i].toArray⟩ : ByteArray).toList == s.toList) = false := by rw [hb]; simpa using he
        clear hb he hI hdr hR
        generalize (⟨l[i].toArray⟩ : ByteArray) = T at *
        go_wp2_with fail
        go_round
        case rel => exact ⟨i + 1, hlt, by go_num, hQ⟩
        case measure => simp [intOf]; omega
    · have hie : i = l.length := by omega
      subst hie
      have hQ : Hid (R = -1) := Lib.hid (by rw [← hI.out, List.drop_length]; rfl)
      clear hI hR hs
      go_wp2
      go_ret
      exact ⟨by rw [hQ.out]; rfl, rfl⟩
def keysA : Array Value := (keyWords.map fun k => Value.string ⟨k.toArray⟩).toArray
set_option maxRecDepth 100000 in
set_option maxHeartbeats 1600000 in
theorem keys_any (w : World) : Calls Tryz.prog 108 #[] w fun e w' => ∃ A, e = .returned (.slice A 19 19) ∧ SRow w' A keyWords ∧ Below w.heap.size w w' := by
  go_enter Tryz.func108, Tryz.ntmps108
  go_wp2
  go_ret
  refine ⟨some ⟨w.heap.size, 0, none⟩, rfl, ?_, (Below.refl _ _).alloc (Nat.le_refl _) _⟩
  intro i hi
  refine ⟨w.heap.size, 0, rfl, ?_⟩
  have N := Box.new w 9 keysA
  have h2 := N.cell i
  have hk : keysA[i]? = some (Value.string ⟨keyWords[i].toArray⟩) := by
    unfold keysA
    simp [List.getElem?_eq_getElem hi]
  rw [hk] at h2
  rw [Nat.zero_add]
  exact h2
/-! ### Types -/
/-- What the digits of a type are so far. -/
def tyN (a b : UInt8) : Nat → Nat
  | 0 => 0
  | 1 => 0
  | 2 => a.toNat - 48
  | _ => 10 * (a.toNat - 48) + (b.toNat - 48)
theorem sub48 {c : UInt8} (h1 : 48 ≤ c.toNat) : ((c.toNat : Int) - 48) % 256 = ((c.toNat - 48 : Nat) : Int) := by
  have := c.toNat_lt
  omega
set_option maxRecDepth 100000 in
set_option maxHeartbeats 1600000 in
theorem type_len (s : ByteArray) (hs : s.size ≤ 9223372036854775807) (w : World) (h : s.size < 2 ∨ 3 < s.size) : Calls Tryz.prog 109 #[.string s] w fun e w' => e = .returned (.int .i64 0) ∧ w = w' := by
  rcases h with h | h
  · have h1 : (s.size : Int) < 2 := by omega
    go_enter Tryz.func109, Tryz.ntmps109
    go_wp2
    go_ret
    exact ⟨rfl, rfl⟩
  · have h1 : ¬ (s.size : Int) < 2 := by omega
    have h2 : (3 : Int) < s.size := by omega
    go_enter Tryz.func109, Tryz.ntmps109
    go_wp2
    go_ret
    exact ⟨rfl, rfl⟩
set_option maxRecDepth 100000 in
set_option maxHeartbeats 1600000 in
theorem type_head (s : ByteArray) (w : World) (h1 : 2 ≤ s.size) (h2 : s.size ≤ 3) (h : s[0].toNat ≠ 117 ∨ (s[0].toNat = 117 ∧ s[1].toNat = 48)) : Calls Tryz.prog 109 #[.string s] w fun e w' => e = .returned (.int .i64 0) ∧ w = w' := by
  have z1 : ¬ (s.size : Int) < 2 := by omega
  have z2 : ¬ (3 : Int) < s.size := by omega
  rcases h with h | ⟨h, h3⟩
  · have c1 : ((s[0].toNat : Int) != 117) = true := by simp; omega
    go_enter Tryz.func109, Tryz.ntmps109
    go_wp2
    go_ret
    exact ⟨rfl, rfl⟩
  · have c1 : ((s[0].toNat : Int) != 117) = false := by simp; omega
    have c2 : ((s[1].toNat : Int) == 48) = true := by simp; omega
    go_enter Tryz.func109, Tryz.ntmps109
    go_wp2
    go_ret
    exact ⟨rfl, rfl⟩
theorem list_2 (s : ByteArray) (h : s.size = 2) : s.data.toList = [s[0], s[1]] := by
  have h2 : s.data.toList.length = 2 := h
  match hl : s.data.toList, h2 with
  | [a, b], _ =>
    have e0 : s[0] = (s.data.toList)[0]'(by rw [hl]; simp) := rfl
    have e1 : s[1] = (s.data.toList)[1]'(by rw [hl]; simp) := rfl
    rw [e0, e1]
    simp [hl]
theorem list_3 (s : ByteArray) (h : s.size = 3) : s.data.toList = [s[0], s[1], s[2]] := by
  have h2 : s.data.toList.length = 3 := h
  match hl : s.data.toList, h2 with
  | [a, b, c], _ =>
    have e0 : s[0] = (s.data.toList)[0]'(by rw [hl]; simp) := rfl
    have e1 : s[1] = (s.data.toList)[1]'(by rw [hl]; simp) := rfl
    have e2 : s[2] = (s.data.toList)[2]'(by rw [hl]; simp) := rfl
    rw [e0, e1, e2]
    simp [hl]
/-- What the type's digits give. -/
def tyR (a b : Nat) (n : Nat) : Nat := if n = 2 then (if 48 ≤ a ∧ a ≤ 57 then a - 48 else 0) else if 48 ≤ a ∧ a ≤ 57 ∧ 48 ≤ b ∧ b ≤ 57 ∧ 10 * (a - 48) + (b - 48) ≤ 64 then 10 * (a - 48) + (b - 48) else 0
set_option maxRecDepth 100000 in
set_option maxHeartbeats 3200000 in
theorem type_rest (s : ByteArray) (w : World) (n : Nat) (hg2 : 2 ≤ s.size) (hg3 : s.size ≤ 3) (hs : Hid (s.size = n)) (a b : Nat) (ha : s[1].toNat = a) (hb : ∀ h : 2 < s.size, s[2].toNat = b) (h0 : s[0].toNat = 117) (h48 : a ≠ 48) (ha2 : a < 256) (hb2 : b < 256) (R : Nat) (hR : Hid (tyR a b n = R)) :
    Calls Tryz.prog 109 #[.string s] w fun e w' => e = .returned (.int .i64 R) ∧ w = w' := by
  have z1 : ¬ (s.size : Int) < 2 := by omega
  have z2 : ¬ (3 : Int) < s.size := by omega
  have c1 : ((s[0].toNat : Int) != 117) = false := by simp; omega
  have c2 : ((s[1].toNat : Int) == 48) = false := by simp; omega
  have HA := Lib.hid ha
  have HB := Lib.hid hb
  clear ha hb h0
  go_enter Tryz.func109, Tryz.ntmps109
  go_wp2_with fail
  clear c1 c2 z1 z2
  go_loop [3, 4] (fun v u => ∃ k m : Nat, 1 ≤ k ∧ k ≤ s.size ∧ u = .int .i64 k ∧ v = .int .i64 m ∧ m ≤ 99 ∧ Hid ((k = 1 ∧ m = 0) ∨ (k = 2 ∧ m = a - 48 ∧ 48 ≤ a ∧ a ≤ 57) ∨ (k = 3 ∧ m = 10 * (a - 48) + (b - 48) ∧ 48 ≤ a ∧ a ≤ 57 ∧ 48 ≤ b ∧ b ≤ 57))) (fun _ u => s.size - (intOf u).toNat)
  case atStart => exact ⟨1, 0, Nat.le_refl _, by omega, rfl, rfl, by omega, Lib.hid (.inl ⟨rfl, rfl⟩)⟩
  case round =>
    obtain ⟨k, m, hk1, hk2, rfl, rfl, hm, hI⟩ := hrel
    by_cases hlt : k < s.size
    · obtain ⟨d, hd⟩ : ∃ d, s[k].toNat = d := ⟨_, rfl⟩
      have hdk : Hid ((k = 1 ∧ d = a ∧ m = 0) ∨ (k = 2 ∧ d = b ∧ m = a - 48 ∧ 48 ≤ a ∧ a ≤ 57)) := Lib.hid (by
        rcases hI.out with ⟨rfl, h⟩ | ⟨rfl, h1, h2⟩ | ⟨rfl, _⟩
        · exact .inl ⟨rfl, by rw [← hd]; exact HA.out, h⟩
        · exact .inr ⟨rfl, by rw [← hd]; exact HB.out hlt, h1, h2⟩
        · omega)
      have hd2 : d < 256 := by rw [← hd]; exact s[k].toNat_lt
      have hm9 : m ≤ 9 := by rcases hdk.out with ⟨_, _, h⟩ | ⟨_, _, h, _⟩ <;> omega
      clear hI hm
      by_cases h1 : 48 ≤ d
      · by_cases h2 : d ≤ 57
        · have b1 : ¬ ((s[k].toNat : Int) < 48) := by omega
          have b2 : ¬ ((57 : Int) < (s[k].toNat : Int)) := by omega
          have b3 : ((s[k].toNat : Int) - 48) % 256 = ((d - 48 : Nat) : Int) := by omega
          have hw : IntKind.i64.wrap (10 * (m : Int) + ((d - 48 : Nat) : Int)) = ((10 * m + (d - 48) : Nat) : Int) := by rw [IntWalk.i64_in _ (by omega)]; omega
          clear hd
          go_wp2_with fail
          go_round
          case rel => exact ⟨k + 1, 10 * m + (d - 48), by omega, hlt, by go_num, by go_num, by omega, Lib.hid (by rcases hdk.out with ⟨rfl, rfl, rfl⟩ | ⟨rfl, rfl, rfl, h⟩ <;> omega)⟩
          case measure => simp [intOf]; omega
        · have b1 : ¬ ((s[k].toNat : Int) < 48) := by omega
          have b2 : ((57 : Int) < (s[k].toNat : Int)) := by omega
          have hQ : Hid (R = 0) := Lib.hid (by
            rw [← hR.out]
            unfold tyR
            have := hs.out
            rcases hdk.out with ⟨rfl, rfl, rfl⟩ | ⟨rfl, rfl, rfl, h⟩
            · split
              · rw [if_neg (by omega)]
              · rw [if_neg (by omega)]
            · rw [if_neg (by omega), if_neg (by omega)])
          clear hd hR hdk HA HB hs
          go_wp2
          go_ret
          exact ⟨by rw [hQ.out]; rfl, rfl⟩
      · have b1 : ((s[k].toNat : Int) < 48) := by omega
        have hQ : Hid (R = 0) := Lib.hid (by
          rw [← hR.out]
          unfold tyR
          have := hs.out
          rcases hdk.out with ⟨rfl, rfl, rfl⟩ | ⟨rfl, rfl, rfl, h⟩
          · split
            · rw [if_neg (by omega)]
            · rw [if_neg (by omega)]
          · rw [if_neg (by omega), if_neg (by omega)])
        clear hd hR hdk HA HB hs
        go_wp2
        go_ret
        exact ⟨by rw [hQ.out]; rfl, rfl⟩
    · have hke : k = s.size := by omega
      have hQ : Hid (R = if m ≤ 64 then m else 0) := Lib.hid (by
        rw [← hR.out]
        have := hs.out
        unfold tyR
        rcases hI.out with ⟨rfl, h⟩ | ⟨rfl, h1, h2⟩ | ⟨rfl, h1, h2⟩
        · omega
        · rw [if_pos (by omega), if_pos h2, if_pos (by omega), h1]
        · rw [if_neg (by omega)]
          by_cases h64 : m ≤ 64
          · rw [if_pos (by omega), if_pos h64, h1]
          · rw [if_neg (by omega), if_neg h64])
      clear hI hR HA HB hke hs
      by_cases h64 : m ≤ 64
      · have hQ2 : Hid (R = m) := Lib.hid (by rw [hQ.out, if_pos h64])
        have b1 : ¬ (64 : Int) < m := by omega
        clear hQ
        go_wp2
        go_ret
        exact ⟨by rw [hQ2.out]; rfl, rfl⟩
      · have hQ2 : Hid (R = 0) := Lib.hid (by rw [hQ.out, if_neg h64])
        have b1 : (64 : Int) < m := by omega
        clear hQ
        go_wp2
        go_ret
        exact ⟨by rw [hQ2.out]; rfl, rfl⟩
theorem width_ty {u a : UInt8} (h : a.toNat ≠ 48) (hu : u.toNat = 117) : widthOf [u, a] = tyR a.toNat 0 2 := by
  unfold tyR
  simp only [widthOf, hu]
  by_cases h1 : 49 ≤ a.toNat ∧ a.toNat ≤ 57
  · rw [if_pos (by simp; omega), if_pos trivial, if_pos (by omega)]
  · rw [if_neg (by simp; omega), if_pos trivial, if_neg (by omega)]
theorem width_ty3 {u a b : UInt8} (h : a.toNat ≠ 48) (hu : u.toNat = 117) : widthOf [u, a, b] = tyR a.toNat b.toNat 3 := by
  unfold tyR
  simp only [widthOf, hu]
  by_cases h1 : 48 ≤ a.toNat ∧ a.toNat ≤ 57 ∧ 48 ≤ b.toNat ∧ b.toNat ≤ 57 ∧ 10 * (a.toNat - 48) + (b.toNat - 48) ≤ 64
  · rw [if_pos (by simp; omega), if_neg (by omega), if_pos h1]
  · rw [if_neg (by simp; omega), if_neg (by omega), if_neg h1]
theorem type_any (s : ByteArray) (hs : s.size ≤ 9223372036854775807) (w : World) : Calls Tryz.prog 109 #[.string s] w fun e w' => e = .returned (.int .i64 (widthOf s.data.toList : Nat)) ∧ w = w' := by
  by_cases h2 : s.size = 2
  · have hl := list_2 s h2
    rw [hl]
    by_cases h0 : s[0].toNat = 117
    · by_cases h1 : s[1].toNat = 48
      · have : widthOf [s[0], s[1]] = 0 := by simp [widthOf, h1]
        rw [this]
        exact type_head s w (by omega) (by omega) (.inr ⟨h0, h1⟩)
      · rw [width_ty h1 h0]
        exact type_rest s w 2 (by omega) (by omega) (Lib.hid h2) _ 0 rfl (fun h => by omega) h0 h1 s[1].toNat_lt (by omega) _ (Lib.hid rfl)
    · have : widthOf [s[0], s[1]] = 0 := by simp [widthOf, h0]
      rw [this]
      exact type_head s w (by omega) (by omega) (.inl h0)
  · by_cases h3 : s.size = 3
    · have hl := list_3 s h3
      rw [hl]
      by_cases h0 : s[0].toNat = 117
      · by_cases h1 : s[1].toNat = 48
        · have : widthOf [s[0], s[1], s[2]] = 0 := by simp [widthOf, h1]
          rw [this]
          exact type_head s w (by omega) (by omega) (.inr ⟨h0, h1⟩)
        · rw [width_ty3 h1 h0]
          exact type_rest s w 3 (by omega) (by omega) (Lib.hid h3) _ _ rfl (fun h => rfl) h0 h1 s[1].toNat_lt s[2].toNat_lt _ (Lib.hid rfl)
      · have : widthOf [s[0], s[1], s[2]] = 0 := by simp [widthOf, h0]
        rw [this]
        exact type_head s w (by omega) (by omega) (.inl h0)
    · have hlen : s.data.toList.length = s.size := rfl
      have : widthOf s.data.toList = 0 := by
        match hl : s.data.toList, hlen with
        | [], _ => rfl
        | [a], _ => rfl
        | [a, b], h => simp at h; omega
        | [a, b, c], h => simp at h; omega
        | a :: b :: c :: d :: r, _ => simp [widthOf]
      rw [this]
      exact type_len s hs w (by omega)
/-! ### Names -/
theorem nameR_no {l : Str} (h : ¬ (1 ≤ l.length ∧ l.length ≤ 12)) : nameR l = false := by unfold nameR; rw [decide_eq_false h]; rfl
set_option maxRecDepth 100000 in
set_option maxHeartbeats 1600000 in
theorem name_head (s : ByteArray) (hs : s.size ≤ 9223372036854775807) (w : World) (h : s.size < 1 ∨ 12 < s.size ∨ ∃ h : 0 < s.size, s[0].toNat < 97 ∨ 122 < s[0].toNat) : Calls Tryz.prog 57 #[.string s] w fun e w' => e = .returned (.bool false) ∧ w = w' := by
  by_cases h1 : s.size < 1
  · have c1 : (s.size : Int) < 1 := by omega
    go_enter Tryz.func57, Tryz.ntmps57
    go_wp2
    go_ret
    exact ⟨rfl, rfl⟩
  · by_cases h2 : 12 < s.size
    · have c1 : ¬ (s.size : Int) < 1 := by omega
      have c2 : (12 : Int) < (s.size : Int) := by omega
      go_enter Tryz.func57, Tryz.ntmps57
      go_wp2
      go_ret
      exact ⟨rfl, rfl⟩
    · have c1 : ¬ (s.size : Int) < 1 := by omega
      have c2 : ¬ (12 : Int) < (s.size : Int) := by omega
      have c0 : 0 < s.size := by omega
      have h3 : s[0].toNat < 97 ∨ 122 < s[0].toNat := by
        rcases h with h | h | ⟨_, h⟩
        · exact absurd h h1
        · exact absurd h h2
        · exact h
      by_cases h4 : s[0].toNat < 97
      · have c3 : (s[0].toNat : Int) < 97 := by omega
        go_enter Tryz.func57, Tryz.ntmps57
        go_wp2
        go_ret
        exact ⟨rfl, rfl⟩
      · have c3 : ¬ (s[0].toNat : Int) < 97 := by omega
        have c4 : (122 : Int) < (s[0].toNat : Int) := by omega
        go_enter Tryz.func57, Tryz.ntmps57
        go_wp2
        go_ret
        exact ⟨rfl, rfl⟩
theorem baq_get (s : ByteArray) (k : Nat) (h : k < s.size) : s.data.toList[k]'(by simpa using h) = s[k] := by simp; rfl
set_option maxRecDepth 100000 in
set_option maxHeartbeats 3200000 in
theorem name_rest (s : ByteArray) (w : World) (h1 : 1 ≤ s.size) (h12 : s.size ≤ 12) (h97 : 97 ≤ s[0].toNat) (h122 : s[0].toNat ≤ 122) (R : Bool) (hR : Hid ((s.data.toList.all isWrd && (!(isKey s.data.toList) && widthOf s.data.toList == 0)) = R)) :
    Calls Tryz.prog 57 #[.string s] w fun e w' => e = .returned (.bool R) ∧ Below w.heap.size w w' := by
  have c1 : ¬ (s.size : Int) < 1 := by omega
  have c2 : ¬ (12 : Int) < (s.size : Int) := by omega
  have c3 : ¬ (s[0].toNat : Int) < 97 := by omega
  have c4 : ¬ (122 : Int) < (s[0].toNat : Int) := by omega
  clear h97 h122
  go_enter Tryz.func57, Tryz.ntmps57
  go_wp2_with fail
  clear c1 c2 c3 c4
  go_loop [3] (fun v => ∃ k : Nat, k ≤ s.size ∧ v = .int .i64 k ∧ Hid ((s.data.toList.take k).all isWrd = true)) (fun v => s.size - (intOf v).toNat)
  case atStart => exact ⟨0, Nat.zero_le _, rfl, Lib.hid rfl⟩
  case round =>
    obtain ⟨k, hk, rfl, hI⟩ := hrel
    have hlen : s.data.toList.length = s.size := rfl
    by_cases hlt : k < s.size
    · have hst : s.data.toList.take (k + 1) = s.data.toList.take k ++ [s[k]] := by
        rw [List.take_succ_eq_append_getElem (by rw [hlen]; exact hlt), baq_get s k hlt]
      have good : isWrd s[k] = true → Hid ((s.data.toList.take (k + 1)).all isWrd = true) := fun h => Lib.hid (by rw [hst, List.all_append, hI.out]; simp [h])
      have bad : isWrd s[k] = false → Hid (R = false) := fun h => Lib.hid (by
        rw [← hR.out]
        have : s.data.toList.all isWrd = false := by
          rw [Bool.eq_false_iff]
          intro ha
          have := List.all_eq_true.1 ha s[k] (by rw [← baq_get s k hlt]; exact List.getElem_mem _)
          rw [h] at this; cases this
        rw [this]; rfl)
      have HG := Lib.hid good
      have HB := Lib.hid bad
      clear hst good bad hlen
      by_cases hL : 97 ≤ s[k].toNat ∧ s[k].toNat ≤ 122
      · have hN := HG.out (by unfold isWrd isLet; simp; omega)
        have b1 : (97 : Int) ≤ (s[k].toNat : Int) := by omega
        have b2 : (s[k].toNat : Int) ≤ 122 := by omega
        clear HG HB hL hI
        go_wp2_with fail
        go_round
        case rel => exact ⟨k + 1, hlt, by go_num, hN⟩
        case measure => simp [intOf]; omega
      · by_cases hD : 48 ≤ s[k].toNat ∧ s[k].toNat ≤ 57
        · have hN := HG.out (by unfold isWrd isDig; simp; omega)
          have b1 : ¬ (97 : Int) ≤ (s[k].toNat : Int) := by omega
          have b3 : (48 : Int) ≤ (s[k].toNat : Int) := by omega
          have b4 : (s[k].toNat : Int) ≤ 57 := by omega
          clear HG HB hL hI hD
          go_wp2_with fail
          go_round
          case rel => exact ⟨k + 1, hlt, by go_num, hN⟩
          case measure => simp [intOf]; omega
        · have hQ := HB.out (by unfold isWrd isLet isDig; simp; omega)
          clear HG HB hI hR
          by_cases b1 : (97 : Int) ≤ (s[k].toNat : Int)
          · have b2 : ¬ (s[k].toNat : Int) ≤ 122 := by omega
            have b3 : (48 : Int) ≤ (s[k].toNat : Int) := by omega
            have b4 : ¬ (s[k].toNat : Int) ≤ 57 := by omega
            clear hL hD
            go_wp2
            go_ret
            exact ⟨by rw [hQ.out]; rfl, Below.refl _ _⟩
          · by_cases b3 : (48 : Int) ≤ (s[k].toNat : Int)
            · have b4 : ¬ (s[k].toNat : Int) ≤ 57 := by omega
              clear hL hD
              go_wp2
              go_ret
              exact ⟨by rw [hQ.out]; rfl, Below.refl _ _⟩
            · clear hL hD
              go_wp2
              go_ret
              exact ⟨by rw [hQ.out]; rfl, Below.refl _ _⟩
    · have hke : k = s.size := by omega
      have hall : s.data.toList.all isWrd = true := by
        have := hI.out
        rw [hke, List.take_of_length_le (by rw [hlen]; exact Nat.le_refl _)] at this
        exact this
      have hQ : Hid ((!(isKey s.data.toList) && widthOf s.data.toList == 0) = R) := Lib.hid (by rw [← hR.out, hall]; rfl)
      clear hI hR hke hall hlen
      go_wp2_with fail
      refine (keys_any _).mono ?_
      rintro e w1 ⟨A, rfl, hS, B1⟩
      go_wp2_with fail
      refine (in_any keyWords s A 19 _ (by decide) hS).mono ?_
      rintro e w2 ⟨rfl, rfl⟩
      have hneg := inQ_neg keyWords s.data.toList 0
      obtain ⟨q, hq⟩ : ∃ q, inQ keyWords s.data.toList 0 = q := ⟨_, rfl⟩
      rw [hq] at hneg ⊢
      clear hq
      cases hkey : isKey s.data.toList with
      | true =>
        have hc : keyWords.contains s.data.toList = true := hkey
        have b1 : ¬ q < 0 := by rw [hc] at hneg; simpa using hneg
        have hF : Hid (R = false) := Lib.hid (by rw [← hQ.out, hkey]; rfl)
        clear hneg hc hkey hQ
        go_wp2
        go_ret
        exact ⟨by rw [hF.out]; rfl, B1⟩
      | false =>
        have hc : keyWords.contains s.data.toList = false := hkey
        have b1 : q < 0 := by rw [hc] at hneg; simpa using hneg
        have hF : Hid (R = (widthOf s.data.toList == 0)) := Lib.hid (by rw [← hQ.out, hkey]; rfl)
        clear hneg hc hkey hQ
        go_wp2_with fail
        refine (type_any s (by omega) _).mono ?_
        rintro e w2 ⟨rfl, rfl⟩
        obtain ⟨m, hm⟩ : ∃ m, widthOf s.data.toList = m := ⟨_, rfl⟩
        rw [hm] at hF ⊢
        clear hm
        have hF2 : Hid (R = ((m : Int) == 0)) := Lib.hid (by rw [hF.out, Bool.eq_iff_iff]; simp)
        clear hF
        go_wp2
        go_ret
        exact ⟨by rw [hF2.out]; rfl, B1⟩
theorem Name_any (s : ByteArray) (hs : s.size ≤ 9223372036854775807) (w : World) : Calls Tryz.prog 57 #[.string s] w fun e w' => e = .returned (.bool (nameR s.data.toList)) ∧ Below w.heap.size w w' := by
  have hlen : s.data.toList.length = s.size := rfl
  by_cases h1 : 1 ≤ s.size ∧ s.size ≤ 12
  · have hhd : (s.data.toList.take 1).all isLet = isLet s[0] := by
      have : s.data.toList.take (0 + 1) = s.data.toList.take 0 ++ [s[0]] := by
        rw [List.take_succ_eq_append_getElem (by rw [hlen]; omega), baq_get s 0 (by omega)]
      rw [Nat.zero_add] at this
      rw [this]; simp
    by_cases h2 : 97 ≤ s[0].toNat ∧ s[0].toNat ≤ 122
    · refine name_rest s w h1.1 h1.2 h2.1 h2.2 _ (Lib.hid ?_)
      unfold nameR
      rw [hlen, decide_eq_true h1, hhd]
      have : isLet s[0] = true := by unfold isLet; simp; omega
      rw [this]
      simp [Bool.and_assoc]
    · have hF : nameR s.data.toList = false := by
        unfold nameR
        rw [hhd]
        have : isLet s[0] = false := by unfold isLet; simp; omega
        rw [this]; simp
      rw [hF]
      exact (name_head s hs w (.inr (.inr ⟨by omega, by omega⟩))).mono fun e w' ⟨a, b⟩ => ⟨a, by rw [b]; exact Below.refl _ _⟩
  · rw [nameR_no (by rw [hlen]; exact h1)]
    exact (name_head s hs w (by omega)).mono fun e w' ⟨a, b⟩ => ⟨a, by rw [b]; exact Below.refl _ _⟩
end Go.Proofs.YtnbgadndkepomaaGreatDoor

namespace Go.Proofs.YtnbgadndkepomaaGreatDoor
open Go.RowKit

def ListsR (c : Cd) : Prop := c.st.length ≤ 8 ∧ c.nm.length ≤ 32 ∧ (∀ l ∈ c.st, StructP l) ∧ NamesP c.nm
def StTo (c : Cd) (i : Nat) : Prop := ∀ (j : Nat) (h : j < c.st.length), j < i → StructP c.st[j]
def WidTo (l : List Int) (k : Nat) : Prop := ∀ (j : Nat) (h : j < l.length), j < k → Wid l[j]
def NmQ (l : List Str) (i : Nat) : Prop := ∀ (j : Nat) (h : j < l.length), j < i → nameR l[j] = true ∧ l[j] ∉ l.take j
set_option maxRecDepth 100000 in
set_option maxHeartbeats 1600000 in
theorem rlists_any {W : World} {c : Cd} {x : Sl} (hx : CdAt W c x) (hs : ∀ s ∈ c.nm, s.length ≤ 9223372036854775807) :
    Calls Tryz.prog 36 #[.agg #[.slice x.S c.st.length x.sc, .slice x.N c.nm.length x.nc, .slice x.I c.ins.length x.ic, .slice x.K c.bk.length x.kc]] W fun e w' => e = .returned (.bool (B (ListsR c))) ∧ Below W.heap.size W w' := by
  have hp := PtAt.new hx
  have bA : Below W.heap.size W (W.alloc (.cells #[.slice x.S c.st.length x.sc, .slice x.N c.nm.length x.nc, .slice x.I c.ins.length x.ic, .slice x.K c.bk.length x.kc] 27)) := (Below.refl _ _).alloc (Nat.le_refl _) _
  have s0 := hp.s0
  have s1 := hp.s1
  have s2 := hp.s2
  have s3 := hp.s3
  obtain ⟨R, hR⟩ : ∃ R, Hid (B (ListsR c) = R) := ⟨_, Lib.hid rfl⟩
  rw [hR.out]
  obtain ⟨w1, hw1⟩ : ∃ w1, Hid ((W.alloc (.cells #[.slice x.S c.st.length x.sc, .slice x.N c.nm.length x.nc, .slice x.I c.ins.length x.ic, .slice x.K c.bk.length x.kc] 27)) = w1) := ⟨_, Lib.hid rfl⟩
  obtain ⟨m, hm⟩ : ∃ m, Hid (W.heap.size = m) := ⟨_, Lib.hid rfl⟩
  rw [hw1.out] at hp s0 s1 s2 s3 bA
  rw [hm.out] at hp s0 s1 s2 s3
  replace hp := Lib.hid hp
  replace hs := Lib.hid hs
  by_cases h1 : c.st.length ≤ 8
  rotate_left
  · have hz : Hid (R = false) := Lib.hid (by rw [← hR.out]; exact B_not (fun h => h1 h.1))
    have d1 : (8 : Int) < (c.st.length : Int) := by omega
    clear h1 hR
    go_enter Tryz.func36, Tryz.ntmps36
    go_upto_region 1 with fail
    simp only [hw1.out, hm.out]
    go_wp2
    go_ret
    exact ⟨by rw [hz.out]; rfl, bA⟩
  by_cases h2 : c.nm.length ≤ 32
  rotate_left
  · have hz : Hid (R = false) := Lib.hid (by rw [← hR.out]; exact B_not (fun h => h2 h.2.1))
    have d1 : ¬ (8 : Int) < (c.st.length : Int) := by omega
    have d2 : (32 : Int) < (c.nm.length : Int) := by omega
    clear h1 h2 hR
    go_enter Tryz.func36, Tryz.ntmps36
    go_upto_region 1 with fail
    simp only [hw1.out, hm.out]
    go_wp2
    go_ret
    exact ⟨by rw [hz.out]; rfl, bA⟩
  have d1 : ¬ (8 : Int) < (c.st.length : Int) := by omega
  have d2 : ¬ (32 : Int) < (c.nm.length : Int) := by omega
  go_enter Tryz.func36, Tryz.ntmps36
  go_upto_region 1 with fail
  simp only [hw1.out, hm.out]
  go_wp2_with fail
  go_loopw [3, 4, 5] (fun v _ _ wr => ∃ i : Nat, i ≤ c.st.length ∧ v = .int .i64 i ∧ Hid (StTo c i) ∧ wr = w1) (fun v _ _ _ => c.st.length - iOf v)
  case atStart => exact ⟨0, Nat.zero_le _, rfl, Lib.hid (fun j _ h => by omega), rfl⟩
  case round =>
    obtain ⟨i, hi, rfl, hI, hwr⟩ := hrel
    replace hwr := hwr.symm
    subst hwr
    by_cases hlt : i < c.st.length
    · obtain ⟨gs, os, A', c', es, r0, hl1, hl2, hrow⟩ := hp.out.at_.s i hlt
      have s0' := s0
      rw [es] at s0'
      obtain ⟨l, hl⟩ : ∃ l, Hid (c.st[i] = l) := ⟨_, Lib.hid rfl⟩
      rw [hl.out] at r0 hrow hl1
      have hno : ¬ StructP l → Hid (R = false) := fun h => Lib.hid (by rw [← hR.out]; exact B_not (fun hn => h (by rw [← hl.out]; exact hn.2.2.1 _ (List.getElem_mem hlt))))
      have hyes : StructP l → Hid (StTo c (i + 1)) := fun h => Lib.hid (fun j hj hji => by
        by_cases e : j = i
        · subst e; rw [hl.out]; exact h
        · exact hI.out j hj (by omega))
      have hic : (i : Int) < (c.st.length : Int) := by omega
      by_cases l1 : l.length < 1
      · have hz := hno (fun h => by have := h.1; omega)
        have e1 : (l.length : Int) < 1 := by omega
        clear s0 hno hyes hI hl l1 hrow es hR
        go_wp2
        go_ret
        exact ⟨by rw [hz.out]; rfl, bA⟩
      by_cases l2 : 16 < l.length
      · have hz := hno (fun h => by have := h.2.1; omega)
        have e1 : ¬ (l.length : Int) < 1 := by omega
        have e2 : (16 : Int) < (l.length : Int) := by omega
        clear s0 hno hyes hI hl l1 l2 hrow es hR
        go_wp2
        go_ret
        exact ⟨by rw [hz.out]; rfl, bA⟩
      have e1 : ¬ (l.length : Int) < 1 := by omega
      have e2 : ¬ (16 : Int) < (l.length : Int) := by omega
      replace hno := Lib.hid hno
      replace hyes := Lib.hid hyes
      replace hrow := Lib.hid hrow
      clear s0 es
      go_wp2_with fail
      go_loopw [5] (fun v wr => ∃ k : Nat, k ≤ l.length ∧ v = .int .i64 k ∧ Hid (WidTo l k) ∧ wr = w1) (fun v _ => l.length - iOf v)
      case atStart => exact ⟨0, Nat.zero_le _, rfl, Lib.hid (fun j _ h => by omega), rfl⟩
      case round =>
        obtain ⟨k, hk, rfl, hW, hwr⟩ := hrel
        replace hwr := hwr.symm
        subst hwr
        by_cases hkl : k < l.length
        · obtain ⟨ge, oe, ee, e0⟩ := hrow.out k hkl
          have hkc : (k : Int) < (l.length : Int) := by omega
          obtain ⟨y, hy⟩ : ∃ y, Hid (l[k] = y) := ⟨_, Lib.hid rfl⟩
          rw [hy.out] at e0
          subst ee
          go_wp2_with fail
          refine (rWidth_any _ _).mono ?_
          rintro e' w2 ⟨rfl, rfl⟩
          cases hw : widB y with
          | false =>
            have hz := hno.out (fun h => by
              have := h.2.2 _ (List.getElem_mem hkl)
              rw [hy.out] at this
              have h2 : widB y = true := by unfold widB; exact decide_eq_true this
              rw [hw] at h2; cases h2)
            clear hno hyes hI hl hW hy hR
            go_wp2
            go_ret
            exact ⟨by rw [hz.out]; rfl, bA⟩
          | true =>
            have hW2 : Hid (WidTo l (k + 1)) := Lib.hid (fun j hj hjk => by
              by_cases e : j = k
              · subst e; rw [hy.out]; unfold widB at hw; exact of_decide_eq_true hw
              · exact hW.out j hj (by omega))
            clear hW hw hy
            go_wp2_with fail
            go_roundw
            case rel => exact ⟨k + 1, hkl, by go_num, hW2, by trivial⟩
            case measure => simp only [iOf]; omega
        · have hkl2 : k = l.length := by omega
          subst hkl2
          have hS := hyes.out ⟨by omega, by omega, fun w hw => by
            obtain ⟨j, hj, rfl⟩ := List.getElem_of_mem hw
            exact hW.out j hj hj⟩
          clear hno hyes hW hI hkl
          go_wp2_with fail
          go_roundw
          case rel => exact ⟨i + 1, hlt, by go_num, hS, by trivial⟩
          case measure => simp only [iOf]; omega
    · have hie : i = c.st.length := by omega
      subst hie
      have hic : ¬ ((c.st.length : Int) < (c.st.length : Int)) := by omega
      go_wp2_with fail
      go_loopw [6] (fun v wr => ∃ i : Nat, i ≤ c.nm.length ∧ v = .int .i64 i ∧ Hid (NmQ c.nm i) ∧ Below w1.heap.size w1 wr) (fun v _ => c.nm.length - iOf v)
      case atStart => exact ⟨0, Nat.zero_le _, rfl, Lib.hid (fun j _ h => by omega), Below.refl _ _⟩
      case round =>
        rename_i wr
        obtain ⟨i, hi2, rfl, hN, hb⟩ := hrel
        have hpr := hp.out.later hb
        have s1 := hpr.s1
        by_cases hlt : i < c.nm.length
        · have hrw := hpr.at_.n
          obtain ⟨g, o, eN, hcell⟩ := hrw i hlt
          rw [eN] at s1 hrw
          have hsz := hs.out _ (List.getElem_mem hlt)
          have hicap : (i : Int) ≤ (x.nc : Int) := by
            have := hpr.at_.hn.1
            omega
          have hlc : (i : Int) < c.nm.length := by omega
          have hno1 : nameR c.nm[i] = false → Hid (R = false) := fun h => Lib.hid (by rw [← hR.out]; exact B_not (fun hn => by have := (hn.2.2.2 i hlt).1; rw [h] at this; cases this))
          have hno2 : (c.nm.take i).contains c.nm[i] = true → Hid (R = false) := fun h => Lib.hid (by rw [← hR.out]; exact B_not (fun hn => (hn.2.2.2 i hlt).2 (by simpa using h)))
          have hyes : nameR c.nm[i] = true → (c.nm.take i).contains c.nm[i] = false → Hid (NmQ c.nm (i + 1)) := fun h1 h2 => Lib.hid (fun j hj hji => by
            by_cases e : j = i
            · subst e; exact ⟨h1, by simpa using h2⟩
            · exact hN.out j hj (by omega))
          replace hno1 := Lib.hid hno1
          replace hno2 := Lib.hid hno2
          replace hyes := Lib.hid hyes
          have hrt : SRow wr (some ⟨g, o, none⟩) (c.nm.take i) := fun j hj => by
            have hj2 : j < c.nm.length := by rw [List.length_take] at hj; omega
            obtain ⟨g2, o2, e, h⟩ := hrw j hj2
            exact ⟨g2, o2, e, by rw [List.getElem_take]; exact h⟩
          obtain ⟨t, ht⟩ : ∃ t, Hid (c.nm[i] = t) := ⟨_, Lib.hid rfl⟩
          simp only [ht.out] at hcell hsz hno1 hno2 hyes
          have htl : ((⟨t.toArray⟩ : ByteArray).data.toList) = t := by simp
          obtain ⟨T, hT⟩ : ∃ T : ByteArray, Hid ((⟨t.toArray⟩ : ByteArray) = T) := ⟨_, Lib.hid rfl⟩
          have hTl : Hid (T.data.toList = t) := Lib.hid (by rw [← hT.out])
          have hTs : T.size ≤ 9223372036854775807 := by rw [← hT.out]; exact hsz
          rw [hT.out] at hcell
          have hCin : ∀ w5, Below wr.heap.size wr w5 → Calls Tryz.prog 58 #[.slice (some ⟨g, o, none⟩) i x.nc, .string T] w5 fun e w' => e = .returned (.int .i64 (inQ (c.nm.take i) t 0)) ∧ w5 = w' := fun w5 h5 => by
            have hil : (c.nm.take i).length = i := by rw [List.length_take]; omega
            have hC := in_any (c.nm.take i) T (some ⟨g, o, none⟩) x.nc w5 (by omega) (hrt.later h5)
            rw [hil, hTl.out] at hC
            exact hC
          have hneg := inQ_neg (c.nm.take i) t 0
          generalize inQ (c.nm.take i) t 0 = q at hCin hneg
          replace hneg := Lib.hid hneg
          replace hCin := Lib.hid hCin
          clear hrw ht hsz htl hT hpr hrt s0 hN hi hlt hI eN
          cases hn : nameR t with
          | false =>
            have hz := hno1.out hn
            clear hno1 hno2 hyes hR hCin hneg
            go_wp2_with fail
            have hmk : ∀ w', Below wr.heap.size wr w' → w'.cell? ⟨m, 1, none⟩ = some (.slice (some ⟨g, o, none⟩) c.nm.length x.nc) ∧ w'.cell? ⟨g, o + i, none⟩ = some (.string T) ∧ Below wr.heap.size wr w' := fun w' hb => ⟨cell_later hb s1, cell_later hb hcell, hb⟩
            clear s1 hcell
            refine wp_region_held_drew (S := (fun w' => w'.cell? ⟨m, 1, none⟩ = some (.slice (some ⟨g, o, none⟩) c.nm.length x.nc) ∧ w'.cell? ⟨g, o + i, none⟩ = some (.string T) ∧ Below wr.heap.size wr w')) (by kernel_rfl) (hmk _ (Drew.below ⟨1, rfl⟩)) (fun hHeld => ?_)
            refine wpAnyH_take (i := 0) (v := ?_) rfl (by kernel_rfl) (by kernel_rfl) (by kernel_rfl) (fun _ _ _ h => h) (Or.inl ⟨by rfl, ?_⟩) (by assumption) ?_
            rotate_left
            · (intro w hSw; (try dsimp only at hSw); go_simp; try (with_reducible rfl))
            try simp only [sm]
            refine wpAnyH_take (i := 1) (v := ?_) rfl (by kernel_rfl) (by kernel_rfl) (by kernel_rfl) (fun _ _ _ h => h) (Or.inl ⟨by rfl, ?_⟩) (by assumption) ?_
            rotate_left
            · (intro w hSw; (try dsimp only at hSw); go_simp; try (with_reducible rfl))
            try simp only [sm]
            refine wpAnyH_take (i := 2) (v := ?_) rfl (by kernel_rfl) (by kernel_rfl) (by kernel_rfl) (fun _ _ _ h => h) (Or.inl ⟨by rfl, ?_⟩) (by assumption) ?_
            rotate_left
            · (intro w hSw; (try dsimp only at hSw); go_simp; try (with_reducible rfl))
            try simp only [sm]
            refine wpAnyH_take (i := 3) (v := ?_) rfl (by kernel_rfl) (by kernel_rfl) (by kernel_rfl) (fun _ _ _ h => h) (Or.inl ⟨by rfl, ?_⟩) (by assumption) ?_
            rotate_left
            · (intro w hSw; (try dsimp only at hSw); go_simp; try (with_reducible rfl))
            try simp only [sm]
            refine wpAnyH_take (i := 4) (v := ?_) rfl (by kernel_rfl) (by kernel_rfl) (by kernel_rfl) (fun _ _ _ h => h) (Or.inl ⟨by rfl, ?_⟩) (by assumption) ?_
            rotate_left
            · (intro w hSw; (try dsimp only at hSw); go_simp; try (with_reducible rfl))
            try simp only [sm]
            refine wpAnyH_ready (rs := [5]) (by kernel_rfl) (by simp) ?_
            refine AllReadyH.cons rfl (fun K hK => ?_) AllReadyH.nil
            go_simp
            refine (Name_any T hTs _).mono ?_
            rintro e w5 ⟨rfl, b5⟩
            rw [hTl.out, hn]
            have hS5 : Below wr.heap.size wr w5 := (Drew.below ⟨1, rfl⟩).trans (b5.mono (Nat.le_refl _))
            refine hK.out _ _ (hmk _ hS5) (fun hHeld => ?_)
            clear hK
            try simp only [sm]
            refine wpAnyH_take (i := 6) (v := ?_) rfl (by kernel_rfl) (by kernel_rfl) (by kernel_rfl) (fun _ _ _ h => h) (Or.inl ⟨by rfl, ?_⟩) (by assumption) ?_
            rotate_left
            · (intro w hSw; (try dsimp only at hSw); go_simp; try (with_reducible rfl))
            try simp only [sm]
            refine wpAnyH_take (i := 7) (v := ?_) rfl (by kernel_rfl) (by kernel_rfl) (by kernel_rfl) (fun _ _ _ h => h) (Or.inl ⟨by rfl, ?_⟩) (by assumption) ?_
            rotate_left
            · (intro w hSw; (try dsimp only at hSw); go_simp; try (with_reducible rfl))
            try simp only [sm]
            refine wpAnyH_take (i := 8) (v := undef) rfl (by kernel_rfl) (by kernel_rfl) (by kernel_rfl) (fun _ _ _ h => h) (Or.inr ⟨by rfl, rfl⟩) (by assumption) ?_
            try simp only [sm]
            refine wpAnyH_take (i := 9) (v := undef) rfl (by kernel_rfl) (by kernel_rfl) (by kernel_rfl) (fun _ _ _ h => h) (Or.inr ⟨by rfl, rfl⟩) (by assumption) ?_
            try simp only [sm]
            refine wpAnyH_take (i := 10) (v := undef) rfl (by kernel_rfl) (by kernel_rfl) (by kernel_rfl) (fun _ _ _ h => h) (Or.inr ⟨by rfl, rfl⟩) (by assumption) ?_
            try simp only [sm]
            refine wpAnyH_take (i := 11) (v := undef) rfl (by kernel_rfl) (by kernel_rfl) (by kernel_rfl) (fun _ _ _ h => h) (Or.inr ⟨by rfl, rfl⟩) (by assumption) ?_
            try simp only [sm]
            refine wpAnyH_take (i := 12) (v := undef) rfl (by kernel_rfl) (by kernel_rfl) (by kernel_rfl) (fun _ _ _ h => h) (Or.inr ⟨by rfl, rfl⟩) (by assumption) ?_
            try simp only [sm]
            refine wpAnyH_take (i := 13) (v := undef) rfl (by kernel_rfl) (by kernel_rfl) (by kernel_rfl) (fun _ _ _ h => h) (Or.inr ⟨by rfl, rfl⟩) (by assumption) ?_
            try simp only [sm]
            refine wpAnyH_take (i := 14) (v := undef) rfl (by kernel_rfl) (by kernel_rfl) (by kernel_rfl) (fun _ _ _ h => h) (Or.inr ⟨by rfl, rfl⟩) (by assumption) ?_
            try simp only [sm]
            refine wpAnyH_take (i := 15) (v := undef) rfl (by kernel_rfl) (by kernel_rfl) (by kernel_rfl) (fun _ _ _ h => h) (Or.inr ⟨by rfl, rfl⟩) (by assumption) ?_
            try simp only [sm]
            refine wpAnyH_take (i := 16) (v := undef) rfl (by kernel_rfl) (by kernel_rfl) (by kernel_rfl) (fun _ _ _ h => h) (Or.inr ⟨by rfl, rfl⟩) (by assumption) ?_
            try simp only [sm]
            refine wpAnyH_take (i := 17) (v := undef) rfl (by kernel_rfl) (by kernel_rfl) (by kernel_rfl) (fun _ _ _ h => h) (Or.inr ⟨by rfl, rfl⟩) (by assumption) ?_
            try simp only [sm]
            refine wpAnyH_take (i := 18) (v := undef) rfl (by kernel_rfl) (by kernel_rfl) (by kernel_rfl) (fun _ _ _ h => h) (Or.inr ⟨by rfl, rfl⟩) (by assumption) ?_
            try simp only [sm]
            refine wpAnyH_take (i := 19) (v := ?_) rfl (by kernel_rfl) (by kernel_rfl) (by kernel_rfl) (fun _ _ _ h => h) (Or.inl ⟨by rfl, ?_⟩) (by assumption) ?_
            rotate_left
            · (intro w hSw; (try dsimp only at hSw); go_simp; try (with_reducible rfl))
            try simp only [sm]
            refine wpAnyH_done (by kernel_rfl) ?_ _
            have hb5 := hb.trans (hS5.mono hb.size)
            clear hmk
            go_wp2
            go_ret
            exact ⟨by rw [hz.out]; rfl, bA.trans (hb5.mono bA.size)⟩
          | true =>
            cases hcn : (c.nm.take i).contains t with
            | true =>
              have hz := hno2.out hcn
              have hq0 : decide (0 ≤ q) = true := by
                have := hneg.out; rw [hcn] at this; simp at this ⊢ <;> try omega
              clear hno1 hno2 hyes hR hneg hcn
              replace hCin := hCin.out
              go_wp2_with fail
              have hmk : ∀ w', Below wr.heap.size wr w' → w'.cell? ⟨m, 1, none⟩ = some (.slice (some ⟨g, o, none⟩) c.nm.length x.nc) ∧ w'.cell? ⟨g, o + i, none⟩ = some (.string T) ∧ Below wr.heap.size wr w' := fun w' hb => ⟨cell_later hb s1, cell_later hb hcell, hb⟩
              clear s1 hcell
              refine wp_region_held_drew (S := (fun w' => w'.cell? ⟨m, 1, none⟩ = some (.slice (some ⟨g, o, none⟩) c.nm.length x.nc) ∧ w'.cell? ⟨g, o + i, none⟩ = some (.string T) ∧ Below wr.heap.size wr w')) (by kernel_rfl) (hmk _ (Drew.below ⟨1, rfl⟩)) (fun hHeld => ?_)
              refine wpAnyH_take (i := 0) (v := ?_) rfl (by kernel_rfl) (by kernel_rfl) (by kernel_rfl) (fun _ _ _ h => h) (Or.inl ⟨by rfl, ?_⟩) (by assumption) ?_
              rotate_left
              · (intro w hSw; (try dsimp only at hSw); go_simp; try (with_reducible rfl))
              try simp only [sm]
              refine wpAnyH_take (i := 1) (v := ?_) rfl (by kernel_rfl) (by kernel_rfl) (by kernel_rfl) (fun _ _ _ h => h) (Or.inl ⟨by rfl, ?_⟩) (by assumption) ?_
              rotate_left
              · (intro w hSw; (try dsimp only at hSw); go_simp; try (with_reducible rfl))
              try simp only [sm]
              refine wpAnyH_take (i := 2) (v := ?_) rfl (by kernel_rfl) (by kernel_rfl) (by kernel_rfl) (fun _ _ _ h => h) (Or.inl ⟨by rfl, ?_⟩) (by assumption) ?_
              rotate_left
              · (intro w hSw; (try dsimp only at hSw); go_simp; try (with_reducible rfl))
              try simp only [sm]
              refine wpAnyH_take (i := 3) (v := ?_) rfl (by kernel_rfl) (by kernel_rfl) (by kernel_rfl) (fun _ _ _ h => h) (Or.inl ⟨by rfl, ?_⟩) (by assumption) ?_
              rotate_left
              · (intro w hSw; (try dsimp only at hSw); go_simp; try (with_reducible rfl))
              try simp only [sm]
              refine wpAnyH_take (i := 4) (v := ?_) rfl (by kernel_rfl) (by kernel_rfl) (by kernel_rfl) (fun _ _ _ h => h) (Or.inl ⟨by rfl, ?_⟩) (by assumption) ?_
              rotate_left
              · (intro w hSw; (try dsimp only at hSw); go_simp; try (with_reducible rfl))
              try simp only [sm]
              refine wpAnyH_ready (rs := [5]) (by kernel_rfl) (by simp) ?_
              refine AllReadyH.cons rfl (fun K hK => ?_) AllReadyH.nil
              go_simp
              refine (Name_any T hTs _).mono ?_
              rintro e w5 ⟨rfl, b5⟩
              rw [hTl.out, hn]
              have hS5 : Below wr.heap.size wr w5 := (Drew.below ⟨1, rfl⟩).trans (b5.mono (Nat.le_refl _))
              refine hK.out _ _ (hmk _ hS5) (fun hHeld => ?_)
              clear hK
              try simp only [sm]
              refine wpAnyH_take (i := 6) (v := ?_) rfl (by kernel_rfl) (by kernel_rfl) (by kernel_rfl) (fun _ _ _ h => h) (Or.inl ⟨by rfl, ?_⟩) (by assumption) ?_
              rotate_left
              · (intro w hSw; (try dsimp only at hSw); go_simp; try (with_reducible rfl))
              try simp only [sm]
              refine wpAnyH_take (i := 7) (v := ?_) rfl (by kernel_rfl) (by kernel_rfl) (by kernel_rfl) (fun _ _ _ h => h) (Or.inl ⟨by rfl, ?_⟩) (by assumption) ?_
              rotate_left
              · (intro w hSw; (try dsimp only at hSw); go_simp; try (with_reducible rfl))
              try simp only [sm]
              refine wpAnyH_take (i := 8) (v := ?_) rfl (by kernel_rfl) (by kernel_rfl) (by kernel_rfl) (fun _ _ _ h => h) (Or.inl ⟨by rfl, ?_⟩) (by assumption) ?_
              rotate_left
              · (intro w hSw; (try dsimp only at hSw); go_simp; try (with_reducible rfl))
              try simp only [sm]
              refine wpAnyH_take (i := 9) (v := ?_) rfl (by kernel_rfl) (by kernel_rfl) (by kernel_rfl) (fun _ _ _ h => h) (Or.inl ⟨by rfl, ?_⟩) (by assumption) ?_
              rotate_left
              · (intro w hSw; (try dsimp only at hSw); go_simp; try (with_reducible rfl))
              try simp only [sm]
              refine wpAnyH_take (i := 10) (v := ?_) rfl (by kernel_rfl) (by kernel_rfl) (by kernel_rfl) (fun _ _ _ h => h) (Or.inl ⟨by rfl, ?_⟩) (by assumption) ?_
              rotate_left
              · (intro w hSw; (try dsimp only at hSw); go_simp; try (with_reducible rfl))
              try simp only [sm]
              refine wpAnyH_take (i := 11) (v := ?_) rfl (by kernel_rfl) (by kernel_rfl) (by kernel_rfl) (fun _ _ _ h => h) (Or.inl ⟨by rfl, ?_⟩) (by assumption) ?_
              rotate_left
              · (intro w hSw; (try dsimp only at hSw); go_simp; try (with_reducible rfl))
              try simp only [sm]
              refine wpAnyH_take (i := 12) (v := ?_) rfl (by kernel_rfl) (by kernel_rfl) (by kernel_rfl) (fun _ _ _ h => h) (Or.inl ⟨by rfl, ?_⟩) (by assumption) ?_
              rotate_left
              · (intro w hSw; (try dsimp only at hSw); go_simp; try (with_reducible rfl))
              try simp only [sm]
              refine wpAnyH_take (i := 13) (v := ?_) rfl (by kernel_rfl) (by kernel_rfl) (by kernel_rfl) (fun _ _ _ h => h) (Or.inl ⟨by rfl, ?_⟩) (by assumption) ?_
              rotate_left
              · (intro w hSw; (try dsimp only at hSw); go_simp; try (with_reducible rfl))
              try simp only [sm]
              refine wpAnyH_take (i := 14) (v := ?_) rfl (by kernel_rfl) (by kernel_rfl) (by kernel_rfl) (fun _ _ _ h => h) (Or.inl ⟨by rfl, ?_⟩) (by assumption) ?_
              rotate_left
              · (intro w hSw; (try dsimp only at hSw); go_simp; try (with_reducible rfl))
              try simp only [sm]
              refine wpAnyH_take (i := 15) (v := ?_) rfl (by kernel_rfl) (by kernel_rfl) (by kernel_rfl) (fun _ _ _ h => h) (Or.inl ⟨by rfl, ?_⟩) (by assumption) ?_
              rotate_left
              · (intro w hSw; (try dsimp only at hSw); go_simp; try (with_reducible rfl))
              try simp only [sm]
              refine wpAnyH_take (i := 16) (v := ?_) rfl (by kernel_rfl) (by kernel_rfl) (by kernel_rfl) (fun _ _ _ h => h) (Or.inl ⟨by rfl, ?_⟩) (by assumption) ?_
              rotate_left
              · (intro w hSw; (try dsimp only at hSw); go_simp; try (with_reducible rfl))
              try simp only [sm]
              refine wpAnyH_ready (rs := [17]) (by kernel_rfl) (by simp) ?_
              refine AllReadyH.cons rfl (fun K hK => ?_) AllReadyH.nil
              go_simp
              have hC := hCin w5 hS5
              refine hC.mono ?_
              rintro e w6 ⟨rfl, rfl⟩
              refine hK.out _ _ (hmk _ hS5) (fun hHeld => ?_)
              clear hK
              try simp only [sm]
              refine wpAnyH_take (i := 18) (v := ?_) rfl (by kernel_rfl) (by kernel_rfl) (by kernel_rfl) (fun _ _ _ h => h) (Or.inl ⟨by rfl, ?_⟩) (by assumption) ?_
              rotate_left
              · (intro w hSw; (try dsimp only at hSw); go_simp; try (with_reducible rfl))
              try simp only [sm]
              refine wpAnyH_take (i := 19) (v := ?_) rfl (by kernel_rfl) (by kernel_rfl) (by kernel_rfl) (fun _ _ _ h => h) (Or.inl ⟨by rfl, ?_⟩) (by assumption) ?_
              rotate_left
              · (intro w hSw; (try dsimp only at hSw); go_simp; try (with_reducible rfl))
              try simp only [sm]
              refine wpAnyH_done (by kernel_rfl) ?_ _
              have hb5 := hb.trans (hS5.mono hb.size)
              clear hmk
              go_wp2
              go_ret
              exact ⟨by rw [hz.out]; rfl, bA.trans (hb5.mono bA.size)⟩
            | false =>
              have hN2 := hyes.out hn hcn
              have hq0 : decide (0 ≤ q) = false := by
                have := hneg.out; rw [hcn] at this; simp at this ⊢ <;> try omega
              clear hno1 hno2 hyes hneg hcn
              replace hCin := hCin.out
              go_wp2_with fail
              have hmk : ∀ w', Below wr.heap.size wr w' → w'.cell? ⟨m, 1, none⟩ = some (.slice (some ⟨g, o, none⟩) c.nm.length x.nc) ∧ w'.cell? ⟨g, o + i, none⟩ = some (.string T) ∧ Below wr.heap.size wr w' := fun w' hb => ⟨cell_later hb s1, cell_later hb hcell, hb⟩
              clear s1 hcell
              refine wp_region_held_drew (S := (fun w' => w'.cell? ⟨m, 1, none⟩ = some (.slice (some ⟨g, o, none⟩) c.nm.length x.nc) ∧ w'.cell? ⟨g, o + i, none⟩ = some (.string T) ∧ Below wr.heap.size wr w')) (by kernel_rfl) (hmk _ (Drew.below ⟨1, rfl⟩)) (fun hHeld => ?_)
              refine wpAnyH_take (i := 0) (v := ?_) rfl (by kernel_rfl) (by kernel_rfl) (by kernel_rfl) (fun _ _ _ h => h) (Or.inl ⟨by rfl, ?_⟩) (by assumption) ?_
              rotate_left
              · (intro w hSw; (try dsimp only at hSw); go_simp; try (with_reducible rfl))
              try simp only [sm]
              refine wpAnyH_take (i := 1) (v := ?_) rfl (by kernel_rfl) (by kernel_rfl) (by kernel_rfl) (fun _ _ _ h => h) (Or.inl ⟨by rfl, ?_⟩) (by assumption) ?_
              rotate_left
              · (intro w hSw; (try dsimp only at hSw); go_simp; try (with_reducible rfl))
              try simp only [sm]
              refine wpAnyH_take (i := 2) (v := ?_) rfl (by kernel_rfl) (by kernel_rfl) (by kernel_rfl) (fun _ _ _ h => h) (Or.inl ⟨by rfl, ?_⟩) (by assumption) ?_
              rotate_left
              · (intro w hSw; (try dsimp only at hSw); go_simp; try (with_reducible rfl))
              try simp only [sm]
              refine wpAnyH_take (i := 3) (v := ?_) rfl (by kernel_rfl) (by kernel_rfl) (by kernel_rfl) (fun _ _ _ h => h) (Or.inl ⟨by rfl, ?_⟩) (by assumption) ?_
              rotate_left
              · (intro w hSw; (try dsimp only at hSw); go_simp; try (with_reducible rfl))
              try simp only [sm]
              refine wpAnyH_take (i := 4) (v := ?_) rfl (by kernel_rfl) (by kernel_rfl) (by kernel_rfl) (fun _ _ _ h => h) (Or.inl ⟨by rfl, ?_⟩) (by assumption) ?_
              rotate_left
              · (intro w hSw; (try dsimp only at hSw); go_simp; try (with_reducible rfl))
              try simp only [sm]
              refine wpAnyH_ready (rs := [5]) (by kernel_rfl) (by simp) ?_
              refine AllReadyH.cons rfl (fun K hK => ?_) AllReadyH.nil
              go_simp
              refine (Name_any T hTs _).mono ?_
              rintro e w5 ⟨rfl, b5⟩
              rw [hTl.out, hn]
              have hS5 : Below wr.heap.size wr w5 := (Drew.below ⟨1, rfl⟩).trans (b5.mono (Nat.le_refl _))
              refine hK.out _ _ (hmk _ hS5) (fun hHeld => ?_)
              clear hK
              try simp only [sm]
              refine wpAnyH_take (i := 6) (v := ?_) rfl (by kernel_rfl) (by kernel_rfl) (by kernel_rfl) (fun _ _ _ h => h) (Or.inl ⟨by rfl, ?_⟩) (by assumption) ?_
              rotate_left
              · (intro w hSw; (try dsimp only at hSw); go_simp; try (with_reducible rfl))
              try simp only [sm]
              refine wpAnyH_take (i := 7) (v := ?_) rfl (by kernel_rfl) (by kernel_rfl) (by kernel_rfl) (fun _ _ _ h => h) (Or.inl ⟨by rfl, ?_⟩) (by assumption) ?_
              rotate_left
              · (intro w hSw; (try dsimp only at hSw); go_simp; try (with_reducible rfl))
              try simp only [sm]
              refine wpAnyH_take (i := 8) (v := ?_) rfl (by kernel_rfl) (by kernel_rfl) (by kernel_rfl) (fun _ _ _ h => h) (Or.inl ⟨by rfl, ?_⟩) (by assumption) ?_
              rotate_left
              · (intro w hSw; (try dsimp only at hSw); go_simp; try (with_reducible rfl))
              try simp only [sm]
              refine wpAnyH_take (i := 9) (v := ?_) rfl (by kernel_rfl) (by kernel_rfl) (by kernel_rfl) (fun _ _ _ h => h) (Or.inl ⟨by rfl, ?_⟩) (by assumption) ?_
              rotate_left
              · (intro w hSw; (try dsimp only at hSw); go_simp; try (with_reducible rfl))
              try simp only [sm]
              refine wpAnyH_take (i := 10) (v := ?_) rfl (by kernel_rfl) (by kernel_rfl) (by kernel_rfl) (fun _ _ _ h => h) (Or.inl ⟨by rfl, ?_⟩) (by assumption) ?_
              rotate_left
              · (intro w hSw; (try dsimp only at hSw); go_simp; try (with_reducible rfl))
              try simp only [sm]
              refine wpAnyH_take (i := 11) (v := ?_) rfl (by kernel_rfl) (by kernel_rfl) (by kernel_rfl) (fun _ _ _ h => h) (Or.inl ⟨by rfl, ?_⟩) (by assumption) ?_
              rotate_left
              · (intro w hSw; (try dsimp only at hSw); go_simp; try (with_reducible rfl))
              try simp only [sm]
              refine wpAnyH_take (i := 12) (v := ?_) rfl (by kernel_rfl) (by kernel_rfl) (by kernel_rfl) (fun _ _ _ h => h) (Or.inl ⟨by rfl, ?_⟩) (by assumption) ?_
              rotate_left
              · (intro w hSw; (try dsimp only at hSw); go_simp; try (with_reducible rfl))
              try simp only [sm]
              refine wpAnyH_take (i := 13) (v := ?_) rfl (by kernel_rfl) (by kernel_rfl) (by kernel_rfl) (fun _ _ _ h => h) (Or.inl ⟨by rfl, ?_⟩) (by assumption) ?_
              rotate_left
              · (intro w hSw; (try dsimp only at hSw); go_simp; try (with_reducible rfl))
              try simp only [sm]
              refine wpAnyH_take (i := 14) (v := ?_) rfl (by kernel_rfl) (by kernel_rfl) (by kernel_rfl) (fun _ _ _ h => h) (Or.inl ⟨by rfl, ?_⟩) (by assumption) ?_
              rotate_left
              · (intro w hSw; (try dsimp only at hSw); go_simp; try (with_reducible rfl))
              try simp only [sm]
              refine wpAnyH_take (i := 15) (v := ?_) rfl (by kernel_rfl) (by kernel_rfl) (by kernel_rfl) (fun _ _ _ h => h) (Or.inl ⟨by rfl, ?_⟩) (by assumption) ?_
              rotate_left
              · (intro w hSw; (try dsimp only at hSw); go_simp; try (with_reducible rfl))
              try simp only [sm]
              refine wpAnyH_take (i := 16) (v := ?_) rfl (by kernel_rfl) (by kernel_rfl) (by kernel_rfl) (fun _ _ _ h => h) (Or.inl ⟨by rfl, ?_⟩) (by assumption) ?_
              rotate_left
              · (intro w hSw; (try dsimp only at hSw); go_simp; try (with_reducible rfl))
              try simp only [sm]
              refine wpAnyH_ready (rs := [17]) (by kernel_rfl) (by simp) ?_
              refine AllReadyH.cons rfl (fun K hK => ?_) AllReadyH.nil
              go_simp
              have hC := hCin w5 hS5
              refine hC.mono ?_
              rintro e w6 ⟨rfl, rfl⟩
              refine hK.out _ _ (hmk _ hS5) (fun hHeld => ?_)
              clear hK
              try simp only [sm]
              refine wpAnyH_take (i := 18) (v := ?_) rfl (by kernel_rfl) (by kernel_rfl) (by kernel_rfl) (fun _ _ _ h => h) (Or.inl ⟨by rfl, ?_⟩) (by assumption) ?_
              rotate_left
              · (intro w hSw; (try dsimp only at hSw); go_simp; try (with_reducible rfl))
              try simp only [sm]
              refine wpAnyH_take (i := 19) (v := ?_) rfl (by kernel_rfl) (by kernel_rfl) (by kernel_rfl) (fun _ _ _ h => h) (Or.inl ⟨by rfl, ?_⟩) (by assumption) ?_
              rotate_left
              · (intro w hSw; (try dsimp only at hSw); go_simp; try (with_reducible rfl))
              try simp only [sm]
              refine wpAnyH_done (by kernel_rfl) ?_ _
              have hb5 := hb.trans (hS5.mono hb.size)
              clear hmk
              clear hCin
              go_wp2_with fail
              go_roundw
              case rel => exact ⟨i + 1, by omega, by go_num, hN2, hb5⟩
              case measure => simp only [iOf]; omega
        · have hie : i = c.nm.length := by omega
          subst hie
          have hz : Hid (R = true) := Lib.hid (by
            rw [← hR.out]
            exact B_of ⟨h1, h2, fun l hl => by obtain ⟨j, hj, rfl⟩ := List.getElem_of_mem hl; exact hI.out j hj hj, fun j hj => hN.out j hj hj⟩)
          have hic2 : ¬ ((c.nm.length : Int) < (c.nm.length : Int)) := by omega
          clear hR hI hN
          go_wp2
          go_ret
          exact ⟨by rw [hz.out]; rfl, bA.trans (hb.mono bA.size)⟩
end Go.Proofs.YtnbgadndkepomaaGreatDoor

namespace Go.Proofs.YtnbgadndkepomaaGreatDoor
open Go.RowKit

theorem wrap0 {a b : Nat} (ha : a ≤ maxLen) (hb : b ≤ maxLen) : (IntKind.i64.wrap ((a : Int) + b) == 0) = decide (a + b = 0) := by
  unfold maxLen at ha hb
  by_cases h : (a : Int) + b ≤ 9223372036854775807
  · rw [IntWalk.i64_in _ (by omega), Bool.eq_iff_iff]
    simp; omega
  · have h2 : IntKind.i64.wrap ((a : Int) + b) = (a : Int) + b - 18446744073709551616 := by
      simp [IntKind.wrap, IntKind.signed, IntKind.bits]
      omega
    rw [h2, Bool.eq_iff_iff]
    simp; omega
theorem wrap0p {a b : Nat} (ha : a ≤ maxLen) (hb : b ≤ maxLen) : wrap64 ((a : Int) + b) = 0 ↔ a + b = 0 := by
  unfold maxLen at ha hb
  unfold wrap64
  omega
theorem end_setup {W : World} {c : Cd} {x : Sl} (hx : CdAt W c x) (hb : BlocksP c) (hin : c.ins.length ≤ 3000) (kd ya yt ye : Int) (ta ea : List Int) (yn yp : Int) (TA EA : Option Addr) (tc ec : Nat) (hl : EndL W ⟨kd, ya, yt, ye, ta, ea, yn, yp⟩ TA EA tc ec) :
    ∃ X, Hid ((W.alloc (.cells #[.slice x.S c.st.length x.sc, .slice x.N c.nm.length x.nc, .slice x.I c.ins.length x.ic, .slice x.K c.bk.length x.kc] 27)).alloc (.cells #[.int .i64 kd, .int .i64 ya, .int .i64 yt, .int .i64 ye, .slice TA ta.length tc, .slice EA ea.length ec, .int .i64 yn, .int .i64 yp] 41) = X) ∧ Below W.heap.size W X ∧ (∀ (w1 : World), Below W.heap.size W w1 → ∀ tg, Calls Tryz.prog 64 #[.agg #[.slice x.S c.st.length x.sc, .slice x.N c.nm.length x.nc, .slice x.I c.ins.length x.ic, .slice x.K c.bk.length x.kc], .int .i64 tg, .slice TA ta.length tc] w1 fun e w' => e = .returned (.bool (B (PassR c tg ta))) ∧ Below w1.heap.size w1 w') ∧ (∀ (w1 : World), Below W.heap.size W w1 → ∀ tg, Calls Tryz.prog 64 #[.agg #[.slice x.S c.st.length x.sc, .slice x.N c.nm.length x.nc, .slice x.I c.ins.length x.ic, .slice x.K c.bk.length x.kc], .int .i64 tg, .slice EA ea.length ec] w1 fun e w' => e = .returned (.bool (B (PassR c tg ea))) ∧ Below w1.heap.size w1 w') ∧
      (∀ (w1 : World), Below W.heap.size W w1 → ∀ v, Calls Tryz.prog 61 #[.agg #[.slice x.S c.st.length x.sc, .slice x.N c.nm.length x.nc, .slice x.I c.ins.length x.ic, .slice x.K c.bk.length x.kc], .int .i64 v] w1 fun e w' => e = .returned (.int .i64 (wOf c v)) ∧ Below w1.heap.size w1 w') ∧ Hid (wrap64 ((ta.length : Int) + ea.length) = 0 ↔ ta.length + ea.length = 0) ∧ Hid (EndR c ⟨kd, ya, yt, ye, ta, ea, yn, yp⟩ ↔ (plcB yp = true ∧ ((kd = 1 ∧ ya = 0 ∧ ye = 0 ∧ ea.length = 0 ∧ yn = 0 ∧ PassR c yt ta) ∨ (kd = 2 ∧ yn = 0 ∧ wOf c ya = 1 ∧ PassR c yt ta ∧ PassR c ye ea) ∨
    ((kd = 3 ∨ kd = 4) ∧ ya = 0 ∧ yt = 0 ∧ ye = 0 ∧ ta.length + ea.length = 0 ∧ 0 ≤ yn ∧ yn ≤ 255 ∧ (kd = 4 ∨ yn = 0))))) ∧
      X.cell? ⟨W.heap.size + 1, 0, none⟩ = some (.int .i64 kd) ∧ X.cell? ⟨W.heap.size + 1, 1, none⟩ = some (.int .i64 ya) ∧ X.cell? ⟨W.heap.size + 1, 2, none⟩ = some (.int .i64 yt) ∧ X.cell? ⟨W.heap.size + 1, 3, none⟩ = some (.int .i64 ye) ∧ X.cell? ⟨W.heap.size + 1, 4, none⟩ = some (.slice TA ta.length tc) ∧ X.cell? ⟨W.heap.size + 1, 5, none⟩ = some (.slice EA ea.length ec) ∧ X.cell? ⟨W.heap.size + 1, 6, none⟩ = some (.int .i64 yn) ∧ X.cell? ⟨W.heap.size + 1, 7, none⟩ = some (.int .i64 yp) ∧ X.cell? ⟨W.heap.size, 0, none⟩ = some (.slice x.S c.st.length x.sc) ∧ X.cell? ⟨W.heap.size, 1, none⟩ = some (.slice x.N c.nm.length x.nc) ∧ X.cell? ⟨W.heap.size, 2, none⟩ = some (.slice x.I c.ins.length x.ic) ∧ X.cell? ⟨W.heap.size, 3, none⟩ = some (.slice x.K c.bk.length x.kc) ∧ Box X W.heap.size 27 #[.slice x.S c.st.length x.sc, .slice x.N c.nm.length x.nc, .slice x.I c.ins.length x.ic, .slice x.K c.bk.length x.kc] ∧ Box X (W.heap.size + 1) 41 #[.int .i64 kd, .int .i64 ya, .int .i64 yt, .int .i64 ye, .slice TA ta.length tc, .slice EA ea.length ec, .int .i64 yn, .int .i64 yp] := by
  unfold EndL at hl
  simp only at hl
  obtain ⟨X, hX⟩ : ∃ X, Hid ((W.alloc (.cells #[.slice x.S c.st.length x.sc, .slice x.N c.nm.length x.nc, .slice x.I c.ins.length x.ic, .slice x.K c.bk.length x.kc] 27)).alloc (.cells #[.int .i64 kd, .int .i64 ya, .int .i64 yt, .int .i64 ye, .slice TA ta.length tc, .slice EA ea.length ec, .int .i64 yn, .int .i64 yp] 41) = X) := ⟨_, Lib.hid rfl⟩
  have bA1 : Below W.heap.size W (W.alloc (.cells #[.slice x.S c.st.length x.sc, .slice x.N c.nm.length x.nc, .slice x.I c.ins.length x.ic, .slice x.K c.bk.length x.kc] 27)) := (Below.refl _ _).alloc (Nat.le_refl _) _
  have bA : Below W.heap.size W X := by rw [← hX.out]; exact bA1.alloc bA1.size _
  have N1 : Box X W.heap.size 27 #[.slice x.S c.st.length x.sc, .slice x.N c.nm.length x.nc, .slice x.I c.ins.length x.ic, .slice x.K c.bk.length x.kc] := by rw [← hX.out]; exact (Box.new W _ _).alloc _
  have N2 : Box X (W.heap.size + 1) 41 #[.int .i64 kd, .int .i64 ya, .int .i64 yt, .int .i64 ye, .slice TA ta.length tc, .slice EA ea.length ec, .int .i64 yn, .int .i64 yp] := by rw [← hX.out]; exact Box.newAt (by simp) _ _
  have hPas : ∀ (w1 : World), Below W.heap.size W w1 → ∀ tg, Calls Tryz.prog 64 #[.agg #[.slice x.S c.st.length x.sc, .slice x.N c.nm.length x.nc, .slice x.I c.ins.length x.ic, .slice x.K c.bk.length x.kc], .int .i64 tg, .slice TA ta.length tc] w1 fun e w' => e = .returned (.bool (B (PassR c tg ta))) ∧ Below w1.heap.size w1 w' := fun w1 h1 tg => rpasses_any (hx.later h1) hb hin tg ta TA tc (hl.1.later h1) hl.2.2.1
  have hPel : ∀ (w1 : World), Below W.heap.size W w1 → ∀ tg, Calls Tryz.prog 64 #[.agg #[.slice x.S c.st.length x.sc, .slice x.N c.nm.length x.nc, .slice x.I c.ins.length x.ic, .slice x.K c.bk.length x.kc], .int .i64 tg, .slice EA ea.length ec] w1 fun e w' => e = .returned (.bool (B (PassR c tg ea))) ∧ Below w1.heap.size w1 w' := fun w1 h1 tg => rpasses_any (hx.later h1) hb hin tg ea EA ec (hl.2.1.later h1) hl.2.2.2.1
  have hInt : ∀ (w1 : World), Below W.heap.size W w1 → ∀ v, Calls Tryz.prog 61 #[.agg #[.slice x.S c.st.length x.sc, .slice x.N c.nm.length x.nc, .slice x.I c.ins.length x.ic, .slice x.K c.bk.length x.kc], .int .i64 v] w1 fun e w' => e = .returned (.int .i64 (wOf c v)) ∧ Below w1.heap.size w1 w' := fun w1 h1 v => rInt_any (hx.later h1) v
  have hta : ta.length ≤ maxLen := Nat.le_trans hl.2.2.1.1 hl.2.2.1.2
  have hea : ea.length ≤ maxLen := Nat.le_trans hl.2.2.2.1.1 hl.2.2.2.1.2
  have hadd := wrap0p hta hea
  replace hadd := Lib.hid hadd
  have hdef : EndR c ⟨kd, ya, yt, ye, ta, ea, yn, yp⟩ ↔ (plcB yp = true ∧ ((kd = 1 ∧ ya = 0 ∧ ye = 0 ∧ ea.length = 0 ∧ yn = 0 ∧ PassR c yt ta) ∨ (kd = 2 ∧ yn = 0 ∧ wOf c ya = 1 ∧ PassR c yt ta ∧ PassR c ye ea) ∨
    ((kd = 3 ∨ kd = 4) ∧ ya = 0 ∧ yt = 0 ∧ ye = 0 ∧ ta.length + ea.length = 0 ∧ 0 ≤ yn ∧ yn ≤ 255 ∧ (kd = 4 ∨ yn = 0)))) := by
    unfold EndR Plc plcB
    rw [decide_eq_true_iff]
  have hdef := Lib.hid hdef
  have e0 := N2.cell 0
  have e1 := N2.cell 1
  have e2 := N2.cell 2
  have e3 := N2.cell 3
  have e4 := N2.cell 4
  have e5 := N2.cell 5
  have e6 := N2.cell 6
  have e7 := N2.cell 7
  have v0 := N1.cell 0
  have v1 := N1.cell 1
  have v2 := N1.cell 2
  have v3 := N1.cell 3
  exact ⟨X, hX, bA, hPas, hPel, hInt, hadd, hdef, e0, e1, e2, e3, e4, e5, e6, e7, v0, v1, v2, v3, N1, N2⟩
set_option maxRecDepth 100000 in
set_option maxHeartbeats 6400000 in
theorem rend_plc {W : World} {c : Cd} {x : Sl} (hx : CdAt W c x) (hb : BlocksP c) (hin : c.ins.length ≤ 3000) (y : CEn) (TA EA : Option Addr) (tc ec : Nat) (hl : EndL W y TA EA tc ec) (hpl : plcB y.at_ = false) :
    Calls Tryz.prog 40 #[.agg #[.slice x.S c.st.length x.sc, .slice x.N c.nm.length x.nc, .slice x.I c.ins.length x.ic, .slice x.K c.bk.length x.kc], .agg #[.int .i64 y.kind, .int .i64 y.a, .int .i64 y.to, .int .i64 y.els, .slice TA y.ta.length tc, .slice EA y.ea.length ec, .int .i64 y.n, .int .i64 y.at_]] W fun e w' => e = .returned (.bool (B (EndR c y))) ∧ Below W.heap.size W w' := by
  obtain ⟨kd, ya, yt, ye, ta, ea, yn, yp⟩ := y
  simp only at *
  obtain ⟨X, hX, bA, hPas, hPel, hInt, hadd, hdef, e0, e1, e2, e3, e4, e5, e6, e7, v0, v1, v2, v3, N1, N2⟩ := end_setup hx hb hin kd ya yt ye ta ea yn yp TA EA tc ec hl
  generalize EndR c ⟨kd, ya, yt, ye, ta, ea, yn, yp⟩ = E at hdef ⊢
  clear hx hb hin hl
  have hz : Hid (B E = false) := Lib.hid (B_not (fun h => by have := (hdef.out.1 h).1; rw [hpl] at this; cases this))
  clear hdef hPas hPel hInt
  go_enter Tryz.func40, Tryz.ntmps40
  go_upto_region 1 with fail
  simp only [hX.out]
  go_wp2_with fail
  refine (rplace_any _ _).mono ?_
  rintro e' w1 ⟨rfl, rfl⟩
  rw [hpl]
  go_wp2
  go_ret
  exact ⟨by rw [hz.out]; rfl, bA⟩
set_option maxRecDepth 100000 in
set_option maxHeartbeats 6400000 in
theorem rend_k0 {W : World} {c : Cd} {x : Sl} (hx : CdAt W c x) (hb : BlocksP c) (hin : c.ins.length ≤ 3000) (y : CEn) (TA EA : Option Addr) (tc ec : Nat) (hl : EndL W y TA EA tc ec) (hpl : plcB y.at_ = true) (k1 : ¬ y.kind = 1) (k2 : ¬ y.kind = 2) (k3 : ¬ y.kind = 3) (k4 : ¬ y.kind = 4) :
    Calls Tryz.prog 40 #[.agg #[.slice x.S c.st.length x.sc, .slice x.N c.nm.length x.nc, .slice x.I c.ins.length x.ic, .slice x.K c.bk.length x.kc], .agg #[.int .i64 y.kind, .int .i64 y.a, .int .i64 y.to, .int .i64 y.els, .slice TA y.ta.length tc, .slice EA y.ea.length ec, .int .i64 y.n, .int .i64 y.at_]] W fun e w' => e = .returned (.bool (B (EndR c y))) ∧ Below W.heap.size W w' := by
  obtain ⟨kd, ya, yt, ye, ta, ea, yn, yp⟩ := y
  simp only at *
  obtain ⟨X, hX, bA, hPas, hPel, hInt, hadd, hdef, e0, e1, e2, e3, e4, e5, e6, e7, v0, v1, v2, v3, N1, N2⟩ := end_setup hx hb hin kd ya yt ye ta ea yn yp TA EA tc ec hl
  generalize EndR c ⟨kd, ya, yt, ye, ta, ea, yn, yp⟩ = E at hdef ⊢
  clear hx hb hin hl
  have c1 : (kd == 1) = false := by simpa using k1
  have c2 : (kd == 2) = false := by simpa using k2
  have c3 : (kd == 3) = false := by simpa using k3
  have c4 : (kd == 4) = false := by simpa using k4
  have hz : Hid (B E = false) := Lib.hid (B_not (fun h => by obtain ⟨_, h1 | h1 | h1⟩ := hdef.out.1 h <;> omega))
  clear hdef hPas hPel hInt k1 k2 k3 k4
  go_enter Tryz.func40, Tryz.ntmps40
  go_upto_region 1 with fail
  simp only [hX.out]
  go_wp2_with fail
  refine (rplace_any _ _).mono ?_
  rintro e' w1 ⟨rfl, rfl⟩
  rw [hpl]
  go_wp2
  go_ret
  exact ⟨by rw [hz.out]; rfl, bA⟩
set_option maxRecDepth 100000 in
set_option maxHeartbeats 6400000 in
theorem rend_k1 {W : World} {c : Cd} {x : Sl} (hx : CdAt W c x) (hb : BlocksP c) (hin : c.ins.length ≤ 3000) (y : CEn) (TA EA : Option Addr) (tc ec : Nat) (hl : EndL W y TA EA tc ec) (hpl : plcB y.at_ = true) (k1 : y.kind = 1) :
    Calls Tryz.prog 40 #[.agg #[.slice x.S c.st.length x.sc, .slice x.N c.nm.length x.nc, .slice x.I c.ins.length x.ic, .slice x.K c.bk.length x.kc], .agg #[.int .i64 y.kind, .int .i64 y.a, .int .i64 y.to, .int .i64 y.els, .slice TA y.ta.length tc, .slice EA y.ea.length ec, .int .i64 y.n, .int .i64 y.at_]] W fun e w' => e = .returned (.bool (B (EndR c y))) ∧ Below W.heap.size W w' := by
  obtain ⟨kd, ya, yt, ye, ta, ea, yn, yp⟩ := y
  simp only at *
  obtain ⟨X, hX, bA, hPas, hPel, hInt, hadd, hdef, e0, e1, e2, e3, e4, e5, e6, e7, v0, v1, v2, v3, N1, N2⟩ := end_setup hx hb hin kd ya yt ye ta ea yn yp TA EA tc ec hl
  generalize EndR c ⟨kd, ya, yt, ye, ta, ea, yn, yp⟩ = E at hdef ⊢
  clear hx hb hin hl
  subst k1
  by_cases a1 : ya = 0
  · have ta1 : (ya == 0) = true := by first | (rw [hadd.out]; exact a1) | (simp; done) | (simp; omega) | simpa using a1
    by_cases a2 : ye = 0
    · have ta2 : (ye == 0) = true := by first | (rw [hadd.out]; exact a2) | (simp; done) | (simp; omega) | simpa using a2
      by_cases a3 : ea.length = 0
      · have ta3 : ((ea.length : Int) == 0) = true := by first | (rw [hadd.out]; exact a3) | (simp; done) | (simp; omega) | simpa using a3
        by_cases a4 : yn = 0
        · have ta4 : (yn == 0) = true := by first | (rw [hadd.out]; exact a4) | (simp; done) | (simp; omega) | simpa using a4
          have hz : Hid (B E = B (PassR c yt ta)) := Lib.hid (B_congr ⟨fun h => by
            obtain ⟨_, h1 | h1 | h1⟩ := hdef.out.1 h
            · exact h1.2.2.2.2.2
            · omega
            · omega, fun h => hdef.out.2 ⟨hpl, Or.inl ⟨rfl, a1, a2, a3, a4, h⟩⟩⟩)
          have hP := hPas X bA yt
          clear hdef hPas hPel hInt a1 a2 a3 a4
          go_enter Tryz.func40, Tryz.ntmps40
          go_upto_region 1 with fail
          simp only [hX.out]
          go_wp2_with fail
          refine (rplace_any _ _).mono ?_
          rintro e' w1 ⟨rfl, rfl⟩
          rw [hpl]
          go_wp2_with fail
          refine hP.mono ?_
          rintro e' w2 ⟨rfl, b2⟩
          clear hP
          generalize B (PassR c yt ta) = q at hz ⊢
          go_wp2
          go_ret
          exact ⟨by rw [hz.out]; rfl, bA.trans (b2.mono bA.size)⟩
        · have ta4 : (yn == 0) = false := by first | (rw [hadd.out]; exact a4) | (simp; done) | (simp; omega) | simpa using a4
          have hz : Hid (B E = false) := Lib.hid (B_not (fun h => by obtain ⟨_, h1 | h1 | h1⟩ := hdef.out.1 h <;> omega))
          clear hdef hPas hPel hInt a1 a2 a3 a4
          go_enter Tryz.func40, Tryz.ntmps40
          go_upto_region 1 with fail
          simp only [hX.out]
          go_wp2_with fail
          refine (rplace_any _ _).mono ?_
          rintro e' w1 ⟨rfl, rfl⟩
          rw [hpl]
          go_wp2
          go_ret
          exact ⟨by rw [hz.out]; rfl, bA⟩
      · have ta3 : ((ea.length : Int) == 0) = false := by first | (rw [hadd.out]; exact a3) | (simp; done) | (simp; omega) | simpa using a3
        have hz : Hid (B E = false) := Lib.hid (B_not (fun h => by obtain ⟨_, h1 | h1 | h1⟩ := hdef.out.1 h <;> omega))
        clear hdef hPas hPel hInt a1 a2 a3
        go_enter Tryz.func40, Tryz.ntmps40
        go_upto_region 1 with fail
        simp only [hX.out]
        go_wp2_with fail
        refine (rplace_any _ _).mono ?_
        rintro e' w1 ⟨rfl, rfl⟩
        rw [hpl]
        go_wp2
        go_ret
        exact ⟨by rw [hz.out]; rfl, bA⟩
    · have ta2 : (ye == 0) = false := by first | (rw [hadd.out]; exact a2) | (simp; done) | (simp; omega) | simpa using a2
      have hz : Hid (B E = false) := Lib.hid (B_not (fun h => by obtain ⟨_, h1 | h1 | h1⟩ := hdef.out.1 h <;> omega))
      clear hdef hPas hPel hInt a1 a2
      go_enter Tryz.func40, Tryz.ntmps40
      go_upto_region 1 with fail
      simp only [hX.out]
      go_wp2_with fail
      refine (rplace_any _ _).mono ?_
      rintro e' w1 ⟨rfl, rfl⟩
      rw [hpl]
      go_wp2
      go_ret
      exact ⟨by rw [hz.out]; rfl, bA⟩
  · have ta1 : (ya == 0) = false := by first | (rw [hadd.out]; exact a1) | (simp; done) | (simp; omega) | simpa using a1
    have hz : Hid (B E = false) := Lib.hid (B_not (fun h => by obtain ⟨_, h1 | h1 | h1⟩ := hdef.out.1 h <;> omega))
    clear hdef hPas hPel hInt a1
    go_enter Tryz.func40, Tryz.ntmps40
    go_upto_region 1 with fail
    simp only [hX.out]
    go_wp2_with fail
    refine (rplace_any _ _).mono ?_
    rintro e' w1 ⟨rfl, rfl⟩
    rw [hpl]
    go_wp2
    go_ret
    exact ⟨by rw [hz.out]; rfl, bA⟩
set_option maxRecDepth 100000 in
set_option maxHeartbeats 6400000 in
theorem rend_k2 {W : World} {c : Cd} {x : Sl} (hx : CdAt W c x) (hb : BlocksP c) (hin : c.ins.length ≤ 3000) (y : CEn) (TA EA : Option Addr) (tc ec : Nat) (hl : EndL W y TA EA tc ec) (hpl : plcB y.at_ = true) (k1 : y.kind = 2) :
    Calls Tryz.prog 40 #[.agg #[.slice x.S c.st.length x.sc, .slice x.N c.nm.length x.nc, .slice x.I c.ins.length x.ic, .slice x.K c.bk.length x.kc], .agg #[.int .i64 y.kind, .int .i64 y.a, .int .i64 y.to, .int .i64 y.els, .slice TA y.ta.length tc, .slice EA y.ea.length ec, .int .i64 y.n, .int .i64 y.at_]] W fun e w' => e = .returned (.bool (B (EndR c y))) ∧ Below W.heap.size W w' := by
  obtain ⟨kd, ya, yt, ye, ta, ea, yn, yp⟩ := y
  simp only at *
  obtain ⟨X, hX, bA, hPas, hPel, hInt, hadd, hdef, e0, e1, e2, e3, e4, e5, e6, e7, v0, v1, v2, v3, N1, N2⟩ := end_setup hx hb hin kd ya yt ye ta ea yn yp TA EA tc ec hl
  generalize EndR c ⟨kd, ya, yt, ye, ta, ea, yn, yp⟩ = E at hdef ⊢
  clear hx hb hin hl
  subst k1
  by_cases a1 : yn = 0
  · have ta1 : (yn == 0) = true := by first | (rw [hadd.out]; exact a1) | (simp; done) | (simp; omega) | simpa using a1
    have hI := hInt X bA ya
    by_cases a2 : wOf c ya = 1
    · have ta2 : (wOf c ya == 1) = true := by simpa using a2
      have hz0 : Hid (B E = (B (PassR c yt ta) && B (PassR c ye ea))) := Lib.hid (by
        rw [Bool.eq_iff_iff, Bool.and_eq_true, B_true, B_true, B_true]
        constructor
        · intro h
          obtain ⟨_, h1 | h1 | h1⟩ := hdef.out.1 h
          · omega
          · exact ⟨h1.2.2.2.1, h1.2.2.2.2⟩
          · omega
        · intro h
          exact hdef.out.2 ⟨hpl, Or.inr (Or.inl ⟨rfl, a1, a2, h.1, h.2⟩)⟩)
      clear hdef a1 a2
      generalize wOf c ya = z at hI ta2
      go_enter Tryz.func40, Tryz.ntmps40
      go_upto_region 1 with fail
      simp only [hX.out]
      go_wp2_with fail
      refine (rplace_any _ _).mono ?_
      rintro e' w1 ⟨rfl, rfl⟩
      rw [hpl]
      go_wp2_with fail
      refine hI.mono ?_
      rintro e' w2 ⟨rfl, b2⟩
      have N1 := N1.below b2
      have N2 := N2.below b2
      have b2 := bA.trans (b2.mono bA.size)
      have hP := hPas w2 b2 yt
      have hQ : ∀ w3, Below w2.heap.size w2 w3 → _ := fun w3 h3 => hPel w3 (b2.trans (h3.mono b2.size)) ye
      have f2 := N2.cell 2
      have f3 := N2.cell 3
      have f4 := N2.cell 4
      have f5 := N2.cell 5
      have f6 := N2.cell 6
      have g0 := N1.cell 0
      have g1 := N1.cell 1
      have g2 := N1.cell 2
      have g3 := N1.cell 3
      clear hI hPas hPel hInt e0 e1 e2 e3 e4 e5 e6 e7 v0 v1 v2 v3
      go_wp2_with fail
      refine hP.mono ?_
      rintro e' w3 ⟨rfl, b3⟩
      have hQ := hQ w3 b3
      have N1 := N1.below b3
      have N2 := N2.below b3
      have b3 := b2.trans (b3.mono b2.size)
      have k3 := N2.cell 3
      have k5 := N2.cell 5
      have m0 := N1.cell 0
      have m1 := N1.cell 1
      have m2 := N1.cell 2
      have m3 := N1.cell 3
      clear hP f2 f3 f4 f5 f6 g0 g1 g2 g3
      cases hb1 : B (PassR c yt ta) with
      | false =>
        rw [hb1] at hz0
        have hz : Hid (B E = false) := Lib.hid (by rw [hz0.out]; rfl)
        clear hQ
        go_wp2
        go_ret
        exact ⟨by rw [hz.out]; rfl, b3⟩
      | true =>
        rw [hb1] at hz0
        have hz : Hid (B E = B (PassR c ye ea)) := Lib.hid (by rw [hz0.out]; rfl)
        clear hz0
        go_wp2_with fail
        refine hQ.mono ?_
        rintro e' w4 ⟨rfl, b4⟩
        clear hQ
        generalize B (PassR c ye ea) = q at hz ⊢
        go_wp2
        go_ret
        exact ⟨by rw [hz.out]; rfl, b3.trans (b4.mono b3.size)⟩
    · have ta2 : (wOf c ya == 1) = false := by simpa using a2
      have hz : Hid (B E = false) := Lib.hid (B_not (fun h => by obtain ⟨_, h1 | h1 | h1⟩ := hdef.out.1 h; omega; exact a2 h1.2.2.1; omega))
      clear hdef hPas hPel hInt a1 a2
      generalize wOf c ya = z at hI ta2
      go_enter Tryz.func40, Tryz.ntmps40
      go_upto_region 1 with fail
      simp only [hX.out]
      go_wp2_with fail
      refine (rplace_any _ _).mono ?_
      rintro e' w1 ⟨rfl, rfl⟩
      rw [hpl]
      go_wp2_with fail
      refine hI.mono ?_
      rintro e' w2 ⟨rfl, b2⟩
      clear hI
      go_wp2
      go_ret
      exact ⟨by rw [hz.out]; rfl, bA.trans (b2.mono bA.size)⟩
  · have ta1 : (yn == 0) = false := by first | (rw [hadd.out]; exact a1) | (simp; done) | (simp; omega) | simpa using a1
    have hz : Hid (B E = false) := Lib.hid (B_not (fun h => by obtain ⟨_, h1 | h1 | h1⟩ := hdef.out.1 h <;> omega))
    clear hdef hPas hPel hInt a1
    go_enter Tryz.func40, Tryz.ntmps40
    go_upto_region 1 with fail
    simp only [hX.out]
    go_wp2_with fail
    refine (rplace_any _ _).mono ?_
    rintro e' w1 ⟨rfl, rfl⟩
    rw [hpl]
    go_wp2
    go_ret
    exact ⟨by rw [hz.out]; rfl, bA⟩
set_option maxRecDepth 100000 in
set_option maxHeartbeats 6400000 in
theorem rend_k3_0 {W : World} {c : Cd} {x : Sl} (hx : CdAt W c x) (hb : BlocksP c) (hin : c.ins.length ≤ 3000) (y : CEn) (TA EA : Option Addr) (tc ec : Nat) (hl : EndL W y TA EA tc ec) (hpl : plcB y.at_ = true) (k1 : y.kind = 3) (a1 : ¬ y.a = 0) :
    Calls Tryz.prog 40 #[.agg #[.slice x.S c.st.length x.sc, .slice x.N c.nm.length x.nc, .slice x.I c.ins.length x.ic, .slice x.K c.bk.length x.kc], .agg #[.int .i64 y.kind, .int .i64 y.a, .int .i64 y.to, .int .i64 y.els, .slice TA y.ta.length tc, .slice EA y.ea.length ec, .int .i64 y.n, .int .i64 y.at_]] W fun e w' => e = .returned (.bool (B (EndR c y))) ∧ Below W.heap.size W w' := by
  obtain ⟨kd, ya, yt, ye, ta, ea, yn, yp⟩ := y
  simp only at *
  obtain ⟨X, hX, bA, hPas, hPel, hInt, hadd, hdef, e0, e1, e2, e3, e4, e5, e6, e7, v0, v1, v2, v3, N1, N2⟩ := end_setup hx hb hin kd ya yt ye ta ea yn yp TA EA tc ec hl
  generalize EndR c ⟨kd, ya, yt, ye, ta, ea, yn, yp⟩ = E at hdef ⊢
  clear hx hb hin hl
  subst k1
  have ta1 : (ya == 0) = false := by first | (rw [hadd.out]; exact a1) | (simp; done) | (simp; omega) | simpa using a1
  have hz : Hid (B E = false) := Lib.hid (B_not (fun h => by obtain ⟨_, h1 | h1 | h1⟩ := hdef.out.1 h <;> omega))
  clear hdef hPas hPel hInt a1
  go_enter Tryz.func40, Tryz.ntmps40
  go_upto_region 1 with fail
  simp only [hX.out]
  go_wp2_with fail
  refine (rplace_any _ _).mono ?_
  rintro e' w1 ⟨rfl, rfl⟩
  rw [hpl]
  go_wp2
  go_ret
  exact ⟨by rw [hz.out]; rfl, bA⟩
set_option maxRecDepth 100000 in
set_option maxHeartbeats 6400000 in
theorem rend_k3_1 {W : World} {c : Cd} {x : Sl} (hx : CdAt W c x) (hb : BlocksP c) (hin : c.ins.length ≤ 3000) (y : CEn) (TA EA : Option Addr) (tc ec : Nat) (hl : EndL W y TA EA tc ec) (hpl : plcB y.at_ = true) (k1 : y.kind = 3) (a1 : y.a = 0) (a2 : ¬ y.to = 0) :
    Calls Tryz.prog 40 #[.agg #[.slice x.S c.st.length x.sc, .slice x.N c.nm.length x.nc, .slice x.I c.ins.length x.ic, .slice x.K c.bk.length x.kc], .agg #[.int .i64 y.kind, .int .i64 y.a, .int .i64 y.to, .int .i64 y.els, .slice TA y.ta.length tc, .slice EA y.ea.length ec, .int .i64 y.n, .int .i64 y.at_]] W fun e w' => e = .returned (.bool (B (EndR c y))) ∧ Below W.heap.size W w' := by
  obtain ⟨kd, ya, yt, ye, ta, ea, yn, yp⟩ := y
  simp only at *
  obtain ⟨X, hX, bA, hPas, hPel, hInt, hadd, hdef, e0, e1, e2, e3, e4, e5, e6, e7, v0, v1, v2, v3, N1, N2⟩ := end_setup hx hb hin kd ya yt ye ta ea yn yp TA EA tc ec hl
  generalize EndR c ⟨kd, ya, yt, ye, ta, ea, yn, yp⟩ = E at hdef ⊢
  clear hx hb hin hl
  subst k1
  have ta1 : (ya == 0) = true := by first | (rw [hadd.out]; exact a1) | (simp; done) | (simp; omega) | simpa using a1
  have ta2 : (yt == 0) = false := by first | (rw [hadd.out]; exact a2) | (simp; done) | (simp; omega) | simpa using a2
  have hz : Hid (B E = false) := Lib.hid (B_not (fun h => by obtain ⟨_, h1 | h1 | h1⟩ := hdef.out.1 h <;> omega))
  clear hdef hPas hPel hInt a1 a2
  go_enter Tryz.func40, Tryz.ntmps40
  go_upto_region 1 with fail
  simp only [hX.out]
  go_wp2_with fail
  refine (rplace_any _ _).mono ?_
  rintro e' w1 ⟨rfl, rfl⟩
  rw [hpl]
  go_wp2
  go_ret
  exact ⟨by rw [hz.out]; rfl, bA⟩
set_option maxRecDepth 100000 in
set_option maxHeartbeats 6400000 in
theorem rend_k3_2 {W : World} {c : Cd} {x : Sl} (hx : CdAt W c x) (hb : BlocksP c) (hin : c.ins.length ≤ 3000) (y : CEn) (TA EA : Option Addr) (tc ec : Nat) (hl : EndL W y TA EA tc ec) (hpl : plcB y.at_ = true) (k1 : y.kind = 3) (a1 : y.a = 0) (a2 : y.to = 0) (a3 : ¬ y.els = 0) :
    Calls Tryz.prog 40 #[.agg #[.slice x.S c.st.length x.sc, .slice x.N c.nm.length x.nc, .slice x.I c.ins.length x.ic, .slice x.K c.bk.length x.kc], .agg #[.int .i64 y.kind, .int .i64 y.a, .int .i64 y.to, .int .i64 y.els, .slice TA y.ta.length tc, .slice EA y.ea.length ec, .int .i64 y.n, .int .i64 y.at_]] W fun e w' => e = .returned (.bool (B (EndR c y))) ∧ Below W.heap.size W w' := by
  obtain ⟨kd, ya, yt, ye, ta, ea, yn, yp⟩ := y
  simp only at *
  obtain ⟨X, hX, bA, hPas, hPel, hInt, hadd, hdef, e0, e1, e2, e3, e4, e5, e6, e7, v0, v1, v2, v3, N1, N2⟩ := end_setup hx hb hin kd ya yt ye ta ea yn yp TA EA tc ec hl
  generalize EndR c ⟨kd, ya, yt, ye, ta, ea, yn, yp⟩ = E at hdef ⊢
  clear hx hb hin hl
  subst k1
  have ta1 : (ya == 0) = true := by first | (rw [hadd.out]; exact a1) | (simp; done) | (simp; omega) | simpa using a1
  have ta2 : (yt == 0) = true := by first | (rw [hadd.out]; exact a2) | (simp; done) | (simp; omega) | simpa using a2
  have ta3 : (ye == 0) = false := by first | (rw [hadd.out]; exact a3) | (simp; done) | (simp; omega) | simpa using a3
  have hz : Hid (B E = false) := Lib.hid (B_not (fun h => by obtain ⟨_, h1 | h1 | h1⟩ := hdef.out.1 h <;> omega))
  clear hdef hPas hPel hInt a1 a2 a3
  go_enter Tryz.func40, Tryz.ntmps40
  go_upto_region 1 with fail
  simp only [hX.out]
  go_wp2_with fail
  refine (rplace_any _ _).mono ?_
  rintro e' w1 ⟨rfl, rfl⟩
  rw [hpl]
  go_wp2
  go_ret
  exact ⟨by rw [hz.out]; rfl, bA⟩
set_option maxRecDepth 100000 in
set_option maxHeartbeats 6400000 in
theorem rend_k3_3 {W : World} {c : Cd} {x : Sl} (hx : CdAt W c x) (hb : BlocksP c) (hin : c.ins.length ≤ 3000) (y : CEn) (TA EA : Option Addr) (tc ec : Nat) (hl : EndL W y TA EA tc ec) (hpl : plcB y.at_ = true) (k1 : y.kind = 3) (a1 : y.a = 0) (a2 : y.to = 0) (a3 : y.els = 0) (a4 : ¬ y.ta.length + y.ea.length = 0) :
    Calls Tryz.prog 40 #[.agg #[.slice x.S c.st.length x.sc, .slice x.N c.nm.length x.nc, .slice x.I c.ins.length x.ic, .slice x.K c.bk.length x.kc], .agg #[.int .i64 y.kind, .int .i64 y.a, .int .i64 y.to, .int .i64 y.els, .slice TA y.ta.length tc, .slice EA y.ea.length ec, .int .i64 y.n, .int .i64 y.at_]] W fun e w' => e = .returned (.bool (B (EndR c y))) ∧ Below W.heap.size W w' := by
  obtain ⟨kd, ya, yt, ye, ta, ea, yn, yp⟩ := y
  simp only at *
  obtain ⟨X, hX, bA, hPas, hPel, hInt, hadd, hdef, e0, e1, e2, e3, e4, e5, e6, e7, v0, v1, v2, v3, N1, N2⟩ := end_setup hx hb hin kd ya yt ye ta ea yn yp TA EA tc ec hl
  generalize EndR c ⟨kd, ya, yt, ye, ta, ea, yn, yp⟩ = E at hdef ⊢
  clear hx hb hin hl
  subst k1
  have ta1 : (ya == 0) = true := by first | (rw [hadd.out]; exact a1) | (simp; done) | (simp; omega) | simpa using a1
  have ta2 : (yt == 0) = true := by first | (rw [hadd.out]; exact a2) | (simp; done) | (simp; omega) | simpa using a2
  have ta3 : (ye == 0) = true := by first | (rw [hadd.out]; exact a3) | (simp; done) | (simp; omega) | simpa using a3
  obtain ⟨z, hzz⟩ : ∃ z, wrap64 ((ta.length : Int) + ea.length) = z := ⟨_, rfl⟩
  have tz : (z == 0) = false := by rw [beq_eq_false_iff_ne]; exact fun h => a4 (hadd.out.1 (hzz.trans h))
  have tz2 : ¬ z = 0 := fun h => a4 (hadd.out.1 (hzz.trans h))
  have hz : Hid (B E = false) := Lib.hid (B_not (fun h => by obtain ⟨_, h1 | h1 | h1⟩ := hdef.out.1 h <;> omega))
  clear hdef hPas hPel hInt hadd a1 a2 a3 a4
  go_enter Tryz.func40, Tryz.ntmps40
  go_upto_region 1 with fail
  simp only [hX.out]
  go_wp2_with fail
  refine (rplace_any _ _).mono ?_
  rintro e' w1 ⟨rfl, rfl⟩
  rw [hpl]
  go_wp2
  go_ret
  exact ⟨by rw [hz.out]; rfl, bA⟩
set_option maxRecDepth 100000 in
set_option maxHeartbeats 6400000 in
theorem rend_k3_4 {W : World} {c : Cd} {x : Sl} (hx : CdAt W c x) (hb : BlocksP c) (hin : c.ins.length ≤ 3000) (y : CEn) (TA EA : Option Addr) (tc ec : Nat) (hl : EndL W y TA EA tc ec) (hpl : plcB y.at_ = true) (k1 : y.kind = 3) (a1 : y.a = 0) (a2 : y.to = 0) (a3 : y.els = 0) (a4 : y.ta.length + y.ea.length = 0) (a5 : ¬ 0 ≤ y.n) :
    Calls Tryz.prog 40 #[.agg #[.slice x.S c.st.length x.sc, .slice x.N c.nm.length x.nc, .slice x.I c.ins.length x.ic, .slice x.K c.bk.length x.kc], .agg #[.int .i64 y.kind, .int .i64 y.a, .int .i64 y.to, .int .i64 y.els, .slice TA y.ta.length tc, .slice EA y.ea.length ec, .int .i64 y.n, .int .i64 y.at_]] W fun e w' => e = .returned (.bool (B (EndR c y))) ∧ Below W.heap.size W w' := by
  obtain ⟨kd, ya, yt, ye, ta, ea, yn, yp⟩ := y
  simp only at *
  obtain ⟨X, hX, bA, hPas, hPel, hInt, hadd, hdef, e0, e1, e2, e3, e4, e5, e6, e7, v0, v1, v2, v3, N1, N2⟩ := end_setup hx hb hin kd ya yt ye ta ea yn yp TA EA tc ec hl
  generalize EndR c ⟨kd, ya, yt, ye, ta, ea, yn, yp⟩ = E at hdef ⊢
  clear hx hb hin hl
  subst k1
  have ta1 : (ya == 0) = true := by first | (rw [hadd.out]; exact a1) | (simp; done) | (simp; omega) | simpa using a1
  have ta2 : (yt == 0) = true := by first | (rw [hadd.out]; exact a2) | (simp; done) | (simp; omega) | simpa using a2
  have ta3 : (ye == 0) = true := by first | (rw [hadd.out]; exact a3) | (simp; done) | (simp; omega) | simpa using a3
  have ta4 : wrap64 ((ta.length : Int) + ea.length) = 0 := by first | (rw [hadd.out]; exact a4) | (simp; done) | (simp; omega) | simpa using a4
  have ta5 : decide (0 ≤ yn) = false := by first | (rw [hadd.out]; exact a5) | (simp; done) | (simp; omega) | simpa using a5
  have hz : Hid (B E = false) := Lib.hid (B_not (fun h => by obtain ⟨_, h1 | h1 | h1⟩ := hdef.out.1 h <;> omega))
  clear hdef hPas hPel hInt a1 a2 a3 a4 a5
  go_enter Tryz.func40, Tryz.ntmps40
  go_upto_region 1 with fail
  simp only [hX.out]
  go_wp2_with fail
  refine (rplace_any _ _).mono ?_
  rintro e' w1 ⟨rfl, rfl⟩
  rw [hpl]
  go_wp2
  go_ret
  exact ⟨by rw [hz.out]; rfl, bA⟩
set_option maxRecDepth 100000 in
set_option maxHeartbeats 6400000 in
theorem rend_k3_5 {W : World} {c : Cd} {x : Sl} (hx : CdAt W c x) (hb : BlocksP c) (hin : c.ins.length ≤ 3000) (y : CEn) (TA EA : Option Addr) (tc ec : Nat) (hl : EndL W y TA EA tc ec) (hpl : plcB y.at_ = true) (k1 : y.kind = 3) (a1 : y.a = 0) (a2 : y.to = 0) (a3 : y.els = 0) (a4 : y.ta.length + y.ea.length = 0) (a5 : 0 ≤ y.n) (a6 : ¬ y.n ≤ 255) :
    Calls Tryz.prog 40 #[.agg #[.slice x.S c.st.length x.sc, .slice x.N c.nm.length x.nc, .slice x.I c.ins.length x.ic, .slice x.K c.bk.length x.kc], .agg #[.int .i64 y.kind, .int .i64 y.a, .int .i64 y.to, .int .i64 y.els, .slice TA y.ta.length tc, .slice EA y.ea.length ec, .int .i64 y.n, .int .i64 y.at_]] W fun e w' => e = .returned (.bool (B (EndR c y))) ∧ Below W.heap.size W w' := by
  obtain ⟨kd, ya, yt, ye, ta, ea, yn, yp⟩ := y
  simp only at *
  obtain ⟨X, hX, bA, hPas, hPel, hInt, hadd, hdef, e0, e1, e2, e3, e4, e5, e6, e7, v0, v1, v2, v3, N1, N2⟩ := end_setup hx hb hin kd ya yt ye ta ea yn yp TA EA tc ec hl
  generalize EndR c ⟨kd, ya, yt, ye, ta, ea, yn, yp⟩ = E at hdef ⊢
  clear hx hb hin hl
  subst k1
  have ta1 : (ya == 0) = true := by first | (rw [hadd.out]; exact a1) | (simp; done) | (simp; omega) | simpa using a1
  have ta2 : (yt == 0) = true := by first | (rw [hadd.out]; exact a2) | (simp; done) | (simp; omega) | simpa using a2
  have ta3 : (ye == 0) = true := by first | (rw [hadd.out]; exact a3) | (simp; done) | (simp; omega) | simpa using a3
  have ta4 : wrap64 ((ta.length : Int) + ea.length) = 0 := by first | (rw [hadd.out]; exact a4) | (simp; done) | (simp; omega) | simpa using a4
  have ta5 : decide (0 ≤ yn) = true := by first | (rw [hadd.out]; exact a5) | (simp; done) | (simp; omega) | simpa using a5
  have ta6 : decide (yn ≤ 255) = false := by first | (rw [hadd.out]; exact a6) | (simp; done) | (simp; omega) | simpa using a6
  have hz : Hid (B E = false) := Lib.hid (B_not (fun h => by obtain ⟨_, h1 | h1 | h1⟩ := hdef.out.1 h <;> omega))
  clear hdef hPas hPel hInt a1 a2 a3 a4 a5 a6
  go_enter Tryz.func40, Tryz.ntmps40
  go_upto_region 1 with fail
  simp only [hX.out]
  go_wp2_with fail
  refine (rplace_any _ _).mono ?_
  rintro e' w1 ⟨rfl, rfl⟩
  rw [hpl]
  go_wp2
  go_ret
  exact ⟨by rw [hz.out]; rfl, bA⟩
set_option maxRecDepth 100000 in
set_option maxHeartbeats 6400000 in
theorem rend_k3_6 {W : World} {c : Cd} {x : Sl} (hx : CdAt W c x) (hb : BlocksP c) (hin : c.ins.length ≤ 3000) (y : CEn) (TA EA : Option Addr) (tc ec : Nat) (hl : EndL W y TA EA tc ec) (hpl : plcB y.at_ = true) (k1 : y.kind = 3) (a1 : y.a = 0) (a2 : y.to = 0) (a3 : y.els = 0) (a4 : y.ta.length + y.ea.length = 0) (a5 : 0 ≤ y.n) (a6 : y.n ≤ 255) (a7 : ¬ y.n = 0) :
    Calls Tryz.prog 40 #[.agg #[.slice x.S c.st.length x.sc, .slice x.N c.nm.length x.nc, .slice x.I c.ins.length x.ic, .slice x.K c.bk.length x.kc], .agg #[.int .i64 y.kind, .int .i64 y.a, .int .i64 y.to, .int .i64 y.els, .slice TA y.ta.length tc, .slice EA y.ea.length ec, .int .i64 y.n, .int .i64 y.at_]] W fun e w' => e = .returned (.bool (B (EndR c y))) ∧ Below W.heap.size W w' := by
  obtain ⟨kd, ya, yt, ye, ta, ea, yn, yp⟩ := y
  simp only at *
  obtain ⟨X, hX, bA, hPas, hPel, hInt, hadd, hdef, e0, e1, e2, e3, e4, e5, e6, e7, v0, v1, v2, v3, N1, N2⟩ := end_setup hx hb hin kd ya yt ye ta ea yn yp TA EA tc ec hl
  generalize EndR c ⟨kd, ya, yt, ye, ta, ea, yn, yp⟩ = E at hdef ⊢
  clear hx hb hin hl
  subst k1
  have ta1 : (ya == 0) = true := by first | (rw [hadd.out]; exact a1) | (simp; done) | (simp; omega) | simpa using a1
  have ta2 : (yt == 0) = true := by first | (rw [hadd.out]; exact a2) | (simp; done) | (simp; omega) | simpa using a2
  have ta3 : (ye == 0) = true := by first | (rw [hadd.out]; exact a3) | (simp; done) | (simp; omega) | simpa using a3
  have ta4 : wrap64 ((ta.length : Int) + ea.length) = 0 := by first | (rw [hadd.out]; exact a4) | (simp; done) | (simp; omega) | simpa using a4
  have ta5 : decide (0 ≤ yn) = true := by first | (rw [hadd.out]; exact a5) | (simp; done) | (simp; omega) | simpa using a5
  have ta6 : decide (yn ≤ 255) = true := by first | (rw [hadd.out]; exact a6) | (simp; done) | (simp; omega) | simpa using a6
  have ta7 : (yn == 0) = false := by first | (rw [hadd.out]; exact a7) | (simp; done) | (simp; omega) | simpa using a7
  have hz : Hid (B E = false) := Lib.hid (B_not (fun h => by obtain ⟨_, h1 | h1 | h1⟩ := hdef.out.1 h <;> omega))
  clear hdef hPas hPel hInt a1 a2 a3 a4 a5 a6 a7
  go_enter Tryz.func40, Tryz.ntmps40
  go_upto_region 1 with fail
  simp only [hX.out]
  go_wp2_with fail
  refine (rplace_any _ _).mono ?_
  rintro e' w1 ⟨rfl, rfl⟩
  rw [hpl]
  go_wp2
  go_ret
  exact ⟨by rw [hz.out]; rfl, bA⟩
set_option maxRecDepth 100000 in
set_option maxHeartbeats 6400000 in
theorem rend_k3_7 {W : World} {c : Cd} {x : Sl} (hx : CdAt W c x) (hb : BlocksP c) (hin : c.ins.length ≤ 3000) (y : CEn) (TA EA : Option Addr) (tc ec : Nat) (hl : EndL W y TA EA tc ec) (hpl : plcB y.at_ = true) (k1 : y.kind = 3) (a1 : y.a = 0) (a2 : y.to = 0) (a3 : y.els = 0) (a4 : y.ta.length + y.ea.length = 0) (a5 : 0 ≤ y.n) (a6 : y.n ≤ 255) (a7 : y.n = 0) :
    Calls Tryz.prog 40 #[.agg #[.slice x.S c.st.length x.sc, .slice x.N c.nm.length x.nc, .slice x.I c.ins.length x.ic, .slice x.K c.bk.length x.kc], .agg #[.int .i64 y.kind, .int .i64 y.a, .int .i64 y.to, .int .i64 y.els, .slice TA y.ta.length tc, .slice EA y.ea.length ec, .int .i64 y.n, .int .i64 y.at_]] W fun e w' => e = .returned (.bool (B (EndR c y))) ∧ Below W.heap.size W w' := by
  obtain ⟨kd, ya, yt, ye, ta, ea, yn, yp⟩ := y
  simp only at *
  obtain ⟨X, hX, bA, hPas, hPel, hInt, hadd, hdef, e0, e1, e2, e3, e4, e5, e6, e7, v0, v1, v2, v3, N1, N2⟩ := end_setup hx hb hin kd ya yt ye ta ea yn yp TA EA tc ec hl
  generalize EndR c ⟨kd, ya, yt, ye, ta, ea, yn, yp⟩ = E at hdef ⊢
  clear hx hb hin hl
  subst k1
  have ta1 : (ya == 0) = true := by first | (rw [hadd.out]; exact a1) | (simp; done) | (simp; omega) | simpa using a1
  have ta2 : (yt == 0) = true := by first | (rw [hadd.out]; exact a2) | (simp; done) | (simp; omega) | simpa using a2
  have ta3 : (ye == 0) = true := by first | (rw [hadd.out]; exact a3) | (simp; done) | (simp; omega) | simpa using a3
  have ta4 : wrap64 ((ta.length : Int) + ea.length) = 0 := by first | (rw [hadd.out]; exact a4) | (simp; done) | (simp; omega) | simpa using a4
  have ta5 : decide (0 ≤ yn) = true := by first | (rw [hadd.out]; exact a5) | (simp; done) | (simp; omega) | simpa using a5
  have ta6 : decide (yn ≤ 255) = true := by first | (rw [hadd.out]; exact a6) | (simp; done) | (simp; omega) | simpa using a6
  have ta7 : (yn == 0) = true := by first | (rw [hadd.out]; exact a7) | (simp; done) | (simp; omega) | simpa using a7
  have hz : Hid (B E = true) := Lib.hid (B_of (hdef.out.2 ⟨hpl, Or.inr (Or.inr ⟨by omega, a1, a2, a3, a4, a5, a6, by omega⟩)⟩))
  clear hdef hPas hPel hInt a1 a2 a3 a4 a5 a6 a7
  go_enter Tryz.func40, Tryz.ntmps40
  go_upto_region 1 with fail
  simp only [hX.out]
  go_wp2_with fail
  refine (rplace_any _ _).mono ?_
  rintro e' w1 ⟨rfl, rfl⟩
  rw [hpl]
  go_wp2
  go_ret
  exact ⟨by rw [hz.out]; rfl, bA⟩
set_option maxRecDepth 100000 in
set_option maxHeartbeats 6400000 in
theorem rend_k4_0 {W : World} {c : Cd} {x : Sl} (hx : CdAt W c x) (hb : BlocksP c) (hin : c.ins.length ≤ 3000) (y : CEn) (TA EA : Option Addr) (tc ec : Nat) (hl : EndL W y TA EA tc ec) (hpl : plcB y.at_ = true) (k1 : y.kind = 4) (a1 : ¬ y.a = 0) :
    Calls Tryz.prog 40 #[.agg #[.slice x.S c.st.length x.sc, .slice x.N c.nm.length x.nc, .slice x.I c.ins.length x.ic, .slice x.K c.bk.length x.kc], .agg #[.int .i64 y.kind, .int .i64 y.a, .int .i64 y.to, .int .i64 y.els, .slice TA y.ta.length tc, .slice EA y.ea.length ec, .int .i64 y.n, .int .i64 y.at_]] W fun e w' => e = .returned (.bool (B (EndR c y))) ∧ Below W.heap.size W w' := by
  obtain ⟨kd, ya, yt, ye, ta, ea, yn, yp⟩ := y
  simp only at *
  obtain ⟨X, hX, bA, hPas, hPel, hInt, hadd, hdef, e0, e1, e2, e3, e4, e5, e6, e7, v0, v1, v2, v3, N1, N2⟩ := end_setup hx hb hin kd ya yt ye ta ea yn yp TA EA tc ec hl
  generalize EndR c ⟨kd, ya, yt, ye, ta, ea, yn, yp⟩ = E at hdef ⊢
  clear hx hb hin hl
  subst k1
  have ta1 : (ya == 0) = false := by first | (rw [hadd.out]; exact a1) | (simp; done) | (simp; omega) | simpa using a1
  have hz : Hid (B E = false) := Lib.hid (B_not (fun h => by obtain ⟨_, h1 | h1 | h1⟩ := hdef.out.1 h <;> omega))
  clear hdef hPas hPel hInt a1
  go_enter Tryz.func40, Tryz.ntmps40
  go_upto_region 1 with fail
  simp only [hX.out]
  go_wp2_with fail
  refine (rplace_any _ _).mono ?_
  rintro e' w1 ⟨rfl, rfl⟩
  rw [hpl]
  go_wp2
  go_ret
  exact ⟨by rw [hz.out]; rfl, bA⟩
set_option maxRecDepth 100000 in
set_option maxHeartbeats 6400000 in
theorem rend_k4_1 {W : World} {c : Cd} {x : Sl} (hx : CdAt W c x) (hb : BlocksP c) (hin : c.ins.length ≤ 3000) (y : CEn) (TA EA : Option Addr) (tc ec : Nat) (hl : EndL W y TA EA tc ec) (hpl : plcB y.at_ = true) (k1 : y.kind = 4) (a1 : y.a = 0) (a2 : ¬ y.to = 0) :
    Calls Tryz.prog 40 #[.agg #[.slice x.S c.st.length x.sc, .slice x.N c.nm.length x.nc, .slice x.I c.ins.length x.ic, .slice x.K c.bk.length x.kc], .agg #[.int .i64 y.kind, .int .i64 y.a, .int .i64 y.to, .int .i64 y.els, .slice TA y.ta.length tc, .slice EA y.ea.length ec, .int .i64 y.n, .int .i64 y.at_]] W fun e w' => e = .returned (.bool (B (EndR c y))) ∧ Below W.heap.size W w' := by
  obtain ⟨kd, ya, yt, ye, ta, ea, yn, yp⟩ := y
  simp only at *
  obtain ⟨X, hX, bA, hPas, hPel, hInt, hadd, hdef, e0, e1, e2, e3, e4, e5, e6, e7, v0, v1, v2, v3, N1, N2⟩ := end_setup hx hb hin kd ya yt ye ta ea yn yp TA EA tc ec hl
  generalize EndR c ⟨kd, ya, yt, ye, ta, ea, yn, yp⟩ = E at hdef ⊢
  clear hx hb hin hl
  subst k1
  have ta1 : (ya == 0) = true := by first | (rw [hadd.out]; exact a1) | (simp; done) | (simp; omega) | simpa using a1
  have ta2 : (yt == 0) = false := by first | (rw [hadd.out]; exact a2) | (simp; done) | (simp; omega) | simpa using a2
  have hz : Hid (B E = false) := Lib.hid (B_not (fun h => by obtain ⟨_, h1 | h1 | h1⟩ := hdef.out.1 h <;> omega))
  clear hdef hPas hPel hInt a1 a2
  go_enter Tryz.func40, Tryz.ntmps40
  go_upto_region 1 with fail
  simp only [hX.out]
  go_wp2_with fail
  refine (rplace_any _ _).mono ?_
  rintro e' w1 ⟨rfl, rfl⟩
  rw [hpl]
  go_wp2
  go_ret
  exact ⟨by rw [hz.out]; rfl, bA⟩
set_option maxRecDepth 100000 in
set_option maxHeartbeats 6400000 in
theorem rend_k4_2 {W : World} {c : Cd} {x : Sl} (hx : CdAt W c x) (hb : BlocksP c) (hin : c.ins.length ≤ 3000) (y : CEn) (TA EA : Option Addr) (tc ec : Nat) (hl : EndL W y TA EA tc ec) (hpl : plcB y.at_ = true) (k1 : y.kind = 4) (a1 : y.a = 0) (a2 : y.to = 0) (a3 : ¬ y.els = 0) :
    Calls Tryz.prog 40 #[.agg #[.slice x.S c.st.length x.sc, .slice x.N c.nm.length x.nc, .slice x.I c.ins.length x.ic, .slice x.K c.bk.length x.kc], .agg #[.int .i64 y.kind, .int .i64 y.a, .int .i64 y.to, .int .i64 y.els, .slice TA y.ta.length tc, .slice EA y.ea.length ec, .int .i64 y.n, .int .i64 y.at_]] W fun e w' => e = .returned (.bool (B (EndR c y))) ∧ Below W.heap.size W w' := by
  obtain ⟨kd, ya, yt, ye, ta, ea, yn, yp⟩ := y
  simp only at *
  obtain ⟨X, hX, bA, hPas, hPel, hInt, hadd, hdef, e0, e1, e2, e3, e4, e5, e6, e7, v0, v1, v2, v3, N1, N2⟩ := end_setup hx hb hin kd ya yt ye ta ea yn yp TA EA tc ec hl
  generalize EndR c ⟨kd, ya, yt, ye, ta, ea, yn, yp⟩ = E at hdef ⊢
  clear hx hb hin hl
  subst k1
  have ta1 : (ya == 0) = true := by first | (rw [hadd.out]; exact a1) | (simp; done) | (simp; omega) | simpa using a1
  have ta2 : (yt == 0) = true := by first | (rw [hadd.out]; exact a2) | (simp; done) | (simp; omega) | simpa using a2
  have ta3 : (ye == 0) = false := by first | (rw [hadd.out]; exact a3) | (simp; done) | (simp; omega) | simpa using a3
  have hz : Hid (B E = false) := Lib.hid (B_not (fun h => by obtain ⟨_, h1 | h1 | h1⟩ := hdef.out.1 h <;> omega))
  clear hdef hPas hPel hInt a1 a2 a3
  go_enter Tryz.func40, Tryz.ntmps40
  go_upto_region 1 with fail
  simp only [hX.out]
  go_wp2_with fail
  refine (rplace_any _ _).mono ?_
  rintro e' w1 ⟨rfl, rfl⟩
  rw [hpl]
  go_wp2
  go_ret
  exact ⟨by rw [hz.out]; rfl, bA⟩
set_option maxRecDepth 100000 in
set_option maxHeartbeats 6400000 in
theorem rend_k4_3 {W : World} {c : Cd} {x : Sl} (hx : CdAt W c x) (hb : BlocksP c) (hin : c.ins.length ≤ 3000) (y : CEn) (TA EA : Option Addr) (tc ec : Nat) (hl : EndL W y TA EA tc ec) (hpl : plcB y.at_ = true) (k1 : y.kind = 4) (a1 : y.a = 0) (a2 : y.to = 0) (a3 : y.els = 0) (a4 : ¬ y.ta.length + y.ea.length = 0) :
    Calls Tryz.prog 40 #[.agg #[.slice x.S c.st.length x.sc, .slice x.N c.nm.length x.nc, .slice x.I c.ins.length x.ic, .slice x.K c.bk.length x.kc], .agg #[.int .i64 y.kind, .int .i64 y.a, .int .i64 y.to, .int .i64 y.els, .slice TA y.ta.length tc, .slice EA y.ea.length ec, .int .i64 y.n, .int .i64 y.at_]] W fun e w' => e = .returned (.bool (B (EndR c y))) ∧ Below W.heap.size W w' := by
  obtain ⟨kd, ya, yt, ye, ta, ea, yn, yp⟩ := y
  simp only at *
  obtain ⟨X, hX, bA, hPas, hPel, hInt, hadd, hdef, e0, e1, e2, e3, e4, e5, e6, e7, v0, v1, v2, v3, N1, N2⟩ := end_setup hx hb hin kd ya yt ye ta ea yn yp TA EA tc ec hl
  generalize EndR c ⟨kd, ya, yt, ye, ta, ea, yn, yp⟩ = E at hdef ⊢
  clear hx hb hin hl
  subst k1
  have ta1 : (ya == 0) = true := by first | (rw [hadd.out]; exact a1) | (simp; done) | (simp; omega) | simpa using a1
  have ta2 : (yt == 0) = true := by first | (rw [hadd.out]; exact a2) | (simp; done) | (simp; omega) | simpa using a2
  have ta3 : (ye == 0) = true := by first | (rw [hadd.out]; exact a3) | (simp; done) | (simp; omega) | simpa using a3
  obtain ⟨z, hzz⟩ : ∃ z, wrap64 ((ta.length : Int) + ea.length) = z := ⟨_, rfl⟩
  have tz : (z == 0) = false := by rw [beq_eq_false_iff_ne]; exact fun h => a4 (hadd.out.1 (hzz.trans h))
  have tz2 : ¬ z = 0 := fun h => a4 (hadd.out.1 (hzz.trans h))
  have hz : Hid (B E = false) := Lib.hid (B_not (fun h => by obtain ⟨_, h1 | h1 | h1⟩ := hdef.out.1 h <;> omega))
  clear hdef hPas hPel hInt hadd a1 a2 a3 a4
  go_enter Tryz.func40, Tryz.ntmps40
  go_upto_region 1 with fail
  simp only [hX.out]
  go_wp2_with fail
  refine (rplace_any _ _).mono ?_
  rintro e' w1 ⟨rfl, rfl⟩
  rw [hpl]
  go_wp2
  go_ret
  exact ⟨by rw [hz.out]; rfl, bA⟩
set_option maxRecDepth 100000 in
set_option maxHeartbeats 6400000 in
theorem rend_k4_4 {W : World} {c : Cd} {x : Sl} (hx : CdAt W c x) (hb : BlocksP c) (hin : c.ins.length ≤ 3000) (y : CEn) (TA EA : Option Addr) (tc ec : Nat) (hl : EndL W y TA EA tc ec) (hpl : plcB y.at_ = true) (k1 : y.kind = 4) (a1 : y.a = 0) (a2 : y.to = 0) (a3 : y.els = 0) (a4 : y.ta.length + y.ea.length = 0) (a5 : ¬ 0 ≤ y.n) :
    Calls Tryz.prog 40 #[.agg #[.slice x.S c.st.length x.sc, .slice x.N c.nm.length x.nc, .slice x.I c.ins.length x.ic, .slice x.K c.bk.length x.kc], .agg #[.int .i64 y.kind, .int .i64 y.a, .int .i64 y.to, .int .i64 y.els, .slice TA y.ta.length tc, .slice EA y.ea.length ec, .int .i64 y.n, .int .i64 y.at_]] W fun e w' => e = .returned (.bool (B (EndR c y))) ∧ Below W.heap.size W w' := by
  obtain ⟨kd, ya, yt, ye, ta, ea, yn, yp⟩ := y
  simp only at *
  obtain ⟨X, hX, bA, hPas, hPel, hInt, hadd, hdef, e0, e1, e2, e3, e4, e5, e6, e7, v0, v1, v2, v3, N1, N2⟩ := end_setup hx hb hin kd ya yt ye ta ea yn yp TA EA tc ec hl
  generalize EndR c ⟨kd, ya, yt, ye, ta, ea, yn, yp⟩ = E at hdef ⊢
  clear hx hb hin hl
  subst k1
  have ta1 : (ya == 0) = true := by first | (rw [hadd.out]; exact a1) | (simp; done) | (simp; omega) | simpa using a1
  have ta2 : (yt == 0) = true := by first | (rw [hadd.out]; exact a2) | (simp; done) | (simp; omega) | simpa using a2
  have ta3 : (ye == 0) = true := by first | (rw [hadd.out]; exact a3) | (simp; done) | (simp; omega) | simpa using a3
  have ta4 : wrap64 ((ta.length : Int) + ea.length) = 0 := by first | (rw [hadd.out]; exact a4) | (simp; done) | (simp; omega) | simpa using a4
  have ta5 : decide (0 ≤ yn) = false := by first | (rw [hadd.out]; exact a5) | (simp; done) | (simp; omega) | simpa using a5
  have hz : Hid (B E = false) := Lib.hid (B_not (fun h => by obtain ⟨_, h1 | h1 | h1⟩ := hdef.out.1 h <;> omega))
  clear hdef hPas hPel hInt a1 a2 a3 a4 a5
  go_enter Tryz.func40, Tryz.ntmps40
  go_upto_region 1 with fail
  simp only [hX.out]
  go_wp2_with fail
  refine (rplace_any _ _).mono ?_
  rintro e' w1 ⟨rfl, rfl⟩
  rw [hpl]
  go_wp2
  go_ret
  exact ⟨by rw [hz.out]; rfl, bA⟩
set_option maxRecDepth 100000 in
set_option maxHeartbeats 6400000 in
theorem rend_k4_5 {W : World} {c : Cd} {x : Sl} (hx : CdAt W c x) (hb : BlocksP c) (hin : c.ins.length ≤ 3000) (y : CEn) (TA EA : Option Addr) (tc ec : Nat) (hl : EndL W y TA EA tc ec) (hpl : plcB y.at_ = true) (k1 : y.kind = 4) (a1 : y.a = 0) (a2 : y.to = 0) (a3 : y.els = 0) (a4 : y.ta.length + y.ea.length = 0) (a5 : 0 ≤ y.n) (a6 : ¬ y.n ≤ 255) :
    Calls Tryz.prog 40 #[.agg #[.slice x.S c.st.length x.sc, .slice x.N c.nm.length x.nc, .slice x.I c.ins.length x.ic, .slice x.K c.bk.length x.kc], .agg #[.int .i64 y.kind, .int .i64 y.a, .int .i64 y.to, .int .i64 y.els, .slice TA y.ta.length tc, .slice EA y.ea.length ec, .int .i64 y.n, .int .i64 y.at_]] W fun e w' => e = .returned (.bool (B (EndR c y))) ∧ Below W.heap.size W w' := by
  obtain ⟨kd, ya, yt, ye, ta, ea, yn, yp⟩ := y
  simp only at *
  obtain ⟨X, hX, bA, hPas, hPel, hInt, hadd, hdef, e0, e1, e2, e3, e4, e5, e6, e7, v0, v1, v2, v3, N1, N2⟩ := end_setup hx hb hin kd ya yt ye ta ea yn yp TA EA tc ec hl
  generalize EndR c ⟨kd, ya, yt, ye, ta, ea, yn, yp⟩ = E at hdef ⊢
  clear hx hb hin hl
  subst k1
  have ta1 : (ya == 0) = true := by first | (rw [hadd.out]; exact a1) | (simp; done) | (simp; omega) | simpa using a1
  have ta2 : (yt == 0) = true := by first | (rw [hadd.out]; exact a2) | (simp; done) | (simp; omega) | simpa using a2
  have ta3 : (ye == 0) = true := by first | (rw [hadd.out]; exact a3) | (simp; done) | (simp; omega) | simpa using a3
  have ta4 : wrap64 ((ta.length : Int) + ea.length) = 0 := by first | (rw [hadd.out]; exact a4) | (simp; done) | (simp; omega) | simpa using a4
  have ta5 : decide (0 ≤ yn) = true := by first | (rw [hadd.out]; exact a5) | (simp; done) | (simp; omega) | simpa using a5
  have ta6 : decide (yn ≤ 255) = false := by first | (rw [hadd.out]; exact a6) | (simp; done) | (simp; omega) | simpa using a6
  have hz : Hid (B E = false) := Lib.hid (B_not (fun h => by obtain ⟨_, h1 | h1 | h1⟩ := hdef.out.1 h <;> omega))
  clear hdef hPas hPel hInt a1 a2 a3 a4 a5 a6
  go_enter Tryz.func40, Tryz.ntmps40
  go_upto_region 1 with fail
  simp only [hX.out]
  go_wp2_with fail
  refine (rplace_any _ _).mono ?_
  rintro e' w1 ⟨rfl, rfl⟩
  rw [hpl]
  go_wp2
  go_ret
  exact ⟨by rw [hz.out]; rfl, bA⟩
set_option maxRecDepth 100000 in
set_option maxHeartbeats 6400000 in
theorem rend_k4_6 {W : World} {c : Cd} {x : Sl} (hx : CdAt W c x) (hb : BlocksP c) (hin : c.ins.length ≤ 3000) (y : CEn) (TA EA : Option Addr) (tc ec : Nat) (hl : EndL W y TA EA tc ec) (hpl : plcB y.at_ = true) (k1 : y.kind = 4) (a1 : y.a = 0) (a2 : y.to = 0) (a3 : y.els = 0) (a4 : y.ta.length + y.ea.length = 0) (a5 : 0 ≤ y.n) (a6 : y.n ≤ 255) :
    Calls Tryz.prog 40 #[.agg #[.slice x.S c.st.length x.sc, .slice x.N c.nm.length x.nc, .slice x.I c.ins.length x.ic, .slice x.K c.bk.length x.kc], .agg #[.int .i64 y.kind, .int .i64 y.a, .int .i64 y.to, .int .i64 y.els, .slice TA y.ta.length tc, .slice EA y.ea.length ec, .int .i64 y.n, .int .i64 y.at_]] W fun e w' => e = .returned (.bool (B (EndR c y))) ∧ Below W.heap.size W w' := by
  obtain ⟨kd, ya, yt, ye, ta, ea, yn, yp⟩ := y
  simp only at *
  obtain ⟨X, hX, bA, hPas, hPel, hInt, hadd, hdef, e0, e1, e2, e3, e4, e5, e6, e7, v0, v1, v2, v3, N1, N2⟩ := end_setup hx hb hin kd ya yt ye ta ea yn yp TA EA tc ec hl
  generalize EndR c ⟨kd, ya, yt, ye, ta, ea, yn, yp⟩ = E at hdef ⊢
  clear hx hb hin hl
  subst k1
  have ta1 : (ya == 0) = true := by first | (rw [hadd.out]; exact a1) | (simp; done) | (simp; omega) | simpa using a1
  have ta2 : (yt == 0) = true := by first | (rw [hadd.out]; exact a2) | (simp; done) | (simp; omega) | simpa using a2
  have ta3 : (ye == 0) = true := by first | (rw [hadd.out]; exact a3) | (simp; done) | (simp; omega) | simpa using a3
  have ta4 : wrap64 ((ta.length : Int) + ea.length) = 0 := by first | (rw [hadd.out]; exact a4) | (simp; done) | (simp; omega) | simpa using a4
  have ta5 : decide (0 ≤ yn) = true := by first | (rw [hadd.out]; exact a5) | (simp; done) | (simp; omega) | simpa using a5
  have ta6 : decide (yn ≤ 255) = true := by first | (rw [hadd.out]; exact a6) | (simp; done) | (simp; omega) | simpa using a6
  have hz : Hid (B E = true) := Lib.hid (B_of (hdef.out.2 ⟨hpl, Or.inr (Or.inr ⟨by omega, a1, a2, a3, a4, a5, a6, by omega⟩)⟩))
  clear hdef hPas hPel hInt a1 a2 a3 a4 a5 a6
  go_enter Tryz.func40, Tryz.ntmps40
  go_upto_region 1 with fail
  simp only [hX.out]
  go_wp2_with fail
  refine (rplace_any _ _).mono ?_
  rintro e' w1 ⟨rfl, rfl⟩
  rw [hpl]
  go_wp2
  go_ret
  exact ⟨by rw [hz.out]; rfl, bA⟩
theorem rend_k3 {W : World} {c : Cd} {x : Sl} (hx : CdAt W c x) (hb : BlocksP c) (hin : c.ins.length ≤ 3000) (y : CEn) (TA EA : Option Addr) (tc ec : Nat) (hl : EndL W y TA EA tc ec) (hpl : plcB y.at_ = true) (k1 : y.kind = 3) :
    Calls Tryz.prog 40 #[.agg #[.slice x.S c.st.length x.sc, .slice x.N c.nm.length x.nc, .slice x.I c.ins.length x.ic, .slice x.K c.bk.length x.kc], .agg #[.int .i64 y.kind, .int .i64 y.a, .int .i64 y.to, .int .i64 y.els, .slice TA y.ta.length tc, .slice EA y.ea.length ec, .int .i64 y.n, .int .i64 y.at_]] W fun e w' => e = .returned (.bool (B (EndR c y))) ∧ Below W.heap.size W w' := by
  by_cases a1 : y.a = 0
  case neg => exact rend_k3_0 hx hb hin y TA EA tc ec hl hpl k1 a1
  by_cases a2 : y.to = 0
  case neg => exact rend_k3_1 hx hb hin y TA EA tc ec hl hpl k1 a1 a2
  by_cases a3 : y.els = 0
  case neg => exact rend_k3_2 hx hb hin y TA EA tc ec hl hpl k1 a1 a2 a3
  by_cases a4 : y.ta.length + y.ea.length = 0
  case neg => exact rend_k3_3 hx hb hin y TA EA tc ec hl hpl k1 a1 a2 a3 a4
  by_cases a5 : 0 ≤ y.n
  case neg => exact rend_k3_4 hx hb hin y TA EA tc ec hl hpl k1 a1 a2 a3 a4 a5
  by_cases a6 : y.n ≤ 255
  case neg => exact rend_k3_5 hx hb hin y TA EA tc ec hl hpl k1 a1 a2 a3 a4 a5 a6
  by_cases a7 : y.n = 0
  case neg => exact rend_k3_6 hx hb hin y TA EA tc ec hl hpl k1 a1 a2 a3 a4 a5 a6 a7
  exact rend_k3_7 hx hb hin y TA EA tc ec hl hpl k1 a1 a2 a3 a4 a5 a6 a7
theorem rend_k4 {W : World} {c : Cd} {x : Sl} (hx : CdAt W c x) (hb : BlocksP c) (hin : c.ins.length ≤ 3000) (y : CEn) (TA EA : Option Addr) (tc ec : Nat) (hl : EndL W y TA EA tc ec) (hpl : plcB y.at_ = true) (k1 : y.kind = 4) :
    Calls Tryz.prog 40 #[.agg #[.slice x.S c.st.length x.sc, .slice x.N c.nm.length x.nc, .slice x.I c.ins.length x.ic, .slice x.K c.bk.length x.kc], .agg #[.int .i64 y.kind, .int .i64 y.a, .int .i64 y.to, .int .i64 y.els, .slice TA y.ta.length tc, .slice EA y.ea.length ec, .int .i64 y.n, .int .i64 y.at_]] W fun e w' => e = .returned (.bool (B (EndR c y))) ∧ Below W.heap.size W w' := by
  by_cases a1 : y.a = 0
  case neg => exact rend_k4_0 hx hb hin y TA EA tc ec hl hpl k1 a1
  by_cases a2 : y.to = 0
  case neg => exact rend_k4_1 hx hb hin y TA EA tc ec hl hpl k1 a1 a2
  by_cases a3 : y.els = 0
  case neg => exact rend_k4_2 hx hb hin y TA EA tc ec hl hpl k1 a1 a2 a3
  by_cases a4 : y.ta.length + y.ea.length = 0
  case neg => exact rend_k4_3 hx hb hin y TA EA tc ec hl hpl k1 a1 a2 a3 a4
  by_cases a5 : 0 ≤ y.n
  case neg => exact rend_k4_4 hx hb hin y TA EA tc ec hl hpl k1 a1 a2 a3 a4 a5
  by_cases a6 : y.n ≤ 255
  case neg => exact rend_k4_5 hx hb hin y TA EA tc ec hl hpl k1 a1 a2 a3 a4 a5 a6
  exact rend_k4_6 hx hb hin y TA EA tc ec hl hpl k1 a1 a2 a3 a4 a5 a6
theorem rend_any {W : World} {c : Cd} {x : Sl} (hx : CdAt W c x) (hb : BlocksP c) (hin : c.ins.length ≤ 3000) (y : CEn) (TA EA : Option Addr) (tc ec : Nat) (hl : EndL W y TA EA tc ec) :
    Calls Tryz.prog 40 #[.agg #[.slice x.S c.st.length x.sc, .slice x.N c.nm.length x.nc, .slice x.I c.ins.length x.ic, .slice x.K c.bk.length x.kc], .agg #[.int .i64 y.kind, .int .i64 y.a, .int .i64 y.to, .int .i64 y.els, .slice TA y.ta.length tc, .slice EA y.ea.length ec, .int .i64 y.n, .int .i64 y.at_]] W fun e w' => e = .returned (.bool (B (EndR c y))) ∧ Below W.heap.size W w' := by
  cases hpl : plcB y.at_ with
  | false => exact rend_plc hx hb hin y TA EA tc ec hl hpl
  | true =>
    by_cases k1 : y.kind = 1
    · exact rend_k1 hx hb hin y TA EA tc ec hl hpl k1
    · by_cases k2 : y.kind = 2
      · exact rend_k2 hx hb hin y TA EA tc ec hl hpl k2
      · by_cases k3 : y.kind = 3
        · exact rend_k3 hx hb hin y TA EA tc ec hl hpl k3
        · by_cases k4 : y.kind = 4
          · exact rend_k4 hx hb hin y TA EA tc ec hl hpl k4
          · exact rend_k0 hx hb hin y TA EA tc ec hl hpl k1 k2 k3 k4
end Go.Proofs.YtnbgadndkepomaaGreatDoor
