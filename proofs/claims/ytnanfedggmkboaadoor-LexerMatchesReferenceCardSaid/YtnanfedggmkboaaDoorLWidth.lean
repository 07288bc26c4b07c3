/- Types: the width that a word is the type of. -/
import Derived.Test.YtnanfedggmkboaaDoorLSign
import Derived.Test.YtnanfedggmkboaaDoorLErrs
import Derived.Test.YtnanfedggmkboaaDoorShelf
import Derived.Lib.SmallJoins
namespace Go.Proofs.YtnanfedggmkboaaDoor
open Go.RowKit

theorem dec_one (n : Nat) (h : n < 10) : Lib.decDigits n = [UInt8.ofNat (48 + n)] := by rw [Lib.decDigits, dif_pos h]
theorem dec_two (n : Nat) (h : 10 ≤ n) (h2 : n < 100) : Lib.decDigits n = [UInt8.ofNat (48 + n / 10), UInt8.ofNat (48 + n % 10)] := by
  rw [Lib.decDigits, dif_neg (by omega), dec_one _ (by omega)]; rfl
theorem ofNat_val (n : Nat) (h : n < 256) : (UInt8.ofNat n).toNat = n := by simp; omega
theorem u8_ext {a b : UInt8} (h : a.toNat = b.toNat) : a = b := UInt8.toNat_inj.1 h

/-- A word is the type of a width exactly if it is its text. -/
theorem width_text (n : Nat) (h1 : 1 ≤ n) (h2 : n ≤ 64) : widthOf (117 :: Lib.decDigits n) = n := by
  by_cases h : n < 10
  · rw [dec_one n h]
    have e := ofNat_val (48 + n) (by omega)
    simp only [widthOf, e]
    rw [if_pos (by simp; omega)]; omega
  · rw [dec_two n (by omega) (by omega)]
    have e := ofNat_val (48 + n / 10) (by omega)
    have e' := ofNat_val (48 + n % 10) (by omega)
    simp only [widthOf, e, e']
    rw [if_pos (by simp; omega)]; omega
theorem width_is {l : List UInt8} {n : Nat} (h : widthOf l = n) (hn : n ≠ 0) : 1 ≤ n ∧ n ≤ 64 ∧ l = 117 :: Lib.decDigits n := by
  match l, h with
  | [], h => simp [widthOf] at h; omega
  | [_], h => simp [widthOf] at h; omega
  | [u, a], h =>
    simp only [widthOf] at h
    split at h
    · rename_i hc
      simp at hc
      refine ⟨by omega, by omega, ?_⟩
      rw [dec_one n (by omega)]
      have e : a = UInt8.ofNat (48 + n) := u8_ext (by rw [ofNat_val _ (by omega)]; omega)
      have e2 : u = 117 := u8_ext (by rw [hc.1.1]; rfl)
      rw [e, e2]
    · omega
  | [u, a, b], h =>
    simp only [widthOf] at h
    split at h
    · rename_i hc
      simp at hc
      refine ⟨by omega, by omega, ?_⟩
      rw [dec_two n (by omega) (by omega)]
      have e : a = UInt8.ofNat (48 + n / 10) := u8_ext (by rw [ofNat_val _ (by omega)]; omega)
      have e' : b = UInt8.ofNat (48 + n % 10) := u8_ext (by rw [ofNat_val _ (by omega)]; omega)
      have e2 : u = 117 := u8_ext (by rw [hc.1.1.1.1.1]; rfl)
      rw [e, e', e2]
    · omega
  | _ :: _ :: _ :: _ :: _, h => simp [widthOf] at h; omega

theorem parse_width (n : Nat) (h1 : 1 ≤ n) (h2 : n ≤ 64) : Lib.parseUintB 64 (Lib.decDigits n) = .ok n := by
  by_cases h : n < 10
  · rw [dec_one n h]
    have e := ofNat_val (48 + n) (by omega)
    simp only [Lib.parseUintB, Lib.parseUintM, e]
    rw [if_neg (by simp), if_pos (by omega), if_neg (by omega), if_neg (by omega)]
    congr 1; omega
  · rw [dec_two n (by omega) (by omega)]
    have e := ofNat_val (48 + n / 10) (by omega)
    have e' := ofNat_val (48 + n % 10) (by omega)
    simp only [Lib.parseUintB, Lib.parseUintM, e, e']
    rw [if_neg (by simp), if_pos (by omega), if_neg (by omega), if_neg (by omega), if_pos (by omega), if_neg (by omega), if_neg (by omega)]
    congr 1; omega

theorem below_bytes (w : World) (s : ByteArray) : Below w.heap.size w (Lib.bytesWorld w 5 s) := Joins.below_bytesWorld _ _ _ _ (Nat.le_refl _)

set_option maxHeartbeats 400000 in
theorem fmt_in_small (u : Nat) (h : u < 100) (w : World) :
    Calls Tryd.prog 33 #[.int .u64 u, .int .i64 10] w fun e w' => e = .returned (.string ⟨(Lib.decDigits u).toArray⟩) ∧ w' = w := by
  go_enter Tryd.func33, Tryd.ntmps33
  go_wp2_with (go_at_call 50; refine (Tryd.internal_strconv_small u h _).mono ?_; rintro e w' ⟨rfl, rfl⟩)
  go_ret
  exact ⟨rfl, rfl⟩
set_option maxHeartbeats 400000 in
theorem fmt_small (u : Nat) (h : u < 100) (w : World) :
    Calls Tryd.prog 22 #[.int .u64 u, .int .i64 10] w fun e w' => e = .returned (.string ⟨(Lib.decDigits u).toArray⟩) ∧ w' = w := by
  go_enter Tryd.func22, Tryd.ntmps22
  go_wp2_with (go_at_call 33; refine (fmt_in_small u h _).mono ?_; rintro e w' ⟨rfl, rfl⟩)
  go_ret
  exact ⟨rfl, rfl⟩

theorem parse_ok (s : ByteArray) (hs : s.size ≤ 100000) (u : Nat) (h : Hid (Lib.parseUintB 64 s.data.toList = .ok u)) (w : World) :
    Calls Tryd.prog 62 #[.string s, .int .i64 10, .int .i64 64] w fun e w' => e = .returned (.tuple #[.int .u64 u, .nilIface]) ∧ Below w.heap.size w w' :=
  (Tryd.strconv_ParseUint_10_at64_ok s (by omega) u h.out w).mono fun _ _ ⟨he, hw⟩ => ⟨he, by
    rcases hw with rfl | rfl
    · exact Below.refl _ _
    · exact below_bytes _ _⟩
/-- What parsing answers where there is an error. -/
def ParseErr (w : World) (e : Ending) (w' : World) : Prop := ∃ (x : Int) (T : TypeId) (N : Nat), e = .returned (.tuple #[.int .u64 x, .iface T (.pointer (some ⟨N, 0, none⟩))]) ∧ Below w.heap.size w w'
theorem parse_err (s : ByteArray) (hs : s.size ≤ 100000) (h : Hid (∀ u, Lib.parseUintB 64 s.data.toList ≠ .ok u)) (w : World) (he : Errs w) :
    Calls Tryd.prog 62 #[.string s, .int .i64 10, .int .i64 64] w (ParseErr w) := by
  obtain ⟨⟨a, b, h1⟩, c, d, h2⟩ := he
  cases hp : Lib.parseUintB 64 s.data.toList with
  | ok u => exact absurd hp (h.out u)
  | range => exact (Tryd.strconv_ParseUint_10_at64_range s (by omega) hp _ w h2 (Or.inr ⟨_, _, rfl⟩)).mono fun _ _ ⟨N, he, _, _, hb⟩ => ⟨_, _, N, he, hb⟩
  | _ => exact (Tryd.strconv_ParseUint_10_at64_bad s (by omega) h.out (by rw [hp]; simp) _ w h1 (Or.inr ⟨_, _, rfl⟩)).mono fun _ _ ⟨N, he, _, _, hb⟩ => ⟨_, _, N, he, hb⟩

/-- Cutting the first letter off. -/
theorem cut_yes (s : ByteArray) (d : List UInt8) (h : Hid (s.data.toList = 117 :: d)) (w : World) :
    Calls Tryd.prog 69 #[.string s, .string { data := #[117] }] w fun e w' => e = .returned (.tuple #[.string ⟨d.toArray⟩, .bool true]) ∧ w' = w := by
  refine (Tryd.strings_CutPrefix s { data := #[117] } w).mono fun e w' ⟨he, hw⟩ => ⟨?_, hw⟩
  rw [he]
  have h1 : Lib.hasPrefix s.data.toList [117] = true := by rw [h.out]; rfl
  have h2 : Lib.trimPrefix s.data.toList [117] = d := by rw [Lib.trimPrefix, if_pos h1, h.out]; rfl
  show Ending.returned (.tuple #[.string ⟨(Lib.trimPrefix s.data.toList [117]).toArray⟩, .bool (Lib.hasPrefix s.data.toList [117])]) = _
  rw [h1, h2]
theorem cut_no (s : ByteArray) (h : Hid (Lib.hasPrefix s.data.toList [117] = false)) (w : World) :
    Calls Tryd.prog 69 #[.string s, .string { data := #[117] }] w fun e w' => e = .returned (.tuple #[.string s, .bool false]) ∧ w' = w := by
  refine (Tryd.strings_CutPrefix s { data := #[117] } w).mono fun e w' ⟨he, hw⟩ => ⟨?_, hw⟩
  rw [he]
  have h2 : Lib.trimPrefix s.data.toList [117] = s.data.toList := by rw [Lib.trimPrefix, if_neg (by rw [h.out]; simp)]
  show Ending.returned (.tuple #[.string ⟨(Lib.trimPrefix s.data.toList [117]).toArray⟩, .bool (Lib.hasPrefix s.data.toList [117])]) = _
  rw [h.out, h2]

set_option maxHeartbeats 800000 in
theorem width_yes (s : ByteArray) (n : Nat) (h1 : 1 ≤ n) (h2 : n ≤ 64) (h : Hid (s.data.toList = 117 :: Lib.decDigits n)) (w : World) :
    Calls Tryd.prog 61 #[.string s] w fun e w' => e = .returned (.tuple #[.int .u64 n, .bool true]) ∧ Below w.heap.size w w' := by
  have hp : Hid (Lib.parseUintB 64 (ByteArray.mk (Lib.decDigits n).toArray).data.toList = .ok n) := Lib.hid (parse_width n h1 h2)
  have hz : (ByteArray.mk (Lib.decDigits n).toArray).size ≤ 100000 := by
    show (Lib.decDigits n).toArray.size ≤ 100000
    by_cases hn : n < 10
    · rw [dec_one n hn]; simp
    · rw [dec_two n (by omega) (by omega)]; simp
  go_enter Tryd.func61, Tryd.ntmps61
  go_wp2_with (first
    | (go_at_call 69; refine (cut_yes s _ h _).mono ?_; rintro e w' ⟨rfl, rfl⟩)
    | (go_at_call 62; refine (parse_ok _ hz n hp _).mono ?_; rintro e w1 ⟨rfl, hb1⟩)
    | (go_at_call 22; refine (fmt_small n (by omega) _).mono ?_; rintro e w2 ⟨rfl, rfl⟩))
  go_ret2
  exact ⟨rfl, hb1⟩

set_option maxHeartbeats 800000 in
theorem width_nou (s : ByteArray) (h : Hid (Lib.hasPrefix s.data.toList [117] = false)) (w : World) :
    Calls Tryd.prog 61 #[.string s] w fun e w' => e = .returned (.tuple #[.int .u64 0, .bool false]) ∧ Below w.heap.size w w' := by
  go_enter Tryd.func61, Tryd.ntmps61
  go_wp2_with (go_at_call 69; refine (cut_no s h _).mono ?_; rintro e w' ⟨rfl, rfl⟩)
  go_ret2
  exact ⟨rfl, Below.refl _ _⟩

set_option maxHeartbeats 800000 in
theorem width_err (s : ByteArray) (d : List UInt8) (h : Hid (s.data.toList = 117 :: d)) (hd : d.length ≤ 100000) (hp : Hid (∀ u, Lib.parseUintB 64 d ≠ .ok u)) (w : World) (he : Errs w) :
    Calls Tryd.prog 61 #[.string s] w fun e w' => e = .returned (.tuple #[.int .u64 0, .bool false]) ∧ Below w.heap.size w w' := by
  have hz : (ByteArray.mk d.toArray).size ≤ 100000 := hd
  go_enter Tryd.func61, Tryd.ntmps61
  go_wp2_with (first
    | (go_at_call 69; refine (cut_yes s _ h _).mono ?_; rintro e w' ⟨rfl, rfl⟩)
    | (go_at_call 62; refine (parse_err _ hz hp _ he).mono ?_; rintro e w1 ⟨x, T, N, rfl, hb1⟩))
  go_ret2
  exact ⟨rfl, hb1⟩

set_option maxHeartbeats 800000 in
theorem width_far (s : ByteArray) (d : List UInt8) (u : Nat) (h : Hid (s.data.toList = 117 :: d)) (hd : d.length ≤ 100000) (hp : Hid (Lib.parseUintB 64 d = .ok u)) (hu : u < 1 ∨ 64 < u) (w : World) :
    Calls Tryd.prog 61 #[.string s] w fun e w' => e = .returned (.tuple #[.int .u64 0, .bool false]) ∧ Below w.heap.size w w' := by
  have hz : (ByteArray.mk d.toArray).size ≤ 100000 := hd
  rcases hu with hu | hu
  · have h1 : ((u : Int) < 1) := by omega
    go_enter Tryd.func61, Tryd.ntmps61
    go_wp2_with (first
      | (go_at_call 69; refine (cut_yes s _ h _).mono ?_; rintro e w' ⟨rfl, rfl⟩)
      | (go_at_call 62; refine (parse_ok _ hz u hp _).mono ?_; rintro e w1 ⟨rfl, hb1⟩))
    go_ret2
    exact ⟨rfl, hb1⟩
  · have h1 : ¬ ((u : Int) < 1) := by omega
    have h2 : (64 : Int) < u := by omega
    have h3 : decide ((u : Int) < 1) = false := by simp; omega
    go_enter Tryd.func61, Tryd.ntmps61
    go_wp2_with (first
      | (go_at_call 69; refine (cut_yes s _ h _).mono ?_; rintro e w' ⟨rfl, rfl⟩)
      | (go_at_call 62; refine (parse_ok _ hz u hp _).mono ?_; rintro e w1 ⟨rfl, hb1⟩))
    go_ret2
    exact ⟨rfl, hb1⟩

set_option maxHeartbeats 800000 in
theorem width_sup (s : ByteArray) (d : List UInt8) (u : Nat) (h : Hid (s.data.toList = 117 :: d)) (hd : d.length ≤ 100000) (hp : Hid (Lib.parseUintB 64 d = .ok u)) (h1 : 1 ≤ u) (h2 : u ≤ 64) (hne0 : Lib.decDigits u ≠ d) (w : World) :
    Calls Tryd.prog 61 #[.string s] w fun e w' => e = .returned (.tuple #[.int .u64 0, .bool false]) ∧ Below w.heap.size w w' := by
  have hne : (Lib.decDigits u == d) = false := by simpa using hne0
  clear hne0
  have hz : (ByteArray.mk d.toArray).size ≤ 100000 := hd
  go_enter Tryd.func61, Tryd.ntmps61
  go_wp2_with (first
    | (go_at_call 69; refine (cut_yes s _ h _).mono ?_; rintro e w' ⟨rfl, rfl⟩)
    | (go_at_call 62; refine (parse_ok _ hz u hp _).mono ?_; rintro e w1 ⟨rfl, hb1⟩)
    | (go_at_call 22; refine (fmt_small u (by omega) _).mono ?_; rintro e w2 ⟨rfl, rfl⟩))
  go_ret2
  exact ⟨rfl, hb1⟩

theorem width_no (s : ByteArray) (hs : s.size ≤ 100000) (h : widthOf s.data.toList = 0) (w : World) (he : Errs w) :
    Calls Tryd.prog 61 #[.string s] w fun e w' => e = .returned (.tuple #[.int .u64 0, .bool false]) ∧ Below w.heap.size w w' := by
  cases hpre : Lib.hasPrefix s.data.toList [117]
  · exact width_nou s (Lib.hid hpre) w
  · obtain ⟨d, hd⟩ : ∃ d, s.data.toList = 117 :: d := by
      unfold Lib.hasPrefix at hpre
      match hl : s.data.toList, hpre with
      | [], hpre => simp [List.isPrefixOf] at hpre
      | a :: r, hpre =>
        simp [List.isPrefixOf] at hpre
        exact ⟨r, by rw [← hpre]⟩
    have hl : d.length ≤ 100000 := by
      have : s.data.toList.length = s.size := rfl
      rw [hd, List.length_cons] at this; omega
    have HD := Lib.hid hd
    cases hp : Lib.parseUintB 64 d with
    | ok u =>
      by_cases h1 : 1 ≤ u ∧ u ≤ 64
      · refine width_sup s d u HD hl (Lib.hid hp) h1.1 h1.2 (fun e => ?_) w
        rw [hd, ← e, width_text u h1.1 h1.2] at h
        omega
      · exact width_far s d u HD hl (Lib.hid hp) (by omega) w
    | range => exact width_err s d HD hl (Lib.hid (by rw [hp]; simp)) w he
    | _ => exact width_err s d HD hl (Lib.hid (by rw [hp]; simp)) w he
end Go.Proofs.YtnanfedggmkboaaDoor
