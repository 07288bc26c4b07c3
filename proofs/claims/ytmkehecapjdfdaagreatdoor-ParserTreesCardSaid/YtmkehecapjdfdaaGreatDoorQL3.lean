/- Joined texts: LWidth, LRead. -/
import Derived.Test.YtmkehecapjdfdaaGreatDoorQL1
import Derived.Test.YtmkehecapjdfdaaGreatDoorQB2
import Derived.Test.YtmkehecapjdfdaaGreatDoorShelf
import Derived.Lib.SmallJoins

/- Types: the width that a word is the type of. -/
namespace Go.Proofs.YtmkehecapjdfdaaGreatDoor
open Go.RowKit

theorem dec_one (n : Nat) (h : n < 10) : Lib.decDigits n = [UInt8.ofNat (48 + n)] := by rw [Lib.decDigits, dif_pos h]
theorem dec_two (n : Nat) (h : 10 ≤ n) (h2 : n < 100) : Lib.decDigits n = [UInt8.ofNat (48 + n / 10), UInt8.ofNat (48 + n % 10)] := by
  rw [Lib.decDigits, dif_neg (by omega), dec_one _ (by omega)]; rfl
theorem ofNat_val (n : Nat) (h : n < 256) : (UInt8.ofNat n).toNat = n := by simp; omega
theorem u8_ext {a b : UInt8} (h : a.toNat = b.toNat) : a = b := UInt8.toNat_inj.1 h

/-- A word is the type of a width exactly if it is its text. -/
theorem width_text (n : Nat) (h1 : 1 ≤ n) (h2 : n ≤ 64) : widthOf (117 :: Lib.decDigits n) = n := by
  by_cases h : n < 10
  · rw [dec_one n h]
    have e := ofNat_val (48 + n) (by omega)
    simp only [widthOf, e]
    rw [if_pos (by simp; omega)]; omega
  · rw [dec_two n (by omega) (by omega)]
    have e := ofNat_val (48 + n / 10) (by omega)
    have e' := ofNat_val (48 + n % 10) (by omega)
    simp only [widthOf, e, e']
    rw [if_pos (by simp; omega)]; omega
theorem width_is {l : List UInt8} {n : Nat} (h : widthOf l = n) (hn : n ≠ 0) : 1 ≤ n ∧ n ≤ 64 ∧ l = 117 :: Lib.decDigits n := by
  match l, h with
  | [], h => simp [widthOf] at h; omega
  | [_], h => simp [widthOf] at h; omega
  | [u, a], h =>
    simp only [widthOf] at h
    split at h
    · rename_i hc
      simp at hc
      refine ⟨by omega, by omega, ?_⟩
      rw [dec_one n (by omega)]
      have e : a = UInt8.ofNat (48 + n) := u8_ext (by rw [ofNat_val _ (by omega)]; omega)
      have e2 : u = 117 := u8_ext (by rw [hc.1.1]; rfl)
      rw [e, e2]
    · omega
  | [u, a, b], h =>
    simp only [widthOf] at h
    split at h
    · rename_i hc
      simp at hc
      refine ⟨by omega, by omega, ?_⟩
      rw [dec_two n (by omega) (by omega)]
      have e : a = UInt8.ofNat (48 + n / 10) := u8_ext (by rw [ofNat_val _ (by omega)]; omega)
      have e' : b = UInt8.ofNat (48 + n % 10) := u8_ext (by rw [ofNat_val _ (by omega)]; omega)
      have e2 : u = 117 := u8_ext (by rw [hc.1.1.1.1.1]; rfl)
      rw [e, e', e2]
    · omega
  | _ :: _ :: _ :: _ :: _, h => simp [widthOf] at h; omega

theorem parse_width (n : Nat) (h1 : 1 ≤ n) (h2 : n ≤ 64) : Lib.parseUintB 64 (Lib.decDigits n) = .ok n := by
  by_cases h : n < 10
  · rw [dec_one n h]
    have e := ofNat_val (48 + n) (by omega)
    simp only [Lib.parseUintB, Lib.parseUintM, e]
    rw [if_neg (by simp), if_pos (by omega), if_neg (by omega), if_neg (by omega)]
    congr 1; omega
  · rw [dec_two n (by omega) (by omega)]
    have e := ofNat_val (48 + n / 10) (by omega)
    have e' := ofNat_val (48 + n % 10) (by omega)
    simp only [Lib.parseUintB, Lib.parseUintM, e, e']
    rw [if_neg (by simp), if_pos (by omega), if_neg (by omega), if_neg (by omega), if_pos (by omega), if_neg (by omega), if_neg (by omega)]
    congr 1; omega

theorem below_bytes (w : World) (s : ByteArray) : Below w.heap.size w (Lib.bytesWorld w 5 s) := Joins.below_bytesWorld _ _ _ _ (Nat.le_refl _)

set_option maxHeartbeats 400000 in
theorem fmt_in_small (u : Nat) (h : u < 100) (w : World) :
    Calls Tryz.prog 180 #[.int .u64 u, .int .i64 10] w fun e w' => e = .returned (.string ⟨(Lib.decDigits u).toArray⟩) ∧ w' = w := by
  go_enter Tryz.func180, Tryz.ntmps180
  go_wp2_with (go_at_call 192; refine (Tryz.internal_strconv_small u h _).mono ?_; rintro e w' ⟨rfl, rfl⟩)
  go_ret
  exact ⟨rfl, rfl⟩
set_option maxHeartbeats 400000 in
theorem fmt_small (u : Nat) (h : u < 100) (w : World) :
    Calls Tryz.prog 147 #[.int .u64 u, .int .i64 10] w fun e w' => e = .returned (.string ⟨(Lib.decDigits u).toArray⟩) ∧ w' = w := by
  go_enter Tryz.func147, Tryz.ntmps147
  go_wp2_with (go_at_call 180; refine (fmt_in_small u h _).mono ?_; rintro e w' ⟨rfl, rfl⟩)
  go_ret
  exact ⟨rfl, rfl⟩

theorem parse_ok (s : ByteArray) (hs : s.size ≤ 100000) (u : Nat) (h : Hid (Lib.parseUintB 64 s.data.toList = .ok u)) (w : World) :
    Calls Tryz.prog 152 #[.string s, .int .i64 10, .int .i64 64] w fun e w' => e = .returned (.tuple #[.int .u64 u, .nilIface]) ∧ Below w.heap.size w w' :=
  (Tryz.strconv_ParseUint_10_at64_ok s (by omega) u h.out w).mono fun _ _ ⟨he, hw⟩ => ⟨he, by
    rcases hw with rfl | rfl
    · exact Below.refl _ _
    · exact below_bytes _ _⟩
/-- What parsing answers where there is an error. -/
def ParseErr (w : World) (e : Ending) (w' : World) : Prop := ∃ (x : Int) (T : TypeId) (N : Nat), e = .returned (.tuple #[.int .u64 x, .iface T (.pointer (some ⟨N, 0, none⟩))]) ∧ Below w.heap.size w w'
theorem parse_err (s : ByteArray) (hs : s.size ≤ 100000) (h : Hid (∀ u, Lib.parseUintB 64 s.data.toList ≠ .ok u)) (w : World) (he : Errs w) :
    Calls Tryz.prog 152 #[.string s, .int .i64 10, .int .i64 64] w (ParseErr w) := by
  obtain ⟨⟨a, b, h1⟩, c, d, h2⟩ := he
  cases hp : Lib.parseUintB 64 s.data.toList with
  | ok u => exact absurd hp (h.out u)
  | range => exact (Tryz.strconv_ParseUint_10_at64_range s (by omega) hp _ w h2 (Or.inr ⟨_, _, rfl⟩)).mono fun _ _ ⟨N, he, _, _, hb⟩ => ⟨_, _, N, he, hb⟩
  | _ => exact (Tryz.strconv_ParseUint_10_at64_bad s (by omega) h.out (by rw [hp]; simp) _ w h1 (Or.inr ⟨_, _, rfl⟩)).mono fun _ _ ⟨N, he, _, _, hb⟩ => ⟨_, _, N, he, hb⟩

/-- Cutting the first letter off. -/
theorem cut_yes (s : ByteArray) (d : List UInt8) (h : Hid (s.data.toList = 117 :: d)) (w : World) :
    Calls Tryz.prog 181 #[.string s, .string { data := #[117] }] w fun e w' => e = .returned (.tuple #[.string ⟨d.toArray⟩, .bool true]) ∧ w' = w := by
  refine (Tryz.strings_CutPrefix s { data := #[117] } w).mono fun e w' ⟨he, hw⟩ => ⟨?_, hw⟩
  rw [he]
  have h1 : Lib.hasPrefix s.data.toList [117] = true := by rw [h.out]; rfl
  have h2 : Lib.trimPrefix s.data.toList [117] = d := by rw [Lib.trimPrefix, if_pos h1, h.out]; rfl
  show Ending.returned (.tuple #[.string ⟨(Lib.trimPrefix s.data.toList [117]).toArray⟩, .bool (Lib.hasPrefix s.data.toList [117])]) = _
  rw [h1, h2]
theorem cut_no (s : ByteArray) (h : Hid (Lib.hasPrefix s.data.toList [117] = false)) (w : World) :
    Calls Tryz.prog 181 #[.string s, .string { data := #[117] }] w fun e w' => e = .returned (.tuple #[.string s, .bool false]) ∧ w' = w := by
  refine (Tryz.strings_CutPrefix s { data := #[117] } w).mono fun e w' ⟨he, hw⟩ => ⟨?_, hw⟩
  rw [he]
  have h2 : Lib.trimPrefix s.data.toList [117] = s.data.toList := by rw [Lib.trimPrefix, if_neg (by rw [h.out]; simp)]
  show Ending.returned (.tuple #[.string ⟨(Lib.trimPrefix s.data.toList [117]).toArray⟩, .bool (Lib.hasPrefix s.data.toList [117])]) = _
  rw [h.out, h2]

set_option maxHeartbeats 800000 in
theorem width_yes (s : ByteArray) (n : Nat) (h1 : 1 ≤ n) (h2 : n ≤ 64) (h : Hid (s.data.toList = 117 :: Lib.decDigits n)) (w : World) :
    Calls Tryz.prog 151 #[.string s] w fun e w' => e = .returned (.tuple #[.int .u64 n, .bool true]) ∧ Below w.heap.size w w' := by
  have hp : Hid (Lib.parseUintB 64 (ByteArray.mk (Lib.decDigits n).toArray).data.toList = .ok n) := Lib.hid (parse_width n h1 h2)
  have hz : (ByteArray.mk (Lib.decDigits n).toArray).size ≤ 100000 := by
    show (Lib.decDigits n).toArray.size ≤ 100000
    by_cases hn : n < 10
    · rw [dec_one n hn]; simp
    · rw [dec_two n (by omega) (by omega)]; simp
  go_enter Tryz.func151, Tryz.ntmps151
  go_wp2_with (first
    | (go_at_call 181; refine (cut_yes s _ h _).mono ?_; rintro e w' ⟨rfl, rfl⟩)
    | (go_at_call 152; refine (parse_ok _ hz n hp _).mono ?_; rintro e w1 ⟨rfl, hb1⟩)
    | (go_at_call 147; refine (fmt_small n (by omega) _).mono ?_; rintro e w2 ⟨rfl, rfl⟩))
  go_ret2
  exact ⟨rfl, hb1⟩

set_option maxHeartbeats 800000 in
theorem width_nou (s : ByteArray) (h : Hid (Lib.hasPrefix s.data.toList [117] = false)) (w : World) :
    Calls Tryz.prog 151 #[.string s] w fun e w' => e = .returned (.tuple #[.int .u64 0, .bool false]) ∧ Below w.heap.size w w' := by
  go_enter Tryz.func151, Tryz.ntmps151
  go_wp2_with (go_at_call 181; refine (cut_no s h _).mono ?_; rintro e w' ⟨rfl, rfl⟩)
  go_ret2
  exact ⟨rfl, Below.refl _ _⟩

set_option maxHeartbeats 800000 in
theorem width_err (s : ByteArray) (d : List UInt8) (h : Hid (s.data.toList = 117 :: d)) (hd : d.length ≤ 100000) (hp : Hid (∀ u, Lib.parseUintB 64 d ≠ .ok u)) (w : World) (he : Errs w) :
    Calls Tryz.prog 151 #[.string s] w fun e w' => e = .returned (.tuple #[.int .u64 0, .bool false]) ∧ Below w.heap.size w w' := by
  have hz : (ByteArray.mk d.toArray).size ≤ 100000 := hd
  go_enter Tryz.func151, Tryz.ntmps151
  go_wp2_with (first
    | (go_at_call 181; refine (cut_yes s _ h _).mono ?_; rintro e w' ⟨rfl, rfl⟩)
    | (go_at_call 152; refine (parse_err _ hz hp _ he).mono ?_; rintro e w1 ⟨x, T, N, rfl, hb1⟩))
  go_ret2
  exact ⟨rfl, hb1⟩

set_option maxHeartbeats 800000 in
theorem width_far (s : ByteArray) (d : List UInt8) (u : Nat) (h : Hid (s.data.toList = 117 :: d)) (hd : d.length ≤ 100000) (hp : Hid (Lib.parseUintB 64 d = .ok u)) (hu : u < 1 ∨ 64 < u) (w : World) :
    Calls Tryz.prog 151 #[.string s] w fun e w' => e = .returned (.tuple #[.int .u64 0, .bool false]) ∧ Below w.heap.size w w' := by
  have hz : (ByteArray.mk d.toArray).size ≤ 100000 := hd
  rcases hu with hu | hu
  · have h1 : ((u : Int) < 1) := by omega
    go_enter Tryz.func151, Tryz.ntmps151
    go_wp2_with (first
      | (go_at_call 181; refine (cut_yes s _ h _).mono ?_; rintro e w' ⟨rfl, rfl⟩)
      | (go_at_call 152; refine (parse_ok _ hz u hp _).mono ?_; rintro e w1 ⟨rfl, hb1⟩))
    go_ret2
    exact ⟨rfl, hb1⟩
  · have h1 : ¬ ((u : Int) < 1) := by omega
    have h2 : (64 : Int) < u := by omega
    have h3 : decide ((u : Int) < 1) = false := by simp; omega
    go_enter Tryz.func151, Tryz.ntmps151
    go_wp2_with (first
      | (go_at_call 181; refine (cut_yes s _ h _).mono ?_; rintro e w' ⟨rfl, rfl⟩)
      | (go_at_call 152; refine (parse_ok _ hz u hp _).mono ?_; rintro e w1 ⟨rfl, hb1⟩))
    go_ret2
    exact ⟨rfl, hb1⟩

set_option maxHeartbeats 800000 in
theorem width_sup (s : ByteArray) (d : List UInt8) (u : Nat) (h : Hid (s.data.toList = 117 :: d)) (hd : d.length ≤ 100000) (hp : Hid (Lib.parseUintB 64 d = .ok u)) (h1 : 1 ≤ u) (h2 : u ≤ 64) (hne0 : Lib.decDigits u ≠ d) (w : World) :
    Calls Tryz.prog 151 #[.string s] w fun e w' => e = .returned (.tuple #[.int .u64 0, .bool false]) ∧ Below w.heap.size w w' := by
  have hne : (Lib.decDigits u == d) = false := by simpa using hne0
  clear hne0
  have hz : (ByteArray.mk d.toArray).size ≤ 100000 := hd
  go_enter Tryz.func151, Tryz.ntmps151
  go_wp2_with (first
    | (go_at_call 181; refine (cut_yes s _ h _).mono ?_; rintro e w' ⟨rfl, rfl⟩)
    | (go_at_call 152; refine (parse_ok _ hz u hp _).mono ?_; rintro e w1 ⟨rfl, hb1⟩)
    | (go_at_call 147; refine (fmt_small u (by omega) _).mono ?_; rintro e w2 ⟨rfl, rfl⟩))
  go_ret2
  exact ⟨rfl, hb1⟩

theorem width_no (s : ByteArray) (hs : s.size ≤ 100000) (h : widthOf s.data.toList = 0) (w : World) (he : Errs w) :
    Calls Tryz.prog 151 #[.string s] w fun e w' => e = .returned (.tuple #[.int .u64 0, .bool false]) ∧ Below w.heap.size w w' := by
  cases hpre : Lib.hasPrefix s.data.toList [117]
  · exact width_nou s (Lib.hid hpre) w
  · obtain ⟨d, hd⟩ : ∃ d, s.data.toList = 117 :: d := by
      unfold Lib.hasPrefix at hpre
      match hl : s.data.toList, hpre with
      | [], hpre => simp [List.isPrefixOf] at hpre
      | a :: r, hpre =>
        simp [List.isPrefixOf] at hpre
        exact ⟨r, by rw [← hpre]⟩
    have hl : d.length ≤ 100000 := by
      have : s.data.toList.length = s.size := rfl
      rw [hd, List.length_cons] at this; omega
    have HD := Lib.hid hd
    cases hp : Lib.parseUintB 64 d with
    | ok u =>
      by_cases h1 : 1 ≤ u ∧ u ≤ 64
      · refine width_sup s d u HD hl (Lib.hid hp) h1.1 h1.2 (fun e => ?_) w
        rw [hd, ← e, width_text u h1.1 h1.2] at h
        omega
      · exact width_far s d u HD hl (Lib.hid hp) (by omega) w
    | range => exact width_err s d HD hl (Lib.hid (by rw [hp]; simp)) w he
    | _ => exact width_err s d HD hl (Lib.hid (by rw [hp]; simp)) w he
end Go.Proofs.YtmkehecapjdfdaaGreatDoor

/- What a token's text is read as. -/
namespace Go.Proofs.YtmkehecapjdfdaaGreatDoor
open Go.RowKit

/-- Behind what a call has made, all that was there is as it was. -/
theorem bcell {W w1 : World} (hb : Below W.heap.size W w1) : (∀ b o, b < W.heap.size → w1.cell? ⟨b, o, none⟩ = W.cell? ⟨b, o, none⟩) ∧ (∀ b o, b < W.heap.size → w1.frozen? ⟨b, o, none⟩ = W.frozen? ⟨b, o, none⟩) :=
  ⟨fun b o h => hb.cell (p := ⟨b, o, none⟩) h, fun b o h => hb.frozen (p := ⟨b, o, none⟩) h⟩
theorem below1 {w w1 : World} {o : Obj} (hb : Below (w.alloc o).heap.size (w.alloc o) w1) : Below w.heap.size w w1 :=
  ((Below.refl _ _).alloc (Nat.le_refl _) _).trans (hb.mono (by simp))

set_option maxRecDepth 100000 in
set_option maxHeartbeats 800000 in
theorem readWord_type (s : ByteArray) (n : Nat) (h1 : 1 ≤ n) (h2 : n ≤ 64) (h : Hid (s.data.toList = 117 :: Lib.decDigits n)) (w : World) :
    Calls Tryz.prog 98 #[.string s] w fun e w' => e = .returned (.tuple #[.agg #[.int .i64 3, .string ⟨#[]⟩, .int .u64 n, .int .i64 0], .int .i64 0]) ∧ Below w.heap.size w w' := by
  go_enter Tryz.func98, Tryz.ntmps98
  go_wp2_with fail
  refine (width_yes s n h1 h2 h _).mono ?_
  rintro e w1 ⟨rfl, hb1⟩
  obtain ⟨hc1, hf1⟩ := bcell hb1
  have hz1 : w.heap.size < w1.heap.size := by have hs := hb1.size; simp at hs; omega
  go_wp2
  refine bodyPost_ret (v := .tuple #[.agg #[.int .i64 3, .string ⟨#[]⟩, .int .u64 n, .int .i64 0], .int .i64 0]) (by simp [results, Tryz.results98, go_sem, hc1]) rfl ⟨rfl, ?_⟩
  (repeat (first | exact below1 hb1 | exact Below.refl _ _ | refine Below.setCell ?_ (by simp) _ | refine Below.alloc ?_ (by simp) _))

set_option maxRecDepth 100000 in
set_option maxHeartbeats 800000 in
theorem readWord_long (s : ByteArray) (h1 : 12 < s.size) (hs : s.size ≤ 100000) (h : Hid (widthOf s.data.toList = 0)) (w : World) (he : Errs w) :
    Calls Tryz.prog 98 #[.string s] w fun e w' => e = .returned (.tuple #[.agg #[.int .i64 0, .string ⟨#[]⟩, .int .u64 0, .int .i64 0], .int .i64 3]) ∧ Below w.heap.size w w' := by
  go_enter Tryz.func98, Tryz.ntmps98
  go_wp2_with fail
  refine (width_no s hs h.out _ (he.later ((Below.refl _ _).alloc (Nat.le_refl _) _))).mono ?_
  rintro e w1 ⟨rfl, hb1⟩
  obtain ⟨hc1, hf1⟩ := bcell hb1
  have hz1 : w.heap.size < w1.heap.size := by have hs := hb1.size; simp at hs; omega
  go_wp2
  refine bodyPost_ret (v := .tuple #[.agg #[.int .i64 0, .string ⟨#[]⟩, .int .u64 0, .int .i64 0], .int .i64 3]) (by simp [results, Tryz.results98, go_sem, hc1]) rfl ⟨rfl, ?_⟩
  (repeat (first | exact below1 hb1 | exact Below.refl _ _ | refine Below.setCell ?_ (by simp) _ | refine Below.alloc ?_ (by simp) _))

set_option maxRecDepth 100000 in
set_option maxHeartbeats 800000 in
theorem readWord_name (s : ByteArray) (h1 : ¬ 12 < s.size) (hs : s.size ≤ 100000) (h : Hid (widthOf s.data.toList = 0)) (w : World) (he : Errs w) :
    Calls Tryz.prog 98 #[.string s] w fun e w' => e = .returned (.tuple #[.agg #[.int .i64 1, .string s, .int .u64 0, .int .i64 0], .int .i64 0]) ∧ Below w.heap.size w w' := by
  go_enter Tryz.func98, Tryz.ntmps98
  go_wp2_with fail
  refine (width_no s hs h.out _ (he.later ((Below.refl _ _).alloc (Nat.le_refl _) _))).mono ?_
  rintro e w1 ⟨rfl, hb1⟩
  obtain ⟨hc1, hf1⟩ := bcell hb1
  have hz1 : w.heap.size < w1.heap.size := by have hs := hb1.size; simp at hs; omega
  go_wp2
  refine bodyPost_ret (v := .tuple #[.agg #[.int .i64 1, .string s, .int .u64 0, .int .i64 0], .int .i64 0]) (by simp [results, Tryz.results98, go_sem, hc1]) rfl ⟨rfl, ?_⟩
  (repeat (first | exact below1 hb1 | exact Below.refl _ _ | refine Below.setCell ?_ (by simp) _ | refine Below.alloc ?_ (by simp) _))

set_option maxRecDepth 100000 in
set_option maxHeartbeats 800000 in
theorem readNumber_zero (s : ByteArray) (h0 : 1 < s.size) (hs : s.size ≤ 100000) (h48 : Hid (s[0].toNat = 48)) (w : World) :
    Calls Tryz.prog 99 #[.string s] w fun e w' => e = .returned (.tuple #[.agg #[.int .i64 0, .string ⟨#[]⟩, .int .u64 0, .int .i64 0], .int .i64 10]) ∧ Below w.heap.size w w' := by
  have t48 : ((s[0].toNat : Int) == 48) = true := by
    have := h48.out
    simp; omega
  clear h48
  go_enter Tryz.func99, Tryz.ntmps99
  go_wp2
  refine bodyPost_ret (v := .tuple #[.agg #[.int .i64 0, .string ⟨#[]⟩, .int .u64 0, .int .i64 0], .int .i64 10]) (by simp [results, Tryz.results99, go_sem]) rfl ⟨rfl, ?_⟩
  (repeat (first | exact Below.refl _ _ | refine Below.setCell ?_ (by simp) _ | refine Below.alloc ?_ (by simp) _))

set_option maxRecDepth 100000 in
set_option maxHeartbeats 800000 in
theorem readNumber_ok1 (s : ByteArray) (h0 : ¬ 1 < s.size) (hs : s.size ≤ 100000) (u : Nat) (h : Hid (Lib.parseUintB 64 s.data.toList = .ok u)) (w : World) :
    Calls Tryz.prog 99 #[.string s] w fun e w' => e = .returned (.tuple #[.agg #[.int .i64 2, .string ⟨#[]⟩, .int .u64 u, .int .i64 0], .int .i64 0]) ∧ Below w.heap.size w w' := by
  go_enter Tryz.func99, Tryz.ntmps99
  go_wp2_with fail
  refine (parse_ok s hs u h _).mono ?_
  rintro e w1 ⟨rfl, hb1⟩
  obtain ⟨hc1, hf1⟩ := bcell hb1
  have hz1 : w.heap.size < w1.heap.size := by have hs := hb1.size; simp at hs; omega
  go_wp2
  refine bodyPost_ret (v := .tuple #[.agg #[.int .i64 2, .string ⟨#[]⟩, .int .u64 u, .int .i64 0], .int .i64 0]) (by simp [results, Tryz.results99, go_sem, hc1]) rfl ⟨rfl, ?_⟩
  (repeat (first | exact below1 hb1 | exact Below.refl _ _ | refine Below.setCell ?_ (by simp) _ | refine Below.alloc ?_ (by simp) _))

set_option maxRecDepth 100000 in
set_option maxHeartbeats 800000 in
theorem readNumber_err1 (s : ByteArray) (h0 : ¬ 1 < s.size) (hs : s.size ≤ 100000) (h : Hid (∀ u, Lib.parseUintB 64 s.data.toList ≠ .ok u)) (w : World) (he : Errs w) :
    Calls Tryz.prog 99 #[.string s] w fun e w' => e = .returned (.tuple #[.agg #[.int .i64 0, .string ⟨#[]⟩, .int .u64 0, .int .i64 0], .int .i64 3]) ∧ Below w.heap.size w w' := by
  go_enter Tryz.func99, Tryz.ntmps99
  go_wp2_with fail
  refine (parse_err s hs h _ (he.later ((Below.refl _ _).alloc (Nat.le_refl _) _))).mono ?_
  rintro e w1 ⟨x, T, N, rfl, hb1⟩
  obtain ⟨hc1, hf1⟩ := bcell hb1
  have hz1 : w.heap.size < w1.heap.size := by have hs := hb1.size; simp at hs; omega
  go_wp2
  refine bodyPost_ret (v := .tuple #[.agg #[.int .i64 0, .string ⟨#[]⟩, .int .u64 0, .int .i64 0], .int .i64 3]) (by simp [results, Tryz.results99, go_sem, hc1]) rfl ⟨rfl, ?_⟩
  (repeat (first | exact below1 hb1 | exact Below.refl _ _ | refine Below.setCell ?_ (by simp) _ | refine Below.alloc ?_ (by simp) _))

set_option maxRecDepth 100000 in
set_option maxHeartbeats 800000 in
theorem readNumber_ok2 (s : ByteArray) (h0 : 1 < s.size) (hs : s.size ≤ 100000) (h48 : Hid (s[0].toNat ≠ 48)) (u : Nat) (h : Hid (Lib.parseUintB 64 s.data.toList = .ok u)) (w : World) :
    Calls Tryz.prog 99 #[.string s] w fun e w' => e = .returned (.tuple #[.agg #[.int .i64 2, .string ⟨#[]⟩, .int .u64 u, .int .i64 0], .int .i64 0]) ∧ Below w.heap.size w w' := by
  have t48 : ((s[0].toNat : Int) == 48) = false := by
    have := h48.out
    simp; omega
  clear h48
  go_enter Tryz.func99, Tryz.ntmps99
  go_wp2_with fail
  refine (parse_ok s hs u h _).mono ?_
  rintro e w1 ⟨rfl, hb1⟩
  obtain ⟨hc1, hf1⟩ := bcell hb1
  have hz1 : w.heap.size < w1.heap.size := by have hs := hb1.size; simp at hs; omega
  go_wp2
  refine bodyPost_ret (v := .tuple #[.agg #[.int .i64 2, .string ⟨#[]⟩, .int .u64 u, .int .i64 0], .int .i64 0]) (by simp [results, Tryz.results99, go_sem, hc1]) rfl ⟨rfl, ?_⟩
  (repeat (first | exact below1 hb1 | exact Below.refl _ _ | refine Below.setCell ?_ (by simp) _ | refine Below.alloc ?_ (by simp) _))

set_option maxRecDepth 100000 in
set_option maxHeartbeats 800000 in
theorem readNumber_err2 (s : ByteArray) (h0 : 1 < s.size) (hs : s.size ≤ 100000) (h48 : Hid (s[0].toNat ≠ 48)) (h : Hid (∀ u, Lib.parseUintB 64 s.data.toList ≠ .ok u)) (w : World) (he : Errs w) :
    Calls Tryz.prog 99 #[.string s] w fun e w' => e = .returned (.tuple #[.agg #[.int .i64 0, .string ⟨#[]⟩, .int .u64 0, .int .i64 0], .int .i64 3]) ∧ Below w.heap.size w w' := by
  have t48 : ((s[0].toNat : Int) == 48) = false := by
    have := h48.out
    simp; omega
  clear h48
  go_enter Tryz.func99, Tryz.ntmps99
  go_wp2_with fail
  refine (parse_err s hs h _ (he.later ((Below.refl _ _).alloc (Nat.le_refl _) _))).mono ?_
  rintro e w1 ⟨x, T, N, rfl, hb1⟩
  obtain ⟨hc1, hf1⟩ := bcell hb1
  have hz1 : w.heap.size < w1.heap.size := by have hs := hb1.size; simp at hs; omega
  go_wp2
  refine bodyPost_ret (v := .tuple #[.agg #[.int .i64 0, .string ⟨#[]⟩, .int .u64 0, .int .i64 0], .int .i64 3]) (by simp [results, Tryz.results99, go_sem, hc1]) rfl ⟨rfl, ?_⟩
  (repeat (first | exact below1 hb1 | exact Below.refl _ _ | refine Below.setCell ?_ (by simp) _ | refine Below.alloc ?_ (by simp) _))

theorem readWord_any (s : ByteArray) (k : Nat) (t : List UInt8) (n er : Nat) (h0 : 0 < s.size) (hs : s.size ≤ 100000) (hl : isLet s[0] = true) (h : readT s.data.toList = ((k, t, n), er)) (w : World) (he : Errs w) :
    Calls Tryz.prog 98 #[.string s] w fun e w' => e = .returned (.tuple #[.agg #[.int .i64 k, .string ⟨t.toArray⟩, .int .u64 n, .int .i64 0], .int .i64 er]) ∧ Below w.heap.size w w' := by
  have e := drop_at s 0 h0
  rw [List.drop_zero] at e
  have hlen : s.data.toList.length = s.size := rfl
  by_cases hw : widthOf s.data.toList ≠ 0
  · obtain ⟨h1, h2, h3⟩ := width_is rfl hw
    have h' := h
    rw [e, readT, if_pos hl, ← e, if_pos hw] at h'
    simp only [Prod.mk.injEq] at h'
    obtain ⟨⟨rfl, rfl, rfl⟩, rfl⟩ := h'
    exact readWord_type s _ h1 h2 (Lib.hid h3) w
  · have hw0 : widthOf s.data.toList = 0 := by omega
    by_cases h12 : 12 < s.size
    · have h' := h
      rw [e, readT, if_pos hl, ← e, if_neg hw, if_pos (by rw [hlen]; exact h12)] at h'
      simp only [Prod.mk.injEq] at h'
      obtain ⟨⟨rfl, rfl, rfl⟩, rfl⟩ := h'
      exact readWord_long s h12 hs (Lib.hid hw0) w he
    · have h' := h
      rw [e, readT, if_pos hl, ← e, if_neg hw, if_neg (by rw [hlen]; exact h12)] at h'
      simp only [Prod.mk.injEq] at h'
      obtain ⟨⟨rfl, rfl, rfl⟩, rfl⟩ := h'
      exact readWord_name s h12 hs (Lib.hid hw0) w he
theorem lreadNumber_any (s : ByteArray) (k : Nat) (t : List UInt8) (n er : Nat) (h0 : 0 < s.size) (hs : s.size ≤ 100000) (hl : isLet s[0] = false) (hd : isDig s[0] = true) (h : readT s.data.toList = ((k, t, n), er)) (w : World) (he : Errs w) :
    Calls Tryz.prog 99 #[.string s] w fun e w' => e = .returned (.tuple #[.agg #[.int .i64 k, .string ⟨t.toArray⟩, .int .u64 n, .int .i64 0], .int .i64 er]) ∧ Below w.heap.size w w' := by
  have e := drop_at s 0 h0
  rw [List.drop_zero] at e
  have hlen : (s.data.toList.drop (0 + 1)).length = s.size - 1 := by
    have : s.data.toList.length = s.size := rfl
    rw [List.length_drop, this]
  have hne : s.data.toList.drop (0 + 1) ≠ [] ↔ 1 < s.size := by
    rw [← List.length_pos_iff, hlen]; omega
  by_cases hz : s.data.toList.drop (0 + 1) ≠ [] ∧ s[0].toNat = 48
  · have h' := h
    rw [e, readT, if_neg (by simp [hl]), if_pos hd, if_pos hz] at h'
    simp only [Prod.mk.injEq] at h'
    obtain ⟨⟨rfl, rfl, rfl⟩, rfl⟩ := h'
    exact readNumber_zero s (hne.1 hz.1) hs (Lib.hid hz.2) w
  · have h' := h
    rw [e, readT, if_neg (by simp [hl]), if_pos hd, if_neg hz, ← e] at h'
    cases hp : Lib.parseUintB 64 s.data.toList with
    | ok u =>
      rw [hp] at h'
      simp only [Prod.mk.injEq] at h'
      obtain ⟨⟨rfl, rfl, rfl⟩, rfl⟩ := h'
      by_cases h1 : 1 < s.size
      · exact readNumber_ok2 s h1 hs (Lib.hid fun h48 => hz ⟨hne.2 h1, h48⟩) _ (Lib.hid hp) w
      · exact readNumber_ok1 s h1 hs _ (Lib.hid hp) w
    | range =>
      rw [hp] at h'
      simp only [Prod.mk.injEq] at h'
      obtain ⟨⟨rfl, rfl, rfl⟩, rfl⟩ := h'
      by_cases h1 : 1 < s.size
      · exact readNumber_err2 s h1 hs (Lib.hid fun h48 => hz ⟨hne.2 h1, h48⟩) (Lib.hid (by rw [hp]; simp)) w he
      · exact readNumber_err1 s h1 hs (Lib.hid (by rw [hp]; simp)) w he
    | _ =>
      rw [hp] at h'
      simp only [Prod.mk.injEq] at h'
      obtain ⟨⟨rfl, rfl, rfl⟩, rfl⟩ := h'
      by_cases h1 : 1 < s.size
      · exact readNumber_err2 s h1 hs (Lib.hid fun h48 => hz ⟨hne.2 h1, h48⟩) (Lib.hid (by rw [hp]; simp)) w he
      · exact readNumber_err1 s h1 hs (Lib.hid (by rw [hp]; simp)) w he

set_option maxRecDepth 100000 in
set_option maxHeartbeats 800000 in
theorem read_word (s : ByteArray) (k : Nat) (t : List UInt8) (n er : Nat) (h0 : 0 < s.size) (hs : s.size ≤ 100000) (hl : Hid (isLet s[0] = true)) (h : Hid (readT s.data.toList = ((k, t, n), er))) (w : World) (ht : Tab w) (he : Errs w) :
    Calls Tryz.prog 54 #[.string s] w fun e w' => e = .returned (.tuple #[.agg #[.int .i64 k, .string ⟨t.toArray⟩, .int .u64 n, .int .i64 0], .int .i64 er]) ∧ Below w.heap.size w w' := by
  have hb0 : s[0].toNat < 256 := s[0].toNat_lt
  have m2 := (mask2.at_ s[0]).trans hl.out
  have ht2 : Tab (w.alloc (.cells #[.int .i64 0, .string { data := #[] }, .int .u64 0, .int .i64 0] 47)) := ht.later ((Below.refl _ _).alloc (Nat.le_refl _) _)
  go_enter Tryz.func54, Tryz.ntmps54
  go_wp2_with fail
  refine (roles_any _ hb0 _ ht2).mono ?_
  rintro e w0 ⟨rfl, hw0⟩
  rw [hw0]
  clear hw0 w0
  go_wp2_with fail
  refine (readWord_any s k t n er h0 hs hl.out h.out _ (he.later ((Below.refl _ _).alloc (Nat.le_refl _) _))).mono ?_
  rintro e w1 ⟨rfl, hb1⟩
  obtain ⟨hc1, hf1⟩ := bcell hb1
  have hz1 : w.heap.size < w1.heap.size := by have hs := hb1.size; simp at hs; omega
  go_wp2
  refine bodyPost_ret (v := .tuple #[.agg #[.int .i64 k, .string ⟨t.toArray⟩, .int .u64 n, .int .i64 0], .int .i64 er]) (by simp [results, Tryz.results54, go_sem, hc1]) rfl ⟨rfl, ?_⟩
  (repeat (first | exact below1 hb1 | refine Below.setCell ?_ (by simp) _ | refine Below.alloc ?_ (by simp) _))

set_option maxRecDepth 100000 in
set_option maxHeartbeats 800000 in
theorem read_number (s : ByteArray) (k : Nat) (t : List UInt8) (n er : Nat) (h0 : 0 < s.size) (hs : s.size ≤ 100000) (hl : Hid (isLet s[0] = false)) (hd : Hid (isDig s[0] = true)) (h : Hid (readT s.data.toList = ((k, t, n), er))) (w : World) (ht : Tab w) (he : Errs w) :
    Calls Tryz.prog 54 #[.string s] w fun e w' => e = .returned (.tuple #[.agg #[.int .i64 k, .string ⟨t.toArray⟩, .int .u64 n, .int .i64 0], .int .i64 er]) ∧ Below w.heap.size w w' := by
  have hb0 : s[0].toNat < 256 := s[0].toNat_lt
  have m2 := (mask2.at_ s[0]).trans hl.out
  have m4 := (mask4.at_ s[0]).trans hd.out
  have ht2 : Tab (w.alloc (.cells #[.int .i64 0, .string { data := #[] }, .int .u64 0, .int .i64 0] 47)) := ht.later ((Below.refl _ _).alloc (Nat.le_refl _) _)
  go_enter Tryz.func54, Tryz.ntmps54
  go_wp2_with fail
  refine (roles_any _ hb0 _ ht2).mono ?_
  rintro e w0 ⟨rfl, hw0⟩
  rw [hw0]
  clear hw0 w0
  go_wp2_with fail
  refine (lreadNumber_any s k t n er h0 hs hl.out hd.out h.out _ (he.later ((Below.refl _ _).alloc (Nat.le_refl _) _))).mono ?_
  rintro e w1 ⟨rfl, hb1⟩
  obtain ⟨hc1, hf1⟩ := bcell hb1
  have hz1 : w.heap.size < w1.heap.size := by have hs := hb1.size; simp at hs; omega
  go_wp2
  refine bodyPost_ret (v := .tuple #[.agg #[.int .i64 k, .string ⟨t.toArray⟩, .int .u64 n, .int .i64 0], .int .i64 er]) (by simp [results, Tryz.results54, go_sem, hc1]) rfl ⟨rfl, ?_⟩
  (repeat (first | exact below1 hb1 | refine Below.setCell ?_ (by simp) _ | refine Below.alloc ?_ (by simp) _))

set_option maxRecDepth 100000 in
set_option maxHeartbeats 800000 in
theorem read_sign (s : ByteArray) (h0 : 0 < s.size) (_hs : s.size ≤ 100000) (hl : Hid (isLet s[0] = false)) (hd : Hid (isDig s[0] = false)) (w : World) (ht : Tab w) (_he : Errs w) :
    Calls Tryz.prog 54 #[.string s] w fun e w' => e = .returned (.tuple #[.agg #[.int .i64 4, .string s, .int .u64 0, .int .i64 0], .int .i64 0]) ∧ Below w.heap.size w w' := by
  have hb0 : s[0].toNat < 256 := s[0].toNat_lt
  have m2 := (mask2.at_ s[0]).trans hl.out
  have m4 := (mask4.at_ s[0]).trans hd.out
  have ht2 : Tab (w.alloc (.cells #[.int .i64 0, .string { data := #[] }, .int .u64 0, .int .i64 0] 47)) := ht.later ((Below.refl _ _).alloc (Nat.le_refl _) _)
  go_enter Tryz.func54, Tryz.ntmps54
  go_wp2_with fail
  refine (roles_any _ hb0 _ ht2).mono ?_
  rintro e w0 ⟨rfl, hw0⟩
  rw [hw0]
  clear hw0 w0
  go_wp2
  refine bodyPost_ret (v := .tuple #[.agg #[.int .i64 4, .string s, .int .u64 0, .int .i64 0], .int .i64 0]) (by simp [results, Tryz.results54, go_sem]) rfl ⟨rfl, ?_⟩
  (repeat (first | exact Below.refl _ _ | refine Below.setCell ?_ (by simp) _ | refine Below.alloc ?_ (by simp) _))

theorem read_any (s : ByteArray) (k : Nat) (t : List UInt8) (n er : Nat) (h0 : 0 < s.size) (hs : s.size ≤ 100000) (h : Hid (readT s.data.toList = ((k, t, n), er))) (w : World) (ht : Tab w) (he : Errs w) :
    Calls Tryz.prog 54 #[.string s] w fun e w' => e = .returned (.tuple #[.agg #[.int .i64 k, .string ⟨t.toArray⟩, .int .u64 n, .int .i64 0], .int .i64 er]) ∧ Below w.heap.size w w' := by
  cases hl : isLet s[0]
  · cases hd : isDig s[0]
    · have e := drop_at s 0 h0
      rw [List.drop_zero] at e
      have h' := h.out
      rw [e, readT, if_neg (by simp [hl]), if_neg (by simp [hd]), ← e] at h'
      simp only [Prod.mk.injEq] at h'
      obtain ⟨⟨rfl, rfl, rfl⟩, rfl⟩ := h'
      exact read_sign s h0 hs (Lib.hid hl) (Lib.hid hd) w ht he
    · exact read_number s k t n er h0 hs (Lib.hid hl) (Lib.hid hd) h w ht he
  · exact read_word s k t n er h0 hs (Lib.hid hl) h w ht he
end Go.Proofs.YtmkehecapjdfdaaGreatDoor
