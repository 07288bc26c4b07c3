/- Joined texts: PTxt, LRefM, PRefE, PRefT, PGapR, PRefL. -/
import Derived.Test.YtgleakjalhkkhaaGreatDoorQL4
import Derived.Test.YtgleakjalhkkhaaGreatDoorQC1
import Derived.Deep.RegionWith
import Derived.Laws.BytesArg

/- The document's own texts of tokens. -/
namespace Go.Proofs.YtgleakjalhkkhaaGreatDoor
open Go.RowKit

/-- One byte as a string. -/
theorem conv_one (W : World) (b : Nat) (x : Int) (h : W.cell? ⟨b, 0, none⟩ = some (.int .u8 x)) :
    (convert 37 9 (.slice (some ⟨b, 0, none⟩) 1 1)).run Tryz.prog W = .ok (.string ⟨#[UInt8.ofNat x.toNat]⟩) W :=
  run_convert_bytes_arg W 37 5 Tryz.underlying37 Tryz.underlying5 b 0 1 1 [x] rfl (fun i hi => by
    obtain rfl : i = 0 := by omega
    simpa using h) 9 Tryz.underlying9
theorem conv_new (W : World) (x : Int) (T : TypeId) :
    (convert 37 9 (.slice (some ⟨W.heap.size, 0, none⟩) 1 1)).run Tryz.prog (W.alloc (.cells #[.int .u8 x] T)) = .ok (.string ⟨#[UInt8.ofNat x.toNat]⟩) (W.alloc (.cells #[.int .u8 x] T)) :=
  conv_one _ _ x (by simp [go_sem])
theorem dec_byte (n : Nat) (h : n < 10) : (⟨#[UInt8.ofNat (48 + (n : Int)).toNat]⟩ : ByteArray) = ⟨(Lib.decDigits n).toArray⟩ := by
  rw [dec_one n h]
  have e : (48 + (n : Int)).toNat = 48 + n := by omega
  rw [e]

set_option maxRecDepth 100000 in
set_option maxHeartbeats 800000 in
theorem decimal_small (n : Nat) (h : n < 10) (w : World) :
    Calls Tryz.prog 46 #[.int .u64 n] w fun e w' => e = .returned (.string ⟨(Lib.decDigits n).toArray⟩) ∧ Below w.heap.size w w' := by
  have hcv := conv_new
  rw [← dec_byte n h]
  go_enter Tryz.func46, Tryz.ntmps46
  go_wp2_with fail
  go_ret
  exact ⟨rfl, (Below.refl _ _).alloc (Nat.le_refl _) _⟩
theorem below_drew {w w9 : World} (hb : Below w.drew.heap.size w.drew w9) : Below w.heap.size w w9 := (Drew.below (a := w) ⟨1, rfl⟩).trans hb
theorem below_new {w w9 : World} {o : Obj} (hb : Below (w.alloc o).drew.heap.size (w.alloc o).drew w9) : Below w.heap.size w w9 :=
  ((Below.refl w.heap.size w).alloc (Nat.le_refl _) o).trans ((below_drew hb).mono (by simp))
theorem wrap_u64 (n : Nat) (h : n ≤ M64) : IntKind.u64.wrap (n : Int) = (n : Int) := by
  unfold M64 at h
  simp [IntKind.wrap, IntKind.signed, IntKind.bits]; omega
set_option maxRecDepth 100000 in
set_option maxHeartbeats 1600000 in
theorem decimal_big (n q r : Nat) (h : ¬ (n : Int) < 10) (hq : IntKind.u64.wrap ((n : Int) / 10) = (q : Int)) (hr : (n : Int).tmod 10 = (r : Int)) (h10 : r < 10) (l : ByteArray) (hl : l.size ≤ 100000) (w : World) (D : Hid (∀ w, Calls Tryz.prog 46 #[.int .u64 q] w fun e w' => e = .returned (.string l) ∧ Below w.heap.size w w')) :
    Calls Tryz.prog 46 #[.int .u64 n] w fun e w' => e = .returned (.string (l ++ ⟨#[UInt8.ofNat (48 + r)]⟩)) ∧ Below w.heap.size w w' := by
  have hcv := conv_new
  have hcv2 := conv_one
  go_enter Tryz.func46, Tryz.ntmps46
  go_wp2_with fail
  go_region_with (first
      | (go_at_call 46; refine (D.out _).mono ?_; rintro e w9 ⟨rfl, hb⟩; obtain ⟨hc, hf⟩ := bcell hb))
  all_goals (go_wp2; go_simp)
  all_goals go_ret
  all_goals first
    | exact ⟨rfl, below_drew hb⟩
    | exact ⟨rfl, (below_drew hb).alloc (by have := hb.size; simp at this; omega) _⟩
    | exact ⟨rfl, below_new hb⟩

theorem size_mk (l : List UInt8) : (⟨l.toArray⟩ : ByteArray).size = l.length := by
  show l.toArray.size = _; simp
theorem decimal_any : ∀ (n : Nat), n ≤ M64 → ∀ w, Calls Tryz.prog 46 #[.int .u64 n] w fun e w' => e = .returned (.string ⟨(Lib.decDigits n).toArray⟩) ∧ Below w.heap.size w w' := fun n => by
  induction n using Nat.strongRecOn with
  | _ n ih =>
    intro hn w
    by_cases h : n < 10
    · exact decimal_small n h w
    · have hn' : n ≤ 18446744073709551615 := hn
      have hlen := dec_len 19 (n / 10) (by have : (10 : Nat) ^ (19 + 1) = 100000000000000000000 := by decide
                                           omega)
      have hq : IntKind.u64.wrap ((n : Int) / 10) = ((n / 10 : Nat) : Int) := by
        have : ((n : Int) / 10) = ((n / 10 : Nat) : Int) := by omega
        rw [this]; exact wrap_u64 _ (by omega)
      have hr : (n : Int).tmod 10 = ((n % 10 : Nat) : Int) := by
        rw [Int.tmod_eq_emod_of_nonneg (by omega)]; omega
      refine (decimal_big n (n / 10) (n % 10) (by omega) hq hr (by omega) ⟨(Lib.decDigits (n / 10)).toArray⟩ (by rw [size_mk]; omega) w (Lib.hid (ih (n / 10) (by omega) (by omega)))).mono fun e w' ⟨he, hb⟩ => ⟨?_, hb⟩
      have e2 : (⟨(Lib.decDigits (n / 10)).toArray⟩ ++ ⟨#[UInt8.ofNat (48 + n % 10)]⟩ : ByteArray) = ⟨(Lib.decDigits n).toArray⟩ := by
        apply ByteArray.ext
        rw [ByteArray.data_append]
        show (Lib.decDigits (n / 10)).toArray ++ #[UInt8.ofNat (48 + n % 10)] = (Lib.decDigits n).toArray
        rw [Lib.decDigits.eq_def n, dif_neg h]; simp
      rw [he, e2]

set_option maxRecDepth 100000 in
set_option maxHeartbeats 1600000 in
theorem text_num (tx : ByteArray) (n o : Nat) (hn : n ≤ M64) (w : World) :
    Calls Tryz.prog 23 #[.agg #[.int .i64 2, .string tx, .int .u64 n, .int .i64 o]] w fun e w' => e = .returned (.string ⟨(Lib.decDigits n).toArray⟩) ∧ Below w.heap.size w w' := by
  go_enter Tryz.func23, Tryz.ntmps23
  go_wp2_with (go_at_call 46; refine (decimal_any n hn _).mono ?_; rintro e w9 ⟨rfl, hb⟩)
  go_ret
  exact ⟨rfl, ((Below.refl _ _).alloc (Nat.le_refl _) _).trans (hb.mono (by simp))⟩
set_option maxRecDepth 100000 in
set_option maxHeartbeats 1600000 in
theorem text_typ (tx : ByteArray) (n o : Nat) (hn : n ≤ M64) (w : World) :
    Calls Tryz.prog 23 #[.agg #[.int .i64 3, .string tx, .int .u64 n, .int .i64 o]] w fun e w' => e = .returned (.string (⟨#[117]⟩ ++ ⟨(Lib.decDigits n).toArray⟩)) ∧ Below w.heap.size w w' := by
  have hlen := dec_len 19 n (by have : (10 : Nat) ^ (19 + 1) = 100000000000000000000 := by decide
                                unfold M64 at hn; omega)
  have hz : (⟨(Lib.decDigits n).toArray⟩ : ByteArray).size ≤ 100000 := by rw [size_mk]; omega
  have hD := Lib.hid (decimal_any n hn)
  generalize (⟨(Lib.decDigits n).toArray⟩ : ByteArray) = l at *
  clear hlen
  go_enter Tryz.func23, Tryz.ntmps23
  go_wp2_with (go_at_call 46; refine (hD.out _).mono ?_; rintro e w9 ⟨rfl, hb⟩)
  go_ret
  exact ⟨rfl, ((Below.refl _ _).alloc (Nat.le_refl _) _).trans (hb.mono (by simp))⟩
set_option maxRecDepth 100000 in
set_option maxHeartbeats 1600000 in
theorem text_txt (k : Nat) (tx : ByteArray) (n o : Nat) (h2 : ¬ (k : Int) = 2) (h3 : ¬ (k : Int) = 3) (w : World) :
    Calls Tryz.prog 23 #[.agg #[.int .i64 k, .string tx, .int .u64 n, .int .i64 o]] w fun e w' => e = .returned (.string tx) ∧ Below w.heap.size w w' := by
  have b2 : ((k : Int) == 2) = false := by simpa using h2
  have b3 : ((k : Int) == 3) = false := by simpa using h3
  go_enter Tryz.func23, Tryz.ntmps23
  go_wp2
  go_ret
  exact ⟨rfl, ((Below.refl _ _).alloc (Nat.le_refl _) _)⟩
theorem text_any (k : Nat) (tx : List UInt8) (n o : Nat) (hn : n ≤ M64) (w : World) :
    Calls Tryz.prog 23 #[.agg #[.int .i64 k, .string ⟨tx.toArray⟩, .int .u64 n, .int .i64 o]] w fun e w' => e = .returned (.string ⟨(textV (k, tx, n)).toArray⟩) ∧ Below w.heap.size w w' := by
  by_cases h2 : k = 2
  · subst h2
    exact text_num _ n o hn w
  · by_cases h3 : k = 3
    · subst h3
      refine (text_typ ⟨tx.toArray⟩ n o hn w).mono fun e w' ⟨he, hb⟩ => ⟨?_, hb⟩
      rw [he, textV, if_neg (by simp), if_pos rfl]
      have e2 : (⟨#[117]⟩ ++ ⟨(Lib.decDigits n).toArray⟩ : ByteArray) = ⟨(117 :: Lib.decDigits n).toArray⟩ := by
        apply ByteArray.ext
        rw [ByteArray.data_append]; simp
      rw [e2]
    · rw [show textV (k, tx, n) = tx by rw [textV, if_neg (by simpa using h2), if_neg (by simpa using h3)]]
      exact text_txt k _ n o (by omega) (by omega) w

end Go.Proofs.YtgleakjalhkkhaaGreatDoor

/- The reference's signs: plain mathematics. -/
namespace Go.Proofs.YtgleakjalhkkhaaGreatDoor
open Go

/-- The signs, the longer ones first. -/
def sgnL : List (List UInt8) := [[61, 61], [33, 61], [60, 61], [62, 61], [60, 60], [62, 62], [123], [125], [40], [41], [91], [93], [44], [59], [58], [46], [61], [60], [62], [43], [45], [42], [47], [37], [38], [124], [94], [126]]
def sgnF (l : List UInt8) : Nat := match sgnL.find? (fun x => x.isPrefixOf l) with | some x => x.length | none => 0

def sgA (a : UInt8) (p q r : Bool) : Nat := match sgnL.find? (fun x => match x with | [u] => u == a | [u, v] => u == a && ((v.toNat == 61 && p) || (v.toNat == 60 && q) || (v.toNat == 62 && r)) | _ => false) with | some x => x.length | none => 0
def sgB (a : UInt8) (p q r : Bool) : Nat := if (p && isEq a) || (((a.toNat == 61 && p) || (a.toNat == 60 && q) || (a.toNat == 62 && r)) && isDbl a) then 2 else if isSgn a then 1 else 0
set_option maxRecDepth 100000 in
theorem sg_all : ∀ (a : Fin 256) (p q r : Bool), sgA (UInt8.ofNat a.val) p q r = sgB (UInt8.ofNat a.val) p q r := by decide +kernel
theorem sg_any (a : UInt8) (p q r : Bool) : sgA a p q r = sgB a p q r := by
  have := sg_all ⟨a.toNat, a.toNat_lt⟩ p q r
  simpa using this
theorem u8_eq (b : UInt8) (n : Nat) (h : n < 256) : (UInt8.ofNat n == b) = (b.toNat == n) := by
  rw [Bool.eq_iff_iff]
  simp only [beq_iff_eq]
  constructor
  · rintro rfl; simp; omega
  · rintro rfl; simp
theorem find_congr {α : Type} {p q : α → Bool} : ∀ (L : List α), (∀ x ∈ L, p x = q x) → L.find? p = L.find? q
  | [], _ => rfl
  | x :: L, h => by
    rw [List.find?_cons, List.find?_cons, h x (by simp), find_congr L (fun y hy => h y (by simp [hy]))]
theorem sgnF_one (a : UInt8) : sgnF [a] = signLen [a] := by
  have h := sg_any a false false false
  have e : sgnF [a] = sgA a false false false := by
    unfold sgnF sgA
    rw [find_congr sgnL (fun x hx => ?_)]
    simp only [sgnL, List.mem_cons, List.not_mem_nil, or_false] at hx
    rcases hx with rfl | rfl | rfl | rfl | rfl | rfl | rfl | rfl | rfl | rfl | rfl | rfl | rfl | rfl | rfl | rfl | rfl | rfl | rfl | rfl | rfl | rfl | rfl | rfl | rfl | rfl | rfl | rfl <;> simp [List.isPrefixOf]
  rw [e, h]
  simp [sgB, signLen]
theorem sgnF_two (a b : UInt8) (l : List UInt8) : sgnF (a :: b :: l) = signLen (a :: b :: l) := by
  have h := sg_any a (b.toNat == 61) (b.toNat == 60) (b.toNat == 62)
  have e : sgnF (a :: b :: l) = sgA a (b.toNat == 61) (b.toNat == 60) (b.toNat == 62) := by
    unfold sgnF sgA
    rw [find_congr sgnL (fun x hx => ?_)]
    have e1 := u8_eq b 61 (by omega)
    have e2 := u8_eq b 60 (by omega)
    have e3 := u8_eq b 62 (by omega)
    simp only [sgnL, List.mem_cons, List.not_mem_nil, or_false] at hx
    rcases hx with rfl | rfl | rfl | rfl | rfl | rfl | rfl | rfl | rfl | rfl | rfl | rfl | rfl | rfl | rfl | rfl | rfl | rfl | rfl | rfl | rfl | rfl | rfl | rfl | rfl | rfl | rfl | rfl <;> simp_all [List.isPrefixOf]
  rw [e, h]
  have hb : (b == a && isDbl a) = (((a.toNat == 61 && b.toNat == 61) || (a.toNat == 60 && b.toNat == 60) || (a.toNat == 62 && b.toNat == 62)) && isDbl a) := by
    by_cases hd : isDbl a = true
    · rw [hd, Bool.and_true, Bool.and_true, Bool.eq_iff_iff]
      unfold isDbl at hd
      simp only [Bool.or_eq_true, beq_iff_eq, Bool.and_eq_true] at hd ⊢
      rw [← UInt8.toNat_inj]
      omega
    · rw [Bool.not_eq_true] at hd
      rw [hd, Bool.and_false, Bool.and_false]
  simp only [sgB, signLen]
  rw [hb]
theorem sgnF_is : ∀ l, sgnF l = signLen l
  | [] => by decide
  | [a] => sgnF_one a
  | a :: b :: l => sgnF_two a b l

theorem find_hit {α : Type} (p : α → Bool) : ∀ (L : List α) (k : Nat) (hk : k < L.length), (∀ i (h : i < k), p (L[i]'(by omega)) = false) → p L[k] = true → L.find? p = some L[k]
  | x :: L, 0, _, _, h => by simp at h; simp [h]
  | x :: L, k + 1, hk, hn, h => by
    have h0 := hn 0 (by omega)
    simp at h0
    rw [List.find?_cons, h0]
    simpa using find_hit p L k (by simpa using hk) (fun i hi => by simpa using hn (i + 1) (by omega)) (by simpa using h)
theorem sgn_hit (l : List UInt8) (k : Nat) (hk : k < sgnL.length) (hn : ∀ i (h : i < k), (sgnL[i]'(by omega)).isPrefixOf l = false) (h : sgnL[k].isPrefixOf l = true) : signLen l = sgnL[k].length := by
  rw [← sgnF_is, sgnF, find_hit _ sgnL k hk hn h]
theorem sgn_miss (l : List UInt8) (hn : ∀ i (h : i < sgnL.length), sgnL[i].isPrefixOf l = false) : signLen l = 0 := by
  rw [← sgnF_is, sgnF, List.find?_eq_none.2]
  intro x hx
  obtain ⟨i, hi, rfl⟩ := List.getElem_of_mem hx
  rw [hn i hi]; simp
theorem sgnL_len : sgnL.length = 28 := rfl
theorem sgnL_pos : ∀ k (h : k < sgnL.length), 1 ≤ sgnL[k].length ∧ sgnL[k].length ≤ 2 := by decide
theorem prefix_take (x l : List UInt8) : x.isPrefixOf l = decide (x.length ≤ l.length ∧ l.take x.length = x) := by
  rw [Bool.eq_iff_iff]
  simp only [List.isPrefixOf_iff_prefix, decide_eq_true_eq]
  constructor
  · rintro ⟨t, rfl⟩; simp
  · rintro ⟨_, h⟩; exact ⟨l.drop x.length, (by have := List.take_append_drop x.length l; rw [h] at this; exact this)⟩
end Go.Proofs.YtgleakjalhkkhaaGreatDoor

/- The reference's End. -/
namespace Go.Proofs.YtgleakjalhkkhaaGreatDoor
open Go.RowKit

set_option maxHeartbeats 400000 in
theorem letter_any (b : UInt8) (w : World) :
    Calls Tryz.prog 80 #[.int .u8 b.toNat] w fun e w' => e = .returned (.bool (isLet b)) ∧ w = w' := by
  have hb : b.toNat < 256 := b.toNat_lt
  have e : isLet b = (decide (97 ≤ (b.toNat : Int)) && decide ((b.toNat : Int) ≤ 122)) := by
    unfold isLet; rw [Bool.eq_iff_iff]; simp; omega
  rw [e]; clear e
  generalize b.toNat = n at *
  go_enter Tryz.func80, Tryz.ntmps80
  by_cases h : 97 ≤ (n : Int)
  · go_wp2
    go_ret
    exact ⟨by simp [h], rfl⟩
  · go_wp2
    go_ret
    exact ⟨by simp; omega, rfl⟩
set_option maxHeartbeats 400000 in
theorem digit_any (b : UInt8) (w : World) :
    Calls Tryz.prog 81 #[.int .u8 b.toNat] w fun e w' => e = .returned (.bool (isDig b)) ∧ w = w' := by
  have hb : b.toNat < 256 := b.toNat_lt
  have e : isDig b = (decide (48 ≤ (b.toNat : Int)) && decide ((b.toNat : Int) ≤ 57)) := by
    unfold isDig; rw [Bool.eq_iff_iff]; simp; omega
  rw [e]; clear e
  generalize b.toNat = n at *
  go_enter Tryz.func81, Tryz.ntmps81
  by_cases h : 48 ≤ (n : Int)
  · go_wp2
    go_ret
    exact ⟨by simp [h], rfl⟩
  · go_wp2
    go_ret
    exact ⟨by simp; omega, rfl⟩

def sgnB (i : Nat) : ByteArray := ⟨(sgnL.getD i []).toArray⟩
/-- The signs in memory. -/
def Sgns (w : World) (b : Nat) : Prop := ∀ i, i < 28 → w.cell? ⟨b, i, none⟩ = some (.string (sgnB i))
theorem Sgns.later {w w' : World} {b : Nat} (hb : Below w.heap.size w w') (h : Sgns w b) : Sgns w' b := fun i hi => cell_later hb (h i hi)
set_option maxRecDepth 100000 in
set_option maxHeartbeats 800000 in
theorem signsR_any (w : World) :
    Calls Tryz.prog 82 #[] w fun e w' => ∃ b : Nat, e = .returned (.slice (some ⟨b, 0, none⟩) 28 28) ∧ Sgns w' b ∧ Below w.heap.size w w' := by
  go_enter Tryz.func82, Tryz.ntmps82
  go_wp2
  go_ret
  refine ⟨_, rfl, ?_, (Below.refl _ _).alloc (Nat.le_refl _) _⟩
  intro i hi
  match i, hi with
  | 0, _ => simp [go_sem, sgnB, sgnL]
  | 1, _ => simp [go_sem, sgnB, sgnL]
  | 2, _ => simp [go_sem, sgnB, sgnL]
  | 3, _ => simp [go_sem, sgnB, sgnL]
  | 4, _ => simp [go_sem, sgnB, sgnL]
  | 5, _ => simp [go_sem, sgnB, sgnL]
  | 6, _ => simp [go_sem, sgnB, sgnL]
  | 7, _ => simp [go_sem, sgnB, sgnL]
  | 8, _ => simp [go_sem, sgnB, sgnL]
  | 9, _ => simp [go_sem, sgnB, sgnL]
  | 10, _ => simp [go_sem, sgnB, sgnL]
  | 11, _ => simp [go_sem, sgnB, sgnL]
  | 12, _ => simp [go_sem, sgnB, sgnL]
  | 13, _ => simp [go_sem, sgnB, sgnL]
  | 14, _ => simp [go_sem, sgnB, sgnL]
  | 15, _ => simp [go_sem, sgnB, sgnL]
  | 16, _ => simp [go_sem, sgnB, sgnL]
  | 17, _ => simp [go_sem, sgnB, sgnL]
  | 18, _ => simp [go_sem, sgnB, sgnL]
  | 19, _ => simp [go_sem, sgnB, sgnL]
  | 20, _ => simp [go_sem, sgnB, sgnL]
  | 21, _ => simp [go_sem, sgnB, sgnL]
  | 22, _ => simp [go_sem, sgnB, sgnL]
  | 23, _ => simp [go_sem, sgnB, sgnL]
  | 24, _ => simp [go_sem, sgnB, sgnL]
  | 25, _ => simp [go_sem, sgnB, sgnL]
  | 26, _ => simp [go_sem, sgnB, sgnL]
  | 27, _ => simp [go_sem, sgnB, sgnL]
  | i + 28, h => omega

theorem sgnB_get (k : Nat) (h : k < sgnL.length) : sgnB k = ⟨(sgnL[k]).toArray⟩ := by
  unfold sgnB; rw [List.getD_eq_getElem?_getD, List.getElem?_eq_getElem h]; rfl
theorem sgnB_size (k : Nat) (h : k < sgnL.length) : (sgnB k).size = sgnL[k].length := by rw [sgnB_get k h, size_mk]
/-- Whether a sign stands at an offset. -/
theorem sgn_at (s : ByteArray) (k0 k : Nat) (hk : k < sgnL.length) (h0 : k0 ≤ s.size) : (sgnL[k].isPrefixOf (s.data.toList.drop k0)) = decide (k0 + (sgnB k).size ≤ s.size ∧ s.extract k0 (k0 + (sgnB k).size) = sgnB k) := by
  rw [prefix_take, sgnB_size k hk]
  rw [Bool.eq_iff_iff]
  simp only [decide_eq_true_eq]
  have e1 : (s.data.toList.drop k0).length = s.size - k0 := by rw [List.length_drop]; rfl
  rw [e1]
  have e2 : s.extract k0 (k0 + sgnL[k].length) = sgnB k ↔ (s.data.toList.drop k0).take sgnL[k].length = sgnL[k] := by
    have h1 := extract_mid s k0 (k0 + sgnL[k].length)
    rw [show k0 + sgnL[k].length - k0 = sgnL[k].length by omega] at h1
    rw [← h1, sgnB_get k hk]
    constructor
    · intro h; rw [h]
    · intro h; apply ByteArray.ext; apply Array.toList_inj.1; rw [h]
  rw [e2]
  have := (sgnL_pos k hk).1
  constructor
  · rintro ⟨a, b⟩; exact ⟨by omega, b⟩
  · rintro ⟨a, b⟩; exact ⟨by omega, b⟩

set_option maxRecDepth 100000 in
set_option maxHeartbeats 3200000 in
theorem endR_sign (s : ByteArray) (k0 N : Nat) (w : World) (hk0 : k0 < s.size) (hs : s.size ≤ 100000) (hl : isLet s[k0] = false) (hd : isDig s[k0] = false) (hN : Hid (k0 + signLen (s.data.toList.drop k0) = N)) :
    Calls Tryz.prog 43 #[.string s, .int .i64 k0] w fun e w' => e = .returned (.int .i64 N) ∧ Below w.heap.size w w' := by
  have HL := Lib.hid hl
  have HD := Lib.hid hd
  clear hl hd
  go_enter Tryz.func43, Tryz.ntmps43
  go_wp2_with fail
  refine (letter_any _ _).mono ?_
  rintro e w' ⟨rfl, rfl⟩
  rw [HL.out]
  go_wp2_with fail
  refine (digit_any _ _).mono ?_
  rintro e w' ⟨rfl, rfl⟩
  rw [HD.out]
  go_wp2_with fail
  refine (signsR_any _).mono ?_
  rintro e w1 ⟨b, rfl, hS, hb⟩
  go_wp2_with fail
  go_loopw [7] (fun i wr => ∃ k : Nat, k ≤ 28 ∧ i = .int .i64 k ∧ Hid (∀ i (h : i < k) (h2 : i < sgnL.length), sgnL[i].isPrefixOf (s.data.toList.drop k0) = false) ∧ Below w.heap.size w wr ∧ Sgns wr b) (fun i _ => 28 - (intOf i).toNat)
  case atStart => exact ⟨0, by omega, rfl, Lib.hid (fun i h => absurd h (by omega)), hb, hS⟩
  case round =>
    rename_i wr
    obtain ⟨k, hk, rfl, hR, hB, hS2⟩ := hrel
    clear hS hb
    by_cases hlt : k < 28
    · have hc := hS2 k hlt
      have hsz := sgnB_size k hlt
      have hp := sgnL_pos k hlt
      have hat := sgn_at s k0 k hlt (by omega)
      rw [← hsz] at hp
      by_cases hpre : sgnL[k].isPrefixOf (s.data.toList.drop k0) = true
      · have hres := sgn_hit (s.data.toList.drop k0) k hlt (fun i h => hR.out i h _) hpre
        rw [← hsz] at hres
        have HN : Hid (k0 + (sgnB k).size = N) := Lib.hid (by rw [← hres]; exact hN.out)
        rw [hpre] at hat
        obtain ⟨f1, f2⟩ := of_decide_eq_true hat.symm
        clear hpre hres hat hR hN hsz hS2
        generalize sgnB k = X at *
        have hd : decide ((k0 : Int) + X.size ≤ s.size) = true := by simp; omega
        go_wp2
        go_quiet (fail)
        go_wp2
        go_ret
        exact ⟨ret_int (by have := HN.out; omega), hB.trans ((Drew.below ⟨_, rfl⟩).mono hB.size)⟩
      · have hpre2 : sgnL[k].isPrefixOf (s.data.toList.drop k0) = false := (Bool.not_eq_true _).mp hpre
        have HN : Hid (∀ i (h : i < k + 1) (h2 : i < sgnL.length), sgnL[i].isPrefixOf (s.data.toList.drop k0) = false) := Lib.hid (by
          intro i h h2
          by_cases e : i = k
          · subst e; exact hpre2
          · exact hR.out i (by omega) h2)
        rw [hpre2] at hat
        have hat2 := of_decide_eq_false hat.symm
        have hB2 : ∀ n, Below w.heap.size w (wr.drewN n) := fun n => hB.trans ((Drew.below ⟨n, rfl⟩).mono hB.size)
        have hS3 : ∀ n, Sgns (wr.drewN n) b := fun n => hS2.later (Drew.below ⟨n, rfl⟩)
        clear hpre hpre2 hat hR hN hsz hS2 hB
        generalize sgnB k = X at *
        by_cases hf : k0 + X.size ≤ s.size
        · have hne : s.extract k0 (k0 + X.size) ≠ X := fun e => hat2 ⟨hf, e⟩
          have hne2 : ((s.extract k0 (k0 + X.size)).toList == X.toList) = false := by
            simp only [beq_eq_false_iff_ne, ne_eq]
            intro e
            rw [ByteArray.toList_eq, ByteArray.toList_eq] at e
            exact hne (ByteArray.ext (Array.toList_inj.1 e))
          clear hat2
          have hd : decide ((k0 : Int) + X.size ≤ s.size) = true := by simp; omega
          go_wp2
          go_quiet (fail)
          go_wp2
          go_roundw
          case rel => exact ⟨k + 1, by omega, by go_num, HN, hB2 _, hS3 _⟩
          case measure => simp [intOf]; omega
        · have hd : decide ((k0 : Int) + X.size ≤ s.size) = false := by simp; omega
          clear hat2
          go_wp2
          go_quiet (fail)
          go_wp2
          go_roundw
          case rel => exact ⟨k + 1, by omega, by go_num, HN, hB2 _, hS3 _⟩
          case measure => simp [intOf]; omega
    · have hres := sgn_miss (s.data.toList.drop k0) (fun i h => hR.out i (by have := sgnL_len; omega) h)
      have HN : Hid (k0 = N) := Lib.hid (by have := hN.out; omega)
      clear hres hR hN hS2
      go_wp2
      go_ret
      exact ⟨ret_int (by have := HN.out; omega), hB⟩

set_option maxRecDepth 100000 in
set_option maxHeartbeats 3200000 in
theorem endR_word (s : ByteArray) (k0 N : Nat) (w : World) (hk0 : k0 < s.size) (hs : s.size ≤ 100000) (hl : isLet s[k0] = true) (hN : Hid (k0 + run isWrd (s.data.toList.drop k0) = N)) :
    Calls Tryz.prog 43 #[.string s, .int .i64 k0] w fun e w' => e = .returned (.int .i64 N) ∧ Below w.heap.size w w' := by
  have HL := Lib.hid hl
  clear hl
  go_enter Tryz.func43, Tryz.ntmps43
  go_wp2_with fail
  refine (letter_any _ _).mono ?_
  rintro e w' ⟨rfl, rfl⟩
  rw [HL.out]
  go_wp2_with fail
  go_loop [5] (fun i => ∃ k : Nat, k ≤ s.size ∧ i = .int .i64 k ∧ Hid (k + run isWrd (s.data.toList.drop k) = N)) (fun i => s.size - (intOf i).toNat)
  case atStart => exact ⟨k0, by omega, rfl, hN⟩
  case round =>
    obtain ⟨k, hk, rfl, hR⟩ := hrel
    clear hN HL
    by_cases hlt : k < s.size
    · have hc := run_cons isWrd s k hlt
      by_cases hL : isLet s[k] = true
      · rw [if_pos (by unfold isWrd; rw [hL]; rfl)] at hc
        have HN : Hid (k + 1 + run isWrd (s.data.toList.drop (k + 1)) = N) := Lib.hid (by have := hR.out; omega)
        have HL := Lib.hid hL
        clear hc hL hR
        go_wp2_with (go_at_call 80; refine (letter_any _ _).mono ?_; rintro e w' ⟨rfl, rfl⟩; rw [HL.out])
        go_round
        case rel => exact ⟨k + 1, by omega, by go_num, HN⟩
        case measure => simp [intOf]; omega
      · have hL2 : isLet s[k] = false := (Bool.not_eq_true _).mp hL
        by_cases hD : isDig s[k] = true
        · rw [if_pos (by unfold isWrd; rw [hD, Bool.or_true])] at hc
          have HN : Hid (k + 1 + run isWrd (s.data.toList.drop (k + 1)) = N) := Lib.hid (by have := hR.out; omega)
          have HL := Lib.hid hL2
          have HD := Lib.hid hD
          clear hc hL hL2 hD hR
          go_wp2_with (first | (go_at_call 80; refine (letter_any _ _).mono ?_; rintro e w' ⟨rfl, rfl⟩; rw [HL.out]) | (go_at_call 81; refine (digit_any _ _).mono ?_; rintro e w' ⟨rfl, rfl⟩; rw [HD.out]))
          go_round
          case rel => exact ⟨k + 1, by omega, by go_num, HN⟩
          case measure => simp [intOf]; omega
        · have hD2 : isDig s[k] = false := (Bool.not_eq_true _).mp hD
          rw [if_neg (by unfold isWrd; rw [hL2, hD2]; simp)] at hc
          have HN : Hid (k = N) := Lib.hid (by have := hR.out; omega)
          have HL := Lib.hid hL2
          have HD := Lib.hid hD2
          clear hc hL hL2 hD hD2 hR
          go_wp2_with (first | (go_at_call 80; refine (letter_any _ _).mono ?_; rintro e w' ⟨rfl, rfl⟩; rw [HL.out]) | (go_at_call 81; refine (digit_any _ _).mono ?_; rintro e w' ⟨rfl, rfl⟩; rw [HD.out]))
          go_ret
          exact ⟨ret_int (by have := HN.out; omega), Below.refl _ _⟩
    · have hc := run_end isWrd s k (by omega)
      have HN : Hid (k = N) := Lib.hid (by have := hR.out; omega)
      clear hc hR
      go_wp2
      go_ret
      exact ⟨ret_int (by have := HN.out; omega), Below.refl _ _⟩

set_option maxRecDepth 100000 in
set_option maxHeartbeats 3200000 in
theorem endR_num (s : ByteArray) (k0 N : Nat) (w : World) (hk0 : k0 < s.size) (hs : s.size ≤ 100000) (hl : isLet s[k0] = false) (hd : isDig s[k0] = true) (hN : Hid (k0 + run isDig (s.data.toList.drop k0) = N)) :
    Calls Tryz.prog 43 #[.string s, .int .i64 k0] w fun e w' => e = .returned (.int .i64 N) ∧ Below w.heap.size w w' := by
  have HL := Lib.hid hl
  have HD := Lib.hid hd
  clear hl hd
  go_enter Tryz.func43, Tryz.ntmps43
  go_wp2_with fail
  refine (letter_any _ _).mono ?_
  rintro e w' ⟨rfl, rfl⟩
  rw [HL.out]
  go_wp2_with fail
  refine (digit_any _ _).mono ?_
  rintro e w' ⟨rfl, rfl⟩
  rw [HD.out]
  go_wp2_with fail
  go_loop [5] (fun i => ∃ k : Nat, k ≤ s.size ∧ i = .int .i64 k ∧ Hid (k + run isDig (s.data.toList.drop k) = N)) (fun i => s.size - (intOf i).toNat)
  case atStart => exact ⟨k0, by omega, rfl, hN⟩
  case round =>
    obtain ⟨k, hk, rfl, hR⟩ := hrel
    clear hN HL HD
    by_cases hlt : k < s.size
    · have hc := run_cons isDig s k hlt
      by_cases hD : isDig s[k] = true
      · rw [if_pos hD] at hc
        have HN : Hid (k + 1 + run isDig (s.data.toList.drop (k + 1)) = N) := Lib.hid (by have := hR.out; omega)
        have HD := Lib.hid hD
        clear hc hD hR
        go_wp2_with (go_at_call 81; refine (digit_any _ _).mono ?_; rintro e w' ⟨rfl, rfl⟩; rw [HD.out])
        go_round
        case rel => exact ⟨k + 1, by omega, by go_num, HN⟩
        case measure => simp [intOf]; omega
      · have hD2 : isDig s[k] = false := (Bool.not_eq_true _).mp hD
        rw [if_neg hD] at hc
        have HN : Hid (k = N) := Lib.hid (by have := hR.out; omega)
        have HD := Lib.hid hD2
        clear hc hD hD2 hR
        go_wp2_with (go_at_call 81; refine (digit_any _ _).mono ?_; rintro e w' ⟨rfl, rfl⟩; rw [HD.out])
        go_ret
        exact ⟨ret_int (by have := HN.out; omega), Below.refl _ _⟩
    · have hc := run_end isDig s k (by omega)
      have HN : Hid (k = N) := Lib.hid (by have := hR.out; omega)
      clear hc hR
      go_wp2
      go_ret
      exact ⟨ret_int (by have := HN.out; omega), Below.refl _ _⟩

theorem endR_any (s : ByteArray) (k0 N : Nat) (w : World) (hk0 : k0 < s.size) (hs : s.size ≤ 100000) (hN : Hid (k0 + tokLen (s.data.toList.drop k0) = N)) :
    Calls Tryz.prog 43 #[.string s, .int .i64 k0] w fun e w' => e = .returned (.int .i64 N) ∧ Below w.heap.size w w' := by
  by_cases hl : isLet s[k0] = true
  · exact endR_word s k0 N w hk0 hs hl (Lib.hid (by rw [← tok_let s k0 hk0 hl]; exact hN.out))
  · have hl2 := (Bool.not_eq_true _).mp hl
    by_cases hd : isDig s[k0] = true
    · exact endR_num s k0 N w hk0 hs hl2 hd (Lib.hid (by rw [← tok_dig s k0 hk0 hl2 hd]; exact hN.out))
    · have hd2 := (Bool.not_eq_true _).mp hd
      exact endR_sign s k0 N w hk0 hs hl2 hd2 (Lib.hid (by rw [← tok_sgn s k0 hk0 hl2 hd2]; exact hN.out))
end Go.Proofs.YtgleakjalhkkhaaGreatDoor

/- The reference's Number, Width and Token. -/
namespace Go.Proofs.YtgleakjalhkkhaaGreatDoor
open Go.RowKit

theorem pM_nil (n : Nat) : Lib.parseUintM M64 n [] = .ok n := rfl
theorem pM_far {n : Nat} {c : UInt8} {l : List UInt8} (hc : isDig c = true) (h : 1844674407370955161 < n ∨ n = 1844674407370955161 ∧ 5 < c.toNat - 48) : Lib.parseUintM M64 n (c :: l) = .range := by
  have hd : 48 ≤ c.toNat ∧ c.toNat ≤ 57 := by unfold isDig at hc; simpa using hc
  rw [Lib.parseUintM, if_pos hd]
  by_cases h1 : 1844674407370955162 ≤ n
  · rw [if_pos h1]
  · rw [if_neg h1, if_pos (by unfold M64; omega)]
theorem pM_near {n : Nat} {c : UInt8} {l : List UInt8} (hc : isDig c = true) (h : ¬ (1844674407370955161 < n ∨ n = 1844674407370955161 ∧ 5 < c.toNat - 48)) : Lib.parseUintM M64 n (c :: l) = Lib.parseUintM M64 (10 * n + (c.toNat - 48)) l ∧ 10 * n + (c.toNat - 48) ≤ M64 := by
  have hd : 48 ≤ c.toNat ∧ c.toNat ≤ 57 := by unfold isDig at hc; simpa using hc
  rw [Lib.parseUintM, if_pos hd, if_neg (by omega), if_neg (by unfold M64; omega)]
  refine ⟨by congr 1; omega, by unfold M64; omega⟩

/-- What Number answers. -/
def NumPost (l : List UInt8) (e : Ending) : Prop := (∃ u, Lib.parseUintB 64 l = .ok u ∧ e = .returned (.tuple #[.int .u64 u, .bool true])) ∨ ((∀ u, Lib.parseUintB 64 l ≠ .ok u) ∧ e = .returned (.tuple #[.int .u64 0, .bool false]))

set_option maxRecDepth 100000 in
set_option maxHeartbeats 1600000 in
theorem number_any (s : ByteArray) (w : World) (h0 : 0 < s.size) (hs : s.size ≤ 100000) (hd : Hid (∀ b ∈ s.data.toList, isDig b = true)) :
    Calls Tryz.prog 84 #[.string s] w fun e w' => NumPost s.data.toList e ∧ w = w' := by
  have hP : Lib.parseUintB 64 s.data.toList = Lib.parseUintM M64 0 (s.data.toList.drop 0) := by
    have hne : s.data.toList ≠ [] := by
      intro e
      have : s.data.toList.length = s.size := rfl
      rw [e] at this; simp at this; omega
    rw [Lib.parseUintB, if_neg hne, List.drop_zero]
  obtain ⟨R, hR⟩ : ∃ R, Lib.parseUintB 64 s.data.toList = R := ⟨_, rfl⟩
  have HP : Hid (Lib.parseUintM M64 0 (s.data.toList.drop 0) = R) := Lib.hid (by rw [← hP, hR])
  have hEnd : ∀ e, ((∃ u, R = .ok u ∧ e = Ending.returned (.tuple #[.int .u64 u, .bool true])) ∨ ((∀ u, R ≠ .ok u) ∧ e = .returned (.tuple #[.int .u64 0, .bool false]))) → NumPost s.data.toList e := by
    intro e h; unfold NumPost; rw [hR]; exact h
  have HEnd := Lib.hid hEnd
  clear hP hR hEnd
  go_enter Tryz.func84, Tryz.ntmps84
  go_wp2
  go_loop [4, 5] (fun n i => ∃ k m : Nat, k ≤ s.size ∧ i = .int .i64 k ∧ n = .int .u64 m ∧ Hid (m ≤ M64) ∧ Hid (Lib.parseUintM M64 m (s.data.toList.drop k) = R)) (fun _ i => s.size - (intOf i).toNat)
  case atStart => exact ⟨0, 0, Nat.zero_le _, rfl, rfl, Lib.hid (Nat.zero_le _), HP⟩
  case round =>
    obtain ⟨k, m, hk, rfl, rfl, hm, hR⟩ := hrel
    clear HP
    by_cases hlt : k < s.size
    · have hc := hd.out s[k] (by rw [show s[k] = s.data.toList[k]'(by simpa using hlt) from rfl]; exact List.getElem_mem _)
      have hb : 48 ≤ s[k].toNat ∧ s[k].toNat ≤ 57 := by unfold isDig at hc; simpa using hc
      have hcons := drop_cons s k hlt
      obtain ⟨D, hDe⟩ : ∃ D, s[k].toNat - 48 = D := ⟨_, rfl⟩
      have hD9 : D ≤ 9 := by omega
      have hDm : ((s[k].toNat : Int) - 48) % 256 = (D : Int) := by omega
      by_cases hf : 1844674407370955161 < m ∨ m = 1844674407370955161 ∧ 5 < D
      · have hr := pM_far (l := s.data.toList.drop (k + 1)) hc (by rw [hDe]; exact hf)
        rw [← hcons, hR.out] at hr
        have HR := Lib.hid hr
        clear hr hcons hc hR hm hDe hb
        by_cases h1 : 1844674407370955161 < m
        · have d1 : decide (1844674407370955161 < (m : Int)) = true := by simp; omega
          go_wp2
          go_ret2
          exact ⟨HEnd.out _ (Or.inr ⟨by rw [HR.out]; simp, rfl⟩), rfl⟩
        · have h2 : m = 1844674407370955161 ∧ 5 < D := by omega
          have d1 : decide (1844674407370955161 < (m : Int)) = false := by simp; omega
          have d2 : ((m : Int) == 1844674407370955161) = true := by simp; omega
          have d3 : (5 : Int) < (D : Int) := by omega
          clear hf h1 h2
          go_wp2
          go_ret2
          exact ⟨HEnd.out _ (Or.inr ⟨by rw [HR.out]; simp, rfl⟩), rfl⟩
      · have hpn := pM_near (l := s.data.toList.drop (k + 1)) hc (by rw [hDe]; exact hf)
        rw [hDe] at hpn
        obtain ⟨hr, hle⟩ := hpn
        rw [← hcons, hR.out] at hr
        have HR := Lib.hid hr.symm
        have HL := Lib.hid hle
        clear hr hcons hc hR hm hle hDe hb
        have w1 : IntKind.u64.wrap (10 * (m : Int)) = 10 * (m : Int) := by simp [IntKind.wrap, IntKind.signed, IntKind.bits]; omega
        have w2 : IntKind.u64.wrap (10 * (m : Int) + (D : Int)) = ((10 * m + D : Nat) : Int) := by simp [IntKind.wrap, IntKind.signed, IntKind.bits]; omega
        have d1 : decide (1844674407370955161 < (m : Int)) = false := by simp; omega
        by_cases h2 : m = 1844674407370955161
        · have d2 : ((m : Int) == 1844674407370955161) = true := by simp; omega
          have d3 : ¬ (5 : Int) < (D : Int) := by omega
          clear hf h2
          go_wp2
          go_round
          case rel => exact ⟨k + 1, 10 * m + D, by omega, by go_num, by go_num, HL, HR⟩
          case measure => simp [intOf]; omega
        · have d2 : ((m : Int) == 1844674407370955161) = false := by simp; omega
          clear hf h2
          go_wp2
          go_round
          case rel => exact ⟨k + 1, 10 * m + D, by omega, by go_num, by go_num, HL, HR⟩
          case measure => simp [intOf]; omega
    · have hr := hR.out
      rw [drop_end s k (by omega), pM_nil] at hr
      have HR := Lib.hid hr.symm
      clear hr hR hm
      go_wp2
      go_ret2
      exact ⟨HEnd.out _ (Or.inl ⟨_, HR.out, rfl⟩), rfl⟩

/-! ### Width -/
theorem width_short {s : ByteArray} (h : s.size < 2 ∨ 3 < s.size) : widthOf s.data.toList = 0 := by
  have hl : s.data.toList.length = s.size := rfl
  match e : s.data.toList with
  | [] => rfl
  | [_] => rfl
  | [_, _] => rw [e] at hl; simp at hl; omega
  | [_, _, _] => rw [e] at hl; simp at hl; omega
  | _ :: _ :: _ :: _ :: _ => rfl
theorem list_two (s : ByteArray) (h : s.size = 2) : s.data.toList = [s[0], s[1]] := by
  have h1 := drop_cons s 0 (by omega)
  have h2 := drop_cons s 1 (by omega)
  have h3 := drop_end s 2 (by omega)
  rw [List.drop_zero] at h1
  rw [h1, h2, h3]
theorem list_three (s : ByteArray) (h : s.size = 3) : s.data.toList = [s[0], s[1], s[2]] := by
  have h1 := drop_cons s 0 (by omega)
  have h2 := drop_cons s 1 (by omega)
  have h3 := drop_cons s 2 (by omega)
  have h4 := drop_end s 3 (by omega)
  rw [List.drop_zero] at h1
  rw [h1, h2, h3, h4]
theorem dig_bounds {b : UInt8} : isDig b = true ↔ 48 ≤ b.toNat ∧ b.toNat ≤ 57 := by unfold isDig; simp
theorem width_two (u a : UInt8) : widthOf [u, a] = if u.toNat = 117 ∧ 49 ≤ a.toNat ∧ a.toNat ≤ 57 then a.toNat - 48 else 0 := by simp [widthOf, and_assoc]
theorem width_three (u a b : UInt8) : widthOf [u, a, b] = if u.toNat = 117 ∧ 49 ≤ a.toNat ∧ a.toNat ≤ 57 ∧ 48 ≤ b.toNat ∧ b.toNat ≤ 57 ∧ 10 * (a.toNat - 48) + (b.toNat - 48) ≤ 64 then 10 * (a.toNat - 48) + (b.toNat - 48) else 0 := by simp [widthOf, and_assoc]
/-- What the loop has read so far. -/
def WidthAt (s : ByteArray) (k n : Nat) : Prop := (k = 1 ∧ n = 0) ∨ (∃ h : 1 < s.size, k = 2 ∧ isDig s[1] = true ∧ n = s[1].toNat - 48) ∨ (∃ h : 2 < s.size, k = 3 ∧ isDig s[1] = true ∧ isDig s[2] = true ∧ n = 10 * (s[1].toNat - 48) + (s[2].toNat - 48))
theorem WidthAt.small {s : ByteArray} {k n : Nat} (h : WidthAt s k n) : n ≤ 99 ∧ (k ≤ 2 → n ≤ 9) := by
  rcases h with ⟨_, rfl⟩ | ⟨h, rfl, h1, rfl⟩ | ⟨h, rfl, h1, h2, rfl⟩
  · omega
  · have := dig_bounds.1 h1; omega
  · have := dig_bounds.1 h1; have := dig_bounds.1 h2; omega
theorem WidthAt.more {s : ByteArray} {k n : Nat} (h : WidthAt s k n) (hs : s.size ≤ 3) (hk : k < s.size) (hd : isDig s[k] = true) : WidthAt s (k + 1) (10 * n + (s[k].toNat - 48)) := by
  rcases h with ⟨rfl, rfl⟩ | ⟨h, rfl, h1, rfl⟩ | ⟨h, rfl, h1, h2, rfl⟩
  · exact Or.inr (Or.inl ⟨hk, rfl, hd, by omega⟩)
  · exact Or.inr (Or.inr ⟨hk, rfl, h1, hd, rfl⟩)
  · omega
theorem WidthAt.bad {s : ByteArray} {k n : Nat} (h : WidthAt s k n) (h2 : 2 ≤ s.size) (hs : s.size ≤ 3) (hk : k < s.size) (hd : isDig s[k] = false) : widthOf s.data.toList = 0 := by
  have hnd : ¬ (48 ≤ s[k].toNat ∧ s[k].toNat ≤ 57) := fun h => by rw [dig_bounds.2 h] at hd; cases hd
  by_cases e : s.size = 2
  · rw [list_two s e]
    rcases h with ⟨rfl, rfl⟩ | ⟨h, rfl, h1, rfl⟩ | ⟨h, rfl, h1, h2, rfl⟩
    · rw [width_two, if_neg (by omega)]
    · omega
    · omega
  · have e3 : s.size = 3 := by omega
    rw [list_three s e3]
    rcases h with ⟨rfl, rfl⟩ | ⟨h, rfl, h1, rfl⟩ | ⟨h, rfl, h1, h2, rfl⟩
    · rw [width_three, if_neg (by omega)]
    · rw [width_three, if_neg (by omega)]
    · omega
theorem WidthAt.done {s : ByteArray} {k n : Nat} (h : WidthAt s k n) (h2 : 2 ≤ s.size) (hk : k = s.size) (hu : (s[0]'(by omega)).toNat = 117) (h0 : (s[1]'(by omega)).toNat ≠ 48) : widthOf s.data.toList = if n ≤ 64 then n else 0 := by
  rcases h with ⟨rfl, rfl⟩ | ⟨h, rfl, h1, rfl⟩ | ⟨h, rfl, h1, h2, rfl⟩
  · omega
  · rw [list_two s hk.symm]
    have := dig_bounds.1 h1
    rw [width_two, if_pos (by omega), if_pos (by omega)]
  · rw [list_three s hk.symm]
    have b1 := dig_bounds.1 h1
    have b2 := dig_bounds.1 h2
    by_cases hn : 10 * (s[1].toNat - 48) + (s[2].toNat - 48) ≤ 64
    · rw [width_three, if_pos (by omega), if_pos hn]
    · rw [width_three, if_neg (by omega), if_neg hn]
theorem width_not {s : ByteArray} (h2 : 2 ≤ s.size) (hs : s.size ≤ 3) (hn : (s[0]'(by omega)).toNat ≠ 117 ∨ (s[1]'(by omega)).toNat = 48) : widthOf s.data.toList = 0 := by
  by_cases e : s.size = 2
  · rw [list_two s e]
    rw [width_two, if_neg (by omega)]
  · rw [list_three s (by omega)]
    rw [width_three, if_neg (by omega)]

set_option maxRecDepth 100000 in
set_option maxHeartbeats 1600000 in
theorem widthR_any (s : ByteArray) (N : Nat) (w : World) (hs : s.size ≤ 100000) (hN : Hid (widthOf s.data.toList = N)) :
    Calls Tryz.prog 83 #[.string s] w fun e w' => e = .returned (.int .i64 N) ∧ w = w' := by
  by_cases hz : s.size < 2 ∨ 3 < s.size
  · have HN : Hid (0 = N) := Lib.hid (by rw [← hN.out, width_short hz])
    clear hN
    rcases hz with hz | hz
    · go_enter Tryz.func83, Tryz.ntmps83
      go_wp2
      go_ret
      exact ⟨ret_int (by have := HN.out; omega), rfl⟩
    · have hz' : ¬ s.size < 2 := by omega
      go_enter Tryz.func83, Tryz.ntmps83
      go_wp2
      go_ret
      exact ⟨ret_int (by have := HN.out; omega), rfl⟩
  · have z2 : 2 ≤ s.size := by omega
    have z3 : s.size ≤ 3 := by omega
    have z0 : 0 < s.size := by omega
    have z1 : 1 < s.size := by omega
    clear hz
    by_cases hn : s[0].toNat ≠ 117 ∨ s[1].toNat = 48
    · have HN : Hid (0 = N) := Lib.hid (by rw [← hN.out, width_not z2 z3 hn])
      clear hN
      by_cases h117 : s[0].toNat = 117
      · have h48 : s[1].toNat = 48 := by omega
        have b1 : ((s[0].toNat : Int) != 117) = false := by simp; omega
        have b2 : ((s[1].toNat : Int) == 48) = true := by simp; omega
        clear hn h117 h48
        go_enter Tryz.func83, Tryz.ntmps83
        go_wp2
        go_ret
        exact ⟨ret_int (by have := HN.out; omega), rfl⟩
      · have b1 : ((s[0].toNat : Int) != 117) = true := by simp; omega
        clear hn h117
        go_enter Tryz.func83, Tryz.ntmps83
        go_wp2
        go_ret
        exact ⟨ret_int (by have := HN.out; omega), rfl⟩
    · have h117 : s[0].toNat = 117 := by omega
      have h48 : s[1].toNat ≠ 48 := by omega
      have H1 := Lib.hid h117
      have H4 := Lib.hid h48
      have b1 : ((s[0].toNat : Int) != 117) = false := by simp; omega
      have b2 : ((s[1].toNat : Int) == 48) = false := by simp; omega
      clear hn h117 h48
      go_enter Tryz.func83, Tryz.ntmps83
      go_wp2
      go_loop [3, 4] (fun n i => ∃ k m : Nat, 1 ≤ k ∧ k ≤ s.size ∧ i = .int .i64 k ∧ n = .int .i64 m ∧ Hid (WidthAt s k m)) (fun _ i => s.size - (intOf i).toNat)
      case atStart => exact ⟨1, 0, by omega, by omega, rfl, rfl, Lib.hid (Or.inl ⟨rfl, rfl⟩)⟩
      case round =>
        obtain ⟨k, m, hk1, hk, rfl, rfl, hW⟩ := hrel
        clear b1 b2
        have hm := hW.out.small
        by_cases hlt : k < s.size
        · have hm9 : m ≤ 9 := hm.2 (by omega)
          by_cases hD : isDig s[k] = true
          · have hb := dig_bounds.1 hD
            obtain ⟨D, hDe⟩ : ∃ D, s[k].toNat - 48 = D := ⟨_, rfl⟩
            have hD9 : D ≤ 9 := by omega
            have hDm : ((s[k].toNat : Int) - 48) % 256 = (D : Int) := by omega
            have HM : Hid (WidthAt s (k + 1) (10 * m + D)) := Lib.hid (by rw [← hDe]; exact hW.out.more z3 hlt hD)
            have HD := Lib.hid hD
            clear hm hb hDe hW hD
            go_wp2_with (go_at_call 81; refine (digit_any _ _).mono ?_; rintro e w' ⟨rfl, rfl⟩; rw [HD.out])
            go_round
            case rel => exact ⟨k + 1, 10 * m + D, by omega, by omega, by go_num, by go_num, HM⟩
            case measure => simp [intOf]; omega
          · have hD2 := (Bool.not_eq_true _).mp hD
            have HN : Hid (0 = N) := Lib.hid (by rw [← hN.out, hW.out.bad z2 z3 hlt hD2])
            have HD := Lib.hid hD2
            clear hm hW hD hD2 hN
            go_wp2_with (go_at_call 81; refine (digit_any _ _).mono ?_; rintro e w' ⟨rfl, rfl⟩; rw [HD.out])
            go_ret
            exact ⟨ret_int (by have := HN.out; omega), rfl⟩
        · have hd := hW.out.done z2 (by omega) H1.out H4.out
          rw [hN.out] at hd
          by_cases h64 : m ≤ 64
          · rw [if_pos h64] at hd
            have HN := Lib.hid hd
            clear hd hm hW hN
            go_wp2
            go_ret
            exact ⟨ret_int (by have := HN.out; omega), rfl⟩
          · rw [if_neg h64] at hd
            have HN := Lib.hid hd
            clear hd hm hW hN
            go_wp2
            go_ret
            exact ⟨ret_int (by have := HN.out; omega), rfl⟩

/-! ### Token -/
def TokPost (_s : ByteArray) (at_ : Nat) (w : World) (k : Nat) (t : List UInt8) (n er : Nat) (e : Ending) (w' : World) : Prop :=
  e = .returned (.tuple #[.agg #[.int .i64 k, .string ⟨t.toArray⟩, .int .u64 n, .int .i64 ((if er = 0 then at_ else 0 : Nat) : Int)], .int .i64 er]) ∧ Below w.heap.size w w'
theorem tok_ret (s : ByteArray) (at_ : Nat) (w w' : World) (k : Nat) (t : List UInt8) (n er o : Nat) (T : ByteArray) (hT : T = ⟨t.toArray⟩) (ho : o = if er = 0 then at_ else 0) (hb : Below w.heap.size w w') :
    TokPost s at_ w k t n er (.returned (.tuple #[.agg #[.int .i64 k, .string T, .int .u64 n, .int .i64 o], .int .i64 er])) w' := by
  subst hT ho; exact ⟨rfl, hb⟩

set_option maxRecDepth 100000 in
set_option maxHeartbeats 1600000 in
theorem tokR_word (s : ByteArray) (at_ : Nat) (k : Nat) (t : List UInt8) (n er : Nat) (h0 : 0 < s.size) (hs : s.size ≤ 100000) (_ha : at_ ≤ 100000) (hl : Hid (isLet s[0] = true)) (h : Hid (readT s.data.toList = ((k, t, n), er))) (w : World) :
    Calls Tryz.prog 44 #[.string s, .int .i64 at_] w (TokPost s at_ w k t n er) := by
  have e0 := drop_cons s 0 h0
  rw [List.drop_zero] at e0
  have hlen : s.data.toList.length = s.size := rfl
  have h' := h.out
  rw [e0, readT, if_pos hl.out, ← e0] at h'
  obtain ⟨N, hN⟩ : ∃ N, widthOf s.data.toList = N := ⟨_, rfl⟩
  rw [hN] at h'
  have HN := Lib.hid hN
  have hN64 : N ≤ 64 := by
    by_cases hz : N = 0
    · omega
    · exact (width_is hN hz).2.1
  clear e0 hN h
  by_cases hz : N ≠ 0
  · rw [if_pos hz] at h'
    simp only [Prod.mk.injEq] at h'
    obtain ⟨⟨rfl, rfl, rfl⟩, rfl⟩ := h'
    have hz1 : 0 < (N : Int) := by omega
    have hF := tok_ret s at_ w
    have HF := Lib.hid hF
    clear hF hz
    go_enter Tryz.func44, Tryz.ntmps44
    go_wp2_with (first | (go_at_call 80; refine (letter_any _ _).mono ?_; rintro e w' ⟨rfl, rfl⟩; rw [hl.out]) | (go_at_call 83; refine (widthR_any s N _ hs HN).mono ?_; rintro e w' ⟨rfl, rfl⟩))
    refine bodyPost_ret (v := .tuple #[.agg #[.int .i64 3, .string ⟨#[]⟩, .int .u64 N, .int .i64 at_], .int .i64 0]) (by simp [results, Tryz.results44, go_sem]) rfl (HF.out _ 3 [] N 0 at_ _ rfl rfl ?_)
    (repeat (first | exact Below.refl _ _ | refine Below.setCell ?_ (by simp) _ | refine Below.alloc ?_ (by simp) _))
  · have hz1 : ¬ 0 < (N : Int) := by omega
    rw [if_neg hz] at h'
    by_cases h12 : 12 < s.size
    · rw [if_pos (by rw [hlen]; exact h12)] at h'
      simp only [Prod.mk.injEq] at h'
      obtain ⟨⟨rfl, rfl, rfl⟩, rfl⟩ := h'
      have HF := Lib.hid (tok_ret s at_ w)
      clear hz
      go_enter Tryz.func44, Tryz.ntmps44
      go_wp2_with (first | (go_at_call 80; refine (letter_any _ _).mono ?_; rintro e w' ⟨rfl, rfl⟩; rw [hl.out]) | (go_at_call 83; refine (widthR_any s N _ hs HN).mono ?_; rintro e w' ⟨rfl, rfl⟩))
      refine bodyPost_ret (v := .tuple #[.agg #[.int .i64 0, .string ⟨#[]⟩, .int .u64 0, .int .i64 0], .int .i64 3]) (by simp [results, Tryz.results44, go_sem]) rfl (HF.out _ 0 [] 0 3 0 _ rfl rfl ?_)
      (repeat (first | exact Below.refl _ _ | refine Below.setCell ?_ (by simp) _ | refine Below.alloc ?_ (by simp) _))
    · rw [if_neg (by rw [hlen]; exact h12)] at h'
      simp only [Prod.mk.injEq] at h'
      obtain ⟨⟨rfl, rfl, rfl⟩, rfl⟩ := h'
      have HF := Lib.hid (tok_ret s at_ w)
      clear hz
      go_enter Tryz.func44, Tryz.ntmps44
      go_wp2_with (first | (go_at_call 80; refine (letter_any _ _).mono ?_; rintro e w' ⟨rfl, rfl⟩; rw [hl.out]) | (go_at_call 83; refine (widthR_any s N _ hs HN).mono ?_; rintro e w' ⟨rfl, rfl⟩))
      refine bodyPost_ret (v := .tuple #[.agg #[.int .i64 1, .string s, .int .u64 0, .int .i64 at_], .int .i64 0]) (by simp [results, Tryz.results44, go_sem]) rfl (HF.out _ 1 s.data.toList 0 0 at_ s rfl rfl ?_)
      (repeat (first | exact Below.refl _ _ | refine Below.setCell ?_ (by simp) _ | refine Below.alloc ?_ (by simp) _))

set_option maxRecDepth 100000 in
set_option maxHeartbeats 1600000 in
theorem tokR_sign (s : ByteArray) (at_ : Nat) (h0 : 0 < s.size) (_ha : at_ ≤ 100000) (hl : Hid (isLet s[0] = false)) (hd : Hid (isDig s[0] = false)) (w : World) :
    Calls Tryz.prog 44 #[.string s, .int .i64 at_] w (TokPost s at_ w 4 s.data.toList 0 0) := by
  have HF := Lib.hid (tok_ret s at_ w)
  go_enter Tryz.func44, Tryz.ntmps44
  go_wp2_with (first | (go_at_call 80; refine (letter_any _ _).mono ?_; rintro e w' ⟨rfl, rfl⟩; rw [hl.out]) | (go_at_call 81; refine (digit_any _ _).mono ?_; rintro e w' ⟨rfl, rfl⟩; rw [hd.out]))
  refine bodyPost_ret (v := .tuple #[.agg #[.int .i64 4, .string s, .int .u64 0, .int .i64 at_], .int .i64 0]) (by simp [results, Tryz.results44, go_sem]) rfl (HF.out _ 4 s.data.toList 0 0 at_ s rfl rfl ?_)
  (repeat (first | exact Below.refl _ _ | refine Below.setCell ?_ (by simp) _ | refine Below.alloc ?_ (by simp) _))

set_option maxRecDepth 100000 in
set_option maxHeartbeats 1600000 in
theorem tokR_zero (s : ByteArray) (at_ : Nat) (h0 : 0 < s.size) (h1 : 1 < s.size) (hs : s.size ≤ 100000) (_ha : at_ ≤ 100000) (hl : Hid (isLet s[0] = false)) (hd : Hid (isDig s[0] = true)) (h48 : s[0].toNat = 48) (w : World) :
    Calls Tryz.prog 44 #[.string s, .int .i64 at_] w (TokPost s at_ w 0 [] 0 10) := by
  have HF := Lib.hid (tok_ret s at_ w)
  have b1 : ((s[0].toNat : Int) == 48) = true := by simp; omega
  clear h48
  go_enter Tryz.func44, Tryz.ntmps44
  go_wp2_with (first | (go_at_call 80; refine (letter_any _ _).mono ?_; rintro e w' ⟨rfl, rfl⟩; rw [hl.out]) | (go_at_call 81; refine (digit_any _ _).mono ?_; rintro e w' ⟨rfl, rfl⟩; rw [hd.out]))
  refine bodyPost_ret (v := .tuple #[.agg #[.int .i64 0, .string ⟨#[]⟩, .int .u64 0, .int .i64 0], .int .i64 10]) (by simp [results, Tryz.results44, go_sem]) rfl (HF.out _ 0 [] 0 10 0 _ rfl rfl ?_)
  (repeat (first | exact Below.refl _ _ | refine Below.setCell ?_ (by simp) _ | refine Below.alloc ?_ (by simp) _))

set_option maxRecDepth 100000 in
set_option maxHeartbeats 1600000 in
theorem tokR_num (s : ByteArray) (at_ : Nat) (n : Nat) (h0 : 0 < s.size) (hs : s.size ≤ 100000) (_ha : at_ ≤ 100000) (hl : Hid (isLet s[0] = false)) (hd : Hid (isDig s[0] = true)) (hall : Hid (∀ b ∈ s.data.toList, isDig b = true)) (h48 : s.size ≤ 1 ∨ s[0].toNat ≠ 48) (hp : Hid (Lib.parseUintB 64 s.data.toList = .ok n)) (w : World) :
    Calls Tryz.prog 44 #[.string s, .int .i64 at_] w (TokPost s at_ w 2 [] n 0) := by
  have HF := Lib.hid (tok_ret s at_ w)
  have hnum : ∀ w, Calls Tryz.prog 84 #[.string s] w fun e w' => e = .returned (.tuple #[.int .u64 n, .bool true]) ∧ w = w' := fun w => (number_any s w h0 hs hall).mono fun e w' ⟨h1, h2⟩ => ⟨by
    rcases h1 with ⟨u, e1, e2⟩ | ⟨e1, _⟩
    · rw [hp.out] at e1; cases e1; exact e2
    · exact absurd hp.out (e1 n), h2⟩
  have HNum := Lib.hid hnum
  clear hnum hp hall
  by_cases h1 : 1 < s.size
  · have b1 : ((s[0].toNat : Int) == 48) = false := by simp; omega
    clear h48
    go_enter Tryz.func44, Tryz.ntmps44
    go_wp2_with (first | (go_at_call 80; refine (letter_any _ _).mono ?_; rintro e w' ⟨rfl, rfl⟩; rw [hl.out]) | (go_at_call 81; refine (digit_any _ _).mono ?_; rintro e w' ⟨rfl, rfl⟩; rw [hd.out]) | (go_at_call 84; refine (HNum.out _).mono ?_; rintro e w' ⟨rfl, rfl⟩))
    refine bodyPost_ret (v := .tuple #[.agg #[.int .i64 2, .string ⟨#[]⟩, .int .u64 n, .int .i64 at_], .int .i64 0]) (by simp [results, Tryz.results44, go_sem]) rfl (HF.out _ 2 [] n 0 at_ _ rfl rfl ?_)
    (repeat (first | exact Below.refl _ _ | refine Below.setCell ?_ (by simp) _ | refine Below.alloc ?_ (by simp) _))
  · clear h48
    go_enter Tryz.func44, Tryz.ntmps44
    go_wp2_with (first | (go_at_call 80; refine (letter_any _ _).mono ?_; rintro e w' ⟨rfl, rfl⟩; rw [hl.out]) | (go_at_call 81; refine (digit_any _ _).mono ?_; rintro e w' ⟨rfl, rfl⟩; rw [hd.out]) | (go_at_call 84; refine (HNum.out _).mono ?_; rintro e w' ⟨rfl, rfl⟩))
    refine bodyPost_ret (v := .tuple #[.agg #[.int .i64 2, .string ⟨#[]⟩, .int .u64 n, .int .i64 at_], .int .i64 0]) (by simp [results, Tryz.results44, go_sem]) rfl (HF.out _ 2 [] n 0 at_ _ rfl rfl ?_)
    (repeat (first | exact Below.refl _ _ | refine Below.setCell ?_ (by simp) _ | refine Below.alloc ?_ (by simp) _))

set_option maxRecDepth 100000 in
set_option maxHeartbeats 1600000 in
theorem tokR_far (s : ByteArray) (at_ : Nat) (h0 : 0 < s.size) (hs : s.size ≤ 100000) (_ha : at_ ≤ 100000) (hl : Hid (isLet s[0] = false)) (hd : Hid (isDig s[0] = true)) (hall : Hid (∀ b ∈ s.data.toList, isDig b = true)) (h48 : s.size ≤ 1 ∨ s[0].toNat ≠ 48) (hp : Hid (∀ n, Lib.parseUintB 64 s.data.toList ≠ .ok n)) (w : World) :
    Calls Tryz.prog 44 #[.string s, .int .i64 at_] w (TokPost s at_ w 0 [] 0 3) := by
  have HF := Lib.hid (tok_ret s at_ w)
  have hnum : ∀ w, Calls Tryz.prog 84 #[.string s] w fun e w' => e = .returned (.tuple #[.int .u64 0, .bool false]) ∧ w = w' := fun w => (number_any s w h0 hs hall).mono fun e w' ⟨h1, h2⟩ => ⟨by
    rcases h1 with ⟨u, e1, e2⟩ | ⟨_, e2⟩
    · exact absurd e1 (hp.out u)
    · exact e2, h2⟩
  have HNum := Lib.hid hnum
  clear hnum hp hall
  by_cases h1 : 1 < s.size
  · have b1 : ((s[0].toNat : Int) == 48) = false := by simp; omega
    clear h48
    go_enter Tryz.func44, Tryz.ntmps44
    go_wp2_with (first | (go_at_call 80; refine (letter_any _ _).mono ?_; rintro e w' ⟨rfl, rfl⟩; rw [hl.out]) | (go_at_call 81; refine (digit_any _ _).mono ?_; rintro e w' ⟨rfl, rfl⟩; rw [hd.out]) | (go_at_call 84; refine (HNum.out _).mono ?_; rintro e w' ⟨rfl, rfl⟩))
    refine bodyPost_ret (v := .tuple #[.agg #[.int .i64 0, .string ⟨#[]⟩, .int .u64 0, .int .i64 0], .int .i64 3]) (by simp [results, Tryz.results44, go_sem]) rfl (HF.out _ 0 [] 0 3 0 _ rfl rfl ?_)
    (repeat (first | exact Below.refl _ _ | refine Below.setCell ?_ (by simp) _ | refine Below.alloc ?_ (by simp) _))
  · clear h48
    go_enter Tryz.func44, Tryz.ntmps44
    go_wp2_with (first | (go_at_call 80; refine (letter_any _ _).mono ?_; rintro e w' ⟨rfl, rfl⟩; rw [hl.out]) | (go_at_call 81; refine (digit_any _ _).mono ?_; rintro e w' ⟨rfl, rfl⟩; rw [hd.out]) | (go_at_call 84; refine (HNum.out _).mono ?_; rintro e w' ⟨rfl, rfl⟩))
    refine bodyPost_ret (v := .tuple #[.agg #[.int .i64 0, .string ⟨#[]⟩, .int .u64 0, .int .i64 0], .int .i64 3]) (by simp [results, Tryz.results44, go_sem]) rfl (HF.out _ 0 [] 0 3 0 _ rfl rfl ?_)
    (repeat (first | exact Below.refl _ _ | refine Below.setCell ?_ (by simp) _ | refine Below.alloc ?_ (by simp) _))

theorem tokR_any (s : ByteArray) (at_ : Nat) (k : Nat) (t : List UInt8) (n er : Nat) (h0 : 0 < s.size) (hs : s.size ≤ 100000) (ha : at_ ≤ 100000) (h : Hid (readT s.data.toList = ((k, t, n), er)))
    (hall : isLet s[0] = false → isDig s[0] = true → ∀ b ∈ s.data.toList, isDig b = true) (w : World) :
    Calls Tryz.prog 44 #[.string s, .int .i64 at_] w (TokPost s at_ w k t n er) := by
  cases hl : isLet s[0]
  · have e := drop_cons s 0 h0
    rw [List.drop_zero] at e
    have h' := h.out
    cases hd : isDig s[0]
    · rw [e, readT, if_neg (by simp [hl]), if_neg (by simp [hd]), ← e] at h'
      simp only [Prod.mk.injEq] at h'
      obtain ⟨⟨rfl, rfl, rfl⟩, rfl⟩ := h'
      exact tokR_sign s at_ h0 ha (Lib.hid hl) (Lib.hid hd) w
    · have hlen : (s.data.toList.drop (0 + 1)).length = s.size - 1 := by
        have : s.data.toList.length = s.size := rfl
        rw [List.length_drop, this]
      have hne : s.data.toList.drop (0 + 1) ≠ [] ↔ 1 < s.size := by
        rw [← List.length_pos_iff, hlen]; omega
      have hal := Lib.hid (hall hl hd)
      by_cases hz : s.data.toList.drop (0 + 1) ≠ [] ∧ s[0].toNat = 48
      · rw [e, readT, if_neg (by simp [hl]), if_pos hd, if_pos hz] at h'
        simp only [Prod.mk.injEq] at h'
        obtain ⟨⟨rfl, rfl, rfl⟩, rfl⟩ := h'
        exact tokR_zero s at_ h0 (hne.1 hz.1) hs ha (Lib.hid hl) (Lib.hid hd) hz.2 w
      · have h48 : s.size ≤ 1 ∨ s[0].toNat ≠ 48 := by
          by_cases h1 : 1 < s.size
          · exact Or.inr fun h => hz ⟨hne.2 h1, h⟩
          · exact Or.inl (by omega)
        rw [e, readT, if_neg (by simp [hl]), if_pos hd, if_neg hz, ← e] at h'
        cases hp : Lib.parseUintB 64 s.data.toList with
        | ok u =>
          rw [hp] at h'
          simp only [Prod.mk.injEq] at h'
          obtain ⟨⟨rfl, rfl, rfl⟩, rfl⟩ := h'
          exact tokR_num s at_ _ h0 hs ha (Lib.hid hl) (Lib.hid hd) hal h48 (Lib.hid hp) w
        | range =>
          rw [hp] at h'
          simp only [Prod.mk.injEq] at h'
          obtain ⟨⟨rfl, rfl, rfl⟩, rfl⟩ := h'
          exact tokR_far s at_ h0 hs ha (Lib.hid hl) (Lib.hid hd) hal h48 (Lib.hid (by rw [hp]; simp)) w
        | _ =>
          rw [hp] at h'
          simp only [Prod.mk.injEq] at h'
          obtain ⟨⟨rfl, rfl, rfl⟩, rfl⟩ := h'
          exact tokR_far s at_ h0 hs ha (Lib.hid hl) (Lib.hid hd) hal h48 (Lib.hid (by rw [hp]; simp)) w
  · exact tokR_word s at_ k t n er h0 hs ha (Lib.hid hl) h w
end Go.Proofs.YtgleakjalhkkhaaGreatDoor

/- The document's own gaps. -/
namespace Go.Proofs.YtgleakjalhkkhaaGreatDoor
open Go.RowKit

theorem gap_true (s : ByteArray) (k : Nat) (h : k < s.size) : gapC true (s.data.toList.drop k) = if s[k].toNat == 10 then gapC false (s.data.toList.drop (k + 1)) + 1 else gapC true (s.data.toList.drop (k + 1)) + 1 := by
  rw [drop_cons s k h, gapC_true]
theorem gap_false (s : ByteArray) (k : Nat) (h : k < s.size) : gapC false (s.data.toList.drop k) = if s[k].toNat == 35 then gapC true (s.data.toList.drop (k + 1)) + 1 else if isBlk s[k] then gapC false (s.data.toList.drop (k + 1)) + 1 else 0 := by
  rw [drop_cons s k h, gapC_false]

set_option maxRecDepth 100000 in
set_option maxHeartbeats 1600000 in
theorem gapR_any (s : ByteArray) (k0 : Nat) (w : World) (hk0 : k0 ≤ s.size) (hs : s.size ≤ 100000) :
    Calls Tryz.prog 42 #[.string s, .int .i64 k0] w fun e w' => e = .returned (.int .i64 ((k0 + gapLen (s.data.toList.drop k0) : Nat) : Int)) ∧ Drew w w' := by
  obtain ⟨G, hG⟩ : ∃ G, k0 + gapLen (s.data.toList.drop k0) = G := ⟨_, rfl⟩
  rw [hG]
  have HG := Lib.hid hG
  clear hG
  go_enter Tryz.func42, Tryz.ntmps42
  go_wp2_with fail
  go_loopw [1] (fun a wr => ∃ k : Nat, k ≤ s.size ∧ a = .int .i64 k ∧ Hid (k + gapC false (s.data.toList.drop k) = G) ∧ Drew w wr) (fun a _ => s.size - (intOf a).toNat)
  case atStart => exact ⟨k0, hk0, rfl, HG, Drew.refl _⟩
  case round =>
    rename_i wr
    obtain ⟨k, hk2, rfl, hR, hD⟩ := hrel
    clear HG
    by_cases hlt : k < s.size
    · by_cases h35 : s[k].toNat = 35
      · have b35 : ((s[k].toNat : Int) == 35) = true := by rw [h35]; rfl
        go_wp2_with fail
        go_loopw [1] (fun a wx => ∃ j : Nat, k ≤ j ∧ j ≤ s.size ∧ a = .int .i64 j ∧ Hid (j + gapC true (s.data.toList.drop j) = G) ∧ Drew w wx) (fun a _ => s.size - (intOf a).toNat)
        case atStart => exact ⟨k, Nat.le_refl _, hk2, rfl, Lib.hid (by
          have h := hR.out
          rw [gap_false s k hlt, if_pos (by simpa using h35)] at h
          rw [gap_true s k hlt, if_neg (by simp [h35])]; exact h), hD⟩
        case round =>
          rename_i wx
          obtain ⟨j, hj1, hj2, rfl, hR2, hD2⟩ := hrel
          by_cases hlt2 : j < s.size
          · by_cases h10 : s[j].toNat = 10
            · have b10 : ((s[j].toNat : Int) != 10) = false := by rw [h10]; rfl
              have hkj : k < j := by
                rcases Nat.lt_or_ge k j with h | h
                · exact h
                · exfalso
                  have e : j = k := by omega
                  subst e
                  omega
              have HN : Hid (j + gapC false (s.data.toList.drop j) = G) := Lib.hid (by
                have h := hR2.out
                rw [gap_true s j hlt2, if_pos (by simpa using h10)] at h
                rw [gap_false s j hlt2, if_neg (by simp [h10]), if_pos (by simp [isBlk, h10])]; exact h)
              clear hR hR2 b35 h35
              go_wp2
              go_roundw
              case rel => exact ⟨j, hj2, rfl, HN, hD2⟩
              case measure => simp [intOf]; omega
            · have b10 : ((s[j].toNat : Int) != 10) = true := by simp; omega
              have HN : Hid (j + 1 + gapC true (s.data.toList.drop (j + 1)) = G) := Lib.hid (by
                have h := hR2.out
                rw [gap_true s j hlt2, if_neg (by simpa using h10)] at h
                omega)
              clear hR hR2 b35 h35
              go_wp2
              go_roundw
              case rel => exact ⟨j + 1, by omega, by omega, by go_num, HN, hD2⟩
              case measure => simp [intOf]; omega
          · have hkj : k < j := by omega
            have HN : Hid (j + gapC false (s.data.toList.drop j) = G) := Lib.hid (by
              have h := hR2.out
              rw [drop_end s j (by omega)] at h ⊢
              simpa [gapC] using h)
            clear hR hR2 b35 h35
            go_wp2
            go_roundw
            case rel => exact ⟨j, hj2, rfl, HN, hD2⟩
            case measure => simp [intOf]; omega
      · have b35 : ((s[k].toNat : Int) == 35) = false := by simp; omega
        by_cases hb : isBlk s[k] = true
        · have HN : Hid (k + 1 + gapC false (s.data.toList.drop (k + 1)) = G) := Lib.hid (by
            have h := hR.out
            rw [gap_false s k hlt, if_neg (by simpa using h35), if_pos hb] at h
            omega)
          have hb' : s[k].toNat = 32 ∨ s[k].toNat = 9 ∨ s[k].toNat = 10 := by
            unfold isBlk at hb; simp at hb; omega
          clear hR hb
          rcases hb' with hx | hx | hx
          · have b32 : ((s[k].toNat : Int) == 32) = true := by rw [hx]; rfl
            have b9 : ((s[k].toNat : Int) == 9) = false := by rw [hx]; rfl
            have b10 : ((s[k].toNat : Int) == 10) = false := by rw [hx]; rfl
            clear hx
            go_wp2
            go_roundw
            case rel => exact ⟨k + 1, by omega, by go_num, HN, hD⟩
            case measure => simp [intOf]; omega
          · have b32 : ((s[k].toNat : Int) == 32) = false := by rw [hx]; rfl
            have b9 : ((s[k].toNat : Int) == 9) = true := by rw [hx]; rfl
            have b10 : ((s[k].toNat : Int) == 10) = false := by rw [hx]; rfl
            clear hx
            go_wp2
            go_roundw
            case rel => exact ⟨k + 1, by omega, by go_num, HN, hD⟩
            case measure => simp [intOf]; omega
          · have b32 : ((s[k].toNat : Int) == 32) = false := by rw [hx]; rfl
            have b9 : ((s[k].toNat : Int) == 9) = false := by rw [hx]; rfl
            have b10 : ((s[k].toNat : Int) == 10) = true := by rw [hx]; rfl
            clear hx
            go_wp2
            go_roundw
            case rel => exact ⟨k + 1, by omega, by go_num, HN, hD⟩
            case measure => simp [intOf]; omega
        · have HN : Hid (k = G) := Lib.hid (by
            have h := hR.out
            rw [gap_false s k hlt, if_neg (by simpa using h35), if_neg hb] at h
            omega)
          have hb' : ((s[k].toNat : Int) == 32) = false ∧ ((s[k].toNat : Int) == 9) = false ∧ ((s[k].toNat : Int) == 10) = false := by
            unfold isBlk at hb; simp at hb; simp; omega
          obtain ⟨b1, b2, b3⟩ := hb'
          clear hR hb
          go_wp2
          go_ret
          exact ⟨ret_int (by have := HN.out; omega), hD⟩
    · have HN : Hid (k = G) := Lib.hid (by
        have h := hR.out
        rw [drop_end s k (by omega)] at h
        simpa [gapC] using h)
      clear hR
      go_wp2
      go_ret
      exact ⟨ret_int (by have := HN.out; omega), hD⟩
end Go.Proofs.YtgleakjalhkkhaaGreatDoor

/- The reference's Lex answers what the plain function says. -/
namespace Go.Proofs.YtgleakjalhkkhaaGreatDoor
open Go.RowKit

set_option maxHeartbeats 400000 in
theorem lexR_long (s : ByteArray) (w : World) (h : 4000 < s.size) (hs : s.size ≤ 9223372036854775807) :
    Calls Tryz.prog 21 #[.string s] w (LexPost s.data.toList w) := by
  have hl : s.data.toList.length = s.size := rfl
  have hx : lexS s.data.toList = ([], 2, 0) := lexS_long (by rw [hl]; exact h)
  have hE : ∀ e w', (e = Ending.returned (.tuple #[.slice none 0 0, .int .i64 2, .int .i64 0]) ∧ w' = w) → LexPost s.data.toList w e w' := by
    rintro e w' ⟨rfl, rfl⟩
    refine ⟨.slice none 0 0, ?_, ?_, Below.refl _ _⟩
    · rw [hx]; rfl
    · rw [hx]; exact World.ownsRow_nil _ _ _ _
  clear hl hx
  refine Calls.mono ?_ hE
  clear hE
  go_enter Tryz.func21, Tryz.ntmps21
  go_wp2
  go_ret3
  exact ⟨rfl, rfl⟩

theorem tok_all (s : ByteArray) (k N : Nat) (hk : k < s.size) (hN : tokLen (s.data.toList.drop k) = N) (hN1 : k + N ≤ s.size) (h0 : 0 < N) (hz : 0 < (s.extract k (k + N)).size) :
    isLet (s.extract k (k + N))[0] = false → isDig (s.extract k (k + N))[0] = true → ∀ b ∈ (s.extract k (k + N)).data.toList, isDig b = true := by
  intro hl hd
  have hXt : (s.extract k (k + N)).data.toList = (s.data.toList.drop k).take N := by rw [extract_mid]; congr 1; omega
  have hc := drop_cons s k hk
  have e0 : (s.extract k (k + N))[0] = s[k] := by
    have h1 : (s.extract k (k + N)).data.toList[0]'hz = s[k] := by
      simp only [hXt]
      rw [List.getElem_take, List.getElem_drop]
      rfl
    exact h1
  rw [e0] at hl hd
  rw [hc, tokLen, if_neg (by rw [hl]; simp), if_pos hd, ← hc] at hN
  rw [hXt]
  have := run_all isDig ((s.data.toList.drop k).take N) ((s.data.toList.drop k).drop N) (by
    rw [List.take_append_drop, hN, List.length_take, List.length_drop]
    have : s.data.toList.length = s.size := rfl
    omega)
  exact this.1

set_option maxRecDepth 100000 in
set_option maxHeartbeats 8000000 in
theorem lexR_short (s : ByteArray) (w : World) (h : s.size ≤ 4000) :
    Calls Tryz.prog 21 #[.string s] w (LexPost s.data.toList w) := by
  have hl : s.data.toList.length = s.size := rfl
  obtain ⟨i0, hi, hz0, hz1, hz2⟩ := info_parts Tryz.infoTok
  have hG := gapLen_le s.data.toList
  rw [hl] at hG
  go_enter Tryz.func21, Tryz.ntmps21
  go_wp2_with fail
  refine (gapR_any s 0 _ (Nat.zero_le _) (by omega)).mono ?_
  rintro e w0 ⟨rfl, D0⟩
  have hA : Hid (lexAt s.data.toList (gapLen s.data.toList) []) := Lib.hid (lexAt_start _)
  have hD0 : Below w.heap.size w w0 := D0.below
  clear D0
  go_wp2_with fail
  go_loopw [5, 6] (fun v a wr => LexRel s.data.toList w v (.int .i64 0) a wr) (fun _ a _ => s.size - (intOf a).toNat)
  case atStart => exact ⟨gapLen s.data.toList, [], by rw [hl]; exact hG, by simp, rfl, hA, by simp, World.ownsRow_nil _ _ _ _, hD0⟩
  case round =>
    rename_i wr
    obtain ⟨k, ts, hk, rfl, _, hL, h15, hT, hD⟩ := hrel
    rw [hl] at hk
    obtain ⟨A, c, rfl⟩ := hT.form
    clear hA hD0 hG
    by_cases hlt : k < s.size
    · obtain ⟨N, hN⟩ : ∃ N, tokLen (s.data.toList.drop k) = N := ⟨_, rfl⟩
      have hN1 : k + N ≤ s.size := by
        have := tokLen_le (s.data.toList.drop k)
        rw [List.length_drop, hl] at this; omega
      have HN := Lib.hid hN
      obtain ⟨E, hE⟩ : ∃ E, k + N = E := ⟨_, rfl⟩
      have HE : Hid (k + tokLen (s.data.toList.drop k) = E) := Lib.hid (by rw [hN, hE])
      clear hN
      go_wp2_with fail
      refine (endR_any s k E _ hlt (by omega) HE).mono ?_
      rintro e w1 ⟨rfl, hb1⟩
      by_cases hz : N = 0
      · have HX : Hid (lexS s.data.toList = ([], 10, k)) := Lib.hid (lexAt_err hL.out (by omega) (by omega) (by decide) (Or.inl ⟨by rw [HN.out, hz], rfl⟩))
        have hb : ((E : Int) == k) = true := by simp; omega
        clear hL HN HE
        go_wp2
        go_ret3
        exact lexPost_err HX rfl rfl (hD.trans (hb1.mono hD.size))
      · have hzN : 0 < N := by omega
        have hb : ((E : Int) == k) = false := by simp; omega
        by_cases h0 : ts.length = 1500
        · have HX : Hid (lexS s.data.toList = ([], 2, k)) := Lib.hid (lexAt_err hL.out (by omega) (by omega) (by decide) (Or.inr (Or.inl ⟨by rw [HN.out]; omega, h0, rfl⟩)))
          have h0b : 1500 ≤ (ts.length : Int) := by omega
          clear hL HN HE h0 hz
          go_wp2
          go_ret3
          exact lexPost_err HX rfl rfl (hD.trans (hb1.mono hD.size))
        · have h0b : ¬ 1500 ≤ (ts.length : Int) := by omega
          have hX0 : 0 < (s.extract k (k + N)).size := by simp; omega
          have hX1 : (s.extract k (k + N)).size ≤ 100000 := by simp; omega
          have hXt : (s.extract k (k + N)).data.toList = (s.data.toList.drop k).take N := by rw [extract_mid]; congr 1; omega
          obtain ⟨kd, tx, nm, er, hR⟩ : ∃ kd tx nm er, readT (s.extract k (k + N)).data.toList = ((kd, tx, nm), er) := ⟨_, _, _, _, rfl⟩
          have HR := Lib.hid hR
          have HR2 : Hid (readT ((s.data.toList.drop k).take (tokLen (s.data.toList.drop k))) = ((kd, tx, nm), er)) := Lib.hid (by rw [HN.out, ← hXt]; exact hR)
          have HA := Lib.hid (tok_all s k N hlt HN.out hN1 hzN hX0)
          have HT := Lib.hid (fun w => tokR_any (s.extract k (k + N)) k kd tx nm er hX0 hX1 (by omega) HR HA.out w)
          rw [hE] at HT
          clear hR hXt hz hX0 hX1 HR HA
          by_cases her : er = 0
          · subst her
            have HT0 : Hid (∀ w, Calls Tryz.prog 44 #[.string (s.extract k E), .int .i64 k] w fun e w' => e = .returned (.tuple #[.agg #[.int .i64 kd, .string ⟨tx.toArray⟩, .int .u64 nm, .int .i64 k], .int .i64 0]) ∧ Below w.heap.size w w') := Lib.hid HT.out
            clear HT
            go_wp2_with fail
            refine (HT0.out _).mono ?_
            rintro e w2 ⟨rfl, hb2⟩
            go_upto_region 14 with fail
            have hBa : Below wr.heap.size wr (w2.alloc (.cells #[.int .i64 kd, .string ⟨tx.toArray⟩, .int .u64 nm, .int .i64 k] 47)) := (hb1.trans (hb2.mono hb1.size)).alloc (by have := hb1.size; have := hb2.size; omega) _
            have d0 : (w2.alloc (.cells #[.int .i64 kd, .string ⟨tx.toArray⟩, .int .u64 nm, .int .i64 k] 47)).cell? ⟨w2.heap.size, 0, none⟩ = some (.int .i64 kd) := by simp [go_sem]
            have d1 : (w2.alloc (.cells #[.int .i64 kd, .string ⟨tx.toArray⟩, .int .u64 nm, .int .i64 k] 47)).cell? ⟨w2.heap.size, 1, none⟩ = some (.string ⟨tx.toArray⟩) := by simp [go_sem]
            have d2 : (w2.alloc (.cells #[.int .i64 kd, .string ⟨tx.toArray⟩, .int .u64 nm, .int .i64 k] 47)).cell? ⟨w2.heap.size, 2, none⟩ = some (.int .u64 nm) := by simp [go_sem]
            have d3 : (w2.alloc (.cells #[.int .i64 kd, .string ⟨tx.toArray⟩, .int .u64 nm, .int .i64 k] 47)).cell? ⟨w2.heap.size, 3, none⟩ = some (.int .i64 k) := by simp [go_sem]
            generalize w2.alloc (.cells #[.int .i64 kd, .string ⟨tx.toArray⟩, .int .u64 nm, .int .i64 k] 47) = W at *
            generalize w2.heap.size = B at *
            clear hb1 hb2 HT0
            have hT2 := hT.later hBa
            have hD2 := hD.trans (hBa.mono hD.size)
            clear hBa hT
            go_wp2_with (at_builtin; refine wpList_append_own _ rfl (.tmp 43) (.tmp 45) _ rfl w.heap.size 47 i0 _ 4 40 Tryz.underlying38 hi hz0 hz1 hz2 rfl (by decide) _ ts.length (toksV ts) rfl (World.ownsRow.alloc hT2 _) ⟨W.heap.size, 0, none⟩ 1 1 [.int .i64 kd, .string ⟨tx.toArray⟩, .int .u64 nm, .int .i64 k] rfl rfl ?c1 ?c2 ?c3 ?c4 ?c5 ?_)
            case c1 =>
              intro j u hj
              match j, hj with
              | 0, hj => simp at hj; subst hj; simp [Addr.add]
              | 1, hj => simp at hj; subst hj; simp [Addr.add]
              | 2, hj => simp at hj; subst hj; simp [Addr.add]
              | 3, hj => simp at hj; subst hj; simp [Addr.add]
            case c2 => intro u hu; simp at hu; rcases hu with rfl | rfl | rfl | rfl <;> rfl
            case c3 => unfold maxLen; omega
            case c4 => omega
            case c5 => have := hD2.size; simp; omega
            · intro v' w2 hown' hgrow _
              have hT3 : Toks w2 w.heap.size v' (ts ++ [mkTok (kd, tx, nm) k]) := by
                unfold Toks
                rw [toksV_append, List.length_append]
                exact hown'
              have hD3 : Below w.heap.size w w2 := (hD2.alloc hD2.size _).grown hgrow (by have := hD2.size; simp; omega) (fun g hg => (World.ownsRow.lt hT2 g hg).1)
              have hS : Hid (lexAt s.data.toList (k + N + gapLen (s.data.toList.drop (k + N))) (ts ++ [mkTok (kd, tx, nm) k])) := Lib.hid (by
                have := lexAt_step hL.out (by omega) (by rw [HN.out]; omega) h0 (by rw [HR2.out])
                rw [HN.out] at this
                have e := HR2.out
                rw [HN.out] at e
                rw [e] at this
                exact this)
              obtain ⟨G, hGe⟩ : ∃ G, E + gapLen (s.data.toList.drop E) = G := ⟨_, rfl⟩
              have hG2 : G ≤ s.size := by
                have := gapLen_le (s.data.toList.drop E)
                rw [List.length_drop, hl] at this; omega
              rw [hE, hGe] at hS
              have HGe := Lib.hid hGe
              have hG1 : k < G := by omega
              clear hGe hown' hgrow hT2 hD2 hL HN HR2 d0 d1 d2 d3 h0b HE hD
              go_wp2_with fail
              refine (gapR_any s E _ (by omega) (by omega)).mono ?_
              rintro e w3 ⟨rfl, D⟩
              rw [HGe.out]
              clear HGe
              have hT4 := hT3.later D.below
              have hD4 := hD3.trans (D.below.mono hD3.size)
              clear hT3 hD3 D
              go_wp2
              go_roundw
              case rel => exact ⟨G, ts ++ [mkTok (kd, tx, nm) k], by omega, rfl, rfl, hS, by simp; omega, hT4, hD4⟩
              case measure => simp [intOf]; omega
          · have HX : Hid (lexS s.data.toList = ([], er, k)) := Lib.hid (lexAt_err hL.out (by omega) (by omega) her (Or.inr (Or.inr ⟨by rw [HN.out]; omega, h0, by rw [HR2.out]⟩)))
            have hb' : ((er : Int) != 0) = true := by simp; omega
            clear hL HN h0 HR2 HE
            go_wp2_with fail
            refine (HT.out _).mono ?_
            rintro e w2 ⟨rfl, hb2⟩
            go_wp2
            go_ret3
            exact lexPost_err HX rfl rfl (hD.trans (Below.mono ((hb1.trans (hb2.mono hb1.size)).alloc (by have := hb1.size; have := hb2.size; omega) _) hD.size))
    · have HX : Hid (lexS s.data.toList = (ts, 0, 0)) := Lib.hid (lexAt_done hL.out (by omega) (by omega))
      clear hL
      go_wp2
      go_ret3
      exact lexPost_ok HX hT hD

theorem lexR_any (s : ByteArray) (w : World) (hs : s.size ≤ 9223372036854775807) :
    Calls Tryz.prog 21 #[.string s] w (LexPost s.data.toList w) := by
  by_cases h : s.size ≤ 4000
  · exact lexR_short s w h
  · exact lexR_long s w (by omega) hs
theorem lexR_at (s : ByteArray) (ts : List Tok) (x k : Nat) (w : World) (hs : s.size ≤ 9223372036854775807) (h : Hid (lexS s.data.toList = (ts, x, k))) :
    Calls Tryz.prog 21 #[.string s] w fun e w' => ∃ A c, e = .returned (.tuple #[.slice A ts.length c, .int .i64 x, .int .i64 k]) ∧ ts.length ≤ c ∧ c ≤ maxLen ∧ TRd w' A ts ∧ Below w.heap.size w w' := by
  refine (lexR_any s w hs).mono fun e w' ⟨v, he, hT, hB⟩ => ?_
  rw [h.out] at he hT
  obtain ⟨A, c, rfl, h1, h2, h3⟩ := hT.read
  exact ⟨A, c, he, h1, h2, h3, hB⟩
end Go.Proofs.YtgleakjalhkkhaaGreatDoor
