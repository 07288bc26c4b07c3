/- The reference's signs: plain mathematics. -/
import Derived.Test.YtnanfedggmkboaaDoorLPlain2
namespace Go.Proofs.YtnanfedggmkboaaDoor
open Go

/-- The signs, the longer ones first. -/
def sgnL : List (List UInt8) := [[61, 61], [33, 61], [60, 61], [62, 61], [60, 60], [62, 62], [123], [125], [40], [41], [91], [93], [44], [59], [58], [46], [61], [60], [62], [43], [45], [42], [47], [37], [38], [124], [94], [126]]
def sgnF (l : List UInt8) : Nat := match sgnL.find? (fun x => x.isPrefixOf l) with | some x => x.length | none => 0

def sgA (a : UInt8) (p q r : Bool) : Nat := match sgnL.find? (fun x => match x with | [u] => u == a | [u, v] => u == a && ((v.toNat == 61 && p) || (v.toNat == 60 && q) || (v.toNat == 62 && r)) | _ => false) with | some x => x.length | none => 0
def sgB (a : UInt8) (p q r : Bool) : Nat := if (p && isEq a) || (((a.toNat == 61 && p) || (a.toNat == 60 && q) || (a.toNat == 62 && r)) && isDbl a) then 2 else if isSgn a then 1 else 0
set_option maxRecDepth 100000 in
theorem sg_all : ∀ (a : Fin 256) (p q r : Bool), sgA (UInt8.ofNat a.val) p q r = sgB (UInt8.ofNat a.val) p q r := by decide +kernel
theorem sg_any (a : UInt8) (p q r : Bool) : sgA a p q r = sgB a p q r := by
  have := sg_all ⟨a.toNat, a.toNat_lt⟩ p q r
  simpa using this
theorem u8_eq (b : UInt8) (n : Nat) (h : n < 256) : (UInt8.ofNat n == b) = (b.toNat == n) := by
  rw [Bool.eq_iff_iff]
  simp only [beq_iff_eq]
  constructor
  · rintro rfl; simp; omega
  · rintro rfl; simp
theorem find_congr {α : Type} {p q : α → Bool} : ∀ (L : List α), (∀ x ∈ L, p x = q x) → L.find? p = L.find? q
  | [], _ => rfl
  | x :: L, h => by
    rw [List.find?_cons, List.find?_cons, h x (by simp), find_congr L (fun y hy => h y (by simp [hy]))]
theorem sgnF_one (a : UInt8) : sgnF [a] = signLen [a] := by
  have h := sg_any a false false false
  have e : sgnF [a] = sgA a false false false := by
    unfold sgnF sgA
    rw [find_congr sgnL (fun x hx => ?_)]
    simp only [sgnL, List.mem_cons, List.not_mem_nil, or_false] at hx
    rcases hx with rfl | rfl | rfl | rfl | rfl | rfl | rfl | rfl | rfl | rfl | rfl | rfl | rfl | rfl | rfl | rfl | rfl | rfl | rfl | rfl | rfl | rfl | rfl | rfl | rfl | rfl | rfl | rfl <;> simp [List.isPrefixOf]
  rw [e, h]
  simp [sgB, signLen]
theorem sgnF_two (a b : UInt8) (l : List UInt8) : sgnF (a :: b :: l) = signLen (a :: b :: l) := by
  have h := sg_any a (b.toNat == 61) (b.toNat == 60) (b.toNat == 62)
  have e : sgnF (a :: b :: l) = sgA a (b.toNat == 61) (b.toNat == 60) (b.toNat == 62) := by
    unfold sgnF sgA
    rw [find_congr sgnL (fun x hx => ?_)]
    have e1 := u8_eq b 61 (by omega)
    have e2 := u8_eq b 60 (by omega)
    have e3 := u8_eq b 62 (by omega)
    simp only [sgnL, List.mem_cons, List.not_mem_nil, or_false] at hx
    rcases hx with rfl | rfl | rfl | rfl | rfl | rfl | rfl | rfl | rfl | rfl | rfl | rfl | rfl | rfl | rfl | rfl | rfl | rfl | rfl | rfl | rfl | rfl | rfl | rfl | rfl | rfl | rfl | rfl <;> simp_all [List.isPrefixOf]
  rw [e, h]
  have hb : (b == a && isDbl a) = (((a.toNat == 61 && b.toNat == 61) || (a.toNat == 60 && b.toNat == 60) || (a.toNat == 62 && b.toNat == 62)) && isDbl a) := by
    by_cases hd : isDbl a = true
    · rw [hd, Bool.and_true, Bool.and_true, Bool.eq_iff_iff]
      unfold isDbl at hd
      simp only [Bool.or_eq_true, beq_iff_eq, Bool.and_eq_true] at hd ⊢
      rw [← UInt8.toNat_inj]
      omega
    · rw [Bool.not_eq_true] at hd
      rw [hd, Bool.and_false, Bool.and_false]
  simp only [sgB, signLen]
  rw [hb]
theorem sgnF_is : ∀ l, sgnF l = signLen l
  | [] => by decide
  | [a] => sgnF_one a
  | a :: b :: l => sgnF_two a b l

theorem find_hit {α : Type} (p : α → Bool) : ∀ (L : List α) (k : Nat) (hk : k < L.length), (∀ i (h : i < k), p (L[i]'(by omega)) = false) → p L[k] = true → L.find? p = some L[k]
  | x :: L, 0, _, _, h => by simp at h; simp [h]
  | x :: L, k + 1, hk, hn, h => by
    have h0 := hn 0 (by omega)
    simp at h0
    rw [List.find?_cons, h0]
    simpa using find_hit p L k (by simpa using hk) (fun i hi => by simpa using hn (i + 1) (by omega)) (by simpa using h)
theorem sgn_hit (l : List UInt8) (k : Nat) (hk : k < sgnL.length) (hn : ∀ i (h : i < k), (sgnL[i]'(by omega)).isPrefixOf l = false) (h : sgnL[k].isPrefixOf l = true) : signLen l = sgnL[k].length := by
  rw [← sgnF_is, sgnF, find_hit _ sgnL k hk hn h]
theorem sgn_miss (l : List UInt8) (hn : ∀ i (h : i < sgnL.length), sgnL[i].isPrefixOf l = false) : signLen l = 0 := by
  rw [← sgnF_is, sgnF, List.find?_eq_none.2]
  intro x hx
  obtain ⟨i, hi, rfl⟩ := List.getElem_of_mem hx
  rw [hn i hi]; simp
theorem sgnL_len : sgnL.length = 28 := rfl
theorem sgnL_pos : ∀ k (h : k < sgnL.length), 1 ≤ sgnL[k].length ∧ sgnL[k].length ≤ 2 := by decide
theorem prefix_take (x l : List UInt8) : x.isPrefixOf l = decide (x.length ≤ l.length ∧ l.take x.length = x) := by
  rw [Bool.eq_iff_iff]
  simp only [List.isPrefixOf_iff_prefix, decide_eq_true_eq]
  constructor
  · rintro ⟨t, rfl⟩; simp
  · rintro ⟨_, h⟩; exact ⟨l.drop x.length, (by have := List.take_append_drop x.length l; rw [h] at this; exact this)⟩
end Go.Proofs.YtnanfedggmkboaaDoor
