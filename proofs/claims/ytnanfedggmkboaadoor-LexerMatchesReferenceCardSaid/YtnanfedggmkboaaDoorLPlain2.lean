/- The lexer's plain mathematics, third part: the texts of tokens; numbers. -/
import Derived.Test.YtnanfedggmkboaaDoorLPlain
import Derived.Test.YtnanfedggmkboaaDoorLWidth
namespace Go.Proofs.YtnanfedggmkboaaDoor
open Go

/-! ### Numbers -/
theorem dec_snoc {n d : Nat} (h : 1 ≤ n) (hd : d < 10) : Lib.decDigits (n * 10 + d) = Lib.decDigits n ++ [UInt8.ofNat (48 + d)] := by
  rw [Lib.decDigits, dif_neg (by omega)]
  have e1 : (n * 10 + d) / 10 = n := by omega
  have e2 : (n * 10 + d) % 10 = d := by omega
  rw [e1, e2]
theorem dec_dig : ∀ n, ∀ b ∈ Lib.decDigits n, isDig b = true := fun n => by
  induction n using Nat.strongRecOn with
  | _ n ih =>
    intro b hb
    by_cases h : n < 10
    · rw [dec_one n h] at hb
      have : b = UInt8.ofNat (48 + n) := by simpa using hb
      rw [this]
      unfold isDig
      rw [ofNat_val _ (by omega)]; simp; omega
    · rw [Lib.decDigits, dif_neg h] at hb
      rcases List.mem_append.1 hb with hb | hb
      · exact ih (n / 10) (by omega) b hb
      · have : b = UInt8.ofNat (48 + n % 10) := by simpa using hb
        rw [this]
        unfold isDig
        rw [ofNat_val _ (by omega)]; simp; omega
theorem dec_ne (n : Nat) : Lib.decDigits n ≠ [] := by
  rw [Lib.decDigits]
  split <;> simp
/-- A number that is not 0 does not begin with a zero. -/
theorem dec_head : ∀ n, 1 ≤ n → ∃ b l, Lib.decDigits n = b :: l ∧ b.toNat ≠ 48 := fun n => by
  induction n using Nat.strongRecOn with
  | _ n ih =>
    intro h1
    by_cases h : n < 10
    · rw [dec_one n h]
      exact ⟨_, _, rfl, by rw [ofNat_val _ (by omega)]; omega⟩
    · obtain ⟨b, l, e, hb⟩ := ih (n / 10) (by omega) (by omega)
      rw [Lib.decDigits, dif_neg h, e]
      exact ⟨b, l ++ _, rfl, hb⟩
theorem dec_len : ∀ (k n : Nat), n < 10 ^ (k + 1) → (Lib.decDigits n).length ≤ k + 1
  | 0, n, h => by rw [dec_one n (by omega)]; simp
  | k + 1, n, h => by
    by_cases h1 : n < 10
    · rw [dec_one n h1]; simp
    · rw [Lib.decDigits, dif_neg h1, List.length_append]
      have := dec_len k (n / 10) (by rw [Nat.pow_succ] at h; omega)
      simp; omega
abbrev M64 : Nat := 2 ^ 64 - 1
theorem parse_from : ∀ (l : List UInt8) (acc u : Nat), 1 ≤ acc → Lib.parseUintM M64 acc l = .ok u → Lib.decDigits u = Lib.decDigits acc ++ l ∧ (acc ≤ M64 → u ≤ M64)
  | [], acc, u, _, h => by
    rw [Lib.parseUintM] at h
    cases h
    exact ⟨by simp, id⟩
  | c :: r, acc, u, ha, h => by
    rw [Lib.parseUintM] at h
    split at h
    · rename_i hc
      split at h
      · cases h
      · split at h
        · cases h
        · rename_i hM
          obtain ⟨i1, i2⟩ := parse_from r _ u (by omega) h
          refine ⟨?_, fun _ => i2 (by omega)⟩
          rw [i1, dec_snoc ha (by omega), List.append_assoc]
          congr 1
          have e : UInt8.ofNat (48 + (c.toNat - 48)) = c := u8_ext (by rw [ofNat_val _ (by omega)]; omega)
          rw [e]; rfl
    · cases h
/-- A number without zeros before it is the text of its value. -/
theorem parse_text {x : List UInt8} {u : Nat} (h : Lib.parseUintB 64 x = .ok u) (h0 : ∀ c r, x = c :: r → r ≠ [] → c.toNat ≠ 48) : Lib.decDigits u = x ∧ u ≤ M64 := by
  unfold Lib.parseUintB at h
  split at h
  · cases h
  · match x, h, h0 with
    | c :: r, h, h0 =>
      rw [Lib.parseUintM] at h
      split at h
      · rename_i hc
        rw [if_neg (by omega)] at h
        split at h
        · cases h
        · rename_i hM
          have e : UInt8.ofNat (48 + (c.toNat - 48)) = c := u8_ext (by rw [ofNat_val _ (by omega)]; omega)
          match r, h0, h with
          | [], _, h =>
            rw [Lib.parseUintM] at h
            cases h
            rw [Nat.zero_mul, Nat.zero_add, dec_one _ (by omega), e]
            exact ⟨rfl, by unfold M64; omega⟩
          | d :: r, h0, h =>
            have hne := h0 c (d :: r) rfl (by simp)
            rw [Nat.zero_mul, Nat.zero_add] at h
            obtain ⟨i1, i2⟩ := parse_from (d :: r) _ u (by omega) h
            rw [dec_one (c.toNat - 48) (by omega), e] at i1
            exact ⟨i1, i2 (by unfold M64; omega)⟩
      · cases h
theorem parse_dec : ∀ (n : Nat), n ≤ M64 → ∀ r, Lib.parseUintM M64 0 (Lib.decDigits n ++ r) = Lib.parseUintM M64 n r := fun n => by
  induction n using Nat.strongRecOn with
  | _ n ih =>
    intro hn r
    by_cases h : n < 10
    · rw [dec_one n h, List.cons_append, Lib.parseUintM]
      have e := ofNat_val (48 + n) (by omega)
      rw [e, if_pos (by omega), if_neg (by omega), if_neg (by omega)]
      have e2 : 0 * 10 + (48 + n - 48) = n := by omega
      rw [e2]; rfl
    · rw [Lib.decDigits, dif_neg h, List.append_assoc, ih (n / 10) (by omega) (by omega), List.cons_append, Lib.parseUintM]
      have e := ofNat_val (48 + n % 10) (by omega)
      have hn' : n ≤ 18446744073709551615 := hn
      rw [e, if_pos (by omega), if_neg (by omega), if_neg (by unfold M64; omega)]
      have e2 : n / 10 * 10 + (48 + n % 10 - 48) = n := by omega
      rw [e2]; rfl
theorem parse_zeros : ∀ (k acc : Nat), acc ≤ M64 → M64 < acc * 10 ^ k → Lib.parseUintM M64 acc (List.replicate k 48) = .range
  | 0, acc, h, h2 => by rw [Nat.pow_zero, Nat.mul_one] at h2; omega
  | k + 1, acc, h, h2 => by
    rw [List.replicate_succ, Lib.parseUintM, if_pos (by decide)]
    by_cases h3 : 1844674407370955162 ≤ acc
    · rw [if_pos h3]
    · rw [if_neg h3]
      have e : acc * 10 + ((48 : UInt8).toNat - 48) = acc * 10 := by have : (48 : UInt8).toNat = 48 := rfl; omega
      rw [e]
      by_cases h4 : M64 < acc * 10
      · rw [if_pos h4]
      · rw [if_neg h4]
        exact parse_zeros k (acc * 10) (by omega) (by rw [Nat.pow_succ, Nat.mul_comm (10 ^ k), ← Nat.mul_assoc] at h2; exact h2)

/-! ### The text of a token -/
def textV (v : Nat × List UInt8 × Nat) : List UInt8 := if v.1 = 2 then Lib.decDigits v.2.2 else if v.1 = 3 then 117 :: Lib.decDigits v.2.2 else v.2.1
def textOf (t : Tok) : List UInt8 := textV (t.kind, t.text, t.num)
theorem textOf_mk (v : Nat × List UInt8 × Nat) (o : Nat) : textOf (mkTok v o) = textV v := rfl
theorem read_text {x : List UInt8} {v : Nat × List UInt8 × Nat} (hx : x ≠ []) (h : readT x = (v, 0)) : textV v = x ∧ v.2.2 ≤ M64 ∧ v.1 ≤ 4 := by
  match x, hx, h with
  | b :: l, _, h =>
    rw [readT] at h
    by_cases h1 : isLet b = true
    · rw [if_pos h1] at h
      by_cases h2 : widthOf (b :: l) ≠ 0
      · rw [if_pos h2] at h
        simp only [Prod.mk.injEq, and_true] at h
        obtain ⟨w1, w2, w3⟩ := width_is rfl h2
        rw [← h]
        exact ⟨by rw [textV, if_neg (by simp), if_pos rfl]; exact w3.symm, by unfold M64; simp only; omega, by simp⟩
      · rw [if_neg h2] at h
        split at h
        · simp at h
        · simp only [Prod.mk.injEq, and_true] at h
          rw [← h]
          exact ⟨rfl, by simp, by simp⟩
    · rw [if_neg h1] at h
      by_cases h2 : isDig b = true
      · rw [if_pos h2] at h
        split at h
        · simp at h
        · rename_i hz
          cases hp : Lib.parseUintB 64 (b :: l) with
          | ok u =>
            rw [hp] at h
            simp only [Prod.mk.injEq, and_true] at h
            obtain ⟨p1, p2⟩ := parse_text hp (fun c r e hr hc => hz ⟨by cases e; exact hr, by cases e; exact hc⟩)
            rw [← h]
            exact ⟨by rw [textV, if_pos rfl]; exact p1, p2, by simp⟩
          | range => rw [hp] at h; simp at h
          | _ => rw [hp] at h; simp at h
      · rw [if_neg h2] at h
        simp only [Prod.mk.injEq, and_true] at h
        rw [← h]
        exact ⟨rfl, by simp, by simp⟩

/-! ### Texts and gaps cover a source -/
def Cov (s : List UInt8) : Nat → List Tok → Prop
  | at_, [] => at_ + gapLen (s.drop at_) = s.length
  | at_, t :: r => textOf t ≠ [] ∧ at_ + gapLen (s.drop at_) = t.off ∧ t.off + (textOf t).length ≤ s.length ∧ (s.drop t.off).take (textOf t).length = textOf t ∧ t.num ≤ M64 ∧ Cov s (t.off + (textOf t).length) r
theorem cov_of {l : List UInt8} {o : Nat} {ts : List Tok} {m : List UInt8} {o' : Nat} (h : Lp l o ts m o') : m = [] → ∀ (s pre : List UInt8) (p : Nat), s = pre ++ l → o = pre.length → p + gapLen (s.drop p) = o → Cov s p ts := by
  induction h with
  | stop m o =>
    intro hm s pre p e ho hp
    subst hm
    rw [Cov, hp, e, ho]; simp
  | cons x g r v o ts m o' h1 h2 h3 h4 h5 ih =>
    intro hm s pre p e ho hp
    obtain ⟨t1, t2, _⟩ := read_text h2 h3
    have ed : s.drop o = x ++ (g ++ r) := by rw [e, ho, List.drop_left]
    have ed2 : s.drop (o + x.length) = g ++ r := by rw [← List.drop_drop, ed, List.drop_left]
    have el : s.length = o + x.length + g.length + r.length := by rw [e, ho]; simp; omega
    rw [Cov, textOf_mk, t1]
    refine ⟨h2, hp, by show o + x.length ≤ _; omega, ?_, t2, ?_⟩
    · show (s.drop o).take x.length = x
      rw [ed, List.take_left]
    · exact ih hm s (pre ++ (x ++ g)) (o + x.length) (by rw [e]; simp) (by simp; omega) (by rw [ed2, h4])
theorem LpS.cov {s : List UInt8} {ts : List Tok} {a : Nat} (h : LpS s ts [] a) : Cov s 0 ts := by
  obtain ⟨g, l, e, hg, h⟩ := h
  exact cov_of h rfl s g 0 e rfl (by rw [List.drop_zero, Nat.zero_add]; exact hg)

/-! ### Written tokens -/
def wr : List Tok → List UInt8
  | [] => []
  | t :: r => textOf t ++ (32 :: wr r)
def LikeL (ts us : List Tok) : Prop := us.length = ts.length ∧ ∀ (i : Nat) (h : i < ts.length) (h' : i < us.length), us[i].kind = ts[i].kind ∧ us[i].text = ts[i].text ∧ us[i].num = ts[i].num
theorem LikeL.cons {ts us : List Tok} (h : LikeL ts us) (v : Nat × List UInt8 × Nat) (o o2 : Nat) : LikeL (mkTok v o :: ts) (mkTok v o2 :: us) := by
  refine ⟨by simp [h.1], fun i hi hi' => ?_⟩
  match i with
  | 0 => exact ⟨rfl, rfl, rfl⟩
  | i + 1 => exact h.2 i (by simpa using hi) (by simpa using hi')
theorem wr_gap {l : List UInt8} {o : Nat} {ts : List Tok} {m : List UInt8} {o' : Nat} (h : Lp l o ts m o') : gapC false (wr ts) = 0 := by
  cases h with
  | stop => simp [wr, gapC]
  | cons x g r v o ts m o' h1 h2 h3 h4 h5 =>
    rw [wr, textOf_mk, (read_text h2 h3).1]
    exact tok_gap (by rw [tok_swap h1 h2 (Or.inr (Or.inr ⟨32, rfl, by decide⟩))]; simpa using h2)
theorem Lp.write {l : List UInt8} {o : Nat} {ts : List Tok} {m : List UInt8} {o' : Nat} (h : Lp l o ts m o') : ∀ o2, ∃ us, Lp (wr ts) o2 us [] (o2 + (wr ts).length) ∧ LikeL ts us := by
  induction h with
  | stop => intro o2; exact ⟨[], Lp.stop _ _, rfl, fun i hi => absurd hi (by simp)⟩
  | cons x g r v o ts m o' h1 h2 h3 h4 h5 ih =>
    intro o2
    obtain ⟨us, i1, i2⟩ := ih (o2 + x.length + 1)
    refine ⟨mkTok v o2 :: us, ?_, i2.cons v o o2⟩
    rw [wr, textOf_mk, (read_text h2 h3).1]
    have e : o2 + (x ++ 32 :: wr ts).length = o2 + x.length + 1 + (wr ts).length := by simp; omega
    rw [e]
    refine Lp.cons x [32] (wr ts) v o2 us [] _ (tok_swap h1 h2 (Or.inr (Or.inr ⟨32, rfl, by decide⟩))) h2 h3 ?_ i1
    show gapC false (32 :: wr ts) = 1
    rw [gapC_false, if_neg (by decide), if_pos (by decide), wr_gap h5]
theorem LpS.write {s : List UInt8} {ts : List Tok} {a : Nat} (h : LpS s ts [] a) : ∃ us, LpS (wr ts) us [] (wr ts).length ∧ LikeL ts us := by
  obtain ⟨g, l, e, hg, h⟩ := h
  obtain ⟨us, i1, i2⟩ := h.write 0
  rw [Nat.zero_add] at i1
  exact ⟨us, ⟨[], wr ts, rfl, wr_gap h, i1⟩, i2⟩
end Go.Proofs.YtnanfedggmkboaaDoor
