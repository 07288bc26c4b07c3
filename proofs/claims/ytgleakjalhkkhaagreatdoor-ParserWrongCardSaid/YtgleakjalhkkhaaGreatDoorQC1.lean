/- Joined texts: LPlain2, PRd, PClo, PCut, PCutL. -/
import Derived.Test.YtgleakjalhkkhaaGreatDoorQB1
import Derived.Test.YtgleakjalhkkhaaGreatDoorQL3
import Derived.Test.YtgleakjalhkkhaaGreatDoorQB2

/- The lexer's plain mathematics, third part: the texts of tokens; numbers. -/
namespace Go.Proofs.YtgleakjalhkkhaaGreatDoor
open Go

/-! ### Numbers -/
theorem dec_snoc {n d : Nat} (h : 1 ≤ n) (hd : d < 10) : Lib.decDigits (n * 10 + d) = Lib.decDigits n ++ [UInt8.ofNat (48 + d)] := by
  rw [Lib.decDigits, dif_neg (by omega)]
  have e1 : (n * 10 + d) / 10 = n := by omega
  have e2 : (n * 10 + d) % 10 = d := by omega
  rw [e1, e2]
theorem dec_dig : ∀ n, ∀ b ∈ Lib.decDigits n, isDig b = true := fun n => by
  induction n using Nat.strongRecOn with
  | _ n ih =>
    intro b hb
    by_cases h : n < 10
    · rw [dec_one n h] at hb
      have : b = UInt8.ofNat (48 + n) := by simpa using hb
      rw [this]
      unfold isDig
      rw [ofNat_val _ (by omega)]; simp; omega
    · rw [Lib.decDigits, dif_neg h] at hb
      rcases List.mem_append.1 hb with hb | hb
      · exact ih (n / 10) (by omega) b hb
      · have : b = UInt8.ofNat (48 + n % 10) := by simpa using hb
        rw [this]
        unfold isDig
        rw [ofNat_val _ (by omega)]; simp; omega
theorem dec_ne (n : Nat) : Lib.decDigits n ≠ [] := by
  rw [Lib.decDigits]
  split <;> simp
/-- A number that is not 0 does not begin with a zero. -/
theorem dec_head : ∀ n, 1 ≤ n → ∃ b l, Lib.decDigits n = b :: l ∧ b.toNat ≠ 48 := fun n => by
  induction n using Nat.strongRecOn with
  | _ n ih =>
    intro h1
    by_cases h : n < 10
    · rw [dec_one n h]
      exact ⟨_, _, rfl, by rw [ofNat_val _ (by omega)]; omega⟩
    · obtain ⟨b, l, e, hb⟩ := ih (n / 10) (by omega) (by omega)
      rw [Lib.decDigits, dif_neg h, e]
      exact ⟨b, l ++ _, rfl, hb⟩
theorem dec_len : ∀ (k n : Nat), n < 10 ^ (k + 1) → (Lib.decDigits n).length ≤ k + 1
  | 0, n, h => by rw [dec_one n (by omega)]; simp
  | k + 1, n, h => by
    by_cases h1 : n < 10
    · rw [dec_one n h1]; simp
    · rw [Lib.decDigits, dif_neg h1, List.length_append]
      have := dec_len k (n / 10) (by rw [Nat.pow_succ] at h; omega)
      simp; omega
abbrev M64 : Nat := 2 ^ 64 - 1
theorem parse_from : ∀ (l : List UInt8) (acc u : Nat), 1 ≤ acc → Lib.parseUintM M64 acc l = .ok u → Lib.decDigits u = Lib.decDigits acc ++ l ∧ (acc ≤ M64 → u ≤ M64)
  | [], acc, u, _, h => by
    rw [Lib.parseUintM] at h
    cases h
    exact ⟨by simp, id⟩
  | c :: r, acc, u, ha, h => by
    rw [Lib.parseUintM] at h
    split at h
    · rename_i hc
      split at h
      · cases h
      · split at h
        · cases h
        · rename_i hM
          obtain ⟨i1, i2⟩ := parse_from r _ u (by omega) h
          refine ⟨?_, fun _ => i2 (by omega)⟩
          rw [i1, dec_snoc ha (by omega), List.append_assoc]
          congr 1
          have e : UInt8.ofNat (48 + (c.toNat - 48)) = c := u8_ext (by rw [ofNat_val _ (by omega)]; omega)
          rw [e]; rfl
    · cases h
/-- A number without zeros before it is the text of its value. -/
theorem parse_text {x : List UInt8} {u : Nat} (h : Lib.parseUintB 64 x = .ok u) (h0 : ∀ c r, x = c :: r → r ≠ [] → c.toNat ≠ 48) : Lib.decDigits u = x ∧ u ≤ M64 := by
  unfold Lib.parseUintB at h
  split at h
  · cases h
  · match x, h, h0 with
    | c :: r, h, h0 =>
      rw [Lib.parseUintM] at h
      split at h
      · rename_i hc
        rw [if_neg (by omega)] at h
        split at h
        · cases h
        · rename_i hM
          have e : UInt8.ofNat (48 + (c.toNat - 48)) = c := u8_ext (by rw [ofNat_val _ (by omega)]; omega)
          match r, h0, h with
          | [], _, h =>
            rw [Lib.parseUintM] at h
            cases h
            rw [Nat.zero_mul, Nat.zero_add, dec_one _ (by omega), e]
            exact ⟨rfl, by unfold M64; omega⟩
          | d :: r, h0, h =>
            have hne := h0 c (d :: r) rfl (by simp)
            rw [Nat.zero_mul, Nat.zero_add] at h
            obtain ⟨i1, i2⟩ := parse_from (d :: r) _ u (by omega) h
            rw [dec_one (c.toNat - 48) (by omega), e] at i1
            exact ⟨i1, i2 (by unfold M64; omega)⟩
      · cases h
theorem parse_dec : ∀ (n : Nat), n ≤ M64 → ∀ r, Lib.parseUintM M64 0 (Lib.decDigits n ++ r) = Lib.parseUintM M64 n r := fun n => by
  induction n using Nat.strongRecOn with
  | _ n ih =>
    intro hn r
    by_cases h : n < 10
    · rw [dec_one n h, List.cons_append, Lib.parseUintM]
      have e := ofNat_val (48 + n) (by omega)
      rw [e, if_pos (by omega), if_neg (by omega), if_neg (by omega)]
      have e2 : 0 * 10 + (48 + n - 48) = n := by omega
      rw [e2]; rfl
    · rw [Lib.decDigits, dif_neg h, List.append_assoc, ih (n / 10) (by omega) (by omega), List.cons_append, Lib.parseUintM]
      have e := ofNat_val (48 + n % 10) (by omega)
      have hn' : n ≤ 18446744073709551615 := hn
      rw [e, if_pos (by omega), if_neg (by omega), if_neg (by unfold M64; omega)]
      have e2 : n / 10 * 10 + (48 + n % 10 - 48) = n := by omega
      rw [e2]; rfl
theorem parse_zeros : ∀ (k acc : Nat), acc ≤ M64 → M64 < acc * 10 ^ k → Lib.parseUintM M64 acc (List.replicate k 48) = .range
  | 0, acc, h, h2 => by rw [Nat.pow_zero, Nat.mul_one] at h2; omega
  | k + 1, acc, h, h2 => by
    rw [List.replicate_succ, Lib.parseUintM, if_pos (by decide)]
    by_cases h3 : 1844674407370955162 ≤ acc
    · rw [if_pos h3]
    · rw [if_neg h3]
      have e : acc * 10 + ((48 : UInt8).toNat - 48) = acc * 10 := by have : (48 : UInt8).toNat = 48 := rfl; omega
      rw [e]
      by_cases h4 : M64 < acc * 10
      · rw [if_pos h4]
      · rw [if_neg h4]
        exact parse_zeros k (acc * 10) (by omega) (by rw [Nat.pow_succ, Nat.mul_comm (10 ^ k), ← Nat.mul_assoc] at h2; exact h2)

/-! ### The text of a token -/
def textV (v : Nat × List UInt8 × Nat) : List UInt8 := if v.1 = 2 then Lib.decDigits v.2.2 else if v.1 = 3 then 117 :: Lib.decDigits v.2.2 else v.2.1
def textOf (t : Tok) : List UInt8 := textV (t.kind, t.text, t.num)
theorem textOf_mk (v : Nat × List UInt8 × Nat) (o : Nat) : textOf (mkTok v o) = textV v := rfl
theorem read_text {x : List UInt8} {v : Nat × List UInt8 × Nat} (hx : x ≠ []) (h : readT x = (v, 0)) : textV v = x ∧ v.2.2 ≤ M64 ∧ v.1 ≤ 4 := by
  match x, hx, h with
  | b :: l, _, h =>
    rw [readT] at h
    by_cases h1 : isLet b = true
    · rw [if_pos h1] at h
      by_cases h2 : widthOf (b :: l) ≠ 0
      · rw [if_pos h2] at h
        simp only [Prod.mk.injEq, and_true] at h
        obtain ⟨w1, w2, w3⟩ := width_is rfl h2
        rw [← h]
        exact ⟨by rw [textV, if_neg (by simp), if_pos rfl]; exact w3.symm, by unfold M64; simp only; omega, by simp⟩
      · rw [if_neg h2] at h
        split at h
        · simp at h
        · simp only [Prod.mk.injEq, and_true] at h
          rw [← h]
          exact ⟨rfl, by simp, by simp⟩
    · rw [if_neg h1] at h
      by_cases h2 : isDig b = true
      · rw [if_pos h2] at h
        split at h
        · simp at h
        · rename_i hz
          cases hp : Lib.parseUintB 64 (b :: l) with
          | ok u =>
            rw [hp] at h
            simp only [Prod.mk.injEq, and_true] at h
            obtain ⟨p1, p2⟩ := parse_text hp (fun c r e hr hc => hz ⟨by cases e; exact hr, by cases e; exact hc⟩)
            rw [← h]
            exact ⟨by rw [textV, if_pos rfl]; exact p1, p2, by simp⟩
          | range => rw [hp] at h; simp at h
          | _ => rw [hp] at h; simp at h
      · rw [if_neg h2] at h
        simp only [Prod.mk.injEq, and_true] at h
        rw [← h]
        exact ⟨rfl, by simp, by simp⟩

/-! ### Texts and gaps cover a source -/
def Cov (s : List UInt8) : Nat → List Tok → Prop
  | at_, [] => at_ + gapLen (s.drop at_) = s.length
  | at_, t :: r => textOf t ≠ [] ∧ at_ + gapLen (s.drop at_) = t.off ∧ t.off + (textOf t).length ≤ s.length ∧ (s.drop t.off).take (textOf t).length = textOf t ∧ t.num ≤ M64 ∧ Cov s (t.off + (textOf t).length) r
theorem cov_of {l : List UInt8} {o : Nat} {ts : List Tok} {m : List UInt8} {o' : Nat} (h : Lp l o ts m o') : m = [] → ∀ (s pre : List UInt8) (p : Nat), s = pre ++ l → o = pre.length → p + gapLen (s.drop p) = o → Cov s p ts := by
  induction h with
  | stop m o =>
    intro hm s pre p e ho hp
    subst hm
    rw [Cov, hp, e, ho]; simp
  | cons x g r v o ts m o' h1 h2 h3 h4 h5 ih =>
    intro hm s pre p e ho hp
    obtain ⟨t1, t2, _⟩ := read_text h2 h3
    have ed : s.drop o = x ++ (g ++ r) := by rw [e, ho, List.drop_left]
    have ed2 : s.drop (o + x.length) = g ++ r := by rw [← List.drop_drop, ed, List.drop_left]
    have el : s.length = o + x.length + g.length + r.length := by rw [e, ho]; simp; omega
    rw [Cov, textOf_mk, t1]
    refine ⟨h2, hp, by show o + x.length ≤ _; omega, ?_, t2, ?_⟩
    · show (s.drop o).take x.length = x
      rw [ed, List.take_left]
    · exact ih hm s (pre ++ (x ++ g)) (o + x.length) (by rw [e]; simp) (by simp; omega) (by rw [ed2, h4])
theorem LpS.cov {s : List UInt8} {ts : List Tok} {a : Nat} (h : LpS s ts [] a) : Cov s 0 ts := by
  obtain ⟨g, l, e, hg, h⟩ := h
  exact cov_of h rfl s g 0 e rfl (by rw [List.drop_zero, Nat.zero_add]; exact hg)

/-! ### Written tokens -/
def wr : List Tok → List UInt8
  | [] => []
  | t :: r => textOf t ++ (32 :: wr r)
def LikeL (ts us : List Tok) : Prop := us.length = ts.length ∧ ∀ (i : Nat) (h : i < ts.length) (h' : i < us.length), us[i].kind = ts[i].kind ∧ us[i].text = ts[i].text ∧ us[i].num = ts[i].num
theorem LikeL.cons {ts us : List Tok} (h : LikeL ts us) (v : Nat × List UInt8 × Nat) (o o2 : Nat) : LikeL (mkTok v o :: ts) (mkTok v o2 :: us) := by
  refine ⟨by simp [h.1], fun i hi hi' => ?_⟩
  match i with
  | 0 => exact ⟨rfl, rfl, rfl⟩
  | i + 1 => exact h.2 i (by simpa using hi) (by simpa using hi')
theorem wr_gap {l : List UInt8} {o : Nat} {ts : List Tok} {m : List UInt8} {o' : Nat} (h : Lp l o ts m o') : gapC false (wr ts) = 0 := by
  cases h with
  | stop => simp [wr, gapC]
  | cons x g r v o ts m o' h1 h2 h3 h4 h5 =>
    rw [wr, textOf_mk, (read_text h2 h3).1]
    exact tok_gap (by rw [tok_swap h1 h2 (Or.inr (Or.inr ⟨32, rfl, by decide⟩))]; simpa using h2)
theorem Lp.write {l : List UInt8} {o : Nat} {ts : List Tok} {m : List UInt8} {o' : Nat} (h : Lp l o ts m o') : ∀ o2, ∃ us, Lp (wr ts) o2 us [] (o2 + (wr ts).length) ∧ LikeL ts us := by
  induction h with
  | stop => intro o2; exact ⟨[], Lp.stop _ _, rfl, fun i hi => absurd hi (by simp)⟩
  | cons x g r v o ts m o' h1 h2 h3 h4 h5 ih =>
    intro o2
    obtain ⟨us, i1, i2⟩ := ih (o2 + x.length + 1)
    refine ⟨mkTok v o2 :: us, ?_, i2.cons v o o2⟩
    rw [wr, textOf_mk, (read_text h2 h3).1]
    have e : o2 + (x ++ 32 :: wr ts).length = o2 + x.length + 1 + (wr ts).length := by simp; omega
    rw [e]
    refine Lp.cons x [32] (wr ts) v o2 us [] _ (tok_swap h1 h2 (Or.inr (Or.inr ⟨32, rfl, by decide⟩))) h2 h3 ?_ i1
    show gapC false (32 :: wr ts) = 1
    rw [gapC_false, if_neg (by decide), if_pos (by decide), wr_gap h5]
theorem LpS.write {s : List UInt8} {ts : List Tok} {a : Nat} (h : LpS s ts [] a) : ∃ us, LpS (wr ts) us [] (wr ts).length ∧ LikeL ts us := by
  obtain ⟨g, l, e, hg, h⟩ := h
  obtain ⟨us, i1, i2⟩ := h.write 0
  rw [Nat.zero_add] at i1
  exact ⟨us, ⟨[], wr ts, rfl, wr_gap h, i1⟩, i2⟩
end Go.Proofs.YtgleakjalhkkhaaGreatDoor

/- Tokens that can be read. -/
namespace Go.Proofs.YtgleakjalhkkhaaGreatDoor
open Go.RowKit

/-- Tokens that can be read from an address on. -/
def TRd (w : World) (A : Option Addr) (ts : List Tok) : Prop := ∀ (i : Nat) (h : i < ts.length), ∃ g o : Nat, A = some ⟨g, o, none⟩ ∧
  w.cell? ⟨g, o + i * 4, none⟩ = some (.int .i64 ts[i].kind) ∧ w.cell? ⟨g, o + i * 4 + 1, none⟩ = some (.string ⟨ts[i].text.toArray⟩) ∧
  w.cell? ⟨g, o + i * 4 + 2, none⟩ = some (.int .u64 ts[i].num) ∧ w.cell? ⟨g, o + i * 4 + 3, none⟩ = some (.int .i64 ts[i].off)
theorem TRd.later {w w' : World} {A : Option Addr} {ts : List Tok} (hb : Below w.heap.size w w') (h : TRd w A ts) : TRd w' A ts := fun i hi => by
  obtain ⟨g, o, h1, h2, h3, h4, h5⟩ := h i hi
  exact ⟨g, o, h1, cell_later hb h2, cell_later hb h3, cell_later hb h4, cell_later hb h5⟩
theorem Toks.read {w : World} {base : Nat} {v : Value} {ts : List Tok} (h : Toks w base v ts) : ∃ A c, v = .slice A ts.length c ∧ ts.length ≤ c ∧ c ≤ maxLen ∧ TRd w A ts := by
  obtain ⟨hlen, h2⟩ := h
  have hl := toksV_length ts
  rcases h2 with ⟨rfl, h2⟩ | ⟨g, cap, cur, rfl, hb, hg, hc, hm, hs, ht⟩
  · exact ⟨none, 0, by rw [h2], by omega, by unfold maxLen; omega, fun i hi => absurd hi (by omega)⟩
  · refine ⟨_, _, rfl, hc, hm, fun i hi => ?_⟩
    have key : ∀ j, j < 4 → w.cell? ⟨g, 0 + i * 4 + j, none⟩ = (tokVals ts[i])[j]? := fun j hj => by
      have hlt : i * 4 + j < ts.length * 4 := by omega
      rw [← toksV_at ts i hi j hj, ← ht, List.getElem?_take, if_pos hlt]
      unfold World.cell?
      rw [hg]
      simp
    exact ⟨g, 0, rfl, key 0 (by omega), key 1 (by omega), key 2 (by omega), key 3 (by omega)⟩
theorem TRd.take {w : World} {A : Option Addr} {ts : List Tok} (h : TRd w A ts) (k : Nat) : TRd w A (ts.take k) := fun i hi => by
  have hi2 : i < ts.length := by rw [List.length_take] at hi; omega
  have := h i hi2
  simpa using this
theorem TRd.drop {w : World} {A : Option Addr} {ts : List Tok} (h : TRd w A ts) (k : Nat) : TRd w (A.map (·.add (k * 4))) (ts.drop k) := fun i hi => by
  have hi2 : k + i < ts.length := by rw [List.length_drop] at hi; omega
  obtain ⟨g, o, rfl, h2, h3, h4, h5⟩ := h (k + i) hi2
  refine ⟨g, o + k * 4, by simp [Addr.add], ?_⟩
  have e : o + k * 4 + i * 4 = o + (k + i) * 4 := by omega
  rw [e]
  simpa using ⟨h2, h3, h4, h5⟩

theorem drop_cons (s : ByteArray) (k : Nat) (h : k < s.size) : s.data.toList.drop k = s[k] :: s.data.toList.drop (k + 1) := by
  rw [List.drop_eq_getElem_cons (by simpa using h)]; rfl
theorem drop_end (s : ByteArray) (k : Nat) (h : s.size ≤ k) : s.data.toList.drop k = [] := List.drop_eq_nil_of_le (by simpa using h)
theorem byte_eq (b : UInt8) (n : Nat) : ((b.toNat : Int) == (n : Int)) = (b.toNat == n) := by
  rw [Bool.eq_iff_iff]; simp; omega
end Go.Proofs.YtgleakjalhkkhaaGreatDoor

/- Two readers side by side: what holds of each step holds of the whole. -/
namespace Go.Proofs.YtgleakjalhkkhaaGreatDoor
open Go

mutual
def bareT : T → T
  | .mk k n p x y _ ks => .mk k n p x y 0 (bareL ks)
def bareL : List T → List T
  | [] => []
  | t :: r => bareT t :: bareL r
end
def TEq (a b : T) : Prop := bareT a = bareT b
def LEq (a b : List T) : Prop := bareL a = bareL b
def KEq (a b : Tok) : Prop := a.kind = b.kind ∧ a.text = b.text ∧ a.num = b.num
theorem bareL_app : ∀ a b : List T, bareL (a ++ b) = bareL a ++ bareL b
  | [], _ => rfl
  | t :: r, b => by simp [bareL, bareL_app r b]
theorem LEq.snoc {l l' : List T} {t t' : T} (h : LEq l l') (k : TEq t t') : LEq (l ++ [t]) (l' ++ [t']) := by
  unfold LEq TEq at *
  rw [bareL_app, bareL_app, h]
  simp only [bareL]
  rw [k]
theorem LEq.nil : LEq [] [] := rfl
theorem LEq.one {t t' : T} (k : TEq t t') : LEq [t] [t'] := LEq.nil.snoc k
theorem LEq.two {t t' u u' : T} (k : TEq t t') (h : TEq u u') : LEq [t, u] [t', u'] := (LEq.one k).snoc h
theorem LEq.three {t t' u u' v v' : T} (k : TEq t t') (h : TEq u u') (g : TEq v v') : LEq [t, u, v] [t', u', v'] := (LEq.two k h).snoc g
theorem LEq.isNil {l l' : List T} (h : LEq l l') : l = [] ↔ l' = [] := by
  unfold LEq at h
  cases l <;> cases l' <;> simp_all [bareL]
theorem teq_mk {k : Nat} {n p : Str} {x y o o' : Nat} {ks ks' : List T} (h : LEq ks ks') : TEq (.mk k n p x y o ks) (.mk k n p x y o' ks') := by
  unfold TEq; simp only [bareT]; rw [show bareL ks = bareL ks' from h]
theorem TEq.kind {a b : T} (h : TEq a b) : a.kind = b.kind := by
  cases a; cases b
  unfold TEq at h
  simp only [bareT, T.mk.injEq] at h
  exact h.1

/-- A relation that everything has to itself. -/
class Rf {α : Type} (V : α → α → Prop) : Prop where
  rf : ∀ a, V a a
instance : Rf TEq := ⟨fun _ => rfl⟩
instance : Rf LEq := ⟨fun _ => rfl⟩
instance : Rf KEq := ⟨fun _ => ⟨rfl, rfl, rfl⟩⟩
instance {α : Type} : Rf (Eq (α := α)) := ⟨fun _ => rfl⟩
def orFail {α : Type} (ts : List PTok) : Option (PM α) → PM α
  | none => fail ts 10
  | some m => m
def orDeep {α β : Type} (ts : List PTok) : Option (PM β) → PM α
  | none => fail ts 10
  | some _ => fail ts 11
section
variable (ts ts' : List PTok)
/-- A relation of readers over the same words. -/
structure Clo (Φ : ∀ {α : Type}, (α → α → Prop) → PM α → PM α → Prop) : Prop where
  ret : ∀ {α : Type} {V : α → α → Prop} {a a' : α}, V a a' → Φ V (ret a) (ret a')
  bnd : ∀ {α β : Type} {V : α → α → Prop} {W : β → β → Prop} {m m' : PM α} {f f' : α → PM β} [Rf V], Φ V m m' → (∀ a a', V a a' → Φ W (f a) (f' a')) → Φ W (bnd m f) (bnd m' f')
  take : ∀ w, w ≠ wEnd → Φ KEq (take ts w) (take ts' w)
  fail : ∀ {α : Type} {V : α → α → Prop}, Φ V (fail ts 10) (fail ts' 10)
  sel : ∀ {α : Type} {V : α → α → Prop} (F F' : Str → PM α), (∀ w, Φ V (F w) (F' w) ∨ (w ≠ wEnd ∧ F w = Proofs.YtgleakjalhkkhaaGreatDoor.fail ts 11 ∧ F' w = Proofs.YtgleakjalhkkhaaGreatDoor.fail ts' 11)) → Φ V (fun s => F (wd ts s.nx) s) (fun s => F' (wd ts' s.nx) s)
  off : ∀ {α : Type} {V : α → α → Prop} (F F' : Nat → PM α), (∀ k k', Φ V (F k) (F' k')) → Φ V (fun s => F (tk ts s.nx).off s) (fun s => F' (tk ts' s.nx).off s)
  typed : ∀ k l l', LEq l l' → (Φ TEq (typedName ts k) (typedName ts' k)) → Φ LEq (typedMore ts k ts.length l) (typedMore ts' k ts'.length l')
  args : ∀ (e e' : PM T), Mv 1 e → Mv 1 e' → Φ TEq e e' → Φ LEq (argsMore ts e ts.length []) (argsMore ts' e' ts'.length [])
  stmts : ∀ (m m' : PM T), Mv 1 m → Mv 1 m' → Φ TEq m m' → Φ LEq (stmts ts m (2 * ts.length + 2) []) (stmts ts' m' (2 * ts'.length + 2) [])
variable {ts ts'} {Φ : ∀ {α : Type}, (α → α → Prop) → PM α → PM α → Prop} (C : Clo ts ts' Φ)
include C
theorem Clo.ite {α : Type} {V : α → α → Prop} {m m' n n' : PM α} (x : Str) (h : Φ V m m') (k : Φ V n n') : Φ V (fun s => if wd ts s.nx = x then m s else n s) (fun s => if wd ts' s.nx = x then m' s else n' s) := by
  have := C.sel (V := V) (fun w => if w = x then m else n) (fun w => if w = x then m' else n') (fun w => .inl (by
    by_cases e : w = x
    · simp only [if_pos e]; exact h
    · simp only [if_neg e]; exact k))
  have e1 : (fun s => (if wd ts s.nx = x then m else n) s) = (fun s => if wd ts s.nx = x then m s else n s) := by funext s; split <;> rfl
  have e2 : (fun s => (if wd ts' s.nx = x then m' else n') s) = (fun s => if wd ts' s.nx = x then m' s else n' s) := by funext s; split <;> rfl
  rw [e1, e2] at this
  exact this
/-- The method is chosen by the word. -/
theorem Clo.opt {α : Type} {V : α → α → Prop} (F F' : Str → Option (PM α)) (h : ∀ w, (F w = none ∧ F' w = none) ∨ ∃ m m', F w = some m ∧ F' w = some m' ∧ Φ V m m') :
    Φ V (fun s => orFail ts (F (wd ts s.nx)) s) (fun s => orFail ts' (F' (wd ts' s.nx)) s) :=
  C.sel (V := V) (fun w => orFail ts (F w)) (fun w => orFail ts' (F' w)) (fun w => .inl (by
    rcases h w with ⟨h1, h2⟩ | ⟨m, m', h1, h2, h3⟩
    · simp only [h1, h2, orFail]; exact C.fail
    · simp only [h1, h2, orFail]; exact h3))
theorem c_take (w : Str) (h : w ≠ wEnd) {β : Type} {W : β → β → Prop} {f f' : Tok → PM β} (k : ∀ a a', KEq a a' → Φ W (f a) (f' a')) : Φ W (bnd (take ts w) f) (bnd (take ts' w) f') := C.bnd (C.take w h) k
theorem c_name : Φ Eq (name ts) (name ts') := C.bnd (C.take wName (by decide)) fun _ _ h => C.ret h.2.1
theorem c_width : Φ Eq (width ts) (width ts') := C.bnd (C.take wType (by decide)) fun _ _ h => C.ret h.2.2
theorem c_begin (k : Nat) (w : Str) (h : w ≠ wEnd) : Φ TEq (begin_ ts k w) (begin_ ts' k w) := C.bnd (C.take w h) fun _ _ _ => C.ret (teq_mk LEq.nil)
theorem c_typedName (k : Nat) : Φ TEq (typedName ts k) (typedName ts' k) := C.bnd (C.take wName (by decide)) fun a a' h => C.bnd (C.take pColon (by decide)) fun _ _ _ => C.bnd (c_width C) fun x x' e => C.ret (by rw [h.2.1, e]; exact teq_mk LEq.nil)
theorem c_typedNames (k : Nat) : Φ LEq (typedNames ts k) (typedNames ts' k) := C.bnd (c_typedName C k) fun _ _ h => C.typed k _ _ (LEq.one h) (c_typedName C k)
variable {e e' b b' : PM T} (me : Mv 1 e) (me' : Mv 1 e') (he : Φ TEq e e') (hb : Φ TEq b b')
theorem c_part : Φ Eq (partOf ts) (partOf ts') := C.bnd (C.take pDot (by decide)) fun _ _ _ => c_name C
theorem c_readNumber : Φ TEq (readNumber ts) (readNumber ts') := C.bnd (C.take wNumber (by decide)) fun a a' h => C.bnd (C.take pColon (by decide)) fun _ _ _ => C.bnd (c_width C) fun x x' k => C.ret (by rw [h.2.2, k]; exact teq_mk LEq.nil)
theorem c_readLen : Φ TEq (readLen ts) (readLen ts') := c_begin C _ _ (by decide)
omit C in
theorem sgn_end {n : Nat} (h : signOf wEnd 1 signWords = some n) : False := by revert h; simp [signOf, signWords, wEnd]
omit C in
theorem sign_form (ts : List PTok) : sign ts = fun s => orFail ts ((signOf (wd ts s.nx) 1 signWords).map fun n => bnd (take ts (wd ts s.nx)) fun _ => ret n) s := by
  funext s; unfold sign
  cases signOf (wd ts s.nx) 1 signWords <;> rfl
theorem c_sign : Φ Eq (sign ts) (sign ts') := by
  rw [sign_form, sign_form]
  refine C.opt (V := Eq) (fun w => (signOf w 1 signWords).map fun n => bnd (take ts w) fun _ => ret n) (fun w => (signOf w 1 signWords).map fun n => bnd (take ts' w) fun _ => ret n) (fun w => ?_)
  cases h : signOf w 1 signWords with
  | none => exact .inl ⟨rfl, rfl⟩
  | some n => exact .inr ⟨_, _, rfl, rfl, C.bnd (C.take w (by intro e; rw [e] at h; exact sgn_end h)) fun _ _ _ => C.ret rfl⟩
include he
theorem c_inBrackets : Φ TEq (inBrackets ts e) (inBrackets ts' e') := C.bnd (C.take pLK (by decide)) fun _ _ _ => C.bnd he fun _ _ h => C.bnd (C.take pRK (by decide)) fun _ _ _ => C.ret h
theorem c_readIn : Φ TEq (readIn ts e) (readIn ts' e') := C.bnd (c_begin C _ _ (by decide)) fun _ _ _ => C.bnd (c_inBrackets C he) fun _ _ h => C.ret (teq_mk (LEq.one h))
theorem c_readBin : Φ TEq (readBin ts e) (readBin ts' e') := C.bnd (c_begin C _ _ (by decide)) fun _ _ _ => C.bnd he fun _ _ h => C.bnd (c_sign C) fun _ _ k => C.bnd he fun _ _ g => C.bnd (C.take pRP (by decide)) fun _ _ _ => C.ret (by rw [k]; exact teq_mk (LEq.two h g))
theorem c_readNot : Φ TEq (readNot ts e) (readNot ts' e') := C.bnd (c_begin C _ _ (by decide)) fun _ _ _ => C.bnd he fun _ _ h => C.ret (teq_mk (LEq.one h))
theorem c_cast (k o o' : Nat) : Φ TEq (cast ts e k o) (cast ts' e' k o') := C.bnd (c_width C) fun _ _ x => C.bnd (C.take pLP (by decide)) fun _ _ _ => C.bnd he fun _ _ h => C.bnd (C.take pRP (by decide)) fun _ _ _ => C.ret (by rw [x]; exact teq_mk (LEq.one h))
theorem c_readCast : Φ TEq (readCast ts e) (readCast ts' e') := C.off (fun k => cast ts e 29 k) (fun k => cast ts' e' 29 k) fun _ _ => c_cast C he 29 _ _
theorem c_readSext : Φ TEq (readSext ts e) (readSext ts' e') := C.bnd (c_begin C _ _ (by decide)) fun _ _ _ => c_cast C he _ _ _
include me me'
theorem c_arguments : Φ LEq (arguments ts e) (arguments ts' e') := C.bnd (C.take pLP (by decide)) fun _ _ _ => C.bnd (C.args e e' me me' he) fun _ _ h => C.bnd (C.take pRP (by decide)) fun _ _ _ => C.ret h
theorem c_varRest (t t' : Tok) (ht : KEq t t') : Φ TEq (varRest ts e t) (varRest ts' e' t') := by
  unfold varRest
  rw [ht.2.1]
  exact C.ite pLK (C.bnd (c_inBrackets C he) fun _ _ h => C.ret (teq_mk (LEq.one h))) (C.ite pDot (C.bnd (c_part C) fun _ _ h => C.ret (by rw [h]; exact teq_mk LEq.nil)) (C.ite pLP (C.bnd (c_arguments C me me' he) fun _ _ h => C.ret (teq_mk h)) (C.ret (teq_mk LEq.nil))))
theorem c_readVariable : Φ TEq (readVariable ts e) (readVariable ts' e') := C.bnd (C.take wName (by decide)) fun a a' h => c_varRest C me me' he a a' h
theorem c_exprOf (w : Str) : (exprOf ts e w = none ∧ exprOf ts' e' w = none) ∨ ∃ m m', exprOf ts e w = some m ∧ exprOf ts' e' w = some m' ∧ Φ TEq m m' := by
  unfold exprOf
  repeat' split
  · exact .inr ⟨_, _, rfl, rfl, c_readIn C he⟩
  · exact .inr ⟨_, _, rfl, rfl, c_readLen C⟩
  · exact .inr ⟨_, _, rfl, rfl, c_readBin C he⟩
  · exact .inr ⟨_, _, rfl, rfl, c_readNot C he⟩
  · exact .inr ⟨_, _, rfl, rfl, c_readSext C he⟩
  · exact .inr ⟨_, _, rfl, rfl, c_readNumber C⟩
  · exact .inr ⟨_, _, rfl, rfl, c_readVariable C me me' he⟩
  · exact .inr ⟨_, _, rfl, rfl, c_readCast C he⟩
  · exact .inl ⟨rfl, rfl⟩
omit me me' he
omit C in
theorem expr0_form (ts : List PTok) : expression ts 0 = fun s => orDeep ts (exprOf ts (Proofs.YtgleakjalhkkhaaGreatDoor.fail ts 11) (wd ts s.nx)) s := by
  funext s; unfold expression
  cases exprOf ts (Proofs.YtgleakjalhkkhaaGreatDoor.fail ts 11) (wd ts s.nx) <;> rfl
omit C in
theorem expr1_form (ts : List PTok) (f : Nat) : expression ts (f + 1) = fun s => orFail ts (exprOf ts (expression ts f) (wd ts s.nx)) s := by
  rw [expression.eq_2]
  funext s
  cases exprOf ts (expression ts f) (wd ts s.nx) <;> rfl
omit C in
theorem stmt_form (ts : List PTok) (e b : PM T) : statement ts e b = fun s => orFail ts (stmtOf ts e b (wd ts s.nx)) s := by
  funext s; unfold statement
  cases stmtOf ts e b (wd ts s.nx) <;> rfl
omit C in
theorem exprOf_none (ts ts' : List PTok) (e e' : PM T) (w : Str) : exprOf ts e w = none ↔ exprOf ts' e' w = none := by
  unfold exprOf
  repeat' split
  all_goals simp
theorem c_expression : ∀ f, Φ TEq (expression ts f) (expression ts' f)
  | 0 => by
    rw [expr0_form, expr0_form]
    refine C.sel (V := TEq) (fun w => orDeep ts (exprOf ts (Proofs.YtgleakjalhkkhaaGreatDoor.fail ts 11) w)) (fun w => orDeep ts' (exprOf ts' (Proofs.YtgleakjalhkkhaaGreatDoor.fail ts' 11) w)) (fun w => ?_)
    have hn : exprOf ts (Proofs.YtgleakjalhkkhaaGreatDoor.fail ts 11) wEnd = none := rfl
    have key := exprOf_none ts ts' (Proofs.YtgleakjalhkkhaaGreatDoor.fail ts 11) (Proofs.YtgleakjalhkkhaaGreatDoor.fail ts' 11) w
    cases h : exprOf ts (Proofs.YtgleakjalhkkhaaGreatDoor.fail ts 11) w with
    | none => left; rw [key.1 h]; exact C.fail
    | some m =>
      cases h2 : exprOf ts' (Proofs.YtgleakjalhkkhaaGreatDoor.fail ts' 11) w with
      | none => rw [key.2 h2] at h; cases h
      | some _ => exact .inr ⟨(by rintro rfl; rw [hn] at h; cases h), rfl, rfl⟩
  | f + 1 => by
    have ih := c_expression f
    rw [expr1_form, expr1_form]
    exact C.opt (V := TEq) (exprOf ts (expression ts f)) (exprOf ts' (expression ts' f)) (c_exprOf C (mv_expression ts f) (mv_expression ts' f) ih)
include he
theorem c_value {g g' : T → T} (hg : ∀ a a', TEq a a' → TEq (g a) (g' a')) : Φ TEq (value ts e g) (value ts' e' g') := C.bnd he fun _ _ h => C.bnd (C.take pSemi (by decide)) fun _ _ _ => C.ret (hg _ _ h)
theorem c_readNamed (k : Nat) (w : Str) (h : w ≠ wEnd) : Φ TEq (readNamed ts e k w) (readNamed ts' e' k w) := C.bnd (c_begin C _ _ h) fun _ _ _ => C.bnd (c_name C) fun x x' hx => C.bnd (C.take pEq (by decide)) fun _ _ _ => c_value C he fun a a' h => by rw [hx]; exact teq_mk (LEq.one h)
theorem c_readReturn : Φ TEq (readReturn ts e) (readReturn ts' e') := C.bnd (c_begin C _ _ (by decide)) fun _ _ _ => c_value C he fun a a' h => teq_mk (LEq.one h)
theorem c_asgRest (t t' : Tok) (ht : KEq t t') : Φ TEq (asgRest ts e t) (asgRest ts' e' t') := by
  unfold asgRest
  rw [ht.2.1]
  exact C.ite pLK (C.bnd (c_inBrackets C he) fun _ _ k => C.bnd (C.take pEq (by decide)) fun _ _ _ => c_value C he fun a a' h => teq_mk (LEq.two k h)) (C.ite pDot (C.bnd (c_part C) fun _ _ q => C.bnd (C.take pEq (by decide)) fun _ _ _ => c_value C he fun a a' h => by rw [q]; exact teq_mk (LEq.one h)) (C.bnd (C.take pEq (by decide)) fun _ _ _ => c_value C he fun a a' h => teq_mk (LEq.one h)))
theorem c_readAssignment : Φ TEq (readAssignment ts e) (readAssignment ts' e') := C.bnd (C.take wName (by decide)) fun a a' h => c_asgRest C he a a' h
theorem c_readNew : Φ TEq (readNew ts e) (readNew ts' e') := C.bnd (c_begin C _ _ (by decide)) fun _ _ _ => C.bnd (c_name C) fun _ _ x => C.bnd (C.take pColon (by decide)) fun _ _ _ => C.bnd (c_width C) fun _ _ y => C.bnd (c_inBrackets C he) fun _ _ k => C.bnd (C.take pSemi (by decide)) fun _ _ _ => C.ret (by rw [x, y]; exact teq_mk (LEq.one k))
omit he
theorem c_readPair (k : Nat) (w z : Str) (h : w ≠ wEnd) (hz : z ≠ wEnd) : Φ TEq (readPair ts k w z) (readPair ts' k w z) := C.bnd (c_begin C _ _ h) fun _ _ _ => C.bnd (c_name C) fun _ _ x => C.bnd (C.take z hz) fun _ _ _ => C.bnd (c_name C) fun _ _ y => C.bnd (C.take pSemi (by decide)) fun _ _ _ => C.ret (by rw [x, y]; exact teq_mk LEq.nil)
theorem c_readFree : Φ TEq (readFree ts) (readFree ts') := C.bnd (c_begin C _ _ (by decide)) fun _ _ _ => C.bnd (c_name C) fun _ _ x => C.bnd (C.take pSemi (by decide)) fun _ _ _ => C.ret (by rw [x]; exact teq_mk LEq.nil)
theorem c_readAccept : Φ TEq (readAccept ts) (readAccept ts') := C.bnd (c_begin C _ _ (by decide)) fun _ _ h => C.bnd (C.take pSemi (by decide)) fun _ _ _ => C.ret h
theorem c_readReject : Φ TEq (readReject ts) (readReject ts') := C.bnd (c_begin C _ _ (by decide)) fun _ _ _ => C.bnd (C.take wNumber (by decide)) fun _ _ x => C.bnd (C.take pSemi (by decide)) fun _ _ _ => C.ret (by rw [x.2.2]; exact teq_mk LEq.nil)
include hb
theorem c_ifRest (o o' : Nat) {x x' k k' : T} (hx : TEq x x') (hk : TEq k k') : Φ TEq (ifRest ts b o x k) (ifRest ts' b' o' x' k') := C.ite kElse (C.bnd (C.take kElse (by decide)) fun _ _ _ => C.bnd hb fun _ _ h => C.ret (teq_mk (LEq.three hx hk h))) (C.ret (teq_mk (LEq.two hx hk)))
include he
theorem c_readIf : Φ TEq (readIf ts e b) (readIf ts' e' b') := C.bnd (c_begin C _ _ (by decide)) fun _ _ _ => C.bnd he fun _ _ x => C.bnd hb fun _ _ k => c_ifRest C hb _ _ x k
theorem c_readWhile : Φ TEq (readWhile ts e b) (readWhile ts' e' b') := C.bnd (c_begin C _ _ (by decide)) fun _ _ _ => C.bnd he fun _ _ x => C.bnd hb fun _ _ k => C.ret (teq_mk (LEq.two x k))
theorem c_stmtOf (w : Str) : (stmtOf ts e b w = none ∧ stmtOf ts' e' b' w = none) ∨ ∃ m m', stmtOf ts e b w = some m ∧ stmtOf ts' e' b' w = some m' ∧ Φ TEq m m' := by
  unfold stmtOf
  by_cases hkLet : w = kLet
  · rw [if_pos hkLet, if_pos hkLet]
    exact .inr ⟨_, _, rfl, rfl, c_readNamed C he _ _ (by decide)⟩
  rw [if_neg hkLet, if_neg hkLet]
  by_cases hkNew : w = kNew
  · rw [if_pos hkNew, if_pos hkNew]
    exact .inr ⟨_, _, rfl, rfl, c_readNew C he⟩
  rw [if_neg hkNew, if_neg hkNew]
  by_cases hkMake : w = kMake
  · rw [if_pos hkMake, if_pos hkMake]
    exact .inr ⟨_, _, rfl, rfl, c_readPair C _ _ _ (by decide) (by decide)⟩
  rw [if_neg hkMake, if_neg hkMake]
  by_cases hkFree : w = kFree
  · rw [if_pos hkFree, if_pos hkFree]
    exact .inr ⟨_, _, rfl, rfl, c_readFree C⟩
  rw [if_neg hkFree, if_neg hkFree]
  by_cases hkSame : w = kSame
  · rw [if_pos hkSame, if_pos hkSame]
    exact .inr ⟨_, _, rfl, rfl, c_readPair C _ _ _ (by decide) (by decide)⟩
  rw [if_neg hkSame, if_neg hkSame]
  by_cases hkIf : w = kIf
  · rw [if_pos hkIf, if_pos hkIf]
    exact .inr ⟨_, _, rfl, rfl, c_readIf C he hb⟩
  rw [if_neg hkIf, if_neg hkIf]
  by_cases hkWhile : w = kWhile
  · rw [if_pos hkWhile, if_pos hkWhile]
    exact .inr ⟨_, _, rfl, rfl, c_readWhile C he hb⟩
  rw [if_neg hkWhile, if_neg hkWhile]
  by_cases hkEmit : w = kEmit
  · rw [if_pos hkEmit, if_pos hkEmit]
    exact .inr ⟨_, _, rfl, rfl, c_readNamed C he _ _ (by decide)⟩
  rw [if_neg hkEmit, if_neg hkEmit]
  by_cases hkAccept : w = kAccept
  · rw [if_pos hkAccept, if_pos hkAccept]
    exact .inr ⟨_, _, rfl, rfl, c_readAccept C⟩
  rw [if_neg hkAccept, if_neg hkAccept]
  by_cases hkReject : w = kReject
  · rw [if_pos hkReject, if_pos hkReject]
    exact .inr ⟨_, _, rfl, rfl, c_readReject C⟩
  rw [if_neg hkReject, if_neg hkReject]
  by_cases hkReturn : w = kReturn
  · rw [if_pos hkReturn, if_pos hkReturn]
    exact .inr ⟨_, _, rfl, rfl, c_readReturn C he⟩
  rw [if_neg hkReturn, if_neg hkReturn]
  by_cases hwName : w = wName
  · rw [if_pos hwName, if_pos hwName]
    exact .inr ⟨_, _, rfl, rfl, c_readAssignment C he⟩
  rw [if_neg hwName, if_neg hwName]
  exact .inl ⟨rfl, rfl⟩
theorem c_statement : Φ TEq (statement ts e b) (statement ts' e' b') := by
  rw [stmt_form, stmt_form]
  exact C.opt _ _ (c_stmtOf C he hb)
omit he hb
theorem c_readBlock {m m' : PM T} (hm : Mv 1 m) (hm' : Mv 1 m') (h : Φ TEq m m') : Φ TEq (readBlock ts m) (readBlock ts' m') := C.bnd (c_begin C _ _ (by decide)) fun _ _ _ => C.bnd (C.stmts m m' hm hm' h) fun _ _ l => C.bnd (C.take pRB (by decide)) fun _ _ _ => C.ret (teq_mk l)
theorem c_block : ∀ f, Φ TEq (block ts f) (block ts' f)
  | 0 => by
    have := C.sel (V := TEq) (fun w => if w = pLB then Proofs.YtgleakjalhkkhaaGreatDoor.fail ts 11 else Proofs.YtgleakjalhkkhaaGreatDoor.fail ts 10) (fun w => if w = pLB then Proofs.YtgleakjalhkkhaaGreatDoor.fail ts' 11 else Proofs.YtgleakjalhkkhaaGreatDoor.fail ts' 10) (fun w => by
      by_cases h : w = pLB
      · right; simp only [if_pos h, and_self, and_true]; rw [h]; decide
      · left; simp only [if_neg h]; exact C.fail)
    have e1 : ∀ ts : List PTok, (fun s : St => (if wd ts s.nx = pLB then Proofs.YtgleakjalhkkhaaGreatDoor.fail (α := T) ts 11 else Proofs.YtgleakjalhkkhaaGreatDoor.fail ts 10) s) = block ts 0 := by
      intro ts; funext s; unfold block; split <;> rfl
    rw [e1, e1] at this
    exact this
  | f + 1 => by
    rw [block.eq_2, block.eq_2]
    exact C.ite pLB (c_readBlock C (mv_statement ts (mv_expression ts f) (mv_block ts f)) (mv_statement ts' (mv_expression ts' f) (mv_block ts' f)) (c_statement C (c_expression C f) (c_block f))) C.fail
theorem c_readStruct : Φ TEq (readStruct ts) (readStruct ts') := C.bnd (c_begin C _ _ (by decide)) fun _ _ _ => C.bnd (c_name C) fun _ _ x => C.bnd (C.take pLB (by decide)) fun _ _ _ => C.bnd (c_typedNames C _) fun _ _ l => C.bnd (C.take pRB (by decide)) fun _ _ _ => C.ret (by rw [x]; exact teq_mk l)
include hb
theorem c_funcRest (o o' : Nat) (x : Str) (l l' : List T) (hl : LEq l l') : Φ TEq (funcRest ts b o x l) (funcRest ts' b' o' x l') := C.bnd (C.take pRP (by decide)) fun _ _ _ => C.bnd (c_width C) fun _ _ y => C.bnd hb fun _ _ k => C.ret (by rw [y]; exact teq_mk (hl.snoc k))
theorem c_readFunc : Φ TEq (readFunc ts b) (readFunc ts' b') := C.bnd (c_begin C _ _ (by decide)) fun _ _ _ => C.bnd (c_name C) fun _ _ x => C.bnd (C.take pLP (by decide)) fun _ _ _ => by
  rw [x]
  exact C.ite pRP (c_funcRest C hb _ _ _ _ _ LEq.nil) (C.bnd (c_typedNames C 5) fun _ _ l => c_funcRest C hb _ _ _ _ _ l)
theorem c_readParse : Φ TEq (readParse ts b) (readParse ts' b') := C.bnd (C.take kParse (by decide)) fun _ _ _ => hb
theorem c_item : Φ TEq (item ts b) (item ts' b') := C.ite kStruct (c_readStruct C) (C.ite kFunc (c_readFunc C hb) (C.ite kParse (c_readParse C hb) C.fail))
end
end Go.Proofs.YtgleakjalhkkhaaGreatDoor

/- A source that is cut behind a token: what the parser answers. -/
namespace Go.Proofs.YtgleakjalhkkhaaGreatDoor
open Go

/-- Diagnostics are never taken back; what leaves a part has reported one. -/
def Gw {α : Type} (m : PM α) : Prop := ∀ s, (∀ a s', m s = .ok a s' → s.ds <+: s'.ds) ∧ ∀ l s', m s = .out l s' → s.ds <+: s'.ds ∧ s.ds.length < s'.ds.length
theorem gw_ret {α : Type} (a : α) : Gw (ret a) := fun s => ⟨(fun b s' h => by cases h; exact List.prefix_refl _), fun l s' h => by cases h⟩
theorem gw_bnd {α β : Type} {m : PM α} {f : α → PM β} (h : Gw m) (g : ∀ a, Gw (f a)) : Gw (bnd m f) := fun s => by
  cases hm : m s with
  | ok a1 s1 =>
    rw [bnd_ok hm]
    have h1 := (h s).1 _ _ hm
    refine ⟨fun a s' e => h1.trans ((g a1 s1).1 _ _ e), fun l s' e => ?_⟩
    have h2 := (g a1 s1).2 _ _ e
    have h3 := h1.length_le
    exact ⟨h1.trans h2.1, by omega⟩
  | out l s1 =>
    rw [bnd_out hm]
    exact ⟨(fun a s' e => by cases e), fun l' s' e => by cases e; exact (h s).2 _ _ hm⟩
theorem gw_fail {α : Type} (ts : List PTok) (e : Nat) : Gw (fail (α := α) ts e) := fun s => ⟨(fun b s' h => by cases h), fun l s' h => by
  cases h
  exact ⟨List.prefix_append _ _, by simp⟩⟩
theorem gw_take (ts : List PTok) (w : Str) : Gw (take ts w) := fun s => by
  unfold take
  split
  · exact ⟨(fun a s' h => by cases h; exact List.prefix_refl _), fun l s' h => by cases h⟩
  · exact gw_fail ts 10 s
theorem gw_sel {α : Type} {ts : List PTok} {F : Str → PM α} (h : ∀ w, Gw (F w)) : Gw (fun s => F (wd ts s.nx) s) := fun s => h _ s
theorem gw_nil {α : Type} {m : PM α} (h : Gw m) {i : Nat} {a : α} {s : St} {j : Nat} (e : m ⟨i, []⟩ = .ok a s) (hj : s.ds <+: ([] : List (Nat × Nat))) (hn : s.nx = j) : m ⟨i, []⟩ = .ok a ⟨j, []⟩ := by
  have _ := h
  obtain ⟨k, ds⟩ := s
  have : ds = [] := by simpa using hj
  rw [e]; subst this; subst hn; rfl

/-- The tokens, and the same ones up to the n-th, where the end stands, at e. -/
structure CutAt (ts ts' : List PTok) (n e : Nat) : Prop where
  same : ∀ i, i < n → wd ts' i = wd ts i ∧ tk ts' i = tk ts i
  last : wd ts' n = wEnd
  off : (tk ts' n).off = e
  len : n < ts'.length
  more : n < ts.length
/-- It ends behind the last token. -/
def Stk {α : Type} (n e : Nat) (r : Res α) : Prop := (∃ a, r = .ok a ⟨n, []⟩) ∨ ∃ l, r = .out l ⟨n, [(10, e)]⟩
def StkO {α : Type} (n e : Nat) (r : Res α) : Prop := ∃ l, r = .out l ⟨n, [(10, e)]⟩
/-- From i on both read the same, or the second one comes to the end. -/
def CutI {α : Type} (n e : Nat) (V : α → α → Prop) (i : Nat) (m m' : PM α) : Prop :=
  ∀ a j, m ⟨i, []⟩ = .ok a ⟨j, []⟩ → (∃ a', V a a' ∧ j ≤ n ∧ m' ⟨i, []⟩ = .ok a' ⟨j, []⟩) ∨ Stk n e (m' ⟨i, []⟩)
def CutR (n e : Nat) {α : Type} (V : α → α → Prop) (m m' : PM α) : Prop := Gw m ∧ Stk n e (m' ⟨n, []⟩) ∧ ∀ i, i < n → CutI n e V i m m'
def SI {α : Type} (n e : Nat) (V : α → α → Prop) (i : Nat) (m m' : PM α) : Prop :=
  ∀ a j, m ⟨i, []⟩ = .ok a ⟨j, []⟩ → (∃ a', V a a' ∧ j ≤ n ∧ m' ⟨i, []⟩ = .ok a' ⟨j, []⟩) ∨ StkO n e (m' ⟨i, []⟩)
def SR (n e : Nat) {α : Type} (V : α → α → Prop) (m m' : PM α) : Prop := Gw m ∧ StkO n e (m' ⟨n, []⟩) ∧ ∀ i, i < n → SI n e V i m m'

theorem bnd_nil {α β : Type} {m : PM α} {f : α → PM β} (hm : Gw m) (hf : ∀ a, Gw (f a)) {i j : Nat} {b : β} (h : bnd m f ⟨i, []⟩ = .ok b ⟨j, []⟩) : ∃ a k, m ⟨i, []⟩ = .ok a ⟨k, []⟩ ∧ f a ⟨k, []⟩ = .ok b ⟨j, []⟩ := by
  have _ := hm
  cases h1 : m ⟨i, []⟩ with
  | ok a s1 =>
    rw [bnd_ok h1] at h
    have h2 := (hf a s1).1 _ _ h
    obtain ⟨k, ds⟩ := s1
    have : ds = [] := by simpa using h2
    subst this
    exact ⟨a, k, rfl, h⟩
  | out l s1 => rw [bnd_out h1] at h; cases h
section
variable {ts ts' : List PTok} {n e : Nat} (X : CutAt ts ts' n e)
theorem stk_bnd {α β : Type} {m' : PM α} {f' : α → PM β} {i : Nat} (h : Stk n e (m' ⟨i, []⟩)) (hf : ∀ a, Stk n e (f' a ⟨n, []⟩)) : Stk n e (bnd m' f' ⟨i, []⟩) := by
  rcases h with ⟨a, h⟩ | ⟨l, h⟩
  · rw [bnd_ok h]; exact hf a
  · rw [bnd_out h]; exact .inr ⟨l, rfl⟩
theorem cut_bndI {α β : Type} {V : α → α → Prop} {W : β → β → Prop} {m m' : PM α} {f f' : α → PM β} {i k : Nat} (hi : i < n) (hm : CutR n e V m m') (hk : Mv k m) (hg : ∀ a, Gw (f a)) (hs : ∀ a', Stk n e (f' a' ⟨n, []⟩)) (hf : ∀ a a' j, V a a' → i + k ≤ j → j < n → CutI n e W j (f a) (f' a')) : CutI n e W i (bnd m f) (bnd m' f') := by
  intro b j h
  obtain ⟨a, p, h1, h2⟩ := bnd_nil hm.1 hg h
  rcases hm.2.2 i hi a p h1 with ⟨a', hv, hp, h3⟩ | h3
  · rw [bnd_ok h3]
    rcases Nat.lt_or_ge p n with hpn | hpn
    · exact hf a a' p hv (hk.ok _ _ _ h1) hpn b j h2
    · obtain rfl : p = n := by omega
      exact .inr (hs a')
  · exact .inr (stk_bnd h3 hs)
theorem cut_bnd {α β : Type} {V : α → α → Prop} {W : β → β → Prop} {m m' : PM α} {f f' : α → PM β} [Rf V] (hm : CutR n e V m m') (hf : ∀ a a', V a a' → CutR n e W (f a) (f' a')) : CutR n e W (bnd m f) (bnd m' f') := by
  have hs : ∀ a', Stk n e (f' a' ⟨n, []⟩) := fun a' => (hf a' a' (Rf.rf a')).2.1
  have hg : ∀ a, Gw (f a) := fun a => (hf a a (Rf.rf a)).1
  refine ⟨gw_bnd hm.1 hg, stk_bnd hm.2.1 hs, fun i hi b j h => ?_⟩
  obtain ⟨a, p, h1, h2⟩ := bnd_nil hm.1 hg h
  rcases hm.2.2 i hi a p h1 with ⟨a', hv, hp, h3⟩ | h3
  · rw [bnd_ok h3]
    rcases Nat.lt_or_ge p n with hpn | hpn
    · exact (hf a a' hv).2.2 p hpn b j h2
    · obtain rfl : p = n := by omega
      exact .inr (hs a')
  · exact .inr (stk_bnd h3 hs)
include X
theorem fail_end {α : Type} : fail (α := α) ts' 10 ⟨n, []⟩ = .out 0 ⟨n, [(10, e)]⟩ := by
  unfold fail; rw [X.off]; rfl
theorem cut_take (w : Str) (hw : w ≠ wEnd) : CutR n e KEq (take ts w) (take ts' w) := by
  refine ⟨gw_take ts w, .inr ⟨0, ?_⟩, fun i hi a j h => .inl ?_⟩
  · unfold take
    rw [if_neg (by rw [X.last]; exact fun h => hw h.symm)]
    exact fail_end X
  · unfold take at h ⊢
    obtain ⟨h1, h2⟩ := X.same i hi
    split at h
    · rename_i hc
      cases h
      rw [if_pos (by rw [h1]; exact hc)]
      exact ⟨_, ⟨rfl, rfl, rfl⟩, hi, by rw [h2]⟩
    · cases h
theorem cut_fail {α : Type} {V : α → α → Prop} : CutR n e V (fail ts 10) (fail ts' 10) := ⟨gw_fail ts 10, .inr ⟨0, fail_end X⟩, fun i hi a j h => by cases h⟩
theorem cut_sel {α : Type} {V : α → α → Prop} (F F' : Str → PM α) (h : ∀ w, CutR n e V (F w) (F' w) ∨ (w ≠ wEnd ∧ F w = fail ts 11 ∧ F' w = fail ts' 11)) : CutR n e V (fun s => F (wd ts s.nx) s) (fun s => F' (wd ts' s.nx) s) := by
  refine ⟨gw_sel fun w => ?_, ?_, fun i hi a j e1 => ?_⟩
  · rcases h w with h | ⟨_, h, _⟩
    · exact h.1
    · rw [h]; exact gw_fail ts 11
  · show Stk n e (F' (wd ts' n) ⟨n, []⟩)
    rw [X.last]
    rcases h wEnd with h | ⟨h, _⟩
    · exact h.2.1
    · exact absurd rfl h
  · show _ ∨ Stk n e (F' (wd ts' i) ⟨i, []⟩)
    rw [show F' (wd ts' i) ⟨i, []⟩ = F' (wd ts i) ⟨i, []⟩ by rw [(X.same i hi).1]]
    have e2 : F (wd ts i) ⟨i, []⟩ = .ok a ⟨j, []⟩ := e1
    rcases h (wd ts i) with h | ⟨_, h, _⟩
    · simp only [(X.same i hi).1]
      exact h.2.2 i hi a j e2
    · rw [h] at e2; cases e2
omit X in
theorem cut_off {α : Type} {V : α → α → Prop} (F F' : Nat → PM α) (h : ∀ k k', CutR n e V (F k) (F' k')) : CutR n e V (fun s => F (tk ts s.nx).off s) (fun s => F' (tk ts' s.nx).off s) :=
  ⟨fun s => (h _ 0).1 s, (h 0 _).2.1, fun i hi => (h _ _).2.2 i hi⟩
theorem typed_stk (k : Nat) : ∀ g l, Stk n e (typedMore ts' k g l ⟨n, []⟩)
  | 0, l => .inl ⟨l, rfl⟩
  | g + 1, l => by
    unfold typedMore
    simp only [X.last]
    rw [if_neg (by decide)]
    exact .inl ⟨l, rfl⟩
omit X in
theorem typed_gw (ts : List PTok) (k : Nat) (h : Gw (typedName ts k)) : ∀ g l, Gw (typedMore ts k g l)
  | 0, l => gw_ret l
  | g + 1, l => fun s => by
    unfold typedMore
    by_cases hc : wd ts s.nx = pComma
    · simp only [if_pos hc]
      exact gw_bnd (gw_take ts _) (fun _ => gw_bnd h fun t => typed_gw ts k h g _) s
    · simp only [if_neg hc]
      exact gw_ret l s
theorem typed_step (k : Nat) (h : CutR n e TEq (typedName ts k) (typedName ts' k)) : ∀ g g' l l' i, LEq l l' → ts.length ≤ i + g → n < i + g' → i < n → CutI n e LEq i (typedMore ts k g l) (typedMore ts' k g' l')
  | 0, g', l, l', i, _, hg, _, hi => by have := X.more; omega
  | g + 1, 0, l, l', i, _, _, hg, hi => by omega
  | g + 1, g' + 1, l, l', i, hl, hg, hg', hi => by
    have h1 := (X.same i hi).1
    by_cases hc : wd ts i = pComma
    · have e1 : typedMore ts k (g + 1) l ⟨i, []⟩ = bnd (take ts pComma) (fun _ => bnd (typedName ts k) fun t => typedMore ts k g (l ++ [t])) ⟨i, []⟩ := by
        show (if wd ts i = pComma then _ else _) = _
        rw [if_pos hc]
      have e2 : typedMore ts' k (g' + 1) l' ⟨i, []⟩ = bnd (take ts' pComma) (fun _ => bnd (typedName ts' k) fun t => typedMore ts' k g' (l' ++ [t])) ⟨i, []⟩ := by
        show (if wd ts' i = pComma then _ else _) = _
        rw [if_pos (by rw [h1]; exact hc)]
      intro a j
      rw [e1, e2]
      have hgw := typed_gw ts k h.1
      refine cut_bndI hi (cut_take X pComma (by decide)) (mv_take ts _) (fun _ => gw_bnd h.1 fun t => hgw g _) (fun _ => stk_bnd h.2.1 fun t => typed_stk X k g' _) (fun _ _ p _ hp hpn => ?_) a j
      exact cut_bndI hpn h (mv_typedName ts k) (fun t => hgw g _) (fun t => typed_stk X k g' _) (fun t t' q ht hq hqn => typed_step k h g g' _ _ q (hl.snoc ht) (by omega) (by omega) hqn)
    · intro a j hh
      have e1 : typedMore ts k (g + 1) l ⟨i, []⟩ = .ok l ⟨i, []⟩ := by
        show (if wd ts i = pComma then _ else _) = _
        rw [if_neg hc]
      have e2 : typedMore ts' k (g' + 1) l' ⟨i, []⟩ = .ok l' ⟨i, []⟩ := by
        show (if wd ts' i = pComma then _ else _) = _
        rw [if_neg (by rw [h1]; exact hc)]
      rw [e1] at hh
      cases hh
      exact .inl ⟨l', hl, by omega, e2⟩
omit X in
theorem args_gw (ts : List PTok) (x : PM T) (h : Gw x) : ∀ g l, Gw (argsMore ts x g l)
  | 0, l => gw_ret l
  | g + 1, l => fun s => by
    unfold argsMore
    by_cases hc : wd ts s.nx = pRP
    · simp only [if_pos hc]
      exact gw_ret l s
    · simp only [if_neg hc]
      split
      · exact gw_bnd h (fun t => args_gw ts x h g _) s
      · exact gw_bnd (gw_take ts _) (fun _ => gw_bnd h fun t => args_gw ts x h g _) s
theorem args_stk (x : PM T) (h : Stk n e (x ⟨n, []⟩)) : ∀ g l, Stk n e (argsMore ts' x g l ⟨n, []⟩)
  | 0, l => .inl ⟨l, rfl⟩
  | g + 1, l => by
    unfold argsMore
    simp only [X.last]
    rw [if_neg (by decide)]
    split
    · exact stk_bnd h fun t => args_stk x h g _
    · exact stk_bnd (cut_take X pComma (by decide)).2.1 fun _ => stk_bnd h fun t => args_stk x h g _
theorem args_step (x x' : PM T) (hx : Mv 1 x) (h : CutR n e TEq x x') : ∀ g g' l l' i, LEq l l' → ts.length ≤ i + g → n < i + g' → i < n → CutI n e LEq i (argsMore ts x g l) (argsMore ts' x' g' l')
  | 0, g', l, l', i, _, hg, _, hi => by have := X.more; omega
  | g + 1, 0, l, l', i, _, _, hg, hi => by omega
  | g + 1, g' + 1, l, l', i, hl, hg, hg', hi => by
    have h1 := (X.same i hi).1
    have hgw := args_gw ts x h.1
    by_cases hc : wd ts i = pRP
    · intro a j hh
      have e1 : argsMore ts x (g + 1) l ⟨i, []⟩ = .ok l ⟨i, []⟩ := by
        show (if wd ts i = pRP then _ else _) = _
        rw [if_pos hc]
      have e2 : argsMore ts' x' (g' + 1) l' ⟨i, []⟩ = .ok l' ⟨i, []⟩ := by
        show (if wd ts' i = pRP then _ else _) = _
        rw [if_pos (by rw [h1]; exact hc)]
      rw [e1] at hh
      cases hh
      exact .inl ⟨l', hl, by omega, e2⟩
    · by_cases hn : l = []
      · have e1 : argsMore ts x (g + 1) l ⟨i, []⟩ = bnd x (fun t => argsMore ts x g (l ++ [t])) ⟨i, []⟩ := by
          show (if wd ts i = pRP then _ else if l = [] then _ else _) = _
          rw [if_neg hc, if_pos hn]
        have e2 : argsMore ts' x' (g' + 1) l' ⟨i, []⟩ = bnd x' (fun t => argsMore ts' x' g' (l' ++ [t])) ⟨i, []⟩ := by
          show (if wd ts' i = pRP then _ else if l' = [] then _ else _) = _
          rw [if_neg (by rw [h1]; exact hc), if_pos (hl.isNil.1 hn)]
        intro a j
        rw [e1, e2]
        exact cut_bndI hi h hx (fun t => hgw g _) (fun t => args_stk X x' h.2.1 g' _) (fun t t' q ht hq hqn => args_step x x' hx h g g' _ _ q (hl.snoc ht) (by omega) (by omega) hqn) a j
      · have e1 : argsMore ts x (g + 1) l ⟨i, []⟩ = bnd (take ts pComma) (fun _ => bnd x fun t => argsMore ts x g (l ++ [t])) ⟨i, []⟩ := by
          show (if wd ts i = pRP then _ else if l = [] then _ else _) = _
          rw [if_neg hc, if_neg hn]
        have e2 : argsMore ts' x' (g' + 1) l' ⟨i, []⟩ = bnd (take ts' pComma) (fun _ => bnd x' fun t => argsMore ts' x' g' (l' ++ [t])) ⟨i, []⟩ := by
          show (if wd ts' i = pRP then _ else if l' = [] then _ else _) = _
          rw [if_neg (by rw [h1]; exact hc), if_neg (fun h => hn (hl.isNil.2 h))]
        intro a j
        rw [e1, e2]
        refine cut_bndI hi (cut_take X pComma (by decide)) (mv_take ts _) (fun _ => gw_bnd h.1 fun t => hgw g _) (fun _ => stk_bnd h.2.1 fun t => args_stk X x' h.2.1 g' _) (fun _ _ p _ hp hpn => ?_) a j
        exact cut_bndI hpn h hx (fun t => hgw g _) (fun t => args_stk X x' h.2.1 g' _) (fun t t' q ht hq hqn => args_step x x' hx h g g' _ _ q (hl.snoc ht) (by omega) (by omega) hqn)

/-! ### Blocks -/
omit X in
theorem skip_gw (ts : List PTok) : ∀ g o s, (∀ a s', skipGo ts g o s = .ok a s' → s'.ds = s.ds) ∧ ∀ l s', skipGo ts g o s = .out l s' → s'.ds = s.ds
  | 0, o, s => ⟨(fun a s' h => by cases h), fun l s' h => by cases h; rfl⟩
  | g + 1, o, s => by
    have k := fun o s => skip_gw ts g o s
    constructor
    · intro a s' h
      simp only [skipGo] at h
      (repeat' split at h) <;> first | (cases h; done) | (cases h; rfl; done) | exact (k _ ⟨s.nx + 1, s.ds⟩).1 _ _ h
    · intro l s' h
      simp only [skipGo] at h
      (repeat' split at h) <;> first | (cases h; done) | (cases h; rfl; done) | exact (k _ ⟨s.nx + 1, s.ds⟩).2 _ _ h
theorem skipE (o : Nat) (ds : List (Nat × Nat)) : skipGo ts' ts'.length o ⟨n, ds⟩ = .out 1 ⟨n, ds⟩ := by
  obtain ⟨g, hg⟩ : ∃ g, ts'.length = g + 1 := ⟨ts'.length - 1, by have := X.len; omega⟩
  rw [hg, skipGo]
  simp only [X.last]
  rw [if_pos (.inr (.inr (.inr trivial)))]
omit X in
theorem stmts_gw (ts : List PTok) (m : PM T) (h : Gw m) : ∀ g l, Gw (stmts ts m g l)
  | 0, l => gw_ret l
  | g + 1, l => fun s => by
    unfold stmts
    by_cases hc : wd ts s.nx = pRB
    · simp only [if_pos hc]; exact gw_ret l s
    · simp only [if_neg hc]
      cases hm : m s with
      | ok t s1 =>
        have ha : attempt m 0 s = .ok (some t) s1 := by unfold attempt; rw [hm]
        rw [bnd_ok ha]
        have h1 := (h s).1 _ _ hm
        have h2 := stmts_gw ts m h g (l ++ [t]) s1
        refine ⟨fun a s' e => h1.trans (h2.1 _ _ e), fun l s' e => ?_⟩
        have h3 := h2.2 _ _ e
        have := h1.length_le
        exact ⟨h1.trans h3.1, by omega⟩
      | out q s1 =>
        have h1 := (h s).2 _ _ hm
        by_cases hq : q ≤ 0
        · have ha : attempt m 0 s = .ok none s1 := by unfold attempt; rw [hm]; simp only [if_pos hq]
          rw [bnd_ok ha]
          simp only [skipStatement]
          cases hk : skipGo ts ts.length 0 s1 with
          | ok u s2 =>
            rw [bnd_ok hk]
            have e2 := (skip_gw ts _ _ _).1 _ _ hk
            have h2 := stmts_gw ts m h g l s2
            rw [e2] at h2
            refine ⟨fun a s' e => h1.1.trans (h2.1 _ _ e), fun l s' e => ?_⟩
            have h3 := h2.2 _ _ e
            exact ⟨h1.1.trans h3.1, by omega⟩
          | out u s2 =>
            rw [bnd_out hk]
            have e2 := (skip_gw ts _ _ _).2 _ _ hk
            exact ⟨(fun a s' e => by cases e), fun l s' e => by cases e; rw [e2]; exact h1⟩
        · have ha : attempt m 0 s = .out q s1 := by unfold attempt; rw [hm]; simp only [if_neg hq]
          rw [bnd_out ha]
          exact ⟨(fun a s' e => by cases e), fun l s' e => by cases e; exact h1⟩
def stK (ts : List PTok) (m : PM T) (g : Nat) (l : List T) : Option T → PM (List T)
  | some t => stmts ts m g (l ++ [t])
  | none => bnd (skipStatement ts) fun _ => stmts ts m g l
omit X in
theorem stmts_at (ts : List PTok) (m : PM T) (g : Nat) (l : List T) (s : St) (h : ¬ wd ts s.nx = pRB) : stmts ts m (g + 1) l s = bnd (attempt m 0) (stK ts m g l) s := by
  rw [stmts]
  simp only [if_neg h]
  congr 1
theorem stmt_left (m' : PM T) {i q : Nat} (h : m' ⟨i, []⟩ = .out q ⟨n, [(10, e)]⟩) (g : Nat) (l : List T) : Stk n e (bnd (attempt m' 0) (stK ts' m' g l) ⟨i, []⟩) := by
  by_cases hq : q ≤ 0
  · have ha : attempt m' 0 ⟨i, []⟩ = .ok none ⟨n, [(10, e)]⟩ := by unfold attempt; rw [h]; simp only [if_pos hq]
    rw [bnd_ok ha]
    simp only [stK, skipStatement]
    rw [bnd_out (skipE X 0 _)]
    exact .inr ⟨1, rfl⟩
  · have ha : attempt m' 0 ⟨i, []⟩ = .out q ⟨n, [(10, e)]⟩ := by unfold attempt; rw [h]; simp only [if_neg hq]
    rw [bnd_out ha]
    exact .inr ⟨q, rfl⟩
theorem stmts_stk (m' : PM T) (h : Stk n e (m' ⟨n, []⟩)) : ∀ g l, Stk n e (stmts ts' m' g l ⟨n, []⟩)
  | 0, l => .inl ⟨l, rfl⟩
  | g + 1, l => by
    rw [stmts_at ts' m' g l ⟨n, []⟩ (by show ¬ wd ts' n = pRB; rw [X.last]; decide)]
    rcases h with ⟨t, h1⟩ | ⟨q, h1⟩
    · have ha : attempt m' 0 ⟨n, []⟩ = .ok (some t) ⟨n, []⟩ := by unfold attempt; rw [h1]
      rw [bnd_ok ha]
      exact stmts_stk m' (.inl ⟨t, h1⟩) g _
    · exact stmt_left X m' h1 g l
theorem stmts_step (m m' : PM T) (hx : Mv 1 m) (h : CutR n e TEq m m') : ∀ g g' l l' i, LEq l l' → ts.length ≤ i + g → n < i + g' → i < n → CutI n e LEq i (stmts ts m g l) (stmts ts' m' g' l')
  | 0, g', l, l', i, _, hg, _, hi => by have := X.more; omega
  | g + 1, 0, l, l', i, _, _, hg, hi => by omega
  | g + 1, g' + 1, l, l', i, hl, hg, hg', hi => by
    have h1 := (X.same i hi).1
    intro a j hh
    by_cases hc : wd ts i = pRB
    · have e1 : stmts ts m (g + 1) l ⟨i, []⟩ = .ok l ⟨i, []⟩ := by
        show (if wd ts i = pRB then _ else _) = _
        rw [if_pos hc]
      have e2 : stmts ts' m' (g' + 1) l' ⟨i, []⟩ = .ok l' ⟨i, []⟩ := by
        show (if wd ts' i = pRB then _ else _) = _
        rw [if_pos (by rw [h1]; exact hc)]
      rw [e1] at hh
      cases hh
      exact .inl ⟨l', hl, by omega, e2⟩
    · have e1 : stmts ts m (g + 1) l ⟨i, []⟩ = bnd (attempt m 0) (stK ts m g l) ⟨i, []⟩ := stmts_at ts m g l ⟨i, []⟩ hc
      have e2 : stmts ts' m' (g' + 1) l' ⟨i, []⟩ = bnd (attempt m' 0) (stK ts' m' g' l') ⟨i, []⟩ := stmts_at ts' m' g' l' ⟨i, []⟩ (by show ¬ wd ts' i = pRB; rw [h1]; exact hc)
      rw [e1] at hh
      rw [e2]
      cases hm : m ⟨i, []⟩ with
      | ok t s1 =>
        have ha : attempt m 0 ⟨i, []⟩ = .ok (some t) s1 := by unfold attempt; rw [hm]
        rw [bnd_ok ha] at hh
        have h3 := (stmts_gw ts m h.1 g (l ++ [t]) s1).1 _ _ hh
        obtain ⟨p, ds⟩ := s1
        have : ds = [] := by simpa using h3
        subst this
        have hp := hx.ok _ _ _ hm
        simp only at hp
        rcases h.2.2 i hi t p hm with ⟨t', ht, hpn, h4⟩ | ⟨t', h4⟩ | ⟨q, h4⟩
        · have hb : attempt m' 0 ⟨i, []⟩ = .ok (some t') ⟨p, []⟩ := by unfold attempt; rw [h4]
          rw [bnd_ok hb]
          rcases Nat.lt_or_ge p n with hpn | hpn
          · exact stmts_step m m' hx h g g' _ _ p (hl.snoc ht) (by omega) (by omega) hpn a j hh
          · obtain rfl : p = n := by omega
            exact .inr (stmts_stk X m' h.2.1 g' _)
        · have hb : attempt m' 0 ⟨i, []⟩ = .ok (some t') ⟨n, []⟩ := by unfold attempt; rw [h4]
          rw [bnd_ok hb]
          exact .inr (stmts_stk X m' h.2.1 g' _)
        · exact .inr (stmt_left X m' h4 g' l')
      | out q s1 =>
        exfalso
        have h5 := (h.1 _).2 _ _ hm
        by_cases hq : q ≤ 0
        · have ha : attempt m 0 ⟨i, []⟩ = .ok none s1 := by unfold attempt; rw [hm]; simp only [if_pos hq]
          rw [bnd_ok ha] at hh
          simp only [stK, skipStatement] at hh
          cases hk : skipGo ts ts.length 0 s1 with
          | ok u s2 =>
            rw [bnd_ok hk] at hh
            have e2 := (skip_gw ts _ _ _).1 _ _ hk
            have h6 := ((stmts_gw ts m h.1 g l s2).1 _ _ hh).length_le
            rw [e2] at h6
            have h7 := h5.2
            simp at h6 h7
            rw [h6] at h7
            simp at h7
          | out u s2 => rw [bnd_out hk] at hh; cases hh
        · have ha : attempt m 0 ⟨i, []⟩ = .out q s1 := by unfold attempt; rw [hm]; simp only [if_neg hq]
          rw [bnd_out ha] at hh; cases hh
theorem cut_clo : Clo ts ts' (fun {α} V (m m' : PM α) => CutR n e V m m') where
  ret := fun {α V a a'} h => ⟨gw_ret a, .inl ⟨a', rfl⟩, fun i hi b j hh => by cases hh; exact .inl ⟨a', h, by omega, rfl⟩⟩
  bnd := fun hm hf => cut_bnd hm hf
  take := fun w hw => cut_take X w hw
  fail := cut_fail X
  sel := fun F F' h => cut_sel X F F' h
  off := fun F F' h => cut_off F F' h
  typed := fun k l l' hl h => ⟨typed_gw ts k h.1 _ _, typed_stk X k _ _, fun i hi => typed_step X k h _ _ _ _ i hl (by omega) (by have := X.len; omega) hi⟩
  args := fun x x' hx _ h => ⟨args_gw ts x h.1 _ _, args_stk X x' h.2.1 _ _, fun i hi => args_step X x x' hx h _ _ _ _ i LEq.nil (by omega) (by have := X.len; omega) hi⟩
  stmts := fun m m' hx _ h => ⟨stmts_gw ts m h.1 _ _, stmts_stk X m' h.2.1 _ _, fun i hi => stmts_step X m m' hx h _ _ _ _ i LEq.nil (by omega) (by have := X.len; omega) hi⟩

/-! ### What ends with a token that must stand there -/
omit X in
theorem sr_cut {α : Type} {V : α → α → Prop} {m m' : PM α} (h : SR n e V m m') : CutR n e V m m' := ⟨h.1, .inr h.2.1, fun i hi a j hh => (h.2.2 i hi a j hh).imp_right .inr⟩
omit X in
theorem sr_map {α β : Type} {V : α → α → Prop} {W : β → β → Prop} {m m' : PM α} {f f' : α → β} (h : SR n e V m m') (hf : ∀ a a', V a a' → W (f a) (f' a')) : SR n e W (bnd m fun a => ret (f a)) (bnd m' fun a => ret (f' a)) := by
  refine ⟨gw_bnd h.1 fun a => gw_ret _, ?_, fun i hi b j hh => ?_⟩
  · obtain ⟨l, h1⟩ := h.2.1
    exact ⟨l, bnd_out h1⟩
  · obtain ⟨a, p, h1, h2⟩ := bnd_nil h.1 (fun a => gw_ret _) hh
    cases h2
    rcases h.2.2 i hi a j h1 with ⟨a', hv, hp, h3⟩ | ⟨l, h3⟩
    · exact .inl ⟨f' a', hf a a' hv, hp, by rw [bnd_ok h3]; rfl⟩
    · exact .inr ⟨l, bnd_out h3⟩
omit X in
theorem sr_bnd {α β : Type} {V : α → α → Prop} {W : β → β → Prop} {m m' : PM α} {f f' : α → PM β} [Rf V] (hm : CutR n e V m m') (hf : ∀ a a', V a a' → SR n e W (f a) (f' a')) : SR n e W (bnd m f) (bnd m' f') := by
  have hs : ∀ a', StkO n e (f' a' ⟨n, []⟩) := fun a' => (hf a' a' (Rf.rf a')).2.1
  have hg : ∀ a, Gw (f a) := fun a => (hf a a (Rf.rf a)).1
  have st : ∀ {i}, Stk n e (m' ⟨i, []⟩) → StkO n e (bnd m' f' ⟨i, []⟩) := by
    intro i h
    rcases h with ⟨a, h⟩ | ⟨l, h⟩
    · rw [bnd_ok h]; exact hs a
    · rw [bnd_out h]; exact ⟨l, rfl⟩
  refine ⟨gw_bnd hm.1 hg, st hm.2.1, fun i hi b j h => ?_⟩
  obtain ⟨a, p, h1, h2⟩ := bnd_nil hm.1 hg h
  rcases hm.2.2 i hi a p h1 with ⟨a', hv, hp, h3⟩ | h3
  · rw [bnd_ok h3]
    rcases Nat.lt_or_ge p n with hpn | hpn
    · exact (hf a a' hv).2.2 p hpn b j h2
    · obtain rfl : p = n := by omega
      exact .inr (hs a')
  · exact .inr (st h3)
theorem sr_take (w : Str) (hw : w ≠ wEnd) : SR n e KEq (take ts w) (take ts' w) := by
  refine ⟨gw_take ts w, ⟨0, ?_⟩, fun i hi a j h => .inl ?_⟩
  · unfold take
    rw [if_neg (by rw [X.last]; exact fun h => hw h.symm)]
    exact fail_end X
  · unfold take at h ⊢
    obtain ⟨h1, h2⟩ := X.same i hi
    split at h
    · rename_i hc
      cases h
      rw [if_pos (by rw [h1]; exact hc)]
      exact ⟨_, ⟨rfl, rfl, rfl⟩, hi, by rw [h2]⟩
    · cases h
theorem sr_fail {α : Type} {V : α → α → Prop} : SR n e V (fail ts 10) (fail ts' 10) := ⟨gw_fail ts 10, ⟨0, fail_end X⟩, fun i hi a j h => by cases h⟩
theorem sr_ite {α : Type} {V : α → α → Prop} {m m' k k' : PM α} (x : Str) (h : SR n e V m m') (g : SR n e V k k') : SR n e V (fun s => if wd ts s.nx = x then m s else k s) (fun s => if wd ts' s.nx = x then m' s else k' s) := by
  refine ⟨fun s => ?_, ?_, fun i hi a j hh => ?_⟩
  · by_cases hc : wd ts s.nx = x
    · simp only [if_pos hc]; exact h.1 s
    · simp only [if_neg hc]; exact g.1 s
  · by_cases hc : wd ts' n = x
    · simp only [if_pos hc]; exact h.2.1
    · simp only [if_neg hc]; exact g.2.1
  · have h1 := (X.same i hi).1
    by_cases hc : wd ts i = x
    · simp only [if_pos hc] at hh
      have := h.2.2 i hi a j hh
      simp only [h1, if_pos hc]; exact this
    · simp only [if_neg hc] at hh
      have := g.2.2 i hi a j hh
      simp only [h1, if_neg hc]; exact this
theorem sr_block (f : Nat) : SR n e TEq (block ts (f + 1)) (block ts' (f + 1)) := by
  have C := cut_clo X
  rw [block.eq_2, block.eq_2]
  refine sr_ite X pLB ?_ (sr_fail X)
  refine sr_bnd (c_begin C _ _ (by decide)) fun _ _ _ => sr_bnd (C.stmts _ _ (mv_statement ts (mv_expression ts f) (mv_block ts f)) (mv_statement ts' (mv_expression ts' f) (mv_block ts' f)) (c_statement C (c_expression C f) (c_block C f))) fun _ _ l => sr_map (sr_take X pRB (by decide)) fun _ _ _ => teq_mk l
theorem sr_item : SR n e TEq (item ts (block ts 10)) (item ts' (block ts' 10)) := by
  have C := cut_clo X
  have B := sr_block X 9
  refine sr_ite X kStruct ?_ (sr_ite X kFunc ?_ (sr_ite X kParse ?_ (sr_fail X)))
  · exact sr_bnd (c_begin C _ _ (by decide)) fun _ _ _ => sr_bnd (c_name C) fun _ _ x => sr_bnd (C.take pLB (by decide)) fun _ _ _ => sr_bnd (c_typedNames C _) fun _ _ l => sr_map (sr_take X pRB (by decide)) fun _ _ _ => by rw [x]; exact teq_mk l
  · have fr : ∀ (o o' : Nat) (x : Str) (l l' : List T), LEq l l' → SR n e TEq (funcRest ts (block ts 10) o x l) (funcRest ts' (block ts' 10) o' x l') := fun o o' x l l' hl => sr_bnd (C.take pRP (by decide)) fun _ _ _ => sr_bnd (c_width C) fun _ _ y => sr_map B fun _ _ k => by rw [y]; exact teq_mk (hl.snoc k)
    exact sr_bnd (c_begin C _ _ (by decide)) fun _ _ _ => sr_bnd (c_name C) fun _ _ x => sr_bnd (C.take pLP (by decide)) fun _ _ _ => by
      rw [x]
      exact sr_ite X pRP (fr _ _ _ _ _ LEq.nil) (sr_bnd (c_typedNames C 5) fun _ _ l => fr _ _ _ _ _ l)
  · exact sr_bnd (C.take kParse (by decide)) fun _ _ _ => B
/-! ### The whole -/
omit X in
def itK (ts : List PTok) (m : PM T) (g : Nat) (l : List T) : Option T → PM (List T)
  | some t => if t.kind = 6 then ret (l ++ [t]) else items ts m g (l ++ [t])
  | none => bnd (skipItem ts ts.length) fun _ => items ts m g l
omit X in
theorem items_at (ts : List PTok) (m : PM T) (g : Nat) (l : List T) (s : St) : items ts m (g + 1) l s = bnd (attempt m (if wd ts s.nx = kParse then 0 else 1)) (itK ts m g l) s := by
  rw [items]
  congr 1
omit X in
theorem skipItem_ds (ts : List PTok) : ∀ g s, (∀ a s', skipItem ts g s = .ok a s' → s'.ds = s.ds) ∧ ∀ l s', skipItem ts g s = .out l s' → s'.ds = s.ds
  | 0, s => ⟨(fun a s' h => by cases h), fun l s' h => by cases h; rfl⟩
  | g + 1, s => by
    have k := fun s => skipItem_ds ts g s
    constructor
    · intro a s' h
      simp only [skipItem] at h
      (repeat' split at h) <;> first | (cases h; done) | (cases h; rfl; done) | exact (k ⟨s.nx + 1, s.ds⟩).1 _ _ h
    · intro l s' h
      simp only [skipItem] at h
      (repeat' split at h) <;> first | (cases h; done) | (cases h; rfl; done) | exact (k ⟨s.nx + 1, s.ds⟩).2 _ _ h
omit X in
theorem items_ds (ts : List PTok) (m : PM T) (h : Gw m) : ∀ g l s a s', items ts m g l s = .ok a s' → s.ds <+: s'.ds
  | 0, l, s, a, s', hh => by cases hh; exact List.prefix_refl _
  | g + 1, l, s, a, s', hh => by
    rw [items_at] at hh
    cases hm : m s with
    | ok t s1 =>
      have ha : attempt m (if wd ts s.nx = kParse then 0 else 1) s = .ok (some t) s1 := by unfold attempt; rw [hm]
      rw [bnd_ok ha] at hh
      have h1 := (h s).1 _ _ hm
      simp only [itK] at hh
      split at hh
      · cases hh; exact h1
      · exact h1.trans (items_ds ts m h g _ _ _ _ hh)
    | out q s1 =>
      have h1 := (h s).2 _ _ hm
      by_cases hq : q ≤ (if wd ts s.nx = kParse then 0 else 1)
      · have ha : attempt m (if wd ts s.nx = kParse then 0 else 1) s = .ok none s1 := by unfold attempt; rw [hm]; simp only [if_pos hq]
        rw [bnd_ok ha] at hh
        simp only [itK] at hh
        cases hk : skipItem ts ts.length s1 with
        | ok u s2 =>
          rw [bnd_ok hk] at hh
          have := (skipItem_ds ts _ _).1 _ _ hk
          have h2 := items_ds ts m h g _ _ _ _ hh
          rw [this] at h2
          exact h1.1.trans h2
        | out u s2 => rw [bnd_out hk] at hh; cases hh
      · have ha : attempt m (if wd ts s.nx = kParse then 0 else 1) s = .out q s1 := by unfold attempt; rw [hm]; simp only [if_neg hq]
        rw [bnd_out ha] at hh; cases hh
theorem item_left (m' : PM T) {i q most : Nat} (h : m' ⟨i, []⟩ = .out q ⟨n, [(10, e)]⟩) (g : Nat) (l : List T) : StkO n e (bnd (attempt m' most) (itK ts' m' g l) ⟨i, []⟩) := by
  by_cases hq : q ≤ most
  · have ha : attempt m' most ⟨i, []⟩ = .ok none ⟨n, [(10, e)]⟩ := by unfold attempt; rw [h]; simp only [if_pos hq]
    rw [bnd_ok ha]
    have hk : skipItem ts' ts'.length ⟨n, [(10, e)]⟩ = .out 2 ⟨n, [(10, e)]⟩ := by
      obtain ⟨g, hg⟩ : ∃ g, ts'.length = g + 1 := ⟨ts'.length - 1, by have := X.len; omega⟩
      rw [hg, skipItem]
      simp only [X.last]
      rw [if_neg (by decide), if_pos trivial]
    simp only [itK]
    rw [bnd_out hk]
    exact ⟨2, rfl⟩
  · have ha : attempt m' most ⟨i, []⟩ = .out q ⟨n, [(10, e)]⟩ := by unfold attempt; rw [h]; simp only [if_neg hq]
    rw [bnd_out ha]
    exact ⟨q, rfl⟩
theorem items_stk (m' : PM T) (h : StkO n e (m' ⟨n, []⟩)) (g : Nat) (l : List T) : StkO n e (items ts' m' (g + 1) l ⟨n, []⟩) := by
  rw [items_at]
  obtain ⟨q, h⟩ := h
  exact item_left X m' h g l
theorem items_step (m m' : PM T) (hx : Mv 1 m) (h : SR n e TEq m m') : ∀ g g' l l' i, LEq l l' → ts.length ≤ i + g → n < i + g' → i < n → SI n e LEq i (items ts m g l) (items ts' m' g' l')
  | 0, g', l, l', i, _, hg, _, hi => by have := X.more; omega
  | g + 1, 0, l, l', i, _, _, hg, hi => by omega
  | g + 1, g' + 1, l, l', i, hl, hg, hg', hi => by
    intro a j hh
    have h1 := (X.same i hi).1
    rw [items_at] at hh ⊢
    cases hm : m ⟨i, []⟩ with
    | ok t s1 =>
      have ha : attempt m (if wd ts i = kParse then 0 else 1) ⟨i, []⟩ = .ok (some t) s1 := by unfold attempt; rw [hm]
      rw [bnd_ok ha] at hh
      have h3 : s1.ds <+: ([] : List (Nat × Nat)) := by
        simp only [itK] at hh
        split at hh
        · cases hh; exact List.prefix_refl _
        · exact items_ds ts m h.1 _ _ _ _ _ hh
      obtain ⟨p, ds⟩ := s1
      have : ds = [] := by simpa using h3
      subst this
      have hp := hx.ok _ _ _ hm
      simp only at hp
      rcases h.2.2 i hi t p hm with ⟨t', ht, hpn, h4⟩ | ⟨q, h4⟩
      · have hb : attempt m' (if wd ts' i = kParse then 0 else 1) ⟨i, []⟩ = .ok (some t') ⟨p, []⟩ := by unfold attempt; rw [h4]
        rw [bnd_ok hb]
        simp only [itK] at hh ⊢
        rw [← ht.kind]
        by_cases hk : t.kind = 6
        · rw [if_pos hk] at hh ⊢
          cases hh
          exact .inl ⟨_, hl.snoc ht, hpn, rfl⟩
        · rw [if_neg hk] at hh ⊢
          rcases Nat.lt_or_ge p n with hpn | hpn
          · exact items_step m m' hx h g g' _ _ p (hl.snoc ht) (by omega) (by omega) hpn a j hh
          · obtain rfl : p = n := by omega
            obtain ⟨g', rfl⟩ : ∃ k, g' = k + 1 := ⟨g' - 1, by omega⟩
            exact .inr (items_stk X m' h.2.1 g' _)
      · exact .inr (item_left X m' h4 g' l')
    | out q s1 =>
      exfalso
      have h5 := (h.1 _).2 _ _ hm
      by_cases hq : q ≤ (if wd ts i = kParse then 0 else 1)
      · have ha : attempt m (if wd ts i = kParse then 0 else 1) ⟨i, []⟩ = .ok none s1 := by unfold attempt; rw [hm]; simp only [if_pos hq]
        rw [bnd_ok ha] at hh
        simp only [itK] at hh
        cases hk : skipItem ts ts.length s1 with
        | ok u s2 =>
          rw [bnd_ok hk] at hh
          have e2 := (skipItem_ds ts _ _).1 _ _ hk
          have h6 := (items_ds ts m h.1 _ _ _ _ _ hh).length_le
          rw [e2] at h6
          have h7 := h5.2
          simp at h6 h7
          rw [h6] at h7
          simp at h7
        | out u s2 => rw [bnd_out hk] at hh; cases hh
      · have ha : attempt m (if wd ts i = kParse then 0 else 1) ⟨i, []⟩ = .out q s1 := by unfold attempt; rw [hm]; simp only [if_neg hq]
        rw [bnd_out ha] at hh; cases hh
/-- Where all is read without a diagnostic, the part that is cut has one, at its end. -/
theorem program_cut (hn : 0 < n) (hend : ∀ i, wd ts i = wEnd → n < i) {t : T} {s' : St} (h : program ts ⟨0, []⟩ = .ok t s') (hd : s'.ds = []) : ∃ l, program ts' ⟨0, []⟩ = .out l ⟨n, [(10, e)]⟩ := by
  unfold program at h ⊢
  cases hi : items ts (item ts (block ts 10)) (2 * ts.length + 2) [] ⟨0, []⟩ with
  | out l s1 => rw [bnd_out hi] at h; cases h
  | ok l s1 =>
    rw [bnd_ok hi] at h
    cases ht : take ts wEnd s1 with
    | out q s2 => rw [bnd_out ht] at h; cases h
    | ok k s2 =>
      rw [bnd_ok ht] at h
      cases h
      unfold take at ht
      split at ht
      · rename_i hw
        cases ht
        obtain ⟨p, ds⟩ := s1
        simp only at hd hw
        subst hd
        have hp := hend p hw
        rcases items_step X _ _ (mv_item ts (mv_block ts 10)) (sr_item X) _ (2 * ts'.length + 2) [] [] 0 LEq.nil (by omega) (by have := X.len; omega) hn l p hi with ⟨_, _, hpn, _⟩ | ⟨q, h3⟩
        · omega
        · exact ⟨q, bnd_out h3⟩
      · cases ht
end
end Go.Proofs.YtgleakjalhkkhaaGreatDoor

/- A source that is cut behind a token: its tokens, and what Parse answers. -/
namespace Go.Proofs.YtgleakjalhkkhaaGreatDoor
open Go

theorem head_pre {q r' : Str} (hq : q ≠ []) (g : Str) : (g ++ q).head? = (g ++ (q ++ r')).head? := by
  cases g with
  | cons a g => rfl
  | nil => cases q with
    | nil => exact absurd rfl hq
    | cons a q => rfl
theorem Lp.cut {l : List UInt8} {o : Nat} {ts : List Tok} {m : List UInt8} {o' : Nat} (h : Lp l o ts m o') : ∀ (k : Nat) (hk : k < ts.length), ∃ q r, l = q ++ r ∧ q ≠ [] ∧ o + q.length = ts[k].off + (textOf ts[k]).length ∧ Lp q o (ts.take (k + 1)) [] (ts[k].off + (textOf ts[k]).length) := by
  induction h with
  | stop m o => intro k hk; simp at hk
  | cons x g r v o ts m o' h1 h2 h3 h4 h5 ih =>
    intro k hk
    cases k with
    | zero =>
      have hx : textOf (mkTok v o) = x := (textOf_mk v o).trans (read_text h2 h3).1
      refine ⟨x, g ++ r, rfl, h2, ?_, ?_⟩
      · show o + x.length = o + (textOf (mkTok v o)).length
        rw [hx]
      · have := Lp.cons x [] [] v o [] [] (o + x.length + 0) (tok_swap h1 h2 (.inl rfl)) h2 h3 rfl (Lp.stop [] _)
        show Lp x o [mkTok v o] [] (o + (textOf (mkTok v o)).length)
        rw [hx]
        simpa using this
    | succ k =>
      have hk' : k < ts.length := by simpa using hk
      obtain ⟨q, r', hr, hq, hlen, hlp⟩ := ih k hk'
      have hh : (g ++ q).head? = (g ++ r).head? := by rw [hr]; exact head_pre hq g
      have hq2 : q.head? = r.head? := by rw [hr]; exact head_pre (r' := r') hq []
      refine ⟨x ++ (g ++ q), r', by rw [hr]; simp, by simp [h2], ?_, ?_⟩
      · show o + (x ++ (g ++ q)).length = ts[k].off + (textOf ts[k]).length
        simp only [List.length_append]; omega
      · show Lp (x ++ (g ++ q)) o (mkTok v o :: ts.take (k + 1)) [] (ts[k].off + (textOf ts[k]).length)
        exact Lp.cons x g q v o _ [] _ (tok_swap h1 h2 (.inr (.inl hh))) h2 h3 (gap_swap h4 (.inr hq2)) hlp
theorem LpS.cut {s : List UInt8} {ts : List Tok} {a : Nat} (h : LpS s ts [] a) (k : Nat) (hk : k < ts.length) : ∃ q r, s = q ++ r ∧ q.length = ts[k].off + (textOf ts[k]).length ∧ LpS q (ts.take (k + 1)) [] q.length := by
  obtain ⟨g, l, rfl, hg, hl⟩ := h
  obtain ⟨q, r, rfl, hq, hlen, hlp⟩ := hl.cut k hk
  have hE : (g ++ q).length = ts[k].off + (textOf ts[k]).length := by rw [List.length_append]; omega
  refine ⟨g ++ q, r, by simp, hE, g, q, rfl, gap_swap hg (.inr (head_pre (r' := r) hq [])), ?_⟩
  rw [hE]; exact hlp

/-! ### The words of tokens are not that of the end -/
theorem key_end : isKey wEnd = false := by decide
theorem word_end {t : Tok} (h : ∃ x r, x ≠ [] ∧ tokLen (x ++ r) = x.length ∧ readT x = ((t.kind, t.text, t.num), 0)) : wordT t ≠ wEnd := by
  obtain ⟨x, r, hx, _, hr⟩ := h
  intro hw
  unfold wordT at hw
  rcases read_kinds hx hr with ⟨e, _⟩ | ⟨u, e, _⟩ | ⟨e, _⟩ | ⟨e, b, l, rfl, hb, _⟩
  · simp only [Prod.mk.injEq] at e
    rw [if_neg (by omega), if_neg (by omega)] at hw
    split at hw
    · exact absurd hw (by decide)
    · rename_i hk
      rw [hw, key_end] at hk
      exact hk ⟨e.1, rfl⟩
  · simp only [Prod.mk.injEq] at e
    rw [if_pos e.1] at hw
    exact absurd hw (by decide)
  · simp only [Prod.mk.injEq] at e
    rw [if_neg (by omega), if_pos e.1] at hw
    exact absurd hw (by decide)
  · simp only [Prod.mk.injEq] at e
    rw [if_neg (by omega), if_neg (by omega), if_neg (by omega), e.2.1] at hw
    injection hw with hw _
    subst hw
    exact absurd hb (by decide)
theorem wd_ptoks {l : List Tok} {E i : Nat} (hl : ∀ t ∈ l, ∃ x r, x ≠ [] ∧ tokLen (x ++ r) = x.length ∧ readT x = ((t.kind, t.text, t.num), 0)) (h : wd (ptoks l E) i = wEnd) : i = l.length := by
  unfold wd ptoks at h
  rcases Nat.lt_trichotomy i l.length with hi | hi | hi
  · rw [List.getElem?_append_left (by simpa using hi)] at h
    simp only [List.getElem?_map, List.getElem?_eq_getElem hi, Option.map_some] at h
    exact absurd h (word_end (hl _ (List.getElem_mem hi)))
  · exact hi
  · rw [List.getElem?_eq_none (by simp; omega)] at h
    exact absurd h (by decide)
theorem cutAt_of (l : List Tok) (S E k : Nat) (hk : k + 1 < l.length) : CutAt (ptoks l S) (ptoks (l.take (k + 1)) E) (k + 1) E := by
  have hlen : (l.take (k + 1)).length = k + 1 := by rw [List.length_take]; omega
  have last : (ptoks (l.take (k + 1)) E)[k + 1]? = some ⟨⟨0, [], 0, E⟩, wEnd⟩ := by
    unfold ptoks
    rw [List.getElem?_append_right (by rw [List.length_map]; omega), List.length_map, hlen, Nat.sub_self]
    rfl
  refine ⟨fun i hi => ?_, by unfold wd; rw [last], by unfold tk; rw [last], by unfold ptoks; simp; omega, by unfold ptoks; simp; omega⟩
  have e : (ptoks (l.take (k + 1)) E)[i]? = (ptoks l S)[i]? := by
    unfold ptoks
    rw [List.getElem?_append_left (by simp; omega), List.getElem?_append_left (by simp; omega)]
    simp [hi]
  unfold wd tk
  rw [e]
  exact ⟨rfl, rfl⟩

/-! ### How much is read -/
section
variable (ts : List PTok)
theorem mv2_item {y : PM T} (hy : Mv 1 y) : Mv 2 (item ts y) :=
  Mv.ite (c := fun s => wd ts s.nx = kStruct) ((mv_begin ts _ _).seq fun _ => (mv_name ts).head fun _ => (mv_take ts _).z.zero fun _ => (mv_typedNames ts _).z.zero fun _ => (mv_take ts _).z.zero fun _ => mv_ret _)
    (Mv.ite (c := fun s => wd ts s.nx = kFunc) ((mv_begin ts _ _).seq fun _ => (mv_name ts).head fun x => (mv_take ts _).z.zero fun _ => Mv.ite (c := fun s => wd ts s.nx = pRP) (mv_funcRest ts hy _ x []) ((mv_typedNames ts 5).z.zero fun l => mv_funcRest ts hy _ x l))
      (Mv.ite (c := fun s => wd ts s.nx = kParse) ((mv_take ts _).seq fun _ => hy) (mv_fail ts _ _)))
theorem items_mono (m : PM T) (hm : Mv 1 m) : ∀ g l s a s', items ts m g l s = .ok a s' → s.nx ≤ s'.nx
  | 0, l, s, a, s', h => by cases h; exact Nat.le_refl _
  | g + 1, l, s, a, s', h => by
    rw [items_at] at h
    cases ha : attempt m (if wd ts s.nx = kParse then 0 else 1) s with
    | out q s1 => rw [bnd_out ha] at h; cases h
    | ok o s1 =>
      rw [bnd_ok ha] at h
      cases o with
      | some t =>
        have h1 := att_some hm ha
        simp only [itK] at h
        split at h
        · cases h; omega
        · have := items_mono m hm g _ _ _ _ h
          omega
      | none =>
        have h1 := att_none hm ha
        simp only [itK] at h
        cases hk : skipItem ts ts.length s1 with
        | out u s2 => rw [bnd_out hk] at h; cases h
        | ok u s2 =>
          rw [bnd_ok hk] at h
          have h2 := (mv_skipItem ts _).ok _ _ _ hk
          have h3 := items_mono m hm g _ _ _ _ h
          omega
theorem items_gw (m : PM T) (h : Gw m) : ∀ g l, Gw (items ts m g l)
  | 0, l => gw_ret l
  | g + 1, l => fun s => by
    rw [items_at]
    cases hm : m s with
    | ok t s1 =>
      have ha : attempt m (if wd ts s.nx = kParse then 0 else 1) s = .ok (some t) s1 := by unfold attempt; rw [hm]
      rw [bnd_ok ha]
      have h1 := (h s).1 _ _ hm
      simp only [itK]
      have h2 : Gw (if t.kind = 6 then ret (l ++ [t]) else items ts m g (l ++ [t])) := by
        split
        · exact gw_ret _
        · exact items_gw m h g _
      refine ⟨fun a s' e => h1.trans ((h2 s1).1 _ _ e), fun l s' e => ?_⟩
      have h3 := (h2 s1).2 _ _ e
      have := h1.length_le
      exact ⟨h1.trans h3.1, by omega⟩
    | out q s1 =>
      have h1 := (h s).2 _ _ hm
      by_cases hq : q ≤ (if wd ts s.nx = kParse then 0 else 1)
      · have ha : attempt m (if wd ts s.nx = kParse then 0 else 1) s = .ok none s1 := by unfold attempt; rw [hm]; simp only [if_pos hq]
        rw [bnd_ok ha]
        simp only [itK]
        cases hk : skipItem ts ts.length s1 with
        | ok u s2 =>
          rw [bnd_ok hk]
          have e2 := (skipItem_ds ts _ _).1 _ _ hk
          have h2 := items_gw m h g l s2
          rw [e2] at h2
          refine ⟨fun a s' e => h1.1.trans (h2.1 _ _ e), fun l s' e => ?_⟩
          have h3 := h2.2 _ _ e
          exact ⟨h1.1.trans h3.1, by omega⟩
        | out u s2 =>
          rw [bnd_out hk]
          have e2 := (skipItem_ds ts _ _).2 _ _ hk
          exact ⟨(fun a s' e => by cases e), fun l s' e => by cases e; rw [e2]; exact h1⟩
      · have ha : attempt m (if wd ts s.nx = kParse then 0 else 1) s = .out q s1 := by unfold attempt; rw [hm]; simp only [if_neg hq]
        rw [bnd_out ha]
        exact ⟨(fun a s' e => by cases e), fun l s' e => by cases e; exact h1⟩
omit ts in
theorem att_out {m : PM T} {most : Nat} {s s1 : St} (h : attempt m most s = .ok none s1) : ∃ l, m s = .out l s1 := by
  unfold attempt at h
  split at h
  · cases h
  · rename_i q s2 hm
    split at h
    · cases h; exact ⟨q, hm⟩
    · cases h
theorem items_two (m : PM T) (hm : Mv 2 m) (hg : Gw m) (g : Nat) (l : List T) (i : Nat) (a : List T) (j : Nat) (h : items ts m (g + 1) l ⟨i, []⟩ = .ok a ⟨j, []⟩) : i + 2 ≤ j := by
  rw [items_at] at h
  cases ha : attempt m (if wd ts (St.mk i []).nx = kParse then 0 else 1) ⟨i, []⟩ with
  | out q s1 => rw [bnd_out ha] at h; cases h
  | ok o s1 =>
    rw [bnd_ok ha] at h
    cases o with
    | some t =>
      have h1 := att_some hm ha
      simp only [itK] at h
      split at h
      · cases h; exact h1
      · have := items_mono ts m (hm.weak (by omega)) g _ _ _ _ h
        simp only at this h1
        omega
    | none =>
      exfalso
      have h1 : 0 < s1.ds.length := by
        obtain ⟨q, hm2⟩ := att_out ha
        have := ((hg _).2 _ _ hm2).2
        simpa using this
      simp only [itK] at h
      cases hk : skipItem ts ts.length s1 with
      | out u s2 => rw [bnd_out hk] at h; cases h
      | ok u s2 =>
        rw [bnd_ok hk] at h
        have e2 := (skipItem_ds ts _ _).1 _ _ hk
        have h2 := ((items_gw ts m hg g l s2).1 _ _ h).length_le
        rw [e2] at h2
        simp at h2
        rw [h2] at h1
        simp at h1
end
theorem prog_gw (ts : List PTok) (hg : Gw (item ts (block ts 10))) : Gw (program ts) := gw_bnd (items_gw ts _ hg _ _) fun _ => gw_bnd (gw_take ts _) fun _ => gw_ret _
/-- Where nothing is wrong: all tokens are read, at least two, and each beginning is wrong at its end. -/
theorem cut_parse {s : Str} {l : List Tok} {x : Nat} {t : T} (hl : lexS s = (l, 0, x)) (h : parseS s = (t, [])) (k : Nat) (hk : k + 1 < l.length) :
    ∃ q r, s = q ++ r ∧ q.length = (l[k]'(by omega)).off + (textOf (l[k]'(by omega))).length ∧ parseS q = (T.zero, [(10, q.length)]) := by
  obtain ⟨h1, h2, h3, _⟩ := lexS_ok hl
  obtain ⟨q, r, hq, hlen, hlp⟩ := h3.cut k (by omega)
  have hlq : lexS q = (l.take (k + 1), 0, 0) := lexS_of hlp (by rw [hq, List.length_append] at h1; omega) (by rw [List.length_take]; omega)
  have X := cutAt_of l s.length q.length k hk
  have hgw := (sr_item X).1
  refine ⟨q, r, hq, hlen, ?_⟩
  unfold parseS at h ⊢
  rw [hl] at h
  rw [hlq]
  simp only at h ⊢
  cases hp : program (ptoks l s.length) ⟨0, []⟩ with
  | ok t' s' =>
    have ha : attempt (program (ptoks l s.length)) 2 ⟨0, []⟩ = .ok (some t') s' := by unfold attempt; rw [hp]
    rw [ha] at h
    simp only at h
    split at h
    · rename_i hd
      obtain ⟨q', hc⟩ := program_cut X (by omega) (fun i hi => by have := wd_ptoks (lexS_rd hl) hi; omega) hp hd
      have hb : attempt (program (ptoks (l.take (k + 1)) q.length)) 2 ⟨0, []⟩ = .ok none ⟨k + 1, [(10, q.length)]⟩ ∨ attempt (program (ptoks (l.take (k + 1)) q.length)) 2 ⟨0, []⟩ = .out q' ⟨k + 1, [(10, q.length)]⟩ := by
        unfold attempt
        rw [hc]
        simp only
        split
        · exact .inl rfl
        · exact .inr rfl
      rcases hb with hb | hb <;> rw [hb]
    · rename_i hd
      simp only [Prod.mk.injEq] at h
      exact absurd h.2 hd
  | out q' s' =>
    exfalso
    have hg := ((prog_gw _ hgw _).2 _ _ hp).2
    unfold attempt at h
    rw [hp] at h
    simp only at h
    have hs : s'.ds = [] := by
      split at h
      · rename_i heq
        split at heq
        · cases heq
        · cases heq
      · rename_i heq
        split at heq
        · cases heq; exact (Prod.mk.inj h).2
        · cases heq
      · rename_i heq
        split at heq
        · cases heq
        · cases heq; exact (Prod.mk.inj h).2
    rw [hs] at hg
    simp at hg
/-- Where nothing is wrong there are two tokens. -/
theorem parse_two {s : Str} {l : List Tok} {x : Nat} {t : T} (hl : lexS s = (l, 0, x)) (h : parseS s = (t, [])) (hg : Gw (item (ptoks l s.length) (block (ptoks l s.length) 10))) : 2 ≤ l.length := by
  unfold parseS at h
  rw [hl] at h
  simp only at h
  cases hp : program (ptoks l s.length) ⟨0, []⟩ with
  | ok t' s' =>
    have ha : attempt (program (ptoks l s.length)) 2 ⟨0, []⟩ = .ok (some t') s' := by unfold attempt; rw [hp]
    rw [ha] at h
    simp only at h
    split at h
    · rename_i hd
      have hp0 := hp
      unfold program at hp
      cases hi : items (ptoks l s.length) (item (ptoks l s.length) (block (ptoks l s.length) 10)) (2 * (ptoks l s.length).length + 2) [] ⟨0, []⟩ with
      | out q s1 => rw [bnd_out hi] at hp; cases hp
      | ok a s1 =>
        rw [bnd_ok hi] at hp
        cases ht : take (ptoks l s.length) wEnd s1 with
        | out q s2 => rw [bnd_out ht] at hp; cases hp
        | ok k s2 =>
          rw [bnd_ok ht] at hp
          cases hp
          unfold take at ht
          split at ht
          · rename_i hw
            cases ht
            obtain ⟨p, ds⟩ := s1
            simp only at hd hw
            subst hd
            have h2 := items_two _ _ (mv2_item _ (mv_block _ 10)) hg _ _ _ _ _ hi
            have := wd_ptoks (lexS_rd hl) hw
            omega
          · cases ht
    · rename_i hd
      simp only [Prod.mk.injEq] at h
      exact absurd h.2 hd
  | out q' s' =>
    exfalso
    have hg := ((prog_gw _ hg _).2 _ _ hp).2
    unfold attempt at h
    rw [hp] at h
    simp only at h
    have hs : s'.ds = [] := by
      split at h
      · rename_i heq
        split at heq
        · cases heq
        · cases heq
      · rename_i heq
        split at heq
        · cases heq; exact (Prod.mk.inj h).2
        · cases heq
      · rename_i heq
        split at heq
        · cases heq
        · cases heq; exact (Prod.mk.inj h).2
    rw [hs] at hg
    simp at hg
theorem gw_item (ts : List PTok) (h : 0 < ts.length) : Gw (item ts (block ts 10)) :=
  (sr_item (ts' := [⟨⟨0, [], 0, 0⟩, wEnd⟩]) (n := 0) (e := 0) ⟨fun i hi => absurd hi (by omega), rfl, rfl, by simp, h⟩).1
end Go.Proofs.YtgleakjalhkkhaaGreatDoor
