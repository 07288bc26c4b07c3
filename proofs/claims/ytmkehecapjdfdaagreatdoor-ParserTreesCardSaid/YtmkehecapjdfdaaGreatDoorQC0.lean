/- Joined texts: LPlain2, PClo. -/
import Derived.Test.YtmkehecapjdfdaaGreatDoorQB1
import Derived.Test.YtmkehecapjdfdaaGreatDoorQL3

/- The lexer's plain mathematics, third part: the texts of tokens; numbers. -/
namespace Go.Proofs.YtmkehecapjdfdaaGreatDoor
open Go

/-! ### Numbers -/
theorem dec_snoc {n d : Nat} (h : 1 ≤ n) (hd : d < 10) : Lib.decDigits (n * 10 + d) = Lib.decDigits n ++ [UInt8.ofNat (48 + d)] := by
  rw [Lib.decDigits, dif_neg (by omega)]
  have e1 : (n * 10 + d) / 10 = n := by omega
  have e2 : (n * 10 + d) % 10 = d := by omega
  rw [e1, e2]
theorem dec_dig : ∀ n, ∀ b ∈ Lib.decDigits n, isDig b = true := fun n => by
  induction n using Nat.strongRecOn with
  | _ n ih =>
    intro b hb
    by_cases h : n < 10
    · rw [dec_one n h] at hb
      have : b = UInt8.ofNat (48 + n) := by simpa using hb
      rw [this]
      unfold isDig
      rw [ofNat_val _ (by omega)]; simp; omega
    · rw [Lib.decDigits, dif_neg h] at hb
      rcases List.mem_append.1 hb with hb | hb
      · exact ih (n / 10) (by omega) b hb
      · have : b = UInt8.ofNat (48 + n % 10) := by simpa using hb
        rw [this]
        unfold isDig
        rw [ofNat_val _ (by omega)]; simp; omega
theorem dec_ne (n : Nat) : Lib.decDigits n ≠ [] := by
  rw [Lib.decDigits]
  split <;> simp
/-- A number that is not 0 does not begin with a zero. -/
theorem dec_head : ∀ n, 1 ≤ n → ∃ b l, Lib.decDigits n = b :: l ∧ b.toNat ≠ 48 := fun n => by
  induction n using Nat.strongRecOn with
  | _ n ih =>
    intro h1
    by_cases h : n < 10
    · rw [dec_one n h]
      exact ⟨_, _, rfl, by rw [ofNat_val _ (by omega)]; omega⟩
    · obtain ⟨b, l, e, hb⟩ := ih (n / 10) (by omega) (by omega)
      rw [Lib.decDigits, dif_neg h, e]
      exact ⟨b, l ++ _, rfl, hb⟩
theorem dec_len : ∀ (k n : Nat), n < 10 ^ (k + 1) → (Lib.decDigits n).length ≤ k + 1
  | 0, n, h => by rw [dec_one n (by omega)]; simp
  | k + 1, n, h => by
    by_cases h1 : n < 10
    · rw [dec_one n h1]; simp
    · rw [Lib.decDigits, dif_neg h1, List.length_append]
      have := dec_len k (n / 10) (by rw [Nat.pow_succ] at h; omega)
      simp; omega
abbrev M64 : Nat := 2 ^ 64 - 1
theorem parse_from : ∀ (l : List UInt8) (acc u : Nat), 1 ≤ acc → Lib.parseUintM M64 acc l = .ok u → Lib.decDigits u = Lib.decDigits acc ++ l ∧ (acc ≤ M64 → u ≤ M64)
  | [], acc, u, _, h => by
    rw [Lib.parseUintM] at h
    cases h
    exact ⟨by simp, id⟩
  | c :: r, acc, u, ha, h => by
    rw [Lib.parseUintM] at h
    split at h
    · rename_i hc
      split at h
      · cases h
      · split at h
        · cases h
        · rename_i hM
          obtain ⟨i1, i2⟩ := parse_from r _ u (by omega) h
          refine ⟨?_, fun _ => i2 (by omega)⟩
          rw [i1, dec_snoc ha (by omega), List.append_assoc]
          congr 1
          have e : UInt8.ofNat (48 + (c.toNat - 48)) = c := u8_ext (by rw [ofNat_val _ (by omega)]; omega)
          rw [e]; rfl
    · cases h
/-- A number without zeros before it is the text of its value. -/
theorem parse_text {x : List UInt8} {u : Nat} (h : Lib.parseUintB 64 x = .ok u) (h0 : ∀ c r, x = c :: r → r ≠ [] → c.toNat ≠ 48) : Lib.decDigits u = x ∧ u ≤ M64 := by
  unfold Lib.parseUintB at h
  split at h
  · cases h
  · match x, h, h0 with
    | c :: r, h, h0 =>
      rw [Lib.parseUintM] at h
      split at h
      · rename_i hc
        rw [if_neg (by omega)] at h
        split at h
        · cases h
        · rename_i hM
          have e : UInt8.ofNat (48 + (c.toNat - 48)) = c := u8_ext (by rw [ofNat_val _ (by omega)]; omega)
          match r, h0, h with
          | [], _, h =>
            rw [Lib.parseUintM] at h
            cases h
            rw [Nat.zero_mul, Nat.zero_add, dec_one _ (by omega), e]
            exact ⟨rfl, by unfold M64; omega⟩
          | d :: r, h0, h =>
            have hne := h0 c (d :: r) rfl (by simp)
            rw [Nat.zero_mul, Nat.zero_add] at h
            obtain ⟨i1, i2⟩ := parse_from (d :: r) _ u (by omega) h
            rw [dec_one (c.toNat - 48) (by omega), e] at i1
            exact ⟨i1, i2 (by unfold M64; omega)⟩
      · cases h
theorem parse_dec : ∀ (n : Nat), n ≤ M64 → ∀ r, Lib.parseUintM M64 0 (Lib.decDigits n ++ r) = Lib.parseUintM M64 n r := fun n => by
  induction n using Nat.strongRecOn with
  | _ n ih =>
    intro hn r
    by_cases h : n < 10
    · rw [dec_one n h, List.cons_append, Lib.parseUintM]
      have e := ofNat_val (48 + n) (by omega)
      rw [e, if_pos (by omega), if_neg (by omega), if_neg (by omega)]
      have e2 : 0 * 10 + (48 + n - 48) = n := by omega
      rw [e2]; rfl
    · rw [Lib.decDigits, dif_neg h, List.append_assoc, ih (n / 10) (by omega) (by omega), List.cons_append, Lib.parseUintM]
      have e := ofNat_val (48 + n % 10) (by omega)
      have hn' : n ≤ 18446744073709551615 := hn
      rw [e, if_pos (by omega), if_neg (by omega), if_neg (by unfold M64; omega)]
      have e2 : n / 10 * 10 + (48 + n % 10 - 48) = n := by omega
      rw [e2]; rfl
theorem parse_zeros : ∀ (k acc : Nat), acc ≤ M64 → M64 < acc * 10 ^ k → Lib.parseUintM M64 acc (List.replicate k 48) = .range
  | 0, acc, h, h2 => by rw [Nat.pow_zero, Nat.mul_one] at h2; omega
  | k + 1, acc, h, h2 => by
    rw [List.replicate_succ, Lib.parseUintM, if_pos (by decide)]
    by_cases h3 : 1844674407370955162 ≤ acc
    · rw [if_pos h3]
    · rw [if_neg h3]
      have e : acc * 10 + ((48 : UInt8).toNat - 48) = acc * 10 := by have : (48 : UInt8).toNat = 48 := rfl; omega
      rw [e]
      by_cases h4 : M64 < acc * 10
      · rw [if_pos h4]
      · rw [if_neg h4]
        exact parse_zeros k (acc * 10) (by omega) (by rw [Nat.pow_succ, Nat.mul_comm (10 ^ k), ← Nat.mul_assoc] at h2; exact h2)

/-! ### The text of a token -/
def textV (v : Nat × List UInt8 × Nat) : List UInt8 := if v.1 = 2 then Lib.decDigits v.2.2 else if v.1 = 3 then 117 :: Lib.decDigits v.2.2 else v.2.1
def textOf (t : Tok) : List UInt8 := textV (t.kind, t.text, t.num)
theorem textOf_mk (v : Nat × List UInt8 × Nat) (o : Nat) : textOf (mkTok v o) = textV v := rfl
theorem read_text {x : List UInt8} {v : Nat × List UInt8 × Nat} (hx : x ≠ []) (h : readT x = (v, 0)) : textV v = x ∧ v.2.2 ≤ M64 ∧ v.1 ≤ 4 := by
  match x, hx, h with
  | b :: l, _, h =>
    rw [readT] at h
    by_cases h1 : isLet b = true
    · rw [if_pos h1] at h
      by_cases h2 : widthOf (b :: l) ≠ 0
      · rw [if_pos h2] at h
        simp only [Prod.mk.injEq, and_true] at h
        obtain ⟨w1, w2, w3⟩ := width_is rfl h2
        rw [← h]
        exact ⟨by rw [textV, if_neg (by simp), if_pos rfl]; exact w3.symm, by unfold M64; simp only; omega, by simp⟩
      · rw [if_neg h2] at h
        split at h
        · simp at h
        · simp only [Prod.mk.injEq, and_true] at h
          rw [← h]
          exact ⟨rfl, by simp, by simp⟩
    · rw [if_neg h1] at h
      by_cases h2 : isDig b = true
      · rw [if_pos h2] at h
        split at h
        · simp at h
        · rename_i hz
          cases hp : Lib.parseUintB 64 (b :: l) with
          | ok u =>
            rw [hp] at h
            simp only [Prod.mk.injEq, and_true] at h
            obtain ⟨p1, p2⟩ := parse_text hp (fun c r e hr hc => hz ⟨by cases e; exact hr, by cases e; exact hc⟩)
            rw [← h]
            exact ⟨by rw [textV, if_pos rfl]; exact p1, p2, by simp⟩
          | range => rw [hp] at h; simp at h
          | _ => rw [hp] at h; simp at h
      · rw [if_neg h2] at h
        simp only [Prod.mk.injEq, and_true] at h
        rw [← h]
        exact ⟨rfl, by simp, by simp⟩

/-! ### Texts and gaps cover a source -/
def Cov (s : List UInt8) : Nat → List Tok → Prop
  | at_, [] => at_ + gapLen (s.drop at_) = s.length
  | at_, t :: r => textOf t ≠ [] ∧ at_ + gapLen (s.drop at_) = t.off ∧ t.off + (textOf t).length ≤ s.length ∧ (s.drop t.off).take (textOf t).length = textOf t ∧ t.num ≤ M64 ∧ Cov s (t.off + (textOf t).length) r
theorem cov_of {l : List UInt8} {o : Nat} {ts : List Tok} {m : List UInt8} {o' : Nat} (h : Lp l o ts m o') : m = [] → ∀ (s pre : List UInt8) (p : Nat), s = pre ++ l → o = pre.length → p + gapLen (s.drop p) = o → Cov s p ts := by
  induction h with
  | stop m o =>
    intro hm s pre p e ho hp
    subst hm
    rw [Cov, hp, e, ho]; simp
  | cons x g r v o ts m o' h1 h2 h3 h4 h5 ih =>
    intro hm s pre p e ho hp
    obtain ⟨t1, t2, _⟩ := read_text h2 h3
    have ed : s.drop o = x ++ (g ++ r) := by rw [e, ho, List.drop_left]
    have ed2 : s.drop (o + x.length) = g ++ r := by rw [← List.drop_drop, ed, List.drop_left]
    have el : s.length = o + x.length + g.length + r.length := by rw [e, ho]; simp; omega
    rw [Cov, textOf_mk, t1]
    refine ⟨h2, hp, by show o + x.length ≤ _; omega, ?_, t2, ?_⟩
    · show (s.drop o).take x.length = x
      rw [ed, List.take_left]
    · exact ih hm s (pre ++ (x ++ g)) (o + x.length) (by rw [e]; simp) (by simp; omega) (by rw [ed2, h4])
theorem LpS.cov {s : List UInt8} {ts : List Tok} {a : Nat} (h : LpS s ts [] a) : Cov s 0 ts := by
  obtain ⟨g, l, e, hg, h⟩ := h
  exact cov_of h rfl s g 0 e rfl (by rw [List.drop_zero, Nat.zero_add]; exact hg)

/-! ### Written tokens -/
def wr : List Tok → List UInt8
  | [] => []
  | t :: r => textOf t ++ (32 :: wr r)
def LikeL (ts us : List Tok) : Prop := us.length = ts.length ∧ ∀ (i : Nat) (h : i < ts.length) (h' : i < us.length), us[i].kind = ts[i].kind ∧ us[i].text = ts[i].text ∧ us[i].num = ts[i].num
theorem LikeL.cons {ts us : List Tok} (h : LikeL ts us) (v : Nat × List UInt8 × Nat) (o o2 : Nat) : LikeL (mkTok v o :: ts) (mkTok v o2 :: us) := by
  refine ⟨by simp [h.1], fun i hi hi' => ?_⟩
  match i with
  | 0 => exact ⟨rfl, rfl, rfl⟩
  | i + 1 => exact h.2 i (by simpa using hi) (by simpa using hi')
theorem wr_gap {l : List UInt8} {o : Nat} {ts : List Tok} {m : List UInt8} {o' : Nat} (h : Lp l o ts m o') : gapC false (wr ts) = 0 := by
  cases h with
  | stop => simp [wr, gapC]
  | cons x g r v o ts m o' h1 h2 h3 h4 h5 =>
    rw [wr, textOf_mk, (read_text h2 h3).1]
    exact tok_gap (by rw [tok_swap h1 h2 (Or.inr (Or.inr ⟨32, rfl, by decide⟩))]; simpa using h2)
theorem Lp.write {l : List UInt8} {o : Nat} {ts : List Tok} {m : List UInt8} {o' : Nat} (h : Lp l o ts m o') : ∀ o2, ∃ us, Lp (wr ts) o2 us [] (o2 + (wr ts).length) ∧ LikeL ts us := by
  induction h with
  | stop => intro o2; exact ⟨[], Lp.stop _ _, rfl, fun i hi => absurd hi (by simp)⟩
  | cons x g r v o ts m o' h1 h2 h3 h4 h5 ih =>
    intro o2
    obtain ⟨us, i1, i2⟩ := ih (o2 + x.length + 1)
    refine ⟨mkTok v o2 :: us, ?_, i2.cons v o o2⟩
    rw [wr, textOf_mk, (read_text h2 h3).1]
    have e : o2 + (x ++ 32 :: wr ts).length = o2 + x.length + 1 + (wr ts).length := by simp; omega
    rw [e]
    refine Lp.cons x [32] (wr ts) v o2 us [] _ (tok_swap h1 h2 (Or.inr (Or.inr ⟨32, rfl, by decide⟩))) h2 h3 ?_ i1
    show gapC false (32 :: wr ts) = 1
    rw [gapC_false, if_neg (by decide), if_pos (by decide), wr_gap h5]
theorem LpS.write {s : List UInt8} {ts : List Tok} {a : Nat} (h : LpS s ts [] a) : ∃ us, LpS (wr ts) us [] (wr ts).length ∧ LikeL ts us := by
  obtain ⟨g, l, e, hg, h⟩ := h
  obtain ⟨us, i1, i2⟩ := h.write 0
  rw [Nat.zero_add] at i1
  exact ⟨us, ⟨[], wr ts, rfl, wr_gap h, i1⟩, i2⟩
end Go.Proofs.YtmkehecapjdfdaaGreatDoor

/- Two readers side by side: what holds of each step holds of the whole. -/
namespace Go.Proofs.YtmkehecapjdfdaaGreatDoor
open Go

mutual
def bareT : T → T
  | .mk k n p x y _ ks => .mk k n p x y 0 (bareL ks)
def bareL : List T → List T
  | [] => []
  | t :: r => bareT t :: bareL r
end
def TEq (a b : T) : Prop := bareT a = bareT b
def LEq (a b : List T) : Prop := bareL a = bareL b
def KEq (a b : Tok) : Prop := a.kind = b.kind ∧ a.text = b.text ∧ a.num = b.num
theorem bareL_app : ∀ a b : List T, bareL (a ++ b) = bareL a ++ bareL b
  | [], _ => rfl
  | t :: r, b => by simp [bareL, bareL_app r b]
theorem LEq.snoc {l l' : List T} {t t' : T} (h : LEq l l') (k : TEq t t') : LEq (l ++ [t]) (l' ++ [t']) := by
  unfold LEq TEq at *
  rw [bareL_app, bareL_app, h]
  simp only [bareL]
  rw [k]
theorem LEq.nil : LEq [] [] := rfl
theorem LEq.one {t t' : T} (k : TEq t t') : LEq [t] [t'] := LEq.nil.snoc k
theorem LEq.two {t t' u u' : T} (k : TEq t t') (h : TEq u u') : LEq [t, u] [t', u'] := (LEq.one k).snoc h
theorem LEq.three {t t' u u' v v' : T} (k : TEq t t') (h : TEq u u') (g : TEq v v') : LEq [t, u, v] [t', u', v'] := (LEq.two k h).snoc g
theorem LEq.isNil {l l' : List T} (h : LEq l l') : l = [] ↔ l' = [] := by
  unfold LEq at h
  cases l <;> cases l' <;> simp_all [bareL]
theorem teq_mk {k : Nat} {n p : Str} {x y o o' : Nat} {ks ks' : List T} (h : LEq ks ks') : TEq (.mk k n p x y o ks) (.mk k n p x y o' ks') := by
  unfold TEq; simp only [bareT]; rw [show bareL ks = bareL ks' from h]
theorem TEq.kind {a b : T} (h : TEq a b) : a.kind = b.kind := by
  cases a; cases b
  unfold TEq at h
  simp only [bareT, T.mk.injEq] at h
  exact h.1

/-- A relation that everything has to itself. -/
class Rf {α : Type} (V : α → α → Prop) : Prop where
  rf : ∀ a, V a a
instance : Rf TEq := ⟨fun _ => rfl⟩
instance : Rf LEq := ⟨fun _ => rfl⟩
instance : Rf KEq := ⟨fun _ => ⟨rfl, rfl, rfl⟩⟩
instance {α : Type} : Rf (Eq (α := α)) := ⟨fun _ => rfl⟩
def orFail {α : Type} (ts : List PTok) : Option (PM α) → PM α
  | none => fail ts 10
  | some m => m
def orDeep {α β : Type} (ts : List PTok) : Option (PM β) → PM α
  | none => fail ts 10
  | some _ => fail ts 11
section
variable (ts ts' : List PTok)
/-- A relation of readers over the same words. -/
structure Clo (Φ : ∀ {α : Type}, (α → α → Prop) → PM α → PM α → Prop) : Prop where
  ret : ∀ {α : Type} {V : α → α → Prop} {a a' : α}, V a a' → Φ V (ret a) (ret a')
  bnd : ∀ {α β : Type} {V : α → α → Prop} {W : β → β → Prop} {m m' : PM α} {f f' : α → PM β} [Rf V], Φ V m m' → (∀ a a', V a a' → Φ W (f a) (f' a')) → Φ W (bnd m f) (bnd m' f')
  take : ∀ w, w ≠ wEnd → Φ KEq (take ts w) (take ts' w)
  fail : ∀ {α : Type} {V : α → α → Prop}, Φ V (fail ts 10) (fail ts' 10)
  sel : ∀ {α : Type} {V : α → α → Prop} (F F' : Str → PM α), (∀ w, Φ V (F w) (F' w) ∨ (w ≠ wEnd ∧ F w = Proofs.YtmkehecapjdfdaaGreatDoor.fail ts 11 ∧ F' w = Proofs.YtmkehecapjdfdaaGreatDoor.fail ts' 11)) → Φ V (fun s => F (wd ts s.nx) s) (fun s => F' (wd ts' s.nx) s)
  off : ∀ {α : Type} {V : α → α → Prop} (F F' : Nat → PM α), (∀ k k', Φ V (F k) (F' k')) → Φ V (fun s => F (tk ts s.nx).off s) (fun s => F' (tk ts' s.nx).off s)
  typed : ∀ k l l', LEq l l' → (Φ TEq (typedName ts k) (typedName ts' k)) → Φ LEq (typedMore ts k ts.length l) (typedMore ts' k ts'.length l')
  args : ∀ (e e' : PM T), Mv 1 e → Mv 1 e' → Φ TEq e e' → Φ LEq (argsMore ts e ts.length []) (argsMore ts' e' ts'.length [])
  stmts : ∀ (m m' : PM T), Mv 1 m → Mv 1 m' → Φ TEq m m' → Φ LEq (stmts ts m (2 * ts.length + 2) []) (stmts ts' m' (2 * ts'.length + 2) [])
variable {ts ts'} {Φ : ∀ {α : Type}, (α → α → Prop) → PM α → PM α → Prop} (C : Clo ts ts' Φ)
include C
theorem Clo.ite {α : Type} {V : α → α → Prop} {m m' n n' : PM α} (x : Str) (h : Φ V m m') (k : Φ V n n') : Φ V (fun s => if wd ts s.nx = x then m s else n s) (fun s => if wd ts' s.nx = x then m' s else n' s) := by
  have := C.sel (V := V) (fun w => if w = x then m else n) (fun w => if w = x then m' else n') (fun w => .inl (by
    by_cases e : w = x
    · simp only [if_pos e]; exact h
    · simp only [if_neg e]; exact k))
  have e1 : (fun s => (if wd ts s.nx = x then m else n) s) = (fun s => if wd ts s.nx = x then m s else n s) := by funext s; split <;> rfl
  have e2 : (fun s => (if wd ts' s.nx = x then m' else n') s) = (fun s => if wd ts' s.nx = x then m' s else n' s) := by funext s; split <;> rfl
  rw [e1, e2] at this
  exact this
/-- The method is chosen by the word. -/
theorem Clo.opt {α : Type} {V : α → α → Prop} (F F' : Str → Option (PM α)) (h : ∀ w, (F w = none ∧ F' w = none) ∨ ∃ m m', F w = some m ∧ F' w = some m' ∧ Φ V m m') :
    Φ V (fun s => orFail ts (F (wd ts s.nx)) s) (fun s => orFail ts' (F' (wd ts' s.nx)) s) :=
  C.sel (V := V) (fun w => orFail ts (F w)) (fun w => orFail ts' (F' w)) (fun w => .inl (by
    rcases h w with ⟨h1, h2⟩ | ⟨m, m', h1, h2, h3⟩
    · simp only [h1, h2, orFail]; exact C.fail
    · simp only [h1, h2, orFail]; exact h3))
theorem c_take (w : Str) (h : w ≠ wEnd) {β : Type} {W : β → β → Prop} {f f' : Tok → PM β} (k : ∀ a a', KEq a a' → Φ W (f a) (f' a')) : Φ W (bnd (take ts w) f) (bnd (take ts' w) f') := C.bnd (C.take w h) k
theorem c_name : Φ Eq (name ts) (name ts') := C.bnd (C.take wName (by decide)) fun _ _ h => C.ret h.2.1
theorem c_width : Φ Eq (width ts) (width ts') := C.bnd (C.take wType (by decide)) fun _ _ h => C.ret h.2.2
theorem c_begin (k : Nat) (w : Str) (h : w ≠ wEnd) : Φ TEq (begin_ ts k w) (begin_ ts' k w) := C.bnd (C.take w h) fun _ _ _ => C.ret (teq_mk LEq.nil)
theorem c_typedName (k : Nat) : Φ TEq (typedName ts k) (typedName ts' k) := C.bnd (C.take wName (by decide)) fun a a' h => C.bnd (C.take pColon (by decide)) fun _ _ _ => C.bnd (c_width C) fun x x' e => C.ret (by rw [h.2.1, e]; exact teq_mk LEq.nil)
theorem c_typedNames (k : Nat) : Φ LEq (typedNames ts k) (typedNames ts' k) := C.bnd (c_typedName C k) fun _ _ h => C.typed k _ _ (LEq.one h) (c_typedName C k)
variable {e e' b b' : PM T} (me : Mv 1 e) (me' : Mv 1 e') (he : Φ TEq e e') (hb : Φ TEq b b')
theorem c_part : Φ Eq (partOf ts) (partOf ts') := C.bnd (C.take pDot (by decide)) fun _ _ _ => c_name C
theorem c_readNumber : Φ TEq (readNumber ts) (readNumber ts') := C.bnd (C.take wNumber (by decide)) fun a a' h => C.bnd (C.take pColon (by decide)) fun _ _ _ => C.bnd (c_width C) fun x x' k => C.ret (by rw [h.2.2, k]; exact teq_mk LEq.nil)
theorem c_readLen : Φ TEq (readLen ts) (readLen ts') := c_begin C _ _ (by decide)
omit C in
theorem sgn_end {n : Nat} (h : signOf wEnd 1 signWords = some n) : False := by revert h; simp [signOf, signWords, wEnd]
omit C in
theorem sign_form (ts : List PTok) : sign ts = fun s => orFail ts ((signOf (wd ts s.nx) 1 signWords).map fun n => bnd (take ts (wd ts s.nx)) fun _ => ret n) s := by
  funext s; unfold sign
  cases signOf (wd ts s.nx) 1 signWords <;> rfl
theorem c_sign : Φ Eq (sign ts) (sign ts') := by
  rw [sign_form, sign_form]
  refine C.opt (V := Eq) (fun w => (signOf w 1 signWords).map fun n => bnd (take ts w) fun _ => ret n) (fun w => (signOf w 1 signWords).map fun n => bnd (take ts' w) fun _ => ret n) (fun w => ?_)
  cases h : signOf w 1 signWords with
  | none => exact .inl ⟨rfl, rfl⟩
  | some n => exact .inr ⟨_, _, rfl, rfl, C.bnd (C.take w (by intro e; rw [e] at h; exact sgn_end h)) fun _ _ _ => C.ret rfl⟩
include he
theorem c_inBrackets : Φ TEq (inBrackets ts e) (inBrackets ts' e') := C.bnd (C.take pLK (by decide)) fun _ _ _ => C.bnd he fun _ _ h => C.bnd (C.take pRK (by decide)) fun _ _ _ => C.ret h
theorem c_readIn : Φ TEq (readIn ts e) (readIn ts' e') := C.bnd (c_begin C _ _ (by decide)) fun _ _ _ => C.bnd (c_inBrackets C he) fun _ _ h => C.ret (teq_mk (LEq.one h))
theorem c_readBin : Φ TEq (readBin ts e) (readBin ts' e') := C.bnd (c_begin C _ _ (by decide)) fun _ _ _ => C.bnd he fun _ _ h => C.bnd (c_sign C) fun _ _ k => C.bnd he fun _ _ g => C.bnd (C.take pRP (by decide)) fun _ _ _ => C.ret (by rw [k]; exact teq_mk (LEq.two h g))
theorem c_readNot : Φ TEq (readNot ts e) (readNot ts' e') := C.bnd (c_begin C _ _ (by decide)) fun _ _ _ => C.bnd he fun _ _ h => C.ret (teq_mk (LEq.one h))
theorem c_cast (k o o' : Nat) : Φ TEq (cast ts e k o) (cast ts' e' k o') := C.bnd (c_width C) fun _ _ x => C.bnd (C.take pLP (by decide)) fun _ _ _ => C.bnd he fun _ _ h => C.bnd (C.take pRP (by decide)) fun _ _ _ => C.ret (by rw [x]; exact teq_mk (LEq.one h))
theorem c_readCast : Φ TEq (readCast ts e) (readCast ts' e') := C.off (fun k => cast ts e 29 k) (fun k => cast ts' e' 29 k) fun _ _ => c_cast C he 29 _ _
theorem c_readSext : Φ TEq (readSext ts e) (readSext ts' e') := C.bnd (c_begin C _ _ (by decide)) fun _ _ _ => c_cast C he _ _ _
include me me'
theorem c_arguments : Φ LEq (arguments ts e) (arguments ts' e') := C.bnd (C.take pLP (by decide)) fun _ _ _ => C.bnd (C.args e e' me me' he) fun _ _ h => C.bnd (C.take pRP (by decide)) fun _ _ _ => C.ret h
theorem c_varRest (t t' : Tok) (ht : KEq t t') : Φ TEq (varRest ts e t) (varRest ts' e' t') := by
  unfold varRest
  rw [ht.2.1]
  exact C.ite pLK (C.bnd (c_inBrackets C he) fun _ _ h => C.ret (teq_mk (LEq.one h))) (C.ite pDot (C.bnd (c_part C) fun _ _ h => C.ret (by rw [h]; exact teq_mk LEq.nil)) (C.ite pLP (C.bnd (c_arguments C me me' he) fun _ _ h => C.ret (teq_mk h)) (C.ret (teq_mk LEq.nil))))
theorem c_readVariable : Φ TEq (readVariable ts e) (readVariable ts' e') := C.bnd (C.take wName (by decide)) fun a a' h => c_varRest C me me' he a a' h
theorem c_exprOf (w : Str) : (exprOf ts e w = none ∧ exprOf ts' e' w = none) ∨ ∃ m m', exprOf ts e w = some m ∧ exprOf ts' e' w = some m' ∧ Φ TEq m m' := by
  unfold exprOf
  repeat' split
  · exact .inr ⟨_, _, rfl, rfl, c_readIn C he⟩
  · exact .inr ⟨_, _, rfl, rfl, c_readLen C⟩
  · exact .inr ⟨_, _, rfl, rfl, c_readBin C he⟩
  · exact .inr ⟨_, _, rfl, rfl, c_readNot C he⟩
  · exact .inr ⟨_, _, rfl, rfl, c_readSext C he⟩
  · exact .inr ⟨_, _, rfl, rfl, c_readNumber C⟩
  · exact .inr ⟨_, _, rfl, rfl, c_readVariable C me me' he⟩
  · exact .inr ⟨_, _, rfl, rfl, c_readCast C he⟩
  · exact .inl ⟨rfl, rfl⟩
omit me me' he
omit C in
theorem expr0_form (ts : List PTok) : expression ts 0 = fun s => orDeep ts (exprOf ts (Proofs.YtmkehecapjdfdaaGreatDoor.fail ts 11) (wd ts s.nx)) s := by
  funext s; unfold expression
  cases exprOf ts (Proofs.YtmkehecapjdfdaaGreatDoor.fail ts 11) (wd ts s.nx) <;> rfl
omit C in
theorem expr1_form (ts : List PTok) (f : Nat) : expression ts (f + 1) = fun s => orFail ts (exprOf ts (expression ts f) (wd ts s.nx)) s := by
  rw [expression.eq_2]
  funext s
  cases exprOf ts (expression ts f) (wd ts s.nx) <;> rfl
omit C in
theorem stmt_form (ts : List PTok) (e b : PM T) : statement ts e b = fun s => orFail ts (stmtOf ts e b (wd ts s.nx)) s := by
  funext s; unfold statement
  cases stmtOf ts e b (wd ts s.nx) <;> rfl
omit C in
theorem exprOf_none (ts ts' : List PTok) (e e' : PM T) (w : Str) : exprOf ts e w = none ↔ exprOf ts' e' w = none := by
  unfold exprOf
  repeat' split
  all_goals simp
theorem c_expression : ∀ f, Φ TEq (expression ts f) (expression ts' f)
  | 0 => by
    rw [expr0_form, expr0_form]
    refine C.sel (V := TEq) (fun w => orDeep ts (exprOf ts (Proofs.YtmkehecapjdfdaaGreatDoor.fail ts 11) w)) (fun w => orDeep ts' (exprOf ts' (Proofs.YtmkehecapjdfdaaGreatDoor.fail ts' 11) w)) (fun w => ?_)
    have hn : exprOf ts (Proofs.YtmkehecapjdfdaaGreatDoor.fail ts 11) wEnd = none := rfl
    have key := exprOf_none ts ts' (Proofs.YtmkehecapjdfdaaGreatDoor.fail ts 11) (Proofs.YtmkehecapjdfdaaGreatDoor.fail ts' 11) w
    cases h : exprOf ts (Proofs.YtmkehecapjdfdaaGreatDoor.fail ts 11) w with
    | none => left; rw [key.1 h]; exact C.fail
    | some m =>
      cases h2 : exprOf ts' (Proofs.YtmkehecapjdfdaaGreatDoor.fail ts' 11) w with
      | none => rw [key.2 h2] at h; cases h
      | some _ => exact .inr ⟨(by rintro rfl; rw [hn] at h; cases h), rfl, rfl⟩
  | f + 1 => by
    have ih := c_expression f
    rw [expr1_form, expr1_form]
    exact C.opt (V := TEq) (exprOf ts (expression ts f)) (exprOf ts' (expression ts' f)) (c_exprOf C (mv_expression ts f) (mv_expression ts' f) ih)
include he
theorem c_value {g g' : T → T} (hg : ∀ a a', TEq a a' → TEq (g a) (g' a')) : Φ TEq (value ts e g) (value ts' e' g') := C.bnd he fun _ _ h => C.bnd (C.take pSemi (by decide)) fun _ _ _ => C.ret (hg _ _ h)
theorem c_readNamed (k : Nat) (w : Str) (h : w ≠ wEnd) : Φ TEq (readNamed ts e k w) (readNamed ts' e' k w) := C.bnd (c_begin C _ _ h) fun _ _ _ => C.bnd (c_name C) fun x x' hx => C.bnd (C.take pEq (by decide)) fun _ _ _ => c_value C he fun a a' h => by rw [hx]; exact teq_mk (LEq.one h)
theorem c_readReturn : Φ TEq (readReturn ts e) (readReturn ts' e') := C.bnd (c_begin C _ _ (by decide)) fun _ _ _ => c_value C he fun a a' h => teq_mk (LEq.one h)
theorem c_asgRest (t t' : Tok) (ht : KEq t t') : Φ TEq (asgRest ts e t) (asgRest ts' e' t') := by
  unfold asgRest
  rw [ht.2.1]
  exact C.ite pLK (C.bnd (c_inBrackets C he) fun _ _ k => C.bnd (C.take pEq (by decide)) fun _ _ _ => c_value C he fun a a' h => teq_mk (LEq.two k h)) (C.ite pDot (C.bnd (c_part C) fun _ _ q => C.bnd (C.take pEq (by decide)) fun _ _ _ => c_value C he fun a a' h => by rw [q]; exact teq_mk (LEq.one h)) (C.bnd (C.take pEq (by decide)) fun _ _ _ => c_value C he fun a a' h => teq_mk (LEq.one h)))
theorem c_readAssignment : Φ TEq (readAssignment ts e) (readAssignment ts' e') := C.bnd (C.take wName (by decide)) fun a a' h => c_asgRest C he a a' h
theorem c_readNew : Φ TEq (readNew ts e) (readNew ts' e') := C.bnd (c_begin C _ _ (by decide)) fun _ _ _ => C.bnd (c_name C) fun _ _ x => C.bnd (C.take pColon (by decide)) fun _ _ _ => C.bnd (c_width C) fun _ _ y => C.bnd (c_inBrackets C he) fun _ _ k => C.bnd (C.take pSemi (by decide)) fun _ _ _ => C.ret (by rw [x, y]; exact teq_mk (LEq.one k))
omit he
theorem c_readPair (k : Nat) (w z : Str) (h : w ≠ wEnd) (hz : z ≠ wEnd) : Φ TEq (readPair ts k w z) (readPair ts' k w z) := C.bnd (c_begin C _ _ h) fun _ _ _ => C.bnd (c_name C) fun _ _ x => C.bnd (C.take z hz) fun _ _ _ => C.bnd (c_name C) fun _ _ y => C.bnd (C.take pSemi (by decide)) fun _ _ _ => C.ret (by rw [x, y]; exact teq_mk LEq.nil)
theorem c_readFree : Φ TEq (readFree ts) (readFree ts') := C.bnd (c_begin C _ _ (by decide)) fun _ _ _ => C.bnd (c_name C) fun _ _ x => C.bnd (C.take pSemi (by decide)) fun _ _ _ => C.ret (by rw [x]; exact teq_mk LEq.nil)
theorem c_readAccept : Φ TEq (readAccept ts) (readAccept ts') := C.bnd (c_begin C _ _ (by decide)) fun _ _ h => C.bnd (C.take pSemi (by decide)) fun _ _ _ => C.ret h
theorem c_readReject : Φ TEq (readReject ts) (readReject ts') := C.bnd (c_begin C _ _ (by decide)) fun _ _ _ => C.bnd (C.take wNumber (by decide)) fun _ _ x => C.bnd (C.take pSemi (by decide)) fun _ _ _ => C.ret (by rw [x.2.2]; exact teq_mk LEq.nil)
include hb
theorem c_ifRest (o o' : Nat) {x x' k k' : T} (hx : TEq x x') (hk : TEq k k') : Φ TEq (ifRest ts b o x k) (ifRest ts' b' o' x' k') := C.ite kElse (C.bnd (C.take kElse (by decide)) fun _ _ _ => C.bnd hb fun _ _ h => C.ret (teq_mk (LEq.three hx hk h))) (C.ret (teq_mk (LEq.two hx hk)))
include he
theorem c_readIf : Φ TEq (readIf ts e b) (readIf ts' e' b') := C.bnd (c_begin C _ _ (by decide)) fun _ _ _ => C.bnd he fun _ _ x => C.bnd hb fun _ _ k => c_ifRest C hb _ _ x k
theorem c_readWhile : Φ TEq (readWhile ts e b) (readWhile ts' e' b') := C.bnd (c_begin C _ _ (by decide)) fun _ _ _ => C.bnd he fun _ _ x => C.bnd hb fun _ _ k => C.ret (teq_mk (LEq.two x k))
theorem c_stmtOf (w : Str) : (stmtOf ts e b w = none ∧ stmtOf ts' e' b' w = none) ∨ ∃ m m', stmtOf ts e b w = some m ∧ stmtOf ts' e' b' w = some m' ∧ Φ TEq m m' := by
  unfold stmtOf
  by_cases hkLet : w = kLet
  · rw [if_pos hkLet, if_pos hkLet]
    exact .inr ⟨_, _, rfl, rfl, c_readNamed C he _ _ (by decide)⟩
  rw [if_neg hkLet, if_neg hkLet]
  by_cases hkNew : w = kNew
  · rw [if_pos hkNew, if_pos hkNew]
    exact .inr ⟨_, _, rfl, rfl, c_readNew C he⟩
  rw [if_neg hkNew, if_neg hkNew]
  by_cases hkMake : w = kMake
  · rw [if_pos hkMake, if_pos hkMake]
    exact .inr ⟨_, _, rfl, rfl, c_readPair C _ _ _ (by decide) (by decide)⟩
  rw [if_neg hkMake, if_neg hkMake]
  by_cases hkFree : w = kFree
  · rw [if_pos hkFree, if_pos hkFree]
    exact .inr ⟨_, _, rfl, rfl, c_readFree C⟩
  rw [if_neg hkFree, if_neg hkFree]
  by_cases hkSame : w = kSame
  · rw [if_pos hkSame, if_pos hkSame]
    exact .inr ⟨_, _, rfl, rfl, c_readPair C _ _ _ (by decide) (by decide)⟩
  rw [if_neg hkSame, if_neg hkSame]
  by_cases hkIf : w = kIf
  · rw [if_pos hkIf, if_pos hkIf]
    exact .inr ⟨_, _, rfl, rfl, c_readIf C he hb⟩
  rw [if_neg hkIf, if_neg hkIf]
  by_cases hkWhile : w = kWhile
  · rw [if_pos hkWhile, if_pos hkWhile]
    exact .inr ⟨_, _, rfl, rfl, c_readWhile C he hb⟩
  rw [if_neg hkWhile, if_neg hkWhile]
  by_cases hkEmit : w = kEmit
  · rw [if_pos hkEmit, if_pos hkEmit]
    exact .inr ⟨_, _, rfl, rfl, c_readNamed C he _ _ (by decide)⟩
  rw [if_neg hkEmit, if_neg hkEmit]
  by_cases hkAccept : w = kAccept
  · rw [if_pos hkAccept, if_pos hkAccept]
    exact .inr ⟨_, _, rfl, rfl, c_readAccept C⟩
  rw [if_neg hkAccept, if_neg hkAccept]
  by_cases hkReject : w = kReject
  · rw [if_pos hkReject, if_pos hkReject]
    exact .inr ⟨_, _, rfl, rfl, c_readReject C⟩
  rw [if_neg hkReject, if_neg hkReject]
  by_cases hkReturn : w = kReturn
  · rw [if_pos hkReturn, if_pos hkReturn]
    exact .inr ⟨_, _, rfl, rfl, c_readReturn C he⟩
  rw [if_neg hkReturn, if_neg hkReturn]
  by_cases hwName : w = wName
  · rw [if_pos hwName, if_pos hwName]
    exact .inr ⟨_, _, rfl, rfl, c_readAssignment C he⟩
  rw [if_neg hwName, if_neg hwName]
  exact .inl ⟨rfl, rfl⟩
theorem c_statement : Φ TEq (statement ts e b) (statement ts' e' b') := by
  rw [stmt_form, stmt_form]
  exact C.opt _ _ (c_stmtOf C he hb)
omit he hb
theorem c_readBlock {m m' : PM T} (hm : Mv 1 m) (hm' : Mv 1 m') (h : Φ TEq m m') : Φ TEq (readBlock ts m) (readBlock ts' m') := C.bnd (c_begin C _ _ (by decide)) fun _ _ _ => C.bnd (C.stmts m m' hm hm' h) fun _ _ l => C.bnd (C.take pRB (by decide)) fun _ _ _ => C.ret (teq_mk l)
theorem c_block : ∀ f, Φ TEq (block ts f) (block ts' f)
  | 0 => by
    have := C.sel (V := TEq) (fun w => if w = pLB then Proofs.YtmkehecapjdfdaaGreatDoor.fail ts 11 else Proofs.YtmkehecapjdfdaaGreatDoor.fail ts 10) (fun w => if w = pLB then Proofs.YtmkehecapjdfdaaGreatDoor.fail ts' 11 else Proofs.YtmkehecapjdfdaaGreatDoor.fail ts' 10) (fun w => by
      by_cases h : w = pLB
      · right; simp only [if_pos h, and_self, and_true]; rw [h]; decide
      · left; simp only [if_neg h]; exact C.fail)
    have e1 : ∀ ts : List PTok, (fun s : St => (if wd ts s.nx = pLB then Proofs.YtmkehecapjdfdaaGreatDoor.fail (α := T) ts 11 else Proofs.YtmkehecapjdfdaaGreatDoor.fail ts 10) s) = block ts 0 := by
      intro ts; funext s; unfold block; split <;> rfl
    rw [e1, e1] at this
    exact this
  | f + 1 => by
    rw [block.eq_2, block.eq_2]
    exact C.ite pLB (c_readBlock C (mv_statement ts (mv_expression ts f) (mv_block ts f)) (mv_statement ts' (mv_expression ts' f) (mv_block ts' f)) (c_statement C (c_expression C f) (c_block f))) C.fail
theorem c_readStruct : Φ TEq (readStruct ts) (readStruct ts') := C.bnd (c_begin C _ _ (by decide)) fun _ _ _ => C.bnd (c_name C) fun _ _ x => C.bnd (C.take pLB (by decide)) fun _ _ _ => C.bnd (c_typedNames C _) fun _ _ l => C.bnd (C.take pRB (by decide)) fun _ _ _ => C.ret (by rw [x]; exact teq_mk l)
include hb
theorem c_funcRest (o o' : Nat) (x : Str) (l l' : List T) (hl : LEq l l') : Φ TEq (funcRest ts b o x l) (funcRest ts' b' o' x l') := C.bnd (C.take pRP (by decide)) fun _ _ _ => C.bnd (c_width C) fun _ _ y => C.bnd hb fun _ _ k => C.ret (by rw [y]; exact teq_mk (hl.snoc k))
theorem c_readFunc : Φ TEq (readFunc ts b) (readFunc ts' b') := C.bnd (c_begin C _ _ (by decide)) fun _ _ _ => C.bnd (c_name C) fun _ _ x => C.bnd (C.take pLP (by decide)) fun _ _ _ => by
  rw [x]
  exact C.ite pRP (c_funcRest C hb _ _ _ _ _ LEq.nil) (C.bnd (c_typedNames C 5) fun _ _ l => c_funcRest C hb _ _ _ _ _ l)
theorem c_readParse : Φ TEq (readParse ts b) (readParse ts' b') := C.bnd (C.take kParse (by decide)) fun _ _ _ => hb
theorem c_item : Φ TEq (item ts b) (item ts' b') := C.ite kStruct (c_readStruct C) (C.ite kFunc (c_readFunc C hb) (C.ite kParse (c_readParse C hb) C.fail))
end
end Go.Proofs.YtmkehecapjdfdaaGreatDoor
