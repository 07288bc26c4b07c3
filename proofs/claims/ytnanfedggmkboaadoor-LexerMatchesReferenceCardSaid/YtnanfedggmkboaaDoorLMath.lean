/- The lexer's plain mathematics: gaps, tokens, what a token reads as, what a source is split into. Nothing of the program stands here. -/
import Derived.Lib.ParseIntB
import Derived.Lib.ItoaNum
namespace Go.Proofs.YtnanfedggmkboaaDoor
open Go

def isLet (b : UInt8) : Bool := 97 ≤ b.toNat && b.toNat ≤ 122
def isDig (b : UInt8) : Bool := 48 ≤ b.toNat && b.toNat ≤ 57
def isBlk (b : UInt8) : Bool := b.toNat == 9 || b.toNat == 10 || b.toNat == 32
/-- A sign by itself. -/
def isSgn (b : UInt8) : Bool := [123, 125, 40, 41, 91, 93, 44, 59, 58, 46, 61, 60, 62, 43, 45, 42, 47, 37, 38, 124, 94, 126].contains b.toNat
/-- A sign with an equals sign behind it. -/
def isEq (b : UInt8) : Bool := b.toNat == 61 || b.toNat == 33 || b.toNat == 60 || b.toNat == 62
/-- A sign with the same byte behind it. -/
def isDbl (b : UInt8) : Bool := b.toNat == 60 || b.toNat == 62
def isWrd (b : UInt8) : Bool := isLet b || isDig b
def notNl (b : UInt8) : Bool := b.toNat != 10

/-- How many of the first bytes are admitted. -/
def run (p : UInt8 → Bool) : List UInt8 → Nat
  | [] => 0
  | b :: l => if p b then run p l + 1 else 0

theorem run_le (p : UInt8 → Bool) : ∀ l, run p l ≤ l.length
  | [] => Nat.le_refl _
  | b :: l => by
    have := run_le p l
    unfold run; split <;> simp <;> omega

/-- The length of the gap that a source begins with. -/
def gapC : Bool → List UInt8 → Nat
  | _, [] => 0
  | false, b :: l => if b.toNat == 35 then gapC true l + 1 else if isBlk b then gapC false l + 1 else 0
  | true, b :: l => if b.toNat == 10 then gapC false l + 1 else gapC true l + 1
def gapLen (l : List UInt8) : Nat := gapC false l

theorem gapC_le : ∀ c l, gapC c l ≤ l.length
  | _, [] => by simp [gapC]
  | false, b :: l => by
    have h1 := gapC_le true l
    have h2 := gapC_le false l
    unfold gapC; split
    · simp; omega
    · split <;> simp; omega
  | true, b :: l => by
    have h1 := gapC_le true l
    have h2 := gapC_le false l
    unfold gapC; split <;> simp <;> omega
theorem gapLen_le (l : List UInt8) : gapLen l ≤ l.length := gapC_le false l

def signLen : List UInt8 → Nat
  | [] => 0
  | [a] => if isSgn a then 1 else 0
  | a :: b :: _ => if (b.toNat == 61 && isEq a) || (b == a && isDbl a) then 2 else if isSgn a then 1 else 0

theorem signLen_le : ∀ l, signLen l ≤ l.length
  | [] => Nat.le_refl _
  | [a] => by simp only [signLen]; split <;> simp
  | a :: b :: l => by
    have : (a :: b :: l).length = l.length + 2 := rfl
    simp only [signLen]; split
    · omega
    · split <;> omega

/-- The length of the token that a source begins with, 0 if it begins with none. -/
def tokLen : List UInt8 → Nat
  | [] => 0
  | b :: l => if isLet b then run isWrd (b :: l) else if isDig b then run isDig (b :: l) else signLen (b :: l)

theorem tokLen_le : ∀ l, tokLen l ≤ l.length
  | [] => Nat.le_refl _
  | b :: l => by
    by_cases h1 : isLet b = true
    · rw [tokLen, if_pos h1]; exact run_le _ _
    · rw [tokLen, if_neg h1]
      by_cases h2 : isDig b = true
      · rw [if_pos h2]; exact run_le _ _
      · rw [if_neg h2]; exact signLen_le _

/-- The width that a word is the type of, 0 if it is none. -/
def widthOf : List UInt8 → Nat
  | [u, a] => if u.toNat == 117 && 49 ≤ a.toNat && a.toNat ≤ 57 then a.toNat - 48 else 0
  | [u, a, b] => if u.toNat == 117 && 49 ≤ a.toNat && a.toNat ≤ 57 && 48 ≤ b.toNat && b.toNat ≤ 57 && 10 * (a.toNat - 48) + (b.toNat - 48) ≤ 64 then 10 * (a.toNat - 48) + (b.toNat - 48) else 0
  | _ => 0

structure Tok where
  kind : Nat
  text : List UInt8
  num : Nat
  off : Nat
  deriving DecidableEq

/-- What a token's text reads as, and its error. -/
def readT : List UInt8 → (Nat × List UInt8 × Nat) × Nat
  | [] => ((4, [], 0), 0)
  | b :: l =>
    if isLet b then
      if widthOf (b :: l) ≠ 0 then ((3, [], widthOf (b :: l)), 0)
      else if 12 < (b :: l).length then ((0, [], 0), 3) else ((1, b :: l, 0), 0)
    else if isDig b then
      if l ≠ [] ∧ b.toNat = 48 then ((0, [], 0), 10)
      else match Lib.parseUintB 64 (b :: l) with
        | .ok u => ((2, [], u), 0)
        | _ => ((0, [], 0), 3)
    else ((4, b :: l, 0), 0)

def mkTok (x : Nat × List UInt8 × Nat) (off : Nat) : Tok := ⟨x.1, x.2.1, x.2.2, off⟩

/-- What a source is split into: the tokens that can be read, the error (0: none) and its offset; l: the rest, behind a gap; at_: its offset; k: how many tokens stand before it. -/
def lexL : Nat → List UInt8 → Nat → Nat → List Tok × Nat × Nat
  | 0, _, _, _ => ([], 0, 0)
  | f + 1, l, at_, k =>
    if l = [] then ([], 0, 0)
    else if tokLen l = 0 then ([], 10, at_)
    else if k = 1500 then ([], 2, at_)
    else
      if (readT (l.take (tokLen l))).2 ≠ 0 then ([], (readT (l.take (tokLen l))).2, at_)
      else
        let r := l.drop (tokLen l)
        let z := lexL f (r.drop (gapLen r)) (at_ + tokLen l + gapLen r) (k + 1)
        (mkTok (readT (l.take (tokLen l))).1 at_ :: z.1, z.2)

/-- From the first token on. -/
def lex0 (s : List UInt8) : List Tok × Nat × Nat := lexL (s.length + 1) (s.drop (gapLen s)) (gapLen s) 0

/-- What Lex answers: the tokens, the error, its offset. -/
def lexS (s : List UInt8) : List Tok × Nat × Nat :=
  if 4000 < s.length then ([], 2, 0)
  else if (lex0 s).2.1 = 0 then ((lex0 s).1, 0, 0) else ([], (lex0 s).2)

/-- The state of the loop: what has been read so far. -/
def lexAt (s : List UInt8) (at_ : Nat) (ts : List Tok) : Prop :=
  lex0 s =
    (ts ++ (lexL (s.length + 1 - ts.length) (s.drop at_) at_ ts.length).1, (lexL (s.length + 1 - ts.length) (s.drop at_) at_ ts.length).2) ∧ ts.length ≤ at_ ∧ at_ ≤ s.length

theorem lexAt_start (s : List UInt8) : lexAt s (gapLen s) [] := by
  refine ⟨by simp [lex0], by simp, gapLen_le s⟩

theorem lexL_succ (f : Nat) (l : List UInt8) (at_ k : Nat) : lexL (f + 1) l at_ k =
    if l = [] then ([], 0, 0)
    else if tokLen l = 0 then ([], 10, at_)
    else if k = 1500 then ([], 2, at_)
    else
      if (readT (l.take (tokLen l))).2 ≠ 0 then ([], (readT (l.take (tokLen l))).2, at_)
      else
        (mkTok (readT (l.take (tokLen l))).1 at_ :: (lexL f ((l.drop (tokLen l)).drop (gapLen (l.drop (tokLen l)))) (at_ + tokLen l + gapLen (l.drop (tokLen l))) (k + 1)).1,
          (lexL f ((l.drop (tokLen l)).drop (gapLen (l.drop (tokLen l)))) (at_ + tokLen l + gapLen (l.drop (tokLen l))) (k + 1)).2) := rfl

/-- One token more. -/
theorem lexAt_step {s : List UInt8} {at_ : Nat} {ts : List Tok} (h : lexAt s at_ ts) (h1 : at_ < s.length) (h2 : tokLen (s.drop at_) ≠ 0) (h3 : ts.length ≠ 1500)
    (h4 : (readT ((s.drop at_).take (tokLen (s.drop at_)))).2 = 0) :
    lexAt s (at_ + tokLen (s.drop at_) + gapLen (s.drop (at_ + tokLen (s.drop at_)))) (ts ++ [mkTok (readT ((s.drop at_).take (tokLen (s.drop at_)))).1 at_]) := by
  obtain ⟨e, hk, ha⟩ := h
  have hne : s.drop at_ ≠ [] := by simp; omega
  have hl := tokLen_le (s.drop at_)
  have hg := gapLen_le (s.drop (at_ + tokLen (s.drop at_)))
  simp only [List.length_drop] at hl hg
  obtain ⟨f, hf⟩ : ∃ f, s.length + 1 - ts.length = f + 1 := ⟨s.length - ts.length, by omega⟩
  rw [hf, lexL_succ, if_neg hne, if_neg h2, if_neg h3, if_neg (by rw [h4]; simp)] at e
  refine ⟨?_, by simp; omega, by omega⟩
  rw [e]
  have hf2 : s.length + 1 - (ts ++ [mkTok (readT ((s.drop at_).take (tokLen (s.drop at_)))).1 at_]).length = f := by simp; omega
  rw [hf2]
  simp [List.drop_drop]

/-- The end: no error. -/
theorem lexAt_done {s : List UInt8} {at_ : Nat} {ts : List Tok} (h : lexAt s at_ ts) (hs : s.length ≤ 4000) (h1 : ¬ at_ < s.length) : lexS s = (ts, 0, 0) := by
  obtain ⟨e, hk, ha⟩ := h
  obtain ⟨f, hf⟩ : ∃ f, s.length + 1 - ts.length = f + 1 := ⟨s.length - ts.length, by omega⟩
  have hd : s.drop at_ = [] := by simp; omega
  rw [hf, lexL_succ, if_pos hd] at e
  unfold lexS
  rw [if_neg (by omega), e]
  simp

/-- The end: an error. -/
theorem lexAt_err {s : List UInt8} {at_ : Nat} {ts : List Tok} (h : lexAt s at_ ts) (hs : s.length ≤ 4000) (h1 : at_ < s.length) {x : Nat} (hx : x ≠ 0)
    (h2 : (tokLen (s.drop at_) = 0 ∧ x = 10) ∨ (tokLen (s.drop at_) ≠ 0 ∧ ts.length = 1500 ∧ x = 2) ∨ (tokLen (s.drop at_) ≠ 0 ∧ ts.length ≠ 1500 ∧ x = (readT ((s.drop at_).take (tokLen (s.drop at_)))).2)) : lexS s = ([], x, at_) := by
  obtain ⟨e, hk, ha⟩ := h
  obtain ⟨f, hf⟩ : ∃ f, s.length + 1 - ts.length = f + 1 := ⟨s.length - ts.length, by omega⟩
  have hne : s.drop at_ ≠ [] := by simp; omega
  rw [hf, lexL_succ, if_neg hne] at e
  unfold lexS
  rw [if_neg (by omega), e]
  rcases h2 with ⟨a, rfl⟩ | ⟨a, b, rfl⟩ | ⟨a, b, rfl⟩
  · rw [if_pos a]; simp
  · rw [if_neg a, if_pos b]; simp
  · rw [if_neg a, if_neg b, if_pos hx]; simp [hx]

theorem lexS_long {s : List UInt8} (h : 4000 < s.length) : lexS s = ([], 2, 0) := by unfold lexS; rw [if_pos h]
end Go.Proofs.YtnanfedggmkboaaDoor
