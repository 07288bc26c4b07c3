/- Joined texts: LMath, PMath, LPlain, PMono, PSrc. -/
import Derived.Lib.ParseIntB
import Derived.Lib.ItoaNum
import Derived.WalkKit

/- The lexer's plain mathematics: gaps, tokens, what a token reads as, what a source is split into. Nothing of the program stands here. -/
namespace Go.Proofs.YtmkehecapjdfdaaGreatDoor
open Go

def isLet (b : UInt8) : Bool := 97 ≤ b.toNat && b.toNat ≤ 122
def isDig (b : UInt8) : Bool := 48 ≤ b.toNat && b.toNat ≤ 57
def isBlk (b : UInt8) : Bool := b.toNat == 9 || b.toNat == 10 || b.toNat == 32
/-- A sign by itself. -/
def isSgn (b : UInt8) : Bool := [123, 125, 40, 41, 91, 93, 44, 59, 58, 46, 61, 60, 62, 43, 45, 42, 47, 37, 38, 124, 94, 126].contains b.toNat
/-- A sign with an equals sign behind it. -/
def isEq (b : UInt8) : Bool := b.toNat == 61 || b.toNat == 33 || b.toNat == 60 || b.toNat == 62
/-- A sign with the same byte behind it. -/
def isDbl (b : UInt8) : Bool := b.toNat == 60 || b.toNat == 62
def isWrd (b : UInt8) : Bool := isLet b || isDig b
def notNl (b : UInt8) : Bool := b.toNat != 10

/-- How many of the first bytes are admitted. -/
def run (p : UInt8 → Bool) : List UInt8 → Nat
  | [] => 0
  | b :: l => if p b then run p l + 1 else 0

theorem run_le (p : UInt8 → Bool) : ∀ l, run p l ≤ l.length
  | [] => Nat.le_refl _
  | b :: l => by
    have := run_le p l
    unfold run; split <;> simp <;> omega

/-- The length of the gap that a source begins with. -/
def gapC : Bool → List UInt8 → Nat
  | _, [] => 0
  | false, b :: l => if b.toNat == 35 then gapC true l + 1 else if isBlk b then gapC false l + 1 else 0
  | true, b :: l => if b.toNat == 10 then gapC false l + 1 else gapC true l + 1
def gapLen (l : List UInt8) : Nat := gapC false l

theorem gapC_le : ∀ c l, gapC c l ≤ l.length
  | _, [] => by simp [gapC]
  | false, b :: l => by
    have h1 := gapC_le true l
    have h2 := gapC_le false l
    unfold gapC; split
    · simp; omega
    · split <;> simp; omega
  | true, b :: l => by
    have h1 := gapC_le true l
    have h2 := gapC_le false l
    unfold gapC; split <;> simp <;> omega
theorem gapLen_le (l : List UInt8) : gapLen l ≤ l.length := gapC_le false l

def signLen : List UInt8 → Nat
  | [] => 0
  | [a] => if isSgn a then 1 else 0
  | a :: b :: _ => if (b.toNat == 61 && isEq a) || (b == a && isDbl a) then 2 else if isSgn a then 1 else 0

theorem signLen_le : ∀ l, signLen l ≤ l.length
  | [] => Nat.le_refl _
  | [a] => by simp only [signLen]; split <;> simp
  | a :: b :: l => by
    have : (a :: b :: l).length = l.length + 2 := rfl
    simp only [signLen]; split
    · omega
    · split <;> omega

/-- The length of the token that a source begins with, 0 if it begins with none. -/
def tokLen : List UInt8 → Nat
  | [] => 0
  | b :: l => if isLet b then run isWrd (b :: l) else if isDig b then run isDig (b :: l) else signLen (b :: l)

theorem tokLen_le : ∀ l, tokLen l ≤ l.length
  | [] => Nat.le_refl _
  | b :: l => by
    by_cases h1 : isLet b = true
    · rw [tokLen, if_pos h1]; exact run_le _ _
    · rw [tokLen, if_neg h1]
      by_cases h2 : isDig b = true
      · rw [if_pos h2]; exact run_le _ _
      · rw [if_neg h2]; exact signLen_le _

/-- The width that a word is the type of, 0 if it is none. -/
def widthOf : List UInt8 → Nat
  | [u, a] => if u.toNat == 117 && 49 ≤ a.toNat && a.toNat ≤ 57 then a.toNat - 48 else 0
  | [u, a, b] => if u.toNat == 117 && 49 ≤ a.toNat && a.toNat ≤ 57 && 48 ≤ b.toNat && b.toNat ≤ 57 && 10 * (a.toNat - 48) + (b.toNat - 48) ≤ 64 then 10 * (a.toNat - 48) + (b.toNat - 48) else 0
  | _ => 0

structure Tok where
  kind : Nat
  text : List UInt8
  num : Nat
  off : Nat
  deriving DecidableEq

/-- What a token's text reads as, and its error. -/
def readT : List UInt8 → (Nat × List UInt8 × Nat) × Nat
  | [] => ((4, [], 0), 0)
  | b :: l =>
    if isLet b then
      if widthOf (b :: l) ≠ 0 then ((3, [], widthOf (b :: l)), 0)
      else if 12 < (b :: l).length then ((0, [], 0), 3) else ((1, b :: l, 0), 0)
    else if isDig b then
      if l ≠ [] ∧ b.toNat = 48 then ((0, [], 0), 10)
      else match Lib.parseUintB 64 (b :: l) with
        | .ok u => ((2, [], u), 0)
        | _ => ((0, [], 0), 3)
    else ((4, b :: l, 0), 0)

def mkTok (x : Nat × List UInt8 × Nat) (off : Nat) : Tok := ⟨x.1, x.2.1, x.2.2, off⟩

/-- What a source is split into: the tokens that can be read, the error (0: none) and its offset; l: the rest, behind a gap; at_: its offset; k: how many tokens stand before it. -/
def lexL : Nat → List UInt8 → Nat → Nat → List Tok × Nat × Nat
  | 0, _, _, _ => ([], 0, 0)
  | f + 1, l, at_, k =>
    if l = [] then ([], 0, 0)
    else if tokLen l = 0 then ([], 10, at_)
    else if k = 1500 then ([], 2, at_)
    else
      if (readT (l.take (tokLen l))).2 ≠ 0 then ([], (readT (l.take (tokLen l))).2, at_)
      else
        let r := l.drop (tokLen l)
        let z := lexL f (r.drop (gapLen r)) (at_ + tokLen l + gapLen r) (k + 1)
        (mkTok (readT (l.take (tokLen l))).1 at_ :: z.1, z.2)

/-- From the first token on. -/
def lex0 (s : List UInt8) : List Tok × Nat × Nat := lexL (s.length + 1) (s.drop (gapLen s)) (gapLen s) 0

/-- What Lex answers: the tokens, the error, its offset. -/
def lexS (s : List UInt8) : List Tok × Nat × Nat :=
  if 4000 < s.length then ([], 2, 0)
  else if (lex0 s).2.1 = 0 then ((lex0 s).1, 0, 0) else ([], (lex0 s).2)

/-- The state of the loop: what has been read so far. -/
def lexAt (s : List UInt8) (at_ : Nat) (ts : List Tok) : Prop :=
  lex0 s =
    (ts ++ (lexL (s.length + 1 - ts.length) (s.drop at_) at_ ts.length).1, (lexL (s.length + 1 - ts.length) (s.drop at_) at_ ts.length).2) ∧ ts.length ≤ at_ ∧ at_ ≤ s.length

theorem lexAt_start (s : List UInt8) : lexAt s (gapLen s) [] := by
  refine ⟨by simp [lex0], by simp, gapLen_le s⟩

theorem lexL_succ (f : Nat) (l : List UInt8) (at_ k : Nat) : lexL (f + 1) l at_ k =
    if l = [] then ([], 0, 0)
    else if tokLen l = 0 then ([], 10, at_)
    else if k = 1500 then ([], 2, at_)
    else
      if (readT (l.take (tokLen l))).2 ≠ 0 then ([], (readT (l.take (tokLen l))).2, at_)
      else
        (mkTok (readT (l.take (tokLen l))).1 at_ :: (lexL f ((l.drop (tokLen l)).drop (gapLen (l.drop (tokLen l)))) (at_ + tokLen l + gapLen (l.drop (tokLen l))) (k + 1)).1,
          (lexL f ((l.drop (tokLen l)).drop (gapLen (l.drop (tokLen l)))) (at_ + tokLen l + gapLen (l.drop (tokLen l))) (k + 1)).2) := rfl

/-- One token more. -/
theorem lexAt_step {s : List UInt8} {at_ : Nat} {ts : List Tok} (h : lexAt s at_ ts) (h1 : at_ < s.length) (h2 : tokLen (s.drop at_) ≠ 0) (h3 : ts.length ≠ 1500)
    (h4 : (readT ((s.drop at_).take (tokLen (s.drop at_)))).2 = 0) :
    lexAt s (at_ + tokLen (s.drop at_) + gapLen (s.drop (at_ + tokLen (s.drop at_)))) (ts ++ [mkTok (readT ((s.drop at_).take (tokLen (s.drop at_)))).1 at_]) := by
  obtain ⟨e, hk, ha⟩ := h
  have hne : s.drop at_ ≠ [] := by simp; omega
  have hl := tokLen_le (s.drop at_)
  have hg := gapLen_le (s.drop (at_ + tokLen (s.drop at_)))
  simp only [List.length_drop] at hl hg
  obtain ⟨f, hf⟩ : ∃ f, s.length + 1 - ts.length = f + 1 := ⟨s.length - ts.length, by omega⟩
  rw [hf, lexL_succ, if_neg hne, if_neg h2, if_neg h3, if_neg (by rw [h4]; simp)] at e
  refine ⟨?_, by simp; omega, by omega⟩
  rw [e]
  have hf2 : s.length + 1 - (ts ++ [mkTok (readT ((s.drop at_).take (tokLen (s.drop at_)))).1 at_]).length = f := by simp; omega
  rw [hf2]
  simp [List.drop_drop]

/-- The end: no error. -/
theorem lexAt_done {s : List UInt8} {at_ : Nat} {ts : List Tok} (h : lexAt s at_ ts) (hs : s.length ≤ 4000) (h1 : ¬ at_ < s.length) : lexS s = (ts, 0, 0) := by
  obtain ⟨e, hk, ha⟩ := h
  obtain ⟨f, hf⟩ : ∃ f, s.length + 1 - ts.length = f + 1 := ⟨s.length - ts.length, by omega⟩
  have hd : s.drop at_ = [] := by simp; omega
  rw [hf, lexL_succ, if_pos hd] at e
  unfold lexS
  rw [if_neg (by omega), e]
  simp

/-- The end: an error. -/
theorem lexAt_err {s : List UInt8} {at_ : Nat} {ts : List Tok} (h : lexAt s at_ ts) (hs : s.length ≤ 4000) (h1 : at_ < s.length) {x : Nat} (hx : x ≠ 0)
    (h2 : (tokLen (s.drop at_) = 0 ∧ x = 10) ∨ (tokLen (s.drop at_) ≠ 0 ∧ ts.length = 1500 ∧ x = 2) ∨ (tokLen (s.drop at_) ≠ 0 ∧ ts.length ≠ 1500 ∧ x = (readT ((s.drop at_).take (tokLen (s.drop at_)))).2)) : lexS s = ([], x, at_) := by
  obtain ⟨e, hk, ha⟩ := h
  obtain ⟨f, hf⟩ : ∃ f, s.length + 1 - ts.length = f + 1 := ⟨s.length - ts.length, by omega⟩
  have hne : s.drop at_ ≠ [] := by simp; omega
  rw [hf, lexL_succ, if_neg hne] at e
  unfold lexS
  rw [if_neg (by omega), e]
  rcases h2 with ⟨a, rfl⟩ | ⟨a, b, rfl⟩ | ⟨a, b, rfl⟩
  · rw [if_pos a]; simp
  · rw [if_neg a, if_pos b]; simp
  · rw [if_neg a, if_neg b, if_pos hx]; simp [hx]

theorem lexS_long {s : List UInt8} (h : 4000 < s.length) : lexS s = ([], 2, 0) := by unfold lexS; rw [if_pos h]
end Go.Proofs.YtmkehecapjdfdaaGreatDoor

/- The parser's plain mathematics: words, trees, what each method of the reader answers. Nothing of the program stands here. -/
namespace Go.Proofs.YtmkehecapjdfdaaGreatDoor
open Go

abbrev Str := List UInt8

def kStruct : Str := [115, 116, 114, 117, 99, 116]
def kFunc : Str := [102, 117, 110, 99]
def kParse : Str := [112, 97, 114, 115, 101]
def kLet : Str := [108, 101, 116]
def kNew : Str := [110, 101, 119]
def kMake : Str := [109, 97, 107, 101]
def kFree : Str := [102, 114, 101, 101]
def kSame : Str := [115, 97, 109, 101]
def kIf : Str := [105, 102]
def kElse : Str := [101, 108, 115, 101]
def kWhile : Str := [119, 104, 105, 108, 101]
def kEmit : Str := [101, 109, 105, 116]
def kAccept : Str := [97, 99, 99, 101, 112, 116]
def kReject : Str := [114, 101, 106, 101, 99, 116]
def kReturn : Str := [114, 101, 116, 117, 114, 110]
def kIn : Str := [105, 110]
def kLen : Str := [108, 101, 110]
def kSext : Str := [115, 101, 120, 116]
def kSlt : Str := [115, 108, 116]
def pLB : Str := [123]
def pRB : Str := [125]
def pLP : Str := [40]
def pRP : Str := [41]
def pLK : Str := [91]
def pRK : Str := [93]
def pComma : Str := [44]
def pSemi : Str := [59]
def pColon : Str := [58]
def pDot : Str := [46]
def pEq : Str := [61]
def pTilde : Str := [126]
def wName : Str := [110, 97, 109, 101]
def wNumber : Str := [110, 117, 109, 98, 101, 114]
def wType : Str := [116, 121, 112, 101]
def wEnd : Str := [101, 110, 100]
def keyWords : List Str := [kStruct, kFunc, kParse, kLet, kNew, kMake, kFree, kSame, kIf, kElse, kWhile, kEmit, kAccept, kReject, kReturn, kIn, kLen, kSext, kSlt]
def signWords : List Str := [[43], [45], [42], [47], [37], [38], [124], [94], [60, 60], [62, 62], [61, 61], [33, 61], [60], [60, 61], [62], [62, 61], [115, 108, 116]]

def isKey (l : Str) : Bool := keyWords.contains l
/-- The word by which the grammar knows a token. -/
def wordT (t : Tok) : Str := if t.kind = 2 then wNumber else if t.kind = 3 then wType else if t.kind = 1 ∧ isKey t.text = false then wName else t.text

structure PTok where
  tok : Tok
  word : Str

inductive T where
  | mk (kind : Nat) (name part : Str) (num wid at_ : Nat) (kids : List T)
def T.kind : T → Nat | .mk k _ _ _ _ _ _ => k
def T.name : T → Str | .mk _ n _ _ _ _ _ => n
def T.part : T → Str | .mk _ _ p _ _ _ _ => p
def T.num : T → Nat | .mk _ _ _ n _ _ _ => n
def T.wid : T → Nat | .mk _ _ _ _ w _ _ => w
def T.at_ : T → Nat | .mk _ _ _ _ _ a _ => a
def T.kids : T → List T | .mk _ _ _ _ _ _ k => k
def T.zero : T := .mk 0 [] [] 0 0 0 []

/-- What the reader knows: the next token, the diagnostics. -/
structure St where
  nx : Nat
  ds : List (Nat × Nat)
inductive Res (α : Type) where
  | ok (a : α) (s : St)
  | out (l : Nat) (s : St)
abbrev PM (α : Type) := St → Res α
def bnd {α β : Type} (m : PM α) (k : α → PM β) : PM β := fun s => match m s with
  | .ok a s' => k a s'
  | .out l s' => .out l s'
def ret {α : Type} (a : α) : PM α := fun s => .ok a s
theorem bnd_ok {α β : Type} {m : PM α} {k : α → PM β} {s s' : St} {a : α} (h : m s = .ok a s') : bnd m k s = k a s' := by unfold bnd; rw [h]
theorem bnd_out {α β : Type} {m : PM α} {k : α → PM β} {s s' : St} {l : Nat} (h : m s = .out l s') : bnd m k s = .out l s' := by unfold bnd; rw [h]

section
variable (ts : List PTok)
def wd (i : Nat) : Str := match ts[i]? with | some t => t.word | none => []
def tk (i : Nat) : Tok := match ts[i]? with | some t => t.tok | none => ⟨0, [], 0, 0⟩

def fail {α : Type} (e : Nat) : PM α := fun s => .out (if s.ds.length + 1 = 20 then 2 else 0) ⟨s.nx, s.ds ++ [(e, (tk ts s.nx).off)]⟩
def take (w : Str) : PM Tok := fun s => if wd ts s.nx = w then .ok (tk ts s.nx) ⟨s.nx + 1, s.ds⟩ else fail ts 10 s
def name : PM Str := bnd (take ts wName) fun t => ret t.text
def width : PM Nat := bnd (take ts wType) fun t => ret t.num
def begin_ (kind : Nat) (w : Str) : PM T := bnd (take ts w) fun t => ret (.mk kind [] [] 0 0 t.off [])

/-- Names with their types. -/
def typedName (kind : Nat) : PM T := bnd (take ts wName) fun t => bnd (take ts pColon) fun _ => bnd (width ts) fun x => ret (.mk kind t.text [] 0 x t.off [])
def typedMore (kind : Nat) : Nat → List T → PM (List T)
  | 0, l => ret l
  | g + 1, l => fun s => if wd ts s.nx = pComma then bnd (take ts pComma) (fun _ => bnd (typedName ts kind) fun t => typedMore kind g (l ++ [t])) s else .ok l s
def typedNames (kind : Nat) : PM (List T) := bnd (typedName ts kind) fun t => typedMore ts kind ts.length [t]

/-- Expressions, over those that are one deeper. -/
def inBrackets (e : PM T) : PM T := bnd (take ts pLK) fun _ => bnd e fun t => bnd (take ts pRK) fun _ => ret t
def partOf : PM Str := bnd (take ts pDot) fun _ => name ts
def argsMore (e : PM T) : Nat → List T → PM (List T)
  | 0, l => ret l
  | g + 1, l => fun s => if wd ts s.nx = pRP then .ok l s
    else if l = [] then bnd e (fun t => argsMore e g (l ++ [t])) s
    else bnd (take ts pComma) (fun _ => bnd e fun t => argsMore e g (l ++ [t])) s
def arguments (e : PM T) : PM (List T) := bnd (take ts pLP) fun _ => bnd (argsMore ts e ts.length []) fun l => bnd (take ts pRP) fun _ => ret l
def readNumber : PM T := bnd (take ts wNumber) fun t => bnd (take ts pColon) fun _ => bnd (width ts) fun x => ret (.mk 21 [] [] t.num x t.off [])
def varRest (e : PM T) (t : Tok) : PM T := fun s =>
  if wd ts s.nx = pLK then bnd (inBrackets ts e) (fun k => ret (.mk 25 t.text [] 0 0 t.off [k])) s
  else if wd ts s.nx = pDot then bnd (partOf ts) (fun q => ret (.mk 26 t.text q 0 0 t.off [])) s
  else if wd ts s.nx = pLP then bnd (arguments ts e) (fun l => ret (.mk 31 t.text [] 0 0 t.off l)) s
  else .ok (.mk 22 t.text [] 0 0 t.off []) s
def readVariable (e : PM T) : PM T := bnd (take ts wName) (varRest ts e)
def readIn (e : PM T) : PM T := bnd (begin_ ts 23 kIn) fun n => bnd (inBrackets ts e) fun k => ret (.mk 23 [] [] 0 0 n.at_ [k])
def readLen : PM T := begin_ ts 24 kLen
def signOf : Str → Nat → List Str → Option Nat
  | _, _, [] => none
  | w, n, x :: r => if x = w then some n else signOf w (n + 1) r
def sign : PM Nat := fun s => match signOf (wd ts s.nx) 1 signWords with
  | none => fail ts 10 s
  | some n => bnd (take ts (wd ts s.nx)) (fun _ => ret n) s
def readBin (e : PM T) : PM T := bnd (begin_ ts 27 pLP) fun n => bnd e fun a => bnd (sign ts) fun x => bnd e fun b => bnd (take ts pRP) fun _ => ret (.mk 27 [] [] x 0 n.at_ [a, b])
def readNot (e : PM T) : PM T := bnd (begin_ ts 28 pTilde) fun n => bnd e fun a => ret (.mk 28 [] [] 0 0 n.at_ [a])
def cast (e : PM T) (kind at_ : Nat) : PM T := bnd (width ts) fun x => bnd (take ts pLP) fun _ => bnd e fun a => bnd (take ts pRP) fun _ => ret (.mk kind [] [] 0 x at_ [a])
def readCast (e : PM T) : PM T := fun s => cast ts e 29 (tk ts s.nx).off s
def readSext (e : PM T) : PM T := bnd (begin_ ts 30 kSext) fun n => cast ts e 30 n.at_
/-- The method for an expression's first word. -/
def exprOf (e : PM T) (w : Str) : Option (PM T) :=
  if w = kIn then some (readIn ts e) else if w = kLen then some (readLen ts) else if w = pLP then some (readBin ts e) else if w = pTilde then some (readNot ts e)
  else if w = kSext then some (readSext ts e) else if w = wNumber then some (readNumber ts) else if w = wName then some (readVariable ts e) else if w = wType then some (readCast ts e) else none
/-- An expression; f: how many more may lie within each other. -/
def expression : Nat → PM T
  | 0 => fun s => match exprOf ts (fail ts 11) (wd ts s.nx) with | none => fail ts 10 s | some _ => fail ts 11 s
  | f + 1 => fun s => match exprOf ts (expression f) (wd ts s.nx) with | none => fail ts 10 s | some m => m s

/-- Statements, over the expressions and the blocks of their depth. -/
def value (e : PM T) (f : T → T) : PM T := bnd e fun a => bnd (take ts pSemi) fun _ => ret (f a)
def readNamed (e : PM T) (kind : Nat) (w : Str) : PM T := bnd (begin_ ts kind w) fun n => bnd (name ts) fun x => bnd (take ts pEq) fun _ => value ts e fun a => .mk kind x [] 0 0 n.at_ [a]
def readReturn (e : PM T) : PM T := bnd (begin_ ts 20 kReturn) fun n => value ts e fun a => .mk 20 [] [] 0 0 n.at_ [a]
def asgRest (e : PM T) (t : Tok) : PM T := fun s =>
  if wd ts s.nx = pLK then bnd (inBrackets ts e) (fun k => bnd (take ts pEq) fun _ => value ts e fun a => .mk 9 t.text [] 0 0 t.off [k, a]) s
  else if wd ts s.nx = pDot then bnd (partOf ts) (fun q => bnd (take ts pEq) fun _ => value ts e fun a => .mk 10 t.text q 0 0 t.off [a]) s
  else bnd (take ts pEq) (fun _ => value ts e fun a => .mk 8 t.text [] 0 0 t.off [a]) s
def readAssignment (e : PM T) : PM T := bnd (take ts wName) (asgRest ts e)
def readNew (e : PM T) : PM T := bnd (begin_ ts 11 kNew) fun n => bnd (name ts) fun x => bnd (take ts pColon) fun _ => bnd (width ts) fun y => bnd (inBrackets ts e) fun k => bnd (take ts pSemi) fun _ => ret (.mk 11 x [] 0 y n.at_ [k])
def readPair (kind : Nat) (w b : Str) : PM T := bnd (begin_ ts kind w) fun n => bnd (name ts) fun x => bnd (take ts b) fun _ => bnd (name ts) fun y => bnd (take ts pSemi) fun _ => ret (.mk kind x y 0 0 n.at_ [])
def readFree : PM T := bnd (begin_ ts 13 kFree) fun n => bnd (name ts) fun x => bnd (take ts pSemi) fun _ => ret (.mk 13 x [] 0 0 n.at_ [])
def ifRest (b : PM T) (at_ : Nat) (e k : T) : PM T := fun s =>
  if wd ts s.nx = kElse then bnd (take ts kElse) (fun _ => bnd b fun k2 => ret (.mk 15 [] [] 0 0 at_ [e, k, k2])) s else .ok (.mk 15 [] [] 0 0 at_ [e, k]) s
def readIf (e b : PM T) : PM T := bnd (begin_ ts 15 kIf) fun n => bnd e fun a => bnd b fun k => ifRest ts b n.at_ a k
def readWhile (e b : PM T) : PM T := bnd (begin_ ts 16 kWhile) fun n => bnd e fun a => bnd b fun k => ret (.mk 16 [] [] 0 0 n.at_ [a, k])
def readAccept : PM T := bnd (begin_ ts 18 kAccept) fun n => bnd (take ts pSemi) fun _ => ret n
def readReject : PM T := bnd (begin_ ts 19 kReject) fun n => bnd (take ts wNumber) fun t => bnd (take ts pSemi) fun _ => ret (.mk 19 [] [] t.num 0 n.at_ [])
def stmtOf (e b : PM T) (w : Str) : Option (PM T) :=
  if w = kLet then some (readNamed ts e 7 kLet) else if w = kNew then some (readNew ts e) else if w = kMake then some (readPair ts 12 kMake pColon)
  else if w = kFree then some (readFree ts) else if w = kSame then some (readPair ts 14 kSame pEq) else if w = kIf then some (readIf ts e b)
  else if w = kWhile then some (readWhile ts e b) else if w = kEmit then some (readNamed ts e 17 kEmit) else if w = kAccept then some (readAccept ts)
  else if w = kReject then some (readReject ts) else if w = kReturn then some (readReturn ts e) else if w = wName then some (readAssignment ts e) else none
def statement (e b : PM T) : PM T := fun s => match stmtOf ts e b (wd ts s.nx) with | none => fail ts 10 s | some m => m s

/-- The rest of a statement is left out; g: how many tokens may follow. -/
def skipGo : Nat → Nat → PM Unit
  | 0, _ => fun s => .out 1 s
  | g + 1, o => fun s =>
    let w := wd ts s.nx
    if w = kStruct ∨ w = kFunc ∨ w = kParse ∨ w = wEnd then .out 1 s
    else if w = pLB then skipGo g (o + 1) ⟨s.nx + 1, s.ds⟩
    else if w = pRB then
      if o = 0 then .ok () s
      else if o = 1 ∧ wd ts (s.nx + 1) ≠ kElse then .ok () ⟨s.nx + 1, s.ds⟩
      else skipGo g (o - 1) ⟨s.nx + 1, s.ds⟩
    else if w = pSemi ∧ o = 0 then .ok () ⟨s.nx + 1, s.ds⟩
    else skipGo g o ⟨s.nx + 1, s.ds⟩
def skipStatement : PM Unit := skipGo ts ts.length 0

/-- A part is read; a leaving of at most so much ends here. -/
def attempt (m : PM T) (most : Nat) : PM (Option T) := fun s => match m s with
  | .ok t s' => .ok (some t) s'
  | .out l s' => if l ≤ most then .ok none s' else .out l s'
def stmts (m : PM T) : Nat → List T → PM (List T)
  | 0, l => ret l
  | g + 1, l => fun s => if wd ts s.nx = pRB then .ok l s
    else bnd (attempt m 0) (fun o => match o with | some t => stmts m g (l ++ [t]) | none => bnd (skipStatement ts) fun _ => stmts m g l) s
def readBlock (m : PM T) : PM T := bnd (begin_ ts 6 pLB) fun n => bnd (stmts ts m (2 * ts.length + 2) []) fun l => bnd (take ts pRB) fun _ => ret (.mk 6 [] [] 0 0 n.at_ l)
/-- A block; f: how many more may lie within each other. -/
def block : Nat → PM T
  | 0 => fun s => if wd ts s.nx = pLB then fail ts 11 s else fail ts 10 s
  | f + 1 => fun s => if wd ts s.nx = pLB then readBlock ts (statement ts (expression ts f) (block f)) s else fail ts 10 s

/-- Items. -/
def readStruct : PM T := bnd (begin_ ts 2 kStruct) fun n => bnd (name ts) fun x => bnd (take ts pLB) fun _ => bnd (typedNames ts 3) fun l => bnd (take ts pRB) fun _ => ret (.mk 2 x [] 0 0 n.at_ l)
def funcRest (b : PM T) (at_ : Nat) (x : Str) (l : List T) : PM T := bnd (take ts pRP) fun _ => bnd (width ts) fun y => bnd b fun k => ret (.mk 4 x [] 0 y at_ (l ++ [k]))
def readFunc (b : PM T) : PM T := bnd (begin_ ts 4 kFunc) fun n => bnd (name ts) fun x => bnd (take ts pLP) fun _ => fun s =>
  if wd ts s.nx = pRP then funcRest ts b n.at_ x [] s else bnd (typedNames ts 5) (funcRest ts b n.at_ x) s
def readParse (b : PM T) : PM T := bnd (take ts kParse) fun _ => b
def item (b : PM T) : PM T := fun s =>
  if wd ts s.nx = kStruct then readStruct ts s else if wd ts s.nx = kFunc then readFunc ts b s else if wd ts s.nx = kParse then readParse ts b s else fail ts 10 s
def skipItem : Nat → PM Unit
  | 0 => fun s => .out 2 s
  | g + 1 => fun s =>
    let w := wd ts s.nx
    if w = kStruct ∨ w = kFunc ∨ w = kParse then .ok () s else if w = wEnd then .out 2 s else skipItem g ⟨s.nx + 1, s.ds⟩
def items (m : PM T) : Nat → List T → PM (List T)
  | 0, l => ret l
  | g + 1, l => fun s =>
    bnd (attempt m (if wd ts s.nx = kParse then 0 else 1)) (fun o => match o with
      | some t => if t.kind = 6 then ret (l ++ [t]) else items m g (l ++ [t])
      | none => bnd (skipItem ts ts.length) fun _ => items m g l) s
def program : PM T := bnd (items ts (item ts (block ts 10)) (2 * ts.length + 2) []) fun l => bnd (take ts wEnd) fun _ => ret (.mk 1 [] [] 0 0 0 l)
end

def ptoks (l : List Tok) (end_ : Nat) : List PTok := l.map (fun t => ⟨t, wordT t⟩) ++ [⟨⟨0, [], 0, end_⟩, wEnd⟩]
/-- What Parse answers: the tree, or the diagnostics. -/
def parseS (s : Str) : T × List (Nat × Nat) :=
  match lexS s with
  | (l, 0, _) => match attempt (program (ptoks l s.length)) 2 ⟨0, []⟩ with
    | .ok (some t) s' => if s'.ds = [] then (t, []) else (.zero, s'.ds)
    | .ok none s' => (.zero, s'.ds)
    | .out _ s' => (.zero, s'.ds)
  | (_, e, at_) => (.zero, [(e, at_)])
end Go.Proofs.YtmkehecapjdfdaaGreatDoor

/- The lexer's plain mathematics, second part: a source as gaps and tokens, and what may be changed in it. Nothing of the program stands here. -/
namespace Go.Proofs.YtmkehecapjdfdaaGreatDoor
open Go

/-! ### Gaps -/
/-- Whether a comment is open behind a gap. -/
def gst : Bool → List UInt8 → Bool
  | c, [] => c
  | false, b :: l => gst (b.toNat == 35) l
  | true, b :: l => gst (b.toNat != 10) l
def isGapB (b : UInt8) : Bool := b.toNat == 35 || isBlk b

theorem gapC_false (b : UInt8) (l : List UInt8) : gapC false (b :: l) = if b.toNat == 35 then gapC true l + 1 else if isBlk b then gapC false l + 1 else 0 := by rw [gapC]
theorem gapC_true (b : UInt8) (l : List UInt8) : gapC true (b :: l) = if b.toNat == 10 then gapC false l + 1 else gapC true l + 1 := by rw [gapC]
theorem gapC_app : ∀ (g : List UInt8) (c : Bool) (r r' : List UInt8), g.length ≤ gapC c (g ++ r) → gapC c (g ++ r') = g.length + gapC (gst c g) r'
  | [], c, r, r', _ => by simp [gst]
  | b :: g, false, r, r', h => by
    rw [List.cons_append, gapC_false] at h ⊢
    rw [gst]
    by_cases h1 : (b.toNat == 35) = true
    · rw [if_pos h1] at h ⊢
      rw [h1, gapC_app g true r r' (by simp at h; omega)]; simp; omega
    · rw [if_neg h1] at h ⊢
      by_cases h2 : isBlk b = true
      · rw [if_pos h2] at h ⊢
        have h1' : (b.toNat == 35) = false := by simpa using h1
        rw [h1', gapC_app g false r r' (by simp at h; omega)]; simp; omega
      · rw [if_neg h2] at h; simp at h
  | b :: g, true, r, r', h => by
    rw [List.cons_append, gapC_true] at h ⊢
    rw [gst]
    by_cases h1 : (b.toNat == 10) = true
    · rw [if_pos h1] at h ⊢
      have h1' : (b.toNat != 10) = false := by simpa using h1
      rw [h1', gapC_app g false r r' (by simp at h; omega)]; simp; omega
    · rw [if_neg h1] at h ⊢
      have h1' : (b.toNat != 10) = true := by simpa using h1
      rw [h1', gapC_app g true r r' (by simp at h; omega)]; simp; omega
theorem gapC_rest {g r : List UInt8} {c : Bool} (h : gapC c (g ++ r) = g.length) : gapC (gst c g) r = 0 := by
  have := gapC_app g c r r (by omega)
  omega
/-- Behind a whole gap that something follows, no comment is open, and what follows begins no gap. -/
theorem gap_closed {g r : List UInt8} {c : Bool} (h : gapC c (g ++ r) = g.length) (hr : r ≠ []) : gst c g = false ∧ gapC false r = 0 := by
  have h0 := gapC_rest h
  cases hc : gst c g with
  | false => rw [hc] at h0; exact ⟨rfl, h0⟩
  | true =>
    rw [hc] at h0
    match r, hr with
    | b :: r, _ => rw [gapC_true] at h0; split at h0 <;> omega
theorem gap_zero_head {b : UInt8} {r r' : List UInt8} (h : gapC false (b :: r) = 0) : gapC false (b :: r') = 0 := by
  rw [gapC_false] at h ⊢
  by_cases h1 : (b.toNat == 35) = true
  · rw [if_pos h1] at h; omega
  · rw [if_neg h1] at h ⊢
    by_cases h2 : isBlk b = true
    · rw [if_pos h2] at h; omega
    · rw [if_neg h2]
theorem gap_swap {g r r' : List UInt8} (h : gapLen (g ++ r) = g.length) (hr : r' = [] ∨ r'.head? = r.head?) : gapLen (g ++ r') = g.length := by
  unfold gapLen at h ⊢
  rw [gapC_app g false r r' (by omega)]
  match r', hr with
  | [], _ => simp [gapC]
  | b :: r', hr =>
    match r, h, hr with
    | [], h, hr => simp at hr
    | c :: r, h, hr =>
      have e : b = c := by simpa using hr
      subst e
      obtain ⟨h1, h2⟩ := gap_closed h (by simp)
      rw [h1, gap_zero_head h2]; omega
/-- A gap that may be inserted. -/
def goodGap (g : List UInt8) : Prop := g ≠ [] ∧ (∀ b, g.head? = some b → isGapB b = true) ∧ gapC true g = g.length ∧ gapC false g = g.length ∧ gst false g = false
theorem gap_more {g r gap : List UInt8} (h : gapLen (g ++ r) = g.length) (hg : goodGap gap) : gapLen ((g ++ gap) ++ r) = (g ++ gap).length := by
  unfold gapLen at h ⊢
  obtain ⟨_, _, h3, h4, h5⟩ := hg
  rw [List.append_assoc, gapC_app g false r _ (by omega), List.length_append]
  match r, h with
  | [], _ =>
    rw [List.append_nil]
    cases gst false g
    · rw [h4]
    · rw [h3]
  | b :: r, h =>
    obtain ⟨h1, h2⟩ := gap_closed h (by simp)
    rw [h1, gapC_app gap false [] _ (by rw [List.append_nil]; omega), h5, h2]; omega
/-- A line feed closes a comment. -/
theorem gap_line {g gb lb : List UInt8} (h : gapLen g = g.length) (hb : gapLen (gb ++ lb) = gb.length) : gapLen ((g ++ 10 :: gb) ++ lb) = (g ++ 10 :: gb).length := by
  unfold gapLen at h hb ⊢
  have h' : gapC false (g ++ []) = g.length := by rw [List.append_nil]; exact h
  rw [List.append_assoc, gapC_app g false [] _ (by omega), List.length_append]
  cases gst false g
  · rw [List.cons_append, gapC_false, if_neg (by decide), if_pos (by decide), hb]; simp
  · rw [List.cons_append, gapC_true, if_pos (by decide), hb]; simp

/-! ### Tokens -/
theorem run_all (p : UInt8 → Bool) : ∀ (x r : List UInt8), run p (x ++ r) = x.length → (∀ b ∈ x, p b = true) ∧ run p r = 0
  | [], r, h => ⟨by simp, by simpa using h⟩
  | b :: x, r, h => by
    rw [List.cons_append, run] at h
    by_cases hb : p b = true
    · rw [if_pos hb] at h
      obtain ⟨h1, h2⟩ := run_all p x r (by simp at h; omega)
      refine ⟨fun c hc => ?_, h2⟩
      rcases List.mem_cons.1 hc with rfl | hc
      · exact hb
      · exact h1 c hc
    · rw [if_neg hb] at h; simp at h
theorem run_of_all (p : UInt8 → Bool) : ∀ (x r : List UInt8), (∀ b ∈ x, p b = true) → run p r = 0 → run p (x ++ r) = x.length
  | [], r, _, h => by simpa using h
  | b :: x, r, h, hr => by
    rw [List.cons_append, run, if_pos (h b (by simp)), run_of_all p x r (fun c hc => h c (by simp [hc])) hr]; simp
theorem run_zero (p : UInt8 → Bool) {r : List UInt8} : run p r = 0 ↔ ∀ b, r.head? = some b → p b = false := by
  cases r with
  | nil => simp [run]
  | cons b r =>
    rw [run]
    cases hb : p b <;> simp [hb]
/-- What may follow a token in place of what follows it. -/
def Nx (r r' : List UInt8) : Prop := r' = [] ∨ r'.head? = r.head? ∨ ∃ b, r'.head? = some b ∧ isGapB b = true
theorem gapB_word : ∀ b : UInt8, isGapB b = true → isWrd b = false ∧ isDig b = false ∧ isLet b = false ∧ isSgn b = false ∧ isEq b = false ∧ isDbl b = false ∧ b.toNat ≠ 61 := fun b h => by
  have key : ∀ n : Fin 256, isGapB (UInt8.ofNat n.val) = true → isWrd (UInt8.ofNat n.val) = false ∧ isDig (UInt8.ofNat n.val) = false ∧ isLet (UInt8.ofNat n.val) = false ∧ isSgn (UInt8.ofNat n.val) = false ∧ isEq (UInt8.ofNat n.val) = false ∧ isDbl (UInt8.ofNat n.val) = false ∧ (UInt8.ofNat n.val).toNat ≠ 61 := by decide +kernel
  have := key ⟨b.toNat, b.toNat_lt⟩
  simpa using this (by simpa using h)
theorem nx_run {p : UInt8 → Bool} (hp : ∀ b, isGapB b = true → p b = false) {r r' : List UInt8} (h : run p r = 0) (n : Nx r r') : run p r' = 0 := by
  rw [run_zero] at h ⊢
  intro b hb
  rcases n with rfl | n | ⟨c, hc, hg⟩
  · simp at hb
  · exact h b (n ▸ hb)
  · rw [hc] at hb; cases hb; exact hp _ hg
theorem sign_small : ∀ l, signLen l ≤ 2
  | [] => by simp [signLen]
  | [a] => by simp only [signLen]; split <;> omega
  | a :: b :: l => by simp only [signLen]; split <;> (try split) <;> omega
theorem tok_swap {x r r' : List UInt8} (h : tokLen (x ++ r) = x.length) (hx : x ≠ []) (n : Nx r r') : tokLen (x ++ r') = x.length := by
  match x, hx, h with
  | b :: y, _, h =>
    rw [List.cons_append, tokLen] at h ⊢
    by_cases h1 : isLet b = true
    · rw [if_pos h1] at h ⊢
      rw [← List.cons_append] at h ⊢
      obtain ⟨a1, a2⟩ := run_all _ _ _ h
      exact run_of_all _ _ _ a1 (nx_run (fun c hc => (gapB_word c hc).1) a2 n)
    · rw [if_neg h1] at h ⊢
      by_cases h2 : isDig b = true
      · rw [if_pos h2] at h ⊢
        rw [← List.cons_append] at h ⊢
        obtain ⟨a1, a2⟩ := run_all _ _ _ h
        exact run_of_all _ _ _ a1 (nx_run (fun c hc => (gapB_word c hc).2.1) a2 n)
      · rw [if_neg h2] at h ⊢
        have hs := sign_small (b :: (y ++ r))
        match y, h, hs with
        | [], h, _ =>
          simp only [List.nil_append, List.length_singleton] at h ⊢
          have hb : isSgn b = true := by
            match r, h with
            | [], h => simp only [signLen] at h; split at h <;> first | assumption | omega
            | c :: r, h =>
              simp only [signLen] at h
              split at h
              · omega
              · split at h <;> first | assumption | omega
          match r', n with
          | [], _ => simp [signLen, hb]
          | c :: r', n =>
            simp only [signLen]
            rw [if_neg ?_, if_pos hb]
            intro hc
            rcases n with n | n | ⟨d, hd, hg⟩
            · cases n
            · match r, n, h with
              | [], n, _ => simp at n
              | d :: r, n, h =>
                have e : c = d := by simpa using n
                subst e
                simp only [signLen] at h
                rw [if_pos hc] at h; omega
            · have e : c = d := by simpa using hd
              subst e
              obtain ⟨_, _, _, _, _, g6, g7⟩ := gapB_word c hg
              simp only [Bool.or_eq_true, Bool.and_eq_true, beq_iff_eq] at hc
              rcases hc with ⟨hc, _⟩ | ⟨hc, hd2⟩
              · exact g7 hc
              · rw [← hc, g6] at hd2; cases hd2
        | [c], h, _ =>
          simp only [List.cons_append, List.nil_append, signLen, List.length_cons, List.length_nil] at h ⊢
          split at h
          · rename_i hc; rw [if_pos hc]
          · split at h <;> omega
        | c :: d :: y, h, hs =>
          simp only [List.cons_append, List.length_cons] at h hs
          omega
/-- No token, whatever follows the byte, where a blank follows. -/
theorem tok_none {b : UInt8} {r r' : List UInt8} (h : tokLen (b :: r) = 0) : tokLen (b :: 32 :: r') = 0 := by
  rw [tokLen] at h ⊢
  by_cases h1 : isLet b = true
  · rw [if_pos h1, run, if_pos (by unfold isWrd; simp [h1])] at h; omega
  · rw [if_neg h1] at h ⊢
    by_cases h2 : isDig b = true
    · rw [if_pos h2, run, if_pos h2] at h; omega
    · rw [if_neg h2] at h ⊢
      have hb : ¬ isSgn b = true := by
        intro hb
        match r, h with
        | [], h => simp [signLen, hb] at h
        | c :: r, h => simp only [signLen] at h; rw [if_pos hb] at h; split at h <;> omega
      simp only [signLen]
      rw [if_neg ?_, if_neg hb]
      intro hc
      simp only [Bool.or_eq_true, Bool.and_eq_true, beq_iff_eq] at hc
      rcases hc with ⟨hc, _⟩ | ⟨hc, hd⟩
      · revert hc; decide
      · rw [← hc] at hd; revert hd; decide
/-- A token's first byte begins no gap. -/
theorem tok_gap {l : List UInt8} (h : tokLen l ≠ 0) : gapC false l = 0 := by
  match l, h with
  | [], h => simp [gapC]
  | b :: r, h =>
    rw [gapC_false]
    by_cases hg : isGapB b = true
    · exfalso
      obtain ⟨g1, g2, g3, g4, g5, g6, g7⟩ := gapB_word b hg
      rw [tokLen, if_neg (by simp [g3]), if_neg (by simp [g2])] at h
      match r, h with
      | [], h => simp [signLen, g4] at h
      | c :: r, h => simp [signLen, g4, g5, g6] at h
    · unfold isGapB at hg
      simp only [Bool.or_eq_true, not_or] at hg
      rw [if_neg hg.1, if_neg hg.2]

/-! ### A source as tokens and gaps -/
def sh (d : Nat) (t : Tok) : Tok := { t with off := t.off + d }
/-- From one token on: the tokens, what is left behind a gap, and where. -/
inductive Lp : List UInt8 → Nat → List Tok → List UInt8 → Nat → Prop
  | stop (m : List UInt8) (o : Nat) : Lp m o [] m o
  | cons (x g r : List UInt8) (v : Nat × List UInt8 × Nat) (o : Nat) (ts : List Tok) (m : List UInt8) (o' : Nat) (h1 : tokLen (x ++ (g ++ r)) = x.length) (h2 : x ≠ []) (h3 : readT x = (v, 0)) (h4 : gapLen (g ++ r) = g.length) (h5 : Lp r (o + x.length + g.length) ts m o') : Lp (x ++ (g ++ r)) o (mkTok v o :: ts) m o'
/-- What is wrong behind the tokens. -/
def ErrAt (m : List UInt8) (n e : Nat) : Prop := (tokLen m = 0 ∧ e = 10) ∨ (tokLen m ≠ 0 ∧ n = 1500 ∧ e = 2) ∨ (tokLen m ≠ 0 ∧ n ≠ 1500 ∧ e = (readT (m.take (tokLen m))).2 ∧ e ≠ 0)

theorem lexL_lp : ∀ (f : Nat) (l : List UInt8) (o k : Nat), l.length < f → k ≤ 1500 →
    ((lexL f l o k).2.1 = 0 → Lp l o (lexL f l o k).1 [] (o + l.length) ∧ k + (lexL f l o k).1.length ≤ 1500 ∧ (lexL f l o k).2.2 = 0) ∧
    ((lexL f l o k).2.1 ≠ 0 → ∃ ts m, Lp l o ts m (lexL f l o k).2.2 ∧ m ≠ [] ∧ k + ts.length ≤ 1500 ∧ ErrAt m (k + ts.length) (lexL f l o k).2.1)
  | 0, _, _, _, h, _ => absurd h (by omega)
  | f + 1, l, o, k, h, hk => by
    rw [lexL_succ]
    by_cases h0 : l = []
    · subst h0
      rw [if_pos rfl]
      exact ⟨fun _ => ⟨Lp.stop _ _, by simpa using hk, rfl⟩, fun hn => absurd rfl hn⟩
    · rw [if_neg h0]
      by_cases h1 : tokLen l = 0
      · rw [if_pos h1]
        exact ⟨fun hn => absurd hn (by simp), fun _ => ⟨[], l, Lp.stop _ _, h0, by simpa using hk, Or.inl ⟨h1, rfl⟩⟩⟩
      · rw [if_neg h1]
        by_cases h2 : k = 1500
        · rw [if_pos h2]
          exact ⟨fun hn => absurd hn (by simp), fun _ => ⟨[], l, Lp.stop _ _, h0, by simpa using hk, Or.inr (Or.inl ⟨h1, by simpa using h2, rfl⟩)⟩⟩
        · rw [if_neg h2]
          by_cases h3 : (readT (l.take (tokLen l))).2 ≠ 0
          · rw [if_pos h3]
            exact ⟨fun hn => absurd hn h3, fun _ => ⟨[], l, Lp.stop _ _, h0, by simpa using hk, Or.inr (Or.inr ⟨h1, by simpa using h2, rfl, h3⟩)⟩⟩
          · rw [if_neg h3]
            have hle := tokLen_le l
            have hgl := gapLen_le (l.drop (tokLen l))
            rw [List.length_drop] at hgl
            -- the parts
            obtain ⟨x, hx⟩ : ∃ x, l.take (tokLen l) = x := ⟨_, rfl⟩
            obtain ⟨q, hq⟩ : ∃ q, l.drop (tokLen l) = q := ⟨_, rfl⟩
            obtain ⟨g, hg⟩ : ∃ g, q.take (gapLen q) = g := ⟨_, rfl⟩
            obtain ⟨r, hr⟩ : ∃ r, q.drop (gapLen q) = r := ⟨_, rfl⟩
            have el : x ++ q = l := by rw [← hx, ← hq, List.take_append_drop]
            have eq : g ++ r = q := by rw [← hg, ← hr, List.take_append_drop]
            have ex : x.length = tokLen l := by rw [← hx, List.length_take]; omega
            have hgq : gapLen q ≤ q.length := gapLen_le q
            have eg : g.length = gapLen q := by rw [← hg, List.length_take]; omega
            have elen : x.length + (g.length + r.length) = l.length := by rw [← el, ← eq]; simp
            rw [hx] at h3 ⊢
            rw [hq, hr]
            have ho : o + tokLen l + gapLen q = o + x.length + g.length := by rw [ex, eg]
            rw [ho]
            have hv : readT x = ((readT x).1, 0) := by
              have : (readT x).2 = 0 := by omega
              rw [← this]
            obtain ⟨i1, i2⟩ := lexL_lp f r (o + x.length + g.length) (k + 1) (by omega) (by omega)
            have c1 : tokLen (x ++ (g ++ r)) = x.length := by rw [eq, el, ex]
            have c2 : x ≠ [] := by
              intro e; rw [e] at ex; simp at ex; omega
            have c4 : gapLen (g ++ r) = g.length := by rw [eq, eg]
            have ell : x ++ (g ++ r) = l := by rw [eq, el]
            generalize lexL f r (o + x.length + g.length) (k + 1) = z at *
            refine ⟨fun hn => ?_, fun hn => ?_⟩
            · obtain ⟨j1, j2, j3⟩ := i1 hn
              refine ⟨?_, by simp; omega, j3⟩
              rw [← ell]
              have hlen : o + (x ++ (g ++ r)).length = o + x.length + g.length + r.length := by simp; omega
              rw [hlen]
              exact Lp.cons x g r _ o _ _ _ c1 c2 hv c4 j1
            · obtain ⟨ts, m, j1, j2, j3, j4⟩ := i2 hn
              refine ⟨mkTok (readT x).1 o :: ts, m, ?_, j2, by simp; omega, ?_⟩
              · rw [← ell]
                exact Lp.cons x g r _ o _ _ _ c1 c2 hv c4 j1
              · have : k + (mkTok (readT x).1 o :: ts).length = k + 1 + ts.length := by simp; omega
                rw [this]; exact j4

theorem lp_len {l : List UInt8} {o : Nat} {ts : List Tok} {m : List UInt8} {o' : Nat} (h : Lp l o ts m o') : o' + m.length = o + l.length := by
  induction h with
  | stop => rfl
  | cons x g r v o ts m o' h1 h2 h3 h4 h5 ih => simp; omega
theorem lp_lexL_ok {l : List UInt8} {o : Nat} {ts : List Tok} {m : List UInt8} {o' : Nat} (h : Lp l o ts m o') : m = [] → ∀ (f k : Nat), l.length < f → k + ts.length ≤ 1500 → lexL f l o k = (ts, 0, 0) := by
  induction h with
  | stop m o =>
    intro hm f k hf _
    obtain ⟨f, rfl⟩ : ∃ f', f = f' + 1 := ⟨f - 1, by omega⟩
    rw [lexL_succ, if_pos hm]
  | cons x g r v o ts m o' h1 h2 h3 h4 h5 ih =>
    intro hm f k hf hk
    obtain ⟨f, rfl⟩ : ∃ f', f = f' + 1 := ⟨f - 1, by omega⟩
    have hx : x.length ≠ 0 := by simpa using h2
    rw [lexL_succ, if_neg (by simp [h2]), h1, if_neg hx, if_neg (by simp at hk; omega)]
    have t1 : (x ++ (g ++ r)).take x.length = x := by simp
    have t2 : (x ++ (g ++ r)).drop x.length = g ++ r := by simp
    have t3 : (g ++ r).drop g.length = r := by simp
    rw [t1, h3, if_neg (by simp), t2, h4, t3, ih hm f (k + 1) (by simp at hf; omega) (by simp at hk; omega)]
theorem lp_lexL_err {l : List UInt8} {o : Nat} {ts : List Tok} {m : List UInt8} {o' : Nat} (h : Lp l o ts m o') : m ≠ [] → ∀ (f k e : Nat), l.length < f → k + ts.length ≤ 1500 → ErrAt m (k + ts.length) e → (lexL f l o k).2 = (e, o') := by
  induction h with
  | stop m o =>
    intro hm f k e hf hk he
    obtain ⟨f, rfl⟩ : ∃ f', f = f' + 1 := ⟨f - 1, by omega⟩
    rw [lexL_succ, if_neg hm]
    rcases he with ⟨a, rfl⟩ | ⟨a, b, rfl⟩ | ⟨a, b, c, d⟩
    · rw [if_pos a]
    · rw [if_neg a, if_pos (by simpa using b)]
    · rw [if_neg a, if_neg (by simpa using b), if_pos (by rw [← c]; exact d), ← c]
  | cons x g r v o ts m o' h1 h2 h3 h4 h5 ih =>
    intro hm f k e hf hk he
    obtain ⟨f, rfl⟩ : ∃ f', f = f' + 1 := ⟨f - 1, by omega⟩
    have hx : x.length ≠ 0 := by simpa using h2
    rw [lexL_succ, if_neg (by simp [h2]), h1, if_neg hx, if_neg (by simp at hk; omega)]
    have t1 : (x ++ (g ++ r)).take x.length = x := by simp
    have t2 : (x ++ (g ++ r)).drop x.length = g ++ r := by simp
    have t3 : (g ++ r).drop g.length = r := by simp
    have e1 : k + (mkTok v o :: ts).length = k + 1 + ts.length := by simp; omega
    rw [e1] at he hk
    rw [t1, h3, if_neg (by simp), t2, h4, t3]
    exact ih hm f (k + 1) e (by simp at hf; omega) hk he

/-- A whole source. -/
def LpS (s : List UInt8) (ts : List Tok) (m : List UInt8) (a : Nat) : Prop := ∃ g l, s = g ++ l ∧ gapLen s = g.length ∧ Lp l g.length ts m a
theorem LpS.len {s : List UInt8} {ts : List Tok} {m : List UInt8} {a : Nat} (h : LpS s ts m a) : a + m.length = s.length := by
  obtain ⟨g, l, rfl, _, h⟩ := h
  rw [lp_len h]; simp
theorem src_parts (s : List UInt8) : ∃ g l, s = g ++ l ∧ gapLen s = g.length ∧ s.drop (gapLen s) = l := by
  have := gapLen_le s
  exact ⟨s.take (gapLen s), s.drop (gapLen s), (List.take_append_drop _ _).symm, by rw [List.length_take]; omega, rfl⟩
theorem lexS_ok {s : List UInt8} {ts : List Tok} {a : Nat} (h : lexS s = (ts, 0, a)) : s.length ≤ 4000 ∧ ts.length ≤ 1500 ∧ LpS s ts [] s.length ∧ a = 0 := by
  unfold lexS at h
  split at h
  · simp at h
  · rename_i hl
    split at h
    · rename_i h0
      simp only [Prod.mk.injEq] at h
      obtain ⟨g, l, e, hg, hd⟩ := src_parts s
      have hlen : s.length = g.length + l.length := by rw [e]; simp
      unfold lex0 at h h0
      rw [hd, hg] at h h0
      obtain ⟨i1, _⟩ := lexL_lp (s.length + 1) l g.length 0 (by omega) (by omega)
      obtain ⟨j1, j2, j3⟩ := i1 h0
      rw [h.1] at j1 j2
      exact ⟨by omega, by omega, ⟨g, l, e, hg, by rw [hlen]; exact j1⟩, h.2.2.symm⟩
    · rename_i h0
      simp only [Prod.mk.injEq] at h
      have : (lex0 s).2.1 = 0 := by rw [h.2]
      exact absurd this h0
theorem lexS_err {s : List UInt8} {ts : List Tok} {e a : Nat} (h : lexS s = (ts, e, a)) (he : e ≠ 0) (hs : s.length ≤ 4000) : ts = [] ∧ ∃ us m, LpS s us m a ∧ m ≠ [] ∧ us.length ≤ 1500 ∧ ErrAt m us.length e := by
  unfold lexS at h
  rw [if_neg (by omega)] at h
  split at h
  · simp only [Prod.mk.injEq] at h
    exact absurd h.2.1.symm he
  · rename_i h0
    simp only [Prod.mk.injEq] at h
    refine ⟨h.1.symm, ?_⟩
    obtain ⟨g, l, e1, hg, hd⟩ := src_parts s
    have hlen : s.length = g.length + l.length := by rw [e1]; simp
    unfold lex0 at h h0
    rw [hd, hg] at h h0
    obtain ⟨_, i2⟩ := lexL_lp (s.length + 1) l g.length 0 (by omega) (by omega)
    obtain ⟨us, m, j1, j2, j3, j4⟩ := i2 h0
    rw [h.2] at j1 j4
    refine ⟨us, m, ⟨g, l, e1, hg, j1⟩, j2, by omega, ?_⟩
    rw [Nat.zero_add] at j4
    exact j4
theorem lexS_of {s : List UInt8} {ts : List Tok} {a : Nat} (h : LpS s ts [] a) (hs : s.length ≤ 4000) (ht : ts.length ≤ 1500) : lexS s = (ts, 0, 0) := by
  obtain ⟨g, l, rfl, hg, h⟩ := h
  have e : lex0 (g ++ l) = (ts, 0, 0) := by
    unfold lex0
    rw [hg, List.drop_left]
    exact lp_lexL_ok h rfl _ 0 (by simp; omega) (by omega)
  unfold lexS
  rw [if_neg (by omega), e]; rfl
theorem lexS_of_err {s : List UInt8} {ts : List Tok} {m : List UInt8} {a e : Nat} (h : LpS s ts m a) (hs : s.length ≤ 4000) (ht : ts.length ≤ 1500) (hm : m ≠ []) (he : ErrAt m ts.length e) (h0 : e ≠ 0) : lexS s = ([], e, a) := by
  obtain ⟨g, l, rfl, hg, h⟩ := h
  have e1 : (lex0 (g ++ l)).2 = (e, a) := by
    unfold lex0
    rw [hg, List.drop_left]
    exact lp_lexL_err h hm _ 0 e (by simp; omega) (by omega) (by rw [Nat.zero_add]; exact he)
  unfold lexS
  rw [if_neg (by omega), e1, if_neg h0]
theorem ErrAt.ne {m : List UInt8} {n e : Nat} (h : ErrAt m n e) : e ≠ 0 := by
  rcases h with ⟨_, rfl⟩ | ⟨_, _, rfl⟩ | ⟨_, _, _, h⟩
  · omega
  · omega
  · exact h

/-! ### Changes -/
theorem Lp.shift {l : List UInt8} {o : Nat} {ts : List Tok} {m : List UInt8} {o' : Nat} (h : Lp l o ts m o') (d : Nat) : Lp l (o + d) (ts.map (sh d)) m (o' + d) := by
  induction h with
  | stop => exact Lp.stop _ _
  | cons x g r v o ts m o' h1 h2 h3 h4 h5 ih =>
    have e : o + x.length + g.length + d = o + d + x.length + g.length := by omega
    rw [e] at ih
    exact Lp.cons x g r v (o + d) _ _ _ h1 h2 h3 h4 ih
theorem Lp.first {l : List UInt8} {o : Nat} {t : Tok} {ts : List Tok} {m : List UInt8} {o' : Nat} (h : Lp l o (t :: ts) m o') : t.off = o ∧ tokLen l ≠ 0 ∧ l ≠ [] := by
  cases h with
  | cons x g r v o ts m o' h1 h2 h3 h4 h5 => exact ⟨rfl, by rw [h1]; simpa using h2, by simp [h2]⟩
theorem Lp.none_ {l : List UInt8} {o : Nat} {m : List UInt8} {o' : Nat} (h : Lp l o [] m o') : l = m ∧ o = o' := by
  cases h with
  | stop => exact ⟨rfl, rfl⟩
theorem head_app {p q q' : List UInt8} (hp : p ≠ []) : (p ++ q').head? = (p ++ q).head? := by
  cases p with
  | nil => exact absurd rfl hp
  | cons b p => rfl
theorem head_swap {p m m' : List UInt8} (h : m' = [] ∨ m'.head? = m.head?) (g : List UInt8) : (g ++ (p ++ m')) = [] ∨ (g ++ (p ++ m')).head? = (g ++ (p ++ m)).head? := by
  cases g with
  | cons b g => exact Or.inr rfl
  | nil =>
    cases p with
    | cons b p => exact Or.inr rfl
    | nil => simpa using h
/-- What is left may be left out, or turned behind its first byte. -/
theorem Lp.swap {l : List UInt8} {o : Nat} {ts : List Tok} {m : List UInt8} {o' : Nat} (h : Lp l o ts m o') (m' : List UInt8) (hm : m' = [] ∨ m'.head? = m.head?) : ∃ p, l = p ++ m ∧ o' = o + p.length ∧ Lp (p ++ m') o ts m' o' := by
  induction h with
  | stop m o => exact ⟨[], rfl, rfl, Lp.stop _ _⟩
  | cons x g r v o ts m o' h1 h2 h3 h4 h5 ih =>
    obtain ⟨p, rfl, ho, hp⟩ := ih hm
    refine ⟨x ++ (g ++ p), by simp, by simp; omega, ?_⟩
    have e : x ++ (g ++ p) ++ m' = x ++ (g ++ (p ++ m')) := by simp
    rw [e]
    refine Lp.cons x g (p ++ m') v o ts m' o' (tok_swap h1 h2 ?_) h2 h3 ?_ hp
    · rcases head_swap (p := p) hm g with h | h
      · exact Or.inl h
      · exact Or.inr (Or.inl h)
    · exact gap_swap h4 (by have := head_swap (p := p) hm []; simpa using this)
theorem LpS.swap {s : List UInt8} {ts : List Tok} {m : List UInt8} {a : Nat} (h : LpS s ts m a) (m' : List UInt8) (hm : m' = [] ∨ m'.head? = m.head?) : ∃ p, s = p ++ m ∧ a = p.length ∧ LpS (p ++ m') ts m' a := by
  obtain ⟨g, l, rfl, hg, h⟩ := h
  obtain ⟨p, rfl, ho, hp⟩ := h.swap m' hm
  refine ⟨g ++ p, by simp, by simp; omega, g, p ++ m', by simp, ?_, hp⟩
  rw [List.append_assoc]
  exact gap_swap hg (by have := head_swap (p := p) hm []; simpa using this)
/-- A beginning. -/
theorem Lp.part {l : List UInt8} {o : Nat} {ts : List Tok} {m : List UInt8} {o' : Nat} (h : Lp l o ts m o') : ∀ (k : Nat) (hk : k < ts.length), ∃ m', Lp l o (ts.take k) m' (ts[k].off) ∧ tokLen m' ≠ 0 ∧ m' ≠ [] := by
  induction h with
  | stop => intro k hk; simp at hk
  | cons x g r v o ts m o' h1 h2 h3 h4 h5 ih =>
    intro k hk
    match k, hk with
    | 0, _ => exact ⟨_, Lp.stop _ _, by rw [h1]; simpa using h2, by simp [h2]⟩
    | k + 1, hk =>
      obtain ⟨m', i1, i2, i3⟩ := ih k (by simpa using hk)
      exact ⟨m', Lp.cons x g r v o _ _ _ h1 h2 h3 h4 i1, i2, i3⟩

theorem nx_gap {r gap q : List UInt8} (h : goodGap gap) : Nx r (gap ++ q) := by
  obtain ⟨h1, h2, _⟩ := h
  match gap, h1 with
  | b :: gap, _ => exact Or.inr (Or.inr ⟨b, rfl, h2 b rfl⟩)
/-- Where the k-th token begins, or the end. -/
def posOf (ts : List Tok) (k e : Nat) : Nat := if h : k < ts.length then ts[k].off else e
theorem posOf_succ (t : Tok) (ts : List Tok) (k e : Nat) : posOf (t :: ts) (k + 1) e = posOf ts k e := by
  unfold posOf
  by_cases h : k < ts.length
  · rw [dif_pos h, dif_pos (by simpa using h)]; rfl
  · rw [dif_neg h, dif_neg (by simpa using h)]
theorem Lp.insert {l : List UInt8} {o : Nat} {ts : List Tok} {m : List UInt8} {o' : Nat} (h : Lp l o ts m o') (gap : List UInt8) (hg : goodGap gap) (hm : m = []) : ∀ k, k < ts.length →
    ∃ p q, l = p ++ q ∧ p ≠ [] ∧ o + p.length = posOf ts (k + 1) o' ∧ Lp (p ++ (gap ++ q)) o (ts.take (k + 1) ++ (ts.drop (k + 1)).map (sh gap.length)) [] (o' + gap.length) := by
  induction h with
  | stop => intro k hk; simp at hk
  | cons x g r v o ts m o' h1 h2 h3 h4 h5 ih =>
    intro k hk
    subst hm
    match k, hk with
    | 0, _ =>
      refine ⟨x ++ g, r, by simp, by simp [h2], ?_, ?_⟩
      · rw [posOf_succ]
        unfold posOf
        match ts, h5 with
        | [], h5 =>
          obtain ⟨rfl, e⟩ := h5.none_
          rw [dif_neg (by simp)]; simp; omega
        | t :: ts, h5 =>
          rw [dif_pos (by simp)]
          have := h5.first.1
          simp; omega
      · have e : x ++ g ++ (gap ++ r) = x ++ ((g ++ gap) ++ r) := by simp
        rw [e]
        refine Lp.cons x (g ++ gap) r v o _ [] _ (tok_swap h1 h2 ?_) h2 h3 (gap_more h4 hg) ?_
        · cases g with
          | nil => rw [List.nil_append]; exact nx_gap hg
          | cons b g => exact Or.inr (Or.inl rfl)
        · have := h5.shift gap.length
          have e2 : o + x.length + (g ++ gap).length = o + x.length + g.length + gap.length := by simp; omega
          rw [e2]
          simpa using this
    | k + 1, hk =>
      obtain ⟨p, q, rfl, hp, ho, i⟩ := ih rfl k (by simpa using hk)
      refine ⟨x ++ (g ++ p), q, by simp, by simp [h2], ?_, ?_⟩
      · rw [posOf_succ, ← ho]; simp; omega
      · have e : x ++ (g ++ p) ++ (gap ++ q) = x ++ (g ++ (p ++ (gap ++ q))) := by simp
        rw [e]
        refine Lp.cons x g _ v o _ [] _ (tok_swap h1 h2 (Or.inr (Or.inl ?_))) h2 h3 (gap_swap h4 (Or.inr (head_app hp))) i
        cases g with
        | nil => show (p ++ (gap ++ q)).head? = (p ++ q).head?; exact head_app hp
        | cons b g => rfl
/-- A gap before the k-th token, or at the end. -/
theorem LpS.insert {s : List UInt8} {ts : List Tok} {a : Nat} (h : LpS s ts [] a) (gap : List UInt8) (hg : goodGap gap) (k : Nat) (hk : k ≤ ts.length) :
    LpS (s.take (posOf ts k s.length) ++ (gap ++ s.drop (posOf ts k s.length))) (ts.take k ++ (ts.drop k).map (sh gap.length)) [] (a + gap.length) ∧ posOf ts k s.length ≤ s.length := by
  have ha := h.len
  obtain ⟨g, l, rfl, hgl, h⟩ := h
  match k with
  | 0 =>
    have hp : posOf ts 0 (g ++ l).length = g.length := by
      unfold posOf
      match ts, h with
      | [], h =>
        obtain ⟨rfl, e⟩ := h.none_
        rw [dif_neg (by simp)]; simp
      | t :: ts, h =>
        rw [dif_pos (by simp)]
        exact h.first.1
    rw [hp]
    refine ⟨⟨g ++ gap, l, by simp, ?_, ?_⟩, by simp⟩
    · rw [List.take_left, List.drop_left, ← List.append_assoc]
      exact gap_more hgl hg
    · have := h.shift gap.length
      rw [List.length_append]
      simpa using this
  | k + 1 =>
    obtain ⟨p, q, rfl, hp, ho, i⟩ := h.insert gap hg rfl k (by omega)
    have hpos : posOf ts (k + 1) (g ++ (p ++ q)).length = (g ++ p).length := by
      simp only [List.length_nil, Nat.add_zero] at ha
      rw [← ha, ← ho]; simp
    have t1 : (g ++ (p ++ q)).take (g ++ p).length = g ++ p := by rw [← List.append_assoc]; exact List.take_left
    have t2 : (g ++ (p ++ q)).drop (g ++ p).length = q := by rw [← List.append_assoc]; exact List.drop_left
    rw [hpos, t1, t2]
    refine ⟨⟨g, p ++ (gap ++ q), by simp, ?_, i⟩, by simp⟩
    rw [List.append_assoc]
    exact gap_swap hgl (Or.inr (head_app hp))

/-- Two sources, with a line feed between them. -/
theorem Lp.join {l : List UInt8} {o : Nat} {ts : List Tok} {m : List UInt8} {o' : Nat} (h : Lp l o ts m o') (gb lb : List UInt8) (us : List Tok) (ob : Nat) (hgb : gapLen (gb ++ lb) = gb.length) (hm : m = []) (hne : ts ≠ []) (hb : Lp lb (o + l.length + 1 + gb.length) us [] ob) :
    Lp (l ++ 10 :: (gb ++ lb)) o (ts ++ us) [] ob := by
  induction h with
  | stop => exact absurd rfl hne
  | cons x g r v o ts m o' h1 h2 h3 h4 h5 ih =>
    subst hm
    match ts, h5, ih with
    | [], h5, _ =>
      obtain ⟨rfl, _⟩ := h5.none_
      have e : x ++ (g ++ []) ++ 10 :: (gb ++ lb) = x ++ ((g ++ 10 :: gb) ++ lb) := by simp
      rw [e]
      refine Lp.cons x (g ++ 10 :: gb) lb v o us [] ob (tok_swap h1 h2 ?_) h2 h3 (gap_line (by simpa using h4) hgb) ?_
      · cases g with
        | nil => exact Or.inr (Or.inr ⟨10, rfl, by decide⟩)
        | cons b g => exact Or.inr (Or.inl rfl)
      · have e2 : o + x.length + (g ++ 10 :: gb).length = o + (x ++ (g ++ [])).length + 1 + gb.length := by simp; omega
        rw [e2]; exact hb
    | t :: ts, h5, ih =>
      have hr : r ≠ [] := h5.first.2.2
      have e : x ++ (g ++ r) ++ 10 :: (gb ++ lb) = x ++ (g ++ (r ++ 10 :: (gb ++ lb))) := by simp
      rw [e]
      refine Lp.cons x g _ v o _ [] ob (tok_swap h1 h2 (Or.inr (Or.inl ?_))) h2 h3 (gap_swap h4 (Or.inr ?_)) (ih rfl (by simp) ?_)
      · cases g with
        | nil =>
          have := head_app (q := []) (q' := 10 :: (gb ++ lb)) hr
          simpa using this
        | cons b g => rfl
      · have := head_app (q := []) (q' := 10 :: (gb ++ lb)) hr
        simpa using this
      · have e2 : o + x.length + g.length + r.length + 1 + gb.length = o + (x ++ (g ++ r)).length + 1 + gb.length := by simp; omega
        rw [e2]; exact hb
theorem LpS.join {a b : List UInt8} {ts us : List Tok} {x y : Nat} (h : LpS a ts [] x) (k : LpS b us [] y) : LpS (a ++ 10 :: b) (ts ++ us.map (sh (a.length + 1))) [] (a.length + 1 + b.length) := by
  have hy := k.len
  obtain ⟨g, l, rfl, hg, h⟩ := h
  obtain ⟨gb, lb, rfl, hgb, k⟩ := k
  have k2 := k.shift ((g ++ l).length + 1)
  have e0 : y + ((g ++ l).length + 1) = (g ++ l).length + 1 + (gb ++ lb).length := by simp at hy ⊢; omega
  rw [e0] at k2
  match ts, h with
  | [], h =>
    obtain ⟨rfl, _⟩ := h.none_
    refine ⟨g ++ 10 :: gb, lb, by simp, ?_, ?_⟩
    · have e : g ++ [] ++ 10 :: (gb ++ lb) = (g ++ 10 :: gb) ++ lb := by simp
      rw [e]; exact gap_line (by simpa using hg) hgb
    · have e : (g ++ 10 :: gb).length = gb.length + ((g ++ []).length + 1) := by simp; omega
      rw [e]; exact k2
  | t :: ts, h =>
    have hl : l ≠ [] := h.first.2.2
    refine ⟨g, l ++ 10 :: (gb ++ lb), by simp, ?_, ?_⟩
    · rw [List.append_assoc]
      refine gap_swap hg (Or.inr ?_)
      have := head_app (q := []) (q' := 10 :: (gb ++ lb)) hl
      simpa using this
    · refine h.join gb lb _ _ hgb rfl (by simp) ?_
      have e : g.length + l.length + 1 + gb.length = gb.length + ((g ++ l).length + 1) := by simp; omega
      rw [e]; exact k2
theorem LpS.part {s : List UInt8} {ts : List Tok} {m : List UInt8} {a : Nat} (h : LpS s ts m a) (k : Nat) (hk : k < ts.length) : ∃ m', LpS s (ts.take k) m' (ts[k].off) ∧ tokLen m' ≠ 0 ∧ m' ≠ [] := by
  obtain ⟨g, l, e, hg, h⟩ := h
  obtain ⟨m', i1, i2, i3⟩ := h.part k hk
  exact ⟨m', ⟨g, l, e, hg, i1⟩, i2, i3⟩
end Go.Proofs.YtmkehecapjdfdaaGreatDoor

/- How far the plain functions read. -/
namespace Go.Proofs.YtmkehecapjdfdaaGreatDoor
open Go

/-- It reads on; where it reads to its end, at least k tokens. -/
structure Mv {α : Type} (k : Nat) (m : PM α) : Prop where
  ok : ∀ s a s', m s = .ok a s' → s.nx + k ≤ s'.nx
  out : ∀ s l s', m s = .out l s' → s.nx ≤ s'.nx
theorem Mv.seq {α β : Type} {j k : Nat} {m : PM α} {f : α → PM β} (h : Mv j m) (g : ∀ a, Mv k (f a)) : Mv (j + k) (bnd m f) := by
  constructor
  · intro s a s' e
    cases hm : m s with
    | ok a1 s1 =>
      rw [bnd_ok hm] at e
      have h1 := h.ok _ _ _ hm
      have h2 := (g a1).ok _ _ _ e
      omega
    | out l s1 => rw [bnd_out hm] at e; cases e
  · intro s l s' e
    cases hm : m s with
    | ok a1 s1 =>
      rw [bnd_ok hm] at e
      have h1 := h.ok _ _ _ hm
      have h2 := (g a1).out _ _ _ e
      omega
    | out l1 s1 =>
      rw [bnd_out hm] at e
      cases e
      exact h.out _ _ _ hm
theorem Mv.weak {α : Type} {j k : Nat} {m : PM α} (h : Mv k m) (hj : j ≤ k) : Mv j m := ⟨fun s a s' e => by have := h.ok s a s' e; omega, h.out⟩
theorem Mv.z {α : Type} {k : Nat} {m : PM α} (h : Mv k m) : Mv 0 m := h.weak (Nat.zero_le _)
theorem Mv.head {α β : Type} {m : PM α} {f : α → PM β} (h : Mv 1 m) (g : ∀ a, Mv 0 (f a)) : Mv 1 (bnd m f) := h.seq g
theorem Mv.zero {α β : Type} {m : PM α} {f : α → PM β} (h : Mv 0 m) (g : ∀ a, Mv 0 (f a)) : Mv 0 (bnd m f) := h.seq g
theorem mv_ret {α : Type} (a : α) : Mv 0 (ret a) := ⟨fun s b s' e => by cases e; omega, fun s l s' e => by cases e⟩
theorem Mv.ite {α : Type} {k : Nat} {c : St → Prop} [∀ s, Decidable (c s)] {m n : PM α} (hm : Mv k m) (hn : Mv k n) : Mv k (fun s => if c s then m s else n s) := by
  constructor
  · intro s a s' e
    by_cases hc : c s
    · simp only [if_pos hc] at e; exact hm.ok _ _ _ e
    · simp only [if_neg hc] at e; exact hn.ok _ _ _ e
  · intro s l s' e
    by_cases hc : c s
    · simp only [if_pos hc] at e; exact hm.out _ _ _ e
    · simp only [if_neg hc] at e; exact hn.out _ _ _ e
section
variable (ts : List PTok)
theorem mv_fail {α : Type} (k e : Nat) : Mv k (fail (α := α) ts e) := ⟨fun s b s' h => (by cases h), fun s l s' h => (by cases h; exact Nat.le_refl _)⟩
theorem mv_take (w : Str) : Mv 1 (take ts w) := by
  constructor
  · intro s a s' e
    unfold take at e
    split at e
    · cases e; exact Nat.le_refl _
    · cases e
  · intro s l s' e
    unfold take at e
    split at e
    · cases e
    · cases e; exact Nat.le_refl _
theorem mv_name : Mv 1 (name ts) := (mv_take ts _).head fun _ => mv_ret _
theorem mv_width : Mv 1 (width ts) := (mv_take ts _).head fun _ => mv_ret _
theorem mv_begin (kind : Nat) (w : Str) : Mv 1 (begin_ ts kind w) := (mv_take ts _).head fun _ => mv_ret _
theorem mv_typedName (kind : Nat) : Mv 1 (typedName ts kind) := (mv_take ts _).head fun _ => (mv_take ts _).z.zero fun _ => (mv_width ts).z.zero fun _ => mv_ret _
theorem mv_typedMore (kind : Nat) : ∀ g l, Mv 0 (typedMore ts kind g l)
  | 0, _ => mv_ret _
  | g + 1, l => Mv.ite (c := fun s => wd ts s.nx = pComma) ((mv_take ts pComma).z.zero fun _ => (mv_typedName ts kind).z.zero fun t => mv_typedMore kind g (l ++ [t])) (mv_ret l)
theorem mv_typedNames (kind : Nat) : Mv 1 (typedNames ts kind) := (mv_typedName ts kind).head fun _ => mv_typedMore ts kind _ _
variable {x y : PM T} (hx : Mv 1 x) (hy : Mv 1 y)
include hx
theorem mv_inBrackets : Mv 1 (inBrackets ts x) := (mv_take ts _).head fun _ => hx.z.zero fun _ => (mv_take ts _).z.zero fun _ => mv_ret _
omit hx
theorem mv_part : Mv 1 (partOf ts) := (mv_take ts _).head fun _ => (mv_name ts).z
include hx
theorem mv_argsMore : ∀ g l, Mv 0 (argsMore ts x g l)
  | 0, _ => mv_ret _
  | g + 1, l => Mv.ite (c := fun s => wd ts s.nx = pRP) (mv_ret l) (Mv.ite (c := fun _ => l = []) (hx.z.zero fun t => mv_argsMore g (l ++ [t])) ((mv_take ts pComma).z.zero fun _ => hx.z.zero fun t => mv_argsMore g (l ++ [t])))
theorem mv_arguments : Mv 1 (arguments ts x) := (mv_take ts _).head fun _ => (mv_argsMore ts hx _ _).zero fun _ => (mv_take ts _).z.zero fun _ => mv_ret _
omit hx
theorem mv_readNumber : Mv 1 (readNumber ts) := (mv_take ts _).head fun _ => (mv_take ts _).z.zero fun _ => (mv_width ts).z.zero fun _ => mv_ret _
include hx
theorem mv_varRest (t : Tok) : Mv 0 (varRest ts x t) :=
  Mv.ite (c := fun s => wd ts s.nx = pLK) ((mv_inBrackets ts hx).z.zero fun _ => mv_ret _) (Mv.ite (c := fun s => wd ts s.nx = pDot) ((mv_part ts).z.zero fun _ => mv_ret _) (Mv.ite (c := fun s => wd ts s.nx = pLP) ((mv_arguments ts hx).z.zero fun _ => mv_ret _) (mv_ret (T.mk 22 t.text [] 0 0 t.off []))))
theorem mv_readVariable : Mv 1 (readVariable ts x) := (mv_take ts _).head fun t => mv_varRest ts hx t
theorem mv_readIn : Mv 1 (readIn ts x) := (mv_begin ts _ _).head fun _ => (mv_inBrackets ts hx).z.zero fun _ => mv_ret _
omit hx
theorem mv_readLen : Mv 1 (readLen ts) := mv_begin ts _ _
theorem mv_sign : Mv 0 (sign ts) := by
  constructor
  · intro s a s' e
    unfold sign at e
    split at e
    · cases e
    · have := ((mv_take ts (wd ts s.nx)).head fun _ => mv_ret _).ok _ _ _ e
      omega
  · intro s l s' e
    unfold sign at e
    split at e
    · cases e; exact Nat.le_refl _
    · exact ((mv_take ts (wd ts s.nx)).head fun _ => mv_ret _).out _ _ _ e
include hx
theorem mv_readBin : Mv 1 (readBin ts x) := (mv_begin ts _ _).head fun _ => hx.z.zero fun _ => (mv_sign ts).zero fun _ => hx.z.zero fun _ => (mv_take ts _).z.zero fun _ => mv_ret _
theorem mv_readNot : Mv 1 (readNot ts x) := (mv_begin ts _ _).head fun _ => hx.z.zero fun _ => mv_ret _
theorem mv_cast (k a : Nat) : Mv 1 (cast ts x k a) := (mv_width ts).head fun _ => (mv_take ts _).z.zero fun _ => hx.z.zero fun _ => (mv_take ts _).z.zero fun _ => mv_ret _
theorem mv_readCast : Mv 1 (readCast ts x) := ⟨fun s a s' e => (mv_cast ts hx 29 _).ok s a s' e, fun s a s' e => (mv_cast ts hx 29 _).out s a s' e⟩
theorem mv_readSext : Mv 1 (readSext ts x) := (mv_begin ts _ _).head fun _ => (mv_cast ts hx _ _).z
theorem mv_exprOf {w : Str} {m : PM T} (h : exprOf ts x w = some m) : Mv 1 m := by
  unfold exprOf at h
  (repeat' split at h) <;> cases h
  · exact mv_readIn ts hx
  · exact mv_readLen ts
  · exact mv_readBin ts hx
  · exact mv_readNot ts hx
  · exact mv_readSext ts hx
  · exact mv_readNumber ts
  · exact mv_readVariable ts hx
  · exact mv_readCast ts hx
omit hx
theorem mv_expression : ∀ f, Mv 1 (expression ts f)
  | 0 => by
    constructor
    · intro s a s' e
      unfold expression at e
      split at e <;> cases e
    · intro s l s' e
      unfold expression at e
      split at e <;> (cases e; exact Nat.le_refl _)
  | f + 1 => by
    have ih := mv_expression f
    constructor
    · intro s a s' e
      unfold expression at e
      split at e
      · cases e
      · rename_i m hm
        exact (mv_exprOf ts ih hm).ok _ _ _ e
    · intro s l s' e
      unfold expression at e
      split at e
      · cases e; exact Nat.le_refl _
      · rename_i m hm
        exact (mv_exprOf ts ih hm).out _ _ _ e
include hx
theorem mv_value (f : T → T) : Mv 1 (value ts x f) := hx.head fun _ => (mv_take ts _).z.zero fun _ => mv_ret _
theorem mv_readNamed (k : Nat) (w : Str) : Mv 1 (readNamed ts x k w) := (mv_begin ts _ _).head fun _ => (mv_name ts).z.zero fun _ => (mv_take ts _).z.zero fun _ => (mv_value ts hx _).z
theorem mv_readReturn : Mv 1 (readReturn ts x) := (mv_begin ts _ _).head fun _ => (mv_value ts hx _).z
theorem mv_asgRest (t : Tok) : Mv 0 (asgRest ts x t) :=
  Mv.ite (c := fun s => wd ts s.nx = pLK) ((mv_inBrackets ts hx).z.zero fun _ => (mv_take ts _).z.zero fun _ => (mv_value ts hx _).z) (Mv.ite (c := fun s => wd ts s.nx = pDot) ((mv_part ts).z.zero fun _ => (mv_take ts _).z.zero fun _ => (mv_value ts hx _).z) ((mv_take ts pEq).z.zero fun _ => (mv_value ts hx _).z))
theorem mv_readAssignment : Mv 1 (readAssignment ts x) := (mv_take ts _).head fun t => mv_asgRest ts hx t
theorem mv_readNew : Mv 1 (readNew ts x) := (mv_begin ts _ _).head fun _ => (mv_name ts).z.zero fun _ => (mv_take ts _).z.zero fun _ => (mv_width ts).z.zero fun _ => (mv_inBrackets ts hx).z.zero fun _ => (mv_take ts _).z.zero fun _ => mv_ret _
omit hx
theorem mv_readPair (k : Nat) (w b : Str) : Mv 1 (readPair ts k w b) := (mv_begin ts _ _).head fun _ => (mv_name ts).z.zero fun _ => (mv_take ts _).z.zero fun _ => (mv_name ts).z.zero fun _ => (mv_take ts _).z.zero fun _ => mv_ret _
theorem mv_readFree : Mv 1 (readFree ts) := (mv_begin ts _ _).head fun _ => (mv_name ts).z.zero fun _ => (mv_take ts _).z.zero fun _ => mv_ret _
theorem mv_readAccept : Mv 1 (readAccept ts) := (mv_begin ts _ _).head fun _ => (mv_take ts _).z.zero fun _ => mv_ret _
theorem mv_readReject : Mv 1 (readReject ts) := (mv_begin ts _ _).head fun _ => (mv_take ts _).z.zero fun _ => (mv_take ts _).z.zero fun _ => mv_ret _
include hy
theorem mv_ifRest (a : Nat) (e k : T) : Mv 0 (ifRest ts y a e k) := Mv.ite (c := fun s => wd ts s.nx = kElse) ((mv_take ts kElse).z.zero fun _ => hy.z.zero fun _ => mv_ret _) (mv_ret (T.mk 15 [] [] 0 0 a [e, k]))
include hx
theorem mv_readIf : Mv 1 (readIf ts x y) := (mv_begin ts _ _).head fun _ => hx.z.zero fun _ => hy.z.zero fun _ => mv_ifRest ts hy _ _ _
theorem mv_readWhile : Mv 1 (readWhile ts x y) := (mv_begin ts _ _).head fun _ => hx.z.zero fun _ => hy.z.zero fun _ => mv_ret _
theorem mv_stmtOf {w : Str} {m : PM T} (h : stmtOf ts x y w = some m) : Mv 1 m := by
  unfold stmtOf at h
  by_cases ckLet : w = kLet
  · rw [if_pos ckLet] at h
    injection h with h
    rw [← h]
    exact mv_readNamed ts hx _ _
  rw [if_neg ckLet] at h
  by_cases ckNew : w = kNew
  · rw [if_pos ckNew] at h
    injection h with h
    rw [← h]
    exact mv_readNew ts hx
  rw [if_neg ckNew] at h
  by_cases ckMake : w = kMake
  · rw [if_pos ckMake] at h
    injection h with h
    rw [← h]
    exact mv_readPair ts _ _ _
  rw [if_neg ckMake] at h
  by_cases ckFree : w = kFree
  · rw [if_pos ckFree] at h
    injection h with h
    rw [← h]
    exact mv_readFree ts
  rw [if_neg ckFree] at h
  by_cases ckSame : w = kSame
  · rw [if_pos ckSame] at h
    injection h with h
    rw [← h]
    exact mv_readPair ts _ _ _
  rw [if_neg ckSame] at h
  by_cases ckIf : w = kIf
  · rw [if_pos ckIf] at h
    injection h with h
    rw [← h]
    exact mv_readIf ts hx hy
  rw [if_neg ckIf] at h
  by_cases ckWhile : w = kWhile
  · rw [if_pos ckWhile] at h
    injection h with h
    rw [← h]
    exact mv_readWhile ts hx hy
  rw [if_neg ckWhile] at h
  by_cases ckEmit : w = kEmit
  · rw [if_pos ckEmit] at h
    injection h with h
    rw [← h]
    exact mv_readNamed ts hx _ _
  rw [if_neg ckEmit] at h
  by_cases ckAccept : w = kAccept
  · rw [if_pos ckAccept] at h
    injection h with h
    rw [← h]
    exact mv_readAccept ts
  rw [if_neg ckAccept] at h
  by_cases ckReject : w = kReject
  · rw [if_pos ckReject] at h
    injection h with h
    rw [← h]
    exact mv_readReject ts
  rw [if_neg ckReject] at h
  by_cases ckReturn : w = kReturn
  · rw [if_pos ckReturn] at h
    injection h with h
    rw [← h]
    exact mv_readReturn ts hx
  rw [if_neg ckReturn] at h
  by_cases cwName : w = wName
  · rw [if_pos cwName] at h
    injection h with h
    rw [← h]
    exact mv_readAssignment ts hx
  rw [if_neg cwName] at h
  cases h
theorem mv_statement : Mv 1 (statement ts x y) := by
  constructor
  · intro s a s' e
    unfold statement at e
    split at e
    · cases e
    · rename_i m hm
      exact (mv_stmtOf ts hx hy hm).ok _ _ _ e
  · intro s l s' e
    unfold statement at e
    split at e
    · cases e; exact Nat.le_refl _
    · rename_i m hm
      exact (mv_stmtOf ts hx hy hm).out _ _ _ e
omit hx hy
theorem mv_skipGo : ∀ g o, Mv 0 (skipGo ts g o)
  | 0, _ => ⟨fun s b s' h => (by cases h), fun s l s' h => (by cases h; exact Nat.le_refl _)⟩
  | g + 1, o => by
    have k1 := fun o => (mv_skipGo g o).ok
    have k2 := fun o => (mv_skipGo g o).out
    constructor
    · intro s a s' e
      simp only [skipGo] at e
      (repeat' split at e) <;> first | (cases e; done) | (cases e; show s.nx + 0 ≤ _; simp; done) | (have := k1 _ _ _ _ e; simp at this; omega)
    · intro s l s' e
      simp only [skipGo] at e
      (repeat' split at e) <;> first | (cases e; done) | (cases e; exact Nat.le_refl _) | (have := k2 _ _ _ _ e; simp at this; omega)
/-- A statement that was left out: more than no token, or up to a brace. -/
theorem skip_ok : ∀ g o s a s', skipGo ts g o s = .ok a s' → s.nx < s'.nx ∨ (s'.nx = s.nx ∧ wd ts s.nx = pRB)
  | 0, _, _, _, _, h => by cases h
  | g + 1, o, s, a, s', e => by
    have k1 := fun o => (mv_skipGo ts g o).ok
    simp only [skipGo] at e
    split at e
    · cases e
    split at e
    · have := k1 _ _ _ _ e; simp at this; left; omega
    split at e
    · rename_i hw
      split at e
      · cases e; exact .inr ⟨rfl, hw⟩
      split at e
      · cases e; left; simp
      · have := k1 _ _ _ _ e; simp at this; left; omega
    split at e
    · cases e; left; simp
    · have := k1 _ _ _ _ e; simp at this; left; omega
theorem att_some {m : PM T} {k most : Nat} (hm : Mv k m) {s : St} {t : T} {s' : St} (h : attempt m most s = .ok (some t) s') : s.nx + k ≤ s'.nx := by
  unfold attempt at h
  split at h
  · rename_i h1
    cases h
    exact hm.ok _ _ _ h1
  · split at h <;> cases h
theorem att_none {m : PM T} {k most : Nat} (hm : Mv k m) {s s' : St} (h : attempt m most s = .ok none s') : s.nx ≤ s'.nx := by
  unfold attempt at h
  split at h
  · cases h
  · rename_i h1
    split at h
    · cases h
      exact hm.out _ _ _ h1
    · cases h
theorem mv_attempt {m : PM T} {k : Nat} (most : Nat) (hm : Mv k m) : Mv 0 (attempt m most) := by
  constructor
  · intro s a s' e
    cases a with
    | some t => have := att_some hm e; omega
    | none => exact att_none hm e
  · intro s l s' e
    unfold attempt at e
    split at e
    · cases e
    · rename_i h1
      split at e
      · cases e
      · cases e
        exact hm.out _ _ _ h1
theorem mv_opt {α : Type} {o : Option T} {f : Option T → PM α} (h1 : ∀ t, Mv 0 (f (some t))) (h2 : Mv 0 (f none)) : Mv 0 (f o) := by cases o with | some t => exact h1 t | none => exact h2
theorem mv_stmts {m : PM T} (hm : Mv 1 m) : ∀ g l, Mv 0 (stmts ts m g l)
  | 0, _ => mv_ret _
  | g + 1, l => by
    unfold stmts
    refine Mv.ite (c := fun s => wd ts s.nx = pRB) (mv_ret l) ((mv_attempt 0 hm).zero fun o => ?_)
    cases o with
    | some t => exact mv_stmts hm g _
    | none => exact (mv_skipGo ts _ _).zero fun _ => mv_stmts hm g l
theorem mv_readBlock {m : PM T} (hm : Mv 1 m) : Mv 1 (readBlock ts m) := (mv_begin ts _ _).head fun _ => (mv_stmts ts hm _ _).zero fun _ => (mv_take ts _).z.zero fun _ => mv_ret _
theorem mv_block : ∀ f, Mv 1 (block ts f)
  | 0 => Mv.ite (c := fun s => wd ts s.nx = pLB) (mv_fail ts _ _) (mv_fail ts _ _)
  | f + 1 => Mv.ite (c := fun s => wd ts s.nx = pLB) (mv_readBlock ts (mv_statement ts (mv_expression ts f) (mv_block f))) (mv_fail ts _ _)
theorem mv_readStruct : Mv 1 (readStruct ts) := (mv_begin ts _ _).head fun _ => (mv_name ts).z.zero fun _ => (mv_take ts _).z.zero fun _ => (mv_typedNames ts _).z.zero fun _ => (mv_take ts _).z.zero fun _ => mv_ret _
include hy
theorem mv_funcRest (a : Nat) (n : Str) (l : List T) : Mv 0 (funcRest ts y a n l) := (mv_take ts _).z.zero fun _ => (mv_width ts).z.zero fun _ => hy.z.zero fun _ => mv_ret _
theorem mv_readFunc : Mv 1 (readFunc ts y) := (mv_begin ts _ _).head fun _ => (mv_name ts).z.zero fun x => (mv_take ts _).z.zero fun _ => Mv.ite (c := fun s => wd ts s.nx = pRP) (mv_funcRest ts hy _ x []) ((mv_typedNames ts 5).z.zero fun l => mv_funcRest ts hy _ x l)
theorem mv_readParse : Mv 1 (readParse ts y) := (mv_take ts _).head fun _ => hy.z
theorem mv_item : Mv 1 (item ts y) := Mv.ite (c := fun s => wd ts s.nx = kStruct) (mv_readStruct ts) (Mv.ite (c := fun s => wd ts s.nx = kFunc) (mv_readFunc ts hy) (Mv.ite (c := fun s => wd ts s.nx = kParse) (mv_readParse ts hy) (mv_fail ts _ _)))
omit hy
/-- What begins with a token that is there, reads it. -/
theorem out_head {α β : Type} {m : PM α} {f : α → PM β} (h : Mv 1 m) (g : ∀ a, Mv 0 (f a)) {s s' : St} {l : Nat} (hm : ∃ a s1, m s = .ok a s1) (e : bnd m f s = .out l s') : s.nx + 1 ≤ s'.nx := by
  obtain ⟨a, s1, hm⟩ := hm
  rw [bnd_ok hm] at e
  have h1 := h.ok _ _ _ hm
  have h2 := (g a).out _ _ _ e
  omega
theorem take_there {w : Str} {s : St} (h : wd ts s.nx = w) : ∃ a s1, take ts w s = .ok a s1 := ⟨_, _, by unfold take; rw [if_pos h]⟩
theorem begin_there {k : Nat} {w : Str} {s : St} (h : wd ts s.nx = w) : ∃ a s1, begin_ ts k w s = .ok a s1 := by
  obtain ⟨a, s1, e⟩ := take_there ts h
  exact ⟨_, s1, bnd_ok e⟩
include hy
theorem item_out {s s' : St} {l : Nat} (e : item ts y s = .out l s') : s.nx + 1 ≤ s'.nx ∨ (s'.nx = s.nx ∧ wd ts s.nx ≠ kStruct ∧ wd ts s.nx ≠ kFunc ∧ wd ts s.nx ≠ kParse) := by
  unfold item at e
  split at e
  · rename_i h
    exact .inl (out_head (mv_begin ts _ _) (fun _ => (mv_name ts).z.zero fun _ => (mv_take ts _).z.zero fun _ => (mv_typedNames ts _).z.zero fun _ => (mv_take ts _).z.zero fun _ => mv_ret _) (begin_there ts h) e)
  split at e
  · rename_i h
    exact .inl (out_head (mv_begin ts _ _) (fun _ => (mv_name ts).z.zero fun x => (mv_take ts _).z.zero fun _ => Mv.ite (c := fun s => wd ts s.nx = pRP) (mv_funcRest ts hy _ x []) ((mv_typedNames ts 5).z.zero fun l => mv_funcRest ts hy _ x l)) (begin_there ts h) e)
  split at e
  · rename_i h
    exact .inl (out_head (mv_take ts _) (fun _ => hy.z) (take_there ts h) e)
  · rename_i h1 h2 h3
    cases e
    exact .inr ⟨rfl, h1, h2, h3⟩
omit hy
theorem mv_skipItem : ∀ g, Mv 0 (skipItem ts g)
  | 0 => ⟨fun s b s' h => (by cases h), fun s l s' h => (by cases h; exact Nat.le_refl _)⟩
  | g + 1 => by
    have k1 := (mv_skipItem g).ok
    have k2 := (mv_skipItem g).out
    constructor
    · intro s a s' e
      simp only [skipItem] at e
      split at e
      · cases e; exact Nat.le_refl _
      split at e
      · cases e
      · have := k1 _ _ _ e; simp at this; omega
    · intro s l s' e
      simp only [skipItem] at e
      split at e
      · cases e
      split at e
      · cases e; exact Nat.le_refl _
      · have := k2 _ _ _ e; simp at this; omega
theorem skipItem_ok {g : Nat} {s s' : St} {a : Unit} (e : skipItem ts g s = .ok a s') (h : wd ts s.nx ≠ kStruct ∧ wd ts s.nx ≠ kFunc ∧ wd ts s.nx ≠ kParse) : s.nx + 1 ≤ s'.nx := by
  cases g with
  | zero => cases e
  | succ g =>
    simp only [skipItem] at e
    split at e
    · rename_i hw
      rcases hw with hw | hw | hw
      · exact absurd hw h.1
      · exact absurd hw h.2.1
      · exact absurd hw h.2.2
    split at e
    · cases e
    · have := (mv_skipItem ts g).ok _ _ _ e; simpa using this
end
end Go.Proofs.YtmkehecapjdfdaaGreatDoor

/- The fixed sources of the laws' heads. -/
namespace Go.Proofs.YtmkehecapjdfdaaGreatDoor
open Go

theorem src1 : parseS [112, 97, 114, 115, 101, 32, 123, 32, 108, 101, 116, 32, 97, 32, 61, 32, 105, 110, 91, 48, 58, 117, 56, 93, 59, 32, 105, 102, 32, 40, 97, 32, 61, 61, 32, 55, 58, 117, 56, 41, 32, 123, 32, 97, 99, 99, 101, 112, 116, 59, 32, 125, 32, 114, 101, 106, 101, 99, 116, 32, 49, 59, 32, 125] = (.mk 1 [] [] 0 0 0 [.mk 6 [] [] 0 0 6 [.mk 7 [97] [] 0 0 8 [.mk 23 [] [] 0 0 16 [.mk 21 [] [] 0 8 19 []]], .mk 15 [] [] 0 0 26 [.mk 27 [] [] 11 0 29 [.mk 22 [97] [] 0 0 30 [], .mk 21 [] [] 7 8 35 []], .mk 6 [] [] 0 0 41 [.mk 18 [] [] 0 0 43 []]], .mk 19 [] [] 1 0 53 []]], []) := by kernel_rfl
theorem src2 : parseS [112, 97, 114, 115, 101, 32, 123, 32, 108, 101, 116, 32, 97, 32, 61, 32, 59, 32, 97, 99, 99, 101, 112, 116, 59, 32, 125] = (T.zero, [(10, 16)]) := by kernel_rfl
theorem src3 : parseS [112, 97, 114, 115, 101, 32, 123, 32, 97, 99, 99, 101, 112, 116] = (T.zero, [(10, 14)]) := by kernel_rfl
theorem src4 : parseS [115, 116, 114, 117, 99, 116, 32, 115, 32, 123, 32, 125, 32, 32, 112, 97, 114, 115, 101, 32, 123, 32, 125] = (T.zero, [(10, 11)]) := by kernel_rfl
theorem src5 : parseS [] = (T.zero, [(10, 0)]) := by kernel_rfl
theorem src6 : parseS [112, 97, 114, 115, 101, 32, 123, 32, 105, 102, 32, 120, 32, 123, 32, 121, 59, 32, 125, 32, 101, 108, 115, 101, 32, 123, 32, 122, 59, 32, 125, 32, 119, 32, 125] = (T.zero, [(10, 16), (10, 28), (10, 34)]) := by kernel_rfl
theorem src7 : parseS [112, 97, 114, 115, 101, 32, 123, 105, 102, 32, 108, 101, 110, 32, 123, 105, 102, 32, 108, 101, 110, 32, 123, 105, 102, 32, 108, 101, 110, 32, 123, 105, 102, 32, 108, 101, 110, 32, 123, 105, 102, 32, 108, 101, 110, 32, 123, 105, 102, 32, 108, 101, 110, 32, 123, 105, 102, 32, 108, 101, 110, 32, 123, 105, 102, 32, 108, 101, 110, 32, 123, 105, 102, 32, 108, 101, 110, 32, 123, 105, 102, 32, 108, 101, 110, 32, 123, 125, 125, 125, 125, 125, 125, 125, 125, 125, 125, 125] = (T.zero, [(11, 82)]) := by kernel_rfl
end Go.Proofs.YtmkehecapjdfdaaGreatDoor
