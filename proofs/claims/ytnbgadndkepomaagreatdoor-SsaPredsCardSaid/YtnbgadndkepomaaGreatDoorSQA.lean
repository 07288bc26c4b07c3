/- Joined texts: SaMath, SaDfs, SaParM, SaExM, SaDomM. -/
import Derived.IntWalk

/- Layer 6, plainly: codes, what is valid of them, ways, dominators. Nothing of the program stands here. -/
namespace Go.Proofs.YtnbgadndkepomaaGreatDoor

abbrev Str := List UInt8

/-! ### Names -/
def isLet (b : UInt8) : Bool := 97 ≤ b.toNat && b.toNat ≤ 122
def isDig (b : UInt8) : Bool := 48 ≤ b.toNat && b.toNat ≤ 57
def isWrd (b : UInt8) : Bool := isLet b || isDig b
def kStruct : Str := [115, 116, 114, 117, 99, 116]
def kFunc : Str := [102, 117, 110, 99]
def kParse : Str := [112, 97, 114, 115, 101]
def kLet : Str := [108, 101, 116]
def kNew : Str := [110, 101, 119]
def kMake : Str := [109, 97, 107, 101]
def kFree : Str := [102, 114, 101, 101]
def kSame : Str := [115, 97, 109, 101]
def kIf : Str := [105, 102]
def kElse : Str := [101, 108, 115, 101]
def kWhile : Str := [119, 104, 105, 108, 101]
def kEmit : Str := [101, 109, 105, 116]
def kAccept : Str := [97, 99, 99, 101, 112, 116]
def kReject : Str := [114, 101, 106, 101, 99, 116]
def kReturn : Str := [114, 101, 116, 117, 114, 110]
def kIn : Str := [105, 110]
def kLen : Str := [108, 101, 110]
def kSext : Str := [115, 101, 120, 116]
def kSlt : Str := [115, 108, 116]
def keyWords : List Str := [kStruct, kFunc, kParse, kLet, kNew, kMake, kFree, kSame, kIf, kElse, kWhile, kEmit, kAccept, kReject, kReturn, kIn, kLen, kSext, kSlt]
def isKey (l : Str) : Bool := keyWords.contains l
/-- The width of a type's word; 0 if it is none. -/
def widthOf : List UInt8 → Nat
  | [u, a] => if u.toNat == 117 && 49 ≤ a.toNat && a.toNat ≤ 57 then a.toNat - 48 else 0
  | [u, a, b] => if u.toNat == 117 && 49 ≤ a.toNat && a.toNat ≤ 57 && 48 ≤ b.toNat && b.toNat ≤ 57 && 10 * (a.toNat - 48) + (b.toNat - 48) ≤ 64 then 10 * (a.toNat - 48) + (b.toNat - 48) else 0
  | _ => 0
def nameR (l : Str) : Bool := decide (1 ≤ l.length ∧ l.length ≤ 12) && (l.take 1).all isLet && l.all isWrd && !(isKey l) && widthOf l == 0

/-! ### Codes -/
structure CIn where
  op : Int
  w : Int
  p : Int
  a : Int
  b : Int
  c : Int
  n : Nat
  at_ : Int
structure CEn where
  kind : Int
  a : Int
  to : Int
  els : Int
  ta : List Int
  ea : List Int
  n : Int
  at_ : Int
structure CBk where
  frm : Int
  til : Int
  en : CEn
structure Cd where
  st : List (List Int)
  nm : List Str
  ins : List CIn
  bk : List CBk

/-- The truth of a proposition. -/
noncomputable def B (p : Prop) : Bool := @decide p (Classical.propDecidable p)
theorem B_true {p : Prop} : B p = true ↔ p := by unfold B; exact @decide_eq_true_iff p (Classical.propDecidable p)
theorem B_false {p : Prop} : B p = false ↔ ¬ p :=
  ⟨fun h hp => (by rw [B_true.2 hp] at h; cases h), fun h => (by cases hb : B p with | false => rfl | true => exact absurd (B_true.1 hb) h)⟩
theorem B_of {p : Prop} (h : p) : B p = true := B_true.2 h
theorem B_not {p : Prop} (h : ¬ p) : B p = false := B_false.2 h
theorem B_eq {p : Prop} {b : Bool} (h : b = true ↔ p) : b = B p := by
  cases b with
  | true => exact (B_of (h.1 rfl)).symm
  | false => exact (B_not (fun hp => by have := h.2 hp; cases this)).symm
theorem B_congr {p q : Prop} (h : p ↔ q) : B p = B q := B_eq (B_true.trans h)

def Wid (w : Int) : Prop := 1 ≤ w ∧ w ≤ 64
def Plc (n : Int) : Prop := 0 ≤ n ∧ n ≤ 4000
/-- A place in a list. -/
def Ix {α : Type} (i : Int) (l : List α) : Prop := 0 ≤ i ∧ i < l.length

def NamesP (l : List Str) : Prop := ∀ (i : Nat) (h : i < l.length), nameR l[i] = true ∧ l[i] ∉ l.take i
def StructP (l : List Int) : Prop := 1 ≤ l.length ∧ l.length ≤ 16 ∧ ∀ w ∈ l, Wid w
def ListsP (c : Cd) : Prop := c.st.length ≤ 8 ∧ c.nm.length ≤ 32 ∧ (1 ≤ c.bk.length ∧ c.bk.length ≤ 400) ∧ c.ins.length ≤ 3000 ∧ (∀ l ∈ c.st, StructP l) ∧ NamesP c.nm

def ChainP : Int → List CBk → Int → Prop
  | f, [], n => f = n
  | f, b :: r, n => b.frm = f ∧ f ≤ b.til ∧ ChainP b.til r n
def BlocksP (c : Cd) : Prop := ChainP 0 c.bk c.ins.length

/-- How many of A, B and C are values. -/
def valN (op : Int) : Nat := if op = 34 then 3 else if (2 ≤ op ∧ op ≤ 14) ∨ op = 19 ∨ op = 33 then 2 else if op = 1 ∨ op = 22 ∨ op = 30 ∨ op = 32 then 0 else 1
def OpP (op : Int) : Prop := (1 ≤ op ∧ op ≤ 19) ∨ op = 21 ∨ op = 22 ∨ (30 ≤ op ∧ op ≤ 36)
def UseW (op : Int) : Prop := (1 ≤ op ∧ op ≤ 22) ∨ op = 30 ∨ op = 33
def UseK (op : Int) : Prop := 30 ≤ op ∧ op ≤ 32
def UseN (op : Int) : Prop := op = 1 ∨ op = 18 ∨ op = 31 ∨ op = 32 ∨ op = 36
def OutP (i : CIn) : Prop := (valN i.op ≤ 0 → i.a = 0) ∧ (valN i.op ≤ 1 → i.b = 0) ∧ (valN i.op ≤ 2 → i.c = 0) ∧ (i.w = 0 ∨ UseW i.op) ∧ (i.p = 0 ∨ UseK i.op) ∧ (i.n = 0 ∨ UseN i.op)
def valsOf (i : CIn) : List Int := [i.a, i.b, i.c]
/-- The values that an instruction uses. -/
def argsOf (i : CIn) : List Int := (valsOf i).take (valN i.op)

def isPar (i : CIn) : Bool := decide (i.op = 30)
/-- The instructions of a block. -/
def insOf (c : Cd) (b : CBk) : List CIn := (c.ins.drop b.frm.toNat).take (b.til.toNat - b.frm.toNat)
/-- How many parameters a block has. -/
def parN (c : Cd) (b : CBk) : Nat := (insOf c b).countP isPar
/-- The instruction belongs to the block. -/
def InBk (b : CBk) (i : Nat) : Prop := b.frm ≤ (i : Int) ∧ (i : Int) < b.til
def FieldsP (c : Cd) : Prop := (∀ (i : Nat) (hi : i < c.ins.length), Plc c.ins[i].at_ ∧ OpP c.ins[i].op ∧ OutP c.ins[i]) ∧
  (∀ b ∈ c.bk, ∀ (i : Nat) (hi : i < c.ins.length), InBk b i → (c.ins[i].op = 30 ↔ (i : Int) < b.frm + parN c b)) ∧ (∀ h : 0 < c.bk.length, parN c c.bk[0] = 0)

structure Edge where
  to : Int
  args : List Int
def edges (e : CEn) : List Edge := if e.kind = 1 then [⟨e.to, e.ta⟩] else if e.kind = 2 then [⟨e.to, e.ta⟩, ⟨e.els, e.ea⟩] else []
def NoWhere (e : CEn) : Prop := e.a = 0 ∧ e.to = 0 ∧ e.els = 0 ∧ e.ta.length = 0 ∧ e.ea.length = 0
def EndP (e : CEn) : Prop := (e.kind = 1 ∧ e.a = 0 ∧ e.els = 0 ∧ e.ea.length = 0 ∧ e.n = 0) ∨ (e.kind = 2 ∧ e.n = 0) ∨ (e.kind = 3 ∧ NoWhere e ∧ e.n = 0) ∨ (e.kind = 4 ∧ NoWhere e ∧ 0 ≤ e.n ∧ e.n ≤ 255)
def EdgeP (c : Cd) (e : Edge) : Prop := e.to ≠ 0 ∧ ∃ h : e.to.toNat < c.bk.length, 0 ≤ e.to ∧ e.args.length = parN c c.bk[e.to.toNat]
def EndsP (c : Cd) : Prop := ∀ b ∈ c.bk, Plc b.en.at_ ∧ EndP b.en ∧ ∀ e ∈ edges b.en, EdgeP c e

/-- The successors of a block. -/
def succs (c : Cd) (b : Nat) : List Nat := ((c.bk[b]?.map fun x => (edges x.en).map fun e => e.to.toNat)).getD []
/-- A way from the block 0, the last block first. -/
inductive Way (s : Nat → List Nat) : Nat → List Nat → Prop
  | start : Way s 0 [0]
  | step {b t : Nat} {l : List Nat} : Way s b l → t ∈ s b → Way s t (t :: l)
def ReachP (c : Cd) : Prop := ∀ b, b < c.bk.length → ∃ l, Way (succs c) b l
/-- A block dominates another one. -/
def Dom (s : Nat → List Nat) (d b : Nat) : Prop := ∀ l, Way s b l → d ∈ l

/-- What an end uses. -/
def endArgs (e : CEn) : List Int := (if e.kind = 2 then [e.a] else []) ++ ((edges e).map (·.args)).flatten
/-- A value that is used in a block, before an instruction, was computed before. -/
def UseP (c : Cd) (v : Int) (b : Nat) (before : Int) : Prop := Ix v c.ins ∧ ∀ h (hh : h < c.bk.length), InBk c.bk[h] v.toNat → (h = b → v < before) ∧ (h ≠ b → Dom (succs c) h b)
def ValuesP (c : Cd) : Prop := ∀ (b : Nat) (hb : b < c.bk.length), (∀ (i : Nat) (hi : i < c.ins.length), InBk c.bk[b] i → ∀ v ∈ argsOf c.ins[i], UseP c v b i) ∧ ∀ v ∈ endArgs c.bk[b].en, UseP c v b c.bk[b].til

/-- The width and the kind of a value; 0 if there is none. -/
def wOf (c : Cd) (v : Int) : Int := if 0 ≤ v then ((c.ins[v.toNat]?).map (·.w)).getD 0 else 0
def pOf (c : Cd) (v : Int) : Int := if 0 ≤ v then ((c.ins[v.toNat]?).map (·.p)).getD 0 else 0
def KindP (c : Cd) (p : Int) : Prop := Wid p ∨ (65 ≤ p ∧ p - 65 < c.st.length)
def opOf (c : Cd) (v : Int) : Int := if 0 ≤ v then ((c.ins[v.toNat]?).map (·.op)).getD 0 else 0
def nOf (c : Cd) (v : Int) : Nat := if 0 ≤ v then ((c.ins[v.toNat]?).map (·.n)).getD 0 else 0
instance (w : Int) : Decidable (Wid w) := inferInstanceAs (Decidable (_ ∧ _))
/-- The width of the cell B of the object A; no width if there is none. -/
def cellW (c : Cd) (a b : Int) : Int :=
  if Wid (wOf c b) then
    (if Wid (pOf c a) then pOf c a else
      if 65 ≤ pOf c a ∧ opOf c b = 1 then (((c.st[(pOf c a - 65).toNat]?).getD [])[nOf c b]?).getD 0 else 0)
  else 0
def InstP (c : Cd) (i : CIn) : Prop :=
  let A := wOf c i.a
  let Bw := wOf c i.b
  if i.op = 1 then Wid i.w ∧ i.n < 2 ^ i.w.toNat
  else if 2 ≤ i.op ∧ i.op ≤ 11 then Wid A ∧ A = Bw ∧ i.w = A
  else if 12 ≤ i.op ∧ i.op ≤ 14 then Wid A ∧ A = Bw ∧ i.w = 1
  else if i.op = 15 then Wid A ∧ i.w = A
  else if i.op = 16 ∨ i.op = 17 then Wid A ∧ A ≤ i.w ∧ i.w ≤ 64
  else if i.op = 18 then Wid A ∧ 1 ≤ i.w ∧ i.w ≤ A ∧ (i.n : Int) + i.w ≤ A
  else if i.op = 19 then Wid A ∧ Wid Bw ∧ i.w = A + Bw ∧ Wid i.w
  else if i.op = 21 then Wid A ∧ i.w = 8
  else if i.op = 22 then i.w = 8
  else if i.op = 30 then (i.p = 0 ∧ Wid i.w) ∨ (i.p ≠ 0 ∧ i.w = 0 ∧ KindP c i.p)
  else if i.op = 31 then Wid A ∧ Wid i.p ∧ (i.n : Int) = i.p
  else if i.op = 32 then i.n < c.st.length ∧ i.p = 65 + i.n
  else if i.op = 33 then Wid (cellW c i.a i.b) ∧ i.w = cellW c i.a i.b
  else if i.op = 34 then Wid (cellW c i.a i.b) ∧ wOf c i.c = cellW c i.a i.b
  else if i.op = 35 then KindP c (pOf c i.a)
  else if i.op = 36 then Wid A ∧ i.n < c.nm.length
  else False
def ArgP (c : Cd) (e : Edge) : Prop := ∀ (h : e.to.toNat < c.bk.length) (k : Nat) (hk : k < e.args.length), wOf c e.args[k] = wOf c (c.bk[e.to.toNat].frm + k) ∧ pOf c e.args[k] = pOf c (c.bk[e.to.toNat].frm + k)
def ArgsP (c : Cd) : Prop := ∀ b ∈ c.bk, (b.en.kind = 2 → wOf c b.en.a = 1) ∧ ∀ e ∈ edges b.en, ArgP c e
def InstrP (c : Cd) : Prop := ∀ i ∈ c.ins, InstP c i
/-- The code is valid. -/
def ValidP (c : Cd) : Prop := ((ListsP c ∧ BlocksP c) ∧ FieldsP c ∧ EndsP c) ∧ ReachP c ∧ ValuesP c ∧ InstrP c ∧ ArgsP c

/-! ### The blocks share out the instructions -/
theorem chain_ge : ∀ (l : List CBk) (f n : Int), ChainP f l n → f ≤ n
  | [], f, n, h => by unfold ChainP at h; omega
  | b :: r, f, n, h => by
    obtain ⟨h1, h2, h3⟩ := h
    have := chain_ge r _ _ h3
    omega
theorem chain_at : ∀ (l : List CBk) (f n : Int), ChainP f l n → ∀ b ∈ l, f ≤ b.frm ∧ b.frm ≤ b.til ∧ b.til ≤ n
  | [], _, _, _, b, h => by cases h
  | a :: r, f, n, h, b, hb => by
    obtain ⟨h1, h2, h3⟩ := h
    rcases List.mem_cons.1 hb with rfl | hb
    · have := chain_ge r _ _ h3
      omega
    · have := chain_at r _ _ h3 b hb
      omega
theorem chain_some : ∀ (l : List CBk) (f n : Int), ChainP f l n → ∀ i : Int, f ≤ i → i < n → ∃ (k : Nat) (h : k < l.length), l[k].frm ≤ i ∧ i < l[k].til
  | [], f, n, h, i, h1, h2 => by unfold ChainP at h; omega
  | a :: r, f, n, h, i, h1, h2 => by
    obtain ⟨h3, h4, h5⟩ := h
    by_cases hi : i < a.til
    · exact ⟨0, by simp, by simpa using by omega, by simpa using hi⟩
    · obtain ⟨k, hk, h6⟩ := chain_some r _ _ h5 i (by omega) h2
      exact ⟨k + 1, by simpa using hk, by simpa using h6⟩
theorem chain_lt : ∀ (l : List CBk) (f n : Int), ChainP f l n → ∀ (j k : Nat) (hj : j < l.length) (hk : k < l.length), j < k → l[j].til ≤ l[k].frm
  | [], _, _, _, j, _, hj, _, _ => by simp at hj
  | a :: r, f, n, h, 0, k + 1, hj, hk, _ => by
    obtain ⟨h3, h4, h5⟩ := h
    simpa using (chain_at r _ _ h5 _ (List.getElem_mem (by simpa using hk))).1
  | a :: r, f, n, h, j + 1, k + 1, hj, hk, hjk => by
    obtain ⟨h3, h4, h5⟩ := h
    simpa using chain_lt r _ _ h5 j k (by simpa using hj) (by simpa using hk) (by omega)
theorem chain_uniq {l : List CBk} {f n : Int} (h : ChainP f l n) {i : Int} {j k : Nat} (hj : j < l.length) (hk : k < l.length) (h1 : l[j].frm ≤ i ∧ i < l[j].til) (h2 : l[k].frm ≤ i ∧ i < l[k].til) : j = k := by
  rcases Nat.lt_trichotomy j k with h3 | h3 | h3
  · have := chain_lt l f n h j k hj hk h3; omega
  · exact h3
  · have := chain_lt l f n h k j hk hj h3; omega

/-! ### Ways and dominators -/
theorem succ_lt {c : Cd} (h : EndsP c) {b t : Nat} (ht : t ∈ succs c b) : t < c.bk.length ∧ t ≠ 0 := by
  unfold succs at ht
  cases hb : c.bk[b]? with
  | none => rw [hb] at ht; simp at ht
  | some x =>
    rw [hb] at ht
    simp only [Option.map_some, Option.getD_some, List.mem_map] at ht
    obtain ⟨e, he, rfl⟩ := ht
    have hx : x ∈ c.bk := List.mem_of_getElem? hb
    obtain ⟨h0, h1, h2, _⟩ := (h x hx).2.2 e he
    exact ⟨h1, by omega⟩
theorem way_lt {c : Cd} (h : EndsP c) (h0 : 0 < c.bk.length) {b : Nat} {l : List Nat} (hw : Way (succs c) b l) : b < c.bk.length ∧ ∀ x ∈ l, x < c.bk.length := by
  induction hw with
  | start => exact ⟨h0, fun x hx => by simp at hx; omega⟩
  | step hw ht ih =>
    have := (succ_lt h ht).1
    refine ⟨this, fun x hx => ?_⟩
    rcases List.mem_cons.1 hx with rfl | hx
    · exact this
    · exact ih.2 x hx
theorem way_self {s : Nat → List Nat} {b : Nat} {l : List Nat} (h : Way s b l) : b ∈ l := by cases h <;> simp
/-- Sets that are closed are not too great. -/
theorem dom_sound {s : Nat → List Nat} {D : Nat → Nat → Prop} (h0 : ∀ x, D 0 x → x = 0) (h1 : ∀ b t, t ∈ s b → ∀ x, D t x → x = t ∨ D b x) {b : Nat} {l : List Nat} (hw : Way s b l) {x : Nat} (hx : D b x) : x ∈ l := by
  induction hw generalizing x with
  | start => rw [h0 x hx]; simp
  | step hw ht ih =>
    rcases h1 _ _ ht x hx with rfl | h
    · simp
    · exact List.mem_cons_of_mem _ (ih h)
theorem dom_step {s : Nat → List Nat} {x b t : Nat} (ht : t ∈ s b) (h : Dom s x t) : x = t ∨ Dom s x b := by
  by_cases e : x = t
  · exact .inl e
  · refine .inr fun l hl => ?_
    rcases List.mem_cons.1 (h _ (.step hl ht)) with h | h
    · exact absurd h e
    · exact h
theorem dom_zero {s : Nat → List Nat} {x : Nat} (h : Dom s x 0) : x = 0 := by simpa using h _ .start
theorem dom_self {s : Nat → List Nat} (b : Nat) : Dom s b b := fun _ h => way_self h
end Go.Proofs.YtnbgadndkepomaaGreatDoor

/- Layer 6, plainly: the walk through the blocks, predecessors, uses. -/
namespace Go.Proofs.YtnbgadndkepomaaGreatDoor

/-- A walk enters a block: the blocks that were met, and those that were left, the last one first. -/
def visit (s : Nat → List Nat) : Nat → Nat → List Nat × List Nat → List Nat × List Nat
  | 0, _, m => m
  | f + 1, b, m =>
    let r := (s b).foldl (fun m t => if t ∈ m.1 then m else visit s f t m) (b :: m.1, m.2)
    (r.1, b :: r.2)
/-- The blocks in reverse postorder. -/
def orderOf (s : Nat → List Nat) (n : Nat) : List Nat := (visit s n 0 ([], [])).2

/-- What a walk adds. -/
structure Adds (s : Nat → List Nat) (n : Nat) (m r : List Nat × List Nat) (l : List Nat) : Prop where
  out : r.2 = l ++ m.2
  met : ∀ x, x ∈ r.1 ↔ x ∈ m.1 ∨ x ∈ l
  len : r.1.length = m.1.length + l.length
  nodup : l.Nodup
  fresh : ∀ x ∈ l, x ∉ m.1 ∧ x < n
  closed : ∀ x ∈ l, ∀ t ∈ s x, t ∈ r.1
/-- The blocks that were met: each one once. -/
def MetOk (n : Nat) (l : List Nat) : Prop := l.Nodup ∧ ∀ x ∈ l, x < n
/-- Every block of the list stands behind a predecessor, or is one of the first one's successors. -/
def Behind (s : Nat → List Nat) (b : Nat) (l : List Nat) : Prop := ∀ p t q, l = p ++ t :: q → ∃ x ∈ b :: p, t ∈ s x
theorem MetOk.le {n : Nat} {l : List Nat} (h : MetOk n l) : l.length ≤ n := by
  have : l.length ≤ (List.range n).length := List.Nodup.length_le_of_subset h.1 (fun x hx => List.mem_range.2 (h.2 x hx))
  simpa using this
theorem behind_join {s : Nat → List Nat} {b t : Nat} {q l : List Nat} (ht : t ∈ s b) (h1 : Behind s t q) (h2 : Behind s b l) : Behind s b (l ++ t :: q) := by
  intro p x r e
  rcases List.append_eq_append_iff.1 e with ⟨a, h3, h4⟩ | ⟨a, h3, h4⟩
  · match a with
    | [] =>
      rw [List.nil_append, List.cons.injEq] at h4
      exact ⟨b, by simp, by rw [← h4.1]; exact ht⟩
    | c :: a =>
      simp only [List.cons_append, List.cons.injEq] at h4
      obtain ⟨rfl, h4⟩ := h4
      obtain ⟨z, hz, h5⟩ := h1 a x r h4
      exact ⟨z, by rw [h3]; simp only [List.mem_cons, List.mem_append] at hz ⊢; rcases hz with h | h; exact .inr (.inr (.inl h)); exact .inr (.inr (.inr h)), h5⟩
  · match a with
    | [] =>
      rw [List.nil_append, List.cons.injEq] at h4
      exact ⟨b, by simp, by rw [h4.1]; exact ht⟩
    | c :: a =>
      simp only [List.cons_append, List.cons.injEq] at h4
      obtain ⟨rfl, h4⟩ := h4
      exact h2 p x a h3
section
variable {s : Nat → List Nat} {n : Nat} (hs : ∀ x, ∀ t ∈ s x, t < n)
include hs
/-- What the walk does once it has entered a block. -/
theorem visit_adds : ∀ (f b : Nat) (m : List Nat × List Nat), MetOk n m.1 → n ≤ f + m.1.length → b ∉ m.1 → b < n → ∃ q, Adds s n m (visit s f b m) (b :: q) ∧ Behind s b q ∧ MetOk n (visit s f b m).1
  | 0, b, m, hm, hf, hb, hbn => by
    have : MetOk n (b :: m.1) := ⟨List.nodup_cons.2 ⟨hb, hm.1⟩, fun x hx => by rcases List.mem_cons.1 hx with rfl | hx; exact hbn; exact hm.2 x hx⟩
    have := this.le
    simp at this; omega
  | f + 1, b, m, hm, hf, hb, hbn => by
    have key : ∀ (ts : List Nat) (k : List Nat × List Nat), (∀ t ∈ ts, t ∈ s b) → MetOk n k.1 → b ∈ k.1 → n ≤ f + k.1.length →
        ∃ l, Adds s n k (ts.foldl (fun m t => if t ∈ m.1 then m else visit s f t m) k) l ∧ Behind s b l ∧ (∀ t ∈ ts, t ∈ (ts.foldl (fun m t => if t ∈ m.1 then m else visit s f t m) k).1) ∧ MetOk n (ts.foldl (fun m t => if t ∈ m.1 then m else visit s f t m) k).1 := by
      intro ts
      induction ts with
      | nil => intro k _ hk _ _; exact ⟨[], ⟨rfl, by simp, by simp, List.nodup_nil, by simp, by simp⟩, fun p t q e => by simp at e, by simp, hk⟩
      | cons t ts ih =>
        intro k hts hk hbk hf2
        rw [List.foldl_cons]
        by_cases ht : t ∈ k.1
        · rw [if_pos ht]
          obtain ⟨l, h1, h2, h3, h4⟩ := ih k (fun x hx => hts x (List.mem_cons_of_mem _ hx)) hk hbk hf2
          exact ⟨l, h1, h2, fun x hx => by rcases List.mem_cons.1 hx with rfl | hx; exact (h1.met _).2 (.inl ht); exact h3 x hx, h4⟩
        · rw [if_neg ht]
          obtain ⟨q, h1, h2, h3⟩ := visit_adds f t k hk hf2 ht (hs b t (hts t (by simp)))
          generalize visit s f t k = r at h1 h3 ⊢
          have hlen := h1.len
          obtain ⟨l, g1, g2, g3, g4⟩ := ih r (fun x hx => hts x (List.mem_cons_of_mem _ hx)) h3 ((h1.met _).2 (.inl hbk)) (by omega)
          generalize ts.foldl (fun m t => if t ∈ m.1 then m else visit s f t m) r = z at g1 g3 g4 ⊢
          have disj : ∀ x ∈ l, x ∉ t :: q := fun x hx hq => (g1.fresh x hx).1 ((h1.met x).2 (.inr hq))
          refine ⟨l ++ t :: q, ⟨by rw [g1.out, h1.out, List.append_assoc], fun x => ?_, by rw [g1.len, h1.len, List.length_append]; omega, ?_, ?_, ?_⟩, ?_, ?_, g4⟩
          · rw [g1.met, h1.met, List.mem_append, or_assoc, or_comm (a := x ∈ t :: q)]
          · rw [List.nodup_append]
            exact ⟨g1.nodup, h1.nodup, fun x hx y hy e => disj x hx (e ▸ hy)⟩
          · intro x hx
            rcases List.mem_append.1 hx with hx | hx
            · exact ⟨fun hm => (g1.fresh x hx).1 ((h1.met x).2 (.inl hm)), (g1.fresh x hx).2⟩
            · exact h1.fresh x hx
          · intro x hx u hu
            rcases List.mem_append.1 hx with hx | hx
            · exact g1.closed x hx u hu
            · exact (g1.met u).2 (.inl (h1.closed x hx u hu))
          · exact behind_join (hts t (by simp)) h2 g2
          · intro x hx
            rcases List.mem_cons.1 hx with rfl | hx
            · exact (g1.met _).2 (.inl ((h1.met _).2 (.inr (by simp))))
            · exact g3 x hx
    have hm2 : MetOk n (b :: m.1) := ⟨List.nodup_cons.2 ⟨hb, hm.1⟩, fun x hx => by rcases List.mem_cons.1 hx with rfl | hx; exact hbn; exact hm.2 x hx⟩
    obtain ⟨l, h1, h2, h3, h4⟩ := key (s b) (b :: m.1, m.2) (fun t h => h) hm2 (by simp) (by simp; omega)
    have hout := h1.out
    have hmet := h1.met
    have hlen := h1.len
    simp only at hout hmet hlen
    refine ⟨l, ⟨?_, fun x => ?_, ?_, ?_, ?_, ?_⟩, h2, h4⟩
    · show b :: _ = _
      rw [hout]; rfl
    · refine (hmet x).trans ?_
      simp [or_assoc, or_left_comm]
    · refine hlen.trans ?_
      simp; omega
    · exact List.nodup_cons.2 ⟨fun h => (h1.fresh b h).1 (by simp), h1.nodup⟩
    · intro x hx
      rcases List.mem_cons.1 hx with rfl | hx
      · exact ⟨hb, hbn⟩
      · exact ⟨fun h => (h1.fresh x hx).1 (by simp [h]), (h1.fresh x hx).2⟩
    · intro x hx t ht
      rcases List.mem_cons.1 hx with rfl | hx
      · exact h3 t ht
      · exact h1.closed x hx t ht
/-- The order: its blocks are those that can be reached, each one once, the block 0 first, every other one behind a predecessor. -/
theorem order_is (hn : 0 < n) : ∃ q, orderOf s n = 0 :: q ∧ Behind s 0 q ∧ (0 :: q).Nodup ∧ (∀ x ∈ 0 :: q, x < n) ∧ ∀ x, (x ∈ 0 :: q ↔ ∃ l, Way s x l) := by
  obtain ⟨q, h1, h2, h3⟩ := visit_adds hs n 0 ([], []) ⟨List.nodup_nil, by simp⟩ (by simp) (by simp) hn
  have hout : orderOf s n = 0 :: q := by unfold orderOf; rw [h1.out]; simp
  have hin : ∀ x, x ∈ (visit s n 0 ([], [])).1 ↔ x ∈ 0 :: q := fun x => by rw [h1.met]; simp
  refine ⟨q, hout, h2, h1.nodup, fun x hx => (h1.fresh x hx).2, fun x => ⟨?_, ?_⟩⟩
  · have : ∀ (k : Nat) (p r : List Nat), p.length = k → p ++ r = 0 :: q → ∀ x ∈ p, ∃ l, Way s x l := by
      intro k
      induction k with
      | zero => intro p r hp _ x hx; rw [List.length_eq_zero_iff] at hp; subst hp; cases hx
      | succ k ih =>
        intro p r hp e x hx
        obtain ⟨p', y, rfl⟩ : ∃ p' y, p = p' ++ [y] := ⟨p.dropLast, p.getLast (by rintro rfl; simp at hp), (List.dropLast_concat_getLast _).symm⟩
        have hp' : p'.length = k := by simpa using hp
        have ih' := ih p' (y :: r) hp' (by rw [← e]; simp)
        rcases List.mem_append.1 hx with hx | hx
        · exact ih' x hx
        · rw [List.mem_singleton] at hx
          subst hx
          match p' with
          | [] =>
            simp only [List.nil_append, List.cons_append, List.cons.injEq] at e
            rw [e.1]; exact ⟨_, .start⟩
          | z :: p' =>
            simp only [List.cons_append, List.append_assoc, List.nil_append, List.cons.injEq] at e
            obtain ⟨rfl, e⟩ := e
            obtain ⟨u, hu, hx⟩ := h2 p' x r e.symm
            obtain ⟨l, hl⟩ := ih' u hu
            exact ⟨_, .step hl hx⟩
    intro hx
    exact this _ (0 :: q) [] rfl (by simp) x hx
  · rintro ⟨l, hl⟩
    induction hl with
    | start => simp
    | step _ ht ih => exact (hin _).1 (h1.closed _ ih _ ht)
end
end Go.Proofs.YtnbgadndkepomaaGreatDoor

/- Layer 6, plainly: the homes and the numbers of parameters, step by step. -/
namespace Go.Proofs.YtnbgadndkepomaaGreatDoor

/-- The block of an instruction. -/
def homeN (c : Cd) (j : Nat) : Nat := c.bk.findIdx fun b => decide ((j : Int) < b.til)
theorem chain_next : ∀ (l : List CBk) (f n : Int), ChainP f l n → ∀ (i : Nat) (h : i < l.length), (∀ h2 : i + 1 < l.length, l[i].til = l[i + 1].frm) ∧ (i + 1 = l.length → l[i].til = n)
  | [], _, _, _, i, h => by simp at h
  | [a], f, n, h, 0, _ => ⟨fun h2 => by simp at h2, fun _ => by obtain ⟨_, _, h3⟩ := h; exact h3⟩
  | a :: b :: r, f, n, h, 0, _ => ⟨fun _ => by obtain ⟨_, _, h3, _⟩ := h; exact h3.symm, fun e => by simp at e⟩
  | a :: r, f, n, h, i + 1, hi => by
    obtain ⟨_, _, h3⟩ := h
    have := chain_next r _ _ h3 i (by simpa using hi)
    exact ⟨fun h2 => by simpa using this.1 (by simpa using h2), fun e => by simpa using this.2 (by simpa using e)⟩
theorem home_is {c : Cd} (hb : BlocksP c) {i j : Nat} (hi : i < c.bk.length) (h : InBk c.bk[i] j) : homeN c j = i := by
  unfold homeN
  rw [List.findIdx_eq hi]
  refine ⟨by simpa using h.2, fun k hk => ?_⟩
  have := chain_lt _ _ _ hb k i (by omega) hi hk
  have h1 := h.1
  simp only [decide_eq_false_iff_not, Int.not_lt]
  omega
theorem home_lt {c : Cd} (hb : BlocksP c) {j : Nat} (hj : j < c.ins.length) : ∃ h : homeN c j < c.bk.length, InBk c.bk[homeN c j] j := by
  obtain ⟨k, hk, h1⟩ := chain_some _ _ _ hb j (by omega) (by omega)
  have e := home_is hb hk h1
  rw [e]
  exact ⟨hk, h1⟩
/-- A block's bounds as natural numbers. -/
theorem bk_nat {c : Cd} (hb : BlocksP c) {i : Nat} (hi : i < c.bk.length) : ∃ f t : Nat, c.bk[i].frm = f ∧ c.bk[i].til = t ∧ f ≤ t ∧ t ≤ c.ins.length := by
  have := chain_at _ _ _ hb _ (List.getElem_mem hi)
  exact ⟨c.bk[i].frm.toNat, c.bk[i].til.toNat, by omega, by omega, by omega, by omega⟩
/-- What was found before a block. -/
structure ParO (c : Cd) (i : Nat) (P H : List Int) : Prop where
  lp : P.length = c.bk.length
  lh : H.length = c.ins.length
  par : ∀ (n : Nat) (h : n < c.bk.length) (h2 : n < P.length), n < i → P[n] = (parN c c.bk[n] : Int)
  zer : ∀ (n : Nat) (h2 : n < P.length), i ≤ n → P[n] = 0
  hom : ∀ (n : Nat) (h2 : n < H.length), (∀ h : i < c.bk.length, (n : Int) < c.bk[i].frm) → H[n] = (homeN c n : Int)
/-- What was found in a block, before an instruction. -/
structure ParR (c : Cd) (i f k : Nat) (P H : List Int) : Prop where
  lp : P.length = c.bk.length
  lh : H.length = c.ins.length
  par : ∀ (n : Nat) (h : n < c.bk.length) (h2 : n < P.length), n < i → P[n] = (parN c c.bk[n] : Int)
  cur : ∀ (h2 : i < P.length), P[i] = ((((c.ins.drop f).take (k - f)).countP isPar : Nat) : Int)
  zer : ∀ (n : Nat) (h2 : n < P.length), i < n → P[n] = 0
  hom : ∀ (n : Nat) (h2 : n < H.length), n < k → H[n] = (homeN c n : Int)
theorem ParO.start {c : Cd} (hb : BlocksP c) (h1 : 1 ≤ c.bk.length) : ParO c 0 (List.replicate c.bk.length 0) (List.replicate c.ins.length 0) :=
  ⟨by simp, by simp, fun n _ _ h => by omega, fun n _ _ => by simp, fun n _ h => by
    have h2 := h (by omega)
    have : c.bk[0].frm = 0 := by
      match hl : c.bk, h1 with
      | a :: r, _ => unfold BlocksP at hb; rw [hl] at hb; exact hb.1
    omega⟩
theorem ParO.enter {c : Cd} {i : Nat} {P H : List Int} (h : ParO c i P H) (hi : i < c.bk.length) {f : Nat} (hf : c.bk[i].frm = f) : ParR c i f f P H :=
  ⟨h.lp, h.lh, h.par, fun h2 => by rw [h.zer i h2 (Nat.le_refl _)]; simp, fun n h2 hn => h.zer n h2 (by omega), fun n h2 hn => h.hom n h2 (fun _ => by omega)⟩
theorem ParR.leave {c : Cd} {i f t : Nat} {P H : List Int} (hb : BlocksP c) (h : ParR c i f t P H) (hi : i < c.bk.length) (hf : c.bk[i].frm = f) (ht : c.bk[i].til = t) : ParO c (i + 1) P H := by
  refine ⟨h.lp, h.lh, fun n hn h2 hni => ?_, fun n h2 hn => h.zer n h2 (by omega), fun n h2 hp => ?_⟩
  · by_cases e : n = i
    · subst e
      rw [h.cur h2]
      unfold parN insOf
      rw [hf, ht]; simp
    · exact h.par n hn h2 (by omega)
  · apply h.hom n h2
    have hc := chain_next _ _ _ hb i hi
    by_cases e : i + 1 < c.bk.length
    · have h3 := hp e
      rw [← hc.1 e, ht] at h3
      omega
    · have h3 := hc.2 (by omega)
      have := h.lh
      omega
theorem count_step {l : List CIn} {f j : Nat} (hf : f ≤ j) (hj : j < l.length) : ((l.drop f).take (j + 1 - f)).countP isPar = ((l.drop f).take (j - f)).countP isPar + if l[j].op = 30 then 1 else 0 := by
  have h1 : j - f < (l.drop f).length := by rw [List.length_drop]; omega
  rw [show j + 1 - f = (j - f) + 1 by omega, List.take_succ_eq_append_getElem h1, List.countP_append]
  have h2 : (l.drop f)[j - f] = l[j] := by rw [List.getElem_drop]; congr 1; omega
  rw [h2]
  simp [isPar]
theorem ParR.step {c : Cd} {i f j : Nat} {P H : List Int} (hb : BlocksP c) (h : ParR c i f j P H) (hi : i < c.bk.length) (hf : c.bk[i].frm = f) (hfj : f ≤ j) (hj : j < c.ins.length) (ht : (j : Int) < c.bk[i].til) :
    (c.ins[j].op ≠ 30 → ParR c i f (j + 1) P (H.set j i)) ∧ (c.ins[j].op = 30 → ∀ h2 : i < P.length, ParR c i f (j + 1) (P.set i (P[i] + 1)) (H.set j i)) := by
  have hho : homeN c j = i := home_is hb hi ⟨by omega, ht⟩
  have hom : ∀ (n : Nat) (h2 : n < (H.set j (i : Int)).length), n < j + 1 → (H.set j (i : Int))[n] = (homeN c n : Int) := fun n h2 hn => by
    rw [List.getElem_set]
    split
    · rename_i e; subst e; rw [hho]
    · exact h.hom n (by simpa using h2) (by omega)
  constructor
  · intro ho
    refine ⟨h.lp, by simp [h.lh], h.par, fun h2 => ?_, h.zer, hom⟩
    rw [h.cur h2, count_step hfj hj, if_neg ho]; simp
  · intro ho h2
    refine ⟨by simp [h.lp], by simp [h.lh], fun n hn h3 hni => ?_, fun h3 => ?_, fun n h3 hn => ?_, hom⟩
    · rw [List.getElem_set, if_neg (by omega)]; exact h.par n hn (by simpa using h3) hni
    · rw [List.getElem_set, if_pos rfl, h.cur h2, count_step hfj hj, if_pos ho]; simp
    · rw [List.getElem_set, if_neg (by omega)]; exact h.zer n (by simpa using h3) hn
theorem ParR.bound {c : Cd} {i f k : Nat} {P H : List Int} (h : ParR c i f k P H) (h2 : i < P.length) : 0 ≤ P[i] ∧ P[i] ≤ c.ins.length := by
  rw [h.cur h2]
  have h1 : ((c.ins.drop f).take (k - f)).countP isPar ≤ ((c.ins.drop f).take (k - f)).length := List.countP_le_length
  have h3 : ((c.ins.drop f).take (k - f)).length ≤ c.ins.length := by rw [List.length_take, List.length_drop]; omega
  omega
theorem ParO.done {c : Cd} {P H : List Int} (h : ParO c c.bk.length P H) : (∀ (n : Nat) (hn : n < c.bk.length) (h2 : n < P.length), P[n] = (parN c c.bk[n] : Int)) ∧ (∀ (n : Nat) (h2 : n < H.length), H[n] = (homeN c n : Int)) :=
  ⟨fun n hn h2 => h.par n hn h2 hn, fun n h2 => h.hom n h2 (fun h => by omega)⟩
end Go.Proofs.YtnbgadndkepomaaGreatDoor

/- ssa: small facts about valid code, for examine. -/
namespace Go.Proofs.YtnbgadndkepomaaGreatDoor

theorem succs_lt {c : Cd} (he : EndsP c) : ∀ y, ∀ t ∈ succs c y, t < c.bk.length := fun _ _ ht => (succ_lt he ht).1
theorem reach_iff {c : Cd} (he : EndsP c) (h0 : 0 < c.bk.length) : (orderOf (succs c) c.bk.length).length = c.bk.length ↔ ReachP c := by
  obtain ⟨q, e, _, nd, hlt, hin⟩ := order_is (succs_lt he) h0
  rw [e]
  have hle : (0 :: q).length ≤ c.bk.length := MetOk.le ⟨nd, hlt⟩
  constructor
  · intro hl b hb
    refine (hin b).1 (Classical.byContradiction fun hn => ?_)
    have := MetOk.le (n := c.bk.length) (l := b :: 0 :: q) ⟨List.nodup_cons.2 ⟨hn, nd⟩, fun x hx => by rcases List.mem_cons.1 hx with rfl | hx; exact hb; exact hlt x hx⟩
    rw [List.length_cons, hl] at this
    omega
  · intro hr
    have : (List.range c.bk.length).length ≤ (0 :: q).length := List.Nodup.length_le_of_subset List.nodup_range (fun x hx => (hin x).2 (hr x (List.mem_range.1 hx)))
    rw [List.length_range] at this
    omega
theorem order_cons {c : Cd} (he : EndsP c) (h0 : 0 < c.bk.length) (hr : ReachP c) : ∃ q, orderOf (succs c) c.bk.length = 0 :: q ∧ (∀ b, b ∈ q ↔ 0 < b ∧ b < c.bk.length) ∧ q.length ≤ c.bk.length := by
  obtain ⟨q, e, _, nd, hlt, hin⟩ := order_is (succs_lt he) h0
  have hle : (0 :: q).length ≤ c.bk.length := MetOk.le ⟨nd, hlt⟩
  refine ⟨q, e, fun b => ⟨fun hb => ⟨?_, hlt b (List.mem_cons_of_mem _ hb)⟩, fun ⟨hb0, hb⟩ => ?_⟩, by simp at hle; omega⟩
  · have := (List.nodup_cons.1 nd).1
    exact Nat.pos_of_ne_zero (fun e => by subst e; exact this hb)
  · rcases List.mem_cons.1 ((hin b).2 (hr b hb)) with e | hq
    · omega
    · exact hq
theorem parN_le (c : Cd) (b : CBk) : parN c b ≤ c.ins.length := by
  unfold parN insOf
  refine Nat.le_trans List.countP_le_length ?_
  rw [List.length_take, List.length_drop]
  omega
theorem endArgs_le {c : Cd} (hl : ListsP c) (he : EndsP c) : ∀ b ∈ c.bk, (endArgs b.en).length ≤ 1000000000 := fun b hb => by
  have h3 := hl.2.2.2.1
  have hE := (he b hb).2.2
  have h1 : ∀ e ∈ edges b.en, e.args.length ≤ 3000 := fun e hh => by
    obtain ⟨_, h4, _, h5⟩ := hE e hh
    rw [h5]
    exact Nat.le_trans (parN_le c _) h3
  unfold endArgs
  rw [List.length_append]
  have h2 : ((edges b.en).map (·.args)).flatten.length ≤ 6000 := by
    unfold edges at h1 ⊢
    by_cases k1 : b.en.kind = 1
    · rw [if_pos k1] at h1 ⊢
      have := h1 ⟨b.en.to, b.en.ta⟩ (by simp)
      simp at this ⊢; omega
    · rw [if_neg k1] at h1 ⊢
      by_cases k2 : b.en.kind = 2
      · rw [if_pos k2] at h1 ⊢
        have a1 := h1 ⟨b.en.to, b.en.ta⟩ (by simp)
        have a2 := h1 ⟨b.en.els, b.en.ea⟩ (by simp)
        simp at a1 a2 ⊢; omega
      · rw [if_neg k2]; simp
  have h6 : (if b.en.kind = 2 then [b.en.a] else []).length ≤ 1 := by split <;> simp
  omega
theorem args_ix {c : Cd} (hb : BlocksP c) (hv : ValuesP c) : ∀ i ∈ c.ins, ∀ v ∈ argsOf i, Ix v c.ins := fun i hi v hva => by
  obtain ⟨j, hj, rfl⟩ := List.getElem_of_mem hi
  obtain ⟨h1, h2⟩ := home_lt hb hj
  exact ((hv (homeN c j) h1).1 j hj h2 v hva).1
theorem ends_ix {c : Cd} (hv : ValuesP c) : ∀ y ∈ c.bk, ∀ v ∈ endArgs y.en, Ix v c.ins := fun y hy v hva => by
  obtain ⟨k, hk, rfl⟩ := List.getElem_of_mem hy
  exact ((hv k hk).2 v hva).1
theorem fields_op {c : Cd} (h : FieldsP c) : ∀ i ∈ c.ins, OpP i.op := fun i hi => by
  obtain ⟨j, hj, rfl⟩ := List.getElem_of_mem hi
  exact (h.1 j hj).2.1
end Go.Proofs.YtnbgadndkepomaaGreatDoor

/- ssa: sets of blocks as seven words; the greatest sets, found by rounds. Nothing of the program stands here. -/
namespace Go.Proofs.YtnbgadndkepomaaGreatDoor

theorem gd_lt {α : Type} {l : List α} (d : α) {i : Nat} (h : i < l.length) : l.getD i d = l[i] := by rw [List.getD_eq_getElem?_getD, List.getElem?_eq_getElem h]; rfl
theorem gd_ge {α : Type} {l : List α} (d : α) {i : Nat} (h : l.length ≤ i) : l.getD i d = d := by rw [List.getD_eq_getElem?_getD, List.getElem?_eq_none h]; rfl
/-- A set of blocks: seven words. -/
abbrev Bs := List Nat
def okS (s : Bs) : Prop := s.length = 7 ∧ ∀ v ∈ s, v < 18446744073709551616
def hasS (s : Bs) (b : Nat) : Bool := (s.getD (b / 64) 0).testBit (b % 64)
def addS (s : Bs) (b : Nat) : Bs := s.set (b / 64) (s.getD (b / 64) 0 ||| 2 ^ (b % 64))
def keepS (s o : Bs) : Bs := List.zipWith (fun a b => a &&& b) s o
def allS : Bs := List.replicate 7 18446744073709551615
def noneS : Bs := List.replicate 7 0
theorem okS_all : okS allS := ⟨by simp [allS], fun v hv => by simp [allS] at hv; omega⟩
theorem okS_none : okS noneS := ⟨by simp [noneS], fun v hv => by simp [noneS] at hv; omega⟩
theorem okS_getD {s : Bs} (h : okS s) (k : Nat) : s.getD k 0 < 18446744073709551616 := by
  by_cases hk : k < s.length
  · rw [gd_lt _ hk]; exact h.2 _ (List.getElem_mem hk)
  · rw [gd_ge _ (by omega)]; omega
theorem okS_add {s : Bs} (h : okS s) (b : Nat) : okS (addS s b) := by
  refine ⟨by simp [addS, h.1], fun v hv => ?_⟩
  rcases List.mem_or_eq_of_mem_set hv with hv | rfl
  · exact h.2 v hv
  · have h1 := okS_getD h (b / 64)
    have h2 : 2 ^ (b % 64) < 2 ^ 64 := Nat.pow_lt_pow_right (by omega) (by omega)
    exact Nat.or_lt_two_pow (n := 64) h1 h2
theorem okS_keep {s o : Bs} (h : okS s) (k : okS o) : okS (keepS s o) := by
  refine ⟨by simp [keepS, h.1, k.1], fun v hv => ?_⟩
  obtain ⟨i, hi, rfl⟩ := List.getElem_of_mem hv
  simp only [keepS, List.getElem_zipWith]
  exact Nat.lt_of_le_of_lt Nat.and_le_left (h.2 _ (List.getElem_mem _))
theorem keepS_getD {s o : Bs} (h : okS s) (k : okS o) (i : Nat) : (keepS s o).getD i 0 = s.getD i 0 &&& o.getD i 0 := by
  have h1 := h.1
  have k1 := k.1
  by_cases hi : i < 7
  · rw [gd_lt _ (by simp [keepS]; omega), gd_lt _ (by omega), gd_lt _ (by omega)]
    simp [keepS]
  · rw [gd_ge _ (by simp [keepS]; omega), gd_ge _ (by omega)]
    simp
theorem has_keep {s o : Bs} (h : okS s) (k : okS o) (b : Nat) : hasS (keepS s o) b = (hasS s b && hasS o b) := by
  unfold hasS
  rw [keepS_getD h k, Nat.testBit_and]
theorem has_all {b : Nat} (hb : b < 448) : hasS allS b = true := by
  unfold hasS
  have h : allS.getD (b / 64) 0 = 2 ^ 64 - 1 := by
    rw [gd_lt _ (by simp [allS]; omega)]
    unfold allS
    rw [List.getElem_replicate]
  rw [h, Nat.testBit_two_pow_sub_one]
  simp; omega
theorem has_big {s : Bs} (h : okS s) {b : Nat} (hb : 448 ≤ b) : hasS s b = false := by
  have h1 := h.1
  unfold hasS
  rw [gd_ge _ (by omega)]
  simp
theorem has_none (b : Nat) : hasS noneS b = false := by
  unfold hasS
  have h : noneS.getD (b / 64) 0 = 0 := by
    by_cases hb : b / 64 < 7
    · rw [gd_lt _ (by simp [noneS]; omega)]; unfold noneS; rw [List.getElem_replicate]
    · rw [gd_ge _ (by simp [noneS]; omega)]
  rw [h]; simp
theorem has_add {s : Bs} (h : okS s) {b : Nat} (hb : b < 448) (x : Nat) : hasS (addS s b) x = (decide (x = b) || hasS s x) := by
  have h1 := h.1
  unfold hasS addS
  by_cases e : b / 64 = x / 64
  · rw [← e, gd_lt _ (by simp; omega), List.getElem_set_self, Nat.testBit_or, Nat.testBit_two_pow, Bool.or_comm]
    congr 1
    by_cases q : x = b
    · subst q; simp
    · have : b % 64 ≠ x % 64 := by omega
      simp [q, this]
  · have q : x ≠ b := fun q => e (by rw [q])
    have : (s.set (b / 64) (s.getD (b / 64) 0 ||| 2 ^ (b % 64))).getD (x / 64) 0 = s.getD (x / 64) 0 := by
      rw [List.getD_eq_getElem?_getD, List.getElem?_set_ne e, ← List.getD_eq_getElem?_getD]
    rw [this, decide_eq_false q, Bool.false_or]

/-- The set that the predecessors' sets ask of a block. -/
def meetS (D : List Bs) (ps : List Nat) : Bs := ps.foldl (fun s p => keepS s (D.getD p noneS)) allS
def newS (D : List Bs) (ps : List Nat) (b : Nat) : Bs := addS (meetS D ps) b
def okD (D : List Bs) : Prop := ∀ s ∈ D, okS s
theorem okD_getD {D : List Bs} (h : okD D) (p : Nat) : okS (D.getD p noneS) := by
  by_cases hp : p < D.length
  · rw [gd_lt _ hp]; exact h _ (List.getElem_mem hp)
  · rw [gd_ge _ (by omega)]; exact okS_none
theorem fold_ok {D : List Bs} (h : okD D) : ∀ (ps : List Nat) (s : Bs), okS s → okS (ps.foldl (fun s p => keepS s (D.getD p noneS)) s)
  | [], _, hs => hs
  | p :: ps, _, hs => fold_ok h ps _ (okS_keep hs (okD_getD h p))
theorem meet_ok {D : List Bs} (h : okD D) (ps : List Nat) : okS (meetS D ps) := fold_ok h ps _ okS_all
theorem new_ok {D : List Bs} (h : okD D) (ps : List Nat) (b : Nat) : okS (newS D ps b) := okS_add (meet_ok h ps) b
theorem fold_has {D : List Bs} (h : okD D) (x : Nat) : ∀ (ps : List Nat) (s : Bs), okS s → (hasS (ps.foldl (fun s p => keepS s (D.getD p noneS)) s) x = true ↔ hasS s x = true ∧ ∀ p ∈ ps, hasS (D.getD p noneS) x = true)
  | [], s, _ => by simp
  | p :: ps, s, hs => by
    rw [List.foldl_cons, fold_has h x ps _ (okS_keep hs (okD_getD h p)), has_keep hs (okD_getD h p), Bool.and_eq_true]
    simp only [List.mem_cons, forall_eq_or_imp, and_assoc]
theorem new_has {D : List Bs} (h : okD D) (ps : List Nat) {b x : Nat} (hb : b < 448) (hx : x < 448) : hasS (newS D ps b) x = true ↔ x = b ∨ ∀ p ∈ ps, hasS (D.getD p noneS) x = true := by
  unfold newS
  rw [has_add (meet_ok h ps) hb, Bool.or_eq_true, decide_eq_true_eq]
  unfold meetS
  rw [fold_has h x ps _ okS_all]
  simp [has_all hx]

/-! ### One set within another -/
def Sub (s o : Bs) : Prop := ∀ x, x < 448 → hasS s x = true → hasS o x = true
theorem sub_le {s o : Bs} (h : okS s) (_k : okS o) (hs : Sub s o) (i : Nat) (hi : i < 7) : s.getD i 0 ≤ o.getD i 0 := by
  have e : s.getD i 0 = s.getD i 0 &&& o.getD i 0 := by
    apply Nat.eq_of_testBit_eq
    intro j
    rw [Nat.testBit_and]
    by_cases hj : j < 64
    · have := hs (i * 64 + j) (by omega)
      unfold hasS at this
      rw [show (i * 64 + j) / 64 = i by omega, show (i * 64 + j) % 64 = j by omega] at this
      cases h1 : (s.getD i 0).testBit j with
      | false => simp
      | true => rw [this h1]; rfl
    · have : (s.getD i 0).testBit j = false := Nat.testBit_lt_two_pow (Nat.lt_of_lt_of_le (okS_getD h i) (by
        have : 2 ^ 64 ≤ 2 ^ j := Nat.pow_le_pow_right (by omega) (by omega)
        omega))
      rw [this, Bool.false_and]
  rw [e]
  exact Nat.and_le_right
theorem sum_le : ∀ (a b : List Nat), a.length = b.length → (∀ i, i < a.length → a.getD i 0 ≤ b.getD i 0) → a.sum ≤ b.sum ∧ (a ≠ b → a.sum < b.sum)
  | [], [], _, _ => ⟨Nat.le_refl _, fun h => absurd rfl h⟩
  | [], _ :: _, h, _ => by simp at h
  | _ :: _, [], h, _ => by simp at h
  | x :: a, y :: b, hl, h => by
    have h0 : x ≤ y := by simpa using h 0 (by simp)
    obtain ⟨i1, i2⟩ := sum_le a b (by simpa using hl) (fun i hi => by simpa using h (i + 1) (by simpa using hi))
    simp only [List.sum_cons]
    refine ⟨by omega, fun hne => ?_⟩
    by_cases e : x = y
    · subst e
      have := i2 (fun e => hne (by rw [e]))
      omega
    · omega
theorem sub_sum {s o : Bs} (h : okS s) (k : okS o) (hs : Sub s o) : s.sum ≤ o.sum ∧ (s ≠ o → s.sum < o.sum) :=
  sum_le s o (by rw [h.1, k.1]) (fun i hi => sub_le h k hs i (by rw [h.1] at hi; exact hi))
def totalS (D : List Bs) : Nat := (D.map List.sum).sum
theorem total_set : ∀ (D : List Bs) (b : Nat) (h : b < D.length) (s : Bs), totalS (D.set b s) + D[b].sum = totalS D + s.sum
  | [], _, h, _ => by simp at h
  | a :: D, 0, _, s => by simp [totalS]; omega
  | a :: D, b + 1, h, s => by
    have := total_set D b (by simpa using h) s
    simp [totalS] at this ⊢
    omega
/-! ### The rounds -/
/-- What holds of the sets in each round. -/
structure Doms (s : Nat → List Nat) (n : Nat) (pr : Nat → List Nat) (D : List Bs) : Prop where
  len : D.length = n
  ok : okD D
  zero : ∀ x, x < 448 → (hasS (D.getD 0 noneS) x = true ↔ x = 0)
  up : ∀ b x, b < n → x < 448 → Dom s x b → hasS (D.getD b noneS) x = true
  down : ∀ b, 0 < b → b < n → Sub (newS D (pr b) b) (D.getD b noneS)
def startD (n : Nat) : List Bs := (List.replicate n allS).set 0 (addS noneS 0)
theorem getD_set_self {α : Type} {l : List α} {b : Nat} (h : b < l.length) (v d : α) : (l.set b v).getD b d = v := by
  rw [gd_lt _ (by simpa using h)]; simp
theorem getD_set_ne {α : Type} {l : List α} {b c : Nat} (h : b ≠ c) (v d : α) : (l.set b v).getD c d = l.getD c d := by
  rw [List.getD_eq_getElem?_getD, List.getD_eq_getElem?_getD, List.getElem?_set_ne h]
theorem start_at {n b : Nat} (hb : b < n) : (startD n).getD b noneS = if b = 0 then addS noneS 0 else allS := by
  unfold startD
  by_cases e : b = 0
  · subst e; rw [if_pos rfl, getD_set_self (by simpa using hb)]
  · rw [if_neg e, getD_set_ne (by omega), gd_lt _ (by simpa using hb)]; simp
theorem start_doms (s : Nat → List Nat) {n : Nat} (h0 : 0 < n) (pr : Nat → List Nat) : Doms s n pr (startD n) := by
  refine ⟨by simp [startD], ?_, ?_, ?_, ?_⟩
  · intro t ht
    unfold startD at ht
    rcases List.mem_or_eq_of_mem_set ht with ht | rfl
    · rw [(List.mem_replicate.1 ht).2]; exact okS_all
    · exact okS_add okS_none 0
  · intro x _
    rw [start_at h0, if_pos rfl, has_add okS_none (by omega), has_none]
    simp
  · intro b x hb hx hd
    rw [start_at hb]
    by_cases e : b = 0
    · subst e
      have := dom_zero hd
      subst this
      rw [if_pos rfl, has_add okS_none (by omega)]
      simp
    · rw [if_neg e]; exact has_all hx
  · intro b h1 hb x hx _
    rw [start_at hb, if_neg (by omega)]
    exact has_all hx
section
variable {s : Nat → List Nat} {n : Nat} {pr : Nat → List Nat} {D : List Bs}
theorem new_mono (h : okD D) {D' : List Bs} (h' : okD D') (hs : ∀ b, Sub (D'.getD b noneS) (D.getD b noneS)) (ps : List Nat) {b : Nat} (hb : b < 448) : Sub (newS D' ps b) (newS D ps b) := fun x hx hn => by
  rw [new_has h' ps hb hx] at hn
  rw [new_has h ps hb hx]
  rcases hn with e | hn
  · exact .inl e
  · exact .inr fun p hp => hs p x hx (hn p hp)
theorem Doms.step (h : Doms s n pr D) (hn : n ≤ 400) (hp : ∀ b p, b < n → (p ∈ pr b ↔ p < n ∧ b ∈ s p)) {b : Nat} (h0 : 0 < b) (hb : b < n) :
    Doms s n pr (D.set b (newS D (pr b) b)) ∧ totalS (D.set b (newS D (pr b) b)) ≤ totalS D ∧ (newS D (pr b) b ≠ D.getD b noneS → totalS (D.set b (newS D (pr b) b)) < totalS D) := by
  have hl := h.len
  have hbl : b < D.length := by omega
  have hok : okD (D.set b (newS D (pr b) b)) := fun t ht => by
    rcases List.mem_or_eq_of_mem_set ht with ht | rfl
    · exact h.ok t ht
    · exact new_ok h.ok _ _
  have hsub : ∀ k, Sub ((D.set b (newS D (pr b) b)).getD k noneS) (D.getD k noneS) := fun k x hx hh => by
    by_cases e : b = k
    · subst e
      rw [getD_set_self hbl] at hh
      exact h.down b h0 hb x hx hh
    · rw [getD_set_ne e] at hh; exact hh
  have hsum := sub_sum (new_ok h.ok (pr b) b) (okD_getD h.ok b) (h.down b h0 hb)
  have htot := total_set D b hbl (newS D (pr b) b)
  have hge : D.getD b noneS = D[b] := gd_lt _ hbl
  refine ⟨⟨by simpa using hl, hok, ?_, ?_, ?_⟩, by rw [hge] at hsum; omega, fun hne => by have := hsum.2 hne; rw [hge] at this; omega⟩
  · intro x hx
    rw [getD_set_ne (by omega)]
    exact h.zero x hx
  · intro k x hk hx hd
    by_cases e : b = k
    · subst e
      rw [getD_set_self hbl, new_has h.ok _ (by omega) hx]
      by_cases q : x = b
      · exact .inl q
      · refine .inr fun p hpp => ?_
        obtain ⟨p1, p2⟩ := (hp b p hb).1 hpp
        rcases dom_step p2 hd with q2 | q2
        · exact absurd q2 q
        · exact h.up p x p1 hx q2
    · rw [getD_set_ne e]; exact h.up k x hk hx hd
  · intro k k0 hk
    have hm := new_mono h.ok hok hsub (pr k) (b := k) (by omega)
    by_cases e : b = k
    · subst e
      rw [getD_set_self hbl]
      exact hm
    · rw [getD_set_ne e]
      exact fun x hx hh => h.down k k0 hk x hx (hm x hx hh)
/-- The sets of a round that changed nothing are the dominators. -/
theorem Doms.done (h : Doms s n pr D) (hn : n ≤ 400) (hp : ∀ b p, b < n → (p ∈ pr b ↔ p < n ∧ b ∈ s p)) (hs : ∀ b t, b < n → t ∈ s b → 0 < t ∧ t < n) (h0 : 0 < n)
    (hf : ∀ b, 0 < b → b < n → newS D (pr b) b = D.getD b noneS) {b x : Nat} (hb : b < n) (hx : x < n) : hasS (D.getD b noneS) x = true ↔ Dom s x b := by
  constructor
  · intro hh l hl
    have hwlt : ∀ b l, Way s b l → b < n := fun b l hw => by
      induction hw with
      | start => exact h0
      | step _ ht ih => exact (hs _ _ ih ht).2
    refine dom_sound (D := fun b x => b < n → x < 448 ∧ hasS (D.getD b noneS) x = true) (s := s) ?_ ?_ hl (fun _ => ⟨by omega, hh⟩)
    · intro x hx
      obtain ⟨h1, h2⟩ := hx h0
      exact (h.zero x h1).1 h2
    · intro p t ht x hx
      by_cases e : x = t
      · exact .inl e
      · refine .inr fun hpn => ?_
        obtain ⟨t0, tn⟩ := hs p t hpn ht
        obtain ⟨h1, h2⟩ := hx tn
        refine ⟨h1, ?_⟩
        rw [← hf t t0 tn, new_has h.ok _ (by omega) h1] at h2
        rcases h2 with h2 | h2
        · exact absurd h2 e
        · exact h2 p ((hp t p tn).2 ⟨hpn, ht⟩)
  · exact h.up b x hb (by omega)
end
end Go.Proofs.YtnbgadndkepomaaGreatDoor
