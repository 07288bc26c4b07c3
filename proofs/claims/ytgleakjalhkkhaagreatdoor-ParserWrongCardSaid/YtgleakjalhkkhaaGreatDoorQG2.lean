/- Joined texts: PPiece, PBnd. -/
import Derived.Test.YtgleakjalhkkhaaGreatDoorQB1
import Derived.Test.YtgleakjalhkkhaaGreatDoorQV4

/- Sources made of pieces: a token's text and the gap behind it. Positions as what is left of the tokens. -/
namespace Go.Proofs.YtgleakjalhkkhaaGreatDoor
open Go

structure Pc where
  x : Str
  g : Str
  v : Nat × Str × Nat
def pcB : List Pc → Str
  | [] => []
  | p :: r => p.x ++ (p.g ++ pcB r)
def pcT : Nat → List Pc → List Tok
  | _, [] => []
  | o, p :: r => mkTok p.v o :: pcT (o + p.x.length + p.g.length) r
/-- A piece fits before what begins with this byte. -/
def fitB (p : Pc) (n : Option UInt8) : Bool := p.x != [] && readT p.x == (p.v, 0) && tokLen (p.x ++ (p.g ++ n.toList)) == p.x.length && gapLen (p.g ++ n.toList) == p.g.length
def okP : List Pc → Option UInt8 → Bool
  | [], _ => true
  | p :: r, n => fitB p ((pcB r).head?.or n) && okP r n
theorem pcB_app : ∀ a b : List Pc, pcB (a ++ b) = pcB a ++ pcB b
  | [], b => rfl
  | p :: r, b => by simp [pcB, pcB_app r b]
theorem pcT_app : ∀ (a b : List Pc) (o : Nat), pcT o (a ++ b) = pcT o a ++ pcT (o + (pcB a).length) b
  | [], b, o => rfl
  | p :: r, b, o => by simp [pcT, pcB, pcT_app r b]; congr 1; omega
theorem pcT_len : ∀ (a : List Pc) (o : Nat), (pcT o a).length = a.length
  | [], _ => rfl
  | p :: r, o => by simp [pcT, pcT_len r]
theorem head_or (a b : Str) : (a ++ b).head? = a.head?.or b.head? := by cases a <;> simp
theorem or_or (a b c : Option UInt8) : (a.or b).or c = a.or (b.or c) := by cases a <;> rfl
theorem okP_app : ∀ (a b : List Pc) (n : Option UInt8), okP (a ++ b) n = (okP a ((pcB b).head?.or n) && okP b n)
  | [], b, n => rfl
  | p :: r, b, n => by
    rw [List.cons_append, okP, okP, okP_app r b n, pcB_app, head_or, or_or, Bool.and_assoc]
theorem head_list (n : Option UInt8) : n.toList.head? = n := by cases n <;> rfl
theorem lp_pieces : ∀ (a : List Pc) (o : Nat) (r : Str) (us : List Tok) (m : Str) (e : Nat), okP a r.head? = true → Lp r (o + (pcB a).length) us m e → Lp (pcB a ++ r) o (pcT o a ++ us) m e
  | [], o, r, us, m, e, _, h => h
  | p :: q, o, r, us, m, e, hk, h => by
    rw [okP, Bool.and_eq_true] at hk
    have hf := hk.1
    simp only [fitB, Bool.and_eq_true, bne_iff_ne, ne_eq, beq_iff_eq] at hf
    obtain ⟨⟨⟨h2, h3⟩, h1⟩, h4⟩ := hf
    have hh : (pcB q ++ r).head? = ((pcB q).head?.or r.head?).toList.head? := by rw [head_list, head_or]
    have e1 : pcB (p :: q) ++ r = p.x ++ (p.g ++ (pcB q ++ r)) := by simp [pcB]
    rw [e1]
    refine Lp.cons p.x p.g _ p.v o _ _ _ ?_ h2 h3 (gap_swap h4 (.inr hh)) (lp_pieces q _ r us m e hk.2 ?_)
    · refine tok_swap h1 h2 (.inr (.inl ?_))
      rw [head_or, head_or p.g, hh]
    · have : o + p.x.length + p.g.length + (pcB q).length = o + (pcB (p :: q)).length := by simp [pcB]; omega
      rw [this]; exact h
theorem lexS_pieces (a : List Pc) (hk : okP a none = true) (hg : gapLen (pcB a) = 0) (hs : (pcB a).length ≤ 4000) (ht : a.length ≤ 1500) : lexS (pcB a) = (pcT 0 a, 0, 0) := by
  have h := lp_pieces a 0 [] [] [] _ hk (Lp.stop [] _)
  rw [List.append_nil, List.append_nil] at h
  exact lexS_of ⟨[], pcB a, rfl, hg, h⟩ hs (by rw [pcT_len]; exact ht)

/-! ### Repeated pieces -/
def rep {α : Type} (u : List α) : Nat → List α
  | 0 => []
  | k + 1 => u ++ rep u k
theorem rep_len {α : Type} (u : List α) : ∀ k, (rep u k).length = k * u.length
  | 0 => by simp [rep]
  | k + 1 => by simp [rep, rep_len u k, Nat.succ_mul, Nat.add_comm]
theorem rep_snoc {α : Type} (u : List α) : ∀ k, rep u (k + 1) = rep u k ++ u
  | 0 => by simp [rep]
  | k + 1 => by
    rw [rep, rep_snoc u k, ← List.append_assoc, ← rep, rep_snoc u k]
theorem rep_add {α : Type} (u : List α) : ∀ a b, rep u (a + b) = rep u a ++ rep u b
  | 0, b => by simp [rep]
  | a + 1, b => by rw [Nat.succ_add, rep, rep_add u a b]; simp [rep]
theorem pcB_rep (u : List Pc) : ∀ k, (pcB (rep u k)).length = k * (pcB u).length
  | 0 => by simp [rep, pcB]
  | k + 1 => by rw [rep, pcB_app, List.length_append, pcB_rep u k, Nat.succ_mul, Nat.add_comm]
theorem okP_rep (u : List Pc) (n : Option UInt8) (h1 : okP u n = true) (h2 : okP u (pcB u).head? = true) (hu : (pcB u).head? ≠ none) : ∀ k, okP (rep u k) n = true
  | 0 => rfl
  | 1 => by rw [rep, rep, List.append_nil]; exact h1
  | k + 2 => by
    rw [rep, okP_app, okP_rep u n h1 h2 hu (k + 1)]
    have : (pcB (rep u (k + 1))).head? = (pcB u).head? := by
      rw [rep, pcB_app, head_or]
      cases h : (pcB u).head? with
      | none => exact absurd h hu
      | some b => rfl
    rw [this]
    cases h : (pcB u).head? with
    | none => exact absurd h hu
    | some b => rw [h] at h2; simp [h2]
theorem head_rep (u : List Pc) (r : Str) : ∀ k, (pcB (rep u k) ++ r).head? = if k = 0 then r.head? else (pcB u).head?.or ((pcB (rep u (k - 1)) ++ r).head?)
  | 0 => by simp [rep, pcB]
  | k + 1 => by simp [rep, pcB_app]

/-! ### The parser's steps, by what is left -/
def pt (t : Tok) : PTok := ⟨t, wordT t⟩
theorem ptoks_pt (l : List Tok) (e : Nat) : ptoks l e = l.map pt ++ [⟨⟨0, [], 0, e⟩, wEnd⟩] := rfl
section
variable {ts : List PTok}
theorem at_get {i : Nat} {t : PTok} {l : List PTok} (h : ts.drop i = t :: l) : ts[i]? = some t := by
  have : (ts.drop i)[0]? = some t := by rw [h]; rfl
  simpa using this
theorem at_wd {i : Nat} {t : PTok} {l : List PTok} (h : ts.drop i = t :: l) : wd ts i = t.word := by unfold wd; rw [at_get h]
theorem at_tk {i : Nat} {t : PTok} {l : List PTok} (h : ts.drop i = t :: l) : tk ts i = t.tok := by unfold tk; rw [at_get h]
theorem at_next {i : Nat} {t : PTok} {l : List PTok} (h : ts.drop i = t :: l) : ts.drop (i + 1) = l := by
  rw [← List.drop_drop, h]; rfl
theorem at_skip {i : Nat} {a l : List PTok} (h : ts.drop i = a ++ l) : ts.drop (i + a.length) = l := by
  rw [← List.drop_drop, h, List.drop_left]
theorem at_len {i : Nat} {t : PTok} {l : List PTok} (h : ts.drop i = t :: l) : i < ts.length := by
  have := congrArg List.length h
  simp at this; omega
theorem tk_ok {w : Str} {i : Nat} {ds : List (Nat × Nat)} (h : wd ts i = w) : take ts w ⟨i, ds⟩ = .ok (tk ts i) ⟨i + 1, ds⟩ := by unfold take; rw [if_pos h]
theorem bg_ok {k : Nat} {w : Str} {i : Nat} {ds : List (Nat × Nat)} (h : wd ts i = w) : begin_ ts k w ⟨i, ds⟩ = .ok (.mk k [] [] 0 0 (tk ts i).off []) ⟨i + 1, ds⟩ := by
  unfold begin_; rw [bnd_ok (tk_ok h)]; rfl
theorem nm_ok {i : Nat} {ds : List (Nat × Nat)} (h : wd ts i = wName) : name ts ⟨i, ds⟩ = .ok (tk ts i).text ⟨i + 1, ds⟩ := by
  unfold name; rw [bnd_ok (tk_ok h)]; rfl
theorem wi_ok {i : Nat} {ds : List (Nat × Nat)} (h : wd ts i = wType) : width ts ⟨i, ds⟩ = .ok (tk ts i).num ⟨i + 1, ds⟩ := by
  unfold width; rw [bnd_ok (tk_ok h)]; rfl
theorem tk_no {w : Str} {i : Nat} {ds : List (Nat × Nat)} (h : wd ts i ≠ w) : take ts w ⟨i, ds⟩ = fail ts 10 ⟨i, ds⟩ := by unfold take; rw [if_neg h]
theorem fail_one {α : Type} {e i : Nat} : fail (α := α) ts e ⟨i, []⟩ = .out 0 ⟨i, [(e, (tk ts i).off)]⟩ := rfl
/-- A word at which nothing ends while a statement is left out. -/
def plainB (w : Str) : Bool := !(w == kStruct || w == kFunc || w == kParse || w == wEnd || w == pLB || w == pRB || w == pSemi)
theorem skp_one {g o i : Nat} {ds : List (Nat × Nat)} (h : plainB (wd ts i) = true) : skipGo ts (g + 1) o ⟨i, ds⟩ = skipGo ts g o ⟨i + 1, ds⟩ := by
  simp only [plainB, Bool.not_eq_true', Bool.or_eq_false_iff, beq_eq_false_iff_ne] at h
  obtain ⟨⟨⟨⟨⟨⟨a, b⟩, c⟩, d⟩, e⟩, f⟩, j⟩ := h
  rw [skipGo]
  simp [a, b, c, d, e, f, j]
theorem skp_semi {g i : Nat} {ds : List (Nat × Nat)} (h : wd ts i = pSemi) : skipGo ts (g + 1) 0 ⟨i, ds⟩ = .ok () ⟨i + 1, ds⟩ := by
  rw [skipGo]; simp only [h]; rfl
theorem skp_open {g o i : Nat} {ds : List (Nat × Nat)} (h : wd ts i = pLB) : skipGo ts (g + 1) o ⟨i, ds⟩ = skipGo ts g (o + 1) ⟨i + 1, ds⟩ := by
  rw [skipGo]; simp only [h]; rfl
theorem skp_close {g o i : Nat} {ds : List (Nat × Nat)} (h : wd ts i = pRB) (ho : 2 ≤ o) : skipGo ts (g + 1) o ⟨i, ds⟩ = skipGo ts g (o - 1) ⟨i + 1, ds⟩ := by
  rw [skipGo]; simp only [h]
  rw [if_neg (by decide), if_neg (by decide), if_pos trivial, if_neg (by omega), if_neg (by omega)]
theorem skp_last {g i : Nat} {ds : List (Nat × Nat)} (h : wd ts i = pRB) (h2 : wd ts (i + 1) ≠ kElse) : skipGo ts (g + 1) 1 ⟨i, ds⟩ = .ok () ⟨i + 1, ds⟩ := by
  rw [skipGo]; simp only [h]
  rw [if_neg (by decide), if_neg (by decide), if_pos trivial, if_neg (by omega), if_pos ⟨trivial, h2⟩]
theorem skp_here {g i : Nat} {ds : List (Nat × Nat)} (h : wd ts i = pRB) : skipGo ts (g + 1) 0 ⟨i, ds⟩ = .ok () ⟨i, ds⟩ := by
  rw [skipGo]; simp only [h]
  rw [if_neg (by decide), if_neg (by decide), if_pos trivial, if_pos trivial]
theorem skp_plain : ∀ (l : List PTok) (g i : Nat) (ds : List (Nat × Nat)) (t : PTok) (r : List PTok), ts.drop i = l ++ t :: r → (∀ x ∈ l, plainB x.word = true) → t.word = pSemi → l.length < g → skipGo ts g 0 ⟨i, ds⟩ = .ok () ⟨i + l.length + 1, ds⟩
  | [], g, i, ds, t, r, h, _, hw, hg => by
    obtain ⟨g, rfl⟩ : ∃ n, g = n + 1 := ⟨g - 1, by simp at hg; omega⟩
    rw [skp_semi (by rw [at_wd h, hw])]; rfl
  | x :: l, g, i, ds, t, r, h, hp, hw, hg => by
    obtain ⟨g, rfl⟩ : ∃ n, g = n + 1 := ⟨g - 1, by simp at hg; omega⟩
    have h : ts.drop i = x :: (l ++ t :: r) := h
    rw [skp_one (by rw [at_wd h]; exact hp x (by simp)), skp_plain l g (i + 1) ds t r (at_next h) (fun y hy => hp y (by simp [hy])) hw (by simp at hg; omega)]
    simp; omega
end
end Go.Proofs.YtgleakjalhkkhaaGreatDoor

/- How high and how wide the trees are that are read. -/
namespace Go.Proofs.YtgleakjalhkkhaaGreatDoor
open Go

def Ho {α : Type} (P : α → Prop) (m : PM α) : Prop := ∀ s a s', m s = .ok a s' → P a
theorem ho_ret {α : Type} {P : α → Prop} {a : α} (h : P a) : Ho P (ret a) := fun s b s' e => by cases e; exact h
theorem ho_bnd {α β : Type} {P : α → Prop} {Q : β → Prop} {m : PM α} {f : α → PM β} (h : Ho P m) (g : ∀ a, P a → Ho Q (f a)) : Ho Q (bnd m f) := fun s b s' e => by
  cases hm : m s with
  | ok a s1 => rw [bnd_ok hm] at e; exact g a (h _ _ _ hm) _ _ _ e
  | out l s1 => rw [bnd_out hm] at e; cases e
theorem ho_then {α β : Type} {Q : β → Prop} {m : PM α} {f : α → PM β} (g : ∀ a, Ho Q (f a)) : Ho Q (bnd m f) := ho_bnd (P := fun _ => True) (fun _ _ _ _ => trivial) fun a _ => g a
theorem ho_ite {α : Type} {Q : α → Prop} {c : St → Prop} [∀ s, Decidable (c s)] {m n : PM α} (hm : Ho Q m) (hn : Ho Q n) : Ho Q (fun s => if c s then m s else n s) := fun s a s' e => by
  by_cases hc : c s
  · simp only [if_pos hc] at e; exact hm _ _ _ e
  · simp only [if_neg hc] at e; exact hn _ _ _ e
theorem ho_fail {α : Type} {Q : α → Prop} (ts : List PTok) (e : Nat) : Ho Q (fail ts e) := fun s a s' h => by cases h
/-- A tree of at most this height, all rows of it of at most 100,000. -/
def Hh (h : Nat) (t : T) : Prop := htT t ≤ h ∧ fewT t
def HL (h n : Nat) (l : List T) : Prop := htL l ≤ h ∧ fewTs l ∧ l.length ≤ n
theorem Hh.le {h k : Nat} {t : T} (a : Hh h t) (b : h ≤ k) : Hh k t := ⟨Nat.le_trans a.1 b, a.2⟩
theorem HL.nil (h n : Nat) : HL h n [] := ⟨Nat.zero_le _, trivial, Nat.zero_le _⟩
theorem htL_app : ∀ a b : List T, htL (a ++ b) = max (htL a) (htL b)
  | [], b => by simp [htL]
  | t :: r, b => by simp [htL, htL_app r b, Nat.max_assoc]
theorem fewTs_app : ∀ a b : List T, fewTs a → fewTs b → fewTs (a ++ b)
  | [], _, _, h => h
  | _ :: r, b, ha, hb => ⟨ha.1, fewTs_app r b ha.2 hb⟩
theorem HL.snoc {h n : Nat} {l : List T} {t : T} (a : HL h n l) (b : Hh h t) : HL h (n + 1) (l ++ [t]) :=
  ⟨by rw [htL_app]; exact Nat.max_le.2 ⟨a.1, by simp [htL]; exact b.1⟩, fewTs_app _ _ a.2.1 ⟨b.2, trivial⟩, by have := a.2.2; simp; omega⟩
theorem HL.wide {h n k : Nat} {l : List T} (a : HL h n l) (b : n ≤ k) : HL h k l := ⟨a.1, a.2.1, Nat.le_trans a.2.2 b⟩
theorem HL.le {h k n : Nat} {l : List T} (a : HL h n l) (b : h ≤ k) : HL k n l := ⟨Nat.le_trans a.1 b, a.2⟩
theorem hh_mk {h n : Nat} {k : Nat} {nm p : Str} {x y o : Nat} {l : List T} (a : HL h n l) (b : n ≤ 100000) : Hh (h + 1) (.mk k nm p x y o l) :=
  ⟨by simp only [htT]; have := a.1; omega, Nat.le_trans a.2.2 b, a.2.1⟩
theorem hh_leaf {h : Nat} {k : Nat} {nm p : Str} {x y o : Nat} : Hh (h + 1) (.mk k nm p x y o []) := hh_mk (HL.nil h 0) (by omega)
theorem hl1 {h : Nat} {t : T} (a : Hh h t) : HL h 1 [t] := (HL.nil h 0).snoc a
theorem hl2 {h : Nat} {t u : T} (a : Hh h t) (b : Hh h u) : HL h 2 [t, u] := (hl1 a).snoc b
theorem hl3 {h : Nat} {t u v : T} (a : Hh h t) (b : Hh h u) (c : Hh h v) : HL h 3 [t, u, v] := (hl2 a b).snoc c
section
variable (ts : List PTok) (hts : ts.length ≤ 2000)
theorem ho_begin (k : Nat) (w : Str) : Ho (Hh 1) (begin_ ts k w) := ho_then fun _ => ho_ret hh_leaf
theorem ho_typedName (k : Nat) : Ho (Hh 1) (typedName ts k) := ho_then fun _ => ho_then fun _ => ho_then fun _ => ho_ret hh_leaf
theorem ho_typedMore (k : Nat) : ∀ g n l, HL 1 n l → Ho (HL 1 (n + g)) (typedMore ts k g l)
  | 0, n, l, h => ho_ret h
  | g + 1, n, l, h => ho_ite (c := fun s => wd ts s.nx = pComma) (ho_then fun _ => ho_bnd (ho_typedName ts k) fun t ht => by
      have := ho_typedMore k g (n + 1) _ (h.snoc ht)
      rw [show n + 1 + g = n + (g + 1) by omega] at this
      exact this) (ho_ret (h.wide (by omega)))
theorem ho_typedNames (k : Nat) : Ho (HL 1 (1 + ts.length)) (typedNames ts k) := ho_bnd (ho_typedName ts k) fun _ ht => ho_typedMore ts k _ 1 _ (hl1 ht)
variable {e b : PM T} {h : Nat} (he : Ho (Hh h) e) (hb : Ho (Hh h) b)
include he
theorem ho_inBrackets : Ho (Hh h) (inBrackets ts e) := ho_then fun _ => ho_bnd he fun _ k => ho_then fun _ => ho_ret k
theorem ho_argsMore : ∀ g n l, HL h n l → Ho (HL h (n + g)) (argsMore ts e g l)
  | 0, n, l, k => ho_ret k
  | g + 1, n, l, k => by
    have more : ∀ t, Hh h t → Ho (HL h (n + (g + 1))) (argsMore ts e g (l ++ [t])) := fun t ht => by
      have := ho_argsMore g (n + 1) _ (k.snoc ht)
      rw [show n + 1 + g = n + (g + 1) by omega] at this
      exact this
    exact ho_ite (c := fun s => wd ts s.nx = pRP) (ho_ret (k.wide (by omega))) (ho_ite (c := fun _ => l = []) (ho_bnd he more) (ho_then fun _ => ho_bnd he more))
include hts
theorem ho_arguments : Ho (HL h 2000) (arguments ts e) := ho_then fun _ => ho_bnd (ho_argsMore ts he ts.length 0 [] (HL.nil h 0)) fun _ k => ho_then fun _ => ho_ret (k.wide (by omega))
theorem ho_varRest (t : Tok) : Ho (Hh (h + 1)) (varRest ts e t) :=
  ho_ite (c := fun s => wd ts s.nx = pLK) (ho_bnd (ho_inBrackets ts he) fun _ k => ho_ret (hh_mk (hl1 k) (by omega))) (ho_ite (c := fun s => wd ts s.nx = pDot) (ho_then fun _ => ho_ret hh_leaf) (ho_ite (c := fun s => wd ts s.nx = pLP) (ho_bnd (ho_arguments ts hts he) fun _ k => ho_ret (hh_mk k (by omega))) (ho_ret hh_leaf)))
theorem ho_exprOf {w : Str} {m : PM T} (k : exprOf ts e w = some m) : Ho (Hh (h + 1)) m := by
  unfold exprOf at k
  (repeat' split at k) <;> cases k
  · exact ho_then fun _ => ho_bnd (ho_inBrackets ts he) fun _ k => ho_ret (hh_mk (hl1 k) (by omega))
  · exact ho_then fun _ => ho_ret hh_leaf
  · exact ho_then fun _ => ho_bnd he fun _ a => ho_then fun _ => ho_bnd he fun _ b => ho_then fun _ => ho_ret (hh_mk (hl2 a b) (by omega))
  · exact ho_then fun _ => ho_bnd he fun _ a => ho_ret (hh_mk (hl1 a) (by omega))
  · exact ho_then fun _ => ho_then fun _ => ho_then fun _ => ho_bnd he fun _ a => ho_then fun _ => ho_ret (hh_mk (hl1 a) (by omega))
  · exact ho_then fun _ => ho_then fun _ => ho_then fun _ => ho_ret hh_leaf
  · exact ho_then fun t => ho_varRest ts hts he t
  · intro s a s' k
    exact (show Ho (Hh (h + 1)) (cast ts e 29 (tk ts s.nx).off) from ho_then fun _ => ho_then fun _ => ho_bnd he fun _ a => ho_then fun _ => ho_ret (hh_mk (hl1 a) (by omega))) _ _ _ k
omit he
theorem ho_expression : ∀ f, Ho (Hh f) (expression ts f)
  | 0 => fun s a s' k => by
    unfold expression at k
    split at k <;> cases k
  | f + 1 => fun s a s' k => by
    have ih := ho_expression f
    unfold expression at k
    split at k
    · cases k
    · rename_i m hm
      exact ho_exprOf ts hts ih hm _ _ _ k
include he
omit hts in
theorem ho_value {g : T → T} {k : Nat} (hg : ∀ a, Hh h a → Hh k (g a)) : Ho (Hh k) (value ts e g) := ho_bnd he fun a x => ho_then fun _ => ho_ret (hg a x)
include hb
omit hts in
theorem ho_stmtOf {w : Str} {m : PM T} (k : stmtOf ts e b w = some m) : Ho (Hh (h + 1)) m := by
  have named : ∀ (kind : Nat) (w : Str), Ho (Hh (h + 1)) (readNamed ts e kind w) := fun kind w => ho_then fun _ => ho_then fun _ => ho_then fun _ => ho_value ts he fun a x => hh_mk (hl1 x) (by omega)
  have pair : ∀ (kind : Nat) (w z : Str), Ho (Hh (h + 1)) (readPair ts kind w z) := fun kind w z => ho_then fun _ => ho_then fun _ => ho_then fun _ => ho_then fun _ => ho_then fun _ => ho_ret hh_leaf
  unfold stmtOf at k
  by_cases ckLet : w = kLet
  · rw [if_pos ckLet] at k
    injection k with k
    rw [← k]
    exact named _ _
  rw [if_neg ckLet] at k
  by_cases ckNew : w = kNew
  · rw [if_pos ckNew] at k
    injection k with k
    rw [← k]
    exact ho_then fun _ => ho_then fun _ => ho_then fun _ => ho_then fun _ => ho_bnd (ho_inBrackets ts he) fun _ x => ho_then fun _ => ho_ret (hh_mk (hl1 x) (by omega))
  rw [if_neg ckNew] at k
  by_cases ckMake : w = kMake
  · rw [if_pos ckMake] at k
    injection k with k
    rw [← k]
    exact pair _ _ _
  rw [if_neg ckMake] at k
  by_cases ckFree : w = kFree
  · rw [if_pos ckFree] at k
    injection k with k
    rw [← k]
    exact ho_then fun _ => ho_then fun _ => ho_then fun _ => ho_ret hh_leaf
  rw [if_neg ckFree] at k
  by_cases ckSame : w = kSame
  · rw [if_pos ckSame] at k
    injection k with k
    rw [← k]
    exact pair _ _ _
  rw [if_neg ckSame] at k
  by_cases ckIf : w = kIf
  · rw [if_pos ckIf] at k
    injection k with k
    rw [← k]
    exact ho_then fun _ => ho_bnd he fun _ x => ho_bnd hb fun _ y => ho_ite (c := fun s => wd ts s.nx = kElse) (ho_then fun _ => ho_bnd hb fun _ z => ho_ret (hh_mk (hl3 x y z) (by omega))) (ho_ret (hh_mk (hl2 x y) (by omega)))
  rw [if_neg ckIf] at k
  by_cases ckWhile : w = kWhile
  · rw [if_pos ckWhile] at k
    injection k with k
    rw [← k]
    exact ho_then fun _ => ho_bnd he fun _ x => ho_bnd hb fun _ y => ho_ret (hh_mk (hl2 x y) (by omega))
  rw [if_neg ckWhile] at k
  by_cases ckEmit : w = kEmit
  · rw [if_pos ckEmit] at k
    injection k with k
    rw [← k]
    exact named _ _
  rw [if_neg ckEmit] at k
  by_cases ckAccept : w = kAccept
  · rw [if_pos ckAccept] at k
    injection k with k
    rw [← k]
    exact ho_bnd (ho_begin ts _ _) fun _ x => ho_then fun _ => ho_ret (x.le (by omega))
  rw [if_neg ckAccept] at k
  by_cases ckReject : w = kReject
  · rw [if_pos ckReject] at k
    injection k with k
    rw [← k]
    exact ho_then fun _ => ho_then fun _ => ho_then fun _ => ho_ret hh_leaf
  rw [if_neg ckReject] at k
  by_cases ckReturn : w = kReturn
  · rw [if_pos ckReturn] at k
    injection k with k
    rw [← k]
    exact ho_then fun _ => ho_value ts he fun a x => hh_mk (hl1 x) (by omega)
  rw [if_neg ckReturn] at k
  by_cases cwName : w = wName
  · rw [if_pos cwName] at k
    injection k with k
    rw [← k]
    exact ho_then fun t => ho_ite (c := fun s => wd ts s.nx = pLK) (ho_bnd (ho_inBrackets ts he) fun _ x => ho_then fun _ => ho_value ts he fun a y => hh_mk (hl2 x y) (by omega)) (ho_ite (c := fun s => wd ts s.nx = pDot) (ho_then fun _ => ho_then fun _ => ho_value ts he fun a y => hh_mk (hl1 y) (by omega)) (ho_then fun _ => ho_value ts he fun a y => hh_mk (hl1 y) (by omega)))
  rw [if_neg cwName] at k
  cases k
omit hts in
theorem ho_statement : Ho (Hh (h + 1)) (statement ts e b) := fun s a s' k => by
  unfold statement at k
  split at k
  · cases k
  · rename_i m hm
    exact ho_stmtOf ts he hb hm _ _ _ k
omit he hb
omit hts in
theorem ho_stmts {m : PM T} {h : Nat} (hm : Ho (Hh h) m) : ∀ g n l, HL h n l → Ho (HL h (n + g)) (stmts ts m g l)
  | 0, n, l, k => ho_ret k
  | g + 1, n, l, k => fun s a s' r => by
    unfold stmts at r
    by_cases hc : wd ts s.nx = pRB
    · simp only [if_pos hc] at r
      cases r
      exact k.wide (by omega)
    · simp only [if_neg hc] at r
      cases ha : attempt m 0 s with
      | out q s1 => rw [bnd_out ha] at r; cases r
      | ok o s1 =>
        rw [bnd_ok ha] at r
        cases o with
        | some t =>
          have ht : Hh h t := by
            unfold attempt at ha
            split at ha
            · rename_i h1
              cases ha
              exact hm _ _ _ h1
            · split at ha <;> cases ha
          have := ho_stmts hm g (n + 1) _ (k.snoc ht) _ _ _ r
          rw [show n + 1 + g = n + (g + 1) by omega] at this
          exact this
        | none =>
          simp only at r
          cases hk : skipStatement ts s1 with
          | out q s2 => rw [bnd_out hk] at r; cases r
          | ok u s2 =>
            rw [bnd_ok hk] at r
            exact (ho_stmts hm g n _ k _ _ _ r).wide (by omega)
include hts
theorem ho_block : ∀ f, Ho (Hh (2 * f)) (block ts f)
  | 0 => ho_ite (c := fun s => wd ts s.nx = pLB) (ho_fail ts 11) (ho_fail ts 10)
  | f + 1 => by
    have hs : Ho (Hh (2 * f + 1)) (statement ts (expression ts f) (block ts f)) := ho_statement ts (fun s a s' k => (ho_expression ts hts f s a s' k).le (by omega)) (ho_block f)
    exact ho_ite (c := fun s => wd ts s.nx = pLB) (ho_then fun _ => ho_bnd (ho_stmts ts hs (2 * ts.length + 2) 0 [] (HL.nil _ 0)) fun _ x => ho_then fun _ => ho_ret (hh_mk x (by omega))) (ho_fail ts 10)
theorem ho_item : Ho (Hh 21) (item ts (block ts 10)) := by
  have fr : ∀ (o : Nat) (x : Str) (n : Nat) (l : List T), HL 20 n l → n ≤ 5000 → Ho (Hh 21) (funcRest ts (block ts 10) o x l) := fun o x n l hl hn => ho_then fun _ => ho_then fun _ => ho_bnd (ho_block ts hts 10) fun _ k => ho_ret (hh_mk (hl.snoc k) (by omega))
  refine ho_ite (c := fun s => wd ts s.nx = kStruct) ?_ (ho_ite (c := fun s => wd ts s.nx = kFunc) ?_ (ho_ite (c := fun s => wd ts s.nx = kParse) ?_ (ho_fail ts 10)))
  · exact ho_then fun _ => ho_then fun _ => ho_then fun _ => ho_bnd (ho_typedNames ts 3) fun _ l => ho_then fun _ => ho_ret ((hh_mk l (by omega)).le (by omega))
  · exact ho_then fun _ => ho_then fun _ => ho_then fun _ => ho_ite (c := fun s => wd ts s.nx = pRP) (fr _ _ 0 [] (HL.nil _ 0) (by omega)) (ho_bnd (ho_typedNames ts 5) fun l hl => fr _ _ _ l (hl.le (by omega)) (by omega))
  · exact ho_then fun _ => fun s a s' k => (ho_block ts hts 10 s a s' k).le (by omega)
omit hts
theorem ho_items {m : PM T} {h : Nat} (hm : Ho (Hh h) m) : ∀ g n l, HL h n l → Ho (HL h (n + g)) (items ts m g l)
  | 0, n, l, k => ho_ret k
  | g + 1, n, l, k => fun s a s' r => by
    unfold items at r
    cases ha : attempt m (if wd ts s.nx = kParse then 0 else 1) s with
    | out q s1 => rw [bnd_out ha] at r; cases r
    | ok o s1 =>
      rw [bnd_ok ha] at r
      cases o with
      | some t =>
        have ht : Hh h t := by
          generalize (if wd ts s.nx = kParse then 0 else 1) = most at ha
          unfold attempt at ha
          split at ha
          · rename_i h1
            cases ha
            exact hm _ _ _ h1
          · split at ha <;> cases ha
        simp only at r
        split at r
        · cases r; exact (k.snoc ht).wide (by omega)
        · have := ho_items hm g (n + 1) _ (k.snoc ht) _ _ _ r
          rw [show n + 1 + g = n + (g + 1) by omega] at this
          exact this
      | none =>
        simp only at r
        cases hk : skipItem ts ts.length s1 with
        | out q s2 => rw [bnd_out hk] at r; cases r
        | ok u s2 =>
          rw [bnd_ok hk] at r
          exact (ho_items hm g n _ k _ _ _ r).wide (by omega)
include hts
theorem ho_program : Ho (Hh 22) (program ts) := ho_bnd (ho_items ts (ho_item ts hts) (2 * ts.length + 2) 0 [] (HL.nil _ 0)) fun _ l => ho_then fun _ => ho_ret (hh_mk l (by omega))
end
theorem zero_few : Hh 22 T.zero := ⟨by simp [T.zero, htT, htL], by simp [T.zero, fewT, fewTs]⟩
/-- What Parse answers is neither high nor wide. -/
theorem parse_hh (s : Str) (hl : (lexS s).1.length ≤ 1500) : Hh 22 (parseS s).1 := by
  unfold parseS
  split
  · rename_i l x hx
    rw [hx] at hl
    have hts : (ptoks l s.length).length ≤ 2000 := by unfold ptoks; simp; simp at hl; omega
    split
    · rename_i t s' ha
      split
      · unfold attempt at ha
        split at ha
        · rename_i h1
          cases ha
          exact ho_program _ hts _ _ _ h1
        · split at ha <;> cases ha
      · exact zero_few
    · exact zero_few
    · exact zero_few
  · exact zero_few
end Go.Proofs.YtgleakjalhkkhaaGreatDoor
