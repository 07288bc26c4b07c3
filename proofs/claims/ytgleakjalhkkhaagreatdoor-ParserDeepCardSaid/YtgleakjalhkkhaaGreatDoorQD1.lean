/- Joined texts: PPiece, PDeepM, PDeepB, PDeep, PDeepH. -/
import Derived.Test.YtgleakjalhkkhaaGreatDoorQB1
import Derived.Lib.Repeat
import Derived.WalkKit
import Derived.Test.YtgleakjalhkkhaaGreatDoorQV2
import Derived.Test.YtgleakjalhkkhaaGreatDoorQV6
import Derived.Deep.RegionHeld3
import Derived.IntWalk

/- Sources made of pieces: a token's text and the gap behind it. Positions as what is left of the tokens. -/
namespace Go.Proofs.YtgleakjalhkkhaaGreatDoor
open Go

structure Pc where
  x : Str
  g : Str
  v : Nat × Str × Nat
def pcB : List Pc → Str
  | [] => []
  | p :: r => p.x ++ (p.g ++ pcB r)
def pcT : Nat → List Pc → List Tok
  | _, [] => []
  | o, p :: r => mkTok p.v o :: pcT (o + p.x.length + p.g.length) r
/-- A piece fits before what begins with this byte. -/
def fitB (p : Pc) (n : Option UInt8) : Bool := p.x != [] && readT p.x == (p.v, 0) && tokLen (p.x ++ (p.g ++ n.toList)) == p.x.length && gapLen (p.g ++ n.toList) == p.g.length
def okP : List Pc → Option UInt8 → Bool
  | [], _ => true
  | p :: r, n => fitB p ((pcB r).head?.or n) && okP r n
theorem pcB_app : ∀ a b : List Pc, pcB (a ++ b) = pcB a ++ pcB b
  | [], b => rfl
  | p :: r, b => by simp [pcB, pcB_app r b]
theorem pcT_app : ∀ (a b : List Pc) (o : Nat), pcT o (a ++ b) = pcT o a ++ pcT (o + (pcB a).length) b
  | [], b, o => rfl
  | p :: r, b, o => by simp [pcT, pcB, pcT_app r b]; congr 1; omega
theorem pcT_len : ∀ (a : List Pc) (o : Nat), (pcT o a).length = a.length
  | [], _ => rfl
  | p :: r, o => by simp [pcT, pcT_len r]
theorem head_or (a b : Str) : (a ++ b).head? = a.head?.or b.head? := by cases a <;> simp
theorem or_or (a b c : Option UInt8) : (a.or b).or c = a.or (b.or c) := by cases a <;> rfl
theorem okP_app : ∀ (a b : List Pc) (n : Option UInt8), okP (a ++ b) n = (okP a ((pcB b).head?.or n) && okP b n)
  | [], b, n => rfl
  | p :: r, b, n => by
    rw [List.cons_append, okP, okP, okP_app r b n, pcB_app, head_or, or_or, Bool.and_assoc]
theorem head_list (n : Option UInt8) : n.toList.head? = n := by cases n <;> rfl
theorem lp_pieces : ∀ (a : List Pc) (o : Nat) (r : Str) (us : List Tok) (m : Str) (e : Nat), okP a r.head? = true → Lp r (o + (pcB a).length) us m e → Lp (pcB a ++ r) o (pcT o a ++ us) m e
  | [], o, r, us, m, e, _, h => h
  | p :: q, o, r, us, m, e, hk, h => by
    rw [okP, Bool.and_eq_true] at hk
    have hf := hk.1
    simp only [fitB, Bool.and_eq_true, bne_iff_ne, ne_eq, beq_iff_eq] at hf
    obtain ⟨⟨⟨h2, h3⟩, h1⟩, h4⟩ := hf
    have hh : (pcB q ++ r).head? = ((pcB q).head?.or r.head?).toList.head? := by rw [head_list, head_or]
    have e1 : pcB (p :: q) ++ r = p.x ++ (p.g ++ (pcB q ++ r)) := by simp [pcB]
    rw [e1]
    refine Lp.cons p.x p.g _ p.v o _ _ _ ?_ h2 h3 (gap_swap h4 (.inr hh)) (lp_pieces q _ r us m e hk.2 ?_)
    · refine tok_swap h1 h2 (.inr (.inl ?_))
      rw [head_or, head_or p.g, hh]
    · have : o + p.x.length + p.g.length + (pcB q).length = o + (pcB (p :: q)).length := by simp [pcB]; omega
      rw [this]; exact h
theorem lexS_pieces (a : List Pc) (hk : okP a none = true) (hg : gapLen (pcB a) = 0) (hs : (pcB a).length ≤ 4000) (ht : a.length ≤ 1500) : lexS (pcB a) = (pcT 0 a, 0, 0) := by
  have h := lp_pieces a 0 [] [] [] _ hk (Lp.stop [] _)
  rw [List.append_nil, List.append_nil] at h
  exact lexS_of ⟨[], pcB a, rfl, hg, h⟩ hs (by rw [pcT_len]; exact ht)

/-! ### Repeated pieces -/
def rep {α : Type} (u : List α) : Nat → List α
  | 0 => []
  | k + 1 => u ++ rep u k
theorem rep_len {α : Type} (u : List α) : ∀ k, (rep u k).length = k * u.length
  | 0 => by simp [rep]
  | k + 1 => by simp [rep, rep_len u k, Nat.succ_mul, Nat.add_comm]
theorem rep_snoc {α : Type} (u : List α) : ∀ k, rep u (k + 1) = rep u k ++ u
  | 0 => by simp [rep]
  | k + 1 => by
    rw [rep, rep_snoc u k, ← List.append_assoc, ← rep, rep_snoc u k]
theorem rep_add {α : Type} (u : List α) : ∀ a b, rep u (a + b) = rep u a ++ rep u b
  | 0, b => by simp [rep]
  | a + 1, b => by rw [Nat.succ_add, rep, rep_add u a b]; simp [rep]
theorem pcB_rep (u : List Pc) : ∀ k, (pcB (rep u k)).length = k * (pcB u).length
  | 0 => by simp [rep, pcB]
  | k + 1 => by rw [rep, pcB_app, List.length_append, pcB_rep u k, Nat.succ_mul, Nat.add_comm]
theorem okP_rep (u : List Pc) (n : Option UInt8) (h1 : okP u n = true) (h2 : okP u (pcB u).head? = true) (hu : (pcB u).head? ≠ none) : ∀ k, okP (rep u k) n = true
  | 0 => rfl
  | 1 => by rw [rep, rep, List.append_nil]; exact h1
  | k + 2 => by
    rw [rep, okP_app, okP_rep u n h1 h2 hu (k + 1)]
    have : (pcB (rep u (k + 1))).head? = (pcB u).head? := by
      rw [rep, pcB_app, head_or]
      cases h : (pcB u).head? with
      | none => exact absurd h hu
      | some b => rfl
    rw [this]
    cases h : (pcB u).head? with
    | none => exact absurd h hu
    | some b => rw [h] at h2; simp [h2]
theorem head_rep (u : List Pc) (r : Str) : ∀ k, (pcB (rep u k) ++ r).head? = if k = 0 then r.head? else (pcB u).head?.or ((pcB (rep u (k - 1)) ++ r).head?)
  | 0 => by simp [rep, pcB]
  | k + 1 => by simp [rep, pcB_app]

/-! ### The parser's steps, by what is left -/
def pt (t : Tok) : PTok := ⟨t, wordT t⟩
theorem ptoks_pt (l : List Tok) (e : Nat) : ptoks l e = l.map pt ++ [⟨⟨0, [], 0, e⟩, wEnd⟩] := rfl
section
variable {ts : List PTok}
theorem at_get {i : Nat} {t : PTok} {l : List PTok} (h : ts.drop i = t :: l) : ts[i]? = some t := by
  have : (ts.drop i)[0]? = some t := by rw [h]; rfl
  simpa using this
theorem at_wd {i : Nat} {t : PTok} {l : List PTok} (h : ts.drop i = t :: l) : wd ts i = t.word := by unfold wd; rw [at_get h]
theorem at_tk {i : Nat} {t : PTok} {l : List PTok} (h : ts.drop i = t :: l) : tk ts i = t.tok := by unfold tk; rw [at_get h]
theorem at_next {i : Nat} {t : PTok} {l : List PTok} (h : ts.drop i = t :: l) : ts.drop (i + 1) = l := by
  rw [← List.drop_drop, h]; rfl
theorem at_skip {i : Nat} {a l : List PTok} (h : ts.drop i = a ++ l) : ts.drop (i + a.length) = l := by
  rw [← List.drop_drop, h, List.drop_left]
theorem at_len {i : Nat} {t : PTok} {l : List PTok} (h : ts.drop i = t :: l) : i < ts.length := by
  have := congrArg List.length h
  simp at this; omega
theorem tk_ok {w : Str} {i : Nat} {ds : List (Nat × Nat)} (h : wd ts i = w) : take ts w ⟨i, ds⟩ = .ok (tk ts i) ⟨i + 1, ds⟩ := by unfold take; rw [if_pos h]
theorem bg_ok {k : Nat} {w : Str} {i : Nat} {ds : List (Nat × Nat)} (h : wd ts i = w) : begin_ ts k w ⟨i, ds⟩ = .ok (.mk k [] [] 0 0 (tk ts i).off []) ⟨i + 1, ds⟩ := by
  unfold begin_; rw [bnd_ok (tk_ok h)]; rfl
theorem nm_ok {i : Nat} {ds : List (Nat × Nat)} (h : wd ts i = wName) : name ts ⟨i, ds⟩ = .ok (tk ts i).text ⟨i + 1, ds⟩ := by
  unfold name; rw [bnd_ok (tk_ok h)]; rfl
theorem wi_ok {i : Nat} {ds : List (Nat × Nat)} (h : wd ts i = wType) : width ts ⟨i, ds⟩ = .ok (tk ts i).num ⟨i + 1, ds⟩ := by
  unfold width; rw [bnd_ok (tk_ok h)]; rfl
theorem tk_no {w : Str} {i : Nat} {ds : List (Nat × Nat)} (h : wd ts i ≠ w) : take ts w ⟨i, ds⟩ = fail ts 10 ⟨i, ds⟩ := by unfold take; rw [if_neg h]
theorem fail_one {α : Type} {e i : Nat} : fail (α := α) ts e ⟨i, []⟩ = .out 0 ⟨i, [(e, (tk ts i).off)]⟩ := rfl
/-- A word at which nothing ends while a statement is left out. -/
def plainB (w : Str) : Bool := !(w == kStruct || w == kFunc || w == kParse || w == wEnd || w == pLB || w == pRB || w == pSemi)
theorem skp_one {g o i : Nat} {ds : List (Nat × Nat)} (h : plainB (wd ts i) = true) : skipGo ts (g + 1) o ⟨i, ds⟩ = skipGo ts g o ⟨i + 1, ds⟩ := by
  simp only [plainB, Bool.not_eq_true', Bool.or_eq_false_iff, beq_eq_false_iff_ne] at h
  obtain ⟨⟨⟨⟨⟨⟨a, b⟩, c⟩, d⟩, e⟩, f⟩, j⟩ := h
  rw [skipGo]
  simp [a, b, c, d, e, f, j]
theorem skp_semi {g i : Nat} {ds : List (Nat × Nat)} (h : wd ts i = pSemi) : skipGo ts (g + 1) 0 ⟨i, ds⟩ = .ok () ⟨i + 1, ds⟩ := by
  rw [skipGo]; simp only [h]; rfl
theorem skp_open {g o i : Nat} {ds : List (Nat × Nat)} (h : wd ts i = pLB) : skipGo ts (g + 1) o ⟨i, ds⟩ = skipGo ts g (o + 1) ⟨i + 1, ds⟩ := by
  rw [skipGo]; simp only [h]; rfl
theorem skp_close {g o i : Nat} {ds : List (Nat × Nat)} (h : wd ts i = pRB) (ho : 2 ≤ o) : skipGo ts (g + 1) o ⟨i, ds⟩ = skipGo ts g (o - 1) ⟨i + 1, ds⟩ := by
  rw [skipGo]; simp only [h]
  rw [if_neg (by decide), if_neg (by decide), if_pos trivial, if_neg (by omega), if_neg (by omega)]
theorem skp_last {g i : Nat} {ds : List (Nat × Nat)} (h : wd ts i = pRB) (h2 : wd ts (i + 1) ≠ kElse) : skipGo ts (g + 1) 1 ⟨i, ds⟩ = .ok () ⟨i + 1, ds⟩ := by
  rw [skipGo]; simp only [h]
  rw [if_neg (by decide), if_neg (by decide), if_pos trivial, if_neg (by omega), if_pos ⟨trivial, h2⟩]
theorem skp_here {g i : Nat} {ds : List (Nat × Nat)} (h : wd ts i = pRB) : skipGo ts (g + 1) 0 ⟨i, ds⟩ = .ok () ⟨i, ds⟩ := by
  rw [skipGo]; simp only [h]
  rw [if_neg (by decide), if_neg (by decide), if_pos trivial, if_pos trivial]
theorem skp_plain : ∀ (l : List PTok) (g i : Nat) (ds : List (Nat × Nat)) (t : PTok) (r : List PTok), ts.drop i = l ++ t :: r → (∀ x ∈ l, plainB x.word = true) → t.word = pSemi → l.length < g → skipGo ts g 0 ⟨i, ds⟩ = .ok () ⟨i + l.length + 1, ds⟩
  | [], g, i, ds, t, r, h, _, hw, hg => by
    obtain ⟨g, rfl⟩ : ∃ n, g = n + 1 := ⟨g - 1, by simp at hg; omega⟩
    rw [skp_semi (by rw [at_wd h, hw])]; rfl
  | x :: l, g, i, ds, t, r, h, hp, hw, hg => by
    obtain ⟨g, rfl⟩ : ∃ n, g = n + 1 := ⟨g - 1, by simp at hg; omega⟩
    have h : ts.drop i = x :: (l ++ t :: r) := h
    rw [skp_one (by rw [at_wd h]; exact hp x (by simp)), skp_plain l g (i + 1) ds t r (at_next h) (fun y hy => hp y (by simp [hy])) hw (by simp at hg; omega)]
    simp; omega
end
end Go.Proofs.YtgleakjalhkkhaaGreatDoor

/- Sources that are deep: what the parser answers of them, if they are too deep. -/
namespace Go.Proofs.YtgleakjalhkkhaaGreatDoor
open Go

theorem ok_deep {H U M V T : List Pc} {c d e : UInt8} (k : Nat) (hU : (pcB U).head? = some c) (hM : (pcB M).head? = some d) (hV : (pcB V).head? = some e)
    (h1 : okP H (some c) = true) (h2 : okP U (some c) = true) (h3 : okP U (some d) = true) (h4 : okP M (some e) = true) (h5 : okP V (some e) = true) (h6 : okP V (pcB T).head? = true) (h7 : okP T none = true) :
    okP (H ++ (rep U (k + 1) ++ (M ++ (rep V (k + 1) ++ T)))) none = true := by
  have r1 : ∀ n, (pcB (rep U (k + 1))).head?.or n = some c := fun n => by rw [rep, pcB_app, head_or, hU]; rfl
  have r2 : ∀ n, (pcB (rep V (k + 1))).head?.or n = some e := fun n => by rw [rep, pcB_app, head_or, hV]; rfl
  rw [okP_app, okP_app, okP_app, okP_app, pcB_app, head_or, pcB_app, head_or, pcB_app, head_or]
  simp only [or_or]
  rw [r1, r2, hM]
  rw [h1, show ((some d : Option UInt8).or (some e)) = some d from rfl]
  have e1 : (pcB T).head?.or none = (pcB T).head? := by cases (pcB T).head? <;> rfl
  rw [okP_rep U (some d) h3 (by rw [hU]; exact h2) (by rw [hU]; simp) (k + 1), h4, e1, okP_rep V _ h6 (by rw [hV]; exact h5) (by rw [hV]; simp) (k + 1), h7]
  rfl
theorem ok_deep0 {H U M T : List Pc} {c d : UInt8} (k : Nat) (hU : (pcB U).head? = some c) (hM : (pcB M).head? = some d)
    (h1 : okP H (some c) = true) (h2 : okP U (some c) = true) (h3 : okP U (some d) = true) (h4 : okP (M ++ T) none = true) :
    okP (H ++ (rep U (k + 1) ++ (M ++ T))) none = true := by
  have r1 : ∀ n, (pcB (rep U (k + 1))).head?.or n = some c := fun n => by rw [rep, pcB_app, head_or, hU]; rfl
  rw [okP_app, okP_app, pcB_app, head_or, or_or, r1, h1, h4]
  have r3 : (pcB (M ++ T)).head?.or none = some d := by rw [pcB_app, head_or, hM]; rfl
  rw [r3, okP_rep U (some d) h3 (by rw [hU]; exact h2) (by rw [hU]; simp) (k + 1)]
  rfl
theorem rep_bytes (u : List Pc) (x : Str) (h : pcB u = x) : ∀ k, pcB (rep u k) = Lib.repeatL x k
  | 0 => rfl
  | k + 1 => by rw [rep, pcB_app, rep_bytes u x h k, h]; rfl
theorem pcT_mem : ∀ (a : List Pc) (o : Nat) (t : Tok), t ∈ pcT o a → ∃ p ∈ a, ∃ o', t = mkTok p.v o'
  | [], _, _, h => by cases h
  | p :: r, o, t, h => by
    rcases List.mem_cons.1 h with rfl | h
    · exact ⟨p, by simp, o, rfl⟩
    · obtain ⟨q, hq, o', e⟩ := pcT_mem r _ t h
      exact ⟨q, by simp [hq], o', e⟩
theorem rep_mem {α : Type} (u : List α) : ∀ (k : Nat) (p : α), p ∈ rep u k → p ∈ u
  | 0, _, h => by cases h
  | k + 1, p, h => by
    rcases List.mem_append.1 h with h | h
    · exact h
    · exact rep_mem u k p h
theorem word_mk (v : Nat × Str × Nat) (o : Nat) : wordT (mkTok v o) = wordT (mkTok v 0) := rfl
theorem plain_mem {a : List Pc} {o : Nat} (h : ∀ p ∈ a, plainB (wordT (mkTok p.v 0)) = true) : ∀ x ∈ (pcT o a).map pt, plainB x.word = true := by
  intro x hx
  obtain ⟨t, ht, rfl⟩ := List.mem_map.1 hx
  obtain ⟨p, hp, o', rfl⟩ := pcT_mem _ _ _ ht
  exact h p hp
theorem plain_rep {u : List Pc} (h : u.all (fun p => plainB (wordT (mkTok p.v 0))) = true) (k : Nat) : ∀ p ∈ rep u k, plainB (wordT (mkTok p.v 0)) = true :=
  fun p hp => List.all_eq_true.1 h p (rep_mem u k p hp)

/-! ### Expressions within each other -/
def P (x g : Str) : Pc := ⟨x, g, (readT x).1⟩
def dHd : List Pc := [P [112, 97, 114, 115, 101] [32], P [123] [32], P [108, 101, 116] [32], P [97] [32], P [61] [32]]
def dU : Nat → List Pc
  | 0 => [P [126] []]
  | 1 => [P [40] []]
  | 2 => [P [117, 56] [], P [40] []]
  | _ => [P [105, 110] [], P [91] []]
def dMd : List Pc := [P [108, 101, 110] []]
def dV : Nat → List Pc
  | 0 => []
  | 1 => [P [43] [], P [108, 101, 110] [], P [41] []]
  | 2 => [P [41] []]
  | _ => [P [93] []]
def dTl : List Pc := [P [59] [32], P [125] []]
def dW : Nat → Nat
  | 0 => 1
  | 1 => 1
  | _ => 2
section
variable {ts : List PTok}
theorem expr_out {w : Str} {m : PM T} {f i l : Nat} {s' : St} (hw : wd ts i = w) (hm : exprOf ts (expression ts f) w = some m) (h : m ⟨i, []⟩ = .out l s') : expression ts (f + 1) ⟨i, []⟩ = .out l s' := by
  have : expression ts (f + 1) ⟨i, []⟩ = (match exprOf ts (expression ts f) (wd ts i) with | none => fail ts 10 ⟨i, []⟩ | some m => m ⟨i, []⟩) := congrFun (expression.eq_2 ts f) ⟨i, []⟩
  rw [this, hw, hm]; exact h
theorem expr_deep {i : Nat} {m : PM T} (h : exprOf ts (fail ts 11) (wd ts i) = some m) : expression ts 0 ⟨i, []⟩ = .out 0 ⟨i, [(11, (tk ts i).off)]⟩ := by
  have : expression ts 0 ⟨i, []⟩ = (match exprOf ts (fail ts 11) (wd ts i) with | none => fail ts 10 ⟨i, []⟩ | some _ => fail ts 11 ⟨i, []⟩) := congrFun (expression.eq_1 ts) ⟨i, []⟩
  rw [this, h]; rfl
theorem unit_out (n : Nat) {f i o : Nat} {R : List Pc} {tl : List PTok} {l : Nat} {s' : St} (h : ts.drop i = (pcT o (dU n ++ R)).map pt ++ tl) (he : expression ts f ⟨i + dW n, []⟩ = .out l s') : expression ts (f + 1) ⟨i, []⟩ = .out l s' := by
  match n with
  | 0 =>
    have h0 : ts.drop i = pt (mkTok (4, [126], 0) o) :: ((pcT (o + 1) R).map pt ++ tl) := h
    refine expr_out (at_wd h0) (m := readNot ts (expression ts f)) rfl ?_
    unfold readNot
    rw [bnd_ok (bg_ok (show wd ts i = pTilde from at_wd h0))]
    exact bnd_out he
  | 1 =>
    have h0 : ts.drop i = pt (mkTok (4, [40], 0) o) :: ((pcT (o + 1) R).map pt ++ tl) := h
    refine expr_out (at_wd h0) (m := readBin ts (expression ts f)) rfl ?_
    unfold readBin
    rw [bnd_ok (bg_ok (show wd ts i = pLP from at_wd h0))]
    exact bnd_out he
  | 2 =>
    have h0 : ts.drop i = pt (mkTok (3, [], 8) o) :: (pt (mkTok (4, [40], 0) (o + 2)) :: ((pcT (o + 3) R).map pt ++ tl)) := h
    have h1 := at_next h0
    refine expr_out (at_wd h0) (m := readCast ts (expression ts f)) rfl ?_
    unfold readCast cast
    rw [bnd_ok (wi_ok (show wd ts i = wType from at_wd h0)), bnd_ok (tk_ok (show wd ts (i + 1) = pLP from at_wd h1))]
    exact bnd_out he
  | n + 3 =>
    have h0 : ts.drop i = pt (mkTok (1, [105, 110], 0) o) :: (pt (mkTok (4, [91], 0) (o + 2)) :: ((pcT (o + 3) R).map pt ++ tl)) := h
    have h1 := at_next h0
    refine expr_out (at_wd h0) (m := readIn ts (expression ts f)) rfl ?_
    unfold readIn inBrackets
    rw [bnd_ok (bg_ok (show wd ts i = kIn from at_wd h0))]
    refine bnd_out ?_
    rw [bnd_ok (tk_ok (show wd ts (i + 1) = pLK from at_wd h1))]
    exact bnd_out he
def dL (n : Nat) : Nat := (pcB (dU n)).length
theorem dW_len : ∀ n, (dU n).length = dW n
  | 0 => rfl
  | 1 => rfl
  | 2 => rfl
  | _ + 3 => rfl
theorem units_out (n : Nat) : ∀ (f i o : Nat) (t : PTok) (tl : List PTok) (m : PM T), ts.drop i = (pcT o (rep (dU n) f)).map pt ++ t :: tl → exprOf ts (fail ts 11) t.word = some m → expression ts f ⟨i, []⟩ = .out 0 ⟨i + f * dW n, [(11, t.tok.off)]⟩
  | 0, i, o, t, tl, m, h, hm => by
    have h : ts.drop i = t :: tl := h
    rw [expr_deep (by rw [at_wd h]; exact hm), at_tk h]
    simp
  | f + 1, i, o, t, tl, m, h, hm => by
    have h2 := h
    rw [rep, pcT_app, List.map_append, List.append_assoc] at h2
    have h3 := at_skip h2
    rw [List.length_map, pcT_len, dW_len] at h3
    have ih := units_out n f _ _ t tl m h3 hm
    have := unit_out n h ih
    rw [this]
    congr 2
    rw [Nat.succ_mul]; omega
/-- A statement that fails, its rest, the end. -/
theorem prog_out {p q at_ : Nat} (h0 : wd ts 0 = kParse) (h1 : wd ts 1 = pLB) (hs : statement ts (expression ts 9) (block ts 9) ⟨2, []⟩ = .out 0 ⟨p, [(11, at_)]⟩) (h2 : wd ts 2 ≠ pRB)
    (hk : skipGo ts ts.length 0 ⟨p, [(11, at_)]⟩ = .ok () ⟨q, [(11, at_)]⟩) (h3 : wd ts q = pRB) (h4 : wd ts (q + 1) = wEnd) : attempt (program ts) 2 ⟨0, []⟩ = .ok (some (.mk 1 [] [] 0 0 0 [.mk 6 [] [] 0 0 (tk ts 1).off []])) ⟨q + 2, [(11, at_)]⟩ := by
  have hb : block ts 10 ⟨1, []⟩ = .ok (.mk 6 [] [] 0 0 (tk ts 1).off []) ⟨q + 1, [(11, at_)]⟩ := by
    rw [block]
    simp only [h1]
    rw [if_pos trivial]
    unfold readBlock
    rw [bnd_ok (bg_ok h1)]
    obtain ⟨n, hn⟩ : ∃ n, 2 * ts.length + 2 = n + 2 := ⟨_, rfl⟩
    rw [hn]
    have hst : stmts ts (statement ts (expression ts 9) (block ts 9)) (n + 2) [] ⟨2, []⟩ = .ok [] ⟨q, [(11, at_)]⟩ := by
      rw [stmts]
      simp only [if_neg h2]
      rw [bnd_ok (a := none) (s' := ⟨p, [(11, at_)]⟩) (by unfold attempt; rw [hs]; rfl)]
      simp only []
      unfold skipStatement
      rw [bnd_ok hk, stmts]
      simp only [h3]
      rfl
    rw [bnd_ok hst, bnd_ok (tk_ok h3)]
    rfl
  have hi : item ts (block ts 10) ⟨0, []⟩ = .ok (.mk 6 [] [] 0 0 (tk ts 1).off []) ⟨q + 1, [(11, at_)]⟩ := by
    unfold item
    simp only [h0]
    rw [if_neg (by decide), if_neg (by decide), if_pos trivial]
    unfold readParse
    rw [bnd_ok (tk_ok h0)]
    exact hb
  have hp : program ts ⟨0, []⟩ = .ok (.mk 1 [] [] 0 0 0 [.mk 6 [] [] 0 0 (tk ts 1).off []]) ⟨q + 2, [(11, at_)]⟩ := by
    unfold program
    obtain ⟨n, hn⟩ : ∃ n, 2 * ts.length + 2 = n + 1 := ⟨_, rfl⟩
    rw [hn]
    have hit : items ts (item ts (block ts 10)) (n + 1) [] ⟨0, []⟩ = .ok [.mk 6 [] [] 0 0 (tk ts 1).off []] ⟨q + 1, [(11, at_)]⟩ := by
      rw [items]
      refine (bnd_ok (a := some (T.mk 6 [] [] 0 0 (tk ts 1).off [])) (s' := ⟨q + 1, [(11, at_)]⟩) (by unfold attempt; rw [hi])).trans ?_
      rfl
    rw [bnd_ok hit, bnd_ok (tk_ok h4)]
    rfl
  unfold attempt
  rw [hp]
end
theorem start_word (n : Nat) (e : PM T) (ts : List PTok) : ∃ m, exprOf ts e (wordT (mkTok ((dU n ++ dMd).headD (P [] [])).v 0)) = some m := by
  match n with
  | 0 => exact ⟨_, rfl⟩
  | 1 => exact ⟨_, rfl⟩
  | 2 => exact ⟨_, rfl⟩
  | _ + 3 => exact ⟨_, rfl⟩
def dAll (n k : Nat) : List Pc := dHd ++ (rep (dU n) k ++ (dMd ++ (rep (dV n) k ++ dTl)))
theorem parse_deepE (n k : Nat) (hn : n < 4) (hk : 9 ≤ k) (hk2 : k < 200) : parseS (pcB (dAll n k)) = (T.zero, [(11, 16 + 9 * dL n)]) := by
  obtain ⟨j, rfl⟩ : ∃ j, k = 9 + j := ⟨k - 9, by omega⟩
  have hok : okP (dAll n (9 + j)) none = true := by
    unfold dAll
    rw [show 9 + j = (8 + j) + 1 by omega]
    match n, hn with
    | 0, _ =>
      have e : rep (dV 0) (8 + j + 1) = [] := List.length_eq_zero_iff.1 (by rw [rep_len]; rfl)
      rw [e]
      exact ok_deep0 (8 + j) rfl rfl (by decide) (by decide) (by decide) (by decide)
    | 1, _ => exact ok_deep (8 + j) rfl rfl rfl (by decide) (by decide) (by decide) (by decide) (by decide) (by decide) (by decide)
    | 2, _ => exact ok_deep (8 + j) rfl rfl rfl (by decide) (by decide) (by decide) (by decide) (by decide) (by decide) (by decide)
    | 3, _ => exact ok_deep (8 + j) rfl rfl rfl (by decide) (by decide) (by decide) (by decide) (by decide) (by decide) (by decide)
  have hUl : (dU n).length ≤ 2 ∧ (pcB (dU n)).length ≤ 3 ∧ (dV n).length ≤ 3 ∧ (pcB (dV n)).length ≤ 5 := by
    match n, hn with
    | 0, _ => decide
    | 1, _ => decide
    | 2, _ => decide
    | 3, _ => decide
  have m1 := Nat.mul_le_mul_left (9 + j) hUl.1
  have m2 := Nat.mul_le_mul_left (9 + j) hUl.2.1
  have m3 := Nat.mul_le_mul_left (9 + j) hUl.2.2.1
  have m4 := Nat.mul_le_mul_left (9 + j) hUl.2.2.2
  have hlen : (pcB (dAll n (9 + j))).length = 16 + ((9 + j) * (pcB (dU n)).length + (3 + ((9 + j) * (pcB (dV n)).length + 3))) := by
    unfold dAll
    rw [pcB_app, pcB_app, pcB_app, pcB_app, List.length_append, List.length_append, List.length_append, List.length_append, pcB_rep, pcB_rep]
    rfl
  have hnum : (dAll n (9 + j)).length = 5 + ((9 + j) * (dU n).length + (1 + ((9 + j) * (dV n).length + 2))) := by
    unfold dAll
    rw [List.length_append, List.length_append, List.length_append, List.length_append, rep_len, rep_len]
    rfl
  have hlex := lexS_pieces (dAll n (9 + j)) hok (by
    unfold dAll
    rw [pcB_app]
    rfl) (by omega) (by omega)
  unfold parseS
  rw [hlex]
  simp only []
  generalize hend : (pcB (dAll n (9 + j))).length = E
  -- the tokens
  obtain ⟨tl, hts, hmid⟩ : ∃ tl, ptoks (pcT 0 (dAll n (9 + j))) E = (pcT 0 dHd).map pt ++ ((pcT 16 (rep (dU n) 9)).map pt ++ tl) ∧ tl = (pcT (16 + 9 * dL n) (rep (dU n) j ++ (dMd ++ rep (dV n) (9 + j)))).map pt ++ (pcT (16 + 9 * dL n + (pcB (rep (dU n) j ++ (dMd ++ rep (dV n) (9 + j)))).length) dTl).map pt ++ [⟨⟨0, [], 0, E⟩, wEnd⟩] := by
    refine ⟨_, ?_, rfl⟩
    have e : dAll n (9 + j) = dHd ++ (rep (dU n) 9 ++ ((rep (dU n) j ++ (dMd ++ rep (dV n) (9 + j))) ++ dTl)) := by
      unfold dAll
      rw [rep_add (dU n) 9 j]
      simp only [List.append_assoc]
    rw [ptoks_pt, e, pcT_app, pcT_app, pcT_app, List.map_append, List.map_append, List.map_append, pcB_rep]
    simp only [List.append_assoc]
    rfl
  generalize hT : ptoks (pcT 0 (dAll n (9 + j))) E = ts at hts ⊢
  have hl : ts.length = 5 + (9 * dW n + tl.length) := by
    rw [hts]
    simp only [List.length_append, List.length_map, pcT_len, rep_len, dW_len]
    rfl
  -- the first of what is left
  obtain ⟨t, r, hr, ht, hw⟩ : ∃ t r, tl = t :: r ∧ t.tok.off = 16 + 9 * dL n ∧ ∃ m, exprOf ts (fail ts 11) t.word = some m := by
    rw [hmid]
    match n, hn with
    | 0, _ => cases j <;> exact ⟨_, _, rfl, rfl, _, rfl⟩
    | 1, _ => cases j <;> exact ⟨_, _, rfl, rfl, _, rfl⟩
    | 2, _ => cases j <;> exact ⟨_, _, rfl, rfl, _, rfl⟩
    | 3, _ => cases j <;> exact ⟨_, _, rfl, rfl, _, rfl⟩
  obtain ⟨m, hm⟩ := hw
  have h0 : ts.drop 0 = pt (mkTok (1, kParse, 0) 0) :: (pt (mkTok (4, pLB, 0) 6) :: (pt (mkTok (1, kLet, 0) 8) :: (pt (mkTok (1, [97], 0) 12) :: (pt (mkTok (4, pEq, 0) 14) :: ((pcT 16 (rep (dU n) 9)).map pt ++ tl))))) := hts
  have h1 := at_next h0
  have h2 := at_next h1
  have h3 := at_next h2
  have h4 := at_next h3
  have h5 := at_next h4
  have h6 := at_skip h5
  rw [List.length_map, pcT_len, rep_len, dW_len] at h6
  have he := units_out n 9 5 16 t r m (by rw [hr] at h5; exact h5) hm
  rw [ht] at he
  have hs : statement ts (expression ts 9) (block ts 9) ⟨2, []⟩ = .out 0 ⟨5 + 9 * dW n, [(11, 16 + 9 * dL n)]⟩ := by
    unfold statement
    simp only [show wd ts 2 = kLet from at_wd h2]
    show readNamed ts (expression ts 9) 7 kLet ⟨2, []⟩ = _
    unfold readNamed value
    rw [bnd_ok (bg_ok (show wd ts 2 = kLet from at_wd h2)), bnd_ok (nm_ok (show wd ts 3 = wName from at_wd h3)), bnd_ok (tk_ok (show wd ts 4 = pEq from at_wd h4))]
    exact bnd_out he
  have hplain : ∀ p ∈ rep (dU n) j ++ (dMd ++ rep (dV n) (9 + j)), plainB (wordT (mkTok p.v 0)) = true := by
    intro p hp
    rcases List.mem_append.1 hp with hp | hp
    · exact plain_rep (by match n, hn with
        | 0, _ => decide
        | 1, _ => decide
        | 2, _ => decide
        | 3, _ => decide) j p hp
    rcases List.mem_append.1 hp with hp | hp
    · exact List.all_eq_true.1 (show dMd.all (fun p => plainB (wordT (mkTok p.v 0))) = true by decide) p hp
    · exact plain_rep (by match n, hn with
        | 0, _ => decide
        | 1, _ => decide
        | 2, _ => decide
        | 3, _ => decide) _ p hp
  rw [hmid, List.append_assoc] at h6
  have hq := skp_plain _ ts.length (5 + 9 * dW n) [(11, 16 + 9 * dL n)] _ _ h6 (plain_mem hplain) rfl (by
    rw [hl, hmid]
    simp only [List.length_append, List.length_map, pcT_len]
    omega)
  have h7 := at_skip h6
  have h8 := at_next h7
  have h9 := at_next h8
  have := prog_out (at_wd h0) (at_wd h1) hs (by rw [at_wd h2]; decide) hq (by rw [at_wd h8]; rfl) (by rw [at_wd h9])
  rw [this]
  rfl
end Go.Proofs.YtgleakjalhkkhaaGreatDoor

/- Blocks that are too deep: what the parser answers. -/
namespace Go.Proofs.YtgleakjalhkkhaaGreatDoor
open Go

section
variable {ts : List PTok}
theorem wds_at {i : Nat} {w : Str} {r : List Str} (h : (ts.drop i).map PTok.word = w :: r) : wd ts i = w ∧ (ts.drop (i + 1)).map PTok.word = r := by
  cases hd : ts.drop i with
  | nil => rw [hd] at h; cases h
  | cons t l =>
    rw [hd] at h
    injection h with h1 h2
    exact ⟨by rw [at_wd hd]; exact h1, by rw [at_next hd]; exact h2⟩
theorem wds_skip {i n : Nat} {a r : List Str} (hn : a.length = n) (h : (ts.drop i).map PTok.word = a ++ r) : (ts.drop (i + n)).map PTok.word = r := by
  rw [← List.drop_drop, List.map_drop, h, ← hn, List.drop_left]
/-- Blocks within each other, with their ends. -/
def Bal (ts : List PTok) : Nat → Nat → Prop
  | 0, i => wd ts i = pLB ∧ wd ts (i + 1) = pRB
  | m + 1, i => wd ts i = pLB ∧ wd ts (i + 1) = kIf ∧ wd ts (i + 2) = kLen ∧ Bal ts m (i + 3) ∧ wd ts (i + 3 + (4 * m + 2)) = pRB
theorem bal_of : ∀ (m i : Nat) (r : List Str), (ts.drop i).map PTok.word = rep [pLB, kIf, kLen] m ++ ([pLB, pRB] ++ (rep [pRB] m ++ r)) → Bal ts m i
  | 0, i, r, h => by
    obtain ⟨h1, h2⟩ := wds_at h
    exact ⟨h1, (wds_at h2).1⟩
  | m + 1, i, r, h => by
    rw [rep_snoc [pRB], rep, List.append_assoc, List.append_assoc] at h
    obtain ⟨h1, h2⟩ := wds_at h
    obtain ⟨h3, h4⟩ := wds_at h2
    obtain ⟨h5, h6⟩ := wds_at h4
    refine ⟨h1, h3, h5, bal_of m (i + 3) _ h6, ?_⟩
    rw [← List.append_assoc, ← List.append_assoc] at h6
    have := wds_skip (n := 4 * m + 2) (a := rep [pLB, kIf, kLen] m ++ [pLB, pRB] ++ rep [pRB] m) (by rw [List.length_append, List.length_append, rep_len, rep_len]; simp; omega) h6
    exact (wds_at (w := pRB) (r := r) this).1
theorem skip_bal : ∀ (m o g i : Nat) (ds : List (Nat × Nat)), Bal ts m i → 1 ≤ o → skipGo ts (g + (4 * m + 2)) o ⟨i, ds⟩ = skipGo ts g o ⟨i + (4 * m + 2), ds⟩
  | 0, o, g, i, ds, h, ho => by
    rw [show g + (4 * 0 + 2) = (g + 1) + 1 by omega, skp_open h.1, skp_close h.2 (by omega)]
    rfl
  | m + 1, o, g, i, ds, h, ho => by
    obtain ⟨h1, h2, h3, h4, h5⟩ := h
    rw [show g + (4 * (m + 1) + 2) = ((((g + 1) + (4 * m + 2)) + 1) + 1) + 1 by omega, skp_open h1, skp_one (by rw [h2]; rfl), skp_one (by rw [h3]; rfl), skip_bal m (o + 1) (g + 1) (i + 3) ds h4 (by omega), skp_close h5 (by omega)]
    rw [show i + 3 + (4 * m + 2) + 1 = i + (4 * (m + 1) + 2) by omega]
    rfl
theorem skip_bal0 : ∀ (m g i : Nat) (ds : List (Nat × Nat)), Bal ts m i → wd ts (i + (4 * m + 2)) ≠ kElse → skipGo ts (g + (4 * m + 2)) 0 ⟨i, ds⟩ = .ok () ⟨i + (4 * m + 2), ds⟩
  | 0, g, i, ds, h, he => by
    rw [show g + (4 * 0 + 2) = (g + 1) + 1 by omega, skp_open h.1, skp_last h.2 he]
  | m + 1, g, i, ds, h, he => by
    obtain ⟨h1, h2, h3, h4, h5⟩ := h
    rw [show i + (4 * (m + 1) + 2) = i + 3 + (4 * m + 2) + 1 by omega] at he ⊢
    rw [show g + (4 * (m + 1) + 2) = ((((g + 1) + (4 * m + 2)) + 1) + 1) + 1 by omega, skp_open h1, skp_one (by rw [h2]; rfl), skp_one (by rw [h3]; rfl), skip_bal m (0 + 1) (g + 1) (i + 3) ds h4 (by omega), skp_last h5 he]
theorem block_deep (at_ : Nat) : ∀ (f m i : Nat), f ≤ m → Bal ts (m + 1) i → (tk ts (i + 3 * f + 2)).off = at_ → i + 4 * m ≤ ts.length → 4 * m + 4 ≤ ts.length → ∃ L, block ts (f + 1) ⟨i, []⟩ = .ok (.mk 6 [] [] 0 0 (tk ts i).off L) ⟨i + (4 * (m + 1) + 2), [(11, at_)]⟩
  | 0, m, i, hf, hb, ho, hl, hl2 => by
    obtain ⟨h1, h2, h3, h4, h5⟩ := hb
    have hs : statement ts (expression ts 0) (block ts 0) ⟨i + 1, []⟩ = .out 0 ⟨i + 2, [(11, at_)]⟩ := by
      unfold statement
      simp only [h2]
      show readIf ts (expression ts 0) (block ts 0) ⟨i + 1, []⟩ = _
      unfold readIf
      rw [bnd_ok (bg_ok h2)]
      refine bnd_out ?_
      rw [expr_deep (m := readLen ts) (by rw [h3]; rfl)]
      rw [show i + 2 = i + 3 * 0 + 2 by omega, ho]
    obtain ⟨g, hg⟩ : ∃ g, ts.length = (g + (4 * m + 2)) + 1 := ⟨ts.length - (4 * m + 3), by omega⟩
    have hk : skipGo ts ts.length 0 ⟨i + 2, [(11, at_)]⟩ = .ok () ⟨i + 3 + (4 * m + 2), [(11, at_)]⟩ := by
      rw [hg, skp_one (by rw [h3]; rfl), skip_bal0 m g (i + 3) _ h4 (by rw [h5]; decide)]
    refine ⟨[], ?_⟩
    rw [block]
    simp only [h1]
    rw [if_pos trivial]
    unfold readBlock
    rw [bnd_ok (bg_ok h1)]
    obtain ⟨n, hn⟩ : ∃ n, 2 * ts.length + 2 = n + 2 := ⟨_, rfl⟩
    rw [hn]
    have hst : stmts ts (statement ts (expression ts 0) (block ts 0)) (n + 2) [] ⟨i + 1, []⟩ = .ok [] ⟨i + 3 + (4 * m + 2), [(11, at_)]⟩ := by
      rw [stmts]
      simp only [if_neg (show ¬ wd ts (i + 1) = pRB by rw [h2]; decide)]
      rw [bnd_ok (a := none) (s' := ⟨i + 2, [(11, at_)]⟩) (by unfold attempt; rw [hs]; rfl)]
      simp only []
      unfold skipStatement
      rw [bnd_ok hk, stmts]
      simp only [h5]
      rfl
    rw [bnd_ok hst, bnd_ok (tk_ok h5)]
    rw [show i + 3 + (4 * m + 2) + 1 = i + (4 * (m + 1) + 2) by omega]
    rfl
  | f + 1, m, i, hf, hb, ho, hl, hl2 => by
    obtain ⟨h1, h2, h3, h4, h5⟩ := hb
    obtain ⟨m, rfl⟩ : ∃ k, m = k + 1 := ⟨m - 1, by omega⟩
    obtain ⟨L, ih⟩ := block_deep at_ f m (i + 3) (by omega) h4 (by rw [← ho]; congr 2; omega) (by omega) (by omega)
    have hx : expression ts (f + 1) ⟨i + 2, []⟩ = .ok (.mk 24 [] [] 0 0 (tk ts (i + 2)).off []) ⟨i + 3, []⟩ := by
      refine (congrFun (expression.eq_2 ts f) ⟨i + 2, []⟩).trans ?_
      simp only [h3]
      exact bg_ok h3
    have hs : statement ts (expression ts (f + 1)) (block ts (f + 1)) ⟨i + 1, []⟩ = .ok (.mk 15 [] [] 0 0 (tk ts (i + 1)).off [.mk 24 [] [] 0 0 (tk ts (i + 2)).off [], .mk 6 [] [] 0 0 (tk ts (i + 3)).off L]) ⟨i + 3 + (4 * (m + 1) + 2), [(11, at_)]⟩ := by
      unfold statement
      simp only [h2]
      show readIf ts (expression ts (f + 1)) (block ts (f + 1)) ⟨i + 1, []⟩ = _
      unfold readIf
      rw [bnd_ok (bg_ok h2), bnd_ok hx, bnd_ok ih]
      unfold ifRest
      simp only [h5]
      rfl
    refine ⟨[.mk 15 [] [] 0 0 (tk ts (i + 1)).off [.mk 24 [] [] 0 0 (tk ts (i + 2)).off [], .mk 6 [] [] 0 0 (tk ts (i + 3)).off L]], ?_⟩
    rw [block]
    simp only [h1]
    rw [if_pos trivial]
    unfold readBlock
    rw [bnd_ok (bg_ok h1)]
    obtain ⟨n, hn⟩ : ∃ n, 2 * ts.length + 2 = n + 2 := ⟨_, rfl⟩
    rw [hn]
    have hst : stmts ts (statement ts (expression ts (f + 1)) (block ts (f + 1))) (n + 2) [] ⟨i + 1, []⟩ = .ok [.mk 15 [] [] 0 0 (tk ts (i + 1)).off [.mk 24 [] [] 0 0 (tk ts (i + 2)).off [], .mk 6 [] [] 0 0 (tk ts (i + 3)).off L]] ⟨i + 3 + (4 * (m + 1) + 2), [(11, at_)]⟩ := by
      rw [stmts]
      simp only [if_neg (show ¬ wd ts (i + 1) = pRB by rw [h2]; decide)]
      refine (bnd_ok (a := some _) (s' := ⟨i + 3 + (4 * (m + 1) + 2), [(11, at_)]⟩) (by unfold attempt; rw [hs])).trans ?_
      simp only []
      rw [stmts]
      simp only [h5]
      rfl
    rw [bnd_ok hst, bnd_ok (tk_ok h5)]
    rw [show i + 3 + (4 * (m + 1) + 2) + 1 = i + (4 * (m + 1 + 1) + 2) by omega]
    rfl
theorem prog_of {q : Nat} {L : List T} {a : Nat} {ds : List (Nat × Nat)} (h0 : wd ts 0 = kParse) (hb : block ts 10 ⟨1, []⟩ = .ok (.mk 6 [] [] 0 0 a L) ⟨q, ds⟩) (h4 : wd ts q = wEnd) :
    attempt (program ts) 2 ⟨0, []⟩ = .ok (some (.mk 1 [] [] 0 0 0 [.mk 6 [] [] 0 0 a L])) ⟨q + 1, ds⟩ := by
  have hi : item ts (block ts 10) ⟨0, []⟩ = .ok (.mk 6 [] [] 0 0 a L) ⟨q, ds⟩ := by
    unfold item
    simp only [h0]
    rw [if_neg (by decide), if_neg (by decide), if_pos trivial]
    unfold readParse
    rw [bnd_ok (tk_ok h0)]
    exact hb
  have hp : program ts ⟨0, []⟩ = .ok (.mk 1 [] [] 0 0 0 [.mk 6 [] [] 0 0 a L]) ⟨q + 1, ds⟩ := by
    unfold program
    obtain ⟨n, hn⟩ : ∃ n, 2 * ts.length + 2 = n + 1 := ⟨_, rfl⟩
    rw [hn]
    have hit : items ts (item ts (block ts 10)) (n + 1) [] ⟨0, []⟩ = .ok [.mk 6 [] [] 0 0 a L] ⟨q, ds⟩ := by
      rw [items]
      refine (bnd_ok (a := some (T.mk 6 [] [] 0 0 a L)) (s' := ⟨q, ds⟩) (by unfold attempt; rw [hi])).trans ?_
      rfl
    rw [bnd_ok hit, bnd_ok (tk_ok h4)]
    rfl
  unfold attempt
  rw [hp]
end
def bHd : List Pc := [P kParse [32]]
def bU : List Pc := [P pLB [32], P kIf [32], P kLen [32]]
def bM : List Pc := [P pLB [], P pRB []]
def bV : List Pc := [P pRB []]
def bAll (k : Nat) : List Pc := bHd ++ (rep bU k ++ (bM ++ (rep bV k ++ [])))
theorem words_rep (u : List Pc) (o : Nat) : ∀ k, ((pcT o (rep u k)).map pt).map PTok.word = rep (((pcT 0 u).map pt).map PTok.word) k := by
  intro k
  have key : ∀ (a : List Pc) (o o' : Nat), ((pcT o a).map pt).map PTok.word = ((pcT o' a).map pt).map PTok.word := by
    intro a
    induction a with
    | nil => intros; rfl
    | cons p r ih => intro o o'; simp only [pcT, List.map_cons]; rw [ih _ (o' + p.x.length + p.g.length)]; rfl
  induction k generalizing o with
  | zero => rfl
  | succ k ih => rw [rep, rep, pcT_app, List.map_append, List.map_append, ih, key u o 0]
theorem parse_deepB (k : Nat) (hk : 10 ≤ k) (hk2 : k < 200) : parseS (pcB (bAll k)) = (T.zero, [(11, 92)]) := by
  obtain ⟨m, rfl⟩ : ∃ m, k = m + 1 := ⟨k - 1, by omega⟩
  have hok : okP (bAll (m + 1)) none = true := ok_deep m rfl rfl rfl (by decide) (by decide) (by decide) (by decide) (by decide) (by decide) (by decide)
  have hlen : (pcB (bAll (m + 1))).length = 6 + ((m + 1) * 9 + (2 + ((m + 1) * 1 + 0))) := by
    unfold bAll
    rw [pcB_app, pcB_app, pcB_app, pcB_app, List.length_append, List.length_append, List.length_append, List.length_append, pcB_rep, pcB_rep]
    rfl
  have hnum : (bAll (m + 1)).length = 1 + ((m + 1) * 3 + (2 + ((m + 1) * 1 + 0))) := by
    unfold bAll
    rw [List.length_append, List.length_append, List.length_append, List.length_append, rep_len, rep_len]
    rfl
  have hlex := lexS_pieces (bAll (m + 1)) hok (by
    unfold bAll
    rw [pcB_app]
    rfl) (by omega) (by omega)
  unfold parseS
  rw [hlex]
  simp only []
  generalize hend : (pcB (bAll (m + 1))).length = E
  generalize hT : ptoks (pcT 0 (bAll (m + 1))) E = ts
  have hl : ts.length = 4 * m + 8 := by
    rw [← hT, ptoks_pt]
    simp only [List.length_append, List.length_map, pcT_len, hnum, List.length_cons, List.length_nil]
    omega
  have hw : (ts.drop 1).map PTok.word = rep [pLB, kIf, kLen] (m + 1) ++ ([pLB, pRB] ++ (rep [pRB] (m + 1) ++ [wEnd])) := by
    rw [← hT, ptoks_pt]
    unfold bAll
    rw [pcT_app, pcT_app, pcT_app, pcT_app]
    simp only [List.map_append, List.append_assoc, List.map_drop, words_rep]
    rfl
  have hb := bal_of (m + 1) 1 [wEnd] hw
  have h0 : wd ts 0 = kParse := by rw [← hT]; rfl
  have ho : (tk ts (1 + 3 * 9 + 2)).off = 92 := by
    rw [← hT]
    obtain ⟨j, rfl⟩ : ∃ j, m = 9 + j := ⟨m - 9, by omega⟩
    rw [show 9 + j + 1 = 10 + j by omega]
    unfold bAll
    rw [rep_add bU 10 j]
    rfl
  obtain ⟨L, hbl⟩ := block_deep 92 9 m 1 (by omega) hb ho (by omega) (by omega)
  have he : wd ts (1 + (4 * (m + 1) + 2)) = wEnd := by
    rw [← List.append_assoc, ← List.append_assoc] at hw
    exact (wds_at (w := wEnd) (r := []) (wds_skip (n := 4 * (m + 1) + 2) (a := rep [pLB, kIf, kLen] (m + 1) ++ [pLB, pRB] ++ rep [pRB] (m + 1)) (by rw [List.length_append, List.length_append, rep_len, rep_len]; simp; omega) hw)).1
  rw [prog_of h0 hbl he]
  rfl
end Go.Proofs.YtgleakjalhkkhaaGreatDoor

/- Sources that are deep: what Parse answers of each. -/
namespace Go.Proofs.YtgleakjalhkkhaaGreatDoor
open Go

def dA : Nat → Str
  | 2 => kParse ++ [32]
  | _ => kParse ++ [32, 123, 32, 108, 101, 116, 32, 97, 32, 61, 32]
def dB : Nat → Str
  | 0 => [126]
  | 1 => [40]
  | 2 => [123, 32, 105, 102, 32, 108, 101, 110, 32]
  | 3 => [117, 56, 40]
  | _ => [105, 110, 91]
def dC : Nat → Str
  | 2 => [123, 125]
  | _ => [108, 101, 110]
def dD : Nat → Str
  | 0 => []
  | 1 => [43, 108, 101, 110, 41]
  | 2 => [125]
  | 3 => [41]
  | _ => [93]
def dE : Nat → Str
  | 2 => []
  | _ => [59, 32, 125]
def dSrc (i k : Nat) : Str := dA i ++ Lib.repeatL (dB i) k ++ dC i ++ Lib.repeatL (dD i) k ++ dE i
def dLev (i : Nat) : Nat := if i = 2 then 10 else 9
def dAt (i : Nat) : Nat := if i = 2 then 92 else 16 + 9 * (dB i).length
theorem src_E (i n : Nat) (k : Nat) (h1 : dA i = pcB dHd) (h2 : pcB (dU n) = dB i) (h3 : dC i = pcB dMd) (h4 : pcB (dV n) = dD i) (h5 : dE i = pcB dTl) : dSrc i k = pcB (dAll n k) := by
  unfold dSrc dAll
  rw [pcB_app, pcB_app, pcB_app, pcB_app, rep_bytes _ _ h2, rep_bytes _ _ h4, h1, h3, h5]
  simp only [List.append_assoc]
theorem src_B (k : Nat) : dSrc 2 k = pcB (bAll k) := by
  unfold dSrc bAll
  rw [pcB_app, pcB_app, pcB_app, pcB_app, rep_bytes bU (dB 2) rfl, rep_bytes bV (dD 2) rfl]
  simp only [List.append_assoc]
  rfl
theorem deep_big (i k : Nat) (hi : i < 5) (hk : dLev i ≤ k) (hk2 : k < 200) : parseS (dSrc i k) = (T.zero, [(11, dAt i)]) := by
  match i, hi, hk with
  | 0, _, hk => rw [src_E 0 0 k rfl rfl rfl rfl rfl]; exact parse_deepE 0 k (by omega) hk hk2
  | 1, _, hk => rw [src_E 1 1 k rfl rfl rfl rfl rfl]; exact parse_deepE 1 k (by omega) hk hk2
  | 2, _, hk => rw [src_B k]; exact parse_deepB k hk hk2
  | 3, _, hk => rw [src_E 3 2 k rfl rfl rfl rfl rfl]; exact parse_deepE 2 k (by omega) hk hk2
  | 4, _, hk => rw [src_E 4 3 k rfl rfl rfl rfl rfl]; exact parse_deepE 3 k (by omega) hk hk2
mutual
def okB : T → Bool
  | .mk _ nm p num _ _ ks => decide (nm.length ≤ 1000) && decide (p.length ≤ 1000) && decide (num < 18446744073709551616) && decide (ks.length ≤ 2000) && okBs ks
def okBs : List T → Bool
  | [] => true
  | t :: r => okB t && okBs r
end
mutual
theorem okB_okG : ∀ t : T, okB t = true → okG t.toG
  | .mk _ nm p num _ _ ks, h => by
    simp only [okB, Bool.and_eq_true, decide_eq_true_eq] at h
    obtain ⟨⟨⟨⟨h1, h2⟩, h3⟩, h4⟩, h5⟩ := h
    simp only [T.toG, okG]
    refine ⟨?_, ?_, h3, by rw [toGs_length]; exact h4, okBs_okL ks h5⟩
    · show nm.toArray.size ≤ _; simp; omega
    · show p.toArray.size ≤ _; simp; omega
theorem okBs_okL : ∀ l : List T, okBs l = true → okL (T.toG.toGs l)
  | [], _ => trivial
  | t :: r, h => by
    simp only [okBs, Bool.and_eq_true] at h
    exact ⟨okB_okG t h.1, okBs_okL r h.2⟩
end
def smallB (x : T × List (Nat × Nat)) : Bool := x.2.isEmpty && okB x.1 && validT x.1.toG
set_option maxRecDepth 100000 in
theorem smalls : ((List.range 5).all fun i => (List.range (dLev i)).all fun k => smallB (parseS (dSrc i k))) = true := by kernel_rfl
theorem deep_small (i k : Nat) (hi : i < 5) (hk : k < dLev i) : ∃ t, parseS (dSrc i k) = (t, []) ∧ validT t.toG = true ∧ okG t.toG := by
  have h := List.all_eq_true.1 (List.all_eq_true.1 smalls i (by simpa using hi)) k (by simpa using hk)
  generalize parseS (dSrc i k) = x at h
  obtain ⟨t, ds⟩ := x
  simp only [smallB, Bool.and_eq_true, List.isEmpty_iff] at h
  obtain ⟨⟨h1, h2⟩, h3⟩ := h
  exact ⟨t, by rw [h1], h3, okB_okG t h2⟩
end Go.Proofs.YtgleakjalhkkhaaGreatDoor

/- ParserDeep: the walk. -/
namespace Go.Proofs.YtgleakjalhkkhaaGreatDoor
open Go.RowKit

abbrev dArr : Array Value := #[Value.string { data := #[112, 97, 114, 115, 101, 32, 123, 32, 108, 101, 116, 32, 97, 32, 61, 32] }, Value.string { data := #[126] }, Value.string { data := #[108, 101, 110] }, Value.string { data := #[] }, Value.string { data := #[112, 97, 114, 115, 101, 32, 123, 32, 108, 101, 116, 32, 97, 32, 61, 32] }, Value.string { data := #[40] }, Value.string { data := #[108, 101, 110] }, Value.string { data := #[43, 108, 101, 110, 41] }, Value.string { data := #[112, 97, 114, 115, 101, 32] }, Value.string { data := #[123, 32, 105, 102, 32, 108, 101, 110, 32] }, Value.string { data := #[123, 125] }, Value.string { data := #[125] }, Value.string { data := #[112, 97, 114, 115, 101, 32, 123, 32, 108, 101, 116, 32, 97, 32, 61, 32] }, Value.string { data := #[117, 56, 40] }, Value.string { data := #[108, 101, 110] }, Value.string { data := #[41] }, Value.string { data := #[112, 97, 114, 115, 101, 32, 123, 32, 108, 101, 116, 32, 97, 32, 61, 32] }, Value.string { data := #[105, 110, 91] }, Value.string { data := #[108, 101, 110] }, Value.string { data := #[93] }]
abbrev dRow0 : Array Value := #[Value.string { data := #[112, 97, 114, 115, 101, 32, 123, 32, 108, 101, 116, 32, 97, 32, 61, 32] }, Value.string { data := #[126] }, Value.string { data := #[108, 101, 110] }, Value.string { data := #[] }]
abbrev dRow1 : Array Value := #[Value.string { data := #[112, 97, 114, 115, 101, 32, 123, 32, 108, 101, 116, 32, 97, 32, 61, 32] }, Value.string { data := #[40] }, Value.string { data := #[108, 101, 110] }, Value.string { data := #[43, 108, 101, 110, 41] }]
abbrev dRow2 : Array Value := #[Value.string { data := #[112, 97, 114, 115, 101, 32] }, Value.string { data := #[123, 32, 105, 102, 32, 108, 101, 110, 32] }, Value.string { data := #[123, 125] }, Value.string { data := #[125] }]
abbrev dRow3 : Array Value := #[Value.string { data := #[112, 97, 114, 115, 101, 32, 123, 32, 108, 101, 116, 32, 97, 32, 61, 32] }, Value.string { data := #[117, 56, 40] }, Value.string { data := #[108, 101, 110] }, Value.string { data := #[41] }]
abbrev dRow4 : Array Value := #[Value.string { data := #[112, 97, 114, 115, 101, 32, 123, 32, 108, 101, 116, 32, 97, 32, 61, 32] }, Value.string { data := #[105, 110, 91] }, Value.string { data := #[108, 101, 110] }, Value.string { data := #[93] }]
theorem dkeep {X W w1 : World} {b : Nat} {v0 v1 v2 v3 : Value} (hb : Below W.heap.size W w1) (h : W.cell? ⟨b, 0, none⟩ = some v0 ∧ W.cell? ⟨b, 1, none⟩ = some v1 ∧ W.cell? ⟨b, 2, none⟩ = some v2 ∧ W.cell? ⟨b, 3, none⟩ = some v3 ∧ Below X.heap.size X W) :
    w1.cell? ⟨b, 0, none⟩ = some v0 ∧ w1.cell? ⟨b, 1, none⟩ = some v1 ∧ w1.cell? ⟨b, 2, none⟩ = some v2 ∧ w1.cell? ⟨b, 3, none⟩ = some v3 ∧ Below X.heap.size X w1 :=
  ⟨cell_later hb h.1, cell_later hb h.2.1, cell_later hb h.2.2.1, cell_later hb h.2.2.2.1, h.2.2.2.2.trans (hb.mono h.2.2.2.2.size)⟩
theorem ddrew {X W : World} {b : Nat} {v0 v1 v2 v3 : Value} (h : W.cell? ⟨b, 0, none⟩ = some v0 ∧ W.cell? ⟨b, 1, none⟩ = some v1 ∧ W.cell? ⟨b, 2, none⟩ = some v2 ∧ W.cell? ⟨b, 3, none⟩ = some v3 ∧ Below X.heap.size X W) :
    W.drew.cell? ⟨b, 0, none⟩ = some v0 ∧ W.drew.cell? ⟨b, 1, none⟩ = some v1 ∧ W.drew.cell? ⟨b, 2, none⟩ = some v2 ∧ W.drew.cell? ⟨b, 3, none⟩ = some v3 ∧ Below X.heap.size X W.drew :=
  dkeep (Drew.below (a := W) ⟨1, rfl⟩) h
def RepC (s : ByteArray) (k : Nat) (R : ByteArray) : Prop := ∀ w, Calls Tryz.prog 28 #[.string s, .int .i64 k] w fun e w' => e = .returned (.string R) ∧ Below w.heap.size w w'
theorem repUse {s : ByteArray} {k : Nat} {R : ByteArray} (h : Hid (RepC s k R)) (w : World) : Calls Tryz.prog 28 #[.string s, .int .i64 k] w fun e w' => e = .returned (.string R) ∧ Below w.heap.size w w' := h.out w
theorem repMk (s : ByteArray) (k : Nat) (hk : k < 200) (hs : s.size ≤ 20) : RepC s k ⟨(Lib.repeatL s.data.toList k).toArray⟩ := fun w =>
  Tryz.strings_Repeat s k w (by omega) (by
    have : s.size * k ≤ 20 * 200 := Nat.mul_le_mul hs (by omega)
    omega)
theorem toG_kn (t : T) : t.toG.kids.length = t.kids.length := by
  cases t; exact toGs_length _
theorem toG_agg (t : T) (A : Option Addr) (c : Nat) (d : Value) : Ending.returned (.tuple #[.agg #[Value.int IntKind.i64 t.toG.kind, Value.string t.toG.name, Value.string t.toG.part, Value.int IntKind.u64 t.toG.num, Value.int IntKind.i64 t.toG.wid, Value.int IntKind.i64 t.toG.at_, Value.slice A t.toG.kids.length c], d]) = .returned (.tuple #[.agg #[Value.int IntKind.i64 t.kind, Value.string { data := t.name.toArray }, Value.string { data := t.part.toArray }, Value.int IntKind.u64 t.num, Value.int IntKind.i64 t.wid, Value.int IntKind.i64 t.at_, Value.slice A t.kids.length c], d]) := by
  obtain ⟨h1, h2, h3, h4, h5, h6⟩ := toG_f t
  rw [h1, h2, h3, h4, h5, h6, toG_kn]
end Go.Proofs.YtgleakjalhkkhaaGreatDoor
