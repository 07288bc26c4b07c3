/- Joined texts: PPiece, PTrM, PTrS, PTrI. -/
import Derived.Test.YtmkehecapjdfdaaGreatDoorQB1
import Derived.Test.YtmkehecapjdfdaaGreatDoorQV2
import Derived.Test.YtmkehecapjdfdaaGreatDoorQC0
import Derived.Test.YtmkehecapjdfdaaGreatDoorQB2

/- Sources made of pieces: a token's text and the gap behind it. Positions as what is left of the tokens. -/
namespace Go.Proofs.YtmkehecapjdfdaaGreatDoor
open Go

structure Pc where
  x : Str
  g : Str
  v : Nat × Str × Nat
def pcB : List Pc → Str
  | [] => []
  | p :: r => p.x ++ (p.g ++ pcB r)
def pcT : Nat → List Pc → List Tok
  | _, [] => []
  | o, p :: r => mkTok p.v o :: pcT (o + p.x.length + p.g.length) r
/-- A piece fits before what begins with this byte. -/
def fitB (p : Pc) (n : Option UInt8) : Bool := p.x != [] && readT p.x == (p.v, 0) && tokLen (p.x ++ (p.g ++ n.toList)) == p.x.length && gapLen (p.g ++ n.toList) == p.g.length
def okP : List Pc → Option UInt8 → Bool
  | [], _ => true
  | p :: r, n => fitB p ((pcB r).head?.or n) && okP r n
theorem pcB_app : ∀ a b : List Pc, pcB (a ++ b) = pcB a ++ pcB b
  | [], b => rfl
  | p :: r, b => by simp [pcB, pcB_app r b]
theorem pcT_app : ∀ (a b : List Pc) (o : Nat), pcT o (a ++ b) = pcT o a ++ pcT (o + (pcB a).length) b
  | [], b, o => rfl
  | p :: r, b, o => by simp [pcT, pcB, pcT_app r b]; congr 1; omega
theorem pcT_len : ∀ (a : List Pc) (o : Nat), (pcT o a).length = a.length
  | [], _ => rfl
  | p :: r, o => by simp [pcT, pcT_len r]
theorem head_or (a b : Str) : (a ++ b).head? = a.head?.or b.head? := by cases a <;> simp
theorem or_or (a b c : Option UInt8) : (a.or b).or c = a.or (b.or c) := by cases a <;> rfl
theorem okP_app : ∀ (a b : List Pc) (n : Option UInt8), okP (a ++ b) n = (okP a ((pcB b).head?.or n) && okP b n)
  | [], b, n => rfl
  | p :: r, b, n => by
    rw [List.cons_append, okP, okP, okP_app r b n, pcB_app, head_or, or_or, Bool.and_assoc]
theorem head_list (n : Option UInt8) : n.toList.head? = n := by cases n <;> rfl
theorem lp_pieces : ∀ (a : List Pc) (o : Nat) (r : Str) (us : List Tok) (m : Str) (e : Nat), okP a r.head? = true → Lp r (o + (pcB a).length) us m e → Lp (pcB a ++ r) o (pcT o a ++ us) m e
  | [], o, r, us, m, e, _, h => h
  | p :: q, o, r, us, m, e, hk, h => by
    rw [okP, Bool.and_eq_true] at hk
    have hf := hk.1
    simp only [fitB, Bool.and_eq_true, bne_iff_ne, ne_eq, beq_iff_eq] at hf
    obtain ⟨⟨⟨h2, h3⟩, h1⟩, h4⟩ := hf
    have hh : (pcB q ++ r).head? = ((pcB q).head?.or r.head?).toList.head? := by rw [head_list, head_or]
    have e1 : pcB (p :: q) ++ r = p.x ++ (p.g ++ (pcB q ++ r)) := by simp [pcB]
    rw [e1]
    refine Lp.cons p.x p.g _ p.v o _ _ _ ?_ h2 h3 (gap_swap h4 (.inr hh)) (lp_pieces q _ r us m e hk.2 ?_)
    · refine tok_swap h1 h2 (.inr (.inl ?_))
      rw [head_or, head_or p.g, hh]
    · have : o + p.x.length + p.g.length + (pcB q).length = o + (pcB (p :: q)).length := by simp [pcB]; omega
      rw [this]; exact h
theorem lexS_pieces (a : List Pc) (hk : okP a none = true) (hg : gapLen (pcB a) = 0) (hs : (pcB a).length ≤ 4000) (ht : a.length ≤ 1500) : lexS (pcB a) = (pcT 0 a, 0, 0) := by
  have h := lp_pieces a 0 [] [] [] _ hk (Lp.stop [] _)
  rw [List.append_nil, List.append_nil] at h
  exact lexS_of ⟨[], pcB a, rfl, hg, h⟩ hs (by rw [pcT_len]; exact ht)

/-! ### Repeated pieces -/
def rep {α : Type} (u : List α) : Nat → List α
  | 0 => []
  | k + 1 => u ++ rep u k
theorem rep_len {α : Type} (u : List α) : ∀ k, (rep u k).length = k * u.length
  | 0 => by simp [rep]
  | k + 1 => by simp [rep, rep_len u k, Nat.succ_mul, Nat.add_comm]
theorem rep_snoc {α : Type} (u : List α) : ∀ k, rep u (k + 1) = rep u k ++ u
  | 0 => by simp [rep]
  | k + 1 => by
    rw [rep, rep_snoc u k, ← List.append_assoc, ← rep, rep_snoc u k]
theorem rep_add {α : Type} (u : List α) : ∀ a b, rep u (a + b) = rep u a ++ rep u b
  | 0, b => by simp [rep]
  | a + 1, b => by rw [Nat.succ_add, rep, rep_add u a b]; simp [rep]
theorem pcB_rep (u : List Pc) : ∀ k, (pcB (rep u k)).length = k * (pcB u).length
  | 0 => by simp [rep, pcB]
  | k + 1 => by rw [rep, pcB_app, List.length_append, pcB_rep u k, Nat.succ_mul, Nat.add_comm]
theorem okP_rep (u : List Pc) (n : Option UInt8) (h1 : okP u n = true) (h2 : okP u (pcB u).head? = true) (hu : (pcB u).head? ≠ none) : ∀ k, okP (rep u k) n = true
  | 0 => rfl
  | 1 => by rw [rep, rep, List.append_nil]; exact h1
  | k + 2 => by
    rw [rep, okP_app, okP_rep u n h1 h2 hu (k + 1)]
    have : (pcB (rep u (k + 1))).head? = (pcB u).head? := by
      rw [rep, pcB_app, head_or]
      cases h : (pcB u).head? with
      | none => exact absurd h hu
      | some b => rfl
    rw [this]
    cases h : (pcB u).head? with
    | none => exact absurd h hu
    | some b => rw [h] at h2; simp [h2]
theorem head_rep (u : List Pc) (r : Str) : ∀ k, (pcB (rep u k) ++ r).head? = if k = 0 then r.head? else (pcB u).head?.or ((pcB (rep u (k - 1)) ++ r).head?)
  | 0 => by simp [rep, pcB]
  | k + 1 => by simp [rep, pcB_app]

/-! ### The parser's steps, by what is left -/
def pt (t : Tok) : PTok := ⟨t, wordT t⟩
theorem ptoks_pt (l : List Tok) (e : Nat) : ptoks l e = l.map pt ++ [⟨⟨0, [], 0, e⟩, wEnd⟩] := rfl
section
variable {ts : List PTok}
theorem at_get {i : Nat} {t : PTok} {l : List PTok} (h : ts.drop i = t :: l) : ts[i]? = some t := by
  have : (ts.drop i)[0]? = some t := by rw [h]; rfl
  simpa using this
theorem at_wd {i : Nat} {t : PTok} {l : List PTok} (h : ts.drop i = t :: l) : wd ts i = t.word := by unfold wd; rw [at_get h]
theorem at_tk {i : Nat} {t : PTok} {l : List PTok} (h : ts.drop i = t :: l) : tk ts i = t.tok := by unfold tk; rw [at_get h]
theorem at_next {i : Nat} {t : PTok} {l : List PTok} (h : ts.drop i = t :: l) : ts.drop (i + 1) = l := by
  rw [← List.drop_drop, h]; rfl
theorem at_skip {i : Nat} {a l : List PTok} (h : ts.drop i = a ++ l) : ts.drop (i + a.length) = l := by
  rw [← List.drop_drop, h, List.drop_left]
theorem at_len {i : Nat} {t : PTok} {l : List PTok} (h : ts.drop i = t :: l) : i < ts.length := by
  have := congrArg List.length h
  simp at this; omega
theorem tk_ok {w : Str} {i : Nat} {ds : List (Nat × Nat)} (h : wd ts i = w) : take ts w ⟨i, ds⟩ = .ok (tk ts i) ⟨i + 1, ds⟩ := by unfold take; rw [if_pos h]
theorem bg_ok {k : Nat} {w : Str} {i : Nat} {ds : List (Nat × Nat)} (h : wd ts i = w) : begin_ ts k w ⟨i, ds⟩ = .ok (.mk k [] [] 0 0 (tk ts i).off []) ⟨i + 1, ds⟩ := by
  unfold begin_; rw [bnd_ok (tk_ok h)]; rfl
theorem nm_ok {i : Nat} {ds : List (Nat × Nat)} (h : wd ts i = wName) : name ts ⟨i, ds⟩ = .ok (tk ts i).text ⟨i + 1, ds⟩ := by
  unfold name; rw [bnd_ok (tk_ok h)]; rfl
theorem wi_ok {i : Nat} {ds : List (Nat × Nat)} (h : wd ts i = wType) : width ts ⟨i, ds⟩ = .ok (tk ts i).num ⟨i + 1, ds⟩ := by
  unfold width; rw [bnd_ok (tk_ok h)]; rfl
theorem tk_no {w : Str} {i : Nat} {ds : List (Nat × Nat)} (h : wd ts i ≠ w) : take ts w ⟨i, ds⟩ = fail ts 10 ⟨i, ds⟩ := by unfold take; rw [if_neg h]
theorem fail_one {α : Type} {e i : Nat} : fail (α := α) ts e ⟨i, []⟩ = .out 0 ⟨i, [(e, (tk ts i).off)]⟩ := rfl
/-- A word at which nothing ends while a statement is left out. -/
def plainB (w : Str) : Bool := !(w == kStruct || w == kFunc || w == kParse || w == wEnd || w == pLB || w == pRB || w == pSemi)
theorem skp_one {g o i : Nat} {ds : List (Nat × Nat)} (h : plainB (wd ts i) = true) : skipGo ts (g + 1) o ⟨i, ds⟩ = skipGo ts g o ⟨i + 1, ds⟩ := by
  simp only [plainB, Bool.not_eq_true', Bool.or_eq_false_iff, beq_eq_false_iff_ne] at h
  obtain ⟨⟨⟨⟨⟨⟨a, b⟩, c⟩, d⟩, e⟩, f⟩, j⟩ := h
  rw [skipGo]
  simp [a, b, c, d, e, f, j]
theorem skp_semi {g i : Nat} {ds : List (Nat × Nat)} (h : wd ts i = pSemi) : skipGo ts (g + 1) 0 ⟨i, ds⟩ = .ok () ⟨i + 1, ds⟩ := by
  rw [skipGo]; simp only [h]; rfl
theorem skp_open {g o i : Nat} {ds : List (Nat × Nat)} (h : wd ts i = pLB) : skipGo ts (g + 1) o ⟨i, ds⟩ = skipGo ts g (o + 1) ⟨i + 1, ds⟩ := by
  rw [skipGo]; simp only [h]; rfl
theorem skp_close {g o i : Nat} {ds : List (Nat × Nat)} (h : wd ts i = pRB) (ho : 2 ≤ o) : skipGo ts (g + 1) o ⟨i, ds⟩ = skipGo ts g (o - 1) ⟨i + 1, ds⟩ := by
  rw [skipGo]; simp only [h]
  rw [if_neg (by decide), if_neg (by decide), if_pos trivial, if_neg (by omega), if_neg (by omega)]
theorem skp_last {g i : Nat} {ds : List (Nat × Nat)} (h : wd ts i = pRB) (h2 : wd ts (i + 1) ≠ kElse) : skipGo ts (g + 1) 1 ⟨i, ds⟩ = .ok () ⟨i + 1, ds⟩ := by
  rw [skipGo]; simp only [h]
  rw [if_neg (by decide), if_neg (by decide), if_pos trivial, if_neg (by omega), if_pos ⟨trivial, h2⟩]
theorem skp_here {g i : Nat} {ds : List (Nat × Nat)} (h : wd ts i = pRB) : skipGo ts (g + 1) 0 ⟨i, ds⟩ = .ok () ⟨i, ds⟩ := by
  rw [skipGo]; simp only [h]
  rw [if_neg (by decide), if_neg (by decide), if_pos trivial, if_pos trivial]
theorem skp_plain : ∀ (l : List PTok) (g i : Nat) (ds : List (Nat × Nat)) (t : PTok) (r : List PTok), ts.drop i = l ++ t :: r → (∀ x ∈ l, plainB x.word = true) → t.word = pSemi → l.length < g → skipGo ts g 0 ⟨i, ds⟩ = .ok () ⟨i + l.length + 1, ds⟩
  | [], g, i, ds, t, r, h, _, hw, hg => by
    obtain ⟨g, rfl⟩ : ∃ n, g = n + 1 := ⟨g - 1, by simp at hg; omega⟩
    rw [skp_semi (by rw [at_wd h, hw])]; rfl
  | x :: l, g, i, ds, t, r, h, hp, hw, hg => by
    obtain ⟨g, rfl⟩ : ∃ n, g = n + 1 := ⟨g - 1, by simp at hg; omega⟩
    have h : ts.drop i = x :: (l ++ t :: r) := h
    rw [skp_one (by rw [at_wd h]; exact hp x (by simp)), skp_plain l g (i + 1) ds t r (at_next h) (fun y hy => hp y (by simp [hy])) hw (by simp at hg; omega)]
    simp; omega
end
end Go.Proofs.YtmkehecapjdfdaaGreatDoor

/- What is read is valid, and its parts stand in order. -/
namespace Go.Proofs.YtmkehecapjdfdaaGreatDoor
open Go

/-! ### In order -/
def startTab : List (Nat × Str) := [(2, kStruct), (4, kFunc), (7, kLet), (11, kNew), (12, kMake), (13, kFree), (14, kSame), (15, kIf), (16, kWhile), (17, kEmit), (18, kAccept), (19, kReject), (20, kReturn), (6, pLB)]
def startF : Nat → List (Nat × Str) → Option Str
  | _, [] => none
  | k, (a, s) :: r => if a = k then some s else startF k r
/-- What a part begins with. -/
def startS (k : Nat) (nm : Str) : Str := match startF k startTab with | some s => s | none => nm
mutual
def OkT (s : Str) : T → Prop
  | .mk k nm _ _ _ a ks => a ≤ s.length ∧ startS k nm <+: s.drop a ∧ (k = 6 → OrdL s (-1) ks) ∧ KidsO s a ks
def OrdL (s : Str) : Int → List T → Prop
  | _, [] => True
  | last, t :: r => last < t.at_ ∧ OkT s t ∧ OrdL s t.at_ r
def KidsO (s : Str) (a : Nat) : List T → Prop
  | [] => True
  | t :: r => (t.kind = 6 → a < t.at_ ∧ OkT s t) ∧ KidsO s a r
end
def lastAt (x : Int) : List T → Int
  | [] => x
  | t :: r => lastAt t.at_ r
theorem lastAt_snoc : ∀ (l : List T) (x : Int) (t : T), lastAt x (l ++ [t]) = t.at_
  | [], _, _ => rfl
  | _ :: r, _, t => lastAt_snoc r _ t
theorem OrdL.snoc {s : Str} : ∀ {l : List T} {x : Int} {t : T}, OrdL s x l → lastAt x l < t.at_ → OkT s t → OrdL s x (l ++ [t])
  | [], _, _, _, h, k => ⟨h, k, trivial⟩
  | _ :: r, _, _, a, h, k => ⟨a.1, a.2.1, OrdL.snoc (l := r) a.2.2 h k⟩
theorem kids_no {s : Str} {a : Nat} : ∀ {l : List T}, (∀ t ∈ l, t.kind ≠ 6) → KidsO s a l
  | [], _ => trivial
  | t :: r, h => ⟨fun e => absurd e (h t (by simp)), kids_no (l := r) fun u hu => h u (by simp [hu])⟩
theorem kids_app {s : Str} {a : Nat} : ∀ {l m : List T}, KidsO s a l → KidsO s a m → KidsO s a (l ++ m)
  | [], _, _, h => h
  | _ :: r, _, k, h => ⟨k.1, kids_app (l := r) k.2 h⟩
theorem kids_one {s : Str} {a : Nat} {t : T} (h : a < t.at_) (k : OkT s t) : KidsO s a [t] := ⟨fun _ => ⟨h, k⟩, trivial⟩

/-! ### The tokens -/
structure TI (s : Str) (ts : List PTok) : Prop where
  len : ts.length ≤ 1501
  nam : ∀ i, wd ts i = wName → isNameS (tk ts i).text = true ∧ (tk ts i).text.length ≤ 4000
  typ : ∀ i, wd ts i = wType → 1 ≤ (tk ts i).num ∧ (tk ts i).num ≤ 64
  num : ∀ i, (tk ts i).num < 18446744073709551616
  off : ∀ i j, i < j → j < ts.length → (tk ts i).off < (tk ts j).off
  top : ∀ i, (tk ts i).off ≤ s.length
  txt : ∀ i, wd ts i = wName → (tk ts i).text <+: s.drop (tk ts i).off
  wrd : ∀ i, isKey (wd ts i) = true ∨ wd ts i = pLB → wd ts i <+: s.drop (tk ts i).off

/-! ### Valid -/
abbrev gs (l : List T) : List G := T.toG.toGs l
def TV (d : Nat) (t : T) : Prop := validG d t.toG = true ∧ okG t.toG
structure NV (c : UInt8) (d : Nat) (t : T) : Prop where
  tv : TV d t
  so : sortOf (t.kind : Int) = [c]
structure VL (c : UInt8) (d i : Nat) (l : List T) : Prop where
  so : sortsS (gs l) = List.replicate l.length c
  va : validL d (gs l) = true
  ok : okL (gs l)
  le : l.length ≤ i
  me : ∀ t ∈ l, sortOf (t.kind : Int) = [c]
theorem gs_app : ∀ a b : List T, gs (a ++ b) = gs a ++ gs b
  | [], _ => rfl
  | t :: r, b => by show t.toG :: gs (r ++ b) = _; rw [gs_app r b]; rfl
theorem validL_app (d : Nat) : ∀ a b : List G, validL d (a ++ b) = (validL d a && validL d b)
  | [], _ => rfl
  | t :: r, b => by rw [List.cons_append, validL, validL, validL_app d r b, Bool.and_assoc]
theorem okL_app : ∀ a b : List G, okL a → okL b → okL (a ++ b)
  | [], _, _, h => h
  | _ :: r, b, ha, hb => ⟨ha.1, okL_app r b ha.2 hb⟩
theorem VL.nil (c : UInt8) (d i : Nat) : VL c d i [] := ⟨rfl, rfl, trivial, Nat.zero_le _, fun t h => (by cases h)⟩
theorem sorts_one (t : T) : sortsS (gs [t]) = sortOf (t.kind : Int) := by
  show sortOf t.toG.kind ++ [] = _
  rw [(toG_f t).1, List.append_nil]
theorem VL.snoc {c : UInt8} {d i j : Nat} {l : List T} {t : T} (a : VL c d i l) (b : NV c d t) (h : i < j) : VL c d j (l ++ [t]) :=
  ⟨by rw [gs_app, sortsS_append, a.so, sorts_one, b.so]; show _ = List.replicate (l ++ [t]).length c; rw [List.length_append]; exact List.replicate_append_replicate (m := 1),
   by rw [gs_app, validL_app, a.va]; show (true && (validG d t.toG && true)) = true; rw [b.tv.1]; rfl,
   by rw [gs_app]; exact okL_app _ _ a.ok ⟨b.tv.2, trivial⟩, by have := a.le; simp; omega, fun u hu => by
     rcases List.mem_append.1 hu with hu | hu
     · exact a.me u hu
     · have : u = t := by simpa using hu
       rw [this]; exact b.so⟩
theorem VL.mono {c : UInt8} {d i j : Nat} {l : List T} (a : VL c d i l) (h : i ≤ j) : VL c d j l := ⟨a.so, a.va, a.ok, Nat.le_trans a.le h, a.me⟩
theorem sortL_6 : ∀ k : Nat, k < 32 → sortL.getD k [] = [98] → k = 6 := by decide
theorem sort_six {c : UInt8} {t : T} (h : sortOf (t.kind : Int) = [c]) (hc : c ≠ 98) : t.kind ≠ 6 := by
  intro e
  rw [e] at h
  have : sortOf ((6 : Nat) : Int) = [98] := by decide
  rw [this] at h
  injection h with h _
  exact hc h.symm
theorem trim_rep (c : UInt8) (r : Str) : ∀ n, Lib.trimLeftB (List.replicate n c ++ r) c = Lib.trimLeftB r c
  | 0 => rfl
  | n + 1 => by
    rw [List.replicate_succ, List.cons_append]
    unfold Lib.trimLeftB
    rw [List.dropWhile_cons, if_pos (by simp)]
    exact trim_rep c r n
theorem trim_all (c : UInt8) (n : Nat) : Lib.trimLeftB (List.replicate n c) c = [] := by
  have := trim_rep c [] n
  rw [List.append_nil] at this
  rw [this]; rfl
/-- A node, by its parts. -/
theorem tv_mk {k : Nat} {nm p : Str} {x w o : Nat} {ks : List T} {d : Nat} (hk : 1 ≤ k ∧ k < 32) (hd : deeper k d ≤ 10) (hf : fieldsG k nm p x (w : Int) = true) (hs : kidsG k (sortsS (gs ks)) = true) (hv : validL (deeper k d) (gs ks) = true)
    (h1 : nm.length ≤ 4000) (h2 : p.length ≤ 4000) (h3 : x < 18446744073709551616) (h4 : ks.length ≤ 2000) (h5 : okL (gs ks)) : TV d (.mk k nm p x w o ks) := by
  refine ⟨?_, ?_⟩
  · show (isKindG (k : Int) && (decide (deeper (k : Int).toNat d ≤ 10) && (fieldsG (k : Int).toNat _ _ x (w : Int) && (kidsG (k : Int).toNat (sortsS (gs ks)) && validL (deeper (k : Int).toNat d) (gs ks))))) = true
    have e : (k : Int).toNat = k := rfl
    rw [e]
    show (isKindG (k : Int) && (decide (deeper k d ≤ 10) && (fieldsG k nm p x (w : Int) && (kidsG k (sortsS (gs ks)) && validL (deeper k d) (gs ks))))) = true
    rw [hf, hs, hv]
    have : isKindG (k : Int) = true := by unfold isKindG; simp; omega
    rw [this]
    simpa using hd
  · show ByteArray.size ⟨nm.toArray⟩ ≤ _ ∧ ByteArray.size ⟨p.toArray⟩ ≤ _ ∧ x < _ ∧ (gs ks).length ≤ _ ∧ okL (gs ks)
    refine ⟨?_, ?_, h3, by rw [toGs_length]; exact h4, h5⟩
    · show nm.toArray.size ≤ _; simp; omega
    · show p.toArray.size ≤ _; simp; omega

/-! ### From one token on -/
def Tq {α : Type} (i : Nat) (P : α → Nat → Prop) (m : PM α) : Prop := ∀ ds a s', m ⟨i, ds⟩ = .ok a s' → P a s'.nx
theorem tq_ret {α : Type} {i : Nat} {P : α → Nat → Prop} {a : α} (h : P a i) : Tq i P (ret a) := fun ds b s' e => by cases e; exact h
theorem tq_bnd {α β : Type} {i : Nat} {P : α → Nat → Prop} {Q : β → Nat → Prop} {m : PM α} {f : α → PM β} (h : Tq i P m) (g : ∀ a j, P a j → Tq j Q (f a)) : Tq i Q (bnd m f) := fun ds b s' e => by
  cases hm : m ⟨i, ds⟩ with
  | ok a s1 => rw [bnd_ok hm] at e; exact g a s1.nx (h _ _ _ hm) s1.ds _ _ e
  | out l s1 => rw [bnd_out hm] at e; cases e
theorem tq_weak {α : Type} {i : Nat} {P Q : α → Nat → Prop} {m : PM α} (h : Tq i P m) (g : ∀ a j, P a j → Q a j) : Tq i Q m := fun _ _ _ e => g _ _ (h _ _ _ e)
section
variable {s : Str} {ts : List PTok}
theorem tq_ite {α : Type} {i : Nat} {P : α → Nat → Prop} {w : Str} {m n : PM α} (hm : wd ts i = w → Tq i P m) (hn : wd ts i ≠ w → Tq i P n) : Tq i P (fun s => if wd ts s.nx = w then m s else n s) := fun ds a s' e => by
  by_cases hc : wd ts i = w
  · simp only [if_pos hc] at e; exact hm hc _ _ _ e
  · simp only [if_neg hc] at e; exact hn hc _ _ _ e
theorem tq_fail {α : Type} {i e : Nat} {P : α → Nat → Prop} : Tq i P (fail ts e) := fun ds a s' h => by cases h
theorem tq_take {i : Nat} (w : Str) : Tq i (fun t j => j = i + 1 ∧ wd ts i = w ∧ t = tk ts i) (take ts w) := fun ds a s' e => by
  unfold take at e
  split at e
  · rename_i h
    cases e
    exact ⟨rfl, h, rfl⟩
  · cases e
theorem wd_lt {i : Nat} (h : wd ts i ≠ []) : i < ts.length := by
  rcases Nat.lt_or_ge i ts.length with hi | hi
  · exact hi
  · unfold wd at h
    rw [List.getElem?_eq_none hi] at h
    exact absurd rfl h
variable (H : TI s ts)
include H
theorem tq_name {i : Nat} : Tq i (fun x j => j = i + 1 ∧ wd ts i = wName ∧ x = (tk ts i).text ∧ isNameS x = true ∧ x.length ≤ 4000) (name ts) :=
  tq_bnd (tq_take _) fun a j ⟨h1, h2, h3⟩ => by
    subst h1 h3
    exact tq_ret ⟨rfl, h2, rfl, H.nam i h2⟩
theorem tq_width {i : Nat} : Tq i (fun x j => j = i + 1 ∧ 1 ≤ x ∧ x ≤ 64) (width ts) :=
  tq_bnd (tq_take _) fun a j ⟨h1, h2, h3⟩ => by
    subst h1 h3
    exact tq_ret ⟨rfl, H.typ i h2⟩
omit H
theorem tq_begin {i : Nat} (k : Nat) (w : Str) : Tq i (fun t j => j = i + 1 ∧ wd ts i = w ∧ t = .mk k [] [] 0 0 (tk ts i).off []) (begin_ ts k w) :=
  tq_bnd (tq_take _) fun a j ⟨h1, h2, h3⟩ => by
    subst h1 h3
    exact tq_ret ⟨rfl, h2, rfl⟩
include H
/-! ### Names with types -/
omit H in
theorem nv_field (k : Nat) (c : UInt8) (hk : (k = 3 ∧ c = 102) ∨ (k = 5 ∧ c = 112)) (d : Nat) (hd : d ≤ 10) {nm : Str} {x o : Nat} (h1 : isNameS nm = true) (h2 : nm.length ≤ 4000) (h3 : 1 ≤ x ∧ x ≤ 64) : NV c d (.mk k nm [] 0 x o []) := by
  have e1 : deeper k d = d := by rcases hk with ⟨rfl, _⟩ | ⟨rfl, _⟩ <;> rfl
  refine ⟨tv_mk (by omega) (by rw [e1]; exact hd) ?_ ?_ rfl h2 (by simp) (by omega) (by simp) trivial, ?_⟩
  · rcases hk with ⟨rfl, _⟩ | ⟨rfl, _⟩ <;> (simp [fieldsG, fieldL, bitU, textG, numG, widthG, h1]; omega)
  · rcases hk with ⟨rfl, _⟩ | ⟨rfl, _⟩ <;> rfl
  · rcases hk with ⟨rfl, rfl⟩ | ⟨rfl, rfl⟩
    · show sortOf ((3 : Nat) : Int) = [102]; decide
    · show sortOf ((5 : Nat) : Int) = [112]; decide
theorem tq_typedName {i : Nat} (k : Nat) (c : UInt8) (hk : (k = 3 ∧ c = 102) ∨ (k = 5 ∧ c = 112)) (d : Nat) (hd : d ≤ 10) : Tq i (fun t j => i < j ∧ NV c d t) (typedName ts k) :=
  tq_bnd (tq_take _) fun a j ⟨h1, h2, h3⟩ => by
    subst h1 h3
    refine tq_bnd (tq_take _) fun b j ⟨h1, _, _⟩ => ?_
    subst h1
    refine tq_bnd (tq_width H) fun x j ⟨h1, h4⟩ => ?_
    subst h1
    exact tq_ret ⟨by omega, nv_field k c hk d hd (H.nam i h2).1 (H.nam i h2).2 h4⟩
theorem tq_typedMore (k : Nat) (c : UInt8) (hk : (k = 3 ∧ c = 102) ∨ (k = 5 ∧ c = 112)) (d : Nat) (hd : d ≤ 10) : ∀ g i l, VL c d i l → l ≠ [] → Tq i (fun l j => i ≤ j ∧ VL c d j l ∧ l ≠ []) (typedMore ts k g l)
  | 0, i, l, h, hn => tq_ret ⟨Nat.le_refl _, h, hn⟩
  | g + 1, i, l, h, hn => tq_ite (fun _ => tq_bnd (tq_take _) fun a j ⟨h1, h2, h3⟩ => by
      subst h1
      refine tq_bnd (tq_typedName H k c hk d hd) fun t j ⟨h4, h5⟩ => ?_
      exact tq_weak (tq_typedMore k c hk d hd g j (l ++ [t]) ((h.mono (by omega)).snoc h5 h4) (by simp)) fun m j' ⟨a1, a2⟩ => ⟨by omega, a2⟩) fun _ => tq_ret ⟨Nat.le_refl _, h, hn⟩
theorem tq_typedNames {i : Nat} (k : Nat) (c : UInt8) (hk : (k = 3 ∧ c = 102) ∨ (k = 5 ∧ c = 112)) (d : Nat) (hd : d ≤ 10) : Tq i (fun l j => i < j ∧ VL c d j l ∧ l ≠ []) (typedNames ts k) :=
  tq_bnd (tq_typedName H k c hk d hd) fun t j ⟨h1, h2⟩ => tq_weak (tq_typedMore H k c hk d hd _ j [t] ((VL.nil c d i).snoc h2 h1) (by simp)) fun m j' ⟨a1, a2⟩ => ⟨by omega, a2⟩

/-! ### Expressions -/
omit H
theorem sortL_e : ∀ k : Nat, k < 32 → 21 ≤ k → sortL.getD k [] = [101] := by decide
theorem nx_mk {k : Nat} {nm p : Str} {x w o : Nat} {ks : List T} {d : Nat} (hk : 21 ≤ k ∧ k < 32) (hd : d + 1 ≤ 10) (hf : fieldsG k nm p x (w : Int) = true) (hs : kidsG k (sortsS (gs ks)) = true) (hv : validL (d + 1) (gs ks) = true)
    (h1 : nm.length ≤ 4000) (h2 : p.length ≤ 4000) (h3 : x < 18446744073709551616) (h4 : ks.length ≤ 2000) (h5 : okL (gs ks)) : NV 101 d (.mk k nm p x w o ks) := by
  have e := sortL_e k hk.2 hk.1
  have e1 : deeper k d = d + 1 := by unfold deeper; rw [if_pos (Or.inr e)]
  refine ⟨tv_mk (by omega) (by rw [e1]; exact hd) hf hs (by rw [e1]; exact hv) h1 h2 h3 h4 h5, ?_⟩
  show sortOf (k : Int) = [101]
  unfold sortOf
  rw [if_pos ⟨by unfold isKindG; simp; omega, by omega⟩]
  exact e
theorem so1 {c : UInt8} {d : Nat} {a : T} (h : NV c d a) : sortsS (gs [a]) = [c] := by rw [sorts_one, h.so]
theorem va1 {c : UInt8} {d : Nat} {a : T} (h : NV c d a) : validL d (gs [a]) = true := by show (validG d a.toG && true) = true; rw [h.tv.1]; rfl
theorem ok1 {c : UInt8} {d : Nat} {a : T} (h : NV c d a) : okL (gs [a]) := ⟨h.tv.2, trivial⟩
theorem so2 {c e : UInt8} {d : Nat} {a b : T} (h : NV c d a) (k : NV e d b) : sortsS (gs [a, b]) = [c, e] := by
  show sortOf a.toG.kind ++ (sortOf b.toG.kind ++ []) = _
  rw [(toG_f a).1, (toG_f b).1, h.so, k.so]; rfl
theorem va2 {c e : UInt8} {d : Nat} {a b : T} (h : NV c d a) (k : NV e d b) : validL d (gs [a, b]) = true := by show (validG d a.toG && (validG d b.toG && true)) = true; rw [h.tv.1, k.tv.1]; rfl
theorem ok2 {c e : UInt8} {d : Nat} {a b : T} (h : NV c d a) (k : NV e d b) : okL (gs [a, b]) := ⟨h.tv.2, k.tv.2, trivial⟩
theorem so3 {c e f : UInt8} {d : Nat} {a b z : T} (h : NV c d a) (k : NV e d b) (m : NV f d z) : sortsS (gs [a, b, z]) = [c, e, f] := by
  show sortOf a.toG.kind ++ (sortOf b.toG.kind ++ (sortOf z.toG.kind ++ [])) = _
  rw [(toG_f a).1, (toG_f b).1, (toG_f z).1, h.so, k.so, m.so]; rfl
theorem va3 {c e f : UInt8} {d : Nat} {a b z : T} (h : NV c d a) (k : NV e d b) (m : NV f d z) : validL d (gs [a, b, z]) = true := by show (validG d a.toG && (validG d b.toG && (validG d z.toG && true))) = true; rw [h.tv.1, k.tv.1, m.tv.1]; rfl
theorem ok3 {c e f : UInt8} {d : Nat} {a b z : T} (h : NV c d a) (k : NV e d b) (m : NV f d z) : okL (gs [a, b, z]) := ⟨h.tv.2, k.tv.2, m.tv.2, trivial⟩
def HE (d : Nat) (e : PM T) : Prop := ∀ i, Tq i (fun t j => i < j ∧ NV 101 d t) e
variable {e : PM T} {d : Nat} (he : HE (d + 1) e) (hd : d + 1 ≤ 10)
include he
theorem tq_inBrackets {i : Nat} : Tq i (fun t j => i < j ∧ NV 101 (d + 1) t) (inBrackets ts e) :=
  tq_bnd (tq_take _) fun a j ⟨h1, _, _⟩ => by
    subst h1
    refine tq_bnd (he _) fun t j ⟨h1, h2⟩ => tq_bnd (tq_take _) fun b j' ⟨h3, _, _⟩ => ?_
    subst h3
    exact tq_ret ⟨by omega, h2⟩
theorem tq_argsMore : ∀ g i l, VL 101 (d + 1) i l → Tq i (fun l j => i ≤ j ∧ VL 101 (d + 1) j l) (argsMore ts e g l)
  | 0, i, l, k => tq_ret ⟨Nat.le_refl _, k⟩
  | g + 1, i, l, k => by
    have more : ∀ i' t j, i ≤ i' → i' < j → NV 101 (d + 1) t → Tq j (fun l j => i ≤ j ∧ VL 101 (d + 1) j l) (argsMore ts e g (l ++ [t])) := fun i' t j a b c =>
      tq_weak (tq_argsMore g j (l ++ [t]) ((k.mono a).snoc c b)) fun m j' ⟨a1, a2⟩ => ⟨by omega, a2⟩
    refine tq_ite (fun _ => tq_ret ⟨Nat.le_refl _, k⟩) fun _ => ?_
    intro ds a s' h
    by_cases hl : l = []
    · simp only [if_pos hl] at h
      exact tq_bnd (he i) (fun t j ⟨h1, h2⟩ => more i t j (Nat.le_refl _) h1 h2) ds a s' h
    · simp only [if_neg hl] at h
      refine tq_bnd (Q := fun l j => i ≤ j ∧ VL 101 (d + 1) j l) (tq_take pComma) (fun t j ⟨h1, _, _⟩ => ?_) ds a s' h
      subst h1
      exact tq_bnd (he _) fun t j ⟨h1, h2⟩ => more (i + 1) t j (by omega) h1 h2
include H
theorem tq_arguments {i : Nat} : Tq i (fun l j => i < j ∧ VL 101 (d + 1) j l ∧ l.length ≤ 2000) (arguments ts e) :=
  tq_bnd (tq_take _) fun a j ⟨h1, _, _⟩ => by
    subst h1
    refine tq_bnd (tq_argsMore he _ _ [] (VL.nil _ _ _)) fun l j ⟨h1, h2⟩ => tq_bnd (tq_take _) fun b j' ⟨h3, h4, _⟩ => ?_
    subst h3
    have h5 : j < ts.length := wd_lt (by rw [h4]; decide)
    have := h2.le
    have := H.len
    exact tq_ret ⟨by omega, h2.mono (by omega), by omega⟩
include hd
theorem tq_varRest {i : Nat} (hw : wd ts i = wName) : Tq (i + 1) (fun t j => i < j ∧ NV 101 d t) (varRest ts e (tk ts i)) := by
  have n1 := (H.nam i hw).1
  have n2 := (H.nam i hw).2
  refine tq_ite (fun _ => ?_) fun _ => tq_ite (fun _ => ?_) fun _ => tq_ite (fun _ => ?_) fun _ => ?_
  · refine tq_bnd (tq_inBrackets he) fun t j ⟨h1, h2⟩ => tq_ret ⟨by omega, nx_mk (by omega) hd ?_ ?_ (va1 h2) n2 (by simp) (by omega) (by simp) (ok1 h2)⟩
    · simp [fieldsG, fieldL, bitU, textG, numG, widthG, n1]
    · rw [so1 h2]; rfl
  · refine tq_bnd (show Tq (i + 1) (fun q j => j = i + 3 ∧ isNameS q = true ∧ q.length ≤ 4000) (partOf ts) from tq_bnd (tq_take _) fun a j ⟨h1, _, _⟩ => by subst h1; exact tq_weak (tq_name H) fun x j ⟨a1, _, _, a4⟩ => ⟨by omega, a4⟩) fun q j ⟨h1, h2, h3⟩ => tq_ret ⟨by omega, nx_mk (by omega) hd ?_ rfl rfl n2 h3 (by omega) (by simp) trivial⟩
    simp [fieldsG, fieldL, bitU, textG, numG, widthG, n1, h2]
  · refine tq_bnd (tq_arguments H he) fun l j ⟨h1, h2, h3⟩ => tq_ret ⟨by omega, nx_mk (by omega) hd ?_ ?_ h2.va n2 (by simp) (by omega) h3 h2.ok⟩
    · simp [fieldsG, fieldL, bitU, textG, numG, widthG, n1]
    · rw [h2.so]; show (Lib.trimLeftB _ 101 == []) = true; rw [trim_all]; rfl
  · refine tq_ret ⟨by omega, nx_mk (by omega) hd ?_ rfl rfl n2 (by simp) (by omega) (by simp) trivial⟩
    simp [fieldsG, fieldL, bitU, textG, numG, widthG, n1]
theorem tq_cast {i : Nat} (k o : Nat) (hk : k = 29 ∨ k = 30) : Tq i (fun t j => i < j ∧ NV 101 d t) (cast ts e k o) :=
  tq_bnd (tq_width H) fun x j ⟨h1, h2⟩ => by
    subst h1
    refine tq_bnd (tq_take _) fun _ j ⟨h1, _, _⟩ => ?_
    subst h1
    refine tq_bnd (he _) fun t j ⟨h1, h3⟩ => tq_bnd (tq_take _) fun _ j' ⟨h4, _, _⟩ => ?_
    subst h4
    refine tq_ret ⟨by omega, nx_mk (by omega) hd ?_ ?_ (va1 h3) (by simp) (by simp) (by omega) (by simp) (ok1 h3)⟩
    · rcases hk with rfl | rfl <;> (simp [fieldsG, fieldL, bitU, textG, numG, widthG]; omega)
    · rw [so1 h3]; rcases hk with rfl | rfl <;> rfl
omit H he hd in
theorem signOf_lt : ∀ (l : List Str) (n : Nat) (w : Str) (m : Nat), signOf w n l = some m → n ≤ m ∧ m < n + l.length
  | [], _, _, _, h => by cases h
  | x :: r, n, w, m, h => by
    unfold signOf at h
    split at h
    · cases h; simp
    · have := signOf_lt r (n + 1) w m h
      simp; omega
theorem tq_exprOf {i : Nat} {m : PM T} (k : exprOf ts e (wd ts i) = some m) : Tq i (fun t j => i < j ∧ NV 101 d t) m := by
  unfold exprOf at k
  split at k
  · injection k with k; subst k
    refine tq_bnd (tq_begin _ _) fun n j ⟨h1, h2, h3⟩ => ?_
    subst h1 h3
    refine tq_bnd (tq_inBrackets he) fun t j ⟨h1, h2⟩ => tq_ret ⟨by omega, nx_mk (by omega) hd rfl ?_ (va1 h2) (by simp) (by simp) (by omega) (by simp) (ok1 h2)⟩
    rw [so1 h2]; rfl
  split at k
  · injection k with k; subst k
    refine tq_weak (tq_begin _ _) fun n j ⟨h1, h2, h3⟩ => ?_
    subst h1 h3
    exact ⟨by omega, nx_mk (by omega) hd rfl rfl rfl (by simp) (by simp) (by omega) (by simp) trivial⟩
  split at k
  · injection k with k; subst k
    refine tq_bnd (tq_begin _ _) fun n j ⟨h1, h2, h3⟩ => ?_
    subst h1 h3
    refine tq_bnd (he _) fun a j ⟨h1, ha⟩ => ?_
    have hsg : Tq j (fun x j' => j < j' ∧ 1 ≤ x ∧ x ≤ 17) (sign ts) := fun ds x s' h => by
      unfold sign at h
      split at h
      · cases h
      · rename_i n hn
        have := signOf_lt _ _ _ _ hn
        refine tq_bnd (Q := fun x j' => j < j' ∧ 1 ≤ x ∧ x ≤ 17) (tq_take _) (fun t j' ⟨h1, _, _⟩ => ?_) _ _ _ h
        subst h1
        exact tq_ret ⟨by omega, by omega, by have e : signWords.length = 17 := rfl; omega⟩
    refine tq_bnd hsg fun x j2 ⟨h3, h4, h5⟩ => tq_bnd (he _) fun b j3 ⟨h6, hb⟩ => tq_bnd (tq_take _) fun _ j4 ⟨h7, _, _⟩ => ?_
    subst h7
    refine tq_ret ⟨by omega, nx_mk (by omega) hd ?_ ?_ (va2 ha hb) (by simp) (by simp) (by omega) (by simp) (ok2 ha hb)⟩
    · simp [fieldsG, fieldL, bitU, textG, numG, widthG]; omega
    · rw [so2 ha hb]; rfl
  split at k
  · injection k with k; subst k
    refine tq_bnd (tq_begin _ _) fun n j ⟨h1, h2, h3⟩ => ?_
    subst h1 h3
    refine tq_bnd (he _) fun t j ⟨h1, h2⟩ => tq_ret ⟨by omega, nx_mk (by omega) hd rfl ?_ (va1 h2) (by simp) (by simp) (by omega) (by simp) (ok1 h2)⟩
    rw [so1 h2]; rfl
  split at k
  · injection k with k; subst k
    refine tq_bnd (tq_begin _ _) fun n j ⟨h1, h2, h3⟩ => ?_
    subst h1 h3
    exact tq_weak (tq_cast H he hd 30 _ (.inr rfl)) fun t j ⟨a, b⟩ => ⟨by omega, b⟩
  split at k
  · injection k with k; subst k
    refine tq_bnd (tq_take _) fun t j ⟨h1, h2, h3⟩ => ?_
    subst h1 h3
    refine tq_bnd (tq_take _) fun _ j ⟨h1, _, _⟩ => ?_
    subst h1
    refine tq_bnd (tq_width H) fun x j ⟨h1, h4⟩ => ?_
    subst h1
    refine tq_ret ⟨by omega, nx_mk (by omega) hd ?_ rfl rfl (by simp) (by simp) (H.num i) (by simp) trivial⟩
    simp [fieldsG, fieldL, bitU, textG, numG, widthG]; omega
  split at k
  · injection k with k; subst k
    refine tq_bnd (tq_take _) fun t j ⟨h1, h2, h3⟩ => ?_
    subst h1 h3
    exact tq_varRest H he hd h2
  split at k
  · injection k with k; subst k
    intro ds t s' h
    exact tq_cast H he hd 29 (tk ts i).off (.inl rfl) ds t s' h
  · cases k
omit he hd
theorem tq_expression : ∀ f, f ≤ 10 → HE (10 - f) (expression ts f)
  | 0, _, i => fun ds a s' k => by
    unfold expression at k
    split at k <;> cases k
  | f + 1, hf, i => fun ds a s' k => by
    have ih := tq_expression f (by omega)
    have e1 : 10 - f = (10 - (f + 1)) + 1 := by omega
    rw [e1] at ih
    unfold expression at k
    split at k
    · cases k
    · rename_i m hm
      exact tq_exprOf H ih (by omega) hm _ _ _ k
end
end Go.Proofs.YtmkehecapjdfdaaGreatDoor

/- What is read is valid, and its parts stand in order: statements, blocks, items, programs. -/
namespace Go.Proofs.YtmkehecapjdfdaaGreatDoor
open Go

section
variable {s : Str} {ts : List PTok}
/-- A node that begins at a token, in order. -/
structure NS (s : Str) (ts : List PTok) (c : UInt8) (d i j : Nat) (t : T) : Prop where
  nv : NV c d t
  at_ : t.at_ = (tk ts i).off
  lt : i < j
  hi : i < ts.length
  ord : OkT s t
structure VS (s : Str) (ts : List PTok) (c : UInt8) (d i : Nat) (l : List T) : Prop where
  lv : VL c d i l
  od : OrdL s (-1) l
  la : ∀ k, i ≤ k → k < ts.length → lastAt (-1) l < ((tk ts k).off : Int)
theorem VS.nil (c : UInt8) (d i : Nat) : VS s ts c d i [] := ⟨VL.nil _ _ _, trivial, fun k _ _ => by show (-1 : Int) < _; omega⟩
theorem VS.mono {c : UInt8} {d i j : Nat} {l : List T} (a : VS s ts c d i l) (h : i ≤ j) : VS s ts c d j l := ⟨a.lv.mono h, a.od, fun k hk hl => a.la k (by omega) hl⟩
variable (H : TI s ts)
include H
theorem VS.snoc {c : UInt8} {d i j : Nat} {l : List T} {t : T} (a : VS s ts c d i l) (b : NS s ts c d i j t) : VS s ts c d j (l ++ [t]) :=
  ⟨a.lv.snoc b.nv b.lt, a.od.snoc (by rw [b.at_]; exact a.la i (Nat.le_refl _) b.hi) b.ord, fun k hk hl => by
    rw [lastAt_snoc, b.at_]
    have := H.off i k (by have := b.lt; omega) hl
    omega⟩
theorem word_at {i : Nat} {w : Str} (h : wd ts i = w) (hk : isKey w = true ∨ w = pLB) : w <+: s.drop (tk ts i).off := by
  have := H.wrd i (by rw [h]; exact hk)
  rwa [h] at this
/-- The parts of a statement. -/
theorem okT_mk {k : Nat} {nm p : Str} {x w i : Nat} {ks : List T} (h : startS k nm <+: s.drop (tk ts i).off) (h6 : k ≠ 6) (hk : KidsO s (tk ts i).off ks) : OkT s (.mk k nm p x w (tk ts i).off ks) :=
  ⟨H.top i, h, fun e => absurd e h6, hk⟩
omit H
theorem sortL_s : ∀ k : Nat, k < 32 → 7 ≤ k → k ≤ 20 → sortL.getD k [] = [115] := by decide
theorem nv_s {k : Nat} {nm p : Str} {x w o : Nat} {ks : List T} {d : Nat} (hk : 7 ≤ k ∧ k ≤ 20) (hd : d ≤ 10) (hf : fieldsG k nm p x (w : Int) = true) (hs : kidsG k (sortsS (gs ks)) = true) (hv : validL d (gs ks) = true)
    (h1 : nm.length ≤ 4000) (h2 : p.length ≤ 4000) (h3 : x < 18446744073709551616) (h4 : ks.length ≤ 2000) (h5 : okL (gs ks)) : NV 115 d (.mk k nm p x w o ks) := by
  have e := sortL_s k (by omega) hk.1 hk.2
  have e1 : deeper k d = d := by unfold deeper; rw [e, if_neg (by decide)]
  refine ⟨tv_mk (by omega) (by rw [e1]; exact hd) hf hs (by rw [e1]; exact hv) h1 h2 h3 h4 h5, ?_⟩
  show sortOf (k : Int) = [115]
  unfold sortOf
  rw [if_pos ⟨by unfold isKindG; simp; omega, by omega⟩]
  exact e
theorem e_no6 {d : Nat} {t : T} (h : NV 101 d t) : t.kind ≠ 6 := sort_six h.so (by decide)
theorem kids1 {a d : Nat} {t : T} (h : NV 101 d t) : KidsO s a [t] := kids_no fun u hu => by
  have : u = t := by simpa using hu
  rw [this]; exact e_no6 h
theorem kids2 {a d : Nat} {t u : T} (h : NV 101 d t) (k : NV 101 d u) : KidsO s a [t, u] := kids_app (l := [t]) (kids1 h) (kids1 k)
/-- What blocks answer. -/
def HB (s : Str) (ts : List PTok) (d : Nat) (b : PM T) : Prop := ∀ i, Tq i (fun t j => NS s ts 98 d i j t) b
variable {e b : PM T} {d : Nat} (he : HE d e) (hb : HB s ts d b) (hd : d ≤ 10)
include he
theorem tq_value {i : Nat} {f : T → T} {P : T → Nat → Prop} (g : ∀ a j, i < j → NV 101 d a → P (f a) (j + 1)) : Tq i P (value ts e f) :=
  tq_bnd (he _) fun a j ⟨h1, h2⟩ => tq_bnd (tq_take _) fun _ j' ⟨h3, _, _⟩ => by
    subst h3
    exact tq_ret (g a j h1 h2)
omit he
include H
theorem tq_partOf {i : Nat} : Tq i (fun q j => j = i + 2 ∧ isNameS q = true ∧ q.length ≤ 4000) (partOf ts) :=
  tq_bnd (tq_take _) fun a j ⟨h1, _, _⟩ => by subst h1; exact tq_weak (tq_name H) fun x j ⟨a1, _, _, a4⟩ => ⟨by omega, a4⟩
include he hd
theorem tq_asgRest {i : Nat} (hw : wd ts i = wName) (he' : HE d e) : Tq (i + 1) (fun t j => NS s ts 115 d i j t) (asgRest ts e (tk ts i)) := by
  have n1 := (H.nam i hw).1
  have n2 := (H.nam i hw).2
  have hl : i < ts.length := wd_lt (by rw [hw]; decide)
  have ht := H.txt i hw
  have inb : ∀ {i' : Nat}, Tq i' (fun t j => i' < j ∧ NV 101 d t) (inBrackets ts e) := fun {i'} => tq_bnd (tq_take _) fun a j ⟨h1, _, _⟩ => by
    subst h1
    refine tq_bnd (he' _) fun t j ⟨h1, h2⟩ => tq_bnd (tq_take _) fun b j' ⟨h3, _, _⟩ => ?_
    subst h3
    exact tq_ret ⟨by omega, h2⟩
  refine tq_ite (fun _ => ?_) fun _ => tq_ite (fun _ => ?_) fun _ => ?_
  · refine tq_bnd inb fun k j ⟨h1, h2⟩ => tq_bnd (tq_take _) fun _ j' ⟨h3, _, _⟩ => ?_
    subst h3
    refine tq_value he fun a j2 h4 h5 => ⟨nv_s (by omega) hd ?_ ?_ (va2 h2 h5) n2 (by simp) (by omega) (by simp) (ok2 h2 h5), rfl, by omega, hl, okT_mk H ht (by omega) (kids2 h2 h5)⟩
    · simp [fieldsG, fieldL, bitU, textG, numG, widthG, n1]
    · rw [so2 h2 h5]; rfl
  · refine tq_bnd (tq_partOf H) fun q j ⟨h1, h2, h3⟩ => tq_bnd (tq_take _) fun _ j' ⟨h4, _, _⟩ => ?_
    subst h1 h4
    refine tq_value he fun a j2 h4 h5 => ⟨nv_s (by omega) hd ?_ ?_ (va1 h5) n2 h3 (by omega) (by simp) (ok1 h5), rfl, by omega, hl, okT_mk H ht (by omega) (kids1 h5)⟩
    · simp [fieldsG, fieldL, bitU, textG, numG, widthG, n1, h2]
    · rw [so1 h5]; rfl
  · refine tq_bnd (tq_take _) fun _ j' ⟨h4, _, _⟩ => ?_
    subst h4
    refine tq_value he fun a j2 h4 h5 => ⟨nv_s (by omega) hd ?_ ?_ (va1 h5) n2 (by simp) (by omega) (by simp) (ok1 h5), rfl, by omega, hl, okT_mk H ht (by omega) (kids1 h5)⟩
    · simp [fieldsG, fieldL, bitU, textG, numG, widthG, n1]
    · rw [so1 h5]; rfl
theorem tq_readNamed {i : Nat} (k : Nat) (w : Str) (hk : (k = 7 ∧ w = kLet) ∨ (k = 17 ∧ w = kEmit)) : Tq i (fun t j => NS s ts 115 d i j t) (readNamed ts e k w) :=
  tq_bnd (tq_begin _ _) fun n j ⟨h1, h2, h3⟩ => by
    subst h1 h3
    refine tq_bnd (tq_name H) fun x j ⟨h1, _, _, h4, h5⟩ => ?_
    subst h1
    refine tq_bnd (tq_take _) fun _ j ⟨h1, _, _⟩ => ?_
    subst h1
    have hw := word_at H h2 (by rcases hk with ⟨_, rfl⟩ | ⟨_, rfl⟩ <;> exact .inl rfl)
    have hl : i < ts.length := wd_lt (by rw [h2]; rcases hk with ⟨_, rfl⟩ | ⟨_, rfl⟩ <;> decide)
    refine tq_value he fun a j2 h6 h7 => ⟨nv_s (by omega) hd ?_ ?_ (va1 h7) h5 (by simp) (by omega) (by simp) (ok1 h7), rfl, by omega, hl, okT_mk H ?_ (by omega) (kids1 h7)⟩
    · rcases hk with ⟨rfl, _⟩ | ⟨rfl, _⟩ <;> simp [fieldsG, fieldL, bitU, textG, numG, widthG, h4]
    · rw [so1 h7]; rcases hk with ⟨rfl, _⟩ | ⟨rfl, _⟩ <;> rfl
    · rcases hk with ⟨rfl, rfl⟩ | ⟨rfl, rfl⟩ <;> exact hw
omit he
theorem tq_readPair {i : Nat} (k : Nat) (w z : Str) (hk : (k = 12 ∧ w = kMake) ∨ (k = 14 ∧ w = kSame)) : Tq i (fun t j => NS s ts 115 d i j t) (readPair ts k w z) :=
  tq_bnd (tq_begin _ _) fun n j ⟨h1, h2, h3⟩ => by
    subst h1 h3
    refine tq_bnd (tq_name H) fun x j ⟨h1, _, _, h4, h5⟩ => ?_
    subst h1
    refine tq_bnd (tq_take _) fun _ j ⟨h1, _, _⟩ => ?_
    subst h1
    refine tq_bnd (tq_name H) fun y j ⟨h1, _, _, h6, h7⟩ => ?_
    subst h1
    refine tq_bnd (tq_take _) fun _ j ⟨h1, _, _⟩ => ?_
    subst h1
    have hw := word_at H h2 (by rcases hk with ⟨_, rfl⟩ | ⟨_, rfl⟩ <;> exact .inl rfl)
    have hl : i < ts.length := wd_lt (by rw [h2]; rcases hk with ⟨_, rfl⟩ | ⟨_, rfl⟩ <;> decide)
    refine tq_ret ⟨nv_s (by omega) hd ?_ ?_ rfl h5 h7 (by omega) (by simp) trivial, rfl, by omega, hl, okT_mk H ?_ (by omega) trivial⟩
    · rcases hk with ⟨rfl, _⟩ | ⟨rfl, _⟩ <;> simp [fieldsG, fieldL, bitU, textG, numG, widthG, h4, h6]
    · rcases hk with ⟨rfl, _⟩ | ⟨rfl, _⟩ <;> rfl
    · rcases hk with ⟨rfl, rfl⟩ | ⟨rfl, rfl⟩ <;> exact hw
include he hb
theorem tq_stmtOf {i : Nat} {m : PM T} (k : stmtOf ts e b (wd ts i) = some m) : Tq i (fun t j => NS s ts 115 d i j t) m := by
  unfold stmtOf at k
  by_cases ckLet : wd ts i = kLet
  · rw [if_pos ckLet] at k
    injection k with k
    rw [← k]
    exact tq_readNamed H he hd _ _ (.inl ⟨rfl, rfl⟩)
  rw [if_neg ckLet] at k
  by_cases ckNew : wd ts i = kNew
  · rw [if_pos ckNew] at k
    injection k with k
    rw [← k]
    refine tq_bnd (tq_begin _ _) fun n j ⟨h1, h2, h3⟩ => ?_
    subst h1 h3
    refine tq_bnd (tq_name H) fun x j ⟨h1, _, _, h4, h5⟩ => ?_
    subst h1
    refine tq_bnd (tq_take _) fun _ j ⟨h1, _, _⟩ => ?_
    subst h1
    refine tq_bnd (tq_width H) fun y j ⟨h1, h6⟩ => ?_
    subst h1
    refine tq_bnd (P := fun t j => i + 1 < j ∧ NV 101 d t) (tq_bnd (tq_take _) fun a j ⟨h1, _, _⟩ => ?_) fun t j ⟨h7, h8⟩ => tq_bnd (tq_take _) fun _ j' ⟨h9, _, _⟩ => ?_
    · subst h1
      refine tq_bnd (he _) fun t j ⟨h1, h2⟩ => tq_bnd (tq_take _) fun b j' ⟨h3, _, _⟩ => ?_
      subst h3
      exact tq_ret ⟨by omega, h2⟩
    · subst h9
      have hw := word_at H h2 (.inl rfl)
      refine tq_ret ⟨nv_s (by omega) hd ?_ ?_ (va1 h8) h5 (by simp) (by omega) (by simp) (ok1 h8), rfl, by omega, wd_lt (by rw [h2]; decide), okT_mk H hw (by omega) (kids1 h8)⟩
      · simp [fieldsG, fieldL, bitU, textG, numG, widthG, h4]; omega
      · rw [so1 h8]; rfl
  rw [if_neg ckNew] at k
  by_cases ckMake : wd ts i = kMake
  · rw [if_pos ckMake] at k
    injection k with k
    rw [← k]
    exact tq_readPair H hd _ _ _ (.inl ⟨rfl, rfl⟩)
  rw [if_neg ckMake] at k
  by_cases ckFree : wd ts i = kFree
  · rw [if_pos ckFree] at k
    injection k with k
    rw [← k]
    refine tq_bnd (tq_begin _ _) fun n j ⟨h1, h2, h3⟩ => ?_
    subst h1 h3
    refine tq_bnd (tq_name H) fun x j ⟨h1, _, _, h4, h5⟩ => ?_
    subst h1
    refine tq_bnd (tq_take _) fun _ j ⟨h1, _, _⟩ => ?_
    subst h1
    have hw := word_at H h2 (.inl rfl)
    refine tq_ret ⟨nv_s (by omega) hd ?_ rfl rfl h5 (by simp) (by omega) (by simp) trivial, rfl, by omega, wd_lt (by rw [h2]; decide), okT_mk H hw (by omega) trivial⟩
    simp [fieldsG, fieldL, bitU, textG, numG, widthG, h4]
  rw [if_neg ckFree] at k
  by_cases ckSame : wd ts i = kSame
  · rw [if_pos ckSame] at k
    injection k with k
    rw [← k]
    exact tq_readPair H hd _ _ _ (.inr ⟨rfl, rfl⟩)
  rw [if_neg ckSame] at k
  by_cases ckIf : wd ts i = kIf
  · rw [if_pos ckIf] at k
    injection k with k
    rw [← k]
    refine tq_bnd (tq_begin _ _) fun n j ⟨h1, h2, h3⟩ => ?_
    subst h1 h3
    have hw := word_at H h2 (.inl rfl)
    have hl : i < ts.length := wd_lt (by rw [h2]; decide)
    refine tq_bnd (he _) fun a j ⟨h1, ha⟩ => tq_bnd (hb _) fun x j2 hx => tq_ite (fun _ => ?_) fun _ => ?_
    · have l1 := H.off i j (by omega) hx.hi
      refine tq_bnd (tq_take _) fun _ j3 ⟨h3, _, _⟩ => ?_
      subst h3
      refine tq_bnd (hb _) fun y j4 hy => ?_
      have l2 := H.off i (j2 + 1) (by have := hx.lt; omega) hy.hi
      have := hx.lt
      have := hy.lt
      refine tq_ret ⟨nv_s (by omega) hd rfl ?_ (va3 ha hx.nv hy.nv) (by simp) (by simp) (by omega) (by simp) (ok3 ha hx.nv hy.nv), rfl, by omega, hl, okT_mk H hw (by omega) ?_⟩
      · rw [so3 ha hx.nv hy.nv]; rfl
      · exact ⟨fun e => absurd e (e_no6 ha), fun _ => ⟨by rw [hx.at_]; exact l1, hx.ord⟩, fun _ => ⟨by rw [hy.at_]; exact l2, hy.ord⟩, trivial⟩
    · have l1 := H.off i j (by omega) hx.hi
      have := hx.lt
      refine tq_ret ⟨nv_s (by omega) hd rfl ?_ (va2 ha hx.nv) (by simp) (by simp) (by omega) (by simp) (ok2 ha hx.nv), rfl, by omega, hl, okT_mk H hw (by omega) ?_⟩
      · rw [so2 ha hx.nv]; rfl
      · exact ⟨fun e => absurd e (e_no6 ha), fun _ => ⟨by rw [hx.at_]; exact l1, hx.ord⟩, trivial⟩
  rw [if_neg ckIf] at k
  by_cases ckWhile : wd ts i = kWhile
  · rw [if_pos ckWhile] at k
    injection k with k
    rw [← k]
    refine tq_bnd (tq_begin _ _) fun n j ⟨h1, h2, h3⟩ => ?_
    subst h1 h3
    have hw := word_at H h2 (.inl rfl)
    refine tq_bnd (he _) fun a j ⟨h1, ha⟩ => tq_bnd (hb _) fun x j2 hx => ?_
    have l1 := H.off i j (by omega) hx.hi
    have := hx.lt
    refine tq_ret ⟨nv_s (by omega) hd rfl ?_ (va2 ha hx.nv) (by simp) (by simp) (by omega) (by simp) (ok2 ha hx.nv), rfl, by omega, wd_lt (by rw [h2]; decide), okT_mk H hw (by omega) ?_⟩
    · rw [so2 ha hx.nv]; rfl
    · exact ⟨fun e => absurd e (e_no6 ha), fun _ => ⟨by rw [hx.at_]; exact l1, hx.ord⟩, trivial⟩
  rw [if_neg ckWhile] at k
  by_cases ckEmit : wd ts i = kEmit
  · rw [if_pos ckEmit] at k
    injection k with k
    rw [← k]
    exact tq_readNamed H he hd _ _ (.inr ⟨rfl, rfl⟩)
  rw [if_neg ckEmit] at k
  by_cases ckAccept : wd ts i = kAccept
  · rw [if_pos ckAccept] at k
    injection k with k
    rw [← k]
    refine tq_bnd (tq_begin _ _) fun n j ⟨h1, h2, h3⟩ => ?_
    subst h1 h3
    refine tq_bnd (tq_take _) fun _ j ⟨h1, _, _⟩ => ?_
    subst h1
    have hw := word_at H h2 (.inl rfl)
    exact tq_ret ⟨nv_s (by omega) hd rfl rfl rfl (by simp) (by simp) (by omega) (by simp) trivial, rfl, by omega, wd_lt (by rw [h2]; decide), okT_mk H hw (by omega) trivial⟩
  rw [if_neg ckAccept] at k
  by_cases ckReject : wd ts i = kReject
  · rw [if_pos ckReject] at k
    injection k with k
    rw [← k]
    refine tq_bnd (tq_begin _ _) fun n j ⟨h1, h2, h3⟩ => ?_
    subst h1 h3
    refine tq_bnd (tq_take _) fun t j ⟨h1, _, h4⟩ => ?_
    subst h1 h4
    refine tq_bnd (tq_take _) fun _ j ⟨h1, _, _⟩ => ?_
    subst h1
    have hw := word_at H h2 (.inl rfl)
    exact tq_ret ⟨nv_s (by omega) hd (by simp [fieldsG, fieldL, bitU, textG, numG, widthG]) rfl rfl (by simp) (by simp) (H.num _) (by simp) trivial, rfl, by omega, wd_lt (by rw [h2]; decide), okT_mk H hw (by omega) trivial⟩
  rw [if_neg ckReject] at k
  by_cases ckReturn : wd ts i = kReturn
  · rw [if_pos ckReturn] at k
    injection k with k
    rw [← k]
    refine tq_bnd (tq_begin _ _) fun n j ⟨h1, h2, h3⟩ => ?_
    subst h1 h3
    have hw := word_at H h2 (.inl rfl)
    refine tq_value he fun a j2 h4 h5 => ⟨nv_s (by omega) hd rfl ?_ (va1 h5) (by simp) (by simp) (by omega) (by simp) (ok1 h5), rfl, by omega, wd_lt (by rw [h2]; decide), okT_mk H hw (by omega) (kids1 h5)⟩
    rw [so1 h5]; rfl
  rw [if_neg ckReturn] at k
  by_cases cwName : wd ts i = wName
  · rw [if_pos cwName] at k
    injection k with k
    rw [← k]
    refine tq_bnd (tq_take _) fun t j ⟨h1, h2, h3⟩ => ?_
    subst h1 h3
    exact tq_asgRest H he hd h2 he
  rw [if_neg cwName] at k
  cases k
theorem tq_statement {i : Nat} : Tq i (fun t j => NS s ts 115 d i j t) (statement ts e b) := fun ds a s' k => by
  unfold statement at k
  split at k
  · cases k
  · rename_i m hm
    exact tq_stmtOf H he hb hd hm _ _ _ k
omit he hb hd
theorem tq_stmts {c : UInt8} {m : PM T} (hm : ∀ i, Tq i (fun t j => NS s ts c d i j t) m) (hmv : Mv 1 m) : ∀ g i l, VS s ts c d i l → Tq i (fun l j => i ≤ j ∧ VS s ts c d j l) (stmts ts m g l)
  | 0, i, l, k => tq_ret ⟨Nat.le_refl _, k⟩
  | g + 1, i, l, k => fun ds a s' r => by
    unfold stmts at r
    by_cases hc : wd ts i = pRB
    · simp only [if_pos hc] at r
      cases r
      exact ⟨Nat.le_refl _, k⟩
    · simp only [if_neg hc] at r
      cases ha : attempt m 0 ⟨i, ds⟩ with
      | out q s1 => rw [bnd_out ha] at r; cases r
      | ok o s1 =>
        rw [bnd_ok ha] at r
        cases o with
        | some t =>
          have ht : NS s ts c d i s1.nx t := by
            unfold attempt at ha
            split at ha
            · rename_i h1
              cases ha
              exact hm _ _ _ _ h1
            · split at ha <;> cases ha
          have := tq_stmts hm hmv g s1.nx _ (VS.snoc H k ht) s1.ds _ _ r
          exact ⟨by have := ht.lt; omega, this.2⟩
        | none =>
          simp only at r
          have h1 := att_none hmv ha
          cases hk : skipStatement ts s1 with
          | out q s2 => rw [bnd_out hk] at r; cases r
          | ok u s2 =>
            rw [bnd_ok hk] at r
            have h2 := (mv_skipGo ts _ _).ok _ _ _ hk
            have h3 : i ≤ s2.nx := by simp at h1; omega
            have := tq_stmts hm hmv g s2.nx _ (k.mono h3) s2.ds _ _ r
            exact ⟨by omega, this.2⟩
theorem tq_block : ∀ f, f ≤ 10 → HB s ts (10 - f) (block ts f)
  | 0, _, i => tq_ite (w := pLB) (fun _ => tq_fail) fun _ => tq_fail
  | f + 1, hf, i => by
    have e1 : 10 - f = (10 - (f + 1)) + 1 := by omega
    have ih := tq_block f (by omega)
    have ie := tq_expression H f (by omega)
    have mv := mv_statement ts (mv_expression ts f) (mv_block ts f)
    have hs : ∀ i, Tq i (fun t j => NS s ts 115 (10 - f) i j t) (statement ts (expression ts f) (block ts f)) := fun i => tq_statement H ie ih (by omega)
    refine tq_ite (w := pLB) (fun hw0 => tq_bnd (tq_begin _ _) fun n j ⟨h1, h2, h3⟩ => ?_) fun _ => tq_fail
    subst h1 h3
    refine tq_bnd (tq_stmts H hs mv _ _ [] (VS.nil _ _ _)) fun l j ⟨h1, h3⟩ => tq_bnd (tq_take _) fun _ j' ⟨h4, h5, _⟩ => ?_
    subst h4
    have hj : j < ts.length := wd_lt (by rw [h5]; decide)
    have hlen := H.len
    have hle := h3.lv.le
    have hdp : deeper 6 (10 - (f + 1)) = 10 - f := by show 10 - (f + 1) + 1 = _; omega
    refine tq_ret ⟨⟨tv_mk (by omega) (by rw [hdp]; omega) rfl ?_ (by rw [hdp]; exact h3.lv.va) (by simp) (by simp) (by omega) (by omega) h3.lv.ok, by show sortOf ((6 : Nat) : Int) = [98]; decide⟩, rfl, by omega, wd_lt (by rw [h2]; decide), ?_⟩
    · rw [h3.lv.so]; show (Lib.trimLeftB _ 115 == []) = true; rw [trim_all]; rfl
    · refine ⟨H.top i, word_at H h2 (.inr rfl), fun _ => h3.od, kids_no fun u hu => ?_⟩
      exact sort_six (h3.lv.me u hu) (by decide)
/-! ### Items -/
theorem tq_funcRest {i i0 : Nat} {x : Str} {l : List T} (hi : i0 < i) (h0 : wd ts i0 = kFunc) (hx : isNameS x = true) (hx2 : x.length ≤ 4000) (hl : VL 112 0 i l) (hl2 : l.length ≤ 1501) (hb : HB s ts 0 b) : Tq i (fun t j => NS s ts 105 0 i0 j t) (funcRest ts b (tk ts i0).off x l) :=
  tq_bnd (tq_take _) fun _ j ⟨h1, _, _⟩ => by
    subst h1
    refine tq_bnd (tq_width H) fun y j ⟨h1, h2⟩ => ?_
    subst h1
    refine tq_bnd (hb _) fun k j hk => ?_
    have hw := word_at H h0 (.inl rfl)
    have l1 := H.off i0 (i + 1 + 1) (by omega) hk.hi
    have hlt := hk.lt
    have hall : ∀ t ∈ l, t.kind ≠ 6 := fun u hu => sort_six (hl.me u hu) (by decide)
    refine tq_ret ⟨⟨tv_mk (by omega) (by decide) ?_ ?_ ?_ hx2 (by simp) (by omega) (by simp; omega) ?_, by show sortOf ((4 : Nat) : Int) = [105]; decide⟩, rfl, by omega, wd_lt (by rw [h0]; decide), okT_mk H hw (by omega) (kids_app (kids_no hall) (kids_one (by rw [hk.at_]; exact l1) hk.ord))⟩
    · simp [fieldsG, fieldL, bitU, textG, numG, widthG, hx]; omega
    · rw [gs_app, sortsS_append, hl.so, so1 hk.nv]
      show (Lib.trimLeftB _ 112 == [98]) = true
      rw [trim_rep]; rfl
    · rw [gs_app, validL_app]
      show (validL 0 (gs l) && validL 0 (gs [k])) = true
      rw [hl.va, va1 hk.nv]; rfl
    · rw [gs_app]; exact okL_app _ _ hl.ok (ok1 hk.nv)
theorem tq_item {i : Nat} (hb : HB s ts 0 b) : Tq i (fun t j => NS s ts 105 0 i j t ∨ NS s ts 98 0 (i + 1) j t) (item ts b) := by
  have hlen := H.len
  refine tq_ite (fun hw => ?_) fun _ => tq_ite (fun hw => ?_) fun _ => tq_ite (fun hw => ?_) fun _ => tq_fail
  · refine tq_bnd (tq_begin _ _) fun n j ⟨h1, h2, h3⟩ => ?_
    subst h1 h3
    refine tq_bnd (tq_name H) fun x j ⟨h1, _, _, h4, h5⟩ => ?_
    subst h1
    refine tq_bnd (tq_take _) fun _ j ⟨h1, _, _⟩ => ?_
    subst h1
    refine tq_bnd (tq_typedNames H 3 102 (.inl ⟨rfl, rfl⟩) 0 (by omega)) fun l j ⟨h6, h7, h8⟩ => tq_bnd (tq_take _) fun _ j' ⟨h9, h10, _⟩ => ?_
    subst h9
    have hj : j < ts.length := wd_lt (by rw [h10]; decide)
    have hle := h7.le
    have hw1 := word_at H h2 (.inl rfl)
    refine tq_ret (.inl ⟨⟨tv_mk (by omega) (by decide) ?_ ?_ h7.va h5 (by simp) (by omega) (by omega) h7.ok, by show sortOf ((2 : Nat) : Int) = [105]; decide⟩, rfl, by omega, wd_lt (by rw [h2]; decide), okT_mk H hw1 (by omega) (kids_no fun u hu => sort_six (h7.me u hu) (by decide))⟩)
    · simp [fieldsG, fieldL, bitU, textG, numG, widthG, h4]
    · rw [h7.so]
      show (List.replicate l.length 102 != [] && Lib.trimLeftB _ 102 == []) = true
      rw [trim_all]
      cases l with
      | nil => exact absurd rfl h8
      | cons a r => rfl
  · refine tq_bnd (tq_begin _ _) fun n j ⟨h1, h2, h3⟩ => ?_
    subst h1 h3
    refine tq_bnd (tq_name H) fun x j ⟨h1, _, _, h4, h5⟩ => ?_
    subst h1
    refine tq_bnd (tq_take _) fun _ j ⟨h1, _, _⟩ => ?_
    subst h1
    refine tq_ite (fun _ => ?_) fun _ => ?_
    · exact tq_weak (tq_funcRest H (i0 := i) (by omega) h2 h4 h5 (VL.nil _ _ _) (by simp) hb) fun t j h => .inl h
    · refine tq_bnd (tq_typedNames H 5 112 (.inr ⟨rfl, rfl⟩) 0 (by omega)) fun l j ⟨h6, h7, h8⟩ => ?_
      intro ds a s' k
      have hj : l.length ≤ 1501 := by
        have k2 := k
        unfold funcRest at k2
        cases hm : take ts pRP ⟨j, ds⟩ with
        | out q s1 => rw [bnd_out hm] at k2; cases k2
        | ok q s1 =>
          have := (tq_take pRP _ _ _ hm).2.1
          have hj : j < ts.length := wd_lt (by rw [this]; decide)
          have := h7.le
          omega
      exact .inl (tq_funcRest H (i0 := i) (by omega) h2 h4 h5 h7 hj hb _ _ _ k)
  · refine tq_bnd (tq_take _) fun _ j ⟨h1, _, _⟩ => ?_
    subst h1
    exact tq_weak (hb _) fun t j h => .inr h
omit H in
theorem sort_98 {k : Nat} (h : sortOf (k : Int) = [98]) : k = 6 := by
  unfold sortOf at h
  split at h
  · rename_i h1
    have h2 := h1.1
    unfold isKindG at h2
    simp only [Bool.and_eq_true, decide_eq_true_eq] at h2
    exact sortL_6 k (by omega) h
  · exact absurd h (by decide)
def IQ (s : Str) (ts : List PTok) (l' : List T) (j : Nat) : Prop := (∃ l i t, l' = l ++ [t] ∧ VS s ts 105 0 i l ∧ NS s ts 98 0 i j t) ∨ 2 * ts.length + 2 ≤ j
theorem tq_items (hb : HB s ts 0 b) (hbm : Mv 1 b) : ∀ g i l, VS s ts 105 0 i l → 2 * ts.length + 2 ≤ g + i → Tq i (IQ s ts) (items ts (item ts b) g l)
  | 0, i, l, k, h => tq_ret (.inr (by omega))
  | g + 1, i, l, k, h => fun ds a s' r => by
    have mvi := mv_item ts hbm
    unfold items at r
    cases ha : attempt (item ts b) (if wd ts i = kParse then 0 else 1) ⟨i, ds⟩ with
    | out q s1 => rw [bnd_out ha] at r; cases r
    | ok o s1 =>
      rw [bnd_ok ha] at r
      cases o with
      | some t =>
        have ht : NS s ts 105 0 i s1.nx t ∨ NS s ts 98 0 (i + 1) s1.nx t := by
          generalize (if wd ts i = kParse then 0 else 1) = most at ha
          unfold attempt at ha
          split at ha
          · rename_i h1
            cases ha
            exact tq_item H hb _ _ _ h1
          · split at ha <;> cases ha
        simp only at r
        rcases ht with ht | ht
        · rw [if_neg (sort_six ht.nv.so (by decide))] at r
          exact tq_items hb hbm g s1.nx _ (VS.snoc H k ht) (by have := ht.lt; omega) s1.ds _ _ r
        · rw [if_pos (sort_98 ht.nv.so)] at r
          cases r
          exact .inl ⟨l, i + 1, t, rfl, k.mono (by omega), ht⟩
      | none =>
        simp only at r
        have ho : ∃ q, item ts b ⟨i, ds⟩ = .out q s1 := by
          generalize (if wd ts i = kParse then 0 else 1) = most at ha
          unfold attempt at ha
          split at ha
          · cases ha
          · rename_i h1
            split at ha
            · cases ha; exact ⟨_, h1⟩
            · cases ha
        obtain ⟨q, ho⟩ := ho
        cases hk : skipItem ts ts.length s1 with
        | out q s2 => rw [bnd_out hk] at r; cases r
        | ok u s2 =>
          rw [bnd_ok hk] at r
          have h3 : i + 1 ≤ s2.nx := by
            have m1 := (mv_skipItem ts _).ok _ _ _ hk
            rcases item_out ts hbm ho with h1 | ⟨h1, h2⟩
            · simp at h1; omega
            · simp only at h1
              rw [← show s1.nx = i from h1] at h2
              have := skipItem_ok ts hk h2
              omega
          exact tq_items hb hbm g s2.nx _ (k.mono (by omega)) (by omega) s2.ds _ _ r
/-- What a program is: a valid tree, its items in order. -/
def PQ (s : Str) (t : T) : Prop := TV 0 t ∧ t.kind = 1 ∧ t.at_ = 0 ∧ OrdL s (-1) t.kids
theorem tq_program : Tq 0 (fun t _ => PQ s t) (program ts) := by
  have hlen := H.len
  have hb : HB s ts 0 (block ts 10) := tq_block H 10 (by omega)
  refine tq_bnd (tq_items H hb (mv_block ts 10) _ 0 [] (VS.nil _ _ _) (by omega)) fun l' j h => tq_bnd (tq_take _) fun _ j' ⟨_, h2, _⟩ => ?_
  have hj : j < ts.length := wd_lt (by rw [h2]; decide)
  rcases h with ⟨l, i, t, rfl, hl, ht⟩ | h
  · have hle := hl.lv.le
    have hlt := ht.lt
    refine tq_ret ⟨tv_mk (by omega) (by decide) rfl ?_ ?_ (by simp) (by simp) (by omega) (by simp; omega) ?_, rfl, rfl, hl.od.snoc (by rw [ht.at_]; exact hl.la i (Nat.le_refl _) ht.hi) ht.ord⟩
    · rw [gs_app, sortsS_append, hl.lv.so, so1 ht.nv]
      show (Lib.trimLeftB _ 105 == [98]) = true
      rw [trim_rep]; rfl
    · rw [gs_app, validL_app]
      show (validL 0 (gs l) && validL 0 (gs [t])) = true
      rw [hl.lv.va, va1 ht.nv]; rfl
    · rw [gs_app]; exact okL_app _ _ hl.lv.ok (ok1 ht.nv)
  · omega
end
end Go.Proofs.YtmkehecapjdfdaaGreatDoor

/- What Parse answers: a valid tree in order, or at most 20 diagnostics. -/
namespace Go.Proofs.YtmkehecapjdfdaaGreatDoor
open Go

/-! ### The tokens of a source -/
theorem cov_get {s : Str} : ∀ (l : List Tok) (a : Nat), Cov s a l → ∀ i (h : i < l.length), a ≤ l[i].off ∧ textOf l[i] ≠ [] ∧ l[i].off + (textOf l[i]).length ≤ s.length ∧ (s.drop l[i].off).take (textOf l[i]).length = textOf l[i]
  | [], _, _, i, h => by simp at h
  | t :: r, a, hc, i, h => by
    obtain ⟨c1, c2, c3, c4, _, c6⟩ := hc
    match i, h with
    | 0, _ => exact ⟨by show a ≤ t.off; omega, c1, c3, c4⟩
    | i + 1, h =>
      obtain ⟨k1, k2⟩ := cov_get r _ c6 i (by simpa using h)
      exact ⟨by show a ≤ (r[i]'(by simpa using h)).off; omega, k2⟩
theorem cov_lt {s : Str} : ∀ (l : List Tok) (a : Nat), Cov s a l → ∀ i j (h : j < l.length) (hij : i < j), (l[i]'(by omega)).off < l[j].off
  | [], _, _, i, j, h, _ => by simp at h
  | t :: r, a, hc, i, j, h, hij => by
    obtain ⟨c1, c2, c3, c4, _, c6⟩ := hc
    match j, h, hij with
    | j + 1, h, hij =>
      match i, hij with
      | 0, _ =>
        have := (cov_get r _ c6 j (by simpa using h)).1
        have := List.length_pos_iff.2 c1
        show t.off < (r[j]'(by simpa using h)).off
        omega
      | i + 1, hij => exact cov_lt r _ c6 i j (by simpa using h) (by omega)
theorem lex_one {x r : Str} {v : Nat × Str × Nat} (hx : x ≠ []) (h1 : tokLen (x ++ r) = x.length) (h2 : readT x = (v, 0)) (hl : x.length ≤ 4000) : lexS x = ([mkTok v 0], 0, 0) := by
  have h3 : tokLen x = x.length := by have := tok_swap h1 hx (r' := []) (Or.inl rfl); simpa using this
  have hb : pcB [⟨x, [], v⟩] = x := by simp [pcB]
  have := lexS_pieces [⟨x, [], v⟩] (by simp [okP, fitB, pcB, hx, h2, h3, gapLen, gapC]) (by rw [hb]; exact tok_gap (by rw [h3]; simpa using hx)) (by rw [hb]; exact hl) (by simp)
  rw [hb] at this
  exact this
theorem isKey_no {b : UInt8} {l : Str} (h : isLet b = false) : isKey (b :: l) = false := by
  unfold isKey
  rw [Bool.eq_false_iff]
  intro hc
  have hm : (b :: l) ∈ keyWords := by simpa using hc
  have key : ∀ w ∈ keyWords, ∃ c r, w = c :: r ∧ isLet c = true := by
    intro w hw
    have : keyWords.all (fun w => match w with | [] => false | c :: _ => isLet c) = true := by decide
    have := List.all_eq_true.1 this w hw
    match w, this with
    | c :: r, h => exact ⟨c, r, rfl, h⟩
  obtain ⟨c, r, e, hc⟩ := key _ hm
  injection e with e _
  rw [e, hc] at h
  cases h
theorem ptoks_at {l : List Tok} {E i : Nat} (h : i < l.length) : wd (ptoks l E) i = wordT l[i] ∧ tk (ptoks l E) i = l[i] := by
  unfold wd tk ptoks
  rw [List.getElem?_append_left (by simpa using h)]
  simp [List.getElem?_map, List.getElem?_eq_getElem h]
theorem ptoks_end {l : List Tok} {E : Nat} : wd (ptoks l E) l.length = wEnd ∧ tk (ptoks l E) l.length = ⟨0, [], 0, E⟩ := by
  unfold wd tk ptoks
  rw [List.getElem?_append_right (by simp)]
  simp
theorem ptoks_past {l : List Tok} {E i : Nat} (h : l.length < i) : wd (ptoks l E) i = [] ∧ tk (ptoks l E) i = ⟨0, [], 0, 0⟩ := by
  unfold wd tk ptoks
  rw [List.getElem?_eq_none (by simp; omega)]
  exact ⟨rfl, rfl⟩
/-- The word of a token that can be read. -/
theorem word_kinds {t : Tok} (h : ∃ x r, x ≠ [] ∧ tokLen (x ++ r) = x.length ∧ readT x = ((t.kind, t.text, t.num), 0)) :
    (wordT t = wName ∧ t.kind = 1 ∧ textOf t = t.text ∧ t.text.length ≤ 12 ∧ t.num = 0 ∧ ∃ r, t.text ≠ [] ∧ tokLen (t.text ++ r) = t.text.length ∧ readT t.text = ((1, t.text, 0), 0)) ∨ (wordT t = wNumber ∧ t.kind = 2) ∨ (wordT t = wType ∧ t.kind = 3 ∧ 1 ≤ t.num ∧ t.num ≤ 64) ∨
      (wordT t = t.text ∧ textOf t = t.text ∧ (isKey t.text = true ∨ ∃ b l, t.text = b :: l ∧ isLet b = false)) := by
  obtain ⟨x, r, hx, hl, hr⟩ := h
  rcases read_kinds hx hr with ⟨e, _, h12, _⟩ | ⟨u, e, _⟩ | ⟨e, hw, _⟩ | ⟨e, b, l, rfl, hb, _⟩
  · simp only [Prod.mk.injEq] at e
    obtain ⟨e1, e2, e3⟩ := e
    have ht : textOf t = t.text := by unfold textOf textV; simp only [if_neg (show ¬ t.kind = 2 by omega), if_neg (show ¬ t.kind = 3 by omega)]
    cases hk : isKey t.text with
    | false =>
      left
      refine ⟨by unfold wordT; rw [if_neg (by omega), if_neg (by omega), if_pos ⟨e1, hk⟩], e1, ht, by rw [e2]; exact h12, e3, r, by rw [e2]; exact hx, by rw [e2]; exact hl, ?_⟩
      rw [e2, hr, e1, e2, e3]
    | true =>
      right; right; right
      exact ⟨by unfold wordT; rw [if_neg (by omega), if_neg (by omega), if_neg (by rw [hk]; simp)], ht, .inl rfl⟩
  · simp only [Prod.mk.injEq] at e
    right; left
    exact ⟨by unfold wordT; rw [if_pos e.1], e.1⟩
  · simp only [Prod.mk.injEq] at e
    right; right; left
    have := widthOf_le x
    exact ⟨by unfold wordT; rw [if_neg (by omega), if_pos e.1], e.1, by omega, by omega⟩
  · simp only [Prod.mk.injEq] at e
    right; right; right
    exact ⟨by unfold wordT; rw [if_neg (by omega), if_neg (by omega), if_neg (by omega)], by unfold textOf textV; simp only [if_neg (show ¬ t.kind = 2 by omega), if_neg (show ¬ t.kind = 3 by omega)], .inr ⟨b, l, e.2.1, hb⟩⟩
theorem ti_of {s : Str} {l : List Tok} {x : Nat} (h : lexS s = (l, 0, x)) : TI s (ptoks l s.length) := by
  obtain ⟨h1, h2, h3, _⟩ := lexS_ok h
  have hrd := lexS_rd h
  have hc := h3.cov
  have hg := fun i (hi : i < l.length) => cov_get l 0 hc i hi
  have plen : (ptoks l s.length).length = l.length + 1 := by unfold ptoks; simp
  have there : ∀ i, wd (ptoks l s.length) i ≠ [] → wd (ptoks l s.length) i ≠ wEnd → i < l.length := fun i a b => by
    rcases Nat.lt_trichotomy i l.length with hi | hi | hi
    · exact hi
    · subst hi; exact absurd ptoks_end.1 b
    · exact absurd (ptoks_past hi).1 a
  have pre : ∀ i (hi : i < l.length), textOf l[i] <+: s.drop l[i].off := fun i hi => by
    rw [← (hg i hi).2.2.2]
    exact List.take_prefix _ _
  refine ⟨by rw [plen]; omega, fun i hw => ?_, fun i hw => ?_, fun i => ?_, fun i j hij hj => ?_, fun i => ?_, fun i hw => ?_, fun i hw => ?_⟩
  · have hi := there i (by rw [hw]; decide) (by rw [hw]; decide)
    rw [(ptoks_at hi).1] at hw
    rw [(ptoks_at hi).2]
    rcases word_kinds (hrd _ (List.getElem_mem hi)) with ⟨_, hk, _, h12, _, r, hx, hl, hr⟩ | ⟨e, _⟩ | ⟨e, _⟩ | ⟨e, _, hk | ⟨b, r, e2, hb⟩⟩
    · refine ⟨?_, by omega⟩
      unfold isNameS
      rw [lex_one hx hl hr (by omega)]
      have hkey : isKey l[i].text = false := by
        cases hkk : isKey l[i].text with
        | false => rfl
        | true =>
          unfold wordT at hw
          rw [if_neg (by omega), if_neg (by omega), if_neg (by rw [hkk]; simp)] at hw
          rw [hw] at hkk
          exact absurd hkk (by decide)
      show (wordT (mkTok (1, l[i].text, 0) 0) == wName && l[i].text == l[i].text) = true
      have : wordT (mkTok (1, l[i].text, 0) 0) = wName := by unfold wordT mkTok; simp [hkey]
      rw [this]; simp
    · rw [e] at hw; exact absurd hw (by decide)
    · rw [e] at hw; exact absurd hw (by decide)
    · rw [e] at hw; rw [hw] at hk; exact absurd hk (by decide)
    · rw [e, e2] at hw
      injection hw with hw _
      subst hw
      exact absurd hb (by decide)
  · have hi := there i (by rw [hw]; decide) (by rw [hw]; decide)
    rw [(ptoks_at hi).1] at hw
    rw [(ptoks_at hi).2]
    rcases word_kinds (hrd _ (List.getElem_mem hi)) with ⟨e, _⟩ | ⟨e, _⟩ | ⟨_, _, e1, e2⟩ | ⟨e, _, hk | ⟨b, r, e2, hb⟩⟩
    · rw [e] at hw; exact absurd hw (by decide)
    · rw [e] at hw; exact absurd hw (by decide)
    · exact ⟨e1, e2⟩
    · rw [e] at hw; rw [hw] at hk; exact absurd hk (by decide)
    · rw [e, e2] at hw
      injection hw with hw _
      subst hw
      exact absurd hb (by decide)
  · rcases Nat.lt_trichotomy i l.length with hi | hi | hi
    · rw [(ptoks_at hi).2]
      obtain ⟨y, _, hy, _, hy2⟩ := hrd _ (List.getElem_mem hi)
      have := (read_text hy hy2).2.1
      simp only at this
      have hm : M64 = 18446744073709551615 := by decide
      omega
    · subst hi; rw [ptoks_end.2]; show (0 : Nat) < 18446744073709551616; decide
    · rw [(ptoks_past hi).2]; show (0 : Nat) < 18446744073709551616; decide
  · rw [plen] at hj
    rw [(ptoks_at (show i < l.length by omega)).2]
    rcases Nat.lt_or_ge j l.length with hj2 | hj2
    · rw [(ptoks_at hj2).2]
      exact cov_lt l 0 hc i j hj2 hij
    · have : j = l.length := by omega
      subst this
      rw [ptoks_end.2]
      have := hg i hij
      have := List.length_pos_iff.2 this.2.1
      show l[i].off < s.length
      omega
  · rcases Nat.lt_trichotomy i l.length with hi | hi | hi
    · rw [(ptoks_at hi).2]; have := (hg i hi).2.2.1; omega
    · subst hi; rw [ptoks_end.2]; exact Nat.le_refl _
    · rw [(ptoks_past hi).2]; exact Nat.zero_le _
  · have hi := there i (by rw [hw]; decide) (by rw [hw]; decide)
    rw [(ptoks_at hi).1] at hw
    rw [(ptoks_at hi).2]
    rcases word_kinds (hrd _ (List.getElem_mem hi)) with ⟨_, _, e, _⟩ | ⟨e, _⟩ | ⟨e, _⟩ | ⟨_, e, _⟩
    · rw [← e]; exact pre i hi
    · rw [e] at hw; exact absurd hw (by decide)
    · rw [e] at hw; exact absurd hw (by decide)
    · rw [← e]; exact pre i hi
  · have hi := there i (by rintro e; rw [e] at hw; exact absurd hw (by decide)) (by rintro e; rw [e] at hw; exact absurd hw (by decide))
    rw [(ptoks_at hi).1] at hw ⊢
    rw [(ptoks_at hi).2]
    rcases word_kinds (hrd _ (List.getElem_mem hi)) with ⟨e, _⟩ | ⟨e, _⟩ | ⟨e, _⟩ | ⟨e1, e, _⟩
    · rw [e] at hw; exact absurd hw (by decide)
    · rw [e] at hw; exact absurd hw (by decide)
    · rw [e] at hw; exact absurd hw (by decide)
    · rw [e1, ← e]; exact pre i hi

/-! ### At most 20 diagnostics -/
def D20 {α : Type} (m : PM α) : Prop := ∀ s, s.ds.length < 20 → (∀ a s', m s = .ok a s' → s'.ds.length < 20) ∧ ∀ l s', m s = .out l s' → s'.ds ≠ [] ∧ s'.ds.length ≤ 20 ∧ (l < 2 → s'.ds.length < 20)
theorem d_ret {α : Type} (a : α) : D20 (ret a) := fun s hs => ⟨(fun b s' h => by cases h; exact hs), fun l s' h => by cases h⟩
theorem d_bnd {α β : Type} {m : PM α} {f : α → PM β} (h : D20 m) (g : ∀ a, D20 (f a)) : D20 (bnd m f) := fun s hs => by
  cases hm : m s with
  | ok a s1 => rw [bnd_ok hm]; exact g a s1 ((h s hs).1 _ _ hm)
  | out l s1 => rw [bnd_out hm]; exact ⟨(fun a s' e => by cases e), fun l s' e => by cases e; exact (h s hs).2 _ _ hm⟩
theorem d_fail {α : Type} (ts : List PTok) (e : Nat) : D20 (fail (α := α) ts e) := fun s hs => ⟨(fun b s' h => by cases h), fun l s' h => by
  unfold fail at h
  injection h with h1 h2
  subst h2
  refine ⟨by simp, by simp; omega, fun hl => ?_⟩
  rw [← h1] at hl
  split at hl
  · omega
  · simp; omega⟩
theorem d_take (ts : List PTok) (w : Str) : D20 (take ts w) := fun s hs => by
  unfold take
  split
  · exact ⟨(fun a s' e => by cases e; exact hs), fun l s' e => by cases e⟩
  · exact d_fail ts 10 s hs
theorem d_typed (ts : List PTok) (k : Nat) (h : D20 (typedName ts k)) : ∀ g l, D20 (typedMore ts k g l)
  | 0, l => d_ret l
  | g + 1, l => fun s hs => by
    unfold typedMore
    split
    · exact d_bnd (d_take ts _) (fun _ => d_bnd h fun t => d_typed ts k h g _) s hs
    · exact d_ret l s hs
theorem d_args (ts : List PTok) (x : PM T) (h : D20 x) : ∀ g l, D20 (argsMore ts x g l)
  | 0, l => d_ret l
  | g + 1, l => fun s hs => by
    unfold argsMore
    split
    · exact d_ret l s hs
    split
    · exact d_bnd h (fun t => d_args ts x h g _) s hs
    · exact d_bnd (d_take ts _) (fun _ => d_bnd h fun t => d_args ts x h g _) s hs
theorem d_att {m : PM T} {most : Nat} (h : D20 m) (hm : most ≤ 1) {s : St} (hs : s.ds.length < 20) : (∀ o s', attempt m most s = .ok o s' → s'.ds.length < 20 ∧ (o = none → s'.ds ≠ [])) ∧ ∀ l s', attempt m most s = .out l s' → s'.ds ≠ [] ∧ s'.ds.length ≤ 20 ∧ (l < 2 → s'.ds.length < 20) := by
  unfold attempt
  cases hm2 : m s with
  | ok t s1 => exact ⟨(fun o s' e => by cases e; exact ⟨(h s hs).1 _ _ hm2, fun e => by cases e⟩), fun l s' e => by cases e⟩
  | out l s1 =>
    have h2 := (h s hs).2 _ _ hm2
    simp only
    split
    · exact ⟨(fun o s' e => by cases e; exact ⟨h2.2.2 (by omega), fun _ => h2.1⟩), fun l s' e => by cases e⟩
    · exact ⟨(fun o s' e => by cases e), fun l s' e => by cases e; exact h2⟩
theorem skip_same (ts : List PTok) : ∀ g o s, (∀ a s', skipGo ts g o s = .ok a s' → s'.ds = s.ds) ∧ ∀ l s', skipGo ts g o s = .out l s' → s'.ds = s.ds ∧ l = 1
  | 0, o, s => ⟨(fun a s' e => by cases e), fun l s' e => by cases e; exact ⟨rfl, rfl⟩⟩
  | g + 1, o, s => by
    have k := skip_same ts g
    constructor
    · intro a s' e
      simp only [skipGo] at e
      (repeat' split at e) <;> first | (cases e; done) | (cases e; rfl) | (have e2 := (k _ _).1 _ _ e; exact e2)
    · intro l s' e
      simp only [skipGo] at e
      (repeat' split at e) <;> first | (cases e; done) | (cases e; exact ⟨rfl, rfl⟩) | (have e2 := (k _ _).2 _ _ e; exact e2)
theorem d_stmts (ts : List PTok) (m : PM T) (h : D20 m) : ∀ g l, D20 (stmts ts m g l)
  | 0, l => d_ret l
  | g + 1, l => fun s hs => by
    unfold stmts
    split
    · exact d_ret l s hs
    · have ha := d_att h (most := 0) (by omega) hs
      cases hm : attempt m 0 s with
      | out q s1 => rw [bnd_out hm]; exact ⟨(fun a s' e => by cases e), fun l s' e => by cases e; exact ha.2 _ _ hm⟩
      | ok o s1 =>
        rw [bnd_ok hm]
        have h1 := ha.1 _ _ hm
        cases o with
        | some t => exact d_stmts ts m h g _ s1 h1.1
        | none =>
          simp only
          cases hk : skipStatement ts s1 with
          | out q s2 =>
            rw [bnd_out hk]
            have e2 := (skip_same ts _ _ _).2 _ _ hk
            exact ⟨(fun a s' e => by cases e), fun l s' e => by cases e; rw [e2.1]; exact ⟨h1.2 rfl, by omega, fun _ => h1.1⟩⟩
          | ok u s2 =>
            rw [bnd_ok hk]
            have e2 := (skip_same ts _ _ _).1 _ _ hk
            exact d_stmts ts m h g l s2 (by rw [e2]; exact h1.1)
theorem d_clo (ts : List PTok) : Clo ts ts (fun {α} (_ : α → α → Prop) (m _ : PM α) => D20 m) where
  ret := fun _ => d_ret _
  bnd := fun h g => d_bnd h fun a => g a a (Rf.rf a)
  take := fun w _ => d_take ts w
  fail := d_fail ts 10
  sel := fun {α} {_} F F' h s hs => by
    rcases h (wd ts s.nx) with h | ⟨_, h, _⟩
    · exact h s hs
    · have e := d_fail (α := α) ts 11 s hs
      rw [← h] at e
      exact e
  off := fun F F' h s hs => h _ 0 s hs
  typed := fun k l _ _ h => d_typed ts k h _ _
  args := fun e _ _ _ h => d_args ts e h _ _
  stmts := fun m _ _ _ h => d_stmts ts m h _ _
theorem d_skipItem (ts : List PTok) : ∀ g s, (∀ a s', skipItem ts g s = .ok a s' → s'.ds = s.ds) ∧ ∀ l s', skipItem ts g s = .out l s' → s'.ds = s.ds
  | 0, s => ⟨(fun a s' e => by cases e), fun l s' e => by cases e; rfl⟩
  | g + 1, s => by
    have k := d_skipItem ts g
    constructor
    · intro a s' e
      simp only [skipItem] at e
      (repeat' split at e) <;> first | (cases e; done) | (cases e; rfl) | (have e2 := (k _).1 _ _ e; exact e2)
    · intro l s' e
      simp only [skipItem] at e
      (repeat' split at e) <;> first | (cases e; done) | (cases e; rfl) | (have e2 := (k _).2 _ _ e; exact e2)
/-- As D20, but where it is left by 2, whatever the diagnostics. -/
theorem d_items (ts : List PTok) (m : PM T) (h : D20 m) : ∀ g l s, s.ds.length < 20 → (∀ a s', items ts m g l s = .ok a s' → s'.ds.length < 20) ∧ ∀ q s', items ts m g l s = .out q s' → s'.ds ≠ [] ∧ s'.ds.length ≤ 20
  | 0, l, s, hs => ⟨(fun a s' e => by cases e; exact hs), fun q s' e => by cases e⟩
  | g + 1, l, s, hs => by
    unfold items
    have ha := d_att h (most := if wd ts s.nx = kParse then 0 else 1) (by split <;> omega) hs
    cases hm : attempt m (if wd ts s.nx = kParse then 0 else 1) s with
    | out q s1 => rw [bnd_out hm]; exact ⟨(fun a s' e => by cases e), fun l s' e => by cases e; exact ⟨(ha.2 _ _ hm).1, (ha.2 _ _ hm).2.1⟩⟩
    | ok o s1 =>
      rw [bnd_ok hm]
      have h1 := ha.1 _ _ hm
      cases o with
      | some t =>
        simp only
        split
        · exact ⟨(fun a s' e => by cases e; exact h1.1), fun q s' e => by cases e⟩
        · exact d_items ts m h g _ s1 h1.1
      | none =>
        simp only
        cases hk : skipItem ts ts.length s1 with
        | out q s2 =>
          rw [bnd_out hk]
          have e2 := (d_skipItem ts _ _).2 _ _ hk
          exact ⟨(fun a s' e => by cases e), fun l s' e => by cases e; rw [e2]; exact ⟨h1.2 rfl, by omega⟩⟩
        | ok u s2 =>
          rw [bnd_ok hk]
          have e2 := (d_skipItem ts _ _).1 _ _ hk
          exact d_items ts m h g l s2 (by rw [e2]; exact h1.1)
theorem d_program (ts : List PTok) (s : St) (hs : s.ds.length < 20) : (∀ a s', program ts s = .ok a s' → s'.ds.length < 20) ∧ ∀ q s', program ts s = .out q s' → s'.ds ≠ [] ∧ s'.ds.length ≤ 20 := by
  have hi := d_items ts _ (c_item (b' := block ts 10) (d_clo ts) (c_block (d_clo ts) 10)) (2 * ts.length + 2) [] s hs
  unfold program
  cases hm : items ts (item ts (block ts 10)) (2 * ts.length + 2) [] s with
  | out q s1 => rw [bnd_out hm]; exact ⟨(fun a s' e => by cases e), fun l s' e => by cases e; exact hi.2 _ _ hm⟩
  | ok l s1 =>
    rw [bnd_ok hm]
    have := d_bnd (d_take ts wEnd) (fun _ => d_ret (T.mk 1 [] [] 0 0 0 l)) s1 (hi.1 _ _ hm)
    exact ⟨this.1, fun q s' e => ⟨(this.2 _ _ e).1, (this.2 _ _ e).2.1⟩⟩
/-- What Parse answers. -/
theorem parse_tree (s : Str) : ((parseS s).2 ≠ [] ∧ (parseS s).1 = T.zero ∧ (parseS s).2.length ≤ 20) ∨ ((parseS s).2 = [] ∧ PQ s (parseS s).1) := by
  unfold parseS
  split
  · rename_i l x hx
    have H := ti_of hx
    have hd := d_program (ptoks l s.length) ⟨0, []⟩ (by simp)
    cases hp : program (ptoks l s.length) ⟨0, []⟩ with
    | ok t s' =>
      have ha : attempt (program (ptoks l s.length)) 2 ⟨0, []⟩ = .ok (some t) s' := by unfold attempt; rw [hp]
      rw [ha]
      simp only
      split
      · rename_i h0
        exact .inr ⟨rfl, tq_program H _ _ _ hp⟩
      · rename_i h0
        exact .inl ⟨h0, rfl, Nat.le_of_lt (hd.1 _ _ hp)⟩
    | out q s' =>
      have h2 := hd.2 _ _ hp
      have ha : attempt (program (ptoks l s.length)) 2 ⟨0, []⟩ = .ok none s' ∨ attempt (program (ptoks l s.length)) 2 ⟨0, []⟩ = .out q s' := by
        unfold attempt
        rw [hp]
        simp only
        split
        · exact .inl rfl
        · exact .inr rfl
      rcases ha with ha | ha <;> (rw [ha]; exact .inl ⟨h2.1, rfl, h2.2⟩)
  · exact .inl ⟨by simp, rfl, by simp⟩
end Go.Proofs.YtmkehecapjdfdaaGreatDoor
