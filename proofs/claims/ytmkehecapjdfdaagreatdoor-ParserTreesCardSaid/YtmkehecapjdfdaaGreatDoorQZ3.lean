/- Joined texts: PBnd, PTrT, PTrX. -/
import Derived.Test.YtmkehecapjdfdaaGreatDoorQB1
import Derived.Test.YtmkehecapjdfdaaGreatDoorQV4
import Derived.Test.YtmkehecapjdfdaaGreatDoorQZ2
import Derived.Test.YtmkehecapjdfdaaGreatDoorQV6
import Derived.Deep.RegionHeld3
import Derived.IntWalk
import Derived.ChangeSlices
import Derived.Test.YtmkehecapjdfdaaGreatDoorQF
import Derived.Test.YtmkehecapjdfdaaGreatDoorCards
import Derived.Stop.Joined
import Derived.ChangeMaps5

/- How high and how wide the trees are that are read. -/
namespace Go.Proofs.YtmkehecapjdfdaaGreatDoor
open Go

def Ho {α : Type} (P : α → Prop) (m : PM α) : Prop := ∀ s a s', m s = .ok a s' → P a
theorem ho_ret {α : Type} {P : α → Prop} {a : α} (h : P a) : Ho P (ret a) := fun s b s' e => by cases e; exact h
theorem ho_bnd {α β : Type} {P : α → Prop} {Q : β → Prop} {m : PM α} {f : α → PM β} (h : Ho P m) (g : ∀ a, P a → Ho Q (f a)) : Ho Q (bnd m f) := fun s b s' e => by
  cases hm : m s with
  | ok a s1 => rw [bnd_ok hm] at e; exact g a (h _ _ _ hm) _ _ _ e
  | out l s1 => rw [bnd_out hm] at e; cases e
theorem ho_then {α β : Type} {Q : β → Prop} {m : PM α} {f : α → PM β} (g : ∀ a, Ho Q (f a)) : Ho Q (bnd m f) := ho_bnd (P := fun _ => True) (fun _ _ _ _ => trivial) fun a _ => g a
theorem ho_ite {α : Type} {Q : α → Prop} {c : St → Prop} [∀ s, Decidable (c s)] {m n : PM α} (hm : Ho Q m) (hn : Ho Q n) : Ho Q (fun s => if c s then m s else n s) := fun s a s' e => by
  by_cases hc : c s
  · simp only [if_pos hc] at e; exact hm _ _ _ e
  · simp only [if_neg hc] at e; exact hn _ _ _ e
theorem ho_fail {α : Type} {Q : α → Prop} (ts : List PTok) (e : Nat) : Ho Q (fail ts e) := fun s a s' h => by cases h
/-- A tree of at most this height, all rows of it of at most 100,000. -/
def Hh (h : Nat) (t : T) : Prop := htT t ≤ h ∧ fewT t
def HL (h n : Nat) (l : List T) : Prop := htL l ≤ h ∧ fewTs l ∧ l.length ≤ n
theorem Hh.le {h k : Nat} {t : T} (a : Hh h t) (b : h ≤ k) : Hh k t := ⟨Nat.le_trans a.1 b, a.2⟩
theorem HL.nil (h n : Nat) : HL h n [] := ⟨Nat.zero_le _, trivial, Nat.zero_le _⟩
theorem htL_app : ∀ a b : List T, htL (a ++ b) = max (htL a) (htL b)
  | [], b => by simp [htL]
  | t :: r, b => by simp [htL, htL_app r b, Nat.max_assoc]
theorem fewTs_app : ∀ a b : List T, fewTs a → fewTs b → fewTs (a ++ b)
  | [], _, _, h => h
  | _ :: r, b, ha, hb => ⟨ha.1, fewTs_app r b ha.2 hb⟩
theorem HL.snoc {h n : Nat} {l : List T} {t : T} (a : HL h n l) (b : Hh h t) : HL h (n + 1) (l ++ [t]) :=
  ⟨by rw [htL_app]; exact Nat.max_le.2 ⟨a.1, by simp [htL]; exact b.1⟩, fewTs_app _ _ a.2.1 ⟨b.2, trivial⟩, by have := a.2.2; simp; omega⟩
theorem HL.wide {h n k : Nat} {l : List T} (a : HL h n l) (b : n ≤ k) : HL h k l := ⟨a.1, a.2.1, Nat.le_trans a.2.2 b⟩
theorem HL.le {h k n : Nat} {l : List T} (a : HL h n l) (b : h ≤ k) : HL k n l := ⟨Nat.le_trans a.1 b, a.2⟩
theorem hh_mk {h n : Nat} {k : Nat} {nm p : Str} {x y o : Nat} {l : List T} (a : HL h n l) (b : n ≤ 100000) : Hh (h + 1) (.mk k nm p x y o l) :=
  ⟨by simp only [htT]; have := a.1; omega, Nat.le_trans a.2.2 b, a.2.1⟩
theorem hh_leaf {h : Nat} {k : Nat} {nm p : Str} {x y o : Nat} : Hh (h + 1) (.mk k nm p x y o []) := hh_mk (HL.nil h 0) (by omega)
theorem hl1 {h : Nat} {t : T} (a : Hh h t) : HL h 1 [t] := (HL.nil h 0).snoc a
theorem hl2 {h : Nat} {t u : T} (a : Hh h t) (b : Hh h u) : HL h 2 [t, u] := (hl1 a).snoc b
theorem hl3 {h : Nat} {t u v : T} (a : Hh h t) (b : Hh h u) (c : Hh h v) : HL h 3 [t, u, v] := (hl2 a b).snoc c
section
variable (ts : List PTok) (hts : ts.length ≤ 2000)
theorem ho_begin (k : Nat) (w : Str) : Ho (Hh 1) (begin_ ts k w) := ho_then fun _ => ho_ret hh_leaf
theorem ho_typedName (k : Nat) : Ho (Hh 1) (typedName ts k) := ho_then fun _ => ho_then fun _ => ho_then fun _ => ho_ret hh_leaf
theorem ho_typedMore (k : Nat) : ∀ g n l, HL 1 n l → Ho (HL 1 (n + g)) (typedMore ts k g l)
  | 0, n, l, h => ho_ret h
  | g + 1, n, l, h => ho_ite (c := fun s => wd ts s.nx = pComma) (ho_then fun _ => ho_bnd (ho_typedName ts k) fun t ht => by
      have := ho_typedMore k g (n + 1) _ (h.snoc ht)
      rw [show n + 1 + g = n + (g + 1) by omega] at this
      exact this) (ho_ret (h.wide (by omega)))
theorem ho_typedNames (k : Nat) : Ho (HL 1 (1 + ts.length)) (typedNames ts k) := ho_bnd (ho_typedName ts k) fun _ ht => ho_typedMore ts k _ 1 _ (hl1 ht)
variable {e b : PM T} {h : Nat} (he : Ho (Hh h) e) (hb : Ho (Hh h) b)
include he
theorem ho_inBrackets : Ho (Hh h) (inBrackets ts e) := ho_then fun _ => ho_bnd he fun _ k => ho_then fun _ => ho_ret k
theorem ho_argsMore : ∀ g n l, HL h n l → Ho (HL h (n + g)) (argsMore ts e g l)
  | 0, n, l, k => ho_ret k
  | g + 1, n, l, k => by
    have more : ∀ t, Hh h t → Ho (HL h (n + (g + 1))) (argsMore ts e g (l ++ [t])) := fun t ht => by
      have := ho_argsMore g (n + 1) _ (k.snoc ht)
      rw [show n + 1 + g = n + (g + 1) by omega] at this
      exact this
    exact ho_ite (c := fun s => wd ts s.nx = pRP) (ho_ret (k.wide (by omega))) (ho_ite (c := fun _ => l = []) (ho_bnd he more) (ho_then fun _ => ho_bnd he more))
include hts
theorem ho_arguments : Ho (HL h 2000) (arguments ts e) := ho_then fun _ => ho_bnd (ho_argsMore ts he ts.length 0 [] (HL.nil h 0)) fun _ k => ho_then fun _ => ho_ret (k.wide (by omega))
theorem ho_varRest (t : Tok) : Ho (Hh (h + 1)) (varRest ts e t) :=
  ho_ite (c := fun s => wd ts s.nx = pLK) (ho_bnd (ho_inBrackets ts he) fun _ k => ho_ret (hh_mk (hl1 k) (by omega))) (ho_ite (c := fun s => wd ts s.nx = pDot) (ho_then fun _ => ho_ret hh_leaf) (ho_ite (c := fun s => wd ts s.nx = pLP) (ho_bnd (ho_arguments ts hts he) fun _ k => ho_ret (hh_mk k (by omega))) (ho_ret hh_leaf)))
theorem ho_exprOf {w : Str} {m : PM T} (k : exprOf ts e w = some m) : Ho (Hh (h + 1)) m := by
  unfold exprOf at k
  (repeat' split at k) <;> cases k
  · exact ho_then fun _ => ho_bnd (ho_inBrackets ts he) fun _ k => ho_ret (hh_mk (hl1 k) (by omega))
  · exact ho_then fun _ => ho_ret hh_leaf
  · exact ho_then fun _ => ho_bnd he fun _ a => ho_then fun _ => ho_bnd he fun _ b => ho_then fun _ => ho_ret (hh_mk (hl2 a b) (by omega))
  · exact ho_then fun _ => ho_bnd he fun _ a => ho_ret (hh_mk (hl1 a) (by omega))
  · exact ho_then fun _ => ho_then fun _ => ho_then fun _ => ho_bnd he fun _ a => ho_then fun _ => ho_ret (hh_mk (hl1 a) (by omega))
  · exact ho_then fun _ => ho_then fun _ => ho_then fun _ => ho_ret hh_leaf
  · exact ho_then fun t => ho_varRest ts hts he t
  · intro s a s' k
    exact (show Ho (Hh (h + 1)) (cast ts e 29 (tk ts s.nx).off) from ho_then fun _ => ho_then fun _ => ho_bnd he fun _ a => ho_then fun _ => ho_ret (hh_mk (hl1 a) (by omega))) _ _ _ k
omit he
theorem ho_expression : ∀ f, Ho (Hh f) (expression ts f)
  | 0 => fun s a s' k => by
    unfold expression at k
    split at k <;> cases k
  | f + 1 => fun s a s' k => by
    have ih := ho_expression f
    unfold expression at k
    split at k
    · cases k
    · rename_i m hm
      exact ho_exprOf ts hts ih hm _ _ _ k
include he
omit hts in
theorem ho_value {g : T → T} {k : Nat} (hg : ∀ a, Hh h a → Hh k (g a)) : Ho (Hh k) (value ts e g) := ho_bnd he fun a x => ho_then fun _ => ho_ret (hg a x)
include hb
omit hts in
theorem ho_stmtOf {w : Str} {m : PM T} (k : stmtOf ts e b w = some m) : Ho (Hh (h + 1)) m := by
  have named : ∀ (kind : Nat) (w : Str), Ho (Hh (h + 1)) (readNamed ts e kind w) := fun kind w => ho_then fun _ => ho_then fun _ => ho_then fun _ => ho_value ts he fun a x => hh_mk (hl1 x) (by omega)
  have pair : ∀ (kind : Nat) (w z : Str), Ho (Hh (h + 1)) (readPair ts kind w z) := fun kind w z => ho_then fun _ => ho_then fun _ => ho_then fun _ => ho_then fun _ => ho_then fun _ => ho_ret hh_leaf
  unfold stmtOf at k
  by_cases ckLet : w = kLet
  · rw [if_pos ckLet] at k
    injection k with k
    rw [← k]
    exact named _ _
  rw [if_neg ckLet] at k
  by_cases ckNew : w = kNew
  · rw [if_pos ckNew] at k
    injection k with k
    rw [← k]
    exact ho_then fun _ => ho_then fun _ => ho_then fun _ => ho_then fun _ => ho_bnd (ho_inBrackets ts he) fun _ x => ho_then fun _ => ho_ret (hh_mk (hl1 x) (by omega))
  rw [if_neg ckNew] at k
  by_cases ckMake : w = kMake
  · rw [if_pos ckMake] at k
    injection k with k
    rw [← k]
    exact pair _ _ _
  rw [if_neg ckMake] at k
  by_cases ckFree : w = kFree
  · rw [if_pos ckFree] at k
    injection k with k
    rw [← k]
    exact ho_then fun _ => ho_then fun _ => ho_then fun _ => ho_ret hh_leaf
  rw [if_neg ckFree] at k
  by_cases ckSame : w = kSame
  · rw [if_pos ckSame] at k
    injection k with k
    rw [← k]
    exact pair _ _ _
  rw [if_neg ckSame] at k
  by_cases ckIf : w = kIf
  · rw [if_pos ckIf] at k
    injection k with k
    rw [← k]
    exact ho_then fun _ => ho_bnd he fun _ x => ho_bnd hb fun _ y => ho_ite (c := fun s => wd ts s.nx = kElse) (ho_then fun _ => ho_bnd hb fun _ z => ho_ret (hh_mk (hl3 x y z) (by omega))) (ho_ret (hh_mk (hl2 x y) (by omega)))
  rw [if_neg ckIf] at k
  by_cases ckWhile : w = kWhile
  · rw [if_pos ckWhile] at k
    injection k with k
    rw [← k]
    exact ho_then fun _ => ho_bnd he fun _ x => ho_bnd hb fun _ y => ho_ret (hh_mk (hl2 x y) (by omega))
  rw [if_neg ckWhile] at k
  by_cases ckEmit : w = kEmit
  · rw [if_pos ckEmit] at k
    injection k with k
    rw [← k]
    exact named _ _
  rw [if_neg ckEmit] at k
  by_cases ckAccept : w = kAccept
  · rw [if_pos ckAccept] at k
    injection k with k
    rw [← k]
    exact ho_bnd (ho_begin ts _ _) fun _ x => ho_then fun _ => ho_ret (x.le (by omega))
  rw [if_neg ckAccept] at k
  by_cases ckReject : w = kReject
  · rw [if_pos ckReject] at k
    injection k with k
    rw [← k]
    exact ho_then fun _ => ho_then fun _ => ho_then fun _ => ho_ret hh_leaf
  rw [if_neg ckReject] at k
  by_cases ckReturn : w = kReturn
  · rw [if_pos ckReturn] at k
    injection k with k
    rw [← k]
    exact ho_then fun _ => ho_value ts he fun a x => hh_mk (hl1 x) (by omega)
  rw [if_neg ckReturn] at k
  by_cases cwName : w = wName
  · rw [if_pos cwName] at k
    injection k with k
    rw [← k]
    exact ho_then fun t => ho_ite (c := fun s => wd ts s.nx = pLK) (ho_bnd (ho_inBrackets ts he) fun _ x => ho_then fun _ => ho_value ts he fun a y => hh_mk (hl2 x y) (by omega)) (ho_ite (c := fun s => wd ts s.nx = pDot) (ho_then fun _ => ho_then fun _ => ho_value ts he fun a y => hh_mk (hl1 y) (by omega)) (ho_then fun _ => ho_value ts he fun a y => hh_mk (hl1 y) (by omega)))
  rw [if_neg cwName] at k
  cases k
omit hts in
theorem ho_statement : Ho (Hh (h + 1)) (statement ts e b) := fun s a s' k => by
  unfold statement at k
  split at k
  · cases k
  · rename_i m hm
    exact ho_stmtOf ts he hb hm _ _ _ k
omit he hb
omit hts in
theorem ho_stmts {m : PM T} {h : Nat} (hm : Ho (Hh h) m) : ∀ g n l, HL h n l → Ho (HL h (n + g)) (stmts ts m g l)
  | 0, n, l, k => ho_ret k
  | g + 1, n, l, k => fun s a s' r => by
    unfold stmts at r
    by_cases hc : wd ts s.nx = pRB
    · simp only [if_pos hc] at r
      cases r
      exact k.wide (by omega)
    · simp only [if_neg hc] at r
      cases ha : attempt m 0 s with
      | out q s1 => rw [bnd_out ha] at r; cases r
      | ok o s1 =>
        rw [bnd_ok ha] at r
        cases o with
        | some t =>
          have ht : Hh h t := by
            unfold attempt at ha
            split at ha
            · rename_i h1
              cases ha
              exact hm _ _ _ h1
            · split at ha <;> cases ha
          have := ho_stmts hm g (n + 1) _ (k.snoc ht) _ _ _ r
          rw [show n + 1 + g = n + (g + 1) by omega] at this
          exact this
        | none =>
          simp only at r
          cases hk : skipStatement ts s1 with
          | out q s2 => rw [bnd_out hk] at r; cases r
          | ok u s2 =>
            rw [bnd_ok hk] at r
            exact (ho_stmts hm g n _ k _ _ _ r).wide (by omega)
include hts
theorem ho_block : ∀ f, Ho (Hh (2 * f)) (block ts f)
  | 0 => ho_ite (c := fun s => wd ts s.nx = pLB) (ho_fail ts 11) (ho_fail ts 10)
  | f + 1 => by
    have hs : Ho (Hh (2 * f + 1)) (statement ts (expression ts f) (block ts f)) := ho_statement ts (fun s a s' k => (ho_expression ts hts f s a s' k).le (by omega)) (ho_block f)
    exact ho_ite (c := fun s => wd ts s.nx = pLB) (ho_then fun _ => ho_bnd (ho_stmts ts hs (2 * ts.length + 2) 0 [] (HL.nil _ 0)) fun _ x => ho_then fun _ => ho_ret (hh_mk x (by omega))) (ho_fail ts 10)
theorem ho_item : Ho (Hh 21) (item ts (block ts 10)) := by
  have fr : ∀ (o : Nat) (x : Str) (n : Nat) (l : List T), HL 20 n l → n ≤ 5000 → Ho (Hh 21) (funcRest ts (block ts 10) o x l) := fun o x n l hl hn => ho_then fun _ => ho_then fun _ => ho_bnd (ho_block ts hts 10) fun _ k => ho_ret (hh_mk (hl.snoc k) (by omega))
  refine ho_ite (c := fun s => wd ts s.nx = kStruct) ?_ (ho_ite (c := fun s => wd ts s.nx = kFunc) ?_ (ho_ite (c := fun s => wd ts s.nx = kParse) ?_ (ho_fail ts 10)))
  · exact ho_then fun _ => ho_then fun _ => ho_then fun _ => ho_bnd (ho_typedNames ts 3) fun _ l => ho_then fun _ => ho_ret ((hh_mk l (by omega)).le (by omega))
  · exact ho_then fun _ => ho_then fun _ => ho_then fun _ => ho_ite (c := fun s => wd ts s.nx = pRP) (fr _ _ 0 [] (HL.nil _ 0) (by omega)) (ho_bnd (ho_typedNames ts 5) fun l hl => fr _ _ _ l (hl.le (by omega)) (by omega))
  · exact ho_then fun _ => fun s a s' k => (ho_block ts hts 10 s a s' k).le (by omega)
omit hts
theorem ho_items {m : PM T} {h : Nat} (hm : Ho (Hh h) m) : ∀ g n l, HL h n l → Ho (HL h (n + g)) (items ts m g l)
  | 0, n, l, k => ho_ret k
  | g + 1, n, l, k => fun s a s' r => by
    unfold items at r
    cases ha : attempt m (if wd ts s.nx = kParse then 0 else 1) s with
    | out q s1 => rw [bnd_out ha] at r; cases r
    | ok o s1 =>
      rw [bnd_ok ha] at r
      cases o with
      | some t =>
        have ht : Hh h t := by
          generalize (if wd ts s.nx = kParse then 0 else 1) = most at ha
          unfold attempt at ha
          split at ha
          · rename_i h1
            cases ha
            exact hm _ _ _ h1
          · split at ha <;> cases ha
        simp only at r
        split at r
        · cases r; exact (k.snoc ht).wide (by omega)
        · have := ho_items hm g (n + 1) _ (k.snoc ht) _ _ _ r
          rw [show n + 1 + g = n + (g + 1) by omega] at this
          exact this
      | none =>
        simp only at r
        cases hk : skipItem ts ts.length s1 with
        | out q s2 => rw [bnd_out hk] at r; cases r
        | ok u s2 =>
          rw [bnd_ok hk] at r
          exact (ho_items hm g n _ k _ _ _ r).wide (by omega)
include hts
theorem ho_program : Ho (Hh 22) (program ts) := ho_bnd (ho_items ts (ho_item ts hts) (2 * ts.length + 2) 0 [] (HL.nil _ 0)) fun _ l => ho_then fun _ => ho_ret (hh_mk l (by omega))
end
theorem zero_few : Hh 22 T.zero := ⟨by simp [T.zero, htT, htL], by simp [T.zero, fewT, fewTs]⟩
/-- What Parse answers is neither high nor wide. -/
theorem parse_hh (s : Str) (hl : (lexS s).1.length ≤ 1500) : Hh 22 (parseS s).1 := by
  unfold parseS
  split
  · rename_i l x hx
    rw [hx] at hl
    have hts : (ptoks l s.length).length ≤ 2000 := by unfold ptoks; simp; simp at hl; omega
    split
    · rename_i t s' ha
      split
      · unfold attempt at ha
        split at ha
        · rename_i h1
          cases ha
          exact ho_program _ hts _ _ _ h1
        · split at ha <;> cases ha
      · exact zero_few
    · exact zero_few
    · exact zero_few
  · exact zero_few
end Go.Proofs.YtmkehecapjdfdaaGreatDoor

/- ParserTrees: the walk. -/
namespace Go.Proofs.YtmkehecapjdfdaaGreatDoor
open Go.RowKit

mutual
theorem oc_all (s : ByteArray) : ∀ t : T, okG t.toG → OC s t.kids ∧ ∀ k ∈ t.kids, OC s k.kids ∧ k.kids.length ≤ 2000
  | .mk _ _ _ _ _ _ ks, h => by
    have g := ocs_all s ks h.2.2.2.2
    exact ⟨order_step s ks g, fun k hk => ⟨(g k hk).1, (g k hk).2.1⟩⟩
theorem ocs_all (s : ByteArray) : ∀ l : List T, okL (gs l) → ∀ t ∈ l, OC s t.kids ∧ t.kids.length ≤ 2000 ∧ ∀ k ∈ t.kids, OC s k.kids ∧ k.kids.length ≤ 2000
  | [], _ => fun t h => by cases h
  | a :: r, hk => fun t h => by
    have h1 := oc_all s a hk.1
    have h2 := ocs_all s r hk.2
    have h3 : a.kids.length ≤ 2000 := by
      have := hk.1
      cases a
      have e := this.2.2.2.1
      rw [toGs_length] at e
      exact e
    rcases List.mem_cons.1 h with e | e
    · rw [e]; exact ⟨h1.1, h3, h1.2⟩
    · exact h2 t e
end
mutual
theorem valid_strip : ∀ (t : T) (d : Nat), validG d (stripT t).toG = validG d t.toG
  | .mk k n p x y _ ks, d => by
    show (isKindG _ && (decide (deeper _ d ≤ 10) && (fieldsG _ _ _ x _ && (kidsG _ (sortsS (gs (stripL ks))) && validL _ (gs (stripL ks)))))) = (isKindG _ && (decide (deeper _ d ≤ 10) && (fieldsG _ _ _ x _ && (kidsG _ (sortsS (gs ks)) && validL _ (gs ks)))))
    rw [valids_strip ks, sorts_strip ks]
theorem valids_strip : ∀ (l : List T) (d : Nat), validL d (gs (stripL l)) = validL d (gs l)
  | [], _ => rfl
  | t :: r, d => by
    show (validG d (stripT t).toG && validL d (gs (stripL r))) = (validG d t.toG && validL d (gs r))
    rw [valid_strip t, valids_strip r]
theorem sorts_strip : ∀ (l : List T), sortsS (gs (stripL l)) = sortsS (gs l)
  | [] => rfl
  | t :: r => by
    show sortOf (stripT t).toG.kind ++ sortsS (gs (stripL r)) = sortOf t.toG.kind ++ sortsS (gs r)
    rw [sorts_strip r]
    cases t; rfl
end
theorem stripL_len : ∀ l : List T, (stripL l).length = l.length
  | [] => rfl
  | _ :: r => by simp [stripL, stripL_len r]
mutual
theorem ok_strip : ∀ t : T, okG t.toG → okG (stripT t).toG
  | .mk _ _ _ _ _ _ ks, h => ⟨h.1, h.2.1, h.2.2.1, by rw [toGs_length, stripL_len, ← toGs_length]; exact h.2.2.2.1, oks_strip ks h.2.2.2.2⟩
theorem oks_strip : ∀ l : List T, okL (gs l) → okL (gs (stripL l))
  | [], _ => trivial
  | t :: r, h => ⟨ok_strip t h.1, oks_strip r h.2⟩
end
mutual
theorem strip_twice : ∀ t : T, stripT (stripT t) = stripT t
  | .mk _ _ _ _ _ _ ks => by simp only [stripT]; rw [strips_twice ks]
theorem strips_twice : ∀ l : List T, stripL (stripL l) = stripL l
  | [] => rfl
  | t :: r => by simp only [stripL]; rw [strip_twice t, strips_twice r]
end
mutual
theorem ht_strip : ∀ t : T, htT (stripT t) = htT t
  | .mk _ _ _ _ _ _ ks => by simp only [stripT, htT]; rw [hts_strip ks]
theorem hts_strip : ∀ l : List T, htL (stripL l) = htL l
  | [] => rfl
  | t :: r => by simp only [stripL, htL]; rw [ht_strip t, hts_strip r]
end
mutual
theorem few_strip : ∀ t : T, fewT t → fewT (stripT t)
  | .mk _ _ _ _ _ _ ks, h => ⟨by rw [stripL_len]; exact h.1, fews_strip ks h.2⟩
theorem fews_strip : ∀ l : List T, fewTs l → fewTs (stripL l)
  | [], _ => trivial
  | t :: r, h => ⟨few_strip t h.1, fews_strip r h.2⟩
end
mutual
theorem sameG_refl : ∀ t : G, sameG t t = true
  | .mk _ _ _ _ _ _ ks => by
    have e : ∀ b : ByteArray, (b == b) = true := fun b => by show ByteArray.beq b b = true; unfold ByteArray.beq; simp
    simp [sameG, sameL_refl ks, e]
theorem sameL_refl : ∀ l : List G, sameL l l = true
  | [] => rfl
  | t :: r => by simp [sameL, sameG_refl t, sameL_refl r]
end
/-- A call that answers true, from every world that is below. -/
def YesC (X : World) (f : Nat) (args : Array Value) : Prop := ∀ w, Below X.heap.size X w → Calls Tryz.prog f args w fun e w' => e = .returned (.bool true) ∧ Below w.heap.size w w'
theorem tkeep {X W w1 : World} {P Q : Nat} {v0 v1 v2 v3 v4 v5 v6 u0 u1 u2 u3 u4 u5 u6 : Value} (hb : Below W.heap.size W w1) (h : W.cell? ⟨P, 0, none⟩ = some (v0) ∧ W.cell? ⟨P, 1, none⟩ = some (v1) ∧ W.cell? ⟨P, 2, none⟩ = some (v2) ∧ W.cell? ⟨P, 3, none⟩ = some (v3) ∧ W.cell? ⟨P, 4, none⟩ = some (v4) ∧ W.cell? ⟨P, 5, none⟩ = some (v5) ∧ W.cell? ⟨P, 6, none⟩ = some (v6) ∧ W.cell? ⟨Q, 0, none⟩ = some (u0) ∧ W.cell? ⟨Q, 1, none⟩ = some (u1) ∧ W.cell? ⟨Q, 2, none⟩ = some (u2) ∧ W.cell? ⟨Q, 3, none⟩ = some (u3) ∧ W.cell? ⟨Q, 4, none⟩ = some (u4) ∧ W.cell? ⟨Q, 5, none⟩ = some (u5) ∧ W.cell? ⟨Q, 6, none⟩ = some (u6) ∧ Below X.heap.size X W) : w1.cell? ⟨P, 0, none⟩ = some (v0) ∧ w1.cell? ⟨P, 1, none⟩ = some (v1) ∧ w1.cell? ⟨P, 2, none⟩ = some (v2) ∧ w1.cell? ⟨P, 3, none⟩ = some (v3) ∧ w1.cell? ⟨P, 4, none⟩ = some (v4) ∧ w1.cell? ⟨P, 5, none⟩ = some (v5) ∧ w1.cell? ⟨P, 6, none⟩ = some (v6) ∧ w1.cell? ⟨Q, 0, none⟩ = some (u0) ∧ w1.cell? ⟨Q, 1, none⟩ = some (u1) ∧ w1.cell? ⟨Q, 2, none⟩ = some (u2) ∧ w1.cell? ⟨Q, 3, none⟩ = some (u3) ∧ w1.cell? ⟨Q, 4, none⟩ = some (u4) ∧ w1.cell? ⟨Q, 5, none⟩ = some (u5) ∧ w1.cell? ⟨Q, 6, none⟩ = some (u6) ∧ Below X.heap.size X w1 := ⟨cell_later hb h.1, cell_later hb h.2.1, cell_later hb h.2.2.1, cell_later hb h.2.2.2.1, cell_later hb h.2.2.2.2.1, cell_later hb h.2.2.2.2.2.1, cell_later hb h.2.2.2.2.2.2.1, cell_later hb h.2.2.2.2.2.2.2.1, cell_later hb h.2.2.2.2.2.2.2.2.1, cell_later hb h.2.2.2.2.2.2.2.2.2.1, cell_later hb h.2.2.2.2.2.2.2.2.2.2.1, cell_later hb h.2.2.2.2.2.2.2.2.2.2.2.1, cell_later hb h.2.2.2.2.2.2.2.2.2.2.2.2.1, cell_later hb h.2.2.2.2.2.2.2.2.2.2.2.2.2.1, h.2.2.2.2.2.2.2.2.2.2.2.2.2.2.trans (hb.mono h.2.2.2.2.2.2.2.2.2.2.2.2.2.2.size)⟩
theorem tdrew {X W : World} {P Q : Nat} {v0 v1 v2 v3 v4 v5 v6 u0 u1 u2 u3 u4 u5 u6 : Value} (h : W.cell? ⟨P, 0, none⟩ = some (v0) ∧ W.cell? ⟨P, 1, none⟩ = some (v1) ∧ W.cell? ⟨P, 2, none⟩ = some (v2) ∧ W.cell? ⟨P, 3, none⟩ = some (v3) ∧ W.cell? ⟨P, 4, none⟩ = some (v4) ∧ W.cell? ⟨P, 5, none⟩ = some (v5) ∧ W.cell? ⟨P, 6, none⟩ = some (v6) ∧ W.cell? ⟨Q, 0, none⟩ = some (u0) ∧ W.cell? ⟨Q, 1, none⟩ = some (u1) ∧ W.cell? ⟨Q, 2, none⟩ = some (u2) ∧ W.cell? ⟨Q, 3, none⟩ = some (u3) ∧ W.cell? ⟨Q, 4, none⟩ = some (u4) ∧ W.cell? ⟨Q, 5, none⟩ = some (u5) ∧ W.cell? ⟨Q, 6, none⟩ = some (u6) ∧ Below X.heap.size X W) : W.drew.cell? ⟨P, 0, none⟩ = some (v0) ∧ W.drew.cell? ⟨P, 1, none⟩ = some (v1) ∧ W.drew.cell? ⟨P, 2, none⟩ = some (v2) ∧ W.drew.cell? ⟨P, 3, none⟩ = some (v3) ∧ W.drew.cell? ⟨P, 4, none⟩ = some (v4) ∧ W.drew.cell? ⟨P, 5, none⟩ = some (v5) ∧ W.drew.cell? ⟨P, 6, none⟩ = some (v6) ∧ W.drew.cell? ⟨Q, 0, none⟩ = some (u0) ∧ W.drew.cell? ⟨Q, 1, none⟩ = some (u1) ∧ W.drew.cell? ⟨Q, 2, none⟩ = some (u2) ∧ W.drew.cell? ⟨Q, 3, none⟩ = some (u3) ∧ W.drew.cell? ⟨Q, 4, none⟩ = some (u4) ∧ W.drew.cell? ⟨Q, 5, none⟩ = some (u5) ∧ W.drew.cell? ⟨Q, 6, none⟩ = some (u6) ∧ Below X.heap.size X W.drew := tkeep (Drew.below (a := W) ⟨1, rfl⟩) h
theorem yesUse {X W : World} {P Q f : Nat} {args : Array Value} {v0 v1 v2 v3 v4 v5 v6 u0 u1 u2 u3 u4 u5 u6 : Value} (k : Hid (YesC X f args)) (h : W.cell? ⟨P, 0, none⟩ = some (v0) ∧ W.cell? ⟨P, 1, none⟩ = some (v1) ∧ W.cell? ⟨P, 2, none⟩ = some (v2) ∧ W.cell? ⟨P, 3, none⟩ = some (v3) ∧ W.cell? ⟨P, 4, none⟩ = some (v4) ∧ W.cell? ⟨P, 5, none⟩ = some (v5) ∧ W.cell? ⟨P, 6, none⟩ = some (v6) ∧ W.cell? ⟨Q, 0, none⟩ = some (u0) ∧ W.cell? ⟨Q, 1, none⟩ = some (u1) ∧ W.cell? ⟨Q, 2, none⟩ = some (u2) ∧ W.cell? ⟨Q, 3, none⟩ = some (u3) ∧ W.cell? ⟨Q, 4, none⟩ = some (u4) ∧ W.cell? ⟨Q, 5, none⟩ = some (u5) ∧ W.cell? ⟨Q, 6, none⟩ = some (u6) ∧ Below X.heap.size X W) : Calls Tryz.prog f args W fun e w' => e = .returned (.bool true) ∧ Below W.heap.size W w' := k.out W h.2.2.2.2.2.2.2.2.2.2.2.2.2.2
/-- Strip, of a tree that it leaves as it is. -/
def StrC (X : World) (g : G) (LA : Option Addr) (LC : Nat) : Prop := ∀ w, Below X.heap.size X w → Calls Tryz.prog 18 #[.agg #[Value.int IntKind.i64 g.kind, Value.string g.name, Value.string g.part, Value.int IntKind.u64 g.num, Value.int IntKind.i64 g.wid, Value.int IntKind.i64 g.at_, Value.slice LA g.kids.length LC]] w fun e w' => ∃ KA KC, e = .returned (.agg #[Value.int IntKind.i64 g.kind, Value.string g.name, Value.string g.part, Value.int IntKind.u64 g.num, Value.int IntKind.i64 g.wid, Value.int IntKind.i64 g.at_, Value.slice KA g.kids.length KC]) ∧ gAt w' g (.slice KA g.kids.length KC) ∧ Below w.heap.size w w'
theorem strUse {X W : World} {P Q : Nat} {v0 v1 v2 v3 v4 v5 v6 u0 u1 u2 u3 u4 u5 u6 : Value} {g : G} {LA : Option Addr} {LC : Nat} (k : Hid (StrC X g LA LC)) (h : W.cell? ⟨P, 0, none⟩ = some (v0) ∧ W.cell? ⟨P, 1, none⟩ = some (v1) ∧ W.cell? ⟨P, 2, none⟩ = some (v2) ∧ W.cell? ⟨P, 3, none⟩ = some (v3) ∧ W.cell? ⟨P, 4, none⟩ = some (v4) ∧ W.cell? ⟨P, 5, none⟩ = some (v5) ∧ W.cell? ⟨P, 6, none⟩ = some (v6) ∧ W.cell? ⟨Q, 0, none⟩ = some (u0) ∧ W.cell? ⟨Q, 1, none⟩ = some (u1) ∧ W.cell? ⟨Q, 2, none⟩ = some (u2) ∧ W.cell? ⟨Q, 3, none⟩ = some (u3) ∧ W.cell? ⟨Q, 4, none⟩ = some (u4) ∧ W.cell? ⟨Q, 5, none⟩ = some (u5) ∧ W.cell? ⟨Q, 6, none⟩ = some (u6) ∧ Below X.heap.size X W) : Calls Tryz.prog 18 #[.agg #[Value.int IntKind.i64 g.kind, Value.string g.name, Value.string g.part, Value.int IntKind.u64 g.num, Value.int IntKind.i64 g.wid, Value.int IntKind.i64 g.at_, Value.slice LA g.kids.length LC]] W fun e w' => ∃ KA KC, e = .returned (.agg #[Value.int IntKind.i64 g.kind, Value.string g.name, Value.string g.part, Value.int IntKind.u64 g.num, Value.int IntKind.i64 g.wid, Value.int IntKind.i64 g.at_, Value.slice KA g.kids.length KC]) ∧ gAt w' g (.slice KA g.kids.length KC) ∧ Below W.heap.size W w' := k.out W h.2.2.2.2.2.2.2.2.2.2.2.2.2.2
theorem strip_g (t u : T) (g : G) (hu : stripT t = u) (hg : u.toG = g) (hf : fewT t) (hh : htT t ≤ 1000) (W : World) (A7 : Option Addr) (c7 : Nat) (ht : gAt W t.toG (.slice A7 t.kids.length c7)) :
    Calls Tryz.prog 18 #[.agg #[Value.int IntKind.i64 t.kind, Value.string ⟨t.name.toArray⟩, Value.string ⟨t.part.toArray⟩, Value.int IntKind.u64 t.num, Value.int IntKind.i64 t.wid, Value.int IntKind.i64 t.at_, Value.slice A7 t.kids.length c7]] W fun e w' => ∃ KA KC, e = .returned (.agg #[Value.int IntKind.i64 g.kind, Value.string g.name, Value.string g.part, Value.int IntKind.u64 g.num, Value.int IntKind.i64 g.wid, Value.int IntKind.i64 g.at_, Value.slice KA g.kids.length KC]) ∧ gAt w' g (.slice KA g.kids.length KC) ∧ Below W.heap.size W w' := by
  refine (Strip_any t hf hh W A7 c7 ht).mono ?_
  rintro e w' ⟨KA, KC, he, nd, hb2⟩
  subst hu
  subst hg
  have f := toG_f (stripT t)
  have kn := toG_kids (stripT t)
  refine ⟨KA, KC, ?_, ?_, hb2⟩
  · rw [he, f.1, f.2.1, f.2.2.1, f.2.2.2.1, f.2.2.2.2.1, f.2.2.2.2.2, kn]
  · rw [kn]; exact gAt_node _ _ nd
theorem strip_gg (u : T) (g : G) (hu : stripT u = u) (hg : u.toG = g) (hf : fewT u) (hh : htT u ≤ 1000) (W : World) (LA : Option Addr) (LC : Nat) (ht : gAt W g (.slice LA g.kids.length LC)) :
    Calls Tryz.prog 18 #[.agg #[Value.int IntKind.i64 g.kind, Value.string g.name, Value.string g.part, Value.int IntKind.u64 g.num, Value.int IntKind.i64 g.wid, Value.int IntKind.i64 g.at_, Value.slice LA g.kids.length LC]] W fun e w' => ∃ KA KC, e = .returned (.agg #[Value.int IntKind.i64 g.kind, Value.string g.name, Value.string g.part, Value.int IntKind.u64 g.num, Value.int IntKind.i64 g.wid, Value.int IntKind.i64 g.at_, Value.slice KA g.kids.length KC]) ∧ gAt w' g (.slice KA g.kids.length KC) ∧ Below W.heap.size W w' := by
  subst hg
  have f := toG_f u
  have kn := toG_kids u
  rw [kn] at ht
  have := strip_g u u u.toG hu rfl hf hh W LA LC ht
  simp only [f.1, f.2.1, f.2.2.1, f.2.2.2.1, f.2.2.2.2.1, f.2.2.2.2.2, kn] at this ⊢
  exact this
theorem valid_t (t : T) (hv : validT t.toG = true) (hok : okG t.toG) (X : World) (hp : PV X) (A7 : Option Addr) (c7 : Nat) (ht : gAt X t.toG (.slice A7 t.kids.length c7)) : YesC X 16 #[.agg #[Value.int IntKind.i64 t.kind, Value.string ⟨t.name.toArray⟩, Value.string ⟨t.part.toArray⟩, Value.int IntKind.u64 t.num, Value.int IntKind.i64 t.wid, Value.int IntKind.i64 t.at_, Value.slice A7 t.kids.length c7]] := fun w hb => by
  have f := toG_f t
  have kn := toG_kids t
  have := Valid_any t.toG hok w A7 c7 (by rw [kn]; exact gAt_later hb _ _ ht) (hp.later hb)
  rw [hv] at this
  simp only [f.1, f.2.1, f.2.2.1, f.2.2.2.1, f.2.2.2.2.1, f.2.2.2.2.2, kn] at this
  exact this
theorem valid_g (g : G) (hv : validT g = true) (hok : okG g) (X : World) (hp : PV X) (LA : Option Addr) (LC : Nat) (ht : gAt X g (.slice LA g.kids.length LC)) : YesC X 16 #[.agg #[Value.int IntKind.i64 g.kind, Value.string g.name, Value.string g.part, Value.int IntKind.u64 g.num, Value.int IntKind.i64 g.wid, Value.int IntKind.i64 g.at_, Value.slice LA g.kids.length LC]] := fun w hb => by
  have := Valid_any g hok w LA LC (gAt_later hb _ _ ht) (hp.later hb)
  rw [hv] at this
  exact this
theorem order_t (s : ByteArray) (t : T) (ho : OC s t.kids) (hk : t.kids.length ≤ 2000) (hO : OrdL s.data.toList (-1) t.kids) (X : World) (A7 : Option Addr) (c7 : Nat) (ht : gAt X t.toG (.slice A7 t.kids.length c7)) : YesC X 20 #[.slice A7 t.kids.length c7, .string s] := fun w hb => by
  refine ho w A7 c7 hk ?_ hO
  rw [← toG_kids] at ht
  have h1 := gAt_row (gAt_later hb _ _ ht)
  have : t.toG.kids = gs t.kids := by cases t; rfl
  rw [this] at h1
  exact h1
theorem sameUseG (g : G) (w : World) (KA LA : Option Addr) (KC LC : Nat) (h1 : gAt w g (.slice KA g.kids.length KC)) (h2 : gAt w g (.slice LA g.kids.length LC)) :
    Calls Tryz.prog 14 #[.agg #[Value.int IntKind.i64 g.kind, Value.string g.name, Value.string g.part, Value.int IntKind.u64 g.num, Value.int IntKind.i64 g.wid, Value.int IntKind.i64 g.at_, Value.slice KA g.kids.length KC], .agg #[Value.int IntKind.i64 g.kind, Value.string g.name, Value.string g.part, Value.int IntKind.u64 g.num, Value.int IntKind.i64 g.wid, Value.int IntKind.i64 g.at_, Value.slice LA g.kids.length LC]] w fun e w' => e = .returned (.bool true) ∧ Below w.heap.size w w' := by
  have h := same_all g g w KA LA KC LC h1 h2
  rw [sameG_refl] at h
  exact h
set_option maxRecDepth 100000 in
set_option maxHeartbeats 3200000 in
theorem trees_long (s : ByteArray) (W : World) (hp : PV W) (hl : (4100 : Int) < s.size) :
    Calls Tryz.prog 4 #[.string s] W fun e w' => e = .returned (.bool true) ∧ Below W.heap.size W w' := by
  go_enter Tryz.func4, Tryz.ntmps4
  go_wp2_with fail
  refine (head_one _ hp).mono ?_
  rintro e w1 ⟨rfl, B1⟩
  go_wp2
  go_ret
  exact ⟨rfl, B1⟩
set_option maxRecDepth 100000 in
set_option maxHeartbeats 3200000 in
theorem trees_bad (s : ByteArray) (ds : List (Nat × Nat)) (W : World) (hp : PV W) (hl : ¬ (4100 : Int) < s.size) (hP : Hid (parseS s.data.toList = (T.zero, ds))) (m : Nat) (hm : Hid (ds.length = m)) (hd : 0 < m) (hd2 : decide ((m : Int) ≤ 20) = true) :
    Calls Tryz.prog 4 #[.string s] W fun e w' => e = .returned (.bool true) ∧ Below W.heap.size W w' := by
  go_enter Tryz.func4, Tryz.ntmps4
  go_wp2_with fail
  refine (head_one _ hp).mono ?_
  rintro e w1 ⟨rfl, B1⟩
  go_wp2_with fail
  refine (parse_at s _ (by omega) (hp.later B1).1 (hp.later B1).2.1).mono ?_
  rintro e w3 ⟨A7, c7, d7, hy, nd, drow, nb⟩
  rw [hP.out] at hy drow nd
  replace drow : w3.ownsRow w1.heap.size DT 2 d7 m (dgV ds) := by rw [← hm.out]; exact drow
  obtain ⟨DB, DD, rfl⟩ := ownsRow_form drow
  replace hy : e = .returned (.tuple #[.agg #[Value.int IntKind.i64 0, Value.string ⟨#[]⟩, Value.string ⟨#[]⟩, Value.int IntKind.u64 0, Value.int IntKind.i64 0, Value.int IntKind.i64 0, Value.slice A7 0 c7], .slice DB m DD]) := hy
  have hz : gAt w3 T.zero.toG (.slice A7 0 c7) := gAt_node _ _ nd
  subst hy
  have B4 := B1.trans (nb.mono B1.size)
  have hS : Hid (∀ w, Below w3.heap.size w3 w → Calls Tryz.prog 14 #[.agg #[Value.int IntKind.i64 0, Value.string ⟨#[]⟩, Value.string ⟨#[]⟩, Value.int IntKind.u64 0, Value.int IntKind.i64 0, Value.int IntKind.i64 0, Value.slice A7 0 c7], .agg #[Value.int IntKind.i64 0, Value.string ⟨#[]⟩, Value.string ⟨#[]⟩, Value.int IntKind.u64 0, Value.int IntKind.i64 0, Value.int IntKind.i64 0, Value.slice none 0 0]] w fun e w' => e = .returned (.bool true) ∧ Below w.heap.size w w') := Lib.hid fun w hb => by
    have h := same_all T.zero.toG T.zero.toG w A7 none c7 0 (gAt_later hb _ _ hz) ⟨none, 0, rfl, Nat.le_refl _, by unfold maxLen; omega, trivial⟩
    rw [sameG_refl] at h
    exact h
  have nb2 : Below w3.heap.size w3 (w3.alloc (Obj.cells #[Value.int IntKind.i64 0, Value.string ⟨#[]⟩, Value.string ⟨#[]⟩, Value.int IntKind.u64 0, Value.int IntKind.i64 0, Value.int IntKind.i64 0, Value.slice A7 0 c7] 25)) := (Below.refl _ _).alloc (Nat.le_refl _) _
  clear nd drow nb B1 hP hm hz
  go_wp2_with fail
  refine (hS.out _ nb2).mono ?_
  rintro e w4 ⟨rfl, B5⟩
  go_wp2
  go_ret
  exact ⟨rfl, B4.trans ((nb2.trans (B5.mono nb2.size)).mono B4.size)⟩
set_option maxRecDepth 100000 in
set_option maxHeartbeats 3200000 in
theorem trees_ok (s : ByteArray) (t u : T) (g : G) (W : World) (hp : PV W) (hl : ¬ (4100 : Int) < s.size) (hP : Hid (parseS s.data.toList = (t, []))) (hu : stripT t = u) (hg : Hid (u.toG = g)) (hf : fewT t ∧ htT t ≤ 1000) (hf2 : fewT u ∧ htT u ≤ 1000) (hu2 : Hid (stripT u = u))
    (hv : validT t.toG = true ∧ okG t.toG) (hv2 : validT g = true ∧ okG g) (hk1 : ((t.kind : Int) == 1) = true) (hk2 : ((t.at_ : Int) == 0) = true) (ho : OC s t.kids) (hlen : t.kids.length ≤ 2000) (hO : OrdL s.data.toList (-1) t.kids) :
    Calls Tryz.prog 4 #[.string s] W fun e w' => e = .returned (.bool true) ∧ Below W.heap.size W w' := by
  have HV := Lib.hid hv
  have HV2 := Lib.hid hv2
  have HF := Lib.hid hf
  have HF2 := Lib.hid hf2
  have HO := Lib.hid ho
  have HOL := Lib.hid hO
  have HU := Lib.hid hu
  clear hv hv2 hf hf2 ho hO hu
  go_enter Tryz.func4, Tryz.ntmps4
  go_wp2_with fail
  refine (head_one _ hp).mono ?_
  rintro e w1 ⟨rfl, B1⟩
  go_wp2_with fail
  refine (parse_at s _ (by omega) (hp.later B1).1 (hp.later B1).2.1).mono ?_
  rintro e w3 ⟨A7, c7, d7, hy, nd, drow, nb⟩
  rw [hP.out] at hy drow nd
  replace drow : w3.ownsRow w1.heap.size DT 2 d7 0 [] := drow
  obtain ⟨DB, DD, rfl⟩ := ownsRow_form drow
  subst hy
  have B4 := B1.trans (nb.mono B1.size)
  have hg3 := gAt_node _ _ nd
  clear nd drow nb B1 hP
  have N0 := Box.new w3 25 #[Value.int IntKind.i64 t.kind, Value.string ⟨t.name.toArray⟩, Value.string ⟨t.part.toArray⟩, Value.int IntKind.u64 t.num, Value.int IntKind.i64 t.wid, Value.int IntKind.i64 t.at_, Value.slice A7 t.kids.length c7]
  have nb2 : Below w3.heap.size w3 (w3.alloc (Obj.cells #[Value.int IntKind.i64 t.kind, Value.string ⟨t.name.toArray⟩, Value.string ⟨t.part.toArray⟩, Value.int IntKind.u64 t.num, Value.int IntKind.i64 t.wid, Value.int IntKind.i64 t.at_, Value.slice A7 t.kids.length c7] 25)) := (Below.refl _ _).alloc (Nat.le_refl _) _
  go_wp2_with fail
  refine (strip_g t u g HU.out hg.out HF.out.1 HF.out.2 _ A7 c7 (gAt_later nb2 _ _ hg3)).mono ?_
  rintro e w4 ⟨LA, LC, rfl, hgg, B5⟩
  have N1 := N0.below B5
  have nb6 := nb2.trans (B5.mono nb2.size)
  have S1 := Box.new w4 25 #[Value.int IntKind.i64 g.kind, Value.string g.name, Value.string g.part, Value.int IntKind.u64 g.num, Value.int IntKind.i64 g.wid, Value.int IntKind.i64 g.at_, Value.slice LA g.kids.length LC]
  have nb7 : Below w4.heap.size w4 (w4.alloc (Obj.cells #[Value.int IntKind.i64 g.kind, Value.string g.name, Value.string g.part, Value.int IntKind.u64 g.num, Value.int IntKind.i64 g.wid, Value.int IntKind.i64 g.at_, Value.slice LA g.kids.length LC] 25)) := (Below.refl _ _).alloc (Nat.le_refl _) _
  clear N0 nb2 B5
  go_upto_region 8 with fail
  have N2 := N1.below nb7
  have nb8 := nb6.trans (nb7.mono nb6.size)
  have B8 := B4.trans (nb8.mono B4.size)
  replace hgg := gAt_later nb7 _ _ hgg
  replace hg3 := gAt_later nb8 _ _ hg3
  obtain ⟨Z, hZ⟩ : ∃ Y, (w4.alloc (Obj.cells #[Value.int IntKind.i64 g.kind, Value.string g.name, Value.string g.part, Value.int IntKind.u64 g.num, Value.int IntKind.i64 g.wid, Value.int IntKind.i64 g.at_, Value.slice LA g.kids.length LC] 25)) = Y := ⟨_, rfl⟩
  rw [hZ] at S1 N2 B8 hgg hg3 ⊢
  clear hZ nb7 nb8 nb6 N1 B4
  obtain ⟨P, hPe⟩ : ∃ P, w3.heap.size = P := ⟨_, rfl⟩
  obtain ⟨Q, hQe⟩ : ∃ Q, w4.heap.size = Q := ⟨_, rfl⟩
  rw [hPe] at N2 ⊢
  rw [hQe] at S1 ⊢
  clear hPe hQe
  have S0 : Z.cell? ⟨P, 0, none⟩ = some (Value.int IntKind.i64 t.kind) ∧ Z.cell? ⟨P, 1, none⟩ = some (Value.string ⟨t.name.toArray⟩) ∧ Z.cell? ⟨P, 2, none⟩ = some (Value.string ⟨t.part.toArray⟩) ∧ Z.cell? ⟨P, 3, none⟩ = some (Value.int IntKind.u64 t.num) ∧ Z.cell? ⟨P, 4, none⟩ = some (Value.int IntKind.i64 t.wid) ∧ Z.cell? ⟨P, 5, none⟩ = some (Value.int IntKind.i64 t.at_) ∧ Z.cell? ⟨P, 6, none⟩ = some (Value.slice A7 t.kids.length c7) ∧ Z.cell? ⟨Q, 0, none⟩ = some (Value.int IntKind.i64 g.kind) ∧ Z.cell? ⟨Q, 1, none⟩ = some (Value.string g.name) ∧ Z.cell? ⟨Q, 2, none⟩ = some (Value.string g.part) ∧ Z.cell? ⟨Q, 3, none⟩ = some (Value.int IntKind.u64 g.num) ∧ Z.cell? ⟨Q, 4, none⟩ = some (Value.int IntKind.i64 g.wid) ∧ Z.cell? ⟨Q, 5, none⟩ = some (Value.int IntKind.i64 g.at_) ∧ Z.cell? ⟨Q, 6, none⟩ = some (Value.slice LA g.kids.length LC) ∧ Below Z.heap.size Z Z := ⟨N2.cell 0, N2.cell 1, N2.cell 2, N2.cell 3, N2.cell 4, N2.cell 5, N2.cell 6, S1.cell 0, S1.cell 1, S1.cell 2, S1.cell 3, S1.cell 4, S1.cell 5, S1.cell 6, Below.refl _ _⟩
  have Y1 := Lib.hid (valid_t t HV.out.1 HV.out.2 Z (hp.later B8) A7 c7 hg3)
  have Y2 := Lib.hid (valid_g g HV2.out.1 HV2.out.2 Z (hp.later B8) LA LC hgg)
  have Y3 := Lib.hid (order_t s t HO.out hlen HOL.out Z A7 c7 hg3)
  have Y4 : Hid (StrC Z g LA LC) := Lib.hid fun w hb => strip_gg u g hu2.out hg.out HF2.out.1 HF2.out.2 w LA LC (gAt_later hb _ _ hgg)
  have Y5 : Hid (gAt Z g (.slice LA g.kids.length LC)) := Lib.hid hgg
  clear N2 S1 hg3 hgg HV HV2 HF HF2 HO HOL HU hg hu2 hlen hp
  go_region_held3 (fun w' => w'.cell? ⟨P, 0, none⟩ = some (Value.int IntKind.i64 t.kind) ∧ w'.cell? ⟨P, 1, none⟩ = some (Value.string ⟨t.name.toArray⟩) ∧ w'.cell? ⟨P, 2, none⟩ = some (Value.string ⟨t.part.toArray⟩) ∧ w'.cell? ⟨P, 3, none⟩ = some (Value.int IntKind.u64 t.num) ∧ w'.cell? ⟨P, 4, none⟩ = some (Value.int IntKind.i64 t.wid) ∧ w'.cell? ⟨P, 5, none⟩ = some (Value.int IntKind.i64 t.at_) ∧ w'.cell? ⟨P, 6, none⟩ = some (Value.slice A7 t.kids.length c7) ∧ w'.cell? ⟨Q, 0, none⟩ = some (Value.int IntKind.i64 g.kind) ∧ w'.cell? ⟨Q, 1, none⟩ = some (Value.string g.name) ∧ w'.cell? ⟨Q, 2, none⟩ = some (Value.string g.part) ∧ w'.cell? ⟨Q, 3, none⟩ = some (Value.int IntKind.u64 g.num) ∧ w'.cell? ⟨Q, 4, none⟩ = some (Value.int IntKind.i64 g.wid) ∧ w'.cell? ⟨Q, 5, none⟩ = some (Value.int IntKind.i64 g.at_) ∧ w'.cell? ⟨Q, 6, none⟩ = some (Value.slice LA g.kids.length LC) ∧ Below Z.heap.size Z w') (with_reducible (first | assumption | exact tdrew ‹_› | exact tdrew (tdrew ‹_›)))
    (first
      | (go_at_call 16; (first | ((with_reducible refine (yesUse Y1 ‹_›).mono ?_); rintro e w11 ⟨rfl, hb11⟩; have L11 := tkeep hb11 ‹_›) | ((with_reducible refine (yesUse Y2 ‹_›).mono ?_); rintro e w12 ⟨rfl, hb12⟩; have L12 := tkeep hb12 ‹_›)))
      | (go_at_call 18; ((with_reducible refine (strUse Y4 ‹_›).mono ?_); rintro e w13 ⟨KA, KC, rfl, gk1, hb13⟩; have L13 := tkeep hb13 ‹_›))
      | (go_at_call 14; ((first | (with_reducible refine (sameUseG g _ KA LA KC LC gk1 (gAt_later L13.2.2.2.2.2.2.2.2.2.2.2.2.2.2 _ _ Y5.out)).mono ?_) | (with_reducible refine (sameUseG g _ KA LA KC LC (gAt_later (Drew.below (a := w13) ⟨1, rfl⟩) _ _ gk1) (gAt_later (Drew.below (a := w13) ⟨1, rfl⟩) _ _ (gAt_later L13.2.2.2.2.2.2.2.2.2.2.2.2.2.2 _ _ Y5.out))).mono ?_)); rintro e w14 ⟨rfl, hb14⟩; have L14 := tkeep hb14 ‹_›))
      | (go_at_call 20; ((with_reducible refine (yesUse Y3 ‹_›).mono ?_); rintro e w15 ⟨rfl, hb15⟩; have L15 := tkeep hb15 ‹_›)))
  have B9 := B8.trans (L15.2.2.2.2.2.2.2.2.2.2.2.2.2.2.mono B8.size)
  go_wp2
  go_ret
  exact ⟨rfl, B9⟩
theorem trees_any (s : ByteArray) (W : World) (hs : s.size ≤ 9223372036854775807) (hp : PV W) :
    Calls Tryz.prog 4 #[.string s] W fun e w' => e = .returned (.bool true) ∧ Below W.heap.size W w' := by
  by_cases hl : 4100 < s.size
  · exact trees_long s W hp (by omega)
  obtain ⟨t, ds, hP⟩ : ∃ t ds, parseS s.data.toList = (t, ds) := ⟨_, _, rfl⟩
  have h := parse_tree s.data.toList
  rw [hP] at h
  rcases h with ⟨h1, h2, h3⟩ | ⟨h1, h2⟩
  · simp only at h1 h2 h3
    subst h2
    exact trees_bad s ds W hp (by omega) (Lib.hid hP) ds.length (Lib.hid rfl) (List.length_pos_iff.2 h1) (by simp; omega)
  · simp only at h1 h2
    subst h1
    obtain ⟨⟨v1, v2⟩, k1, k2, o⟩ := h2
    have hlx : (lexS s.data.toList).1.length ≤ 1500 := by
      obtain ⟨l, x, a, h⟩ : ∃ l x a, lexS s.data.toList = (l, x, a) := ⟨_, _, _, rfl⟩
      rw [h]
      by_cases hx : x = 0
      · subst hx; exact (lexS_ok h).2.1
      · unfold lexS at h
        split at h
        · cases h; simp
        · split at h
          · cases h; exact absurd rfl hx
          · have e := congrArg Prod.fst h
            simp only at e
            rw [← e]; simp
    have hh := parse_hh s.data.toList hlx
    rw [hP] at hh
    have hh1 : htT t ≤ 22 := hh.1
    have hh2 : fewT t := hh.2
    have hc := oc_all s t v2
    have hkl : t.kids.length ≤ 2000 := by
      have := v2
      cases t
      have e := this.2.2.2.1
      rw [toGs_length] at e
      exact e
    have hv : validT t.toG = true := by unfold validT; rw [v1, (toG_f t).1, k1]; rfl
    have hv2 : validT (stripT t).toG = true := by
      unfold validT
      rw [valid_strip, v1, (toG_f _).1]
      have : (stripT t).kind = t.kind := by cases t; rfl
      rw [this, k1]; rfl
    exact trees_ok s t (stripT t) (stripT t).toG W hp (by omega) (Lib.hid hP) rfl (Lib.hid rfl) ⟨hh2, by omega⟩ ⟨few_strip t hh2, by rw [ht_strip]; omega⟩ (Lib.hid (strip_twice t)) ⟨hv, v2⟩ ⟨hv2, ok_strip t v2⟩ (by rw [k1]; rfl) (by rw [k2]; rfl) hc.1 hkl o
end Go.Proofs.YtmkehecapjdfdaaGreatDoor

/- ParserTrees: for every input the statement's function returns true, and the input reads afterwards as it read before; the listed package-level variables start as the program's text lays them (the card ties them to it). No other condition. -/
namespace Go.Proofs.YtmkehecapjdfdaaGreatDoor
open Go.ChangeShapes Go.WideShapes Go.ChangeAt Go.RowKit Go.Joins Go.ChangeMaps

set_option maxRecDepth 100000 in
theorem parserTrees_lifted (os : Os) (started : os.Started) (H : Type) (enc : TypeId × Value → H) :
    ReturnsInHanded {} Tryz.checked os 4 .any (fun w args => (Rows.parserTreesSpec.pre enc Tryz.prog Tryz.f4 [] false w args ∧ laidMetH Tryz.prog laidP w) ∧ sizedMet enc Tryz.prog Tryz.f4 (OpenSpec.ofChange Rows.parserTreesSpec) false w args)
      (Rows.parserTreesSpec.post enc Tryz.prog Tryz.f4 false true false false) := by
  refine returnsInHanded_of_change_and (C := Tryz.checked) (X := fun w _ => laidMetH Tryz.prog laidP w) (fun _ _ _ hh h => h.of_heap hh) Tryz.own started (by kernel_rfl) Tryz.func4
    (ChangeSpec.witness_shaped (enc := enc) (C := Tryz.checked) (os := os) (X := fun w _ => laidMetH Tryz.prog laidP w) false (World.laidAll Tryz.prog os laidP) #[.string ⟨#[]⟩] 8 (World.laidAll_os _ _ _) (World.shaped_of_ZipB (by kernel_rfl) (by kernel_rfl)) (by kernel_rfl) (by kernel_rfl) (by kernel_rfl) (lay_met os _)) ?_
  intro W base args ds gs before hval0 hW _ _ hL0 _
  have hL : laidMet Tryz.prog laidP W := by rw [← MakeChecks.laidMetH_plain _ _ _ (by kernel_rfl)]; exact hL0
  have hval : ∀ (j : Nat) t v, Tryz.f4.params[j]? = some t → args[j]? = some v → Value.okWide Tryz.prog W .any base t v := hval0
  have hW' := hW
  obtain ⟨p, q, hA0, hV, rfl, hfz, hnd⟩ := hW
  have hA : DataW.TrodAll enc Tryz.prog W 0 (fun _ => true) true Tryz.f4.params.toList args.toList ds p := hA0
  rw [Tryz.params4] at hA hval
  obtain ⟨v0, vs0, d0, ds0, p0, q0, hargs, rfl, rfl, h0, r0⟩ := trodAll_cons hA
  obtain ⟨rfl, rfl, rfl⟩ := trodAll_nil r0
  obtain rfl : args = #[v0] := by cases args; simp_all
  obtain ⟨rfl, rfl⟩ := trodVars_none hV
  simp only [List.append_nil] at hW'
  have hlt : ∀ x ∈ p0, x.block < W.heap.size := fun x hx => by simpa using hW'.lt x hx
  have h0k := h0
  obtain ⟨x0, rfl, rfl, hp0, wx0⟩ := open_string Tryz.underlying9 (hval 0 9 v0 rfl rfl) h0
  clear hA0 hval0
  refine (trees_any x0 W (by unfold maxLen at wx0; omega) (pv_of_laid hL)).mono fun e W' ⟨he, hB⟩ => ?_
  subst he
  refine ⟨_, rfl, _, _, _, [], p0 ++ [], [], hW', trodAll_mk1 (shut_bool Tryz.underlying4 _), ?_, rfl, hB.frame _, fun h => by cases h⟩
  exact trodAll_cons_mk (Below.trod Tryz.laidOut (by kernel_rfl) (of_decide_eq_true (by kernel_rfl)) h0k hB (fun x hx => hlt x (by simp [hx]))) (trodAll_mk0)

theorem parserTrees_said : Rows.ParserTreesSaid :=
  OpenClaim.holds_of_wide 4 Tryz.f4 rfl rfl rfl rfl rfl rfl rfl ⟨rfl, rfl, rfl, rfl, rfl⟩ rfl rfl rfl rfl rfl (by kernel_rfl) Tryz.func4 (by kernel_rfl)
    (of_decide_eq_true (by kernel_rfl)) (by unfold Func.isWrapper; first | (rw [if_pos (by decide +kernel)]; kernel_rfl) | (rw [if_neg (by decide +kernel)]; exact ⟨rfl, rfl⟩))
    (fun os started H enc _ => parserTrees_lifted os started H enc)

theorem parserTrees_holds : Rows.ParserTreesCardSaid :=
  Claim7.holds_tied_plain_at .later [] [.data, .data, .data, .data, .sentinel, .sentinel, .data, .data, .pinned] true Rows.parserTreesCard.stood.harness true
    parserTrees_said (fun _ h => by cases h) (by kernel_rfl) (fun _ h => by cases h) parserTrees_row_tie rfl ⟨rfl, rfl⟩ (by kernel_rfl) rfl
    (fun f fn hf hfn => by
      obtain rfl : f = 4 := Option.some.inj ((show Tryz.prog.funcNamed "formfinder/formfinderlaw03.ParserTrees" = some 4 by kernel_rfl).symm.trans hf) |>.symm
      obtain rfl : fn = Tryz.f4 := (Option.some.inj (Tryz.func4.symm.trans hfn)).symm
      exact ⟨by kernel_rfl, fun j t ht => by
        rw [Tryz.params4] at ht
        have hm : t ∈ ([9] : List Nat) := by simpa using Array.mem_of_getElem? ht
        have hall : (([9] : List Nat).all fun u => !Tryz.prog.wantsStandIn u) = true := by kernel_rfl
        exact (show Tryz.prog.wantsStandIn t = false by simpa using List.all_eq_true.1 hall t hm)⟩)
    (by kernel_rfl)
#print axioms parserTrees_holds
end Go.Proofs.YtmkehecapjdfdaaGreatDoor
