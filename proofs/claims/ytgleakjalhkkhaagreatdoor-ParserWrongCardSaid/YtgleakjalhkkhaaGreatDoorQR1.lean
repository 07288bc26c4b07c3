/- Joined texts: PWin, PWrS, PWrI, PWrP, PWrL, PWrQ, PWrR. -/
import Derived.Test.YtgleakjalhkkhaaGreatDoorQC1
import Derived.Test.YtgleakjalhkkhaaGreatDoorQG2

/- Two lists of tokens that agree over a window, perhaps shifted: what is read without a diagnostic. -/
namespace Go.Proofs.YtgleakjalhkkhaaGreatDoor
open Go

/-- From lo up to n the second list bears the words of the first one, d places later. -/
structure Win (ts ts' : List PTok) (lo n d : Nat) : Prop where
  word : ∀ i, lo ≤ i → i < n → wd ts' (i + d) = wd ts i
  tok : ∀ i, lo ≤ i → i < n → KEq (tk ts i) (tk ts' (i + d))
  len : n ≤ ts.length
  len' : n + d ≤ ts'.length
/-- What the first one reads within the window, the second one reads, too; D: what it has reported before. -/
def WI {α : Type} (lo n d : Nat) (D : List (Nat × Nat)) (V : α → α → Prop) (m m' : PM α) : Prop :=
  ∀ i a j, lo ≤ i → j < n → m ⟨i, []⟩ = .ok a ⟨j, []⟩ → ∃ a', V a a' ∧ m' ⟨i + d, D⟩ = .ok a' ⟨j + d, D⟩
def WR (lo n d : Nat) (D : List (Nat × Nat)) {α : Type} (V : α → α → Prop) (m m' : PM α) : Prop := Gw m ∧ Mv 0 m ∧ WI lo n d D V m m'
theorem mv_bnd0 {α β : Type} {m : PM α} {f : α → PM β} (h : Mv 1 m) (g : ∀ a, Mv 0 (f a)) : Mv 0 (bnd m f) := h.z.zero g
section
variable {ts ts' : List PTok} {lo n d : Nat} {D : List (Nat × Nat)} (X : Win ts ts' lo n d)
theorem wi_bnd {α β : Type} {V : α → α → Prop} {W : β → β → Prop} {m m' : PM α} {f f' : α → PM β} (hg : Gw m) (hm0 : Mv 0 m) (hm : WI lo n d D V m m') (hfg : ∀ a, Gw (f a)) (hfm : ∀ a, Mv 0 (f a)) (hf : ∀ a a', V a a' → WI lo n d D W (f a) (f' a')) : WI lo n d D W (bnd m f) (bnd m' f') := by
  intro i b j hi hj h
  obtain ⟨a, p, h1, h2⟩ := bnd_nil hg hfg h
  have e1 := hm0.ok _ _ _ h1
  have e2 := (hfm a).ok _ _ _ h2
  simp only at e1 e2
  obtain ⟨a', hv, h3⟩ := hm i a p hi (by omega) h1
  obtain ⟨b', hw, h4⟩ := hf a a' hv p b j (by omega) hj h2
  exact ⟨b', hw, by rw [bnd_ok h3]; exact h4⟩
theorem wr_bnd {α β : Type} {V : α → α → Prop} {W : β → β → Prop} {m m' : PM α} {f f' : α → PM β} [Rf V] (hm : WR lo n d D V m m') (hf : ∀ a a', V a a' → WR lo n d D W (f a) (f' a')) : WR lo n d D W (bnd m f) (bnd m' f') :=
  ⟨gw_bnd hm.1 fun a => (hf a a (Rf.rf a)).1, hm.2.1.zero fun a => (hf a a (Rf.rf a)).2.1, wi_bnd hm.1 hm.2.1 hm.2.2 (fun a => (hf a a (Rf.rf a)).1) (fun a => (hf a a (Rf.rf a)).2.1) fun a a' h => (hf a a' h).2.2⟩
include X
theorem wr_take (w : Str) : WR lo n d D KEq (take ts w) (take ts' w) := by
  refine ⟨gw_take ts w, (mv_take ts w).z, fun i a j hi hj h => ?_⟩
  have hm := (mv_take ts w).ok _ _ _ h
  simp only at hm
  unfold take at h ⊢
  split at h
  · rename_i hc
    cases h
    refine ⟨tk ts' (i + d), X.tok i hi (by omega), ?_⟩
    rw [if_pos (by rw [X.word i hi (by omega)]; exact hc)]
    simp only [Res.ok.injEq, St.mk.injEq, and_true, true_and]
    omega
  · cases h
omit X in
theorem wr_fail {α : Type} {V : α → α → Prop} : WR lo n d D V (fail ts 10) (fail ts' 10) := ⟨gw_fail ts 10, mv_fail ts 0 10, fun i a j hi hj h => by cases h⟩
theorem wr_sel {α : Type} {V : α → α → Prop} (F F' : Str → PM α) (h : ∀ w, WR lo n d D V (F w) (F' w) ∨ (w ≠ wEnd ∧ F w = fail ts 11 ∧ F' w = fail ts' 11)) : WR lo n d D V (fun s => F (wd ts s.nx) s) (fun s => F' (wd ts' s.nx) s) := by
  have hmv : ∀ w, Mv 0 (F w) := fun w => by
    rcases h w with h | ⟨_, h, _⟩
    · exact h.2.1
    · rw [h]; exact mv_fail ts 0 11
  refine ⟨gw_sel fun w => ?_, ⟨fun s a s' e => (hmv _).ok s a s' e, fun s l s' e => (hmv _).out s l s' e⟩, fun i a j hi hj e1 => ?_⟩
  · rcases h w with h | ⟨_, h, _⟩
    · exact h.1
    · rw [h]; exact gw_fail ts 11
  · have e2 : F (wd ts i) ⟨i, []⟩ = .ok a ⟨j, []⟩ := e1
    have hij := (hmv (wd ts i)).ok _ _ _ e2
    simp only at hij
    rcases h (wd ts i) with h | ⟨_, h, _⟩
    · simp only [X.word i hi (by omega)]
      exact h.2.2 i a j hi hj e2
    · rw [h] at e2; cases e2
omit X in
theorem wr_off {α : Type} {V : α → α → Prop} (F F' : Nat → PM α) (h : ∀ k k', WR lo n d D V (F k) (F' k')) : WR lo n d D V (fun s => F (tk ts s.nx).off s) (fun s => F' (tk ts' s.nx).off s) :=
  ⟨fun s => (h _ 0).1 s, ⟨fun s a s' e => (h _ 0).2.1.ok s a s' e, fun s l s' e => (h _ 0).2.1.out s l s' e⟩, fun i => (h _ _).2.2 i⟩
theorem typed_wi (k : Nat) (h : WR lo n d D TEq (typedName ts k) (typedName ts' k)) : ∀ g g' l l' i a j, LEq l l' → ts.length ≤ i + g → ts'.length ≤ i + d + g' → lo ≤ i → j < n → typedMore ts k g l ⟨i, []⟩ = .ok a ⟨j, []⟩ → ∃ a', LEq a a' ∧ typedMore ts' k g' l' ⟨i + d, D⟩ = .ok a' ⟨j + d, D⟩
  | 0, g', l, l', i, a, j, hl, hg, hg', hi, hj, hh => by
    cases hh
    have := X.len
    omega
  | g + 1, 0, l, l', i, a, j, hl, hg, hg', hi, hj, hh => by
    have hm := (mv_typedMore ts k (g + 1) l).ok _ _ _ hh
    simp only at hm
    have := X.len'
    omega
  | g + 1, g' + 1, l, l', i, a, j, hl, hg, hg', hi, hj, hh => by
    have hm := (mv_typedMore ts k (g + 1) l).ok _ _ _ hh
    simp only at hm
    have hw : wd ts' (i + d) = wd ts i := X.word i hi (by omega)
    have hgw := typed_gw ts k h.1
    unfold typedMore at hh ⊢
    simp only [hw] at hh ⊢
    by_cases hc : wd ts i = pComma
    · rw [if_pos hc] at hh ⊢
      obtain ⟨_, p, h1, h2⟩ := bnd_nil (gw_take ts _) (fun _ => gw_bnd h.1 fun t => hgw g _) hh
      obtain ⟨t, q, h3, h4⟩ := bnd_nil h.1 (fun t => hgw g _) h2
      have e1 := (mv_take ts _).ok _ _ _ h1
      have e2 := (mv_typedName ts k).ok _ _ _ h3
      have e3 := (mv_typedMore ts k g _).ok _ _ _ h4
      simp only at e1 e2 e3
      obtain ⟨_, _, f1⟩ := (wr_take X (D := D) pComma).2.2 i _ p hi (by omega) h1
      obtain ⟨t', ht, f2⟩ := h.2.2 p t q (by omega) (by omega) h3
      rw [bnd_ok f1, bnd_ok f2]
      exact typed_wi k h g g' _ _ q a j (hl.snoc ht) (by omega) (by omega) (by omega) hj h4
    · rw [if_neg hc] at hh ⊢
      cases hh
      exact ⟨l', hl, rfl⟩
theorem args_wi (x x' : PM T) (hx : Mv 1 x) (h : WR lo n d D TEq x x') : ∀ g g' l l' i a j, LEq l l' → ts.length ≤ i + g → ts'.length ≤ i + d + g' → lo ≤ i → j < n → argsMore ts x g l ⟨i, []⟩ = .ok a ⟨j, []⟩ → ∃ a', LEq a a' ∧ argsMore ts' x' g' l' ⟨i + d, D⟩ = .ok a' ⟨j + d, D⟩
  | 0, g', l, l', i, a, j, hl, hg, hg', hi, hj, hh => by
    cases hh
    have := X.len
    omega
  | g + 1, 0, l, l', i, a, j, hl, hg, hg', hi, hj, hh => by
    have hm := (mv_argsMore ts hx (g + 1) l).ok _ _ _ hh
    simp only at hm
    have := X.len'
    omega
  | g + 1, g' + 1, l, l', i, a, j, hl, hg, hg', hi, hj, hh => by
    have hm := (mv_argsMore ts hx (g + 1) l).ok _ _ _ hh
    simp only at hm
    have hw : wd ts' (i + d) = wd ts i := X.word i hi (by omega)
    have hgw := args_gw ts x h.1
    have step : ∀ p b, lo ≤ p → p ≤ j → i ≤ p → bnd x (fun t => argsMore ts x g (l ++ [t])) ⟨p, []⟩ = .ok b ⟨j, []⟩ → ∃ b', LEq b b' ∧ bnd x' (fun t => argsMore ts' x' g' (l' ++ [t])) ⟨p + d, D⟩ = .ok b' ⟨j + d, D⟩ := by
      intro p b hp hpj hip h2
      obtain ⟨t, q, h3, h4⟩ := bnd_nil h.1 (fun t => hgw g _) h2
      have e2 := hx.ok _ _ _ h3
      have e3 := (mv_argsMore ts hx g _).ok _ _ _ h4
      simp only at e2 e3
      obtain ⟨t', ht, f2⟩ := h.2.2 p t q hp (by omega) h3
      rw [bnd_ok f2]
      exact args_wi x x' hx h g g' _ _ q b j (hl.snoc ht) (by omega) (by omega) (by omega) hj h4
    unfold argsMore at hh ⊢
    simp only [hw] at hh ⊢
    by_cases hc : wd ts i = pRP
    · rw [if_pos hc] at hh ⊢
      cases hh
      exact ⟨l', hl, rfl⟩
    · rw [if_neg hc] at hh ⊢
      by_cases hn : l = []
      · rw [if_pos hn] at hh
        rw [if_pos (hl.isNil.1 hn)]
        exact step i a hi hm (Nat.le_refl _) hh
      · rw [if_neg hn] at hh
        rw [if_neg (fun h => hn (hl.isNil.2 h))]
        obtain ⟨_, p, h1, h2⟩ := bnd_nil (gw_take ts _) (fun _ => gw_bnd h.1 fun t => hgw g _) hh
        have e1 := (mv_take ts _).ok _ _ _ h1
        have e4 := (mv_bnd0 hx fun t => mv_argsMore ts hx g (l ++ [t])).ok _ _ _ h2
        simp only at e1 e4
        obtain ⟨_, _, f1⟩ := (wr_take X (D := D) pComma).2.2 i _ p hi (by omega) h1
        rw [bnd_ok f1]
        exact step p a (by omega) (by omega) (by omega) h2
theorem stmts_wi (m m' : PM T) (hx : Mv 1 m) (h : WR lo n d D TEq m m') : ∀ g g' l l' i a j, LEq l l' → ts.length ≤ i + g → ts'.length ≤ i + d + g' → lo ≤ i → j < n → stmts ts m g l ⟨i, []⟩ = .ok a ⟨j, []⟩ → ∃ a', LEq a a' ∧ stmts ts' m' g' l' ⟨i + d, D⟩ = .ok a' ⟨j + d, D⟩
  | 0, g', l, l', i, a, j, hl, hg, hg', hi, hj, hh => by
    cases hh
    have := X.len
    omega
  | g + 1, 0, l, l', i, a, j, hl, hg, hg', hi, hj, hh => by
    have hm := (mv_stmts ts hx (g + 1) l).ok _ _ _ hh
    simp only at hm
    have := X.len'
    omega
  | g + 1, g' + 1, l, l', i, a, j, hl, hg, hg', hi, hj, hh => by
    have hm := (mv_stmts ts hx (g + 1) l).ok _ _ _ hh
    simp only at hm
    have hw : wd ts' (i + d) = wd ts i := X.word i hi (by omega)
    by_cases hc : wd ts i = pRB
    · have e1 : stmts ts m (g + 1) l ⟨i, []⟩ = .ok l ⟨i, []⟩ := by
        show (if wd ts i = pRB then _ else _) = _
        rw [if_pos hc]
      have e2 : stmts ts' m' (g' + 1) l' ⟨i + d, D⟩ = .ok l' ⟨i + d, D⟩ := by
        show (if wd ts' (i + d) = pRB then _ else _) = _
        rw [if_pos (by rw [hw]; exact hc)]
      rw [e1] at hh
      cases hh
      exact ⟨l', hl, e2⟩
    · have e1 := stmts_at ts m g l ⟨i, []⟩ hc
      have e2 := stmts_at ts' m' g' l' ⟨i + d, D⟩ (by show ¬ wd ts' (i + d) = pRB; rw [hw]; exact hc)
      rw [e1] at hh
      rw [e2]
      cases hm1 : m ⟨i, []⟩ with
      | ok t s1 =>
        have ha : attempt m 0 ⟨i, []⟩ = .ok (some t) s1 := by unfold attempt; rw [hm1]
        rw [bnd_ok ha] at hh
        have h3 := (stmts_gw ts m h.1 g (l ++ [t]) s1).1 _ _ hh
        obtain ⟨p, ds⟩ := s1
        have : ds = [] := by simpa using h3
        subst this
        have hp := hx.ok _ _ _ hm1
        have hq := (mv_stmts ts hx g (l ++ [t])).ok _ _ _ hh
        simp only at hp hq
        obtain ⟨t', ht, h4⟩ := h.2.2 i t p hi (by omega) hm1
        have hb : attempt m' 0 ⟨i + d, D⟩ = .ok (some t') ⟨p + d, D⟩ := by unfold attempt; rw [h4]
        rw [bnd_ok hb]
        exact stmts_wi m m' hx h g g' _ _ p a j (hl.snoc ht) (by omega) (by omega) (by omega) hj hh
      | out q s1 =>
        exfalso
        have h5 := (h.1 _).2 _ _ hm1
        by_cases hq : q ≤ 0
        · have ha : attempt m 0 ⟨i, []⟩ = .ok none s1 := by unfold attempt; rw [hm1]; simp only [if_pos hq]
          rw [bnd_ok ha] at hh
          simp only [stK, skipStatement] at hh
          cases hk : skipGo ts ts.length 0 s1 with
          | ok u s2 =>
            rw [bnd_ok hk] at hh
            have e2 := (skip_gw ts _ _ _).1 _ _ hk
            have h6 := ((stmts_gw ts m h.1 g l s2).1 _ _ hh).length_le
            rw [e2] at h6
            have h7 := h5.2
            simp at h6 h7
            rw [h6] at h7
            simp at h7
          | out u s2 => rw [bnd_out hk] at hh; cases hh
        · have ha : attempt m 0 ⟨i, []⟩ = .out q s1 := by unfold attempt; rw [hm1]; simp only [if_neg hq]
          rw [bnd_out ha] at hh; cases hh
theorem win_clo : Clo ts ts' (fun {α} V (m m' : PM α) => WR lo n d D V m m') where
  ret := fun {α V a a'} h => ⟨gw_ret a, mv_ret a, fun i b j hi hj hh => by cases hh; exact ⟨a', h, rfl⟩⟩
  bnd := fun hm hf => wr_bnd hm hf
  take := fun w _ => wr_take X w
  fail := wr_fail
  sel := fun F F' h => wr_sel X F F' h
  off := fun F F' h => wr_off F F' h
  typed := fun k l l' hl h => ⟨typed_gw ts k h.1 _ _, mv_typedMore ts k _ _, fun i a j hi hj hh => typed_wi X k h _ _ _ _ i a j hl (by omega) (by omega) hi hj hh⟩
  args := fun x x' hx _ h => ⟨args_gw ts x h.1 _ _, mv_argsMore ts hx _ _, fun i a j hi hj hh => args_wi X x x' hx h _ _ _ _ i a j LEq.nil (by omega) (by omega) hi hj hh⟩
  stmts := fun m m' hx _ h => ⟨stmts_gw ts m h.1 _ _, mv_stmts ts hx _ _, fun i a j hi hj hh => stmts_wi X m m' hx h _ _ _ _ i a j LEq.nil (by omega) (by omega) hi hj hh⟩
theorem items_wi (m m' : PM T) (hx : Mv 1 m) (h : WR lo n d D TEq m m') : ∀ g g' l l' i a j, LEq l l' → ts.length ≤ i + g → ts'.length ≤ i + d + g' → lo ≤ i → j < n → items ts m g l ⟨i, []⟩ = .ok a ⟨j, []⟩ → ∃ a', LEq a a' ∧ items ts' m' g' l' ⟨i + d, D⟩ = .ok a' ⟨j + d, D⟩
  | 0, g', l, l', i, a, j, hl, hg, hg', hi, hj, hh => by
    cases hh
    have := X.len
    omega
  | g + 1, 0, l, l', i, a, j, hl, hg, hg', hi, hj, hh => by
    have hm := items_mono ts m hx (g + 1) l _ _ _ hh
    simp only at hm
    have := X.len'
    omega
  | g + 1, g' + 1, l, l', i, a, j, hl, hg, hg', hi, hj, hh => by
    have hm := items_mono ts m hx (g + 1) l _ _ _ hh
    simp only at hm
    have hw : wd ts' (i + d) = wd ts i := X.word i hi (by omega)
    rw [items_at] at hh ⊢
    simp only [hw] at hh ⊢
    generalize (if wd ts i = kParse then 0 else 1) = most at hh ⊢
    cases hm1 : m ⟨i, []⟩ with
    | ok t s1 =>
      have ha : attempt m most ⟨i, []⟩ = .ok (some t) s1 := by unfold attempt; rw [hm1]
      rw [bnd_ok ha] at hh
      have h3 : s1.ds <+: ([] : List (Nat × Nat)) := by
        simp only [itK] at hh
        split at hh
        · cases hh; exact List.prefix_refl _
        · exact items_ds ts m h.1 _ _ _ _ _ hh
      obtain ⟨p, ds⟩ := s1
      have : ds = [] := by simpa using h3
      subst this
      have hp := hx.ok _ _ _ hm1
      simp only at hp
      have hpj : p ≤ j := by
        simp only [itK] at hh
        split at hh
        · cases hh; exact Nat.le_refl _
        · exact items_mono ts m hx _ _ _ _ _ hh
      obtain ⟨t', ht, h4⟩ := h.2.2 i t p hi (by omega) hm1
      have hb : attempt m' most ⟨i + d, D⟩ = .ok (some t') ⟨p + d, D⟩ := by unfold attempt; rw [h4]
      rw [bnd_ok hb]
      simp only [itK] at hh ⊢
      rw [← ht.kind]
      by_cases hk : t.kind = 6
      · rw [if_pos hk] at hh ⊢
        cases hh
        exact ⟨_, hl.snoc ht, rfl⟩
      · rw [if_neg hk] at hh ⊢
        exact items_wi m m' hx h g g' _ _ p a j (hl.snoc ht) (by omega) (by omega) (by omega) hj hh
    | out q s1 =>
      exfalso
      have h5 := (h.1 _).2 _ _ hm1
      by_cases hq : q ≤ most
      · have ha : attempt m most ⟨i, []⟩ = .ok none s1 := by unfold attempt; rw [hm1]; simp only [if_pos hq]
        rw [bnd_ok ha] at hh
        simp only [itK] at hh
        cases hk : skipItem ts ts.length s1 with
        | ok u s2 =>
          rw [bnd_ok hk] at hh
          have e2 := (skipItem_ds ts _ _).1 _ _ hk
          have h6 := (items_ds ts m h.1 _ _ _ _ _ hh).length_le
          rw [e2] at h6
          have h7 := h5.2
          simp at h6 h7
          rw [h6] at h7
          simp at h7
        | out u s2 => rw [bnd_out hk] at hh; cases hh
      · have ha : attempt m most ⟨i, []⟩ = .out q s1 := by unfold attempt; rw [hm1]; simp only [if_neg hq]
        rw [bnd_out ha] at hh; cases hh
end
end Go.Proofs.YtgleakjalhkkhaaGreatDoor

/- Wrong statements: where each one is wrong, and what is left out. -/
namespace Go.Proofs.YtgleakjalhkkhaaGreatDoor
open Go

section
variable {ts : List PTok}
/-- The words from i on. -/
def Ws (ts : List PTok) (i : Nat) : List Str → Prop
  | [] => True
  | w :: r => wd ts i = w ∧ Ws ts (i + 1) r
theorem skp_one' {g o i : Nat} {ds : List (Nat × Nat)} (h : plainB (wd ts i) = true) : skipGo ts (g + 1) o ⟨i, ds⟩ = skipGo ts g o ⟨i + 1, ds⟩ := skp_one h
theorem skp_in {g o i : Nat} {ds : List (Nat × Nat)} (h : wd ts i = pSemi) : skipGo ts (g + 1) (o + 1) ⟨i, ds⟩ = skipGo ts g (o + 1) ⟨i + 1, ds⟩ := by
  rw [skipGo]; simp only [h]
  rw [if_neg (by decide), if_neg (by decide), if_neg (by decide), if_neg (by omega)]
theorem skp_else {g i : Nat} {ds : List (Nat × Nat)} (h : wd ts i = pRB) (h2 : wd ts (i + 1) = kElse) : skipGo ts (g + 1) (0 + 1) ⟨i, ds⟩ = skipGo ts g 0 ⟨i + 1, ds⟩ := by
  rw [skipGo]; simp only [h, h2]
  rw [if_neg (by decide), if_neg (by decide), if_pos trivial, if_neg (by omega), if_neg (by simp)]
/-- A statement that is wrong at its p-th token, and left out after n tokens. -/
def Bad (ts : List PTok) (e b : PM T) (i p n : Nat) : Prop :=
  statement ts e b ⟨i, []⟩ = .out 0 ⟨i + p, [(10, (tk ts (i + p)).off)]⟩ ∧ ∀ ds, n + 2 ≤ ts.length → skipStatement ts ⟨i + p, ds⟩ = .ok () ⟨i + n, ds⟩
theorem skip_fuel {n : Nat} (h : n + 2 ≤ ts.length) : ∃ g, ts.length = g + (n + 2) := ⟨ts.length - (n + 2), by omega⟩
theorem ex_out {f i l : Nat} {w : Str} {m : PM T} {s' : St} (hw : wd ts i = w) (hm : exprOf ts (expression ts f) w = some m) (h : m ⟨i, []⟩ = .out l s') : expression ts (f + 1) ⟨i, []⟩ = .out l s' := by
  have : expression ts (f + 1) ⟨i, []⟩ = (match exprOf ts (expression ts f) (wd ts i) with | none => fail ts 10 ⟨i, []⟩ | some m => m ⟨i, []⟩) := congrFun (expression.eq_2 ts f) ⟨i, []⟩
  rw [this, hw, hm]; exact h
theorem ex_ok {f i : Nat} {w : Str} {m : PM T} {t : T} {s' : St} (hw : wd ts i = w) (hm : exprOf ts (expression ts f) w = some m) (h : m ⟨i, []⟩ = .ok t s') : expression ts (f + 1) ⟨i, []⟩ = .ok t s' := by
  have : expression ts (f + 1) ⟨i, []⟩ = (match exprOf ts (expression ts f) (wd ts i) with | none => fail ts 10 ⟨i, []⟩ | some m => m ⟨i, []⟩) := congrFun (expression.eq_2 ts f) ⟨i, []⟩
  rw [this, hw, hm]; exact h
theorem ex_bad {f i : Nat} {w : Str} (hw : wd ts i = w) (hm : exprOf ts (expression ts f) w = none) : expression ts (f + 1) ⟨i, []⟩ = .out 0 ⟨i, [(10, (tk ts i).off)]⟩ := by
  have : expression ts (f + 1) ⟨i, []⟩ = (match exprOf ts (expression ts f) (wd ts i) with | none => fail ts 10 ⟨i, []⟩ | some m => m ⟨i, []⟩) := congrFun (expression.eq_2 ts f) ⟨i, []⟩
  rw [this, hw, hm]; rfl
theorem ex_name {f i : Nat} {w : Str} (h0 : wd ts i = wName) (h1 : wd ts (i + 1) = w) (ha : w ≠ pLK) (hb : w ≠ pDot) (hc : w ≠ pLP) : ∃ t, expression ts (f + 1) ⟨i, []⟩ = .ok t ⟨i + 1, []⟩ := by
  refine ⟨.mk 22 (tk ts i).text [] 0 0 (tk ts i).off [], ex_ok h0 (m := readVariable ts (expression ts f)) rfl ?_⟩
  unfold readVariable
  rw [bnd_ok (tk_ok h0)]
  unfold varRest
  simp only [h1]
  rw [if_neg ha, if_neg hb, if_neg hc]
theorem ex_num {f i : Nat} (h0 : wd ts i = wNumber) (h1 : wd ts (i + 1) = pColon) (h2 : wd ts (i + 2) = wType) : ∃ t, expression ts (f + 1) ⟨i, []⟩ = .ok t ⟨i + 3, []⟩ := by
  refine ⟨.mk 21 [] [] (tk ts i).num (tk ts (i + 1 + 1)).num (tk ts i).off [], ex_ok h0 (m := readNumber ts) rfl ?_⟩
  unfold readNumber
  rw [bnd_ok (tk_ok h0), bnd_ok (tk_ok h1), bnd_ok (wi_ok h2)]
  rfl
theorem tk_out {w w' : Str} {i : Nat} (h : wd ts i = w') (hw : w' ≠ w) : take ts w ⟨i, []⟩ = .out 0 ⟨i, [(10, (tk ts i).off)]⟩ := by
  rw [tk_no (by rw [h]; exact hw)]; rfl
theorem st_of {e b : PM T} {i l : Nat} {w : Str} {m : PM T} {s' : St} (hw : wd ts i = w) (hm : stmtOf ts e b w = some m) (h : m ⟨i, []⟩ = .out l s') : statement ts e b ⟨i, []⟩ = .out l s' := by
  unfold statement
  simp only [hw, hm]
  exact h
theorem st_bad {e b : PM T} {i : Nat} {w : Str} (hw : wd ts i = w) (hm : stmtOf ts e b w = none) : statement ts e b ⟨i, []⟩ = .out 0 ⟨i, [(10, (tk ts i).off)]⟩ := by
  unfold statement
  simp only [hw, hm]
  rfl
abbrev E9 (ts : List PTok) : PM T := expression ts 9
abbrev B9 (ts : List PTok) : PM T := block ts 9
variable {i : Nat}
theorem bad0 (h : Ws ts i [kLet, pSemi]) : Bad ts (E9 ts) (B9 ts) i 1 2 := by
  obtain ⟨h0, h1, _⟩ := h
  refine ⟨st_of h0 (m := readNamed ts (E9 ts) 7 kLet) rfl ?_, fun ds hl => ?_⟩
  · unfold readNamed
    rw [bnd_ok (bg_ok h0)]
    refine bnd_out ?_
    unfold name
    exact bnd_out (tk_out h1 (by decide))
  · unfold skipStatement
    obtain ⟨g, hg⟩ := skip_fuel hl
    rw [hg]
    exact skp_semi h1
theorem bad1 (h : Ws ts i [kLet, wName, wNumber, pColon, wType, pSemi]) : Bad ts (E9 ts) (B9 ts) i 2 6 := by
  obtain ⟨h0, h1, h2, h3, h4, h5, _⟩ := h
  refine ⟨st_of h0 (m := readNamed ts (E9 ts) 7 kLet) rfl ?_, fun ds hl => ?_⟩
  · unfold readNamed
    rw [bnd_ok (bg_ok h0), bnd_ok (nm_ok h1)]
    exact bnd_out (tk_out h2 (by decide))
  · unfold skipStatement
    obtain ⟨g, hg⟩ := skip_fuel hl
    rw [hg, show g + (6 + 2) = (((g + 4) + 1) + 1) + 1 + 1 by omega, skp_one (by rw [h2]; rfl), skp_one (by rw [h3]; rfl), skp_one (by rw [h4]; rfl), skp_semi h5]
theorem bad2 (h : Ws ts i [wName, pEq, pLP, wName, [43], pRP, pSemi]) : Bad ts (E9 ts) (B9 ts) i 5 7 := by
  obtain ⟨h0, h1, h2, h3, h4, h5, h6, _⟩ := h
  refine ⟨st_of h0 (m := readAssignment ts (E9 ts)) rfl ?_, fun ds hl => ?_⟩
  · unfold readAssignment
    rw [bnd_ok (tk_ok h0)]
    unfold asgRest
    simp only [h1]
    rw [if_neg (by decide), if_neg (by decide), bnd_ok (tk_ok h1)]
    unfold value
    refine bnd_out (ex_out h2 (m := readBin ts (expression ts 8)) rfl ?_)
    unfold readBin
    rw [bnd_ok (bg_ok h2)]
    obtain ⟨t, ht⟩ := ex_name (f := 7) h3 h4 (by decide) (by decide) (by decide)
    rw [bnd_ok ht]
    have hs : sign ts ⟨i + 1 + 1 + 1 + 1, []⟩ = .ok 1 ⟨i + 1 + 1 + 1 + 1 + 1, []⟩ := by
      unfold sign
      simp only [h4]
      show bnd (take ts [43]) (fun _ => ret 1) ⟨i + 1 + 1 + 1 + 1, []⟩ = _
      rw [bnd_ok (tk_ok h4)]; rfl
    rw [bnd_ok hs]
    exact bnd_out (ex_bad (f := 7) h5 rfl)
  · unfold skipStatement
    obtain ⟨g, hg⟩ := skip_fuel hl
    rw [hg, show g + (7 + 2) = (g + 7) + 1 + 1 by omega, skp_one (by rw [h5]; rfl), skp_semi h6]
theorem bad3 (h : Ws ts i [kIf, pLP, wName, [61, 61], wName, pLB, wName, pEq, wName, pSemi, pRB, kElse, pLB, kAccept, pSemi, pRB]) (hn : wd ts (i + 16) ≠ kElse) : Bad ts (E9 ts) (B9 ts) i 5 16 := by
  obtain ⟨h0, h1, h2, h3, h4, h5, h6, h7, h8, h9, h10, h11, h12, h13, h14, h15, _⟩ := h
  refine ⟨st_of h0 (m := readIf ts (E9 ts) (B9 ts)) rfl ?_, fun ds hl => ?_⟩
  · unfold readIf
    rw [bnd_ok (bg_ok h0)]
    refine bnd_out (ex_out h1 (m := readBin ts (expression ts 8)) rfl ?_)
    unfold readBin
    rw [bnd_ok (bg_ok h1)]
    obtain ⟨t, ht⟩ := ex_name (f := 7) h2 h3 (by decide) (by decide) (by decide)
    rw [bnd_ok ht]
    have hs : sign ts ⟨i + 1 + 1 + 1, []⟩ = .ok 11 ⟨i + 1 + 1 + 1 + 1, []⟩ := by
      unfold sign
      simp only [h3]
      show bnd (take ts [61, 61]) (fun _ => ret 11) ⟨i + 1 + 1 + 1, []⟩ = _
      rw [bnd_ok (tk_ok h3)]; rfl
    rw [bnd_ok hs]
    obtain ⟨u, hu⟩ := ex_name (f := 7) h4 h5 (by decide) (by decide) (by decide)
    rw [bnd_ok hu]
    exact bnd_out (tk_out h5 (by decide))
  · unfold skipStatement
    obtain ⟨g, hg⟩ := skip_fuel hl
    rw [hg, show g + (16 + 2) = (((((((((((g + 7) + 1) + 1) + 1) + 1) + 1) + 1) + 1) + 1) + 1) + 1) + 1 by omega, skp_open h5, skp_one' (by rw [h6]; rfl), skp_one' (by rw [h7]; rfl), skp_one' (by rw [h8]; rfl), skp_in h9, skp_else h10 h11, skp_one' (by rw [h11]; rfl), skp_open h12, skp_one' (by rw [h13]; rfl), skp_in h14, skp_last h15 hn]
theorem bad4 (h : Ws ts i [kWhile, kLen, kAccept, pSemi]) : Bad ts (E9 ts) (B9 ts) i 2 4 := by
  obtain ⟨h0, h1, h2, h3, _⟩ := h
  refine ⟨st_of h0 (m := readWhile ts (E9 ts) (B9 ts)) rfl ?_, fun ds hl => ?_⟩
  · unfold readWhile
    rw [bnd_ok (bg_ok h0)]
    have hx : E9 ts ⟨i + 1, []⟩ = .ok (.mk 24 [] [] 0 0 (tk ts (i + 1)).off []) ⟨i + 1 + 1, []⟩ := ex_ok h1 (m := readLen ts) rfl (bg_ok h1)
    rw [bnd_ok hx]
    refine bnd_out ?_
    show block ts (8 + 1) ⟨i + 1 + 1, []⟩ = _
    rw [block.eq_2]
    simp only [h2]
    rw [if_neg (by decide)]
    rfl
  · unfold skipStatement
    obtain ⟨g, hg⟩ := skip_fuel hl
    rw [hg, show g + (4 + 2) = (((g + 4) + 1) + 1) by omega, skp_one' (by rw [h2]; rfl), skp_semi h3]
theorem bad5 (h : Ws ts i [kNew, wName, pColon, wType, pLK, wNumber, pColon, wType, pSemi]) : Bad ts (E9 ts) (B9 ts) i 8 9 := by
  obtain ⟨h0, h1, h2, h3, h4, h5, h6, h7, h8, _⟩ := h
  refine ⟨st_of h0 (m := readNew ts (E9 ts)) rfl ?_, fun ds hl => ?_⟩
  · unfold readNew
    rw [bnd_ok (bg_ok h0), bnd_ok (nm_ok h1), bnd_ok (tk_ok h2), bnd_ok (wi_ok h3)]
    refine bnd_out ?_
    unfold inBrackets
    rw [bnd_ok (tk_ok h4)]
    obtain ⟨t, ht⟩ := ex_num (f := 8) h5 h6 h7
    rw [bnd_ok ht]
    exact bnd_out (tk_out h8 (by decide))
  · unfold skipStatement
    obtain ⟨g, hg⟩ := skip_fuel hl
    rw [hg, show g + (9 + 2) = ((g + 10) + 1) by omega, skp_semi h8]
theorem bad6 (h : Ws ts i [wName, pLK, wNumber, pColon, wType, pRK, wNumber, pColon, wType, pSemi]) : Bad ts (E9 ts) (B9 ts) i 6 10 := by
  obtain ⟨h0, h1, h2, h3, h4, h5, h6, h7, h8, h9, _⟩ := h
  refine ⟨st_of h0 (m := readAssignment ts (E9 ts)) rfl ?_, fun ds hl => ?_⟩
  · unfold readAssignment
    rw [bnd_ok (tk_ok h0)]
    unfold asgRest
    simp only [h1]
    rw [if_pos trivial]
    obtain ⟨t, ht⟩ := ex_num (f := 8) h2 h3 h4
    have hb : inBrackets ts (E9 ts) ⟨i + 1, []⟩ = .ok t ⟨i + 1 + 1 + 3 + 1, []⟩ := by
      unfold inBrackets
      rw [bnd_ok (tk_ok h1), bnd_ok ht, bnd_ok (tk_ok h5)]
      rfl
    rw [bnd_ok hb]
    exact bnd_out (tk_out h6 (by decide))
  · unfold skipStatement
    obtain ⟨g, hg⟩ := skip_fuel hl
    rw [hg, show g + (10 + 2) = (((((g + 8) + 1) + 1) + 1) + 1) by omega, skp_one' (by rw [h6]; rfl), skp_one' (by rw [h7]; rfl), skp_one' (by rw [h8]; rfl), skp_semi h9]
theorem bad7 (h : Ws ts i [kReject, wName, pSemi]) : Bad ts (E9 ts) (B9 ts) i 1 3 := by
  obtain ⟨h0, h1, h2, _⟩ := h
  refine ⟨st_of h0 (m := readReject ts) rfl ?_, fun ds hl => ?_⟩
  · unfold readReject
    rw [bnd_ok (bg_ok h0)]
    exact bnd_out (tk_out h1 (by decide))
  · unfold skipStatement
    obtain ⟨g, hg⟩ := skip_fuel hl
    rw [hg, show g + (3 + 2) = (((g + 3) + 1) + 1) by omega, skp_one' (by rw [h1]; rfl), skp_semi h2]
theorem bad8 (h : Ws ts i [kIn, pEq, wNumber, pColon, wType, pSemi]) : Bad ts (E9 ts) (B9 ts) i 0 6 := by
  obtain ⟨h0, h1, h2, h3, h4, h5, _⟩ := h
  refine ⟨st_bad h0 rfl, fun ds hl => ?_⟩
  · unfold skipStatement
    obtain ⟨g, hg⟩ := skip_fuel hl
    show skipGo ts ts.length 0 ⟨i, ds⟩ = _
    rw [hg, show g + (6 + 2) = (((((((g + 2) + 1) + 1) + 1) + 1) + 1) + 1) by omega, skp_one' (by rw [h0]; rfl), skp_one' (by rw [h1]; rfl), skp_one' (by rw [h2]; rfl), skp_one' (by rw [h3]; rfl), skp_one' (by rw [h4]; rfl), skp_semi h5]
theorem bad9 (h : Ws ts i [wNumber, pColon, wType, pSemi]) : Bad ts (E9 ts) (B9 ts) i 0 4 := by
  obtain ⟨h0, h1, h2, h3, _⟩ := h
  refine ⟨st_bad h0 rfl, fun ds hl => ?_⟩
  · unfold skipStatement
    obtain ⟨g, hg⟩ := skip_fuel hl
    show skipGo ts ts.length 0 ⟨i, ds⟩ = _
    rw [hg, show g + (4 + 2) = (((((g + 2) + 1) + 1) + 1) + 1) by omega, skp_one' (by rw [h0]; rfl), skp_one' (by rw [h1]; rfl), skp_one' (by rw [h2]; rfl), skp_semi h3]
theorem bad10 (h : Ws ts i [pLB, wName, pEq, wName, pSemi, pRB]) (hn : wd ts (i + 6) ≠ kElse) : Bad ts (E9 ts) (B9 ts) i 0 6 := by
  obtain ⟨h0, h1, h2, h3, h4, h5, _⟩ := h
  refine ⟨st_bad h0 rfl, fun ds hl => ?_⟩
  · unfold skipStatement
    obtain ⟨g, hg⟩ := skip_fuel hl
    show skipGo ts ts.length 0 ⟨i, ds⟩ = _
    rw [hg, show g + (6 + 2) = (((((((g + 2) + 1) + 1) + 1) + 1) + 1) + 1) by omega, skp_open h0, skp_one' (by rw [h1]; rfl), skp_one' (by rw [h2]; rfl), skp_one' (by rw [h3]; rfl), skp_in h4, skp_last h5 hn]
theorem bad11 (h : Ws ts i [kIf, pTilde, pLB, kLet, wName, pEq, wName, pSemi, pRB]) (hn : wd ts (i + 9) ≠ kElse) : Bad ts (E9 ts) (B9 ts) i 2 9 := by
  obtain ⟨h0, h1, h2, h3, h4, h5, h6, h7, h8, _⟩ := h
  refine ⟨st_of h0 (m := readIf ts (E9 ts) (B9 ts)) rfl ?_, fun ds hl => ?_⟩
  · unfold readIf
    rw [bnd_ok (bg_ok h0)]
    refine bnd_out (ex_out h1 (m := readNot ts (expression ts 8)) rfl ?_)
    unfold readNot
    rw [bnd_ok (bg_ok h1)]
    exact bnd_out (ex_bad (f := 7) h2 rfl)
  · unfold skipStatement
    obtain ⟨g, hg⟩ := skip_fuel hl
    rw [hg, show g + (9 + 2) = ((((((((g + 4) + 1) + 1) + 1) + 1) + 1) + 1) + 1) by omega, skp_open h2, skp_one' (by rw [h3]; rfl), skp_one' (by rw [h4]; rfl), skp_one' (by rw [h5]; rfl), skp_one' (by rw [h6]; rfl), skp_in h7, skp_last h8 hn]
end
end Go.Proofs.YtgleakjalhkkhaaGreatDoor

/- Wrong items: where each one is wrong, and what is left out. -/
namespace Go.Proofs.YtgleakjalhkkhaaGreatDoor
open Go

section
variable {ts : List PTok} {i : Nat}
def itemB (w : Str) : Bool := !(w == kStruct || w == kFunc || w == kParse || w == wEnd)
theorem si_one {g i : Nat} {ds : List (Nat × Nat)} (h : itemB (wd ts i) = true) : skipItem ts (g + 1) ⟨i, ds⟩ = skipItem ts g ⟨i + 1, ds⟩ := by
  simp only [itemB, Bool.not_eq_true', Bool.or_eq_false_iff, beq_eq_false_iff_ne] at h
  obtain ⟨⟨⟨a, b⟩, c⟩, d⟩ := h
  rw [skipItem]
  simp [a, b, c, d]
theorem si_stop {g i : Nat} {ds : List (Nat × Nat)} (h : wd ts i = kStruct ∨ wd ts i = kFunc ∨ wd ts i = kParse) : skipItem ts (g + 1) ⟨i, ds⟩ = .ok () ⟨i, ds⟩ := by
  rw [skipItem]
  simp only [if_pos h]
/-- An item that is wrong at its p-th token, and left out after n tokens. -/
def BadI (ts : List PTok) (b : PM T) (i p n : Nat) : Prop :=
  item ts b ⟨i, []⟩ = .out 0 ⟨i + p, [(10, (tk ts (i + p)).off)]⟩ ∧ ∀ ds, n + 2 ≤ ts.length → (wd ts (i + n) = kStruct ∨ wd ts (i + n) = kFunc ∨ wd ts (i + n) = kParse) → skipItem ts ts.length ⟨i + p, ds⟩ = .ok () ⟨i + n, ds⟩
theorem it_struct {b : PM T} {l : Nat} {s' : St} (h : wd ts i = kStruct) (k : readStruct ts ⟨i, []⟩ = .out l s') : item ts b ⟨i, []⟩ = .out l s' := by
  unfold item; simp only [h]; rw [if_pos trivial]; exact k
theorem it_func {b : PM T} {l : Nat} {s' : St} (h : wd ts i = kFunc) (k : readFunc ts b ⟨i, []⟩ = .out l s') : item ts b ⟨i, []⟩ = .out l s' := by
  unfold item; simp only [h]; rw [if_neg (by decide), if_pos trivial]; exact k
theorem it_bad {b : PM T} {w : Str} (h : wd ts i = w) (h1 : w ≠ kStruct) (h2 : w ≠ kFunc) (h3 : w ≠ kParse) : item ts b ⟨i, []⟩ = .out 0 ⟨i, [(10, (tk ts i).off)]⟩ := by
  unfold item; simp only [h]; rw [if_neg h1, if_neg h2, if_neg h3]; rfl
theorem badI0 {b : PM T} (h : Ws ts i [kStruct, pLB, wName, pColon, wType, pRB]) : BadI ts b i 1 6 := by
  obtain ⟨h0, h1, h2, h3, h4, h5, _⟩ := h
  refine ⟨it_struct h0 ?_, fun ds hl hs => ?_⟩
  · unfold readStruct
    rw [bnd_ok (bg_ok h0)]
    refine bnd_out ?_
    unfold name
    exact bnd_out (tk_out h1 (by decide))
  · obtain ⟨g, hg⟩ := skip_fuel hl
    rw [hg, show g + (6 + 2) = (((((((g + 2) + 1) + 1) + 1) + 1) + 1) + 1) by omega, si_one (by rw [h1]; rfl), si_one (by rw [h2]; rfl), si_one (by rw [h3]; rfl), si_one (by rw [h4]; rfl), si_one (by rw [h5]; rfl), si_stop hs]
theorem badI1 {b : PM T} (h : Ws ts i [kStruct, wName, pLB, wName, wType, pRB]) : BadI ts b i 4 6 := by
  obtain ⟨h0, h1, h2, h3, h4, h5, _⟩ := h
  refine ⟨it_struct h0 ?_, fun ds hl hs => ?_⟩
  · unfold readStruct
    rw [bnd_ok (bg_ok h0), bnd_ok (nm_ok h1), bnd_ok (tk_ok h2)]
    refine bnd_out ?_
    unfold typedNames typedName
    refine bnd_out ?_
    rw [bnd_ok (tk_ok h3)]
    exact bnd_out (tk_out h4 (by decide))
  · obtain ⟨g, hg⟩ := skip_fuel hl
    rw [hg, show g + (6 + 2) = ((((g + 5) + 1) + 1) + 1) by omega, si_one (by rw [h4]; rfl), si_one (by rw [h5]; rfl), si_stop hs]
theorem badI2 {b : PM T} (h : Ws ts i [kFunc, wName, pLP, wName, pColon, wType, pLB, kReturn, wName, pSemi, pRB]) : BadI ts b i 6 11 := by
  obtain ⟨h0, h1, h2, h3, h4, h5, h6, h7, h8, h9, h10, _⟩ := h
  refine ⟨it_func h0 ?_, fun ds hl hs => ?_⟩
  · unfold readFunc
    rw [bnd_ok (bg_ok h0), bnd_ok (nm_ok h1), bnd_ok (tk_ok h2)]
    simp only [h3]
    rw [if_neg (by decide)]
    have ht : typedNames ts 5 ⟨i + 1 + 1 + 1, []⟩ = .ok [.mk 5 (tk ts (i + 1 + 1 + 1)).text [] 0 (tk ts (i + 1 + 1 + 1 + 1 + 1)).num (tk ts (i + 1 + 1 + 1)).off []] ⟨i + 1 + 1 + 1 + 1 + 1 + 1, []⟩ := by
      unfold typedNames
      have h1 : typedName ts 5 ⟨i + 1 + 1 + 1, []⟩ = .ok (.mk 5 (tk ts (i + 1 + 1 + 1)).text [] 0 (tk ts (i + 1 + 1 + 1 + 1 + 1)).num (tk ts (i + 1 + 1 + 1)).off []) ⟨i + 1 + 1 + 1 + 1 + 1 + 1, []⟩ := by
        unfold typedName
        rw [bnd_ok (tk_ok h3), bnd_ok (tk_ok h4), bnd_ok (wi_ok h5)]
        rfl
      rw [bnd_ok h1]
      cases ts.length with
      | zero => rfl
      | succ g =>
        unfold typedMore
        simp only [h6]
        rw [if_neg (by decide)]
    rw [bnd_ok ht]
    unfold funcRest
    exact bnd_out (tk_out h6 (by decide))
  · obtain ⟨g, hg⟩ := skip_fuel hl
    rw [hg, show g + (11 + 2) = (((((((g + 7) + 1) + 1) + 1) + 1) + 1) + 1) by omega, si_one (by rw [h6]; rfl), si_one (by rw [h7]; rfl), si_one (by rw [h8]; rfl), si_one (by rw [h9]; rfl), si_one (by rw [h10]; rfl), si_stop hs]
theorem badI3 {b : PM T} (h : Ws ts i [kFunc, wName, pLP, pRP, pLB, kReturn, wName, pSemi, pRB]) : BadI ts b i 4 9 := by
  obtain ⟨h0, h1, h2, h3, h4, h5, h6, h7, h8, _⟩ := h
  refine ⟨it_func h0 ?_, fun ds hl hs => ?_⟩
  · unfold readFunc
    rw [bnd_ok (bg_ok h0), bnd_ok (nm_ok h1), bnd_ok (tk_ok h2)]
    simp only [h3]
    rw [if_pos trivial]
    unfold funcRest
    rw [bnd_ok (tk_ok h3)]
    refine bnd_out ?_
    unfold width
    exact bnd_out (tk_out h4 (by decide))
  · obtain ⟨g, hg⟩ := skip_fuel hl
    rw [hg, show g + (9 + 2) = (((((((g + 5) + 1) + 1) + 1) + 1) + 1) + 1) by omega, si_one (by rw [h4]; rfl), si_one (by rw [h5]; rfl), si_one (by rw [h6]; rfl), si_one (by rw [h7]; rfl), si_one (by rw [h8]; rfl), si_stop hs]
theorem badI4 {b : PM T} (h : Ws ts i [wName]) : BadI ts b i 0 1 := by
  obtain ⟨h0, _⟩ := h
  refine ⟨it_bad h0 (by decide) (by decide) (by decide), fun ds hl hs => ?_⟩
  show skipItem ts ts.length ⟨i, ds⟩ = _
  obtain ⟨g, hg⟩ := skip_fuel hl
  rw [hg, show g + (1 + 2) = (((g + 1) + 1) + 1) by omega, si_one (by rw [h0]; rfl), si_stop hs]
theorem badI5 {b : PM T} (h : Ws ts i [pRB]) : BadI ts b i 0 1 := by
  obtain ⟨h0, _⟩ := h
  refine ⟨it_bad h0 (by decide) (by decide) (by decide), fun ds hl hs => ?_⟩
  show skipItem ts ts.length ⟨i, ds⟩ = _
  obtain ⟨g, hg⟩ := skip_fuel hl
  rw [hg, show g + (1 + 2) = (((g + 1) + 1) + 1) by omega, si_one (by rw [h0]; rfl), si_stop hs]
end
end Go.Proofs.YtgleakjalhkkhaaGreatDoor

/- A wrong statement, or a wrong item, in a source that is right: what the parser answers. -/
namespace Go.Proofs.YtgleakjalhkkhaaGreatDoor
open Go

section
variable {ts ts' : List PTok}
theorem kind_item {b : PM T} {i : Nat} {t : T} {s : St} (h : item ts b ⟨i, []⟩ = .ok t s) (hk : t.kind = 6) : wd ts i = kParse := by
  have h1 : Ho (fun t => t.kind = 2) (readStruct ts) := ho_then fun _ => ho_then fun _ => ho_then fun _ => ho_then fun _ => ho_then fun _ => ho_ret rfl
  have fr : ∀ o x l, Ho (fun t => t.kind = 4) (funcRest ts b o x l) := fun o x l => ho_then fun _ => ho_then fun _ => ho_then fun _ => ho_ret rfl
  have h2 : Ho (fun t => t.kind = 4) (readFunc ts b) := ho_then fun _ => ho_then fun _ => ho_then fun _ => ho_ite (c := fun s => wd ts s.nx = pRP) (fr _ _ _) (ho_then fun _ => fr _ _ _)
  unfold item at h
  split at h
  · have := h1 _ _ _ h; omega
  split at h
  · have := h2 _ _ _ h; omega
  split at h
  · rename_i h3; exact h3
  · cases h
theorem word_item {b : PM T} {i : Nat} {t : T} {s : St} (h : item ts b ⟨i, []⟩ = .ok t s) : wd ts i = kStruct ∨ wd ts i = kFunc ∨ wd ts i = kParse := by
  unfold item at h
  split at h
  · rename_i h1; exact .inl h1
  split at h
  · rename_i h1; exact .inr (.inl h1)
  split at h
  · rename_i h1; exact .inr (.inr h1)
  · cases h
/-- What one step of the items does, where nothing is wrong. -/
theorem items_one {m : PM T} (hg : Gw m) {g : Nat} {l a : List T} {i N : Nat} (h : items ts m (g + 1) l ⟨i, []⟩ = .ok a ⟨N, []⟩) : ∃ t p, m ⟨i, []⟩ = .ok t ⟨p, []⟩ ∧ ((t.kind = 6 ∧ p = N ∧ a = l ++ [t]) ∨ (t.kind ≠ 6 ∧ items ts m g (l ++ [t]) ⟨p, []⟩ = .ok a ⟨N, []⟩)) := by
  rw [items_at] at h
  generalize (if wd ts (St.mk i []).nx = kParse then 0 else 1) = most at h
  cases hm1 : m ⟨i, []⟩ with
  | ok t s1 =>
    have ha : attempt m most ⟨i, []⟩ = .ok (some t) s1 := by unfold attempt; rw [hm1]
    rw [bnd_ok ha] at h
    have h3 : s1.ds <+: ([] : List (Nat × Nat)) := by
      simp only [itK] at h
      split at h
      · cases h; exact List.prefix_refl _
      · exact items_ds ts m hg _ _ _ _ _ h
    obtain ⟨p, ds⟩ := s1
    have : ds = [] := by simpa using h3
    subst this
    refine ⟨t, p, rfl, ?_⟩
    simp only [itK] at h
    split at h
    · rename_i hk
      cases h
      exact .inl ⟨hk, rfl, rfl⟩
    · rename_i hk
      exact .inr ⟨hk, h⟩
  | out q s1 =>
    exfalso
    have h5 := (hg _).2 _ _ hm1
    by_cases hq : q ≤ most
    · have ha : attempt m most ⟨i, []⟩ = .ok none s1 := by unfold attempt; rw [hm1]; simp only [if_pos hq]
      rw [bnd_ok ha] at h
      simp only [itK] at h
      cases hk : skipItem ts ts.length s1 with
      | ok u s2 =>
        rw [bnd_ok hk] at h
        have e2 := (skipItem_ds ts _ _).1 _ _ hk
        have h6 := (items_ds ts m hg _ _ _ _ _ h).length_le
        rw [e2] at h6
        have h7 := h5.2
        simp at h6 h7
        rw [h6] at h7
        simp at h7
      | out u s2 => rw [bnd_out hk] at h; cases h
    · have ha : attempt m most ⟨i, []⟩ = .out q s1 := by unfold attempt; rw [hm1]; simp only [if_neg hq]
      rw [bnd_out ha] at h; cases h
/-- The items before parse, also in another list that begins alike. -/
theorem items_reach (hts : 0 < ts.length) : ∀ g l i a N, items ts (item ts (block ts 10)) g l ⟨i, []⟩ = .ok a ⟨N, []⟩ → ts.length ≤ i + g → N < ts.length →
    ∃ i0 t, i ≤ i0 ∧ wd ts i0 = kParse ∧ item ts (block ts 10) ⟨i0, []⟩ = .ok t ⟨N, []⟩ ∧ (∃ l0, a = l0 ++ [t]) ∧ t.kind = 6 ∧
      ∀ ts' : List PTok, Win ts ts' 0 (i0 + 2) 0 → ∀ g' l', ts'.length ≤ i + g' → ∃ g'' l'', ts'.length ≤ i0 + g'' ∧ items ts' (item ts' (block ts' 10)) g' l' ⟨i, []⟩ = items ts' (item ts' (block ts' 10)) g'' l'' ⟨i0, []⟩
  | 0, l, i, a, N, h, hg, hN => by cases h; omega
  | g + 1, l, i, a, N, h, hg, hN => by
    obtain ⟨t, p, h1, ⟨hk, rfl, ha⟩ | ⟨hk, h2⟩⟩ := items_one (gw_item ts hts) h
    · exact ⟨i, t, Nat.le_refl _, kind_item h1 hk, h1, ⟨l, ha⟩, hk, fun ts' X g' l' hg' => ⟨g', l', hg', rfl⟩⟩
    · have hp := (mv_item ts (mv_block ts 10)).ok _ _ _ h1
      simp only at hp
      obtain ⟨i0, t0, k1, k2, k3, k4, k5, k6⟩ := items_reach hts g _ p a N h2 (by omega) hN
      refine ⟨i0, t0, by omega, k2, k3, k4, k5, fun ts' X g' l' hg' => ?_⟩
      have C := win_clo (D := []) X
      obtain ⟨t', ht, h3⟩ := (c_item C (c_block C 10)).2.2 i t p (Nat.zero_le _) (by omega) h1
      rw [Nat.add_zero, Nat.add_zero] at h3
      have hlen := X.len'
      obtain ⟨g', rfl⟩ : ∃ n, g' = n + 1 := ⟨g' - 1, by omega⟩
      obtain ⟨g'', l'', q1, q2⟩ := k6 ts' X g' (l' ++ [t']) (by omega)
      refine ⟨g'', l'', q1, ?_⟩
      rw [items_at, bnd_ok (a := some t') (s' := ⟨p, []⟩) (by unfold attempt; rw [h3])]
      simp only [itK]
      rw [if_neg (by rw [← ht.kind]; exact hk)]
      exact q2
/-- What a run without a diagnostic is made of. -/
theorem run_parts (hend : ∀ i, wd ts i = wEnd → i + 1 = ts.length) {t : T} {s' : St} (h : program ts ⟨0, []⟩ = .ok t s') (hd : s'.ds = []) :
    ∃ L N, t = .mk 1 [] [] 0 0 0 L ∧ N + 1 = ts.length ∧ wd ts N = wEnd ∧ items ts (item ts (block ts 10)) (2 * ts.length + 2) [] ⟨0, []⟩ = .ok L ⟨N, []⟩ := by
  unfold program at h
  cases hi : items ts (item ts (block ts 10)) (2 * ts.length + 2) [] ⟨0, []⟩ with
  | out q s1 => rw [bnd_out hi] at h; cases h
  | ok a s1 =>
    rw [bnd_ok hi] at h
    cases ht : take ts wEnd s1 with
    | out q s2 => rw [bnd_out ht] at h; cases h
    | ok k s2 =>
      rw [bnd_ok ht] at h
      cases h
      unfold take at ht
      split at ht
      · rename_i hw
        cases ht
        obtain ⟨p, ds⟩ := s1
        simp only at hd hw
        subst hd
        exact ⟨a, p, rfl, hend p hw, hw, rfl⟩
      · cases ht
/-- The block of parse. -/
theorem block_parts {i0 N : Nat} {t : T} (hw : wd ts i0 = kParse) (h : item ts (block ts 10) ⟨i0, []⟩ = .ok t ⟨N, []⟩) : ∃ K N', N = N' + 1 ∧ wd ts (i0 + 1) = pLB ∧ wd ts N' = pRB ∧ t = .mk 6 [] [] 0 0 (tk ts (i0 + 1)).off K ∧
    stmts ts (statement ts (E9 ts) (B9 ts)) (2 * ts.length + 2) [] ⟨i0 + 1 + 1, []⟩ = .ok K ⟨N', []⟩ := by
  unfold item at h
  simp only [hw] at h
  rw [if_neg (by decide), if_neg (by decide), if_pos trivial] at h
  unfold readParse at h
  rw [bnd_ok (tk_ok hw)] at h
  have h : block ts (9 + 1) ⟨i0 + 1, []⟩ = .ok t ⟨N, []⟩ := h
  rw [block.eq_2] at h
  simp only at h
  split at h
  · rename_i hb
    unfold readBlock at h
    rw [bnd_ok (bg_ok hb)] at h
    have hgs : Gw (statement ts (E9 ts) (B9 ts)) := by
      have X : CutAt ts [⟨⟨0, [], 0, 0⟩, wEnd⟩] 0 0 := ⟨fun i hi => absurd hi (by omega), rfl, rfl, by simp, by
        rcases Nat.eq_zero_or_pos ts.length with h0 | h0
        · have : ts = [] := List.length_eq_zero_iff.1 h0
          rw [this, show wd ([] : List PTok) (i0 + 1) = [] by unfold wd; simp] at hb; exact absurd hb (by decide)
        · exact h0⟩
      have C := cut_clo X
      exact (c_statement C (c_expression C 9) (c_block C 9)).1
    obtain ⟨K, p, h1, h2⟩ := bnd_nil (stmts_gw ts _ hgs _ _) (fun _ => gw_bnd (gw_take ts _) fun _ => gw_ret _) h
    obtain ⟨_, q, h3, h4⟩ := bnd_nil (gw_take ts _) (fun _ => gw_ret _) h2
    unfold take at h3
    split at h3
    · rename_i hr
      cases h3
      cases h4
      exact ⟨K, p, rfl, hb, hr, rfl, h1⟩
    · cases h3
  · cases h
/-- One wrong statement at the beginning of the block of parse. -/
theorem stmt_wrong {i0 N' : Nat} {K : List T} {d p : Nat} (hN : N' + 2 = ts.length) (hwe : wd ts (N' + 1) = wEnd)
    (hreach : ∀ ts' : List PTok, Win ts ts' 0 (i0 + 2) 0 → ∀ g' l', ts'.length ≤ 0 + g' → ∃ g'' l'', ts'.length ≤ i0 + g'' ∧ items ts' (item ts' (block ts' 10)) g' l' ⟨0, []⟩ = items ts' (item ts' (block ts' 10)) g'' l'' ⟨i0, []⟩)
    (hw : wd ts i0 = kParse) (hb : wd ts (i0 + 1) = pLB) (hr : wd ts N' = pRB) (hi0 : i0 + 2 ≤ N')
    (hst : stmts ts (statement ts (E9 ts) (B9 ts)) (2 * ts.length + 2) [] ⟨i0 + 1 + 1, []⟩ = .ok K ⟨N', []⟩)
    (XA : Win ts ts' 0 (i0 + 2) 0) (XB : Win ts ts' (i0 + 2) ts.length d) (hbad : Bad ts' (E9 ts') (B9 ts') (i0 + 2) p d) (hnb : wd ts' (i0 + 2) ≠ pRB) (hd : d + 2 ≤ ts'.length) :
    ∃ t, program ts' ⟨0, []⟩ = .ok t ⟨N' + 2 + d, [(10, (tk ts' (i0 + 2 + p)).off)]⟩ := by
  obtain ⟨D, hD⟩ : ∃ D, D = [(10, (tk ts' (i0 + 2 + p)).off)] := ⟨_, rfl⟩
  have hlen := XB.len'
  have hw' : wd ts' i0 = kParse := (XA.word i0 (by omega) (by omega)).trans hw
  have hb' : wd ts' (i0 + 1) = pLB := (XA.word (i0 + 1) (by omega) (by omega)).trans hb
  have hr' : wd ts' (N' + d) = pRB := (XB.word N' (by omega) (by omega)).trans hr
  have he' : wd ts' (N' + 1 + d) = wEnd := (XB.word (N' + 1) (by omega) (by omega)).trans hwe
  have C := win_clo (D := D) XB
  have hsw := c_statement C (c_expression C 9) (c_block C 9)
  obtain ⟨K', _, hst'⟩ := stmts_wi XB _ _ (mv_statement ts (mv_expression ts 9) (mv_block ts 9)) hsw (2 * ts.length + 2) (2 * ts'.length + 1) [] [] (i0 + 2) K N' LEq.nil (by omega) (by omega) (by omega) (by omega) hst
  have hs2 : stmts ts' (statement ts' (E9 ts') (B9 ts')) (2 * ts'.length + 2) [] ⟨i0 + 1 + 1, []⟩ = .ok K' ⟨N' + d, D⟩ := by
    have e1 := stmts_at ts' (statement ts' (E9 ts') (B9 ts')) (2 * ts'.length + 1) [] ⟨i0 + 1 + 1, []⟩ hnb
    rw [e1]
    have ha : attempt (statement ts' (E9 ts') (B9 ts')) 0 ⟨i0 + 1 + 1, []⟩ = .ok none ⟨i0 + 2 + p, D⟩ := by
      unfold attempt
      rw [show i0 + 1 + 1 = i0 + 2 from rfl, hbad.1, hD]
      rfl
    rw [bnd_ok ha]
    simp only [stK]
    rw [bnd_ok (hbad.2 D hd)]
    exact hst'
  have hbl : block ts' 10 ⟨i0 + 1, []⟩ = .ok (.mk 6 [] [] 0 0 (tk ts' (i0 + 1)).off K') ⟨N' + d + 1, D⟩ := by
    show block ts' (9 + 1) ⟨i0 + 1, []⟩ = _
    rw [block.eq_2]
    simp only [hb']
    rw [if_pos trivial]
    unfold readBlock
    rw [bnd_ok (bg_ok hb'), bnd_ok hs2, bnd_ok (tk_ok hr')]
    rfl
  have hit : item ts' (block ts' 10) ⟨i0, []⟩ = .ok (.mk 6 [] [] 0 0 (tk ts' (i0 + 1)).off K') ⟨N' + d + 1, D⟩ := by
    unfold item
    simp only [hw']
    rw [if_neg (by decide), if_neg (by decide), if_pos trivial]
    unfold readParse
    rw [bnd_ok (tk_ok hw')]
    exact hbl
  obtain ⟨g'', l'', q1, q2⟩ := hreach ts' XA (2 * ts'.length + 2) [] (by omega)
  obtain ⟨g, rfl⟩ : ∃ n, g'' = n + 1 := ⟨g'' - 1, by omega⟩
  have hits : items ts' (item ts' (block ts' 10)) (2 * ts'.length + 2) [] ⟨0, []⟩ = .ok (l'' ++ [.mk 6 [] [] 0 0 (tk ts' (i0 + 1)).off K']) ⟨N' + d + 1, D⟩ := by
    rw [q2, items_at, bnd_ok (a := some (.mk 6 [] [] 0 0 (tk ts' (i0 + 1)).off K')) (s' := ⟨N' + d + 1, D⟩) (by unfold attempt; rw [hit])]
    rfl
  refine ⟨.mk 1 [] [] 0 0 0 (l'' ++ [.mk 6 [] [] 0 0 (tk ts' (i0 + 1)).off K']), ?_⟩
  unfold program
  rw [bnd_ok hits, bnd_ok (tk_ok (by rw [show N' + d + 1 = N' + 1 + d by omega]; exact he')), ← hD]
  rw [show N' + d + 1 + 1 = N' + 2 + d by omega]
  rfl
/-- One wrong item ahead of the whole. -/
theorem item_wrong {N : Nat} {L : List T} {d p : Nat} (hts : 0 < ts.length) (hN : N + 1 = ts.length) (hwe : wd ts N = wEnd) (hits : items ts (item ts (block ts 10)) (2 * ts.length + 2) [] ⟨0, []⟩ = .ok L ⟨N, []⟩)
    (X : Win ts ts' 0 ts.length d) (hbad : BadI ts' (block ts' 10) 0 p d) (hd : d + 2 ≤ ts'.length) : ∃ t, program ts' ⟨0, []⟩ = .ok t ⟨N + 1 + d, [(10, (tk ts' (0 + p)).off)]⟩ := by
  obtain ⟨D, hD⟩ : ∃ D, D = [(10, (tk ts' (0 + p)).off)] := ⟨_, rfl⟩
  have hlen := X.len'
  have C := win_clo (D := D) X
  obtain ⟨t, q, h1, _⟩ := items_one (gw_item ts hts) hits
  have hword := word_item h1
  rw [← X.word 0 (Nat.le_refl _) hts] at hword
  obtain ⟨L', _, hits'⟩ := items_wi X _ _ (mv_item ts (mv_block ts 10)) (c_item C (c_block C 10)) (2 * ts.length + 2) (2 * ts'.length + 1) [] [] 0 L N LEq.nil (by omega) (by omega) (by omega) (by omega) hits
  have he' : wd ts' (N + d) = wEnd := (X.word N (by omega) (by omega)).trans hwe
  have h2 : items ts' (item ts' (block ts' 10)) (2 * ts'.length + 2) [] ⟨0, []⟩ = .ok L' ⟨N + d, D⟩ := by
    rw [items_at]
    have ha : attempt (item ts' (block ts' 10)) (if wd ts' (St.mk 0 []).nx = kParse then 0 else 1) ⟨0, []⟩ = .ok none ⟨0 + p, D⟩ := by
      unfold attempt
      rw [hbad.1, hD]
      simp only [Nat.zero_le, if_true]
    rw [bnd_ok ha]
    simp only [itK]
    rw [bnd_ok (hbad.2 D hd hword)]
    exact hits'
  refine ⟨.mk 1 [] [] 0 0 0 L', ?_⟩
  unfold program
  rw [bnd_ok h2, bnd_ok (tk_ok he'), ← hD]
  rw [show N + d + 1 = N + 1 + d by omega]
  rfl
end
end Go.Proofs.YtgleakjalhkkhaaGreatDoor

/- Sources with something put in: their tokens. -/
namespace Go.Proofs.YtgleakjalhkkhaaGreatDoor
open Go

theorem Lp.split {l : List UInt8} {o : Nat} {ts : List Tok} {m : List UInt8} {o' : Nat} (h : Lp l o ts m o') : ∀ (k : Nat) (hk : k < ts.length), ∃ q g r2, l = q ++ (g ++ r2) ∧ q ≠ [] ∧ o + q.length = ts[k].off + (textOf ts[k]).length ∧ gapLen (g ++ r2) = g.length ∧
    Lp r2 (ts[k].off + (textOf ts[k]).length + g.length) (ts.drop (k + 1)) m o' ∧
    (∀ G r us m2 e', (∃ b, G.head? = some b ∧ isGapB b = true) → gapLen (G ++ r) = G.length → Lp r (ts[k].off + (textOf ts[k]).length + G.length) us m2 e' → Lp (q ++ (G ++ r)) o (ts.take (k + 1) ++ us) m2 e') := by
  induction h with
  | stop m o => intro k hk; simp at hk
  | cons x g r v o ts m o' h1 h2 h3 h4 h5 ih =>
    intro k hk
    cases k with
    | zero =>
      have hx : textOf (mkTok v o) = x := (textOf_mk v o).trans (read_text h2 h3).1
      refine ⟨x, g, r, rfl, h2, ?_, h4, ?_, ?_⟩
      · show o + x.length = o + (textOf (mkTok v o)).length
        rw [hx]
      · show Lp r (o + (textOf (mkTok v o)).length + g.length) ts m o'
        rw [hx]; exact h5
      · intro G r' us m2 e' ⟨b, hb, hbg⟩ hG hr
        show Lp (x ++ (G ++ r')) o (mkTok v o :: us) m2 e'
        replace hr : Lp r' (o + (textOf (mkTok v o)).length + G.length) us m2 e' := hr
        rw [hx] at hr
        refine Lp.cons x G r' v o us m2 e' (tok_swap h1 h2 (.inr (.inr ⟨b, ?_, hbg⟩))) h2 h3 hG hr
        cases G with
        | nil => cases hb
        | cons c G => exact hb
    | succ k =>
      have hk' : k < ts.length := by simpa using hk
      obtain ⟨q, g', r2, hr, hq, hlen, hg, hlp, hgl⟩ := ih k hk'
      refine ⟨x ++ (g ++ q), g', r2, by rw [hr]; simp, by simp [h2], ?_, hg, hlp, ?_⟩
      · show o + (x ++ (g ++ q)).length = ts[k].off + (textOf ts[k]).length
        simp only [List.length_append]; omega
      · intro G r' us m2 e' hb hG hlr
        have hh : (g ++ (q ++ (G ++ r'))).head? = (g ++ r).head? := by
          rw [hr, ← head_pre (r' := G ++ r') hq g, ← head_pre (r' := g' ++ r2) hq g]
        have hq2 : (q ++ (G ++ r')).head? = r.head? := by
          have := head_pre (r' := G ++ r') hq []
          have h2 := head_pre (r' := g' ++ r2) hq []
          rw [hr]
          exact this.symm.trans h2
        have := Lp.cons x g (q ++ (G ++ r')) v o _ m2 e' (tok_swap h1 h2 (.inr (.inl hh))) h2 h3 (gap_swap h4 (.inr hq2)) (hgl G r' us m2 e' hb hG hlr)
        have e : (x ++ (g ++ q)) ++ (G ++ r') = x ++ (g ++ (q ++ (G ++ r'))) := by simp
        rw [e]
        exact this
theorem Lp.inv {l : List UInt8} {o : Nat} {ts : List Tok} {m : List UInt8} {o' : Nat} (h : Lp l o ts m o') : (ts = [] ∧ l = m) ∨ ∃ x g r v us, l = x ++ (g ++ r) ∧ ts = mkTok v o :: us ∧ tokLen (x ++ (g ++ r)) = x.length ∧ x ≠ [] ∧ readT x = (v, 0) ∧ gapLen (g ++ r) = g.length ∧ Lp r (o + x.length + g.length) us m o' := by
  cases h with
  | stop => exact .inl ⟨rfl, rfl⟩
  | cons x g r v _ us _ _ h1 h2 h3 h4 h5 => exact .inr ⟨x, g, r, v, us, rfl, rfl, h1, h2, h3, h4, h5⟩
theorem app_eq {a b c d : Str} (h : a ++ b = c ++ d) (hl : a.length = c.length) : a = c ∧ b = d := List.append_inj h hl
/-- A source is split into tokens in one way. -/
theorem Lp.det {l : List UInt8} {o : Nat} {ts : List Tok} {m : List UInt8} {o' : Nat} (h : Lp l o ts m o') : m = [] → ∀ us o2, Lp l o us [] o2 → us = ts := by
  induction h with
  | stop m o =>
    intro hm us o2 h2
    subst hm
    rcases h2.inv with ⟨e, _⟩ | ⟨x, g, r, v, us', e, _, _, hx, _⟩
    · exact e
    · exact absurd (List.append_eq_nil_iff.1 e.symm).1 hx
  | cons x g r v o ts m o' h1 h2 h3 h4 h5 ih =>
    intro hm us o2 k
    rcases k.inv with ⟨_, e⟩ | ⟨x', g', r', v', us', e, rfl, k1, k2, k3, k4, k5⟩
    · exact absurd (List.append_eq_nil_iff.1 e).1 h2
    · have hl : x.length = x'.length := by rw [← h1, e, k1]
      obtain ⟨rfl, e2⟩ := app_eq e hl
      have hgl : g.length = g'.length := by rw [← h4, e2, k4]
      obtain ⟨rfl, rfl⟩ := app_eq e2 hgl
      rw [h3] at k3
      cases k3
      rw [ih hm us' o2 k5]
theorem LpS.det {s : List UInt8} {ts us : List Tok} {a b : Nat} (h : LpS s ts [] a) (k : LpS s us [] b) : us = ts := by
  obtain ⟨g, l, rfl, hg, hl⟩ := h
  obtain ⟨g', l', e, hg', hl'⟩ := k
  have hgl : g.length = g'.length := by rw [← hg, ← hg', e]
  obtain ⟨rfl, rfl⟩ := app_eq e hgl
  exact hl.det rfl us b hl'

/-! ### What is put in -/
def pcx (x g : Str) : Pc := ⟨x, g, (readT x).1⟩
def mkW (init : List Pc) (last g : Str) : List Pc := init ++ [pcx last (32 :: g)]
theorem last_fit {last g r2 : Str} (hx : last = [59] ∨ last = [125] ∨ last = [120]) (h : gapLen (g ++ r2) = g.length) : fitB (pcx last (32 :: g)) r2.head? = true := by
  have hg : gapLen (g ++ r2.head?.toList) = g.length := gap_swap h (by
    cases r2 with
    | nil => exact .inl rfl
    | cons a r => exact .inr rfl)
  have hg2 : gapLen ((32 :: g) ++ r2.head?.toList) = (32 :: g).length := by
    unfold gapLen at hg ⊢
    rw [List.cons_append, gapC_false, if_neg (by decide), if_pos (by decide), hg]
    rfl
  simp only [fitB, Bool.and_eq_true, bne_iff_ne, ne_eq, beq_iff_eq]
  rcases hx with rfl | rfl | rfl
  · exact ⟨⟨⟨by simp [pcx], rfl⟩, rfl⟩, hg2⟩
  · exact ⟨⟨⟨by simp [pcx], rfl⟩, rfl⟩, hg2⟩
  · exact ⟨⟨⟨by simp [pcx], rfl⟩, rfl⟩, hg2⟩
theorem mkW_ok {init : List Pc} {last g r2 : Str} {c : UInt8} (hx : last = [59] ∨ last = [125] ∨ last = [120]) (hc : last.head? = some c) (hi : okP init (some c) = true) (h : gapLen (g ++ r2) = g.length) : okP (mkW init last g) r2.head? = true := by
  unfold mkW
  rw [okP_app]
  have e : (pcB [pcx last (32 :: g)]).head?.or r2.head? = some c := by
    show (last ++ ((32 :: g) ++ [])).head?.or r2.head? = some c
    cases last with
    | nil => cases hc
    | cons a l => cases hc; rfl
  rw [e, hi]
  simp only [okP, Bool.and_true, Bool.true_and]
  have := last_fit hx h
  have e2 : (pcB ([] : List Pc)).head?.or r2.head? = r2.head? := rfl
  rw [e2]
  exact this
theorem mkW_bytes (init : List Pc) (last g : Str) : pcB (mkW init last g) = (pcB init ++ last) ++ (32 :: g) := by
  unfold mkW; rw [pcB_app]; simp [pcB, pcx]
theorem gap_one {c : UInt8} (hc : isGapB c = false) (t : Str) : gapLen ([32] ++ c :: t) = 1 := by
  unfold isGapB at hc
  simp only [Bool.or_eq_false_iff] at hc
  unfold gapLen
  rw [List.cons_append, gapC_false, if_neg (by decide), if_pos (by decide), List.nil_append, gapC_false, if_neg (by simpa using hc.1), if_neg (by simp [hc.2])]
theorem ptoks_get (l : List Tok) (E i : Nat) : (ptoks l E)[i]? = match l[i]? with | some t => some ⟨t, wordT t⟩ | none => if i = l.length then some ⟨⟨0, [], 0, E⟩, wEnd⟩ else none := by
  unfold ptoks
  by_cases hi : i < l.length
  · rw [List.getElem?_append_left (by simpa using hi)]
    simp [hi]
  · rw [List.getElem?_append_right (by simp; omega), List.length_map, List.getElem?_eq_none (by omega : l.length ≤ i)]
    simp only
    by_cases he : i = l.length
    · rw [if_pos he, he, Nat.sub_self]; rfl
    · rw [if_neg he]
      exact List.getElem?_eq_none (by simp; omega)
theorem ptoks_len (l : List Tok) (E : Nat) : (ptoks l E).length = l.length + 1 := by unfold ptoks; simp
theorem word_sh (d : Nat) (t : Tok) : wordT (sh d t) = wordT t := rfl
/-- Tokens that were put in after the first k: what lies before, and what lies behind. -/
theorem win_before (l w r : List Tok) (E E' k : Nat) (hk : k ≤ l.length) : Win (ptoks l E) (ptoks (l.take k ++ (w ++ r)) E') 0 k 0 := by
  have get : ∀ i, i < k → (ptoks (l.take k ++ (w ++ r)) E')[i]? = (ptoks l E)[i]? := by
    intro i hi
    rw [ptoks_get, ptoks_get, List.getElem?_append_left (by rw [List.length_take]; omega), List.getElem?_take, if_pos hi, List.getElem?_eq_getElem (by omega : i < l.length)]
  refine ⟨fun i _ hi => ?_, fun i _ hi => ?_, by rw [ptoks_len]; omega, by rw [ptoks_len, List.length_append, List.length_take]; omega⟩
  · unfold wd; rw [Nat.add_zero, get i hi]
  · unfold tk; rw [Nat.add_zero, get i hi]; exact ⟨rfl, rfl, rfl⟩
theorem win_behind (l w : List Tok) (E E' k D : Nat) (hk : k ≤ l.length) : Win (ptoks l E) (ptoks (l.take k ++ (w ++ (l.drop k).map (sh D))) E') k (ptoks l E).length w.length := by
  have hlt : (l.take k).length = k := by rw [List.length_take]; omega
  have get : ∀ i, k ≤ i → (l.take k ++ (w ++ (l.drop k).map (sh D)))[i + w.length]? = (l[i]?).map (sh D) := by
    intro i hi
    rw [List.getElem?_append_right (by omega), List.getElem?_append_right (by omega), List.getElem?_map, List.getElem?_drop]
    congr 2
    omega
  have hlen : (l.take k ++ (w ++ (l.drop k).map (sh D))).length = l.length + w.length := by
    simp only [List.length_append, List.length_map, List.length_drop, hlt]; omega
  have key : ∀ i, k ≤ i → wd (ptoks (l.take k ++ (w ++ (l.drop k).map (sh D))) E') (i + w.length) = wd (ptoks l E) i ∧ KEq (tk (ptoks l E) i) (tk (ptoks (l.take k ++ (w ++ (l.drop k).map (sh D))) E') (i + w.length)) := by
    intro i hi
    unfold wd tk
    rw [ptoks_get, ptoks_get, get i hi, hlen]
    cases hl : l[i]? with
    | some t => exact ⟨rfl, rfl, rfl, rfl⟩
    | none =>
      simp only [Option.map_none]
      by_cases he : i = l.length
      · rw [if_pos he, if_pos (by omega)]; exact ⟨rfl, rfl, rfl, rfl⟩
      · rw [if_neg he, if_neg (by omega)]; exact ⟨rfl, rfl, rfl, rfl⟩
  refine ⟨fun i hi _ => (key i hi).1, fun i hi _ => (key i hi).2, Nat.le_refl _, by rw [ptoks_len, ptoks_len, hlen]; omega⟩
/-- The words of what was put in. -/
theorem ws_of {ts : List PTok} : ∀ (ws : List Str) (i : Nat) (r : List PTok) (p : List PTok), ts.drop i = p ++ r → p.map PTok.word = ws → Ws ts i ws
  | [], _, _, _, _, _ => trivial
  | w :: ws, i, r, [], _, h => by cases h
  | w :: ws, i, r, t :: p, h, hw => by
    injection hw with h1 h2
    have h : ts.drop i = t :: (p ++ r) := h
    exact ⟨(at_wd h).trans h1, ws_of ws (i + 1) r p (at_next h) h2⟩
theorem drop_put (l w r : List Tok) (E k : Nat) (hk : k ≤ l.length) : (ptoks (l.take k ++ (w ++ r)) E).drop k = w.map pt ++ ptoks r E := by
  rw [ptoks_pt, ptoks_pt]
  simp only [List.map_append, List.append_assoc]
  exact List.drop_left' (by rw [List.length_map, List.length_take]; omega)
theorem tk_put {ts : List PTok} {i j : Nat} {p r : List PTok} (h : ts.drop i = p ++ r) (hj : j < p.length) : tk ts (i + j) = (p[j]).tok := by
  have : ts[i + j]? = some p[j] := by
    have h2 : (ts.drop i)[j]? = some p[j] := by rw [h, List.getElem?_append_left hj]; simp [hj]
    rw [List.getElem?_drop] at h2
    exact h2
  unfold tk; rw [this]
end Go.Proofs.YtgleakjalhkkhaaGreatDoor

/- A source with a wrong statement, or a wrong item, put in: what Parse answers. -/
namespace Go.Proofs.YtgleakjalhkkhaaGreatDoor
open Go

def stI : Nat → List Pc
  | 0 => [pcx [108, 101, 116] [32]]
  | 1 => [pcx [108, 101, 116] [32], pcx [97] [32], pcx [53] [], pcx [58] [], pcx [117, 56] []]
  | 2 => [pcx [120] [32], pcx [61] [32], pcx [40] [], pcx [97] [32], pcx [43] [32], pcx [41] []]
  | 3 => [pcx [105, 102] [32], pcx [40] [], pcx [97] [32], pcx [61, 61] [32], pcx [98] [32], pcx [123] [32], pcx [99] [32], pcx [61] [32], pcx [100] [], pcx [59] [32], pcx [125] [32], pcx [101, 108, 115, 101] [32], pcx [123] [32], pcx [97, 99, 99, 101, 112, 116] [], pcx [59] [32]]
  | 4 => [pcx [119, 104, 105, 108, 101] [32], pcx [108, 101, 110] [32], pcx [97, 99, 99, 101, 112, 116] []]
  | 5 => [pcx [110, 101, 119] [32], pcx [112] [], pcx [58] [], pcx [117, 56] [], pcx [91] [], pcx [51] [], pcx [58] [], pcx [117, 56] []]
  | 6 => [pcx [120] [], pcx [91] [], pcx [53] [], pcx [58] [], pcx [117, 56] [], pcx [93] [32], pcx [55] [], pcx [58] [], pcx [117, 56] []]
  | 7 => [pcx [114, 101, 106, 101, 99, 116] [32], pcx [97] []]
  | 8 => [pcx [105, 110] [32], pcx [61] [32], pcx [53] [], pcx [58] [], pcx [117, 56] []]
  | 9 => [pcx [53] [], pcx [58] [], pcx [117, 56] []]
  | 10 => [pcx [123] [32], pcx [97] [32], pcx [61] [32], pcx [98] [], pcx [59] [32]]
  | _ => [pcx [105, 102] [32], pcx [126] [32], pcx [123] [32], pcx [108, 101, 116] [32], pcx [97] [32], pcx [61] [32], pcx [98] [], pcx [59] [32]]
def stL : Nat → Str
  | 0 => [59]
  | 1 => [59]
  | 2 => [59]
  | 3 => [125]
  | 4 => [59]
  | 5 => [59]
  | 6 => [59]
  | 7 => [59]
  | 8 => [59]
  | 9 => [59]
  | 10 => [125]
  | _ => [125]
def stA : Nat → Nat
  | 0 => 4
  | 1 => 6
  | 2 => 9
  | 3 => 11
  | 4 => 10
  | 5 => 13
  | 6 => 8
  | 7 => 7
  | 8 => 0
  | 9 => 0
  | 10 => 0
  | _ => 5
def stB (k : Nat) : Str := pcB (stI k) ++ stL k
def itI : Nat → List Pc
  | 0 => [pcx [115, 116, 114, 117, 99, 116] [32], pcx [123] [32], pcx [97] [], pcx [58] [32], pcx [117, 56] [32]]
  | 1 => [pcx [115, 116, 114, 117, 99, 116] [32], pcx [115] [32], pcx [123] [32], pcx [97] [32], pcx [117, 56] [32]]
  | 2 => [pcx [102, 117, 110, 99] [32], pcx [102] [], pcx [40] [], pcx [97] [], pcx [58] [32], pcx [117, 56] [32], pcx [123] [32], pcx [114, 101, 116, 117, 114, 110] [32], pcx [97] [], pcx [59] [32]]
  | 3 => [pcx [102, 117, 110, 99] [32], pcx [102] [], pcx [40] [], pcx [41] [32], pcx [123] [32], pcx [114, 101, 116, 117, 114, 110] [32], pcx [97] [], pcx [59] [32]]
  | 4 => []
  | _ => []
def itL : Nat → Str
  | 0 => [125]
  | 1 => [125]
  | 2 => [125]
  | 3 => [125]
  | 4 => [120]
  | _ => [125]
def itA : Nat → Nat
  | 0 => 7
  | 1 => 13
  | 2 => 13
  | 3 => 9
  | 4 => 0
  | _ => 0
def itB (k : Nat) : Str := pcB (itI k) ++ itL k

theorem pcT_sh : ∀ (a : List Pc) (o : Nat), pcT o a = (pcT 0 a).map (sh o)
  | [], _ => rfl
  | p :: r, o => by
    rw [pcT, pcT, List.map_cons, pcT_sh r, pcT_sh r (0 + p.x.length + p.g.length), List.map_map]
    congr 1
    · simp [sh, mkTok]
    · apply List.map_congr_left
      intro t _
      simp only [sh, Function.comp]
      congr 1
      omega
theorem pcT_mkW (init : List Pc) (last g : Str) (o : Nat) : pcT o (mkW init last g) = (pcT 0 (init ++ [pcx last []])).map (sh o) := by
  rw [← pcT_sh]
  unfold mkW
  rw [pcT_app, pcT_app]
  rfl
theorem word_map (l : List Tok) (o : Nat) : ((l.map (sh o)).map pt).map PTok.word = l.map wordT := by
  simp only [List.map_map]
  apply List.map_congr_left
  intro t _
  rfl
/-- What Parse answers where the run ends with one diagnostic. -/
theorem parse_ends {s : Str} {l : List Tok} {x : Nat} {t : T} {n : Nat} {d : Nat × Nat} (h : lexS s = (l, 0, x)) (hp : program (ptoks l s.length) ⟨0, []⟩ = .ok t ⟨n, [d]⟩) : parseS s = (T.zero, [d]) := by
  have ha : attempt (program (ptoks l s.length)) 2 ⟨0, []⟩ = .ok (some t) ⟨n, [d]⟩ := by unfold attempt; rw [hp]
  unfold parseS
  rw [h]
  simp only
  rw [ha]
  rfl
theorem parse_run {s : Str} {l : List Tok} {x : Nat} {t : T} (hl : lexS s = (l, 0, x)) (h : parseS s = (t, [])) : ∃ s', program (ptoks l s.length) ⟨0, []⟩ = .ok t s' ∧ s'.ds = [] := by
  unfold parseS at h
  rw [hl] at h
  simp only at h
  cases hp : program (ptoks l s.length) ⟨0, []⟩ with
  | ok t' s' =>
    have ha : attempt (program (ptoks l s.length)) 2 ⟨0, []⟩ = .ok (some t') s' := by unfold attempt; rw [hp]
    rw [ha] at h
    simp only at h
    split at h
    · rename_i hd
      cases h
      exact ⟨s', rfl, hd⟩
    · rename_i hd
      simp only [Prod.mk.injEq] at h
      exact absurd h.2 hd
  | out q' s' =>
    exfalso
    have hg := ((prog_gw _ (gw_item _ (by rw [ptoks_len]; omega)) _).2 _ _ hp).2
    unfold attempt at h
    rw [hp] at h
    simp only at h
    have hs : s'.ds = [] := by
      split at h
      · rename_i heq
        split at heq
        · cases heq
        · cases heq
      · rename_i heq
        split at heq
        · cases heq; exact (Prod.mk.inj h).2
        · cases heq
      · rename_i heq
        split at heq
        · cases heq
        · cases heq; exact (Prod.mk.inj h).2
    rw [hs] at hg
    simp at hg
/-- An opening brace is one byte. -/
theorem brace_text {t : Tok} (h : ∃ x r, x ≠ [] ∧ tokLen (x ++ r) = x.length ∧ readT x = ((t.kind, t.text, t.num), 0)) (hw : wordT t = pLB) : textOf t = [123] := by
  obtain ⟨x, r, hx, _, hr⟩ := h
  have hkey : isKey pLB = false := by decide
  unfold wordT at hw
  rcases read_kinds hx hr with ⟨e, _⟩ | ⟨u, e, _⟩ | ⟨e, _⟩ | ⟨e, b, l, rfl, hb, _⟩
  · simp only [Prod.mk.injEq] at e
    rw [if_neg (by omega), if_neg (by omega)] at hw
    split at hw
    · exact absurd hw (by decide)
    · rename_i hk
      rw [hw, hkey] at hk
      exact absurd ⟨e.1, rfl⟩ hk
  · simp only [Prod.mk.injEq] at e
    rw [if_pos e.1] at hw
    exact absurd hw (by decide)
  · simp only [Prod.mk.injEq] at e
    rw [if_neg (by omega), if_pos e.1] at hw
    exact absurd hw (by decide)
  · simp only [Prod.mk.injEq] at e
    rw [if_neg (by omega), if_neg (by omega), if_neg (by omega)] at hw
    unfold textOf textV
    simp only [if_neg (show ¬ t.kind = 2 by omega), if_neg (show ¬ t.kind = 3 by omega)]
    exact hw
/-- No statement begins with else. -/
theorem not_else {ts : List PTok} {g i j : Nat} {l a : List T} (hgs : Gw (statement ts (E9 ts) (B9 ts))) (h : stmts ts (statement ts (E9 ts) (B9 ts)) (g + 1) l ⟨i, []⟩ = .ok a ⟨j, []⟩) : wd ts i ≠ kElse := by
  intro he
  rw [stmts_at ts _ g l ⟨i, []⟩ (by show ¬ wd ts i = pRB; rw [he]; decide)] at h
  have hb : statement ts (E9 ts) (B9 ts) ⟨i, []⟩ = .out 0 ⟨i, [(10, (tk ts i).off)]⟩ := st_bad he rfl
  have ha : attempt (statement ts (E9 ts) (B9 ts)) 0 ⟨i, []⟩ = .ok none ⟨i, [(10, (tk ts i).off)]⟩ := by unfold attempt; rw [hb]; rfl
  rw [bnd_ok ha] at h
  simp only [stK, skipStatement] at h
  cases hk : skipGo ts ts.length 0 ⟨i, [(10, (tk ts i).off)]⟩ with
  | ok u s2 =>
    rw [bnd_ok hk] at h
    have e2 := (skip_gw ts _ _ _).1 _ _ hk
    have h6 := ((stmts_gw ts _ hgs g l s2).1 _ _ h).length_le
    rw [e2] at h6
    simp at h6
  | out u s2 => rw [bnd_out hk] at h; cases h
theorem stmt_gw (ts : List PTok) (h : 0 < ts.length) : Gw (statement ts (E9 ts) (B9 ts)) := by
  have X : CutAt ts [⟨⟨0, [], 0, 0⟩, wEnd⟩] 0 0 := ⟨fun i hi => absurd hi (by omega), rfl, rfl, by simp, h⟩
  have C := cut_clo X
  exact (c_statement C (c_expression C 9) (c_block C 9)).1
/-- The wrong statements, each by its words. -/
theorem st_all (k : Nat) (hk : k < 12) : ∃ (ws : List Str) (pi : Nat) (c c0 : UInt8) (tl : Str), (pcT 0 (stI k ++ [pcx (stL k) []])).map wordT = ws ∧ pi < ws.length ∧ ((pcT 0 (stI k ++ [pcx (stL k) []]))[pi]?).map Tok.off = some (stA k) ∧ (stL k = [59] ∨ stL k = [125] ∨ stL k = [120]) ∧ (stL k).head? = some c ∧ okP (stI k) (some c) = true ∧
    stB k = c0 :: tl ∧ isGapB c0 = false ∧ ws.head? ≠ some pRB ∧ ∀ (ts : List PTok) (i : Nat), Ws ts i ws → wd ts (i + ws.length) ≠ kElse → Bad ts (E9 ts) (B9 ts) i pi ws.length := by
  match k, hk with
  | 0, _ => exact ⟨[kLet, pSemi], 1, 59, 108, _, by decide +kernel, by decide, by decide +kernel, Or.inl rfl, rfl, by decide +kernel, rfl, by decide, by decide, fun ts i h hn => bad0 h⟩
  | 1, _ => exact ⟨[kLet, wName, wNumber, pColon, wType, pSemi], 2, 59, 108, _, by decide +kernel, by decide, by decide +kernel, Or.inl rfl, rfl, by decide +kernel, rfl, by decide, by decide, fun ts i h hn => bad1 h⟩
  | 2, _ => exact ⟨[wName, pEq, pLP, wName, [43], pRP, pSemi], 5, 59, 120, _, by decide +kernel, by decide, by decide +kernel, Or.inl rfl, rfl, by decide +kernel, rfl, by decide, by decide, fun ts i h hn => bad2 h⟩
  | 3, _ => exact ⟨[kIf, pLP, wName, [61, 61], wName, pLB, wName, pEq, wName, pSemi, pRB, kElse, pLB, kAccept, pSemi, pRB], 5, 125, 105, _, by decide +kernel, by decide, by decide +kernel, Or.inr (Or.inl rfl), rfl, by decide +kernel, rfl, by decide, by decide, fun ts i h hn => bad3 h hn⟩
  | 4, _ => exact ⟨[kWhile, kLen, kAccept, pSemi], 2, 59, 119, _, by decide +kernel, by decide, by decide +kernel, Or.inl rfl, rfl, by decide +kernel, rfl, by decide, by decide, fun ts i h hn => bad4 h⟩
  | 5, _ => exact ⟨[kNew, wName, pColon, wType, pLK, wNumber, pColon, wType, pSemi], 8, 59, 110, _, by decide +kernel, by decide, by decide +kernel, Or.inl rfl, rfl, by decide +kernel, rfl, by decide, by decide, fun ts i h hn => bad5 h⟩
  | 6, _ => exact ⟨[wName, pLK, wNumber, pColon, wType, pRK, wNumber, pColon, wType, pSemi], 6, 59, 120, _, by decide +kernel, by decide, by decide +kernel, Or.inl rfl, rfl, by decide +kernel, rfl, by decide, by decide, fun ts i h hn => bad6 h⟩
  | 7, _ => exact ⟨[kReject, wName, pSemi], 1, 59, 114, _, by decide +kernel, by decide, by decide +kernel, Or.inl rfl, rfl, by decide +kernel, rfl, by decide, by decide, fun ts i h hn => bad7 h⟩
  | 8, _ => exact ⟨[kIn, pEq, wNumber, pColon, wType, pSemi], 0, 59, 105, _, by decide +kernel, by decide, by decide +kernel, Or.inl rfl, rfl, by decide +kernel, rfl, by decide, by decide, fun ts i h hn => bad8 h⟩
  | 9, _ => exact ⟨[wNumber, pColon, wType, pSemi], 0, 59, 53, _, by decide +kernel, by decide, by decide +kernel, Or.inl rfl, rfl, by decide +kernel, rfl, by decide, by decide, fun ts i h hn => bad9 h⟩
  | 10, _ => exact ⟨[pLB, wName, pEq, wName, pSemi, pRB], 0, 125, 123, _, by decide +kernel, by decide, by decide +kernel, Or.inr (Or.inl rfl), rfl, by decide +kernel, rfl, by decide, by decide, fun ts i h hn => bad10 h hn⟩
  | 11, _ => exact ⟨[kIf, pTilde, pLB, kLet, wName, pEq, wName, pSemi, pRB], 2, 125, 105, _, by decide +kernel, by decide, by decide +kernel, Or.inr (Or.inl rfl), rfl, by decide +kernel, rfl, by decide, by decide, fun ts i h hn => bad11 h hn⟩
/-- The wrong items, each by its words. -/
theorem it_all (k : Nat) (hk : k < 6) : ∃ (ws : List Str) (pi : Nat) (c c0 : UInt8) (tl : Str), (pcT 0 (itI k ++ [pcx (itL k) []])).map wordT = ws ∧ pi < ws.length ∧ ((pcT 0 (itI k ++ [pcx (itL k) []]))[pi]?).map Tok.off = some (itA k) ∧ (itL k = [59] ∨ itL k = [125] ∨ itL k = [120]) ∧ (itL k).head? = some c ∧ okP (itI k) (some c) = true ∧
    itB k = c0 :: tl ∧ isGapB c0 = false ∧ ∀ (ts : List PTok) (b : PM T) (i : Nat), Ws ts i ws → BadI ts b i pi ws.length := by
  match k, hk with
  | 0, _ => exact ⟨[kStruct, pLB, wName, pColon, wType, pRB], 1, 125, 115, _, by decide +kernel, by decide, by decide +kernel, Or.inr (Or.inl rfl), rfl, by decide +kernel, rfl, by decide, fun ts b i h => badI0 h⟩
  | 1, _ => exact ⟨[kStruct, wName, pLB, wName, wType, pRB], 4, 125, 115, _, by decide +kernel, by decide, by decide +kernel, Or.inr (Or.inl rfl), rfl, by decide +kernel, rfl, by decide, fun ts b i h => badI1 h⟩
  | 2, _ => exact ⟨[kFunc, wName, pLP, wName, pColon, wType, pLB, kReturn, wName, pSemi, pRB], 6, 125, 102, _, by decide +kernel, by decide, by decide +kernel, Or.inr (Or.inl rfl), rfl, by decide +kernel, rfl, by decide, fun ts b i h => badI2 h⟩
  | 3, _ => exact ⟨[kFunc, wName, pLP, pRP, pLB, kReturn, wName, pSemi, pRB], 4, 125, 102, _, by decide +kernel, by decide, by decide +kernel, Or.inr (Or.inl rfl), rfl, by decide +kernel, rfl, by decide, fun ts b i h => badI3 h⟩
  | 4, _ => exact ⟨[wName], 0, 120, 120, _, by decide +kernel, by decide, by decide +kernel, Or.inr (Or.inr rfl), rfl, by decide +kernel, rfl, by decide, fun ts b i h => badI4 h⟩
  | 5, _ => exact ⟨[pRB], 0, 125, 125, _, by decide +kernel, by decide, by decide +kernel, Or.inr (Or.inl rfl), rfl, by decide +kernel, rfl, by decide, fun ts b i h => badI5 h⟩
end Go.Proofs.YtgleakjalhkkhaaGreatDoor

/- A source with a wrong statement, or a wrong item, put in: what Parse answers, whole. -/
namespace Go.Proofs.YtgleakjalhkkhaaGreatDoor
open Go

theorem wrong_src {b : Str} {l : List Tok} {x : Nat} {t : T} (hl : lexS b = (l, 0, x)) (hP : parseS b = (t, [])) : ∃ L0 K p, t = .mk 1 [] [] 0 0 0 (L0 ++ [.mk 6 [] [] 0 0 p K]) ∧ p < b.length ∧
    (∀ k, k < 12 → ∀ l' x', lexS (b.take (p + 1) ++ 32 :: (stB k ++ 32 :: b.drop (p + 1))) = (l', 0, x') → parseS (b.take (p + 1) ++ 32 :: (stB k ++ 32 :: b.drop (p + 1))) = (T.zero, [(10, p + 2 + stA k)])) ∧
    (∀ k, k < 6 → ∀ l' x', lexS (itB k ++ 32 :: b) = (l', 0, x') → parseS (itB k ++ 32 :: b) = (T.zero, [(10, itA k)])) := by
  obtain ⟨s', hp, hd⟩ := parse_run hl hP
  have hrd := lexS_rd hl
  have hts : 0 < (ptoks l b.length).length := by rw [ptoks_len]; omega
  have hend : ∀ i, wd (ptoks l b.length) i = wEnd → i + 1 = (ptoks l b.length).length := fun i hi => by
    have := wd_ptoks hrd hi
    rw [ptoks_len]; omega
  obtain ⟨L, N, rfl, hN, hwe, hits⟩ := run_parts hend hp hd
  obtain ⟨i0, t0, _, hw, hit, ⟨l0, hL⟩, hk6, hreach⟩ := items_reach hts _ _ _ _ _ hits (by omega) (by omega)
  obtain ⟨K, N', rfl, hb, hr, ht0, hst⟩ := block_parts hw hit
  have hi0 := (mv_stmts (ptoks l b.length) (mv_statement _ (mv_expression _ 9) (mv_block _ 9)) _ _).ok _ _ _ hst
  simp only at hi0
  have hpl := ptoks_len l b.length
  have hn0 : i0 + 1 < l.length := by omega
  have hget : (ptoks l b.length)[i0 + 1]? = some ⟨l[i0 + 1], wordT l[i0 + 1]⟩ := by rw [ptoks_get, List.getElem?_eq_getElem hn0]
  have hwd : wordT l[i0 + 1] = pLB := by
    have := hb
    unfold wd at this
    rw [hget] at this
    exact this
  have htk : tk (ptoks l b.length) (i0 + 1) = l[i0 + 1] := by unfold tk; rw [hget]
  have htx := brace_text (hrd _ (List.getElem_mem hn0)) hwd
  obtain ⟨h1, h2, ⟨g0, r0, hb0, hg0, hlp⟩, _⟩ := lexS_ok hl
  obtain ⟨q, g, r2, hr0, hq, hlen, hg, hlp2, hglue⟩ := hlp.split (i0 + 1) hn0
  rw [htx] at hlen hlp2 hglue
  have hg0' : gapLen (g0 ++ r0) = g0.length := by rw [← hb0]; exact hg0
  obtain ⟨p, hpe⟩ : ∃ p, l[i0 + 1].off = p := ⟨_, rfl⟩
  rw [hpe] at hlen hlp2 hglue
  simp only [List.length_cons, List.length_nil] at hlen hlp2 hglue
  have hbq : b = (g0 ++ q) ++ (g ++ r2) := by rw [hb0, hr0]; simp
  have hql : (g0 ++ q).length = p + 1 := by rw [List.length_append]; omega
  have htake : b.take (p + 1) = g0 ++ q := by
    have := List.take_left' (l₂ := g ++ r2) hql
    rw [← hbq] at this; exact this
  have hdrop : b.drop (p + 1) = g ++ r2 := by
    have := List.drop_left' (l₂ := g ++ r2) hql
    rw [← hbq] at this; exact this
  refine ⟨l0, K, p, by rw [hL, ht0, htk, hpe], by have h5 := congrArg List.length hbq; rw [List.length_append, hql] at h5; omega, ?_, ?_⟩
  · intro k hk l' x' hl'
    rw [htake, hdrop] at hl' ⊢
    obtain ⟨ws, pi, c, c0, tl, a1, a2, a3, a4, a5, a6, a7, a8, a9, a10⟩ := st_all k hk
    obtain ⟨W, hW⟩ : ∃ W, W = mkW (stI k) (stL k) g := ⟨_, rfl⟩
    have hWb : pcB W = stB k ++ (32 :: g) := by rw [hW, mkW_bytes]; rfl
    have hS : (g0 ++ q) ++ 32 :: (stB k ++ 32 :: (g ++ r2)) = g0 ++ (q ++ ([32] ++ (pcB W ++ r2))) := by rw [hWb]; simp
    have hlW := lp_pieces W (p + (0 + 1) + 1) r2 _ [] _ (by rw [hW]; exact mkW_ok a4 a5 a6 hg) (by
      have := hlp2.shift ((stB k).length + 2)
      have e : p + (0 + 1) + 1 + (pcB W).length = p + (0 + 1) + g.length + ((stB k).length + 2) := by rw [hWb]; simp; omega
      rw [e]; exact this)
    have hone : gapLen ([32] ++ (pcB W ++ r2)) = ([32] : Str).length := by
      rw [hWb, a7]
      exact gap_one a8 _
    have hG := hglue [32] (pcB W ++ r2) _ [] _ ⟨32, rfl, by decide⟩ hone hlW
    have hLS : LpS ((g0 ++ q) ++ 32 :: (stB k ++ 32 :: (g ++ r2))) _ [] _ := ⟨g0, _, hS, by rw [hS]; exact gap_swap hg0' (.inr (by
      have e1 := head_pre (r' := [32] ++ (pcB W ++ r2)) hq []
      have e2 := head_pre (r' := g ++ r2) hq []
      simp only [List.nil_append] at e1 e2
      rw [hr0, ← e1, ← e2])), hG⟩
    have hdet := hLS.det (lexS_ok hl').2.2.1
    rw [hdet] at hl'
    have hwl : (pcT (p + (0 + 1) + 1) W).length = ws.length := by
      rw [hW, pcT_mkW, List.length_map, ← a1, List.length_map]
    obtain ⟨S, hSS⟩ : ∃ S, S = (g0 ++ q) ++ 32 :: (stB k ++ 32 :: (g ++ r2)) := ⟨_, rfl⟩
    rw [← hSS] at hl' ⊢
    have XA := win_before l (pcT (p + (0 + 1) + 1) W) ((l.drop (i0 + 1 + 1)).map (sh ((stB k).length + 2))) b.length S.length (i0 + 1 + 1) (by omega)
    have XB := win_behind l (pcT (p + (0 + 1) + 1) W) b.length S.length (i0 + 1 + 1) ((stB k).length + 2) (by omega)
    have hdp := drop_put l (pcT (p + (0 + 1) + 1) W) ((l.drop (i0 + 1 + 1)).map (sh ((stB k).length + 2))) S.length (i0 + 1 + 1) (by omega)
    have hws := ws_of ws (i0 + 1 + 1) _ _ hdp (by rw [hW, pcT_mkW, word_map, a1])
    rw [hwl] at XB
    have hne : wd (ptoks (l.take (i0 + 1 + 1) ++ (pcT (p + (0 + 1) + 1) W ++ (l.drop (i0 + 1 + 1)).map (sh ((stB k).length + 2)))) S.length) (i0 + 1 + 1 + ws.length) ≠ kElse := by
      rw [XB.word (i0 + 1 + 1) (Nat.le_refl _) (by omega)]
      exact not_else (stmt_gw _ hts) hst
    have hbad := a10 _ _ hws hne
    have hnb : wd (ptoks (l.take (i0 + 1 + 1) ++ (pcT (p + (0 + 1) + 1) W ++ (l.drop (i0 + 1 + 1)).map (sh ((stB k).length + 2)))) S.length) (i0 + 1 + 1) ≠ pRB := by
      cases ws with
      | nil => simp at a2
      | cons w0 wr =>
        rw [hws.1]
        intro e
        exact a9 (by rw [e]; rfl)
    obtain ⟨t', ht'⟩ := stmt_wrong (N' := N') (by omega) hwe hreach hw hb hr hi0 hst XA XB hbad hnb (by rw [ptoks_len]; simp only [List.length_append, List.length_map, List.length_drop, List.length_take, hwl]; omega)
    have hoff := tk_put hdp (j := pi) (by rw [List.length_map, hwl]; exact a2)
    have ho2 : ((pcT (p + (0 + 1) + 1) W).map pt)[pi]?.map (fun t => t.tok.off) = some (p + 2 + stA k) := by
      rw [hW, pcT_mkW, List.getElem?_map, List.getElem?_map, Option.map_map, Option.map_map]
      cases hq2 : (pcT 0 (stI k ++ [pcx (stL k) []]))[pi]? with
      | none => rw [hq2] at a3; cases a3
      | some tt =>
        rw [hq2] at a3
        simp only [Option.map_some, Option.some.injEq] at a3
        simp only [Option.map_some, Function.comp, Option.some.injEq, pt, sh]
        omega
    have ho3 : (tk (ptoks (l.take (i0 + 1 + 1) ++ (pcT (p + (0 + 1) + 1) W ++ (l.drop (i0 + 1 + 1)).map (sh ((stB k).length + 2)))) S.length) (i0 + 2 + pi)).off = p + 2 + stA k := by
      rw [show i0 + 2 + pi = i0 + 1 + 1 + pi from rfl, hoff]
      rw [List.getElem?_eq_getElem (by rw [List.length_map, hwl]; exact a2)] at ho2
      simpa using ho2
    rw [ho3] at ht'
    exact parse_ends hl' ht'
  · intro k hk l' x' hl'
    obtain ⟨ws, pi, c, c0, tl, a1, a2, a3, a4, a5, a6, a7, a8, a10⟩ := it_all k hk
    obtain ⟨W, hW⟩ : ∃ W, W = mkW (itI k) (itL k) g0 := ⟨_, rfl⟩
    have hWb : pcB W = itB k ++ (32 :: g0) := by rw [hW, mkW_bytes]; rfl
    have hS : itB k ++ 32 :: b = pcB W ++ r0 := by rw [hWb, hb0]; simp
    have hlW := lp_pieces W 0 r0 _ [] _ (by rw [hW]; exact mkW_ok a4 a5 a6 hg0') (by
      have := hlp.shift ((itB k).length + 1)
      have e : 0 + (pcB W).length = g0.length + ((itB k).length + 1) := by rw [hWb]; simp; omega
      rw [e]; exact this)
    have hz : gapLen (pcB W ++ r0) = ([] : Str).length := by
      rw [hWb, a7]
      unfold isGapB at a8
      simp only [Bool.or_eq_false_iff] at a8
      unfold gapLen
      rw [List.cons_append, List.cons_append, gapC_false, if_neg (by simpa using a8.1), if_neg (by simp [a8.2])]
      rfl
    have hLS : LpS (itB k ++ 32 :: b) _ [] _ := ⟨[], _, hS, by rw [hS]; exact hz, hlW⟩
    have hdet := hLS.det (lexS_ok hl').2.2.1
    rw [hdet] at hl'
    have hwl : (pcT 0 W).length = ws.length := by
      rw [hW, pcT_mkW, List.length_map, ← a1, List.length_map]
    obtain ⟨S, hSS⟩ : ∃ S, S = itB k ++ 32 :: b := ⟨_, rfl⟩
    rw [← hSS] at hl' ⊢
    have XB := win_behind l (pcT 0 W) b.length S.length 0 ((itB k).length + 1) (Nat.zero_le _)
    have hdp := drop_put l (pcT 0 W) ((l.drop 0).map (sh ((itB k).length + 1))) S.length 0 (Nat.zero_le _)
    have hws := ws_of ws 0 _ _ hdp (by rw [hW, pcT_mkW, word_map, a1])
    rw [hwl] at XB
    have hbad := a10 _ (block (ptoks (l.take 0 ++ (pcT 0 W ++ (l.drop 0).map (sh ((itB k).length + 1)))) S.length) 10) 0 hws
    obtain ⟨t', ht'⟩ := item_wrong hts hN hwe hits XB hbad (by rw [ptoks_len]; simp only [List.length_append, List.length_map, List.length_drop, List.length_take, hwl]; omega)
    have hoff := tk_put hdp (j := pi) (by rw [List.length_map, hwl]; exact a2)
    have ho2 : ((pcT 0 W).map pt)[pi]?.map (fun t => t.tok.off) = some (itA k) := by
      rw [hW, pcT_mkW, List.getElem?_map, List.getElem?_map, Option.map_map, Option.map_map]
      cases hq2 : (pcT 0 (itI k ++ [pcx (itL k) []]))[pi]? with
      | none => rw [hq2] at a3; cases a3
      | some tt =>
        rw [hq2] at a3
        simp only [Option.map_some, Option.some.injEq] at a3
        simp only [Option.map_some, Function.comp, Option.some.injEq, pt, sh]
        omega
    have ho3 : (tk (ptoks (l.take 0 ++ (pcT 0 W ++ (l.drop 0).map (sh ((itB k).length + 1)))) S.length) (0 + pi)).off = itA k := by
      rw [hoff]
      rw [List.getElem?_eq_getElem (by rw [List.length_map, hwl]; exact a2)] at ho2
      simpa using ho2
    rw [ho3] at ht'
    have e0 : l.take 0 ++ (pcT 0 W ++ (l.drop 0).map (sh ((itB k).length + 1))) = pcT 0 W ++ l.map (sh ((itB k).length + 1)) := by simp
    rw [e0] at ht'
    exact parse_ends hl' ht'
end Go.Proofs.YtgleakjalhkkhaaGreatDoor
