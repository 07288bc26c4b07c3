/- The lexer's plain mathematics, second part: a source as gaps and tokens, and what may be changed in it. Nothing of the program stands here. -/
import Derived.Test.YtnanfedggmkboaaDoorLMath
namespace Go.Proofs.YtnanfedggmkboaaDoor
open Go

/-! ### Gaps -/
/-- Whether a comment is open behind a gap. -/
def gst : Bool → List UInt8 → Bool
  | c, [] => c
  | false, b :: l => gst (b.toNat == 35) l
  | true, b :: l => gst (b.toNat != 10) l
def isGapB (b : UInt8) : Bool := b.toNat == 35 || isBlk b

theorem gapC_false (b : UInt8) (l : List UInt8) : gapC false (b :: l) = if b.toNat == 35 then gapC true l + 1 else if isBlk b then gapC false l + 1 else 0 := by rw [gapC]
theorem gapC_true (b : UInt8) (l : List UInt8) : gapC true (b :: l) = if b.toNat == 10 then gapC false l + 1 else gapC true l + 1 := by rw [gapC]
theorem gapC_app : ∀ (g : List UInt8) (c : Bool) (r r' : List UInt8), g.length ≤ gapC c (g ++ r) → gapC c (g ++ r') = g.length + gapC (gst c g) r'
  | [], c, r, r', _ => by simp [gst]
  | b :: g, false, r, r', h => by
    rw [List.cons_append, gapC_false] at h ⊢
    rw [gst]
    by_cases h1 : (b.toNat == 35) = true
    · rw [if_pos h1] at h ⊢
      rw [h1, gapC_app g true r r' (by simp at h; omega)]; simp; omega
    · rw [if_neg h1] at h ⊢
      by_cases h2 : isBlk b = true
      · rw [if_pos h2] at h ⊢
        have h1' : (b.toNat == 35) = false := by simpa using h1
        rw [h1', gapC_app g false r r' (by simp at h; omega)]; simp; omega
      · rw [if_neg h2] at h; simp at h
  | b :: g, true, r, r', h => by
    rw [List.cons_append, gapC_true] at h ⊢
    rw [gst]
    by_cases h1 : (b.toNat == 10) = true
    · rw [if_pos h1] at h ⊢
      have h1' : (b.toNat != 10) = false := by simpa using h1
      rw [h1', gapC_app g false r r' (by simp at h; omega)]; simp; omega
    · rw [if_neg h1] at h ⊢
      have h1' : (b.toNat != 10) = true := by simpa using h1
      rw [h1', gapC_app g true r r' (by simp at h; omega)]; simp; omega
theorem gapC_rest {g r : List UInt8} {c : Bool} (h : gapC c (g ++ r) = g.length) : gapC (gst c g) r = 0 := by
  have := gapC_app g c r r (by omega)
  omega
/-- Behind a whole gap that something follows, no comment is open, and what follows begins no gap. -/
theorem gap_closed {g r : List UInt8} {c : Bool} (h : gapC c (g ++ r) = g.length) (hr : r ≠ []) : gst c g = false ∧ gapC false r = 0 := by
  have h0 := gapC_rest h
  cases hc : gst c g with
  | false => rw [hc] at h0; exact ⟨rfl, h0⟩
  | true =>
    rw [hc] at h0
    match r, hr with
    | b :: r, _ => rw [gapC_true] at h0; split at h0 <;> omega
theorem gap_zero_head {b : UInt8} {r r' : List UInt8} (h : gapC false (b :: r) = 0) : gapC false (b :: r') = 0 := by
  rw [gapC_false] at h ⊢
  by_cases h1 : (b.toNat == 35) = true
  · rw [if_pos h1] at h; omega
  · rw [if_neg h1] at h ⊢
    by_cases h2 : isBlk b = true
    · rw [if_pos h2] at h; omega
    · rw [if_neg h2]
theorem gap_swap {g r r' : List UInt8} (h : gapLen (g ++ r) = g.length) (hr : r' = [] ∨ r'.head? = r.head?) : gapLen (g ++ r') = g.length := by
  unfold gapLen at h ⊢
  rw [gapC_app g false r r' (by omega)]
  match r', hr with
  | [], _ => simp [gapC]
  | b :: r', hr =>
    match r, h, hr with
    | [], h, hr => simp at hr
    | c :: r, h, hr =>
      have e : b = c := by simpa using hr
      subst e
      obtain ⟨h1, h2⟩ := gap_closed h (by simp)
      rw [h1, gap_zero_head h2]; omega
/-- A gap that may be inserted. -/
def goodGap (g : List UInt8) : Prop := g ≠ [] ∧ (∀ b, g.head? = some b → isGapB b = true) ∧ gapC true g = g.length ∧ gapC false g = g.length ∧ gst false g = false
theorem gap_more {g r gap : List UInt8} (h : gapLen (g ++ r) = g.length) (hg : goodGap gap) : gapLen ((g ++ gap) ++ r) = (g ++ gap).length := by
  unfold gapLen at h ⊢
  obtain ⟨_, _, h3, h4, h5⟩ := hg
  rw [List.append_assoc, gapC_app g false r _ (by omega), List.length_append]
  match r, h with
  | [], _ =>
    rw [List.append_nil]
    cases gst false g
    · rw [h4]
    · rw [h3]
  | b :: r, h =>
    obtain ⟨h1, h2⟩ := gap_closed h (by simp)
    rw [h1, gapC_app gap false [] _ (by rw [List.append_nil]; omega), h5, h2]; omega
/-- A line feed closes a comment. -/
theorem gap_line {g gb lb : List UInt8} (h : gapLen g = g.length) (hb : gapLen (gb ++ lb) = gb.length) : gapLen ((g ++ 10 :: gb) ++ lb) = (g ++ 10 :: gb).length := by
  unfold gapLen at h hb ⊢
  have h' : gapC false (g ++ []) = g.length := by rw [List.append_nil]; exact h
  rw [List.append_assoc, gapC_app g false [] _ (by omega), List.length_append]
  cases gst false g
  · rw [List.cons_append, gapC_false, if_neg (by decide), if_pos (by decide), hb]; simp
  · rw [List.cons_append, gapC_true, if_pos (by decide), hb]; simp

/-! ### Tokens -/
theorem run_all (p : UInt8 → Bool) : ∀ (x r : List UInt8), run p (x ++ r) = x.length → (∀ b ∈ x, p b = true) ∧ run p r = 0
  | [], r, h => ⟨by simp, by simpa using h⟩
  | b :: x, r, h => by
    rw [List.cons_append, run] at h
    by_cases hb : p b = true
    · rw [if_pos hb] at h
      obtain ⟨h1, h2⟩ := run_all p x r (by simp at h; omega)
      refine ⟨fun c hc => ?_, h2⟩
      rcases List.mem_cons.1 hc with rfl | hc
      · exact hb
      · exact h1 c hc
    · rw [if_neg hb] at h; simp at h
theorem run_of_all (p : UInt8 → Bool) : ∀ (x r : List UInt8), (∀ b ∈ x, p b = true) → run p r = 0 → run p (x ++ r) = x.length
  | [], r, _, h => by simpa using h
  | b :: x, r, h, hr => by
    rw [List.cons_append, run, if_pos (h b (by simp)), run_of_all p x r (fun c hc => h c (by simp [hc])) hr]; simp
theorem run_zero (p : UInt8 → Bool) {r : List UInt8} : run p r = 0 ↔ ∀ b, r.head? = some b → p b = false := by
  cases r with
  | nil => simp [run]
  | cons b r =>
    rw [run]
    cases hb : p b <;> simp [hb]
/-- What may follow a token in place of what follows it. -/
def Nx (r r' : List UInt8) : Prop := r' = [] ∨ r'.head? = r.head? ∨ ∃ b, r'.head? = some b ∧ isGapB b = true
theorem gapB_word : ∀ b : UInt8, isGapB b = true → isWrd b = false ∧ isDig b = false ∧ isLet b = false ∧ isSgn b = false ∧ isEq b = false ∧ isDbl b = false ∧ b.toNat ≠ 61 := fun b h => by
  have key : ∀ n : Fin 256, isGapB (UInt8.ofNat n.val) = true → isWrd (UInt8.ofNat n.val) = false ∧ isDig (UInt8.ofNat n.val) = false ∧ isLet (UInt8.ofNat n.val) = false ∧ isSgn (UInt8.ofNat n.val) = false ∧ isEq (UInt8.ofNat n.val) = false ∧ isDbl (UInt8.ofNat n.val) = false ∧ (UInt8.ofNat n.val).toNat ≠ 61 := by decide +kernel
  have := key ⟨b.toNat, b.toNat_lt⟩
  simpa using this (by simpa using h)
theorem nx_run {p : UInt8 → Bool} (hp : ∀ b, isGapB b = true → p b = false) {r r' : List UInt8} (h : run p r = 0) (n : Nx r r') : run p r' = 0 := by
  rw [run_zero] at h ⊢
  intro b hb
  rcases n with rfl | n | ⟨c, hc, hg⟩
  · simp at hb
  · exact h b (n ▸ hb)
  · rw [hc] at hb; cases hb; exact hp _ hg
theorem sign_small : ∀ l, signLen l ≤ 2
  | [] => by simp [signLen]
  | [a] => by simp only [signLen]; split <;> omega
  | a :: b :: l => by simp only [signLen]; split <;> (try split) <;> omega
theorem tok_swap {x r r' : List UInt8} (h : tokLen (x ++ r) = x.length) (hx : x ≠ []) (n : Nx r r') : tokLen (x ++ r') = x.length := by
  match x, hx, h with
  | b :: y, _, h =>
    rw [List.cons_append, tokLen] at h ⊢
    by_cases h1 : isLet b = true
    · rw [if_pos h1] at h ⊢
      rw [← List.cons_append] at h ⊢
      obtain ⟨a1, a2⟩ := run_all _ _ _ h
      exact run_of_all _ _ _ a1 (nx_run (fun c hc => (gapB_word c hc).1) a2 n)
    · rw [if_neg h1] at h ⊢
      by_cases h2 : isDig b = true
      · rw [if_pos h2] at h ⊢
        rw [← List.cons_append] at h ⊢
        obtain ⟨a1, a2⟩ := run_all _ _ _ h
        exact run_of_all _ _ _ a1 (nx_run (fun c hc => (gapB_word c hc).2.1) a2 n)
      · rw [if_neg h2] at h ⊢
        have hs := sign_small (b :: (y ++ r))
        match y, h, hs with
        | [], h, _ =>
          simp only [List.nil_append, List.length_singleton] at h ⊢
          have hb : isSgn b = true := by
            match r, h with
            | [], h => simp only [signLen] at h; split at h <;> first | assumption | omega
            | c :: r, h =>
              simp only [signLen] at h
              split at h
              · omega
              · split at h <;> first | assumption | omega
          match r', n with
          | [], _ => simp [signLen, hb]
          | c :: r', n =>
            simp only [signLen]
            rw [if_neg ?_, if_pos hb]
            intro hc
            rcases n with n | n | ⟨d, hd, hg⟩
            · cases n
            · match r, n, h with
              | [], n, _ => simp at n
              | d :: r, n, h =>
                have e : c = d := by simpa using n
                subst e
                simp only [signLen] at h
                rw [if_pos hc] at h; omega
            · have e : c = d := by simpa using hd
              subst e
              obtain ⟨_, _, _, _, _, g6, g7⟩ := gapB_word c hg
              simp only [Bool.or_eq_true, Bool.and_eq_true, beq_iff_eq] at hc
              rcases hc with ⟨hc, _⟩ | ⟨hc, hd2⟩
              · exact g7 hc
              · rw [← hc, g6] at hd2; cases hd2
        | [c], h, _ =>
          simp only [List.cons_append, List.nil_append, signLen, List.length_cons, List.length_nil] at h ⊢
          split at h
          · rename_i hc; rw [if_pos hc]
          · split at h <;> omega
        | c :: d :: y, h, hs =>
          simp only [List.cons_append, List.length_cons] at h hs
          omega
/-- No token, whatever follows the byte, where a blank follows. -/
theorem tok_none {b : UInt8} {r r' : List UInt8} (h : tokLen (b :: r) = 0) : tokLen (b :: 32 :: r') = 0 := by
  rw [tokLen] at h ⊢
  by_cases h1 : isLet b = true
  · rw [if_pos h1, run, if_pos (by unfold isWrd; simp [h1])] at h; omega
  · rw [if_neg h1] at h ⊢
    by_cases h2 : isDig b = true
    · rw [if_pos h2, run, if_pos h2] at h; omega
    · rw [if_neg h2] at h ⊢
      have hb : ¬ isSgn b = true := by
        intro hb
        match r, h with
        | [], h => simp [signLen, hb] at h
        | c :: r, h => simp only [signLen] at h; rw [if_pos hb] at h; split at h <;> omega
      simp only [signLen]
      rw [if_neg ?_, if_neg hb]
      intro hc
      simp only [Bool.or_eq_true, Bool.and_eq_true, beq_iff_eq] at hc
      rcases hc with ⟨hc, _⟩ | ⟨hc, hd⟩
      · revert hc; decide
      · rw [← hc] at hd; revert hd; decide
/-- A token's first byte begins no gap. -/
theorem tok_gap {l : List UInt8} (h : tokLen l ≠ 0) : gapC false l = 0 := by
  match l, h with
  | [], h => simp [gapC]
  | b :: r, h =>
    rw [gapC_false]
    by_cases hg : isGapB b = true
    · exfalso
      obtain ⟨g1, g2, g3, g4, g5, g6, g7⟩ := gapB_word b hg
      rw [tokLen, if_neg (by simp [g3]), if_neg (by simp [g2])] at h
      match r, h with
      | [], h => simp [signLen, g4] at h
      | c :: r, h => simp [signLen, g4, g5, g6] at h
    · unfold isGapB at hg
      simp only [Bool.or_eq_true, not_or] at hg
      rw [if_neg hg.1, if_neg hg.2]

/-! ### A source as tokens and gaps -/
def sh (d : Nat) (t : Tok) : Tok := { t with off := t.off + d }
/-- From one token on: the tokens, what is left behind a gap, and where. -/
inductive Lp : List UInt8 → Nat → List Tok → List UInt8 → Nat → Prop
  | stop (m : List UInt8) (o : Nat) : Lp m o [] m o
  | cons (x g r : List UInt8) (v : Nat × List UInt8 × Nat) (o : Nat) (ts : List Tok) (m : List UInt8) (o' : Nat) (h1 : tokLen (x ++ (g ++ r)) = x.length) (h2 : x ≠ []) (h3 : readT x = (v, 0)) (h4 : gapLen (g ++ r) = g.length) (h5 : Lp r (o + x.length + g.length) ts m o') : Lp (x ++ (g ++ r)) o (mkTok v o :: ts) m o'
/-- What is wrong behind the tokens. -/
def ErrAt (m : List UInt8) (n e : Nat) : Prop := (tokLen m = 0 ∧ e = 10) ∨ (tokLen m ≠ 0 ∧ n = 1500 ∧ e = 2) ∨ (tokLen m ≠ 0 ∧ n ≠ 1500 ∧ e = (readT (m.take (tokLen m))).2 ∧ e ≠ 0)

theorem lexL_lp : ∀ (f : Nat) (l : List UInt8) (o k : Nat), l.length < f → k ≤ 1500 →
    ((lexL f l o k).2.1 = 0 → Lp l o (lexL f l o k).1 [] (o + l.length) ∧ k + (lexL f l o k).1.length ≤ 1500 ∧ (lexL f l o k).2.2 = 0) ∧
    ((lexL f l o k).2.1 ≠ 0 → ∃ ts m, Lp l o ts m (lexL f l o k).2.2 ∧ m ≠ [] ∧ k + ts.length ≤ 1500 ∧ ErrAt m (k + ts.length) (lexL f l o k).2.1)
  | 0, _, _, _, h, _ => absurd h (by omega)
  | f + 1, l, o, k, h, hk => by
    rw [lexL_succ]
    by_cases h0 : l = []
    · subst h0
      rw [if_pos rfl]
      exact ⟨fun _ => ⟨Lp.stop _ _, by simpa using hk, rfl⟩, fun hn => absurd rfl hn⟩
    · rw [if_neg h0]
      by_cases h1 : tokLen l = 0
      · rw [if_pos h1]
        exact ⟨fun hn => absurd hn (by simp), fun _ => ⟨[], l, Lp.stop _ _, h0, by simpa using hk, Or.inl ⟨h1, rfl⟩⟩⟩
      · rw [if_neg h1]
        by_cases h2 : k = 1500
        · rw [if_pos h2]
          exact ⟨fun hn => absurd hn (by simp), fun _ => ⟨[], l, Lp.stop _ _, h0, by simpa using hk, Or.inr (Or.inl ⟨h1, by simpa using h2, rfl⟩)⟩⟩
        · rw [if_neg h2]
          by_cases h3 : (readT (l.take (tokLen l))).2 ≠ 0
          · rw [if_pos h3]
            exact ⟨fun hn => absurd hn h3, fun _ => ⟨[], l, Lp.stop _ _, h0, by simpa using hk, Or.inr (Or.inr ⟨h1, by simpa using h2, rfl, h3⟩)⟩⟩
          · rw [if_neg h3]
            have hle := tokLen_le l
            have hgl := gapLen_le (l.drop (tokLen l))
            rw [List.length_drop] at hgl
            -- the parts
            obtain ⟨x, hx⟩ : ∃ x, l.take (tokLen l) = x := ⟨_, rfl⟩
            obtain ⟨q, hq⟩ : ∃ q, l.drop (tokLen l) = q := ⟨_, rfl⟩
            obtain ⟨g, hg⟩ : ∃ g, q.take (gapLen q) = g := ⟨_, rfl⟩
            obtain ⟨r, hr⟩ : ∃ r, q.drop (gapLen q) = r := ⟨_, rfl⟩
            have el : x ++ q = l := by rw [← hx, ← hq, List.take_append_drop]
            have eq : g ++ r = q := by rw [← hg, ← hr, List.take_append_drop]
            have ex : x.length = tokLen l := by rw [← hx, List.length_take]; omega
            have hgq : gapLen q ≤ q.length := gapLen_le q
            have eg : g.length = gapLen q := by rw [← hg, List.length_take]; omega
            have elen : x.length + (g.length + r.length) = l.length := by rw [← el, ← eq]; simp
            rw [hx] at h3 ⊢
            rw [hq, hr]
            have ho : o + tokLen l + gapLen q = o + x.length + g.length := by rw [ex, eg]
            rw [ho]
            have hv : readT x = ((readT x).1, 0) := by
              have : (readT x).2 = 0 := by omega
              rw [← this]
            obtain ⟨i1, i2⟩ := lexL_lp f r (o + x.length + g.length) (k + 1) (by omega) (by omega)
            have c1 : tokLen (x ++ (g ++ r)) = x.length := by rw [eq, el, ex]
            have c2 : x ≠ [] := by
              intro e; rw [e] at ex; simp at ex; omega
            have c4 : gapLen (g ++ r) = g.length := by rw [eq, eg]
            have ell : x ++ (g ++ r) = l := by rw [eq, el]
            generalize lexL f r (o + x.length + g.length) (k + 1) = z at *
            refine ⟨fun hn => ?_, fun hn => ?_⟩
            · obtain ⟨j1, j2, j3⟩ := i1 hn
              refine ⟨?_, by simp; omega, j3⟩
              rw [← ell]
              have hlen : o + (x ++ (g ++ r)).length = o + x.length + g.length + r.length := by simp; omega
              rw [hlen]
              exact Lp.cons x g r _ o _ _ _ c1 c2 hv c4 j1
            · obtain ⟨ts, m, j1, j2, j3, j4⟩ := i2 hn
              refine ⟨mkTok (readT x).1 o :: ts, m, ?_, j2, by simp; omega, ?_⟩
              · rw [← ell]
                exact Lp.cons x g r _ o _ _ _ c1 c2 hv c4 j1
              · have : k + (mkTok (readT x).1 o :: ts).length = k + 1 + ts.length := by simp; omega
                rw [this]; exact j4

theorem lp_len {l : List UInt8} {o : Nat} {ts : List Tok} {m : List UInt8} {o' : Nat} (h : Lp l o ts m o') : o' + m.length = o + l.length := by
  induction h with
  | stop => rfl
  | cons x g r v o ts m o' h1 h2 h3 h4 h5 ih => simp; omega
theorem lp_lexL_ok {l : List UInt8} {o : Nat} {ts : List Tok} {m : List UInt8} {o' : Nat} (h : Lp l o ts m o') : m = [] → ∀ (f k : Nat), l.length < f → k + ts.length ≤ 1500 → lexL f l o k = (ts, 0, 0) := by
  induction h with
  | stop m o =>
    intro hm f k hf _
    obtain ⟨f, rfl⟩ : ∃ f', f = f' + 1 := ⟨f - 1, by omega⟩
    rw [lexL_succ, if_pos hm]
  | cons x g r v o ts m o' h1 h2 h3 h4 h5 ih =>
    intro hm f k hf hk
    obtain ⟨f, rfl⟩ : ∃ f', f = f' + 1 := ⟨f - 1, by omega⟩
    have hx : x.length ≠ 0 := by simpa using h2
    rw [lexL_succ, if_neg (by simp [h2]), h1, if_neg hx, if_neg (by simp at hk; omega)]
    have t1 : (x ++ (g ++ r)).take x.length = x := by simp
    have t2 : (x ++ (g ++ r)).drop x.length = g ++ r := by simp
    have t3 : (g ++ r).drop g.length = r := by simp
    rw [t1, h3, if_neg (by simp), t2, h4, t3, ih hm f (k + 1) (by simp at hf; omega) (by simp at hk; omega)]
theorem lp_lexL_err {l : List UInt8} {o : Nat} {ts : List Tok} {m : List UInt8} {o' : Nat} (h : Lp l o ts m o') : m ≠ [] → ∀ (f k e : Nat), l.length < f → k + ts.length ≤ 1500 → ErrAt m (k + ts.length) e → (lexL f l o k).2 = (e, o') := by
  induction h with
  | stop m o =>
    intro hm f k e hf hk he
    obtain ⟨f, rfl⟩ : ∃ f', f = f' + 1 := ⟨f - 1, by omega⟩
    rw [lexL_succ, if_neg hm]
    rcases he with ⟨a, rfl⟩ | ⟨a, b, rfl⟩ | ⟨a, b, c, d⟩
    · rw [if_pos a]
    · rw [if_neg a, if_pos (by simpa using b)]
    · rw [if_neg a, if_neg (by simpa using b), if_pos (by rw [← c]; exact d), ← c]
  | cons x g r v o ts m o' h1 h2 h3 h4 h5 ih =>
    intro hm f k e hf hk he
    obtain ⟨f, rfl⟩ : ∃ f', f = f' + 1 := ⟨f - 1, by omega⟩
    have hx : x.length ≠ 0 := by simpa using h2
    rw [lexL_succ, if_neg (by simp [h2]), h1, if_neg hx, if_neg (by simp at hk; omega)]
    have t1 : (x ++ (g ++ r)).take x.length = x := by simp
    have t2 : (x ++ (g ++ r)).drop x.length = g ++ r := by simp
    have t3 : (g ++ r).drop g.length = r := by simp
    have e1 : k + (mkTok v o :: ts).length = k + 1 + ts.length := by simp; omega
    rw [e1] at he hk
    rw [t1, h3, if_neg (by simp), t2, h4, t3]
    exact ih hm f (k + 1) e (by simp at hf; omega) hk he

/-- A whole source. -/
def LpS (s : List UInt8) (ts : List Tok) (m : List UInt8) (a : Nat) : Prop := ∃ g l, s = g ++ l ∧ gapLen s = g.length ∧ Lp l g.length ts m a
theorem LpS.len {s : List UInt8} {ts : List Tok} {m : List UInt8} {a : Nat} (h : LpS s ts m a) : a + m.length = s.length := by
  obtain ⟨g, l, rfl, _, h⟩ := h
  rw [lp_len h]; simp
theorem src_parts (s : List UInt8) : ∃ g l, s = g ++ l ∧ gapLen s = g.length ∧ s.drop (gapLen s) = l := by
  have := gapLen_le s
  exact ⟨s.take (gapLen s), s.drop (gapLen s), (List.take_append_drop _ _).symm, by rw [List.length_take]; omega, rfl⟩
theorem lexS_ok {s : List UInt8} {ts : List Tok} {a : Nat} (h : lexS s = (ts, 0, a)) : s.length ≤ 4000 ∧ ts.length ≤ 1500 ∧ LpS s ts [] s.length ∧ a = 0 := by
  unfold lexS at h
  split at h
  · simp at h
  · rename_i hl
    split at h
    · rename_i h0
      simp only [Prod.mk.injEq] at h
      obtain ⟨g, l, e, hg, hd⟩ := src_parts s
      have hlen : s.length = g.length + l.length := by rw [e]; simp
      unfold lex0 at h h0
      rw [hd, hg] at h h0
      obtain ⟨i1, _⟩ := lexL_lp (s.length + 1) l g.length 0 (by omega) (by omega)
      obtain ⟨j1, j2, j3⟩ := i1 h0
      rw [h.1] at j1 j2
      exact ⟨by omega, by omega, ⟨g, l, e, hg, by rw [hlen]; exact j1⟩, h.2.2.symm⟩
    · rename_i h0
      simp only [Prod.mk.injEq] at h
      have : (lex0 s).2.1 = 0 := by rw [h.2]
      exact absurd this h0
theorem lexS_err {s : List UInt8} {ts : List Tok} {e a : Nat} (h : lexS s = (ts, e, a)) (he : e ≠ 0) (hs : s.length ≤ 4000) : ts = [] ∧ ∃ us m, LpS s us m a ∧ m ≠ [] ∧ us.length ≤ 1500 ∧ ErrAt m us.length e := by
  unfold lexS at h
  rw [if_neg (by omega)] at h
  split at h
  · simp only [Prod.mk.injEq] at h
    exact absurd h.2.1.symm he
  · rename_i h0
    simp only [Prod.mk.injEq] at h
    refine ⟨h.1.symm, ?_⟩
    obtain ⟨g, l, e1, hg, hd⟩ := src_parts s
    have hlen : s.length = g.length + l.length := by rw [e1]; simp
    unfold lex0 at h h0
    rw [hd, hg] at h h0
    obtain ⟨_, i2⟩ := lexL_lp (s.length + 1) l g.length 0 (by omega) (by omega)
    obtain ⟨us, m, j1, j2, j3, j4⟩ := i2 h0
    rw [h.2] at j1 j4
    refine ⟨us, m, ⟨g, l, e1, hg, j1⟩, j2, by omega, ?_⟩
    rw [Nat.zero_add] at j4
    exact j4
theorem lexS_of {s : List UInt8} {ts : List Tok} {a : Nat} (h : LpS s ts [] a) (hs : s.length ≤ 4000) (ht : ts.length ≤ 1500) : lexS s = (ts, 0, 0) := by
  obtain ⟨g, l, rfl, hg, h⟩ := h
  have e : lex0 (g ++ l) = (ts, 0, 0) := by
    unfold lex0
    rw [hg, List.drop_left]
    exact lp_lexL_ok h rfl _ 0 (by simp; omega) (by omega)
  unfold lexS
  rw [if_neg (by omega), e]; rfl
theorem lexS_of_err {s : List UInt8} {ts : List Tok} {m : List UInt8} {a e : Nat} (h : LpS s ts m a) (hs : s.length ≤ 4000) (ht : ts.length ≤ 1500) (hm : m ≠ []) (he : ErrAt m ts.length e) (h0 : e ≠ 0) : lexS s = ([], e, a) := by
  obtain ⟨g, l, rfl, hg, h⟩ := h
  have e1 : (lex0 (g ++ l)).2 = (e, a) := by
    unfold lex0
    rw [hg, List.drop_left]
    exact lp_lexL_err h hm _ 0 e (by simp; omega) (by omega) (by rw [Nat.zero_add]; exact he)
  unfold lexS
  rw [if_neg (by omega), e1, if_neg h0]
theorem ErrAt.ne {m : List UInt8} {n e : Nat} (h : ErrAt m n e) : e ≠ 0 := by
  rcases h with ⟨_, rfl⟩ | ⟨_, _, rfl⟩ | ⟨_, _, _, h⟩
  · omega
  · omega
  · exact h

/-! ### Changes -/
theorem Lp.shift {l : List UInt8} {o : Nat} {ts : List Tok} {m : List UInt8} {o' : Nat} (h : Lp l o ts m o') (d : Nat) : Lp l (o + d) (ts.map (sh d)) m (o' + d) := by
  induction h with
  | stop => exact Lp.stop _ _
  | cons x g r v o ts m o' h1 h2 h3 h4 h5 ih =>
    have e : o + x.length + g.length + d = o + d + x.length + g.length := by omega
    rw [e] at ih
    exact Lp.cons x g r v (o + d) _ _ _ h1 h2 h3 h4 ih
theorem Lp.first {l : List UInt8} {o : Nat} {t : Tok} {ts : List Tok} {m : List UInt8} {o' : Nat} (h : Lp l o (t :: ts) m o') : t.off = o ∧ tokLen l ≠ 0 ∧ l ≠ [] := by
  cases h with
  | cons x g r v o ts m o' h1 h2 h3 h4 h5 => exact ⟨rfl, by rw [h1]; simpa using h2, by simp [h2]⟩
theorem Lp.none_ {l : List UInt8} {o : Nat} {m : List UInt8} {o' : Nat} (h : Lp l o [] m o') : l = m ∧ o = o' := by
  cases h with
  | stop => exact ⟨rfl, rfl⟩
theorem head_app {p q q' : List UInt8} (hp : p ≠ []) : (p ++ q').head? = (p ++ q).head? := by
  cases p with
  | nil => exact absurd rfl hp
  | cons b p => rfl
theorem head_swap {p m m' : List UInt8} (h : m' = [] ∨ m'.head? = m.head?) (g : List UInt8) : (g ++ (p ++ m')) = [] ∨ (g ++ (p ++ m')).head? = (g ++ (p ++ m)).head? := by
  cases g with
  | cons b g => exact Or.inr rfl
  | nil =>
    cases p with
    | cons b p => exact Or.inr rfl
    | nil => simpa using h
/-- What is left may be left out, or turned behind its first byte. -/
theorem Lp.swap {l : List UInt8} {o : Nat} {ts : List Tok} {m : List UInt8} {o' : Nat} (h : Lp l o ts m o') (m' : List UInt8) (hm : m' = [] ∨ m'.head? = m.head?) : ∃ p, l = p ++ m ∧ o' = o + p.length ∧ Lp (p ++ m') o ts m' o' := by
  induction h with
  | stop m o => exact ⟨[], rfl, rfl, Lp.stop _ _⟩
  | cons x g r v o ts m o' h1 h2 h3 h4 h5 ih =>
    obtain ⟨p, rfl, ho, hp⟩ := ih hm
    refine ⟨x ++ (g ++ p), by simp, by simp; omega, ?_⟩
    have e : x ++ (g ++ p) ++ m' = x ++ (g ++ (p ++ m')) := by simp
    rw [e]
    refine Lp.cons x g (p ++ m') v o ts m' o' (tok_swap h1 h2 ?_) h2 h3 ?_ hp
    · rcases head_swap (p := p) hm g with h | h
      · exact Or.inl h
      · exact Or.inr (Or.inl h)
    · exact gap_swap h4 (by have := head_swap (p := p) hm []; simpa using this)
theorem LpS.swap {s : List UInt8} {ts : List Tok} {m : List UInt8} {a : Nat} (h : LpS s ts m a) (m' : List UInt8) (hm : m' = [] ∨ m'.head? = m.head?) : ∃ p, s = p ++ m ∧ a = p.length ∧ LpS (p ++ m') ts m' a := by
  obtain ⟨g, l, rfl, hg, h⟩ := h
  obtain ⟨p, rfl, ho, hp⟩ := h.swap m' hm
  refine ⟨g ++ p, by simp, by simp; omega, g, p ++ m', by simp, ?_, hp⟩
  rw [List.append_assoc]
  exact gap_swap hg (by have := head_swap (p := p) hm []; simpa using this)
/-- A beginning. -/
theorem Lp.part {l : List UInt8} {o : Nat} {ts : List Tok} {m : List UInt8} {o' : Nat} (h : Lp l o ts m o') : ∀ (k : Nat) (hk : k < ts.length), ∃ m', Lp l o (ts.take k) m' (ts[k].off) ∧ tokLen m' ≠ 0 ∧ m' ≠ [] := by
  induction h with
  | stop => intro k hk; simp at hk
  | cons x g r v o ts m o' h1 h2 h3 h4 h5 ih =>
    intro k hk
    match k, hk with
    | 0, _ => exact ⟨_, Lp.stop _ _, by rw [h1]; simpa using h2, by simp [h2]⟩
    | k + 1, hk =>
      obtain ⟨m', i1, i2, i3⟩ := ih k (by simpa using hk)
      exact ⟨m', Lp.cons x g r v o _ _ _ h1 h2 h3 h4 i1, i2, i3⟩

theorem nx_gap {r gap q : List UInt8} (h : goodGap gap) : Nx r (gap ++ q) := by
  obtain ⟨h1, h2, _⟩ := h
  match gap, h1 with
  | b :: gap, _ => exact Or.inr (Or.inr ⟨b, rfl, h2 b rfl⟩)
/-- Where the k-th token begins, or the end. -/
def posOf (ts : List Tok) (k e : Nat) : Nat := if h : k < ts.length then ts[k].off else e
theorem posOf_succ (t : Tok) (ts : List Tok) (k e : Nat) : posOf (t :: ts) (k + 1) e = posOf ts k e := by
  unfold posOf
  by_cases h : k < ts.length
  · rw [dif_pos h, dif_pos (by simpa using h)]; rfl
  · rw [dif_neg h, dif_neg (by simpa using h)]
theorem Lp.insert {l : List UInt8} {o : Nat} {ts : List Tok} {m : List UInt8} {o' : Nat} (h : Lp l o ts m o') (gap : List UInt8) (hg : goodGap gap) (hm : m = []) : ∀ k, k < ts.length →
    ∃ p q, l = p ++ q ∧ p ≠ [] ∧ o + p.length = posOf ts (k + 1) o' ∧ Lp (p ++ (gap ++ q)) o (ts.take (k + 1) ++ (ts.drop (k + 1)).map (sh gap.length)) [] (o' + gap.length) := by
  induction h with
  | stop => intro k hk; simp at hk
  | cons x g r v o ts m o' h1 h2 h3 h4 h5 ih =>
    intro k hk
    subst hm
    match k, hk with
    | 0, _ =>
      refine ⟨x ++ g, r, by simp, by simp [h2], ?_, ?_⟩
      · rw [posOf_succ]
        unfold posOf
        match ts, h5 with
        | [], h5 =>
          obtain ⟨rfl, e⟩ := h5.none_
          rw [dif_neg (by simp)]; simp; omega
        | t :: ts, h5 =>
          rw [dif_pos (by simp)]
          have := h5.first.1
          simp; omega
      · have e : x ++ g ++ (gap ++ r) = x ++ ((g ++ gap) ++ r) := by simp
        rw [e]
        refine Lp.cons x (g ++ gap) r v o _ [] _ (tok_swap h1 h2 ?_) h2 h3 (gap_more h4 hg) ?_
        · cases g with
          | nil => rw [List.nil_append]; exact nx_gap hg
          | cons b g => exact Or.inr (Or.inl rfl)
        · have := h5.shift gap.length
          have e2 : o + x.length + (g ++ gap).length = o + x.length + g.length + gap.length := by simp; omega
          rw [e2]
          simpa using this
    | k + 1, hk =>
      obtain ⟨p, q, rfl, hp, ho, i⟩ := ih rfl k (by simpa using hk)
      refine ⟨x ++ (g ++ p), q, by simp, by simp [h2], ?_, ?_⟩
      · rw [posOf_succ, ← ho]; simp; omega
      · have e : x ++ (g ++ p) ++ (gap ++ q) = x ++ (g ++ (p ++ (gap ++ q))) := by simp
        rw [e]
        refine Lp.cons x g _ v o _ [] _ (tok_swap h1 h2 (Or.inr (Or.inl ?_))) h2 h3 (gap_swap h4 (Or.inr (head_app hp))) i
        cases g with
        | nil => show (p ++ (gap ++ q)).head? = (p ++ q).head?; exact head_app hp
        | cons b g => rfl
/-- A gap before the k-th token, or at the end. -/
theorem LpS.insert {s : List UInt8} {ts : List Tok} {a : Nat} (h : LpS s ts [] a) (gap : List UInt8) (hg : goodGap gap) (k : Nat) (hk : k ≤ ts.length) :
    LpS (s.take (posOf ts k s.length) ++ (gap ++ s.drop (posOf ts k s.length))) (ts.take k ++ (ts.drop k).map (sh gap.length)) [] (a + gap.length) ∧ posOf ts k s.length ≤ s.length := by
  have ha := h.len
  obtain ⟨g, l, rfl, hgl, h⟩ := h
  match k with
  | 0 =>
    have hp : posOf ts 0 (g ++ l).length = g.length := by
      unfold posOf
      match ts, h with
      | [], h =>
        obtain ⟨rfl, e⟩ := h.none_
        rw [dif_neg (by simp)]; simp
      | t :: ts, h =>
        rw [dif_pos (by simp)]
        exact h.first.1
    rw [hp]
    refine ⟨⟨g ++ gap, l, by simp, ?_, ?_⟩, by simp⟩
    · rw [List.take_left, List.drop_left, ← List.append_assoc]
      exact gap_more hgl hg
    · have := h.shift gap.length
      rw [List.length_append]
      simpa using this
  | k + 1 =>
    obtain ⟨p, q, rfl, hp, ho, i⟩ := h.insert gap hg rfl k (by omega)
    have hpos : posOf ts (k + 1) (g ++ (p ++ q)).length = (g ++ p).length := by
      simp only [List.length_nil, Nat.add_zero] at ha
      rw [← ha, ← ho]; simp
    have t1 : (g ++ (p ++ q)).take (g ++ p).length = g ++ p := by rw [← List.append_assoc]; exact List.take_left
    have t2 : (g ++ (p ++ q)).drop (g ++ p).length = q := by rw [← List.append_assoc]; exact List.drop_left
    rw [hpos, t1, t2]
    refine ⟨⟨g, p ++ (gap ++ q), by simp, ?_, i⟩, by simp⟩
    rw [List.append_assoc]
    exact gap_swap hgl (Or.inr (head_app hp))

/-- Two sources, with a line feed between them. -/
theorem Lp.join {l : List UInt8} {o : Nat} {ts : List Tok} {m : List UInt8} {o' : Nat} (h : Lp l o ts m o') (gb lb : List UInt8) (us : List Tok) (ob : Nat) (hgb : gapLen (gb ++ lb) = gb.length) (hm : m = []) (hne : ts ≠ []) (hb : Lp lb (o + l.length + 1 + gb.length) us [] ob) :
    Lp (l ++ 10 :: (gb ++ lb)) o (ts ++ us) [] ob := by
  induction h with
  | stop => exact absurd rfl hne
  | cons x g r v o ts m o' h1 h2 h3 h4 h5 ih =>
    subst hm
    match ts, h5, ih with
    | [], h5, _ =>
      obtain ⟨rfl, _⟩ := h5.none_
      have e : x ++ (g ++ []) ++ 10 :: (gb ++ lb) = x ++ ((g ++ 10 :: gb) ++ lb) := by simp
      rw [e]
      refine Lp.cons x (g ++ 10 :: gb) lb v o us [] ob (tok_swap h1 h2 ?_) h2 h3 (gap_line (by simpa using h4) hgb) ?_
      · cases g with
        | nil => exact Or.inr (Or.inr ⟨10, rfl, by decide⟩)
        | cons b g => exact Or.inr (Or.inl rfl)
      · have e2 : o + x.length + (g ++ 10 :: gb).length = o + (x ++ (g ++ [])).length + 1 + gb.length := by simp; omega
        rw [e2]; exact hb
    | t :: ts, h5, ih =>
      have hr : r ≠ [] := h5.first.2.2
      have e : x ++ (g ++ r) ++ 10 :: (gb ++ lb) = x ++ (g ++ (r ++ 10 :: (gb ++ lb))) := by simp
      rw [e]
      refine Lp.cons x g _ v o _ [] ob (tok_swap h1 h2 (Or.inr (Or.inl ?_))) h2 h3 (gap_swap h4 (Or.inr ?_)) (ih rfl (by simp) ?_)
      · cases g with
        | nil =>
          have := head_app (q := []) (q' := 10 :: (gb ++ lb)) hr
          simpa using this
        | cons b g => rfl
      · have := head_app (q := []) (q' := 10 :: (gb ++ lb)) hr
        simpa using this
      · have e2 : o + x.length + g.length + r.length + 1 + gb.length = o + (x ++ (g ++ r)).length + 1 + gb.length := by simp; omega
        rw [e2]; exact hb
theorem LpS.join {a b : List UInt8} {ts us : List Tok} {x y : Nat} (h : LpS a ts [] x) (k : LpS b us [] y) : LpS (a ++ 10 :: b) (ts ++ us.map (sh (a.length + 1))) [] (a.length + 1 + b.length) := by
  have hy := k.len
  obtain ⟨g, l, rfl, hg, h⟩ := h
  obtain ⟨gb, lb, rfl, hgb, k⟩ := k
  have k2 := k.shift ((g ++ l).length + 1)
  have e0 : y + ((g ++ l).length + 1) = (g ++ l).length + 1 + (gb ++ lb).length := by simp at hy ⊢; omega
  rw [e0] at k2
  match ts, h with
  | [], h =>
    obtain ⟨rfl, _⟩ := h.none_
    refine ⟨g ++ 10 :: gb, lb, by simp, ?_, ?_⟩
    · have e : g ++ [] ++ 10 :: (gb ++ lb) = (g ++ 10 :: gb) ++ lb := by simp
      rw [e]; exact gap_line (by simpa using hg) hgb
    · have e : (g ++ 10 :: gb).length = gb.length + ((g ++ []).length + 1) := by simp; omega
      rw [e]; exact k2
  | t :: ts, h =>
    have hl : l ≠ [] := h.first.2.2
    refine ⟨g, l ++ 10 :: (gb ++ lb), by simp, ?_, ?_⟩
    · rw [List.append_assoc]
      refine gap_swap hg (Or.inr ?_)
      have := head_app (q := []) (q' := 10 :: (gb ++ lb)) hl
      simpa using this
    · refine h.join gb lb _ _ hgb rfl (by simp) ?_
      have e : g.length + l.length + 1 + gb.length = gb.length + ((g ++ l).length + 1) := by simp; omega
      rw [e]; exact k2
theorem LpS.part {s : List UInt8} {ts : List Tok} {m : List UInt8} {a : Nat} (h : LpS s ts m a) (k : Nat) (hk : k < ts.length) : ∃ m', LpS s (ts.take k) m' (ts[k].off) ∧ tokLen m' ≠ 0 ∧ m' ≠ [] := by
  obtain ⟨g, l, e, hg, h⟩ := h
  obtain ⟨m', i1, i2, i3⟩ := h.part k hk
  exact ⟨m', ⟨g, l, e, hg, i1⟩, i2, i3⟩
end Go.Proofs.YtnanfedggmkboaaDoor
