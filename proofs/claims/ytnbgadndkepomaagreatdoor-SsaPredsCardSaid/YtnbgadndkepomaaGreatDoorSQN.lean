/- Joined texts: SaRefM2, SaRefM3, SaRefM4. -/
import Derived.Test.YtnbgadndkepomaaGreatDoorSQA

namespace Go.Proofs.YtnbgadndkepomaaGreatDoor

/-- The cell's width, as the reference finds it. -/
def cellR (c : Cd) (a b : Int) : Int :=
  if pOf c a ≤ 64 then pOf c a else
    if (c.st.length : Int) ≤ pOf c a - 65 ∨ wOf c b = 0 ∨ opOf c b ≠ 1 ∨ ((c.st[(pOf c a - 65).toNat]?).getD []).length ≤ nOf c b then 0
    else (((c.st[(pOf c a - 65).toNat]?).getD [])[nOf c b]?).getD 0
def PlainR (i : CIn) : Prop := (valN i.op ≤ 0 → i.a = 0) ∧ (valN i.op ≤ 1 → i.b = 0) ∧ (valN i.op ≤ 2 → i.c = 0) ∧ (i.p = 0 ∨ (30 ≤ i.op ∧ i.op ≤ 32)) ∧ (i.w = 0 ∨ ¬ (i.op = 31 ∨ i.op = 32 ∨ 34 ≤ i.op)) ∧ (i.n = 0 ∨ UseN i.op)
def RI (c : Cd) (i : CIn) : Prop :=
  let A := wOf c i.a
  let Bw := wOf c i.b
  if i.op = 1 then Wid i.w ∧ (i.w = 64 ∨ i.n < 2 ^ i.w.toNat)
  else if i.op = 12 ∨ i.op = 13 ∨ i.op = 14 then 0 < A ∧ A = Bw ∧ i.w = 1
  else if i.op = 15 then 0 < A ∧ i.w = A
  else if i.op = 16 ∨ i.op = 17 then 0 < A ∧ A ≤ i.w ∧ i.w ≤ 64
  else if i.op = 18 then 0 < A ∧ Wid i.w ∧ (i.n : Int) ≤ A ∧ (i.n : Int) + i.w ≤ A
  else if i.op = 19 then 0 < A ∧ 0 < Bw ∧ i.w = A + Bw ∧ i.w ≤ 64
  else if i.op = 21 then 0 < A ∧ i.w = 8
  else if i.op = 22 then i.w = 8
  else if i.op = 30 then (Wid i.w ∧ i.p = 0) ∨ (i.w = 0 ∧ 1 ≤ i.p ∧ i.p ≤ 64 + c.st.length)
  else if i.op = 31 then 0 < A ∧ 1 ≤ i.n ∧ i.n ≤ 64 ∧ i.p = i.n
  else if i.op = 32 then i.n < c.st.length ∧ i.p = 65 + i.n
  else if i.op = 33 then 0 < Bw ∧ 0 < cellR c i.a i.b ∧ i.w = cellR c i.a i.b
  else if i.op = 34 then 0 < Bw ∧ 0 < cellR c i.a i.b ∧ wOf c i.c = cellR c i.a i.b
  else if i.op = 35 then 0 < pOf c i.a
  else if i.op = 36 then 0 < A ∧ i.n < c.nm.length
  else 2 ≤ i.op ∧ i.op ≤ 11 ∧ 0 < A ∧ A = Bw ∧ i.w = A
def parR (c : Cd) (b : CBk) : Nat := ((insOf c b).takeWhile isPar).length
def PassR (c : Cd) (tg : Int) (args : List Int) : Prop := 0 ≤ tg ∧ ∃ h : tg.toNat < c.bk.length, args.length = parR c c.bk[tg.toNat] ∧ ∀ (k : Nat) (hk : k < args.length), Ix args[k] c.ins ∧ wOf c args[k] = wOf c (c.bk[tg.toNat].frm + k) ∧ pOf c args[k] = pOf c (c.bk[tg.toNat].frm + k)
def EndR (c : Cd) (e : CEn) : Prop := Plc e.at_ ∧ ((e.kind = 1 ∧ e.a = 0 ∧ e.els = 0 ∧ e.ea.length = 0 ∧ e.n = 0 ∧ PassR c e.to e.ta) ∨ (e.kind = 2 ∧ e.n = 0 ∧ wOf c e.a = 1 ∧ PassR c e.to e.ta ∧ PassR c e.els e.ea) ∨
  ((e.kind = 3 ∨ e.kind = 4) ∧ e.a = 0 ∧ e.to = 0 ∧ e.els = 0 ∧ e.ta.length + e.ea.length = 0 ∧ 0 ≤ e.n ∧ e.n ≤ 255 ∧ (e.kind = 4 ∨ e.n = 0)))
/-- Values that are used were defined: homes are as they are found. -/
def UseR (c : Cd) (v : Int) (b : Nat) (before : Int) : Prop := (homeN c v.toNat = b → v < before) ∧ (homeN c v.toNat ≠ b → Dom (succs c) (homeN c v.toNat) b)
def DefR (c : Cd) : Prop := ∀ (b : Nat) (hb : b < c.bk.length), (∀ (i : Nat) (hi : i < c.ins.length), InBk c.bk[b] i → ∀ v ∈ argsOf c.ins[i], UseR c v b i) ∧ ∀ v ∈ endArgs c.bk[b].en, UseR c v b c.bk[b].til
/-- Valid, in the reference's words. -/
structure ValidR (c : Cd) : Prop where
  st8 : c.st.length ≤ 8
  nm32 : c.nm.length ≤ 32
  bk1 : 1 ≤ c.bk.length
  bk400 : c.bk.length ≤ 400
  in3000 : c.ins.length ≤ 3000
  sts : ∀ l ∈ c.st, StructP l
  nms : NamesP c.nm
  chain : BlocksP c
  insts : ∀ i ∈ c.ins, PlainR i ∧ Plc i.at_ ∧ RI c i
  later : ∀ b ∈ c.bk, ∀ (i : Nat) (hi : i < c.ins.length), b.frm + parR c b ≤ (i : Int) → (i : Int) < b.til → c.ins[i].op ≠ 30
  ends : ∀ b ∈ c.bk, EndR c b.en
  noz : ∀ b ∈ c.bk, ∀ e ∈ edges b.en, e.to ≠ 0
  reach : ReachP c
  par0 : ∀ h : 0 < c.bk.length, parR c c.bk[0] = 0
  defd : DefR c

theorem w_ix {c : Cd} {v : Int} (h : 0 < wOf c v) : Ix v c.ins := by
  unfold wOf at h
  split at h
  · rename_i h0
    refine ⟨h0, ?_⟩
    by_cases hl : v.toNat < c.ins.length
    · omega
    · rw [List.getElem?_eq_none (by omega)] at h; simp at h
  · omega
theorem p_ix {c : Cd} {v : Int} (h : 0 < pOf c v) : Ix v c.ins := by
  unfold pOf at h
  split at h
  · rename_i h0
    refine ⟨h0, ?_⟩
    by_cases hl : v.toNat < c.ins.length
    · omega
    · rw [List.getElem?_eq_none (by omega)] at h; simp at h
  · omega
theorem w_get {c : Cd} {v : Int} (h : Ix v c.ins) : ∃ i ∈ c.ins, wOf c v = i.w ∧ pOf c v = i.p ∧ opOf c v = i.op ∧ nOf c v = i.n := by
  have hl : v.toNat < c.ins.length := by have := h.1; have := h.2; omega
  refine ⟨c.ins[v.toNat], List.getElem_mem hl, ?_, ?_, ?_, ?_⟩
  · unfold wOf; rw [if_pos h.1]; simp [hl]
  · unfold pOf; rw [if_pos h.1]; simp [hl]
  · unfold opOf; rw [if_pos h.1]; simp [hl]
  · unfold nOf; rw [if_pos h.1]; simp [hl]
theorem way_prefix {s : Nat → List Nat} {b : Nat} {l : List Nat} (hw : Way s b l) {h : Nat} (hh : h ∈ l) : ∃ l', Way s h l' ∧ l'.length ≤ l.length ∧ (h ≠ b → l'.length < l.length) := by
  induction hw with
  | start =>
    have : h = 0 := by simpa using hh
    subst this
    exact ⟨[0], .start, Nat.le_refl _, fun e => absurd rfl e⟩
  | step hw ht ih =>
    rename_i b t l
    rcases List.mem_cons.1 hh with rfl | hh
    · exact ⟨_, .step hw ht, Nat.le_refl _, fun e => absurd rfl e⟩
    · obtain ⟨l', h1, h2, h3⟩ := ih hh
      exact ⟨l', h1, by simp; omega, fun _ => by simp; omega⟩
theorem ri_op {c : Cd} {i : CIn} (h : RI c i) : OpP i.op := by
  unfold RI at h
  dsimp only at h
  unfold OpP
  by_cases e : (1 ≤ i.op ∧ i.op ≤ 19) ∨ i.op = 21 ∨ i.op = 22 ∨ (30 ≤ i.op ∧ i.op ≤ 36)
  · exact e
  · rw [if_neg (by omega), if_neg (by omega), if_neg (by omega), if_neg (by omega), if_neg (by omega), if_neg (by omega), if_neg (by omega), if_neg (by omega), if_neg (by omega), if_neg (by omega), if_neg (by omega), if_neg (by omega), if_neg (by omega), if_neg (by omega), if_neg (by omega)] at h
    omega
theorem plain_out {i : CIn} (ho : OpP i.op) : PlainR i ↔ OutP i := by
  unfold PlainR OutP UseW UseK
  unfold OpP at ho
  constructor
  · rintro ⟨h1, h2, h3, h4, h5, h6⟩
    exact ⟨h1, h2, h3, by omega, by omega, h6⟩
  · rintro ⟨h1, h2, h3, h4, h5, h6⟩
    exact ⟨h1, h2, h3, by omega, by omega, h6⟩
theorem cellW_le {c : Cd} (hs : ∀ l ∈ c.st, StructP l) (a b : Int) : cellW c a b ≤ 64 := by
  unfold cellW
  split
  · split
    · rename_i h; exact h.2
    · split
      · cases hq : c.st[(pOf c a - 65).toNat]? with
        | none => simp
        | some l =>
          simp only [Option.getD_some]
          cases hr : l[nOf c b]? with
          | none => simp
          | some z => exact ((hs l (List.mem_of_getElem? hq)).2.2 z (List.mem_of_getElem? hr)).2
      · omega
  · omega
theorem cell_eq {c : Cd} {a b : Int} (hp : 0 ≤ pOf c a) (hw : Wid (wOf c b)) : cellR c a b = cellW c a b := by
  unfold cellR cellW
  rw [if_pos hw]
  by_cases h1 : pOf c a ≤ 64
  · rw [if_pos h1]
    by_cases h2 : Wid (pOf c a)
    · rw [if_pos h2]
    · rw [if_neg h2, if_neg (by omega)]
      unfold Wid at h2
      omega
  · rw [if_neg h1, if_neg (show ¬ Wid (pOf c a) from fun h => h1 h.2)]
    by_cases h3 : opOf c b = 1
    · rw [if_pos (show 65 ≤ pOf c a ∧ opOf c b = 1 from ⟨by omega, h3⟩)]
      split
      · rename_i h4
        rcases h4 with h4 | h4 | h4 | h4
        · rw [show c.st[(pOf c a - 65).toNat]? = none from List.getElem?_eq_none (by omega)]; simp
        · have := hw.1; omega
        · exact absurd h3 h4
        · rw [List.getElem?_eq_none h4]; rfl
      · rfl
    · rw [if_neg (show ¬ (65 ≤ pOf c a ∧ opOf c b = 1) from fun h => h3 h.2), if_pos (.inr (.inr (.inl h3)))]
/-- All widths and kinds are in their range. -/
def Bnd (c : Cd) : Prop := ∀ v : Int, 0 ≤ wOf c v ∧ wOf c v ≤ 64 ∧ 0 ≤ pOf c v ∧ pOf c v ≤ 64 + c.st.length
theorem bnd_of {c : Cd} (h : ∀ i ∈ c.ins, 0 ≤ i.w ∧ i.w ≤ 64 ∧ 0 ≤ i.p ∧ i.p ≤ 64 + (c.st.length : Int)) : Bnd c := by
  intro v
  by_cases hv : Ix v c.ins
  · obtain ⟨i, hi, e1, e2, _⟩ := w_get hv
    rw [e1, e2]
    exact h i hi
  · have h1 : wOf c v = 0 := by
      unfold wOf
      split
      · rw [List.getElem?_eq_none (by unfold Ix at hv; omega)]; rfl
      · rfl
    have h2 : pOf c v = 0 := by
      unfold pOf
      split
      · rw [List.getElem?_eq_none (by unfold Ix at hv; omega)]; rfl
      · rfl
    rw [h1, h2]
    omega
theorem op_cases {op : Int} (h : OpP op) : op = 1 ∨ op = 2 ∨ op = 3 ∨ op = 4 ∨ op = 5 ∨ op = 6 ∨ op = 7 ∨ op = 8 ∨ op = 9 ∨ op = 10 ∨ op = 11 ∨ op = 12 ∨ op = 13 ∨ op = 14 ∨ op = 15 ∨ op = 16 ∨ op = 17 ∨ op = 18 ∨ op = 19 ∨ op = 21 ∨ op = 22 ∨ op = 30 ∨ op = 31 ∨ op = 32 ∨ op = 33 ∨ op = 34 ∨ op = 35 ∨ op = 36 := by unfold OpP at h; omega
set_option maxHeartbeats 1600000 in
theorem ri_inst {c : Cd} (hB : Bnd c) (hs : ∀ l ∈ c.st, StructP l) (i : CIn) (hn : i.n < 18446744073709551616) (ho : OpP i.op) : RI c i ↔ InstP c i := by
  have ba := hB i.a
  have bb := hB i.b
  have hcl := cellW_le hs i.a i.b
  have hce : Wid (wOf c i.b) → cellR c i.a i.b = cellW c i.a i.b := cell_eq ba.2.2.1
  have hc0 : ¬ Wid (wOf c i.b) → cellW c i.a i.b = 0 := fun h => by unfold cellW; rw [if_neg h]
  have h64 : i.w = 64 → i.n < 2 ^ i.w.toNat := fun e => by rw [e]; exact hn
  rcases op_cases ho with e | e | e | e | e | e | e | e | e | e | e | e | e | e | e | e | e | e | e | e | e | e | e | e | e | e | e | e
  · simp only [RI, InstP, e]
    simp
    exact fun _ => h64
  · simp only [RI, InstP, e]
    simp [Wid]
    try omega
  · simp only [RI, InstP, e]
    simp [Wid]
    try omega
  · simp only [RI, InstP, e]
    simp [Wid]
    try omega
  · simp only [RI, InstP, e]
    simp [Wid]
    try omega
  · simp only [RI, InstP, e]
    simp [Wid]
    try omega
  · simp only [RI, InstP, e]
    simp [Wid]
    try omega
  · simp only [RI, InstP, e]
    simp [Wid]
    try omega
  · simp only [RI, InstP, e]
    simp [Wid]
    try omega
  · simp only [RI, InstP, e]
    simp [Wid]
    try omega
  · simp only [RI, InstP, e]
    simp [Wid]
    try omega
  · simp only [RI, InstP, e]
    simp [Wid]
    try omega
  · simp only [RI, InstP, e]
    simp [Wid]
    try omega
  · simp only [RI, InstP, e]
    simp [Wid]
    try omega
  · simp only [RI, InstP, e]
    simp [Wid]
    try omega
  · simp only [RI, InstP, e]
    simp [Wid]
    try omega
  · simp only [RI, InstP, e]
    simp [Wid]
    try omega
  · simp only [RI, InstP, e]
    simp [Wid]
    try omega
  · simp only [RI, InstP, e]
    simp [Wid]
    try omega
  · simp only [RI, InstP, e]
    simp [Wid]
    try omega
  · simp only [RI, InstP, e]
    simp
    try omega
  · simp only [RI, InstP, e]
    simp [Wid, KindP]
    try omega
  · simp only [RI, InstP, e]
    simp [Wid]
    try omega
  · simp only [RI, InstP, e]
    simp
    try omega
  · simp only [RI, InstP, e]
    simp
    by_cases hw : Wid (wOf c i.b)
    · rw [hce hw]
      unfold Wid at hw ⊢
      omega
    · rw [hc0 hw]
      unfold Wid at hw ⊢
      omega
  · simp only [RI, InstP, e]
    simp
    by_cases hw : Wid (wOf c i.b)
    · rw [hce hw]
      unfold Wid at hw ⊢
      omega
    · rw [hc0 hw]
      unfold Wid at hw ⊢
      omega
  · simp only [RI, InstP, e]
    simp [KindP, Wid]
    try omega
  · simp only [RI, InstP, e]
    simp [Wid]
    try omega
end Go.Proofs.YtnbgadndkepomaaGreatDoor

namespace Go.Proofs.YtnbgadndkepomaaGreatDoor

theorem cellR_le {c : Cd} (hs : ∀ l ∈ c.st, StructP l) (a b : Int) : cellR c a b ≤ 64 := by
  unfold cellR
  split
  · assumption
  · split
    · omega
    · cases hq : c.st[(pOf c a - 65).toNat]? with
      | none => simp
      | some l =>
        simp only [Option.getD_some]
        cases hr : l[nOf c b]? with
        | none => simp
        | some z => exact ((hs l (List.mem_of_getElem? hq)).2.2 z (List.mem_of_getElem? hr)).2
theorem inst_bnd {c : Cd} {i : CIn} (ho : OpP i.op) (hO : OutP i) (h : InstP c i) : 0 ≤ i.w ∧ i.w ≤ 64 ∧ 0 ≤ i.p ∧ i.p ≤ 64 + (c.st.length : Int) := by
  obtain ⟨_, _, _, h5, h4, _⟩ := hO
  unfold UseW at h5
  unfold UseK at h4
  rcases op_cases ho with e | e | e | e | e | e | e | e | e | e | e | e | e | e | e | e | e | e | e | e | e | e | e | e | e | e | e | e
  · simp only [InstP, e] at h
    simp [Wid] at h
    omega
  · simp only [InstP, e] at h
    simp [Wid] at h
    omega
  · simp only [InstP, e] at h
    simp [Wid] at h
    omega
  · simp only [InstP, e] at h
    simp [Wid] at h
    omega
  · simp only [InstP, e] at h
    simp [Wid] at h
    omega
  · simp only [InstP, e] at h
    simp [Wid] at h
    omega
  · simp only [InstP, e] at h
    simp [Wid] at h
    omega
  · simp only [InstP, e] at h
    simp [Wid] at h
    omega
  · simp only [InstP, e] at h
    simp [Wid] at h
    omega
  · simp only [InstP, e] at h
    simp [Wid] at h
    omega
  · simp only [InstP, e] at h
    simp [Wid] at h
    omega
  · simp only [InstP, e] at h
    simp [Wid] at h
    omega
  · simp only [InstP, e] at h
    simp [Wid] at h
    omega
  · simp only [InstP, e] at h
    simp [Wid] at h
    omega
  · simp only [InstP, e] at h
    simp [Wid] at h
    omega
  · simp only [InstP, e] at h
    simp [Wid] at h
    omega
  · simp only [InstP, e] at h
    simp [Wid] at h
    omega
  · simp only [InstP, e] at h
    simp [Wid] at h
    omega
  · simp only [InstP, e] at h
    simp [Wid] at h
    omega
  · simp only [InstP, e] at h
    simp [Wid] at h
    omega
  · simp only [InstP, e] at h
    simp at h
    omega
  · simp only [InstP, e] at h
    simp [Wid, KindP] at h
    omega
  · simp only [InstP, e] at h
    simp [Wid] at h
    omega
  · simp only [InstP, e] at h
    simp at h
    omega
  · simp only [InstP, e] at h
    simp [Wid] at h
    omega
  · simp only [InstP, e] at h
    simp [Wid] at h
    omega
  · simp only [InstP, e] at h
    simp [KindP, Wid] at h
    omega
  · simp only [InstP, e] at h
    simp [Wid] at h
    omega
theorem ri_bnd {c : Cd} (hs : ∀ l ∈ c.st, StructP l) {i : CIn} (hP : PlainR i) (h : RI c i) : 0 ≤ i.w ∧ 0 ≤ i.p ∧ i.p ≤ 64 + (c.st.length : Int) ∧ (i.w ≤ 64 ∨ (i.w = wOf c i.a ∧ 1 ≤ valN i.op ∧ 0 < wOf c i.a)) := by
  have ho := ri_op h
  obtain ⟨_, _, _, h5, h4, _⟩ := (plain_out ho).1 hP
  unfold UseW at h5
  unfold UseK at h4
  have hc := cellR_le hs i.a i.b
  rcases op_cases ho with e | e | e | e | e | e | e | e | e | e | e | e | e | e | e | e | e | e | e | e | e | e | e | e | e | e | e | e
  · have hv : valN i.op = 0 := by rw [e]; decide
    simp only [RI, e] at h
    simp [Wid] at h
    omega
  · have hv : valN i.op = 2 := by rw [e]; decide
    simp only [RI, e] at h
    simp [] at h
    omega
  · have hv : valN i.op = 2 := by rw [e]; decide
    simp only [RI, e] at h
    simp [] at h
    omega
  · have hv : valN i.op = 2 := by rw [e]; decide
    simp only [RI, e] at h
    simp [] at h
    omega
  · have hv : valN i.op = 2 := by rw [e]; decide
    simp only [RI, e] at h
    simp [] at h
    omega
  · have hv : valN i.op = 2 := by rw [e]; decide
    simp only [RI, e] at h
    simp [] at h
    omega
  · have hv : valN i.op = 2 := by rw [e]; decide
    simp only [RI, e] at h
    simp [] at h
    omega
  · have hv : valN i.op = 2 := by rw [e]; decide
    simp only [RI, e] at h
    simp [] at h
    omega
  · have hv : valN i.op = 2 := by rw [e]; decide
    simp only [RI, e] at h
    simp [] at h
    omega
  · have hv : valN i.op = 2 := by rw [e]; decide
    simp only [RI, e] at h
    simp [] at h
    omega
  · have hv : valN i.op = 2 := by rw [e]; decide
    simp only [RI, e] at h
    simp [] at h
    omega
  · have hv : valN i.op = 2 := by rw [e]; decide
    simp only [RI, e] at h
    simp [] at h
    omega
  · have hv : valN i.op = 2 := by rw [e]; decide
    simp only [RI, e] at h
    simp [] at h
    omega
  · have hv : valN i.op = 2 := by rw [e]; decide
    simp only [RI, e] at h
    simp [] at h
    omega
  · have hv : valN i.op = 1 := by rw [e]; decide
    simp only [RI, e] at h
    simp [] at h
    omega
  · have hv : valN i.op = 1 := by rw [e]; decide
    simp only [RI, e] at h
    simp [] at h
    omega
  · have hv : valN i.op = 1 := by rw [e]; decide
    simp only [RI, e] at h
    simp [] at h
    omega
  · have hv : valN i.op = 1 := by rw [e]; decide
    simp only [RI, e] at h
    simp [Wid] at h
    omega
  · have hv : valN i.op = 2 := by rw [e]; decide
    simp only [RI, e] at h
    simp [] at h
    omega
  · have hv : valN i.op = 1 := by rw [e]; decide
    simp only [RI, e] at h
    simp [] at h
    omega
  · have hv : valN i.op = 0 := by rw [e]; decide
    simp only [RI, e] at h
    simp [] at h
    omega
  · have hv : valN i.op = 0 := by rw [e]; decide
    simp only [RI, e] at h
    simp [Wid] at h
    omega
  · have hv : valN i.op = 1 := by rw [e]; decide
    simp only [RI, e] at h
    simp [] at h
    omega
  · have hv : valN i.op = 0 := by rw [e]; decide
    simp only [RI, e] at h
    simp [] at h
    omega
  · have hv : valN i.op = 2 := by rw [e]; decide
    simp only [RI, e] at h
    simp [] at h
    omega
  · have hv : valN i.op = 3 := by rw [e]; decide
    simp only [RI, e] at h
    simp [] at h
    omega
  · have hv : valN i.op = 1 := by rw [e]; decide
    simp only [RI, e] at h
    simp [] at h
    omega
  · have hv : valN i.op = 1 := by rw [e]; decide
    simp only [RI, e] at h
    simp [] at h
    omega
theorem arg_a {i : CIn} (h : 1 ≤ valN i.op) : i.a ∈ argsOf i := by
  unfold argsOf valsOf
  match valN i.op, h with
  | n + 1, _ => simp
theorem rbnd {c : Cd} (h : ValidR c) : ∀ (N b : Nat) (hb : b < c.bk.length) (l : List Nat), Way (succs c) b l → l.length ≤ N → ∀ (i : Nat) (hi : i < c.ins.length), InBk c.bk[b] i → c.ins[i].w ≤ 64 := by
  intro N
  induction N with
  | zero =>
    intro b hb l hw hl
    have := way_self hw
    have : l = [] := List.length_eq_zero_iff.1 (by omega)
    subst this
    simp at *
  | succ N ih =>
    intro b hb l hw hl i
    induction i using Nat.strongRecOn with
    | _ i ih2 =>
      intro hi hin
      obtain ⟨hP, _, hRI⟩ := h.insts _ (List.getElem_mem hi)
      rcases (ri_bnd h.sts hP hRI).2.2.2 with h1 | ⟨h1, h2, h3⟩
      · exact h1
      · have hix := w_ix h3
        have hk : c.ins[i].a.toNat < c.ins.length := by have := hix.1; have := hix.2; omega
        have hw1 : wOf c c.ins[i].a = c.ins[c.ins[i].a.toNat].w := by unfold wOf; rw [if_pos hix.1]; simp [hk]
        have hu := (h.defd b hb).1 i hi hin _ (arg_a h2)
        obtain ⟨hh, hhin⟩ := home_lt h.chain hk
        rw [h1, hw1]
        by_cases e : homeN c c.ins[i].a.toNat = b
        · have hlt := hu.1 e
          have hix1 := hix.1
          exact ih2 _ (by omega) hk (by simpa only [e] using hhin)
        · obtain ⟨l', g1, _, g3⟩ := way_prefix hw (hu.2 e l hw)
          have := g3 e
          exact ih _ hh l' g1 (by omega) _ hk hhin
theorem bnd_R {c : Cd} (h : ValidR c) : Bnd c := bnd_of (fun i hi => by
  obtain ⟨k, hk, rfl⟩ := List.getElem_of_mem hi
  obtain ⟨hP, _, hRI⟩ := h.insts _ hi
  obtain ⟨h1, h2, h3, _⟩ := ri_bnd h.sts hP hRI
  obtain ⟨hh, hin⟩ := home_lt h.chain hk
  obtain ⟨l, hl⟩ := h.reach _ hh
  exact ⟨h1, rbnd h _ _ hh l hl (Nat.le_refl _) k hk hin, h2, h3⟩)
/-! ### Parameters -/
theorem tw_len : ∀ (L : List CIn) (n : Nat), n ≤ L.length → (∀ (k : Nat) (hk : k < L.length), k < n → isPar L[k] = true) → (∀ hk : n < L.length, isPar L[n] = false) → (L.takeWhile isPar).length = n
  | [], n, h, _, _ => by simp at h; simp [h]
  | a :: r, 0, _, _, h => by
    have := h (by simp)
    simp at this
    simp [this]
  | a :: r, n + 1, h1, h2, h3 => by
    have ha := h2 0 (by simp) (by omega)
    simp at ha
    have := tw_len r n (by simpa using h1) (fun k hk hkn => by have := h2 (k + 1) (by simpa using hk) (by omega); rwa [List.getElem_cons_succ] at this) (fun hk => by have := h3 (by simpa using hk); rwa [List.getElem_cons_succ] at this)
    simp [ha, this]
theorem tw_all : ∀ (L : List CIn) (k : Nat) (hk : k < L.length), k < (L.takeWhile isPar).length → isPar L[k] = true
  | [], k, hk, _ => by simp at hk
  | a :: r, k, hk, h => by
    by_cases ha : isPar a = true
    · rw [List.takeWhile_cons, if_pos ha] at h
      match k, hk with
      | 0, _ => simpa using ha
      | k + 1, hk => simpa using tw_all r k (by simpa using hk) (by simpa using h)
    · rw [List.takeWhile_cons, if_neg ha] at h
      simp at h
theorem dw_drop : ∀ L : List CIn, L.dropWhile isPar = L.drop (L.takeWhile isPar).length
  | [] => rfl
  | a :: r => by
    by_cases ha : isPar a = true
    · simp [ha, dw_drop r]
    · simp [ha]
theorem tw1 {L : List CIn} (h : ∀ (k : Nat) (hk : k < L.length), (L.takeWhile isPar).length ≤ k → isPar L[k] = false) : L.countP isPar = (L.takeWhile isPar).length := by
  have e : L = L.takeWhile isPar ++ L.drop (L.takeWhile isPar).length := by
    have h1 := List.takeWhile_append_dropWhile (p := isPar) (l := L)
    rw [← dw_drop L]; exact h1.symm
  have h3 : (L.drop (L.takeWhile isPar).length).countP isPar = 0 := by
    rw [List.countP_eq_zero]
    intro x hx
    obtain ⟨k, hk, rfl⟩ := List.getElem_of_mem hx
    rw [List.length_drop] at hk
    have := h ((L.takeWhile isPar).length + k) (by omega) (by omega)
    rw [List.getElem_drop, this]
    simp
  have h4 : (L.takeWhile isPar).countP isPar = (L.takeWhile isPar).length := by
    rw [List.countP_eq_length]
    intro x hx
    exact List.all_eq_true.1 (List.all_takeWhile (l := L) (p := isPar)) x hx
  conv => lhs; rw [e]
  rw [List.countP_append, h3, h4]; rfl
theorem ins_get {c : Cd} (hb : BlocksP c) {b : CBk} (hbm : b ∈ c.bk) {k : Nat} (hk : k < (insOf c b).length) : ∃ h : b.frm.toNat + k < c.ins.length, (insOf c b)[k] = c.ins[b.frm.toNat + k] ∧ InBk b (b.frm.toNat + k) := by
  have hc := chain_at _ _ _ hb b hbm
  unfold insOf at hk
  rw [List.length_take, List.length_drop] at hk
  refine ⟨by omega, ?_, ?_⟩
  · unfold insOf
    rw [List.getElem_take, List.getElem_drop]
  · unfold InBk; omega
theorem ins_len {c : Cd} (hb : BlocksP c) {b : CBk} (hbm : b ∈ c.bk) : ((insOf c b).length : Int) = b.til - b.frm := by
  have hc := chain_at _ _ _ hb b hbm
  unfold insOf
  rw [List.length_take, List.length_drop]
  omega
theorem isPar_iff30 {i : CIn} : isPar i = true ↔ i.op = 30 := by unfold isPar; simp
/-- What the reference counts at the beginning of a block are all of its parameters. -/
theorem par_R {c : Cd} (h : ValidR c) {b : CBk} (hbm : b ∈ c.bk) : parN c b = parR c b ∧ ∀ (i : Nat) (hi : i < c.ins.length), InBk b i → (c.ins[i].op = 30 ↔ (i : Int) < b.frm + parN c b) := by
  have hl := h.later b hbm
  have hlen := ins_len h.chain hbm
  have hc := chain_at _ _ _ h.chain b hbm
  have e : parN c b = parR c b := by
    unfold parN parR
    refine tw1 (fun k hk hkp => ?_)
    obtain ⟨h1, h2, h3⟩ := ins_get h.chain hbm hk
    rw [h2]
    have := hl (b.frm.toNat + k) h1 (by unfold parR; omega) h3.2
    cases hq : isPar c.ins[b.frm.toNat + k] with
    | false => rfl
    | true => exact absurd (isPar_iff30.1 hq) this
  refine ⟨e, fun i hi hin => ?_⟩
  rw [e]
  constructor
  · intro ho
    apply Classical.byContradiction
    intro hn
    exact hl i hi (by omega) hin.2 ho
  · intro hlt
    have h1 := hin.1
    have h2 := hin.2
    have hk : i - b.frm.toNat < (insOf c b).length := by omega
    have hp := tw_all (insOf c b) (i - b.frm.toNat) hk (by unfold parR at hlt; omega)
    obtain ⟨h4, h5, _⟩ := ins_get h.chain hbm hk
    rw [h5] at hp
    have : b.frm.toNat + (i - b.frm.toNat) = i := by omega
    simp only [this] at hp
    exact isPar_iff30.1 hp
/-- And the other way round. -/
theorem par_S {c : Cd} (hb : BlocksP c) {b : CBk} (hbm : b ∈ c.bk) (h : ∀ (i : Nat) (hi : i < c.ins.length), InBk b i → (c.ins[i].op = 30 ↔ (i : Int) < b.frm + parN c b)) : parR c b = parN c b := by
  have hlen := ins_len hb hbm
  have hc := chain_at _ _ _ hb b hbm
  have hle : parN c b ≤ (insOf c b).length := List.countP_le_length
  unfold parR
  refine tw_len _ _ hle (fun k hk hkn => ?_) (fun hk => ?_)
  · obtain ⟨h1, h2, h3⟩ := ins_get hb hbm hk
    rw [h2, isPar_iff30, h _ h1 h3]
    omega
  · obtain ⟨h1, h2, h3⟩ := ins_get hb hbm hk
    rw [h2]
    cases hq : isPar c.ins[b.frm.toNat + parN c b] with
    | false => rfl
    | true =>
      have := (h _ h1 h3).1 (isPar_iff30.1 hq)
      omega
end Go.Proofs.YtnbgadndkepomaaGreatDoor

namespace Go.Proofs.YtnbgadndkepomaaGreatDoor

theorem use_iff {c : Cd} (hb : BlocksP c) {v : Int} {b : Nat} {before : Int} : UseP c v b before ↔ Ix v c.ins ∧ UseR c v b before := by
  unfold UseP
  constructor
  · rintro ⟨hx, h⟩
    obtain ⟨hh, hin⟩ := home_lt hb (j := v.toNat) (by have := hx.1; have := hx.2; omega)
    exact ⟨hx, h _ hh hin⟩
  · rintro ⟨hx, h⟩
    refine ⟨hx, fun n hn hin => ?_⟩
    have e := home_is hb hn hin
    rw [← e]
    exact h
theorem pass_R {c : Cd} (hp : ∀ b ∈ c.bk, parN c b = parR c b) {tg : Int} {args : List Int} (hz : tg ≠ 0) (h : PassR c tg args) : EdgeP c ⟨tg, args⟩ ∧ (∀ v ∈ args, Ix v c.ins) ∧ ArgP c ⟨tg, args⟩ := by
  obtain ⟨h0, hl, hn, ha⟩ := h
  refine ⟨⟨hz, hl, h0, by rw [hp _ (List.getElem_mem hl)]; exact hn⟩, fun v hv => ?_, fun h k hk => (ha k hk).2⟩
  obtain ⟨k, hk, rfl⟩ := List.getElem_of_mem hv
  exact (ha k hk).1
theorem pass_S {c : Cd} (hp : ∀ b ∈ c.bk, parN c b = parR c b) {tg : Int} {args : List Int} (h1 : EdgeP c ⟨tg, args⟩) (h2 : ∀ v ∈ args, Ix v c.ins) (h3 : ArgP c ⟨tg, args⟩) : PassR c tg args := by
  obtain ⟨_, hl, h0, hn⟩ := h1
  exact ⟨h0, hl, by rw [← hp _ (List.getElem_mem hl)]; exact hn, fun k hk => ⟨h2 _ (List.getElem_mem hk), h3 hl k hk⟩⟩
/-- All that is asked of an end, in one. -/
def EndAll (c : Cd) (e : CEn) : Prop := Plc e.at_ ∧ EndP e ∧ (∀ x ∈ edges e, EdgeP c x) ∧ (∀ v ∈ endArgs e, Ix v c.ins) ∧ (e.kind = 2 → wOf c e.a = 1) ∧ ∀ x ∈ edges e, ArgP c x
theorem edges1 {e : CEn} (h : e.kind = 1) : edges e = [⟨e.to, e.ta⟩] := by unfold edges; rw [if_pos h]
theorem edges2 {e : CEn} (h : e.kind = 2) : edges e = [⟨e.to, e.ta⟩, ⟨e.els, e.ea⟩] := by unfold edges; rw [if_neg (by omega), if_pos h]
theorem edges0 {e : CEn} (h1 : e.kind ≠ 1) (h2 : e.kind ≠ 2) : edges e = [] := by unfold edges; rw [if_neg h1, if_neg h2]
theorem end_R {c : Cd} (hp : ∀ b ∈ c.bk, parN c b = parR c b) {e : CEn} (hz : ∀ x ∈ edges e, x.to ≠ 0) (h : EndR c e) : EndAll c e := by
  obtain ⟨hat, h | h | h⟩ := h
  · obtain ⟨k, h1, h2, h3, h4, h5⟩ := h
    have he := edges1 k
    rw [he] at hz
    obtain ⟨q1, q2, q3⟩ := pass_R hp (hz ⟨e.to, e.ta⟩ (by simp)) h5
    refine ⟨hat, .inl ⟨k, h1, h2, h3, h4⟩, ?_, ?_, fun k2 => by omega, ?_⟩
    · rw [he]; simpa using q1
    · unfold endArgs; rw [he, if_neg (by omega)]; simpa using q2
    · rw [he]; simpa using q3
  · obtain ⟨k, h1, h2, h3, h4⟩ := h
    have he := edges2 k
    rw [he] at hz
    obtain ⟨q1, q2, q3⟩ := pass_R hp (hz ⟨e.to, e.ta⟩ (by simp)) h3
    obtain ⟨r1, r2, r3⟩ := pass_R hp (hz ⟨e.els, e.ea⟩ (by simp)) h4
    refine ⟨hat, .inr (.inl ⟨k, h1⟩), ?_, ?_, fun _ => h2, ?_⟩
    · rw [he]; intro x hx
      simp only [List.mem_cons, List.not_mem_nil, or_false] at hx
      rcases hx with rfl | rfl
      · exact q1
      · exact r1
    · unfold endArgs; rw [he, if_pos k]
      intro v hv
      simp only [List.map_cons, List.map_nil, List.flatten_cons, List.flatten_nil, List.append_nil, List.cons_append, List.nil_append, List.mem_cons, List.mem_append] at hv
      rcases hv with rfl | hv | hv
      · exact w_ix (by omega)
      · exact q2 v hv
      · exact r2 v hv
    · rw [he]; intro x hx
      simp only [List.mem_cons, List.not_mem_nil, or_false] at hx
      rcases hx with rfl | rfl
      · exact q3
      · exact r3
  · obtain ⟨k, h1, h2, h3, h4, h5, h6, h7⟩ := h
    have he := edges0 (e := e) (by omega) (by omega)
    have hN : NoWhere e := ⟨h1, h2, h3, by omega, by omega⟩
    refine ⟨hat, ?_, by rw [he]; simp, ?_, fun k2 => by omega, by rw [he]; simp⟩
    · rcases k with k | k
      · exact .inr (.inr (.inl ⟨k, hN, by omega⟩))
      · exact .inr (.inr (.inr ⟨k, hN, h5, h6⟩))
    · unfold endArgs; rw [he, if_neg (by omega)]; simp
theorem end_S {c : Cd} (hp : ∀ b ∈ c.bk, parN c b = parR c b) {e : CEn} (h : EndAll c e) : EndR c e := by
  obtain ⟨hat, hE, h1, h2, h3, h4⟩ := h
  refine ⟨hat, ?_⟩
  rcases hE with ⟨k, a1, a2, a3, a4⟩ | ⟨k, a1⟩ | ⟨k, ⟨a1, a2, a3, a4, a5⟩, a6⟩ | ⟨k, ⟨a1, a2, a3, a4, a5⟩, a6, a7⟩
  · have he := edges1 k
    unfold endArgs at h2
    rw [he, if_neg (by omega)] at h2
    rw [he] at h1 h4
    exact .inl ⟨k, a1, a2, a3, a4, pass_S hp (h1 _ (by simp)) (fun v hv => h2 v (by simpa using hv)) (h4 _ (by simp))⟩
  · have he := edges2 k
    unfold endArgs at h2
    rw [he, if_pos k] at h2
    rw [he] at h1 h4
    exact .inr (.inl ⟨k, a1, h3 k, pass_S hp (h1 _ (by simp)) (fun v hv => h2 v (by simp [hv])) (h4 _ (by simp)), pass_S hp (h1 ⟨e.els, e.ea⟩ (by simp)) (fun v hv => h2 v (by simp [hv])) (h4 ⟨e.els, e.ea⟩ (by simp))⟩)
  · exact .inr (.inr ⟨.inl k, a1, a2, a3, by omega, by omega, by omega, .inr a6⟩)
  · exact .inr (.inr ⟨.inr k, a1, a2, a3, by omega, a6, a7, .inl k⟩)
theorem cellR_p {c : Cd} {a b : Int} (h : 0 < cellR c a b) : 0 < pOf c a := by
  unfold cellR at h
  split at h <;> omega
theorem arg_R {c : Cd} {i : CIn} (h : RI c i) : ∀ v ∈ argsOf i, Ix v c.ins := by
  rcases op_cases (ri_op h) with e | e | e | e | e | e | e | e | e | e | e | e | e | e | e | e | e | e | e | e | e | e | e | e | e | e | e | e
  · have hv : valN i.op = 0 := by rw [e]; decide
    unfold argsOf valsOf
    rw [hv]
    simp
  · have hv : valN i.op = 2 := by rw [e]; decide
    unfold argsOf valsOf
    rw [hv]
    simp only [RI, e] at h
    simp at h
    simp
    exact ⟨w_ix (by omega), w_ix (by omega)⟩
  · have hv : valN i.op = 2 := by rw [e]; decide
    unfold argsOf valsOf
    rw [hv]
    simp only [RI, e] at h
    simp at h
    simp
    exact ⟨w_ix (by omega), w_ix (by omega)⟩
  · have hv : valN i.op = 2 := by rw [e]; decide
    unfold argsOf valsOf
    rw [hv]
    simp only [RI, e] at h
    simp at h
    simp
    exact ⟨w_ix (by omega), w_ix (by omega)⟩
  · have hv : valN i.op = 2 := by rw [e]; decide
    unfold argsOf valsOf
    rw [hv]
    simp only [RI, e] at h
    simp at h
    simp
    exact ⟨w_ix (by omega), w_ix (by omega)⟩
  · have hv : valN i.op = 2 := by rw [e]; decide
    unfold argsOf valsOf
    rw [hv]
    simp only [RI, e] at h
    simp at h
    simp
    exact ⟨w_ix (by omega), w_ix (by omega)⟩
  · have hv : valN i.op = 2 := by rw [e]; decide
    unfold argsOf valsOf
    rw [hv]
    simp only [RI, e] at h
    simp at h
    simp
    exact ⟨w_ix (by omega), w_ix (by omega)⟩
  · have hv : valN i.op = 2 := by rw [e]; decide
    unfold argsOf valsOf
    rw [hv]
    simp only [RI, e] at h
    simp at h
    simp
    exact ⟨w_ix (by omega), w_ix (by omega)⟩
  · have hv : valN i.op = 2 := by rw [e]; decide
    unfold argsOf valsOf
    rw [hv]
    simp only [RI, e] at h
    simp at h
    simp
    exact ⟨w_ix (by omega), w_ix (by omega)⟩
  · have hv : valN i.op = 2 := by rw [e]; decide
    unfold argsOf valsOf
    rw [hv]
    simp only [RI, e] at h
    simp at h
    simp
    exact ⟨w_ix (by omega), w_ix (by omega)⟩
  · have hv : valN i.op = 2 := by rw [e]; decide
    unfold argsOf valsOf
    rw [hv]
    simp only [RI, e] at h
    simp at h
    simp
    exact ⟨w_ix (by omega), w_ix (by omega)⟩
  · have hv : valN i.op = 2 := by rw [e]; decide
    unfold argsOf valsOf
    rw [hv]
    simp only [RI, e] at h
    simp at h
    simp
    exact ⟨w_ix (by omega), w_ix (by omega)⟩
  · have hv : valN i.op = 2 := by rw [e]; decide
    unfold argsOf valsOf
    rw [hv]
    simp only [RI, e] at h
    simp at h
    simp
    exact ⟨w_ix (by omega), w_ix (by omega)⟩
  · have hv : valN i.op = 2 := by rw [e]; decide
    unfold argsOf valsOf
    rw [hv]
    simp only [RI, e] at h
    simp at h
    simp
    exact ⟨w_ix (by omega), w_ix (by omega)⟩
  · have hv : valN i.op = 1 := by rw [e]; decide
    unfold argsOf valsOf
    rw [hv]
    simp only [RI, e] at h
    simp at h
    simp
    exact w_ix h.1
  · have hv : valN i.op = 1 := by rw [e]; decide
    unfold argsOf valsOf
    rw [hv]
    simp only [RI, e] at h
    simp at h
    simp
    exact w_ix h.1
  · have hv : valN i.op = 1 := by rw [e]; decide
    unfold argsOf valsOf
    rw [hv]
    simp only [RI, e] at h
    simp at h
    simp
    exact w_ix h.1
  · have hv : valN i.op = 1 := by rw [e]; decide
    unfold argsOf valsOf
    rw [hv]
    simp only [RI, e] at h
    simp at h
    simp
    exact w_ix h.1
  · have hv : valN i.op = 2 := by rw [e]; decide
    unfold argsOf valsOf
    rw [hv]
    simp only [RI, e] at h
    simp at h
    simp
    exact ⟨w_ix (by omega), w_ix (by omega)⟩
  · have hv : valN i.op = 1 := by rw [e]; decide
    unfold argsOf valsOf
    rw [hv]
    simp only [RI, e] at h
    simp at h
    simp
    exact w_ix h.1
  · have hv : valN i.op = 0 := by rw [e]; decide
    unfold argsOf valsOf
    rw [hv]
    simp
  · have hv : valN i.op = 0 := by rw [e]; decide
    unfold argsOf valsOf
    rw [hv]
    simp
  · have hv : valN i.op = 1 := by rw [e]; decide
    unfold argsOf valsOf
    rw [hv]
    simp only [RI, e] at h
    simp at h
    simp
    exact w_ix h.1
  · have hv : valN i.op = 0 := by rw [e]; decide
    unfold argsOf valsOf
    rw [hv]
    simp
  · have hv : valN i.op = 2 := by rw [e]; decide
    unfold argsOf valsOf
    rw [hv]
    simp only [RI, e] at h
    simp at h
    simp
    exact ⟨p_ix (cellR_p h.2.1), w_ix h.1⟩
  · have hv : valN i.op = 3 := by rw [e]; decide
    unfold argsOf valsOf
    rw [hv]
    simp only [RI, e] at h
    simp at h
    simp
    exact ⟨p_ix (cellR_p h.2.1), w_ix h.1, w_ix (by omega)⟩
  · have hv : valN i.op = 1 := by rw [e]; decide
    unfold argsOf valsOf
    rw [hv]
    simp only [RI, e] at h
    simp at h
    simp
    exact p_ix h
  · have hv : valN i.op = 1 := by rw [e]; decide
    unfold argsOf valsOf
    rw [hv]
    simp only [RI, e] at h
    simp at h
    simp
    exact w_ix h.1
theorem valid_iff {c : Cd} (hn : ∀ i ∈ c.ins, i.n < 18446744073709551616) : ValidR c ↔ ValidP c := by
  constructor
  · intro h
    have hB := bnd_R h
    have hp : ∀ b ∈ c.bk, parN c b = parR c b := fun b hb => (par_R h hb).1
    have hE : ∀ b ∈ c.bk, EndAll c b.en := fun b hb => end_R hp (h.noz b hb) (h.ends b hb)
    have hI : ∀ i ∈ c.ins, OpP i.op ∧ OutP i ∧ InstP c i := fun i hi => by
      obtain ⟨h1, _, h3⟩ := h.insts i hi
      have ho := ri_op h3
      exact ⟨ho, (plain_out ho).1 h1, (ri_inst hB h.sts i (hn i hi) ho).1 h3⟩
    refine ⟨⟨⟨⟨h.st8, h.nm32, ⟨h.bk1, h.bk400⟩, h.in3000, h.sts, h.nms⟩, h.chain⟩, ⟨fun i hi => ⟨(h.insts _ (List.getElem_mem hi)).2.1, (hI _ (List.getElem_mem hi)).1, (hI _ (List.getElem_mem hi)).2.1⟩, fun b hb => (par_R h hb).2, fun h0 => by rw [hp _ (List.getElem_mem h0)]; exact h.par0 h0⟩, fun b hb => ⟨(hE b hb).1, (hE b hb).2.1, (hE b hb).2.2.1⟩⟩,
      h.reach, fun b hb => ⟨fun i hi hin v hv => (use_iff h.chain).2 ⟨arg_R (h.insts _ (List.getElem_mem hi)).2.2 v hv, (h.defd b hb).1 i hi hin v hv⟩, fun v hv => (use_iff h.chain).2 ⟨(hE _ (List.getElem_mem hb)).2.2.2.1 v hv, (h.defd b hb).2 v hv⟩⟩,
      fun i hi => (hI i hi).2.2, fun b hb => ⟨(hE b hb).2.2.2.2.1, (hE b hb).2.2.2.2.2⟩⟩
  · rintro ⟨⟨⟨⟨h1, h2, ⟨h3, h4⟩, h5, h6, h7⟩, hch⟩, ⟨hf1, hf2, hf3⟩, hEn⟩, hre, hva, hin, har⟩
    have hp : ∀ b ∈ c.bk, parN c b = parR c b := fun b hb => (par_S hch hb (hf2 b hb)).symm
    have hB : Bnd c := bnd_of (fun i hi => by
      obtain ⟨k, hk, rfl⟩ := List.getElem_of_mem hi
      exact inst_bnd (hf1 k hk).2.1 (hf1 k hk).2.2 (hin _ hi))
    have hbk : ∀ b ∈ c.bk, ∃ (n : Nat) (h : n < c.bk.length), c.bk[n] = b := fun b hb => by
      obtain ⟨n, hn, e⟩ := List.getElem_of_mem hb
      exact ⟨n, hn, e⟩
    refine ⟨h1, h2, h3, h4, h5, h6, h7, hch, fun i hi => ?_, fun b hb i hi hlo hti => ?_, fun b hb => end_S hp ⟨(hEn b hb).1, (hEn b hb).2.1, (hEn b hb).2.2, ?_, (har b hb).1, (har b hb).2⟩, fun b hb e he => ((hEn b hb).2.2 e he).1, hre, fun h0 => by rw [← hp _ (List.getElem_mem h0)]; exact hf3 h0, fun b hb => ⟨fun i hi hib v hv => ((use_iff hch).1 ((hva b hb).1 i hi hib v hv)).2, fun v hv => ((use_iff hch).1 ((hva b hb).2 v hv)).2⟩⟩
    · obtain ⟨k, hk, rfl⟩ := List.getElem_of_mem hi
      obtain ⟨q1, q2, q3⟩ := hf1 k hk
      exact ⟨(plain_out q2).2 q3, q1, (ri_inst hB h6 _ (hn _ hi) q2).2 (hin _ hi)⟩
    · have hc := chain_at _ _ _ hch b hb
      intro ho
      have := (hf2 b hb i hi ⟨by omega, hti⟩).1 ho
      rw [hp b hb] at this
      omega
    · obtain ⟨n, hn', rfl⟩ := hbk b hb
      exact fun v hv => ((use_iff hch).1 ((hva n hn').2 v hv)).1
end Go.Proofs.YtnbgadndkepomaaGreatDoor
