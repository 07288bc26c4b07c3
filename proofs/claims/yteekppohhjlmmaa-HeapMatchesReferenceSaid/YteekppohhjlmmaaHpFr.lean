/- What the arguments of layer 9's laws hold: objects and numbers, read out of the memory that was handed. -/
import Derived.Test.YteekppohhjlmmaaHpOwn
import Derived.ProofKit
import Derived.Lib.SmallJoins
import Derived.Deep.Slices
import Derived.ChangeSame
namespace Go.Proofs.Yteekppohhjlmmaa
open Go.RowKit Go.ChangeShapes Go.WideShapes Go.ChangeAt Go.Deep

theorem Try.own : ownKnob Try.prog.godebug = none := by kernel_rfl
theorem Try.laidOut : laidOutB Try.prog = true := by kernel_rfl
theorem spot_none {w : World} {a : Addr} {v : Value} (h : w.cell? a = some v) : a = ⟨a.block, a.off, none⟩ := by
  obtain ⟨b, o, s⟩ := a
  cases s with
  | none => rfl
  | some s =>
    unfold World.cell? at h
    split at h
    · simp at h
    · cases h
theorem add_none (b o i : Nat) : (⟨b, o, none⟩ : Addr).add i = ⟨b, o + i, none⟩ := by unfold Addr.add; split <;> simp_all
theorem exists_list {α : Type} {P : Nat → α → Prop} : ∀ n : Nat, (∀ i, i < n → ∃ z, P i z) → ∃ l : List α, l.length = n ∧ ∀ (i : Nat) (h : i < l.length), P i l[i]
  | 0, _ => ⟨[], rfl, fun i h => by simp at h⟩
  | n + 1, h => by
    obtain ⟨l, hl, hp⟩ := exists_list n (fun i hi => h i (by omega))
    obtain ⟨z, hz⟩ := h n (Nat.lt_succ_self n)
    refine ⟨l ++ [z], by simp [hl], fun i hi => ?_⟩
    by_cases e : i < l.length
    · rw [List.getElem_append_left e]; exact hp i e
    · have : i = n := by simp at hi; omega
      subst this
      rw [List.getElem_append_right (by omega)]
      simpa [hl] using hz
theorem wf_i64 {n : Int} (h : (Lit.int .i64 n).wf = true) : I64 n := by
  simp [Lit.wf, IntKind.min, IntKind.max, IntKind.signed, IntKind.bits] at h
  unfold I64; omega
theorem wf_u64 {n : Int} (h : (Lit.int .u64 n).wf = true) : 0 ≤ n ∧ n < 18446744073709551616 := by
  simp [Lit.wf, IntKind.min, IntKind.max, IntKind.signed, IntKind.bits] at h
  omega
section
variable {H : Type} {enc : TypeId × Value → H} {W : World} {base : Nat} {sp : Nat → Bool} {held : Bool}
/-- The elements of a slice, each one read as P says. -/
theorem slice_list {α : Type} {t e : TypeId} {fuel : Nat} {A : Option Addr} {n c : Nat} {x : DataW H × List MemPlace} {sz : Nat} (ht : Try.prog.underlying t = some (.slice e)) (hsz : Try.prog.cellsOf e = sz) (h0 : 0 < sz) (P : (Nat → Option Value) → α → Prop)
    (hP : ∀ (cs : List Value) (m : Nat) (y : DataW H × List MemPlace), DataW.trod enc Try.prog W base sp held m e cs = some y → cs.length = sz → ∃ z, P (fun j => cs[j]?) z)
    (hPc : ∀ (f g : Nat → Option Value) (z : α), (∀ j, j < sz → f j = g j) → P f z → P g z)
    (h : DataW.trod enc Try.prog W base sp held fuel t [.slice A n c] = some x) :
    n ≤ c ∧ c ≤ maxLen ∧ (A = none → c = 0) ∧ ∃ l : List α, l.length = n ∧ ∀ (i : Nat) (hi : i < l.length), ∃ g o, A = some ⟨g, o, none⟩ ∧ P (fun j => W.cell? ⟨g, o + i * sz + j, none⟩) l[i] := by
  rcases open_slice ht h with ⟨hc, _⟩ | ⟨a, len, cap, m, k, D, Pl, hc, _, hl, hm, hmm, _, hi⟩
  · simp at hc
    obtain ⟨rfl, rfl, rfl⟩ := hc
    exact ⟨Nat.le_refl _, by unfold maxLen; omega, fun _ => rfl, [], rfl, fun i hi => by simp at hi⟩
  · simp at hc
    obtain ⟨rfl, rfl, rfl⟩ := hc
    refine ⟨hl, hm, fun e => by simp at e, ?_⟩
    have hnm : n ≤ m := by rw [hmm]; split <;> omega
    refine exists_list (P := fun i z => ∃ g o, some a = some ⟨g, o, none⟩ ∧ P (fun j => W.cell? ⟨g, o + i * sz + j, none⟩) z) n (fun i hin => ?_)
    obtain ⟨cs, hcs, htr⟩ := hi i (by omega)
    obtain ⟨_, hlen, hat⟩ := World.cells?_some hcs
    rw [hsz] at hlen hat hcs
    obtain ⟨z, hz⟩ := hP cs k _ htr hlen
    have ha : a = ⟨a.block, a.off, none⟩ := by
      obtain ⟨cs0, hcs0, _⟩ := hi 0 (by omega)
      obtain ⟨_, hlen0, hat0⟩ := World.cells?_some hcs0
      rw [hsz] at hlen0 hat0
      have h1 := hat0 0 h0
      rw [Nat.zero_mul] at h1
      have h2 : (a.add 0).add 0 = a := by simp [Addr.add]
      rw [h2, List.getElem?_eq_getElem (by omega)] at h1
      exact spot_none h1
    refine ⟨z, a.block, a.off, congrArg some ha, hPc _ _ z (fun j hj => ?_) hz⟩
    have h1 := hat j hj
    rw [ha, add_none, add_none] at h1
    exact h1.symm
/-- A field of a struct's type. -/
noncomputable def fld (t : TypeId) (j : Nat) : Option (TypeId × Nat) := match Try.prog.underlying t with
  | some (.struct fs) => fs[j]?.map fun f => (f.type, f.offset)
  | _ => none
theorem fld_trod {t ft : TypeId} {m j off k : Nat} {cs : List Value} {y : DataW H × List MemPlace} (hj : fld t j = some (ft, off)) (hk : Try.prog.cellsOf ft = k) (h : DataW.trod enc Try.prog W base sp held m t cs = some y) :
    ∃ n y', DataW.trod enc Try.prog W base sp held n ft ((cs.drop off).take k) = some y' := by
  unfold fld at hj
  split at hj
  · rename_i fs hu
    cases hf : fs[j]? with
    | none => rw [hf] at hj; simp at hj
    | some f =>
      rw [hf] at hj
      simp at hj
      obtain ⟨rfl, rfl⟩ := hj
      obtain ⟨xs, n, _, _, _, hl, hat⟩ := DataW.trod_struct hu h
      have h1 := hat j f hf
      rw [hk] at h1
      have hj2 : j < xs.length := by rw [hl]; exact (Array.getElem?_eq_some_iff.1 hf).1
      rw [List.getElem?_eq_getElem hj2] at h1
      exact ⟨n, _, h1⟩
  · cases hj
theorem take_one {cs : List Value} {k : Nat} {v : Value} (h : (cs.drop k).take 1 = [v]) : cs[k]? = some v := by
  have h1 : ((cs.drop k).take 1)[0]? = some v := by rw [h]; rfl
  rw [List.getElem?_take_of_lt (by omega), List.getElem?_drop] at h1
  simpa using h1
theorem int_fld {t ft : TypeId} {m j off : Nat} {cs : List Value} {y : DataW H × List MemPlace} {q : IntKind} (hj : fld t j = some (ft, off)) (hk : Try.prog.cellsOf ft = 1) (hu : Try.prog.underlying ft = some (.int q)) (h : DataW.trod enc Try.prog W base sp held m t cs = some y) :
    ∃ z, cs[off]? = some (.int q z) ∧ (Lit.int q z).wf = true := by
  obtain ⟨n, y', h1⟩ := fld_trod hj hk h
  obtain ⟨z, h2, _, h3⟩ := DataW.trod_int hu h1
  exact ⟨z, take_one h2, h3⟩
/-- A slice of numbers. -/
theorem ints_arg {fuel : Nat} {A : Option Addr} {n c : Nat} {x : DataW H × List MemPlace} (h : DataW.trod enc Try.prog W base sp held fuel 23 [.slice A n c] = some x) :
    n ≤ c ∧ c ≤ maxLen ∧ (A = none → c = 0) ∧ ∃ l : List Int, l.length = n ∧ IRow W A l ∧ ∀ v ∈ l, I64 v := by
  obtain ⟨h1, h2, h3, l, hl, hi⟩ := slice_list (sz := 1) Try.underlying23 (by kernel_rfl) (by omega) (fun f (z : Int) => f 0 = some (.int .i64 z) ∧ I64 z) (fun cs m y ht hlen => by
    obtain ⟨z, e, _, hw⟩ := DataW.trod_int (show Try.prog.underlying 3 = some (.int .i64) by kernel_rfl) ht
    subst e
    exact ⟨z, rfl, wf_i64 hw⟩) (fun f g z hfg hp => ⟨(hfg 0 (by omega)).symm.trans hp.1, hp.2⟩) h
  refine ⟨h1, h2, h3, l, hl, fun i hi2 => ?_, fun v hv => ?_⟩
  · obtain ⟨g, o, e, hc, _⟩ := hi i hi2
    exact ⟨g, o, e, by rw [Nat.mul_one] at hc; exact hc⟩
  · obtain ⟨i, hi2, rfl⟩ := List.getElem_of_mem hv
    obtain ⟨_, _, _, _, hw⟩ := hi i hi2
    exact hw
/-- A value of a slice's type. -/
theorem slice_val {t e : TypeId} {m : Nat} {cs : List Value} {y : DataW H × List MemPlace} (ht : Try.prog.underlying t = some (.slice e)) (h : DataW.trod enc Try.prog W base sp held m t cs = some y) : ∃ A n c, cs = [.slice A n c] := by
  rcases open_slice ht h with ⟨hc, _⟩ | ⟨a, len, cap, m, k, D, Pl, hc, _⟩
  · exact ⟨none, 0, 0, hc⟩
  · exact ⟨some a, len, cap, hc⟩
theorem slice_fld {t ft e : TypeId} {m j off : Nat} {cs : List Value} {y : DataW H × List MemPlace} (hj : fld t j = some (ft, off)) (hk : Try.prog.cellsOf ft = 1) (hu : Try.prog.underlying ft = some (.slice e)) (h : DataW.trod enc Try.prog W base sp held m t cs = some y) :
    ∃ A n c n' y', cs[off]? = some (.slice A n c) ∧ DataW.trod enc Try.prog W base sp held n' ft [.slice A n c] = some y' := by
  obtain ⟨n', y', h1⟩ := fld_trod hj hk h
  obtain ⟨A, n, c, h2⟩ := slice_val hu h1
  rw [h2] at h1
  exact ⟨A, n, c, n', y', take_one h2, h1⟩

theorem bool_fld {t ft : TypeId} {m j off : Nat} {cs : List Value} {y : DataW H × List MemPlace} (hj : fld t j = some (ft, off)) (hk : Try.prog.cellsOf ft = 1) (hu : Try.prog.underlying ft = some .bool) (h : DataW.trod enc Try.prog W base sp held m t cs = some y) :
    ∃ z : Bool, cs[off]? = some (.bool z) := by
  obtain ⟨n, y', h1⟩ := fld_trod hj hk h
  obtain ⟨z, h2, _⟩ := DataW.trod_bool hu h1
  exact ⟨z, take_one h2⟩
/-- The cells of a cell, of an object, wherever they are read. -/
def CeF (f : Nat → Option Value) (z : Ce) : Prop := f 0 = some (.int .i64 z.w) ∧ f 1 = some (.bool z.s) ∧ f 2 = some (.int .u64 z.v) ∧ z.ok
theorem ce_cells {m : Nat} {cs : List Value} {y : DataW H × List MemPlace} (h : DataW.trod enc Try.prog W base sp held m 45 cs = some y) : ∃ z, CeF (fun j => cs[j]?) z := by
  have hi : Try.prog.underlying 3 = some (.int .i64) := by kernel_rfl
  have hu : Try.prog.underlying 24 = some (.int .u64) := by kernel_rfl
  have hb : Try.prog.underlying 4 = some .bool := by kernel_rfl
  obtain ⟨z0, e0, w0⟩ := int_fld (j := 0) (off := 0) (ft := 3) (by kernel_rfl) (by kernel_rfl) hi h
  obtain ⟨z1, e1⟩ := bool_fld (j := 1) (off := 1) (ft := 4) (by kernel_rfl) (by kernel_rfl) hb h
  obtain ⟨z2, e2, w2⟩ := int_fld (j := 2) (off := 2) (ft := 24) (by kernel_rfl) (by kernel_rfl) hu h
  exact ⟨⟨z0, z1, z2⟩, e0, e1, e2, wf_i64 w0, wf_u64 w2⟩
theorem ces_arg {fuel : Nat} {A : Option Addr} {n c : Nat} {x : DataW H × List MemPlace} (h : DataW.trod enc Try.prog W base sp held fuel 40 [.slice A n c] = some x) :
    ∃ l : List Ce, l.length = n ∧ CeSl W A c l ∧ ∀ z ∈ l, z.ok := by
  obtain ⟨h1, h2, h3, l, hl, hi⟩ := slice_list (sz := 3) Try.underlying40 (by kernel_rfl) (by omega) CeF (fun cs m y ht _ => ce_cells ht) (fun f g z hfg hp => by
    obtain ⟨a0, a1, a2, a3⟩ := hp
    exact ⟨(hfg 0 (by omega)).symm.trans a0, (hfg 1 (by omega)).symm.trans a1, (hfg 2 (by omega)).symm.trans a2, a3⟩) h
  refine ⟨l, hl, ⟨by omega, h2, h3, fun i hi2 => ?_⟩, fun z hz => ?_⟩
  · obtain ⟨g, o, e, a0, a1, a2, _⟩ := hi i hi2
    exact ⟨g, o, e, a0, a1, a2⟩
  · obtain ⟨i, hi2, rfl⟩ := List.getElem_of_mem hz
    obtain ⟨_, _, _, _, _, _, hw⟩ := hi i hi2
    exact hw
def ObF (W : World) (f : Nat → Option Value) (z : Ob) : Prop := ∃ A c, f 0 = some (.slice A z.c.length c) ∧ f 1 = some (.bool z.g) ∧ CeSl W A c z.c ∧ z.ok
theorem ob_cells {m : Nat} {cs : List Value} {y : DataW H × List MemPlace} (h : DataW.trod enc Try.prog W base sp held m 42 cs = some y) : ∃ z, ObF W (fun j => cs[j]?) z := by
  have hb : Try.prog.underlying 4 = some .bool := by kernel_rfl
  obtain ⟨A, n, c, n', y', e0, h0⟩ := slice_fld (j := 0) (off := 0) (ft := 40) (by kernel_rfl) (by kernel_rfl) Try.underlying40 h
  obtain ⟨z1, e1⟩ := bool_fld (j := 1) (off := 1) (ft := 4) (by kernel_rfl) (by kernel_rfl) hb h
  obtain ⟨l, rfl, hs, hok⟩ := ces_arg h0
  exact ⟨⟨l, z1⟩, A, c, e0, e1, hs, hok⟩
theorem obs_arg {fuel : Nat} {A : Option Addr} {n c : Nat} {x : DataW H × List MemPlace} (h : DataW.trod enc Try.prog W base sp held fuel 22 [.slice A n c] = some x) :
    ∃ l : List Ob, l.length = n ∧ ObSl W A c l ∧ oks l := by
  obtain ⟨h1, h2, h3, l, hl, hi⟩ := slice_list (sz := 2) Try.underlying22 (by kernel_rfl) (by omega) (ObF W) (fun cs m y ht _ => ob_cells ht) (fun f g z hfg hp => by
    obtain ⟨A, c, a0, a1, a2⟩ := hp
    exact ⟨A, c, (hfg 0 (by omega)).symm.trans a0, (hfg 1 (by omega)).symm.trans a1, a2⟩) h
  refine ⟨l, hl, ⟨by omega, h2, h3, fun i hi2 => ?_⟩, fun z hz => ?_⟩
  · obtain ⟨g, o, e, A', c', a0, a1, a2, _⟩ := hi i hi2
    exact ⟨g, o, A', c', e, a0, a1, a2⟩
  · obtain ⟨i, hi2, rfl⟩ := List.getElem_of_mem hz
    obtain ⟨_, _, _, _, _, _, _, _, hw⟩ := hi i hi2
    exact hw
end
theorem obs_open {H : Type} {enc : TypeId × Value → H} {W : World} {base : Nat} {sp : Nat → Bool} {held : Bool} {r : Reach} {b0 : Nat} {v : Value} {d : DataW H} {p : List MemPlace} (hv : Value.okWide Try.prog W r b0 22 v) (h : DataW.Trod enc Try.prog W base sp held 22 v d p) :
    ∃ (l : List Ob) (A : Option Addr) (c : Nat), v = .slice A l.length c ∧ ObSl W A c l ∧ oks l := by
  obtain ⟨A, n, cc, rfl⟩ := okWide_slice Try.underlying22 hv
  obtain ⟨fuel, hf⟩ := h
  have hf2 : DataW.trod enc Try.prog W base sp held fuel 22 [.slice A n cc] = some (d, p) := by simpa [Value.cells] using hf
  obtain ⟨l, rfl, h1, h2⟩ := obs_arg hf2
  exact ⟨l, A, cc, rfl, h1, h2⟩
theorem ints_open {H : Type} {enc : TypeId × Value → H} {W : World} {base : Nat} {sp : Nat → Bool} {held : Bool} {r : Reach} {b0 : Nat} {v : Value} {d : DataW H} {p : List MemPlace} (hv : Value.okWide Try.prog W r b0 23 v) (h : DataW.Trod enc Try.prog W base sp held 23 v d p) :
    ∃ (l : List Int) (A : Option Addr) (c : Nat), v = .slice A l.length c ∧ IRow W A l ∧ (∀ n ∈ l, I64 n) ∧ l.length ≤ maxLen := by
  obtain ⟨A, n, cc, rfl⟩ := okWide_slice Try.underlying23 hv
  obtain ⟨fuel, hf⟩ := h
  have hf2 : DataW.trod enc Try.prog W base sp held fuel 23 [.slice A n cc] = some (d, p) := by simpa [Value.cells] using hf
  obtain ⟨h1, h2, _, l, rfl, h4, h5⟩ := ints_arg hf2
  exact ⟨l, A, cc, rfl, h4, h5, Nat.le_trans h1 h2⟩
theorem u64_nat {x : Int} (h : (Lit.int .u64 x).wf = true) : ∃ k : Nat, x = k ∧ U64 x := by
  have := wf_u64 h
  exact ⟨x.toNat, by omega, this⟩
end Go.Proofs.Yteekppohhjlmmaa
