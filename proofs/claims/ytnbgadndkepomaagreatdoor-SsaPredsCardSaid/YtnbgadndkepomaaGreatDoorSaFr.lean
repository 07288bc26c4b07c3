/- What the arguments of layer 6's laws hold: a code, and a list of choices, read out of the memory that was handed. -/
import Derived.Test.YtnbgadndkepomaaGreatDoorSaHead
import Derived.Deep.Slices
import Derived.ChangeSame
namespace Go.Proofs.YtnbgadndkepomaaGreatDoor
open Go.RowKit Go.ChangeShapes Go.WideShapes Go.Deep

theorem spot_none {w : World} {a : Addr} {v : Value} (h : w.cell? a = some v) : a = ⟨a.block, a.off, none⟩ := by
  obtain ⟨b, o, s⟩ := a
  cases s with
  | none => rfl
  | some s =>
    unfold World.cell? at h
    split at h
    · simp at h
    · cases h
theorem add_none (b o i : Nat) : (⟨b, o, none⟩ : Addr).add i = ⟨b, o + i, none⟩ := by unfold Addr.add; split <;> simp_all
theorem exists_list {α : Type} {P : Nat → α → Prop} : ∀ n : Nat, (∀ i, i < n → ∃ z, P i z) → ∃ l : List α, l.length = n ∧ ∀ (i : Nat) (h : i < l.length), P i l[i]
  | 0, _ => ⟨[], rfl, fun i h => by simp at h⟩
  | n + 1, h => by
    obtain ⟨l, hl, hp⟩ := exists_list n (fun i hi => h i (by omega))
    obtain ⟨z, hz⟩ := h n (Nat.lt_succ_self n)
    refine ⟨l ++ [z], by simp [hl], fun i hi => ?_⟩
    by_cases e : i < l.length
    · rw [List.getElem_append_left e]; exact hp i e
    · have : i = n := by simp at hi; omega
      subst this
      rw [List.getElem_append_right (by omega)]
      simpa [hl] using hz
theorem wf_i64 {n : Int} (h : (Lit.int .i64 n).wf = true) : I64 n := by
  simp [Lit.wf, IntKind.min, IntKind.max, IntKind.signed, IntKind.bits] at h
  unfold I64; omega
theorem wf_u64 {n : Int} (h : (Lit.int .u64 n).wf = true) : 0 ≤ n ∧ n < 18446744073709551616 := by
  simp [Lit.wf, IntKind.min, IntKind.max, IntKind.signed, IntKind.bits] at h
  omega
section
variable {H : Type} {enc : TypeId × Value → H} {W : World} {base : Nat} {sp : Nat → Bool} {held : Bool}
/-- The elements of a slice, each one read as P says. -/
theorem slice_list {α : Type} {t e : TypeId} {fuel : Nat} {A : Option Addr} {n c : Nat} {x : DataW H × List MemPlace} {sz : Nat} (ht : Tryz.prog.underlying t = some (.slice e)) (hsz : Tryz.prog.cellsOf e = sz) (h0 : 0 < sz) (P : (Nat → Option Value) → α → Prop)
    (hP : ∀ (cs : List Value) (m : Nat) (y : DataW H × List MemPlace), DataW.trod enc Tryz.prog W base sp held m e cs = some y → cs.length = sz → ∃ z, P (fun j => cs[j]?) z)
    (hPc : ∀ (f g : Nat → Option Value) (z : α), (∀ j, j < sz → f j = g j) → P f z → P g z)
    (h : DataW.trod enc Tryz.prog W base sp held fuel t [.slice A n c] = some x) :
    n ≤ c ∧ c ≤ maxLen ∧ (A = none → c = 0) ∧ ∃ l : List α, l.length = n ∧ ∀ (i : Nat) (hi : i < l.length), ∃ g o, A = some ⟨g, o, none⟩ ∧ P (fun j => W.cell? ⟨g, o + i * sz + j, none⟩) l[i] := by
  rcases open_slice ht h with ⟨hc, _⟩ | ⟨a, len, cap, m, k, D, Pl, hc, _, hl, hm, hmm, _, hi⟩
  · simp at hc
    obtain ⟨rfl, rfl, rfl⟩ := hc
    exact ⟨Nat.le_refl _, by unfold maxLen; omega, fun _ => rfl, [], rfl, fun i hi => by simp at hi⟩
  · simp at hc
    obtain ⟨rfl, rfl, rfl⟩ := hc
    refine ⟨hl, hm, fun e => by simp at e, ?_⟩
    have hnm : n ≤ m := by rw [hmm]; split <;> omega
    refine exists_list (P := fun i z => ∃ g o, some a = some ⟨g, o, none⟩ ∧ P (fun j => W.cell? ⟨g, o + i * sz + j, none⟩) z) n (fun i hin => ?_)
    obtain ⟨cs, hcs, htr⟩ := hi i (by omega)
    obtain ⟨_, hlen, hat⟩ := World.cells?_some hcs
    rw [hsz] at hlen hat hcs
    obtain ⟨z, hz⟩ := hP cs k _ htr hlen
    have ha : a = ⟨a.block, a.off, none⟩ := by
      obtain ⟨cs0, hcs0, _⟩ := hi 0 (by omega)
      obtain ⟨_, hlen0, hat0⟩ := World.cells?_some hcs0
      rw [hsz] at hlen0 hat0
      have h1 := hat0 0 h0
      rw [Nat.zero_mul] at h1
      have h2 : (a.add 0).add 0 = a := by simp [Addr.add]
      rw [h2, List.getElem?_eq_getElem (by omega)] at h1
      exact spot_none h1
    refine ⟨z, a.block, a.off, congrArg some ha, hPc _ _ z (fun j hj => ?_) hz⟩
    have h1 := hat j hj
    rw [ha, add_none, add_none] at h1
    exact h1.symm
/-- A field of a struct's type. -/
noncomputable def fld (t : TypeId) (j : Nat) : Option (TypeId × Nat) := match Tryz.prog.underlying t with
  | some (.struct fs) => fs[j]?.map fun f => (f.type, f.offset)
  | _ => none
theorem fld_trod {t ft : TypeId} {m j off k : Nat} {cs : List Value} {y : DataW H × List MemPlace} (hj : fld t j = some (ft, off)) (hk : Tryz.prog.cellsOf ft = k) (h : DataW.trod enc Tryz.prog W base sp held m t cs = some y) :
    ∃ n y', DataW.trod enc Tryz.prog W base sp held n ft ((cs.drop off).take k) = some y' := by
  unfold fld at hj
  split at hj
  · rename_i fs hu
    cases hf : fs[j]? with
    | none => rw [hf] at hj; simp at hj
    | some f =>
      rw [hf] at hj
      simp at hj
      obtain ⟨rfl, rfl⟩ := hj
      obtain ⟨xs, n, _, _, _, hl, hat⟩ := DataW.trod_struct hu h
      have h1 := hat j f hf
      rw [hk] at h1
      have hj2 : j < xs.length := by rw [hl]; exact (Array.getElem?_eq_some_iff.1 hf).1
      rw [List.getElem?_eq_getElem hj2] at h1
      exact ⟨n, _, h1⟩
  · cases hj
theorem take_one {cs : List Value} {k : Nat} {v : Value} (h : (cs.drop k).take 1 = [v]) : cs[k]? = some v := by
  have h1 : ((cs.drop k).take 1)[0]? = some v := by rw [h]; rfl
  rw [List.getElem?_take_of_lt (by omega), List.getElem?_drop] at h1
  simpa using h1
theorem int_fld {t ft : TypeId} {m j off : Nat} {cs : List Value} {y : DataW H × List MemPlace} {q : IntKind} (hj : fld t j = some (ft, off)) (hk : Tryz.prog.cellsOf ft = 1) (hu : Tryz.prog.underlying ft = some (.int q)) (h : DataW.trod enc Tryz.prog W base sp held m t cs = some y) :
    ∃ z, cs[off]? = some (.int q z) ∧ (Lit.int q z).wf = true := by
  obtain ⟨n, y', h1⟩ := fld_trod hj hk h
  obtain ⟨z, h2, _, h3⟩ := DataW.trod_int hu h1
  exact ⟨z, take_one h2, h3⟩
/-- A slice of numbers. -/
theorem ints_arg {fuel : Nat} {A : Option Addr} {n c : Nat} {x : DataW H × List MemPlace} (h : DataW.trod enc Tryz.prog W base sp held fuel 30 [.slice A n c] = some x) :
    n ≤ c ∧ c ≤ maxLen ∧ (A = none → c = 0) ∧ ∃ l : List Int, l.length = n ∧ IRow W A l ∧ ∀ v ∈ l, I64 v := by
  obtain ⟨h1, h2, h3, l, hl, hi⟩ := slice_list (sz := 1) Tryz.underlying30 (by kernel_rfl) (by omega) (fun f (z : Int) => f 0 = some (.int .i64 z) ∧ I64 z) (fun cs m y ht hlen => by
    obtain ⟨z, e, _, hw⟩ := DataW.trod_int (show Tryz.prog.underlying 3 = some (.int .i64) by kernel_rfl) ht
    subst e
    exact ⟨z, rfl, wf_i64 hw⟩) (fun f g z hfg hp => ⟨(hfg 0 (by omega)).symm.trans hp.1, hp.2⟩) h
  refine ⟨h1, h2, h3, l, hl, fun i hi2 => ?_, fun v hv => ?_⟩
  · obtain ⟨g, o, e, hc, _⟩ := hi i hi2
    exact ⟨g, o, e, by rw [Nat.mul_one] at hc; exact hc⟩
  · obtain ⟨i, hi2, rfl⟩ := List.getElem_of_mem hv
    obtain ⟨_, _, _, _, hw⟩ := hi i hi2
    exact hw
/-- A value of a slice's type. -/
theorem slice_val {t e : TypeId} {m : Nat} {cs : List Value} {y : DataW H × List MemPlace} (ht : Tryz.prog.underlying t = some (.slice e)) (h : DataW.trod enc Tryz.prog W base sp held m t cs = some y) : ∃ A n c, cs = [.slice A n c] := by
  rcases open_slice ht h with ⟨hc, _⟩ | ⟨a, len, cap, m, k, D, Pl, hc, _⟩
  · exact ⟨none, 0, 0, hc⟩
  · exact ⟨some a, len, cap, hc⟩
theorem slice_fld {t ft e : TypeId} {m j off : Nat} {cs : List Value} {y : DataW H × List MemPlace} (hj : fld t j = some (ft, off)) (hk : Tryz.prog.cellsOf ft = 1) (hu : Tryz.prog.underlying ft = some (.slice e)) (h : DataW.trod enc Tryz.prog W base sp held m t cs = some y) :
    ∃ A n c n' y', cs[off]? = some (.slice A n c) ∧ DataW.trod enc Tryz.prog W base sp held n' ft [.slice A n c] = some y' := by
  obtain ⟨n', y', h1⟩ := fld_trod hj hk h
  obtain ⟨A, n, c, h2⟩ := slice_val hu h1
  rw [h2] at h1
  exact ⟨A, n, c, n', y', take_one h2, h1⟩
/-- A list of lists of numbers. -/
theorem lists_arg {fuel : Nat} {A : Option Addr} {n c : Nat} {x : DataW H × List MemPlace} (h : DataW.trod enc Tryz.prog W base sp held fuel 22 [.slice A n c] = some x) :
    n ≤ c ∧ c ≤ maxLen ∧ ∃ l : List (List Int), l.length = n ∧ LRow W A l ∧ ∀ z ∈ l, ∀ v ∈ z, I64 v := by
  obtain ⟨h1, h2, h3, l, hl, hi⟩ := slice_list (sz := 1) Tryz.underlying22 (by kernel_rfl) (by omega) (fun f (z : List Int) => ∃ A' c', f 0 = some (.slice A' z.length c') ∧ z.length ≤ c' ∧ c' ≤ maxLen ∧ IRow W A' z ∧ ∀ v ∈ z, I64 v) (fun cs m y ht hlen => by
    obtain ⟨A', n', c', e⟩ := slice_val Tryz.underlying30 ht
    subst e
    obtain ⟨k1, k2, _, z, rfl, k4, k5⟩ := ints_arg ht
    exact ⟨z, A', c', rfl, k1, k2, k4, k5⟩) (fun f g z hfg hp => by
    obtain ⟨A', c', q1, q2⟩ := hp
    exact ⟨A', c', (hfg 0 (by omega)).symm.trans q1, q2⟩) h
  refine ⟨h1, h2, l, hl, fun i hi2 => ?_, fun z hz v hv => ?_⟩
  · obtain ⟨g, o, e, A', c', hc, q1, q2, q3, _⟩ := hi i hi2
    exact ⟨g, o, A', c', e, by rw [Nat.mul_one] at hc; exact hc, q1, q2, q3⟩
  · obtain ⟨i, hi2, rfl⟩ := List.getElem_of_mem hz
    obtain ⟨_, _, _, _, _, _, _, _, _, hw⟩ := hi i hi2
    exact hw v hv
/-- A list of texts. -/
theorem strs_arg {fuel : Nat} {A : Option Addr} {n c : Nat} {x : DataW H × List MemPlace} (h : DataW.trod enc Tryz.prog W base sp held fuel 23 [.slice A n c] = some x) :
    n ≤ c ∧ c ≤ maxLen ∧ ∃ l : List Str, l.length = n ∧ SRow W A l ∧ ∀ s ∈ l, s.length ≤ 9223372036854775807 := by
  obtain ⟨h1, h2, h3, l, hl, hi⟩ := slice_list (sz := 1) Tryz.underlying23 (by kernel_rfl) (by omega) (fun f (z : Str) => f 0 = some (.string ⟨z.toArray⟩) ∧ z.length ≤ 9223372036854775807) (fun cs m y ht hlen => by
    obtain ⟨z, e, _, hw⟩ := DataW.trod_string (show Tryz.prog.underlying 9 = some .string by kernel_rfl) ht
    subst e
    refine ⟨z.data.toList, rfl, ?_⟩
    unfold maxLen at hw
    show z.data.toList.length ≤ _
    have : z.data.toList.length = z.size := by simp
    omega) (fun f g z hfg hp => ⟨(hfg 0 (by omega)).symm.trans hp.1, hp.2⟩) h
  refine ⟨h1, h2, l, hl, fun i hi2 => ?_, fun v hv => ?_⟩
  · obtain ⟨g, o, e, hc, _⟩ := hi i hi2
    exact ⟨g, o, e, by rw [Nat.mul_one] at hc; exact hc⟩
  · obtain ⟨i, hi2, rfl⟩ := List.getElem_of_mem hv
    obtain ⟨_, _, _, _, hw⟩ := hi i hi2
    exact hw
/-- A list of choices. -/
theorem bools_arg {fuel : Nat} {A : Option Addr} {n c : Nat} {x : DataW H × List MemPlace} (h : DataW.trod enc Tryz.prog W base sp held fuel 38 [.slice A n c] = some x) :
    n ≤ c ∧ c ≤ maxLen ∧ ∃ l : List Bool, l.length = n ∧ BRow W A l := by
  obtain ⟨h1, h2, h3, l, hl, hi⟩ := slice_list (sz := 1) Tryz.underlying38 (by kernel_rfl) (by omega) (fun f (z : Bool) => f 0 = some (.bool z)) (fun cs m y ht hlen => by
    obtain ⟨z, e, _⟩ := DataW.trod_bool (show Tryz.prog.underlying 4 = some .bool by kernel_rfl) ht
    subst e
    exact ⟨z, rfl⟩) (fun f g z hfg hp => (hfg 0 (by omega)).symm.trans hp) h
  refine ⟨h1, h2, l, hl, fun i hi2 => ?_⟩
  obtain ⟨g, o, e, hc⟩ := hi i hi2
  exact ⟨g, o, e, by rw [Nat.mul_one] at hc; exact hc⟩
/-- The cells of an instruction, wherever they are read. -/
def InsF (f : Nat → Option Value) (z : CIn) : Prop := f 0 = some (.int .i64 z.op) ∧ f 1 = some (.int .i64 z.w) ∧ f 2 = some (.int .i64 z.p) ∧ f 3 = some (.int .i64 z.a) ∧ f 4 = some (.int .i64 z.b) ∧ f 5 = some (.int .i64 z.c) ∧ f 6 = some (.int .u64 z.n) ∧ f 7 = some (.int .i64 z.at_) ∧ z.ok
theorem inst_cells {m : Nat} {cs : List Value} {y : DataW H × List MemPlace} (h : DataW.trod enc Tryz.prog W base sp held m 47 cs = some y) : ∃ z, InsF (fun j => cs[j]?) z := by
  have hi : Tryz.prog.underlying 3 = some (.int .i64) := by kernel_rfl
  have hu : Tryz.prog.underlying 45 = some (.int .u64) := by kernel_rfl
  obtain ⟨z0, e0, w0⟩ := int_fld (j := 0) (off := 0) (ft := 3) (by kernel_rfl) (by kernel_rfl) hi h
  obtain ⟨z1, e1, w1⟩ := int_fld (j := 1) (off := 1) (ft := 3) (by kernel_rfl) (by kernel_rfl) hi h
  obtain ⟨z2, e2, w2⟩ := int_fld (j := 2) (off := 2) (ft := 3) (by kernel_rfl) (by kernel_rfl) hi h
  obtain ⟨z3, e3, w3⟩ := int_fld (j := 3) (off := 3) (ft := 3) (by kernel_rfl) (by kernel_rfl) hi h
  obtain ⟨z4, e4, w4⟩ := int_fld (j := 4) (off := 4) (ft := 3) (by kernel_rfl) (by kernel_rfl) hi h
  obtain ⟨z5, e5, w5⟩ := int_fld (j := 5) (off := 5) (ft := 3) (by kernel_rfl) (by kernel_rfl) hi h
  obtain ⟨z6, e6, w6⟩ := int_fld (j := 6) (off := 6) (ft := 45) (by kernel_rfl) (by kernel_rfl) hu h
  obtain ⟨z7, e7, w7⟩ := int_fld (j := 7) (off := 7) (ft := 3) (by kernel_rfl) (by kernel_rfl) hi h
  obtain ⟨g1, g2⟩ := wf_u64 w6
  refine ⟨⟨z0, z1, z2, z3, z4, z5, z6.toNat, z7⟩, e0, e1, e2, e3, e4, e5, ?_, e7, wf_i64 w0, wf_i64 w1, wf_i64 w2, wf_i64 w3, wf_i64 w4, wf_i64 w5, ?_, wf_i64 w7⟩
  · show cs[6]? = some (.int .u64 ((z6.toNat : Nat) : Int))
    rw [e6, Int.toNat_of_nonneg g1]
  · show z6.toNat < _
    omega
theorem insts_arg {fuel : Nat} {A : Option Addr} {n c : Nat} {x : DataW H × List MemPlace} (h : DataW.trod enc Tryz.prog W base sp held fuel 24 [.slice A n c] = some x) :
    n ≤ c ∧ c ≤ maxLen ∧ ∃ l : List CIn, l.length = n ∧ InsRow W A l ∧ ∀ z ∈ l, z.ok := by
  obtain ⟨h1, h2, h3, l, hl, hi⟩ := slice_list (sz := 8) Tryz.underlying24 (by kernel_rfl) (by omega) InsF (fun cs m y ht _ => inst_cells ht) (fun f g z hfg hp => by
    obtain ⟨a0, a1, a2, a3, a4, a5, a6, a7, a8⟩ := hp
    exact ⟨(hfg 0 (by omega)).symm.trans a0, (hfg 1 (by omega)).symm.trans a1, (hfg 2 (by omega)).symm.trans a2, (hfg 3 (by omega)).symm.trans a3, (hfg 4 (by omega)).symm.trans a4, (hfg 5 (by omega)).symm.trans a5, (hfg 6 (by omega)).symm.trans a6, (hfg 7 (by omega)).symm.trans a7, a8⟩) h
  refine ⟨h1, h2, l, hl, fun i hi2 => ?_, fun z hz => ?_⟩
  · obtain ⟨g, o, e, a0, a1, a2, a3, a4, a5, a6, a7, _⟩ := hi i hi2
    exact ⟨g, o, e, a0, a1, a2, a3, a4, a5, a6, a7⟩
  · obtain ⟨i, hi2, rfl⟩ := List.getElem_of_mem hz
    obtain ⟨_, _, _, _, _, _, _, _, _, _, _, hw⟩ := hi i hi2
    exact hw
/-- The cells of a block. -/
def BkF (W : World) (f : Nat → Option Value) (z : CBk) : Prop := ∃ TA EA tc ec, f 0 = some (.int .i64 z.frm) ∧ f 1 = some (.int .i64 z.til) ∧ f 2 = some (.int .i64 z.en.kind) ∧ f 3 = some (.int .i64 z.en.a) ∧ f 4 = some (.int .i64 z.en.to) ∧ f 5 = some (.int .i64 z.en.els) ∧ f 6 = some (.slice TA z.en.ta.length tc) ∧ f 7 = some (.slice EA z.en.ea.length ec) ∧ f 8 = some (.int .i64 z.en.n) ∧ f 9 = some (.int .i64 z.en.at_) ∧ EndL W z.en TA EA tc ec ∧ z.ok
theorem block_cells {m : Nat} {cs : List Value} {y : DataW H × List MemPlace} (h : DataW.trod enc Tryz.prog W base sp held m 43 cs = some y) : ∃ z, BkF W (fun j => cs[j]?) z := by
  have hi : Tryz.prog.underlying 3 = some (.int .i64) := by kernel_rfl
  obtain ⟨f0, e0, w0⟩ := int_fld (j := 0) (off := 0) (ft := 3) (by kernel_rfl) (by kernel_rfl) hi h
  obtain ⟨f1, e1, w1⟩ := int_fld (j := 1) (off := 1) (ft := 3) (by kernel_rfl) (by kernel_rfl) hi h
  obtain ⟨n2, y2, h2⟩ := fld_trod (j := 2) (off := 2) (ft := 41) (k := 8) (by kernel_rfl) (by kernel_rfl) h
  obtain ⟨z0, g0, v0⟩ := int_fld (j := 0) (off := 0) (ft := 3) (by kernel_rfl) (by kernel_rfl) hi h2
  obtain ⟨z1, g1, v1⟩ := int_fld (j := 1) (off := 1) (ft := 3) (by kernel_rfl) (by kernel_rfl) hi h2
  obtain ⟨z2, g2, v2⟩ := int_fld (j := 2) (off := 2) (ft := 3) (by kernel_rfl) (by kernel_rfl) hi h2
  obtain ⟨z3, g3, v3⟩ := int_fld (j := 3) (off := 3) (ft := 3) (by kernel_rfl) (by kernel_rfl) hi h2
  obtain ⟨TA, tn, tc, n4, y4, g4, h4⟩ := slice_fld (j := 4) (off := 4) (ft := 30) (by kernel_rfl) (by kernel_rfl) Tryz.underlying30 h2
  obtain ⟨EA, en, ec, n5, y5, g5, h5⟩ := slice_fld (j := 5) (off := 5) (ft := 30) (by kernel_rfl) (by kernel_rfl) Tryz.underlying30 h2
  obtain ⟨z6, g6, v6⟩ := int_fld (j := 6) (off := 6) (ft := 3) (by kernel_rfl) (by kernel_rfl) hi h2
  obtain ⟨z7, g7, v7⟩ := int_fld (j := 7) (off := 7) (ft := 3) (by kernel_rfl) (by kernel_rfl) hi h2
  obtain ⟨t1, t2, t3, tl, rfl, t4, t5⟩ := ints_arg h4
  obtain ⟨u1, u2, u3, ul, rfl, u4, u5⟩ := ints_arg h5
  have hat : ∀ (j : Nat) (v : Value), ((cs.drop 2).take 8)[j]? = some v → cs[2 + j]? = some v := fun j v hj => by
    have hj8 : j < 8 := by
      apply Classical.byContradiction
      intro hn
      rw [List.getElem?_eq_none (by simp; omega)] at hj
      cases hj
    rw [List.getElem?_take_of_lt hj8, List.getElem?_drop] at hj
    exact hj
  exact ⟨⟨f0, f1, ⟨z0, z1, z2, z3, tl, ul, z6, z7⟩⟩, TA, EA, tc, ec, e0, e1, hat 0 _ g0, hat 1 _ g1, hat 2 _ g2, hat 3 _ g3, hat 4 _ g4, hat 5 _ g5, hat 6 _ g6, hat 7 _ g7, ⟨t4, u4, ⟨t1, t2⟩, ⟨u1, u2⟩, t3, u3⟩, wf_i64 w0, wf_i64 w1, wf_i64 v0, wf_i64 v1, wf_i64 v2, wf_i64 v3, t5, u5, wf_i64 v6, wf_i64 v7⟩
theorem blocks_arg {fuel : Nat} {A : Option Addr} {n c : Nat} {x : DataW H × List MemPlace} (h : DataW.trod enc Tryz.prog W base sp held fuel 25 [.slice A n c] = some x) :
    n ≤ c ∧ c ≤ maxLen ∧ ∃ l : List CBk, l.length = n ∧ BkRow W A l ∧ ∀ z ∈ l, z.ok := by
  obtain ⟨h1, h2, h3, l, hl, hi⟩ := slice_list (sz := 10) Tryz.underlying25 (by kernel_rfl) (by omega) (BkF W) (fun cs m y ht _ => block_cells ht) (fun f g z hfg hp => by
    obtain ⟨TA, EA, tc, ec, a0, a1, a2, a3, a4, a5, a6, a7, a8, a9, b⟩ := hp
    exact ⟨TA, EA, tc, ec, (hfg 0 (by omega)).symm.trans a0, (hfg 1 (by omega)).symm.trans a1, (hfg 2 (by omega)).symm.trans a2, (hfg 3 (by omega)).symm.trans a3, (hfg 4 (by omega)).symm.trans a4, (hfg 5 (by omega)).symm.trans a5, (hfg 6 (by omega)).symm.trans a6, (hfg 7 (by omega)).symm.trans a7, (hfg 8 (by omega)).symm.trans a8, (hfg 9 (by omega)).symm.trans a9, b⟩) h
  refine ⟨h1, h2, l, hl, fun i hi2 => ?_, fun z hz => ?_⟩
  · obtain ⟨g, o, e, TA, EA, tc, ec, a0, a1, a2, a3, a4, a5, a6, a7, a8, a9, b, _⟩ := hi i hi2
    exact ⟨g, o, TA, EA, tc, ec, e, ⟨a0, a1, a2, a3, a4, a5, a6, a7, a8, a9⟩, b⟩
  · obtain ⟨i, hi2, rfl⟩ := List.getElem_of_mem hz
    obtain ⟨_, _, _, _, _, _, _, _, _, _, _, _, _, _, _, _, _, _, hw⟩ := hi i hi2
    exact hw
end
end Go.Proofs.YtnbgadndkepomaaGreatDoor
