/- Joined texts: SaUsM, SaUsN, SaRw2, SaFld. -/
import Derived.Test.YtnbgadndkepomaaGreatDoorSQA
import Derived.Test.YtnbgadndkepomaaGreatDoorSQF

/- ssa: all uses of a code, in their order. -/
namespace Go.Proofs.YtnbgadndkepomaaGreatDoor

/-- A value that is used in a block, before an instruction. -/
structure Us where
  v : Int
  b : Nat
  before : Int
/-- What an instruction uses. -/
def usesAt (c : Cd) (i j : Nat) : List Us := (((c.ins[j]?).map argsOf).getD []).map fun v => ⟨v, i, j⟩
/-- What a block uses: its instructions from `frm` on, then its end. -/
def usesIn (c : Cd) (i : Nat) (b : CBk) : List Us :=
  ((List.range' b.frm.toNat (b.til.toNat - b.frm.toNat)).map (usesAt c i)).flatten ++ (endArgs b.en).map fun v => ⟨v, i, b.til⟩
def usesOf (c : Cd) (i : Nat) : List Us := ((c.bk[i]?).map (usesIn c i)).getD []
def allUses (c : Cd) : List Us := ((List.range c.bk.length).map (usesOf c)).flatten
theorem mem_usesAt {c : Cd} {i j : Nat} {u : Us} : u ∈ usesAt c i j ↔ ∃ h : j < c.ins.length, ∃ v ∈ argsOf c.ins[j], u = ⟨v, i, j⟩ := by
  unfold usesAt
  by_cases h : j < c.ins.length
  · rw [List.getElem?_eq_getElem h]
    simp only [Option.map_some, Option.getD_some, List.mem_map]
    exact ⟨fun ⟨v, hv, e⟩ => ⟨h, v, hv, e.symm⟩, fun ⟨_, v, hv, e⟩ => ⟨v, hv, e.symm⟩⟩
  · rw [List.getElem?_eq_none (by omega)]
    exact ⟨fun k => by simp at k, fun ⟨k, _⟩ => absurd k h⟩
theorem mem_usesIn {c : Cd} {i : Nat} {b : CBk} (hf : 0 ≤ b.frm) {u : Us} :
    u ∈ usesIn c i b ↔ (∃ (j : Nat) (h : j < c.ins.length), InBk b j ∧ ∃ v ∈ argsOf c.ins[j], u = ⟨v, i, j⟩) ∨ ∃ v ∈ endArgs b.en, u = ⟨v, i, b.til⟩ := by
  unfold usesIn
  rw [List.mem_append, List.mem_flatten]
  have e1 : (∃ l, l ∈ (List.range' b.frm.toNat (b.til.toNat - b.frm.toNat)).map (usesAt c i) ∧ u ∈ l) ↔ ∃ (j : Nat) (h : j < c.ins.length), InBk b j ∧ ∃ v ∈ argsOf c.ins[j], u = ⟨v, i, j⟩ := by
    constructor
    · rintro ⟨l, hl, hu⟩
      obtain ⟨j, hj, rfl⟩ := List.mem_map.1 hl
      obtain ⟨h, v, hv, e⟩ := mem_usesAt.1 hu
      have := List.mem_range'_1.1 hj
      exact ⟨j, h, ⟨by omega, by omega⟩, v, hv, e⟩
    · rintro ⟨j, h, ⟨i1, i2⟩, v, hv, e⟩
      exact ⟨_, List.mem_map.2 ⟨j, List.mem_range'_1.2 ⟨by omega, by omega⟩, rfl⟩, mem_usesAt.2 ⟨h, v, hv, e⟩⟩
  have e2 : u ∈ ((endArgs b.en).map fun v => (⟨v, i, b.til⟩ : Us)) ↔ ∃ v ∈ endArgs b.en, u = ⟨v, i, b.til⟩ := by
    rw [List.mem_map]
    exact ⟨fun ⟨v, hv, e⟩ => ⟨v, hv, e.symm⟩, fun ⟨v, hv, e⟩ => ⟨v, hv, e.symm⟩⟩
  rw [e1, e2]
theorem mem_usesOf {c : Cd} {i : Nat} {u : Us} : u ∈ usesOf c i ↔ ∃ h : i < c.bk.length, u ∈ usesIn c i c.bk[i] := by
  unfold usesOf
  by_cases h : i < c.bk.length
  · rw [List.getElem?_eq_getElem h]
    simp only [Option.map_some, Option.getD_some]
    exact ⟨fun k => ⟨h, k⟩, fun ⟨_, k⟩ => k⟩
  · rw [List.getElem?_eq_none (by omega)]
    exact ⟨fun k => by simp at k, fun ⟨k, _⟩ => absurd k h⟩
theorem mem_allUses {c : Cd} {u : Us} : u ∈ allUses c ↔ ∃ (i : Nat) (h : i < c.bk.length), u ∈ usesIn c i c.bk[i] := by
  unfold allUses
  rw [List.mem_flatten]
  constructor
  · rintro ⟨l, hl, hu⟩
    obtain ⟨i, _, rfl⟩ := List.mem_map.1 hl
    obtain ⟨h, k⟩ := mem_usesOf.1 hu
    exact ⟨i, h, k⟩
  · rintro ⟨i, h, k⟩
    exact ⟨_, List.mem_map.2 ⟨i, List.mem_range.2 h, rfl⟩, mem_usesOf.2 ⟨h, k⟩⟩
/-- The chapter's rule of values, over all uses in their order. -/
theorem values_iff {c : Cd} (hf : ∀ b ∈ c.bk, 0 ≤ b.frm) : ValuesP c ↔ ∀ u ∈ allUses c, UseP c u.v u.b u.before := by
  constructor
  · intro h u hu
    obtain ⟨i, hi, k⟩ := mem_allUses.1 hu
    rcases (mem_usesIn (hf _ (List.getElem_mem hi))).1 k with ⟨j, hj, hin, v, hv, rfl⟩ | ⟨v, hv, rfl⟩
    · exact (h i hi).1 j hj hin v hv
    · exact (h i hi).2 v hv
  · intro h b hb
    have hfb := hf _ (List.getElem_mem hb)
    exact ⟨fun j hj hin v hv => h ⟨v, b, j⟩ (mem_allUses.2 ⟨b, hb, (mem_usesIn hfb).2 (Or.inl ⟨j, hj, hin, v, hv, rfl⟩)⟩),
      fun v hv => h ⟨v, b, c.bk[b].til⟩ (mem_allUses.2 ⟨b, hb, (mem_usesIn hfb).2 (Or.inr ⟨v, hv, rfl⟩)⟩)⟩
/-! The steps of the walk over all uses. -/
/-- What was used before the instruction j of the block i. -/
def usesTo (c : Cd) (i f j : Nat) : List Us := ((List.range i).map (usesOf c)).flatten ++ ((List.range' f (j - f)).map (usesAt c i)).flatten
theorem usesTo_first (c : Cd) (i f : Nat) : usesTo c i f f = ((List.range i).map (usesOf c)).flatten := by unfold usesTo; simp
theorem usesTo_next {c : Cd} {i f j : Nat} (h : f ≤ j) : usesTo c i f (j + 1) = usesTo c i f j ++ usesAt c i j := by
  unfold usesTo
  rw [show j + 1 - f = (j - f) + 1 by omega, List.range'_concat, List.map_append, List.flatten_append, ← List.append_assoc]
  congr 1
  simp [show f + (j - f) = j by omega]
theorem usesTo_last {c : Cd} {i : Nat} (h : i < c.bk.length) {f t : Nat} (hf : c.bk[i].frm = f) (ht : c.bk[i].til = t) :
    usesTo c i f t ++ ((endArgs c.bk[i].en).map fun v => (⟨v, i, t⟩ : Us)) = ((List.range (i + 1)).map (usesOf c)).flatten := by
  unfold usesTo
  rw [List.range_succ, List.map_append, List.flatten_append, List.append_assoc]
  congr 1
  have e : usesOf c i = usesIn c i c.bk[i] := by unfold usesOf; rw [List.getElem?_eq_getElem h]; rfl
  simp only [List.map_cons, List.map_nil, List.flatten_cons, List.flatten_nil, List.append_nil]
  rw [e]
  unfold usesIn
  rw [hf, ht]
  simp
end Go.Proofs.YtnbgadndkepomaaGreatDoor

/- ssa: the uses of a code, one after the other: what was visited is a beginning of all. -/
namespace Go.Proofs.YtnbgadndkepomaaGreatDoor

def usesBefore (c : Cd) (i : Nat) : List Us := ((List.range i).map (usesOf c)).flatten
theorem usesBefore_zero (c : Cd) : usesBefore c 0 = [] := rfl
theorem usesBefore_next (c : Cd) (i : Nat) : usesBefore c (i + 1) = usesBefore c i ++ usesOf c i := by
  unfold usesBefore
  rw [List.range_succ, List.map_append, List.flatten_append]
  simp
theorem usesBefore_all (c : Cd) : usesBefore c c.bk.length = allUses c := rfl
theorem usesBefore_mono (c : Cd) (i : Nat) : ∀ d, usesBefore c i <+: usesBefore c (i + d)
  | 0 => List.prefix_refl _
  | d + 1 => (usesBefore_mono c i d).trans (by rw [← Nat.add_assoc, usesBefore_next]; exact List.prefix_append _ _)
theorem usesBefore_pre {c : Cd} {i : Nat} (h : i ≤ c.bk.length) : usesBefore c i <+: allUses c := by
  have := usesBefore_mono c i (c.bk.length - i)
  rwa [Nat.add_sub_cancel' h, usesBefore_all] at this
theorem usesTo_mono {c : Cd} {i f j : Nat} (h : f ≤ j) : ∀ d, usesTo c i f j <+: usesTo c i f (j + d)
  | 0 => List.prefix_refl _
  | d + 1 => (usesTo_mono h d).trans (by rw [← Nat.add_assoc, usesTo_next (by omega)]; exact List.prefix_append _ _)
/-- What an end uses, as uses. -/
def usesEnd (i : Nat) (t : Nat) (e : CEn) : List Us := (endArgs e).map fun v => ⟨v, i, t⟩
section
variable {c : Cd} {i f t j k : Nat}
theorem usesTo_pre (h : i < c.bk.length) (hf : c.bk[i].frm = f) (ht : c.bk[i].til = t) (h1 : f ≤ j) (h2 : j ≤ t) : usesTo c i f j <+: allUses c := by
  have := usesTo_mono (c := c) (i := i) h1 (t - j)
  rw [Nat.add_sub_cancel' h2] at this
  exact this.trans ((List.prefix_append _ ((endArgs c.bk[i].en).map fun v => (⟨v, i, t⟩ : Us))).trans (by rw [usesTo_last h hf ht]; exact usesBefore_pre (i := i + 1) h))
theorem usesAt_pre (h : i < c.bk.length) (hf : c.bk[i].frm = f) (ht : c.bk[i].til = t) (h1 : f ≤ j) (h2 : j < t) : usesTo c i f j ++ (usesAt c i j).take k <+: allUses c := by
  have h3 := usesTo_pre h hf ht (j := j + 1) (by omega) h2
  rw [usesTo_next h1] at h3
  exact (List.prefix_append_right_inj _ |>.2 (List.take_prefix _ _)).trans h3
theorem usesEnd_pre (h : i < c.bk.length) (hf : c.bk[i].frm = f) (ht : c.bk[i].til = t) : usesTo c i f t ++ (usesEnd i t c.bk[i].en).take k <+: allUses c := by
  refine (List.prefix_append_right_inj _ |>.2 (List.take_prefix _ _)).trans ?_
  unfold usesEnd
  rw [usesTo_last h hf ht]
  exact usesBefore_pre (i := i + 1) h
theorem usesAt_of (h : j < c.ins.length) : usesAt c i j = (argsOf c.ins[j]).map fun v => ⟨v, i, j⟩ := by
  unfold usesAt
  rw [List.getElem?_eq_getElem h]
  rfl
theorem usesTo_all (h : i < c.bk.length) (hf : c.bk[i].frm = f) (ht : c.bk[i].til = t) : usesTo c i f t ++ usesEnd i t c.bk[i].en = usesBefore c (i + 1) := usesTo_last h hf ht
theorem usesTo_none (f : Nat) : usesTo c i f f = usesBefore c i := usesTo_first c i f
end
/-- One use more. -/
theorem take_snoc {α : Type} {l : List α} {k : Nat} (h : k < l.length) (us : List α) : us ++ l.take (k + 1) = us ++ l.take k ++ [l[k]] := by
  rw [List.take_succ_eq_append_getElem h, List.append_assoc]
end Go.Proofs.YtnbgadndkepomaaGreatDoor

/- ssa: the rows, one by one. -/
namespace Go.Proofs.YtnbgadndkepomaaGreatDoor
open Go.RowKit

def rvL : List Nat := [0, 0, 2, 2, 2, 2, 2, 2, 2, 2, 2, 2, 2, 2, 2, 1, 1, 1, 1, 2, 0, 1, 0, 0, 0, 0, 0, 0, 0, 0, 0, 1, 0, 2, 3, 1, 1]
def rfL : List Nat := [0, 5, 1, 1, 1, 1, 1, 1, 1, 1, 1, 1, 1, 1, 1, 1, 1, 1, 5, 1, 0, 1, 1, 0, 0, 0, 0, 0, 0, 0, 3, 6, 6, 1, 0, 0, 4]
def fnL : List (Option Nat) := [none, some 69, some 66, some 66, some 66, some 66, some 66, some 66, some 66, some 66, some 66, some 66, some 67, some 67, some 67, some 70, some 68, some 68, some 71, some 72, none, some 73, some 74, none, none, none, none, none, none, none, some 75, some 76, some 77, some 78, some 79, some 80, some 81]
def fnV : Option Nat → Value
  | none => .nilFunc
  | some f => .func (.func f) #[] #[]
theorem rows_v (k : Nat) (hk : k < 37) : rowsA[k * 3]? = some (.int .i64 (rvL.getD k 0 : Nat)) := by
  have h : (List.range 37).map (fun k => rowsA[k * 3]?) = (List.range 37).map (fun k => some (Value.int .i64 (rvL.getD k 0 : Nat))) := by kernel_rfl
  have := congrArg (·[k]?) h
  simpa [hk] using this
theorem rows_f (k : Nat) (hk : k < 37) : rowsA[k * 3 + 1]? = some (.int .i64 (rfL.getD k 0 : Nat)) := by
  have h : (List.range 37).map (fun k => rowsA[k * 3 + 1]?) = (List.range 37).map (fun k => some (Value.int .i64 (rfL.getD k 0 : Nat))) := by kernel_rfl
  have := congrArg (·[k]?) h
  simpa [hk] using this
theorem rows_n (k : Nat) (hk : k < 37) : rowsA[k * 3 + 2]? = some (fnV (fnL.getD k none)) := by
  have h : (List.range 37).map (fun k => rowsA[k * 3 + 2]?) = (List.range 37).map (fun k => some (fnV (fnL.getD k none))) := by kernel_rfl
  have := congrArg (·[k]?) h
  simpa [hk] using this
instance (op : Int) : Decidable (OpP op) := inferInstanceAs (Decidable (_ ∨ _))
instance (op : Int) : Decidable (UseW op) := inferInstanceAs (Decidable (_ ∨ _))
instance (op : Int) : Decidable (UseK op) := inferInstanceAs (Decidable (_ ∧ _))
instance (op : Int) : Decidable (UseN op) := inferInstanceAs (Decidable (_ ∨ _))
theorem row_op : ∀ k : Nat, k < 37 → ((fnL.getD k none).isSome = decide (OpP (k : Int))) := by decide
theorem row_val : ∀ k : Nat, k < 37 → OpP (k : Int) → rvL.getD k 0 = valN (k : Int) ∧ (rfL.getD k 0).testBit 0 = decide (UseW (k : Int)) ∧ (rfL.getD k 0).testBit 1 = decide (UseK (k : Int)) ∧ (rfL.getD k 0).testBit 2 = decide (UseN (k : Int)) := by decide
theorem op_lt {op : Int} (h : OpP op) : 1 ≤ op ∧ op < 37 := by unfold OpP at h; omega
section
variable {W0 w : World} {p : Nat} {c : Cd} {x : Sl} {cs : Array Value}
theorem Cod.rowv (h : Cod W0 w p c x cs) (k : Nat) (hk : k < 37) : w.cell? ⟨p, 4 + k * 3, none⟩ = some (.int .i64 (rvL.getD k 0 : Nat)) := by rw [h.box.cell, h.rows _ (by omega), rows_v k hk]
theorem Cod.rowf (h : Cod W0 w p c x cs) (k : Nat) (hk : k < 37) : w.cell? ⟨p, 4 + k * 3 + 1, none⟩ = some (.int .i64 (rfL.getD k 0 : Nat)) := by rw [h.box.cell, show 4 + k * 3 + 1 = 4 + (k * 3 + 1) by omega, h.rows _ (by omega), rows_f k hk]
theorem Cod.rown (h : Cod W0 w p c x cs) (k : Nat) (hk : k < 37) : w.cell? ⟨p, 4 + k * 3 + 2, none⟩ = some (fnV (fnL.getD k none)) := by rw [h.box.cell, show 4 + k * 3 + 2 = 4 + (k * 3 + 2) by omega, h.rows _ (by omega), rows_n k hk]
end
end Go.Proofs.YtnbgadndkepomaaGreatDoor

/- ssa: the fields of instructions. -/
namespace Go.Proofs.YtnbgadndkepomaaGreatDoor
open Go.RowKit

/-- The numbers of parameters and the homes, as they lie in the code. -/
structure Pre (w : World) (p : Nat) (c : Cd) (b1 b2 : Nat) (P H : List Int) : Prop where
  e5 : w.cell? ⟨p, 115, none⟩ = some (.slice (some ⟨b1, 0, none⟩) c.bk.length c.bk.length)
  e6 : w.cell? ⟨p, 116, none⟩ = some (.slice (some ⟨b2, 0, none⟩) c.ins.length c.ins.length)
  lp : P.length = c.bk.length
  lh : H.length = c.ins.length
  vp : ∀ (n : Nat) (h : n < c.bk.length) (h2 : n < P.length), P[n] = (parN c c.bk[n] : Int)
  vh : ∀ (n : Nat) (h2 : n < H.length), H[n] = (homeN c n : Int)
  BP : Box w b1 3 (ints P)
  BH : Box w b2 3 (ints H)
theorem Pre.later {w w' : World} {p : Nat} {c : Cd} {b1 b2 : Nat} {P H : List Int} (hb : Below w.heap.size w w') (h : Pre w p c b1 b2 P H) : Pre w' p c b1 b2 P H :=
  { h with e5 := cell_later hb h.e5, e6 := cell_later hb h.e6, BP := h.BP.below hb, BH := h.BH.below hb }
theorem Pre.par {w : World} {p : Nat} {c : Cd} {b1 b2 : Nat} {P H : List Int} (h : Pre w p c b1 b2 P H) (n : Nat) (hn : n < c.bk.length) : w.cell? ⟨b1, n, none⟩ = some (.int .i64 (parN c c.bk[n] : Nat)) := by
  have h2 : n < P.length := by rw [h.lp]; exact hn
  rw [h.BP.cell, ints_get _ _ h2, h.vp n hn h2]
theorem Pre.home {w : World} {p : Nat} {c : Cd} {b1 b2 : Nat} {P H : List Int} (h : Pre w p c b1 b2 P H) (n : Nat) (hn : n < c.ins.length) : w.cell? ⟨b2, n, none⟩ = some (.int .i64 (homeN c n : Nat)) := by
  have h2 : n < H.length := by rw [h.lh]; exact hn
  rw [h.BH.cell, ints_get _ _ h2, h.vh n h2]
/-- The instruction stands where its block's parameters are. -/
def IsParP (c : Cd) (j : Nat) : Prop := ∃ h : homeN c j < c.bk.length, (j : Int) < c.bk[homeN c j].frm + parN c c.bk[homeN c j]
set_option maxRecDepth 100000 in
set_option maxHeartbeats 1600000 in
theorem isParameter_any {W : World} {p : Nat} {c : Cd} {x : Sl} {b1 b2 : Nat} {P H : List Int} (h : PtAt W p c x) (hp : Pre W p c b1 b2 P H) (hl : ListsP c) (hb : BlocksP c) (j : Nat) (hj : j < c.ins.length) :
    Calls Tryz.prog 88 #[.pointer (some ⟨p, 0, none⟩), .int .i64 j] W fun e w' => e = .returned (.bool (B (IsParP c j))) ∧ Drew W w' := by
  obtain ⟨hh, hin⟩ := home_lt hb hj
  obtain ⟨f, t, hf, ht, hft, htn⟩ := bk_nat hb hh
  have l2 := hl.2.2.2.1
  have l3 := hl.2.2.1.2
  have e5 := hp.e5
  have e6 := hp.e6
  have m1 := hp.par (homeN c j) hh
  have m2 := hp.home j hj
  have hpl := parN_le c c.bk[homeN c j]
  have hQ : Hid (B (IsParP c j) = decide ((j : Int) < (f : Int) + (parN c c.bk[homeN c j] : Nat))) := Lib.hid (by
    refine (B_eq ?_).symm
    rw [decide_eq_true_iff, ← hf]
    exact ⟨fun h => ⟨hh, h⟩, fun ⟨_, h⟩ => h⟩)
  rw [hQ.out]
  obtain ⟨g, o, TA, EA, tc, ec, eK, ⟨c0, cr⟩, hle⟩ := h.at_.k (homeN c j) hh
  rw [hf] at c0
  have s3 := h.s3
  obtain ⟨n, hn⟩ : ∃ n, Hid (parN c c.bk[homeN c j] = n) := ⟨_, Lib.hid rfl⟩
  rw [hn.out] at m1 hpl ⊢
  obtain ⟨b, hbk⟩ : ∃ n, Hid (homeN c j = n) := ⟨_, Lib.hid rfl⟩
  rw [hbk.out] at m1 m2 c0
  have hbl : (b : Int) < c.bk.length := by rw [← hbk.out]; omega
  have hjl : (j : Int) < c.ins.length := by omega
  have hwr : IntKind.i64.wrap ((f : Int) + (n : Int)) = (f : Int) + n := IntWalk.i64_in _ (by omega)
  have hnn : (0 : Int) ≤ (f : Int) + n := by omega
  clear cr hin hf ht hle hbk hn hQ hh hl hb
  go_enter Tryz.func88, Tryz.ntmps88
  go_wp2_with fail
  go_quiet (fail)
  go_wp2
  go_ret
  exact ⟨rfl, _, rfl⟩
end Go.Proofs.YtnbgadndkepomaaGreatDoor
