/- Joined texts: LOwn, LLeaf, LErrs, POwn, PGood, PLeaf, PTake, PBase, PApp, PIn. -/
import Derived.Test.YtmkehecapjdfdaaGreatDoorQB1
import Derived.Test.YtmkehecapjdfdaaGreatDoorRows
import Derived.WalkKit
import Derived.Laws.OwnMore
import Derived.Lib.Hide
import Derived.WalkSpells
import Derived.WalkLawsBesides
import Derived.StillTactics
import Derived.Laws.Pointers
import Derived.Deep.RegionHeld3
import Derived.Deep.QuietTactic
import Derived.BigQuiet
import Derived.RowKit3
import Derived.OwnWalk
import Derived.Deep.RegionWith
import Derived.Deep.RegionLaw
import Derived.Deep.AppendLies
import Derived.WalkMore
import Derived.RegionTactic
import Derived.IntWalk

/- The tokens in memory. -/
namespace Go.Proofs.YtmkehecapjdfdaaGreatDoor
open Go.RowKit

def tokVals (t : Tok) : List Value := [.int .i64 t.kind, .string ⟨t.text.toArray⟩, .int .u64 t.num, .int .i64 t.off]
def toksV : List Tok → List Value
  | [] => []
  | t :: r => tokVals t ++ toksV r
theorem toksV_append : ∀ a b, toksV (a ++ b) = toksV a ++ toksV b
  | [], b => rfl
  | t :: r, b => by simp [toksV, toksV_append r b]
theorem toksV_length : ∀ a, (toksV a).length = a.length * 4
  | [] => rfl
  | t :: r => by simp [toksV, toksV_length r, tokVals]; omega
theorem toksV_at : ∀ (l : List Tok) (i : Nat) (h : i < l.length) (j : Nat), j < 4 → (toksV l)[i * 4 + j]? = (tokVals l[i])[j]?
  | t :: r, 0, _, j, hj => by
    simp only [toksV, Nat.zero_mul, Nat.zero_add, List.getElem_cons_zero]
    rw [List.getElem?_append_left (by simp [tokVals]; omega)]
  | t :: r, i + 1, h, j, hj => by
    have := toksV_at r i (by simpa using h) j hj
    simp only [toksV, List.getElem_cons_succ]
    rw [List.getElem?_append_right (by simp [tokVals]; omega), ← this]
    congr 1
    simp [tokVals]; omega

/-- The tokens lie as a slice of the call's own. -/
def Toks (w : World) (base : Nat) (v : Value) (ts : List Tok) : Prop := w.ownsRow base 47 4 v ts.length (toksV ts)

theorem Tryz.infoTok : (Tryz.prog.info? 47).map (fun i => (i.zero, i.size, i.bytes)) = some (some (.agg #[.int .i64 0, .string ⟨#[]⟩, .int .u64 0, .int .i64 0]), 4, 40) := by kernel_rfl

theorem only_of_below {a w : World} (h : Below a.heap.size a w) (row : Option Nat) : a.grownBy w row := ⟨h.os, h.tape, h.output, h.size, fun i hi _ => h.block i hi⟩
theorem Toks.later {w w' : World} {base : Nat} {v : Value} {ts : List Tok} (h : Toks w base v ts) (hb : Below w.heap.size w w') : Toks w' base v ts := by
  refine World.ownsRow.kept h (only_of_below hb none) ?_
  cases v.ownBlock with
  | none => exact Or.inl rfl
  | some k => exact Or.inr (by simp)
theorem Toks.form {w : World} {base : Nat} {v : Value} {ts : List Tok} (h : Toks w base v ts) : ∃ A c, v = .slice A ts.length c := by
  rcases h.2 with ⟨rfl, h2⟩ | ⟨g, cap, cur, rfl, _⟩
  · have := toksV_length ts
    rw [h2] at this
    have e : ts.length = 0 := by simp at this; omega
    exact ⟨none, 0, by rw [e]⟩
  · exact ⟨_, _, rfl⟩
theorem Toks.lower {w : World} {base base' : Nat} {v : Value} {ts : List Tok} (h : Toks w base v ts) (hb : base' ≤ base) : Toks w base' v ts := by
  refine ⟨h.1, ?_⟩
  rcases h.2 with h2 | ⟨g, cap, cur, h3, h4, h5⟩
  · exact Or.inl h2
  · exact Or.inr ⟨g, cap, cur, h3, by omega, h5⟩
end Go.Proofs.YtmkehecapjdfdaaGreatDoor

/- The lexer's smallest functions: roles, the tests of one byte, stretches. -/
namespace Go.Proofs.YtmkehecapjdfdaaGreatDoor
open Go.RowKit

/-- The roles of the bytes. -/
def roleL : List Nat := [0, 0, 0, 0, 0, 0, 0, 0, 0, 1, 1, 0, 0, 0, 0, 0, 0, 0, 0, 0, 0, 0, 0, 0, 0, 0, 0, 0, 0, 0, 0, 0, 1, 16, 0, 0, 0, 8, 8, 0, 8, 8, 8, 8, 8, 8, 8, 8, 4, 4, 4, 4, 4, 4, 4, 4, 4, 4, 8, 8, 56, 24, 56, 0, 0, 0, 0, 0, 0, 0, 0, 0, 0, 0, 0, 0, 0, 0, 0, 0, 0, 0, 0, 0, 0, 0, 0, 0, 0, 0, 0, 8, 0, 8, 8, 0, 0, 2, 2, 2, 2, 2, 2, 2, 2, 2, 2, 2, 2, 2, 2, 2, 2, 2, 2, 2, 2, 2, 2, 2, 2, 2, 2, 8, 8, 8, 8, 0]
def roleI (n : Nat) : Int := ((roleL.getD n 0 : Nat) : Int)
/-- The table lies as it is laid. -/
def Tab (w : World) : Prop := ∀ i, i < 128 → w.cell? ⟨1, i, none⟩ = some (.int .u8 (roleI i))

/-- A world that has only drawn. -/
def Drew (w w' : World) : Prop := ∃ n, w' = w.drewN n
theorem Drew.refl (w : World) : Drew w w := ⟨0, rfl⟩
theorem Drew.trans {a b c : World} (h : Drew a b) (k : Drew b c) : Drew a c := by
  obtain ⟨n, rfl⟩ := h; obtain ⟨m, rfl⟩ := k; exact ⟨n + m, by rw [World.drewN_drewN]⟩
theorem Drew.more {a b : World} (h : Drew a b) (m : Nat) : Drew a (b.drewN m) := h.trans ⟨m, rfl⟩
theorem Drew.cell {a b : World} (h : Drew a b) (p : Addr) : b.cell? p = a.cell? p := by
  obtain ⟨n, rfl⟩ := h; rfl
theorem Drew.below {a b : World} (h : Drew a b) : Below a.heap.size a b := by
  obtain ⟨n, rfl⟩ := h; exact ⟨rfl, rfl, rfl, Nat.le_refl _, fun _ _ => rfl⟩
theorem Drew.size {a b : World} (h : Drew a b) : b.heap.size = a.heap.size := by
  obtain ⟨n, rfl⟩ := h; rfl
theorem cell_lt {w : World} {p : Addr} {v : Value} (h : w.cell? p = some v) : p.block < w.heap.size := by
  apply Classical.byContradiction; intro hn
  unfold World.cell? at h
  rw [Array.getElem?_eq_none (by omega)] at h
  cases h
theorem cell_later {w w' : World} {p : Addr} {v : Value} (hb : Below w.heap.size w w') (h : w.cell? p = some v) : w'.cell? p = some v :=
  (hb.cell (cell_lt h)).trans h
theorem Tab.later {w w' : World} (hb : Below w.heap.size w w') (h : Tab w) : Tab w' := fun i hi => cell_later hb (h i hi)

set_option maxRecDepth 100000 in
set_option maxHeartbeats 400000 in
theorem roles_any (n : Nat) (hn : n < 256) (w : World) (ht : Tab w) :
    Calls Tryz.prog 96 #[.int .u8 n] w fun e w' => e = .returned (.int .u8 (roleI n)) ∧ w' = w := by
  by_cases h : n < 128
  · have hc := ht n h
    clear ht
    generalize roleI n = r at *
    go_enter Tryz.func96, Tryz.ntmps96
    go_wp2
    go_ret
    exact ⟨rfl, rfl⟩
  · have hr : roleI n = 0 := by
      unfold roleI
      rw [List.getD_eq_getElem?_getD, List.getElem?_eq_none (by show 128 ≤ n; omega)]; rfl
    rw [hr]
    clear hr ht
    go_enter Tryz.func96, Tryz.ntmps96
    go_wp2
    go_ret
    exact ⟨rfl, rfl⟩

/-- What a mask of roles admits. -/
def Mask (m : Int) (ok : UInt8 → Bool) : Prop := ∀ n : Fin 256, (bits .and .u8 (roleI n.val) m != 0) = ok (UInt8.ofNat n.val)
theorem mask1 : Mask 1 isBlk := by unfold Mask; decide +kernel
theorem mask2 : Mask 2 isLet := by unfold Mask; decide +kernel
theorem mask4 : Mask 4 isDig := by unfold Mask; decide +kernel
theorem mask6 : Mask 6 isWrd := by unfold Mask; decide +kernel
theorem mask8 : Mask 8 isSgn := by unfold Mask; decide +kernel
theorem mask16 : Mask 16 isEq := by unfold Mask; decide +kernel
theorem mask32 : Mask 32 isDbl := by unfold Mask; decide +kernel
theorem Mask.at_ {m : Int} {ok : UInt8 → Bool} (h : Mask m ok) (b : UInt8) : (bits .and .u8 (roleI b.toNat) m != 0) = ok b := by
  have := h ⟨b.toNat, b.toNat_lt⟩
  simpa using this

set_option maxHeartbeats 400000 in
theorem oneOf_any (b : UInt8) (m : Int) (ok : UInt8 → Bool) (hm : Hid (Mask m ok)) (p : Addr) (w : World) (ht : Tab w) (hp : w.cell? p = some (.int .u8 m)) :
    Calls Tryz.prog 150 #[.int .u8 b.toNat, .pointer (some p)] w fun e w' => e = .returned (.bool (ok b)) ∧ ∃ k, w' = w.drewN k := by
  have hb : b.toNat < 256 := b.toNat_lt
  rw [← hm.out.at_ b]
  go_enter Tryz.func150, Tryz.ntmps150
  go_wp2
  go_quiet ((go_at_call 96; exact Calls.quiet_of_same (roles_any _ hb _ ht)))
  go_wp2
  go_ret
  exact ⟨rfl, _, rfl⟩

set_option maxHeartbeats 400000 in
theorem notNl_any (b : UInt8) (w : World) :
    Calls Tryz.prog 93 #[.int .u8 b.toNat] w fun e w' => e = .returned (.bool (notNl b)) ∧ w' = w := by
  have e : notNl b = ((b.toNat : Int) != 10) := by
    unfold notNl; rw [Bool.eq_iff_iff]; simp; omega
  rw [e]; clear e
  go_enter Tryz.func93, Tryz.ntmps93
  go_wp2
  go_ret
  exact ⟨rfl, rfl⟩
end Go.Proofs.YtmkehecapjdfdaaGreatDoor

/- What the listed errors hold. -/
namespace Go.Proofs.YtmkehecapjdfdaaGreatDoor
open Go.RowKit
/-- The two errors that package strconv keeps are there. -/
def Errs (w : World) : Prop := (∃ te pe, w.cell? ⟨4, 0, none⟩ = some (.iface te pe)) ∧ (∃ te pe, w.cell? ⟨5, 0, none⟩ = some (.iface te pe))
theorem Errs.later {w w' : World} (hb : Below w.heap.size w w') (h : Errs w) : Errs w' := by
  obtain ⟨⟨a, b, h1⟩, c, d, h2⟩ := h
  exact ⟨⟨a, b, cell_later hb h1⟩, c, d, cell_later hb h2⟩

end Go.Proofs.YtmkehecapjdfdaaGreatDoor

/- The reader and trees in memory. -/
namespace Go.Proofs.YtmkehecapjdfdaaGreatDoor
open Go.RowKit

def RT : TypeId := 80
def DT : TypeId := 56
def NT : TypeId := 25
def KT : TypeId := 108
def LV : TypeId := 75

/-- What is neither a reader nor a row of diagnostics stays as it is, and all that lies below the base. -/
structure Kept (B : Nat) (w w' : World) : Prop where
  below : Below B w w'
  keep : ∀ b, b < w.heap.size → (∀ c T fz, w.heap[b]? = some (.cells c T fz) → T ≠ RT ∧ T ≠ DT) → w'.heap[b]? = w.heap[b]?
theorem Kept.refl (B : Nat) (w : World) : Kept B w w := ⟨Below.refl _ _, fun _ _ _ => rfl⟩
theorem Kept.trans {B : Nat} {a b c : World} (h : Kept B a b) (k : Kept B b c) : Kept B a c :=
  ⟨h.below.trans k.below, fun i hi hT => by
    have e := h.keep i hi hT
    rw [← e]
    exact k.keep i (Nat.lt_of_lt_of_le hi h.below.size) (fun c T fz hc => hT c T fz (by rw [← e]; exact hc))⟩
theorem Kept.of {B : Nat} {w w' : World} (h : Below w.heap.size w w') (hB : B ≤ w.heap.size) : Kept B w w' := ⟨h.mono hB, fun b hb _ => h.block b hb⟩
theorem Kept.size {B : Nat} {w w' : World} (h : Kept B w w') : w.heap.size ≤ w'.heap.size := h.below.size
/-- A block of another kind stays whole. -/
theorem Kept.block {B : Nat} {w w' : World} (h : Kept B w w') {b : Nat} {o : Obj} (hb : w.heap[b]? = some o) (hT : ∀ c T fz, o = .cells c T fz → T ≠ RT ∧ T ≠ DT) : w'.heap[b]? = some o := by
  rw [h.keep b (Array.getElem?_eq_some_iff.1 hb).1 (fun c T fz hc => hT c T fz (by rw [hb] at hc; exact Option.some.inj hc))]
  exact hb
theorem Kept.alloc {B : Nat} {w w' : World} (h : Kept B w w') (o : Obj) (hB : B ≤ w.heap.size) : Kept B w (w'.alloc o) :=
  h.trans (Kept.of ((Below.refl _ _).alloc (Nat.le_refl _) o) (Nat.le_trans hB h.size))
theorem Kept.own {B : Nat} {w w' : World} (h : Kept B w w') {T : TypeId} {sz : Nat} {v : Value} {n : Nat} {xs : List Value} {base : Nat} (ho : w.ownsRow base T sz v n xs) (h1 : T ≠ RT) (h2 : T ≠ DT) : w'.ownsRow base T sz v n xs := by
  refine ⟨ho.1, ?_⟩
  rcases ho.2 with hn | ⟨g, cap, cur, e, hb, hg, rest⟩
  · exact .inl hn
  · exact .inr ⟨g, cap, cur, e, hb, h.block hg (fun c T' fz hc => by cases hc; exact ⟨h1, h2⟩), rest⟩

/-- The cells of a node, its kids' slice at the end. -/
def nodeCells (t : T) (kv : Value) : List Value := [.int .i64 t.kind, .string ⟨t.name.toArray⟩, .string ⟨t.part.toArray⟩, .int .u64 t.num, .int .i64 t.wid, .int .i64 t.at_, kv]
mutual
/-- The value of the kids' field reads as the kids of a tree; its rows lie where they may. -/
def nodeAt (w : World) (ok : Nat → Prop) : T → Value → Prop
  | .mk _ _ _ _ _ _ ks, kv => ∃ cells, w.ownsRow 0 NT 7 kv ks.length cells ∧ (∀ g, kv.ownBlock = some g → ok g) ∧ rowAt w ok ks cells
def rowAt (w : World) (ok : Nat → Prop) : List T → List Value → Prop
  | [], cells => cells = []
  | t :: r, cells => ∃ kv more, cells = nodeCells t kv ++ more ∧ nodeAt w ok t kv ∧ rowAt w ok r more
end
mutual
theorem nodeAt_imp {w w' : World} {ok ok' : Nat → Prop} (h1 : ∀ g, ok g → ok' g) (h2 : ∀ g c, ok g → w.heap[g]? = some (.cells c NT (0, 0)) → w'.heap[g]? = some (.cells c NT (0, 0))) :
    ∀ (t : T) (kv : Value), nodeAt w ok t kv → nodeAt w' ok' t kv
  | .mk _ _ _ _ _ _ ks, kv, h => by
    obtain ⟨cells, ho, hk, hr⟩ := h
    refine ⟨cells, ⟨ho.1, ?_⟩, fun g hg => h1 g (hk g hg), rowAt_imp h1 h2 ks cells hr⟩
    rcases ho.2 with hn | ⟨g, cap, cur, e, hb, hg, rest⟩
    · exact .inl hn
    · refine .inr ⟨g, cap, cur, e, hb, h2 g cur (hk g (by rw [e]; rfl)) hg, rest⟩
theorem rowAt_imp {w w' : World} {ok ok' : Nat → Prop} (h1 : ∀ g, ok g → ok' g) (h2 : ∀ g c, ok g → w.heap[g]? = some (.cells c NT (0, 0)) → w'.heap[g]? = some (.cells c NT (0, 0))) :
    ∀ (l : List T) (cells : List Value), rowAt w ok l cells → rowAt w' ok' l cells
  | [], _, h => h
  | t :: r, cells, h => by
    obtain ⟨kv, more, e, hn, hr⟩ := h
    exact ⟨kv, more, e, nodeAt_imp h1 h2 t kv hn, rowAt_imp h1 h2 r more hr⟩
end
mutual
theorem nodeAt_imp' {w w' : World} {ok ok' : Nat → Prop} (h : ∀ g c, ok g → w.heap[g]? = some (.cells c NT (0, 0)) → ok' g ∧ w'.heap[g]? = some (.cells c NT (0, 0))) :
    ∀ (t : T) (kv : Value), nodeAt w ok t kv → nodeAt w' ok' t kv
  | .mk _ _ _ _ _ _ ks, kv, hn => by
    obtain ⟨cells, ho, hk, hr⟩ := hn
    rcases ho.2 with ⟨e1, e2⟩ | ⟨g, cap, cur, e, hb, hg, rest⟩
    · exact ⟨cells, ⟨ho.1, .inl ⟨e1, e2⟩⟩, fun g hg => by rw [e1] at hg; simp [Value.ownBlock] at hg, rowAt_imp' h ks cells hr⟩
    · have hh := h g cur (hk g (by rw [e]; rfl)) hg
      exact ⟨cells, ⟨ho.1, .inr ⟨g, cap, cur, e, hb, hh.2, rest⟩⟩, fun g' hg' => by rw [e] at hg'; simp [Value.ownBlock] at hg'; subst hg'; exact hh.1, rowAt_imp' h ks cells hr⟩
theorem rowAt_imp' {w w' : World} {ok ok' : Nat → Prop} (h : ∀ g c, ok g → w.heap[g]? = some (.cells c NT (0, 0)) → ok' g ∧ w'.heap[g]? = some (.cells c NT (0, 0))) :
    ∀ (l : List T) (cells : List Value), rowAt w ok l cells → rowAt w' ok' l cells
  | [], _, hn => hn
  | t :: r, cells, hn => by
    obtain ⟨kv, more, e, hn, hr⟩ := hn
    exact ⟨kv, more, e, nodeAt_imp' h t kv hn, rowAt_imp' h r more hr⟩
end
theorem NT_ne : NT ≠ RT ∧ NT ≠ DT := by decide
theorem nodeAt_kept {B : Nat} {w w' : World} {ok : Nat → Prop} (h : Kept B w w') {t : T} {kv : Value} (hn : nodeAt w ok t kv) : nodeAt w' ok t kv :=
  nodeAt_imp (fun _ h => h) (fun _ _ _ hc => h.block hc (fun c T fz e => by cases e; exact NT_ne)) t kv hn
theorem rowAt_kept {B : Nat} {w w' : World} {ok : Nat → Prop} (h : Kept B w w') {l : List T} {cs : List Value} (hn : rowAt w ok l cs) : rowAt w' ok l cs :=
  rowAt_imp (fun _ h => h) (fun _ _ _ hc => h.block hc (fun c T fz e => by cases e; exact NT_ne)) l cs hn
theorem nodeAt_mono {w : World} {ok ok' : Nat → Prop} (h : ∀ g, ok g → ok' g) {t : T} {kv : Value} (hn : nodeAt w ok t kv) : nodeAt w ok' t kv :=
  nodeAt_imp h (fun _ _ _ hc => hc) t kv hn
theorem rowAt_mono {w : World} {ok ok' : Nat → Prop} (h : ∀ g, ok g → ok' g) {l : List T} {cs : List Value} (hn : rowAt w ok l cs) : rowAt w ok' l cs :=
  rowAt_imp h (fun _ _ _ hc => hc) l cs hn
theorem rowAt_append {w : World} {ok : Nat → Prop} : ∀ (a b : List T) (x y : List Value), rowAt w ok a x → rowAt w ok b y → rowAt w ok (a ++ b) (x ++ y)
  | [], b, x, y, h, k => by cases h; exact k
  | t :: r, b, x, y, ⟨kv, more, e, hn, hr⟩, k => ⟨kv, more ++ y, by rw [e, List.append_assoc], hn, rowAt_append r b more y hr k⟩
theorem rowAt_one {w : World} {ok : Nat → Prop} {t : T} {kv : Value} (h : nodeAt w ok t kv) : rowAt w ok [t] (nodeCells t kv) := ⟨kv, [], by simp, h, rfl⟩

/-- A list of nodes in the call's own row, which the nodes themselves don't use. -/
def Kids (w : World) (B : Nat) (l : List T) (v : Value) : Prop :=
  ∃ cells, w.ownsRow B NT 7 v l.length cells ∧ rowAt w (fun g => B ≤ g ∧ v.ownBlock ≠ some g) l cells
theorem Kids.nil (w : World) (B : Nat) : Kids w B [] (.slice none 0 0) := ⟨[], World.ownsRow_nil _ _ _ _, rfl⟩
theorem Kids.later {B B' : Nat} {w w' : World} {l : List T} {v : Value} (h : Kids w B' l v) (k : Kept B w w') : Kids w' B' l v := by
  obtain ⟨c, h1, h2⟩ := h
  exact ⟨c, k.own h1 NT_ne.1 NT_ne.2, rowAt_kept k h2⟩
theorem Kids.node {w : World} {B : Nat} {l : List T} {v : Value} (h : Kids w B l v) (k : Nat) (n p : Str) (x y z : Nat) : nodeAt w (fun g => B ≤ g) (.mk k n p x y z l) v := by
  obtain ⟨c, h1, h2⟩ := h
  refine ⟨c, ?_, fun g hg => (h1.lt g hg).1, rowAt_mono (fun g hg => hg.1) h2⟩
  refine ⟨h1.1, ?_⟩
  rcases h1.2 with hn | ⟨g, cap, cur, e, hb, hg, rest⟩
  · exact .inl hn
  · exact .inr ⟨g, cap, cur, e, Nat.zero_le _, hg, rest⟩
theorem Kids.form {w : World} {B : Nat} {l : List T} {v : Value} (h : Kids w B l v) : ∃ A c, v = .slice A l.length c := by
  obtain ⟨c, h1, _⟩ := h
  rcases h1.2 with ⟨rfl, h2⟩ | ⟨g, cap, cur, rfl, _⟩
  · exact ⟨none, 0, by rw [h2]⟩
  · exact ⟨_, _, rfl⟩

/-- What does not change while a source is read. -/
structure Env where
  ts : List PTok
  tv : Value
  r : Nat
  mi : Nat
  ms : Nat
  me : Nat
  mg : Nat
  base : Nat

def ptCells (t : PTok) : List Value := [.int .i64 t.tok.kind, .string ⟨t.tok.text.toArray⟩, .int .u64 t.tok.num, .int .i64 t.tok.off, .string ⟨t.word.toArray⟩]
def ptsV : List PTok → List Value
  | [] => []
  | t :: r => ptCells t ++ ptsV r
def dgV : List (Nat × Nat) → List Value
  | [] => []
  | d :: r => [.int .i64 d.1, .int .i64 d.2] ++ dgV r
theorem dgV_append : ∀ a b, dgV (a ++ b) = dgV a ++ dgV b
  | [], b => rfl
  | t :: r, b => by simp [dgV, dgV_append r b]

def mapOf (l : List (Str × Nat)) (k : Nat := 0) : List MapEntry := match l with
  | [] => []
  | (s, f) :: r => ⟨.string ⟨s.toArray⟩, .func (.func f) #[] #[], k⟩ :: mapOf r (k + 1)
def numOf (l : List Str) (k : Nat := 0) : List MapEntry := match l with
  | [] => []
  | s :: r => ⟨.string ⟨s.toArray⟩, .int .u64 (k + 1 : Nat), k⟩ :: numOf r (k + 1)
def itemTab : List (Str × Nat) := [(kStruct, 100), (kFunc, 101), (kParse, 102)]
def stmtTab : List (Str × Nat) := [(kLet, 103), (kNew, 104), (kMake, 105), (kFree, 106), (kSame, 107), (kIf, 108), (kWhile, 109), (kEmit, 110), (kAccept, 111), (kReject, 112), (kReturn, 113), (wName, 114)]
def exprTab : List (Str × Nat) := [(kIn, 115), (kLen, 116), (pLP, 117), (pTilde, 118), (kSext, 119), (wNumber, 120), (wName, 121), (wType, 122)]

/-- What lies in memory and stays: the tokens, the four maps. -/
structure Fix (E : Env) (w : World) : Prop where
  toks : w.ownsRow E.base KT 5 E.tv E.ts.length (ptsV E.ts)
  mi : w.heap[E.mi]? = some (.map (mapOf itemTab).toArray 3)
  ms : w.heap[E.ms]? = some (.map (mapOf stmtTab).toArray 12)
  me : w.heap[E.me]? = some (.map (mapOf exprTab).toArray 8)
  mg : w.heap[E.mg]? = some (.map (numOf signWords).toArray 17)
/-- What is known of the tokens themselves. -/
structure Good (E : Env) : Prop where
  few : E.ts.length ≤ 2000
  last : ∀ i, i < E.ts.length → wd E.ts i ≠ wEnd → i + 1 < E.ts.length
  typ : ∀ i, wd E.ts i = wType → (tk E.ts i).num ≤ 64

theorem KT_ne : KT ≠ RT ∧ KT ≠ DT := by decide
theorem Fix.later {E : Env} {w w' : World} {B : Nat} (h : Fix E w) (k : Kept B w w') : Fix E w' :=
  ⟨k.own h.toks KT_ne.1 KT_ne.2, k.block h.mi (fun _ _ _ e => by cases e), k.block h.ms (fun _ _ _ e => by cases e), k.block h.me (fun _ _ _ e => by cases e), k.block h.mg (fun _ _ _ e => by cases e)⟩

def rdCells (E : Env) (nx dp : Nat) (dv : Value) : Array Value := #[E.tv, .int .i64 nx, .int .i64 dp, dv, .map (some E.mi), .map (some E.ms), .map (some E.me), .map (some E.mg)]
/-- The reader as it stands: depth, state; N: more than there are diagnostics. -/
structure RS (E : Env) (N : Nat) (w : World) (dp : Nat) (s : St) : Prop where
  good : Good E
  fix : Fix E w
  base : E.base ≤ E.r
  hnx : s.nx < E.ts.length
  hdp : dp ≤ 10
  few : s.ds.length < N
  rd : ∃ dv, w.heap[E.r]? = some (.cells (rdCells E s.nx dp dv) RT (0, 0)) ∧ w.ownsRow E.base DT 2 dv s.ds.length (dgV s.ds)
theorem RS.lt {E : Env} {N : Nat} {w : World} {dp : Nat} {s : St} (h : RS E N w dp s) : E.r < w.heap.size := by
  obtain ⟨dv, h1, _⟩ := h.rd
  exact (Array.getElem?_eq_some_iff.1 h1).1
theorem RS.baselt {E : Env} {N : Nat} {w : World} {dp : Nat} {s : St} (h : RS E N w dp s) : E.base ≤ w.heap.size := by
  have := h.lt
  have := h.base
  omega
/-- Memory is made: the reader stays. -/
theorem RS.later {E : Env} {N : Nat} {w w' : World} {dp : Nat} {s : St} (h : RS E N w dp s) (hb : Below w.heap.size w w') : RS E N w' dp s := by
  obtain ⟨dv, h1, h2⟩ := h.rd
  refine ⟨h.good, h.fix.later (Kept.of hb h.baselt), h.base, h.hnx, h.hdp, h.few, dv, ?_, h2.kept (only_of_below hb none) (by cases dv.ownBlock <;> simp)⟩
  rw [hb.block _ h.lt]; exact h1
/-- The reader's next token or depth is set. -/
theorem RS.set {E : Env} {N : Nat} {w : World} {dp : Nat} {s : St} (h : RS E N w dp s) (nx' dp' : Nat) (hn : nx' < E.ts.length) (hd : dp' ≤ 10) {w' : World}
    (hw : ∀ dv, w.heap[E.r]? = some (.cells (rdCells E s.nx dp dv) RT (0, 0)) → w'.heap[E.r]? = some (.cells (rdCells E nx' dp' dv) RT (0, 0)))
    (ho : w.grownBy w' (some E.r)) : RS E N w' dp' ⟨nx', s.ds⟩ ∧ Kept E.base w w' := by
  obtain ⟨dv, h1, h2⟩ := h.rd
  have hk : Kept E.base w w' := by
    refine ⟨⟨ho.os, ho.tape, ho.output, ho.size, fun k hk => ho.block k (by have := h.lt; have := h.base; omega) (by have := h.base; simp; omega)⟩, fun b hb hT => ?_⟩
    refine ho.block b hb ?_
    intro e
    cases e
    exact (hT _ _ _ h1).1 rfl
  refine ⟨⟨h.good, h.fix.later hk, h.base, hn, hd, h.few, dv, hw dv h1, h2.kept ho ?_⟩, hk⟩
  rcases h2.2 with ⟨rfl, _⟩ | ⟨g, cap, cur, rfl, _, hg, _⟩
  · exact .inl rfl
  · right
    intro e
    simp [Value.ownBlock] at e
    subst e
    rw [h1] at hg
    cases hg

/-- A leaving's row of panics: full only where all is left, and none of it ends the goroutine. -/
def Few (l : Nat) (s' : St) (ch : List PanicEntry) : Prop := (l < 2 → s'.ds.length < 20) ∧ (∀ x ∈ ch, x.goexit = false) ∧ l ≤ 2
/-- What a call leaves, by what the plain function answers. -/
def PostR {α : Type} (E : Env) (w : World) (dp : Nat) (R : World → α → Value → Prop) : Res α → Ending → World → Prop
  | .ok a s', e, w' => ∃ v, e = .returned v ∧ R w' a v ∧ RS E 20 w' dp s' ∧ Kept E.base w w'
  | .out l s', e, w' => ∃ ch dp', e = .panicked ({ v := .iface LV (.int .i64 l), recovered := false } :: ch) ∧ Few l s' ch ∧ RS E 21 w' dp' s' ∧ Kept E.base w w'
def RNode (B : Nat) (w : World) (t : T) (v : Value) : Prop := ∃ kv, v = .agg (nodeCells t kv).toArray ∧ nodeAt w (fun g => B ≤ g) t kv
def RStr (_ : World) (s : Str) (v : Value) : Prop := v = .string ⟨s.toArray⟩
def RNat (k : IntKind) (_ : World) (n : Nat) (v : Value) : Prop := v = .int k n
def RUnit (_ : World) (_ : Unit) (v : Value) : Prop := v = .tuple #[]
def RTok (_ : World) (t : Tok) (v : Value) : Prop := v = .agg #[.int .i64 t.kind, .string ⟨t.text.toArray⟩, .int .u64 t.num, .int .i64 t.off]
def RKids (B : Nat) (w : World) (l : List T) (v : Value) : Prop := Kids w B l v
end Go.Proofs.YtmkehecapjdfdaaGreatDoor

/- What is known of the tokens that a source is split into. -/
namespace Go.Proofs.YtmkehecapjdfdaaGreatDoor
open Go

/-- A token is what some text reads as. -/
def Rd (t : Tok) : Prop := ∃ x, x ≠ [] ∧ tokLen x = x.length ∧ readT x = ((t.kind, t.text, t.num), 0)
theorem lexL_rd : ∀ (f : Nat) (l : List UInt8) (a k : Nat), ∀ t ∈ (lexL f l a k).1, ∃ x r, x ≠ [] ∧ tokLen (x ++ r) = x.length ∧ readT x = ((t.kind, t.text, t.num), 0)
  | 0, l, a, k, t, h => by simp [lexL] at h
  | f + 1, l, a, k, t, h => by
    unfold lexL at h
    split at h
    · simp at h
    split at h
    · simp at h
    split at h
    · simp at h
    split at h
    · simp at h
    · rename_i h1 h2 h3 h4
      have h5 : (readT (l.take (tokLen l))).2 = 0 := by
        cases hh : (readT (l.take (tokLen l))).2 with
        | zero => rfl
        | succ n => exact absurd (by rw [hh]; simp) h4
      rcases List.mem_cons.1 h with rfl | h
      · have hle := tokLen_le l
        refine ⟨l.take (tokLen l), l.drop (tokLen l), ?_, ?_, ?_⟩
        · intro e
          have := congrArg List.length e
          simp at this
          rcases this with h | h
          · exact h2 h
          · exact h1 h
        · rw [List.take_append_drop]; simp; omega
        · exact Prod.ext rfl h5
      · exact lexL_rd f _ _ _ t h
theorem lexS_rd {s : List UInt8} {ts : List Tok} {a : Nat} (h : lexS s = (ts, 0, a)) : ∀ t ∈ ts, ∃ x r, x ≠ [] ∧ tokLen (x ++ r) = x.length ∧ readT x = ((t.kind, t.text, t.num), 0) := by
  intro t ht
  unfold lexS at h
  split at h
  · simp at h
  split at h
  · simp only [Prod.mk.injEq] at h
    rw [← h.1] at ht
    exact lexL_rd _ _ _ _ t ht
  · simp only [Prod.mk.injEq] at h
    rw [← h.1] at ht
    cases ht
theorem widthOf_le : ∀ x, widthOf x ≤ 64
  | [] => by simp [widthOf]
  | [a] => by simp [widthOf]
  | [u, a] => by
    simp only [widthOf]
    split
    · rename_i h
      simp only [Bool.and_eq_true, decide_eq_true_eq] at h
      omega
    · omega
  | [u, a, b] => by
    simp only [widthOf]
    split
    · rename_i h
      simp only [Bool.and_eq_true, decide_eq_true_eq] at h
      omega
    · omega
  | a :: b :: c :: d :: r => by simp [widthOf]
/-- The kinds of a token that can be read. -/
theorem read_kinds {x : List UInt8} {v : Nat × List UInt8 × Nat} (hx : x ≠ []) (h : readT x = (v, 0)) :
    (v = (1, x, 0) ∧ (∃ b l, x = b :: l ∧ isLet b = true) ∧ x.length ≤ 12 ∧ widthOf x = 0) ∨ (∃ u, v = (2, [], u) ∧ Lib.parseUintB 64 x = .ok u ∧ ∃ b l, x = b :: l ∧ isDig b = true ∧ ¬ (l ≠ [] ∧ b.toNat = 48)) ∨
      (v = (3, [], widthOf x) ∧ widthOf x ≠ 0 ∧ ∃ b l, x = b :: l ∧ isLet b = true) ∨ (v = (4, x, 0) ∧ ∃ b l, x = b :: l ∧ isLet b = false ∧ isDig b = false) := by
  cases x with
  | nil => exact absurd rfl hx
  | cons b l =>
    simp only [readT] at h
    split at h
    · rename_i hb
      split at h
      · rename_i hw
        cases h
        exact .inr (.inr (.inl ⟨rfl, hw, b, l, rfl, hb⟩))
      · rename_i hw
        split at h
        · cases h
        · rename_i h12
          cases h
          exact .inl ⟨rfl, ⟨b, l, rfl, hb⟩, by omega, Classical.not_not.1 hw⟩
    · rename_i hb
      split at h
      · rename_i hd
        split at h
        · cases h
        · rename_i hz
          split at h
          · rename_i u hu
            cases h
            exact .inr (.inl ⟨u, rfl, hu, b, l, rfl, hd, hz⟩)
          · cases h
      · rename_i hd
        cases h
        exact .inr (.inr (.inr ⟨rfl, b, l, rfl, by simpa using hb, by simpa using hd⟩))
theorem typ_le {t : Tok} (h : ∃ x r, x ≠ [] ∧ tokLen (x ++ r) = x.length ∧ readT x = ((t.kind, t.text, t.num), 0)) (hw : wordT t = wType) : t.num ≤ 64 := by
  obtain ⟨x, r, hx, _, hr⟩ := h
  rcases read_kinds hx hr with ⟨e, ⟨b, l, rfl, hb⟩, _⟩ | ⟨u, e, _⟩ | ⟨e, _⟩ | ⟨e, b, l, rfl, hb, hd⟩
  · simp only [Prod.mk.injEq] at e
    unfold wordT at hw
    rw [if_neg (by omega), if_neg (by omega)] at hw
    split at hw
    · exact absurd hw (by decide)
    · rename_i hk
      rw [hw] at hk
      exact absurd ⟨e.1, by decide⟩ hk
  · simp only [Prod.mk.injEq] at e
    unfold wordT at hw
    rw [if_pos e.1] at hw
    exact absurd hw (by decide)
  · simp only [Prod.mk.injEq] at e
    have := widthOf_le x
    omega
  · simp only [Prod.mk.injEq] at e
    unfold wordT at hw
    rw [if_neg (by omega), if_neg (by omega), if_neg (by omega), e.2.1] at hw
    unfold wType at hw
    injection hw with hw _
    subst hw
    exact absurd hb (by decide)
theorem good_of {s : List UInt8} {ts : List Tok} {a : Nat} (h : lexS s = (ts, 0, a)) (end_ : Nat) : ∀ E : Env, E.ts = ptoks ts end_ → Good E := by
  intro E hE
  have hrd := lexS_rd h
  have hlen := (lexS_ok h).2.1
  have hl : E.ts.length = ts.length + 1 := by rw [hE]; simp [ptoks]
  refine ⟨by omega, ?_, ?_⟩
  · intro i hi hw
    by_cases e : i = ts.length
    · exfalso
      apply hw
      unfold wd
      rw [hE, e]
      simp [ptoks]
    · omega
  · intro i hw
    by_cases e : i < ts.length
    · have h1 : E.ts[i]? = some ⟨ts[i], wordT ts[i]⟩ := by
        rw [hE]
        simp [ptoks, List.getElem?_append, e]
      unfold wd at hw
      unfold tk
      rw [h1] at hw ⊢
      exact typ_le (hrd _ (List.getElem_mem e)) hw
    · by_cases e2 : i = ts.length
      · unfold wd at hw
        rw [hE, e2] at hw
        simp [ptoks] at hw
        exact absurd hw (by decide)
      · unfold tk
        have h1 : E.ts[i]? = none := List.getElem?_eq_none (by omega)
        rw [h1]
        simp
end Go.Proofs.YtmkehecapjdfdaaGreatDoor

/- The reader's smallest methods. -/
namespace Go.Proofs.YtmkehecapjdfdaaGreatDoor
open Go.RowKit

theorem ptsV_length : ∀ a, (ptsV a).length = a.length * 5
  | [] => rfl
  | t :: r => by simp [ptsV, ptsV_length r, ptCells]; omega
theorem ptsV_at : ∀ (l : List PTok) (i : Nat) (h : i < l.length) (j : Nat), j < 5 → (ptsV l)[i * 5 + j]? = (ptCells l[i])[j]?
  | t :: r, 0, _, j, hj => by
    simp only [ptsV, Nat.zero_mul, Nat.zero_add, List.getElem_cons_zero]
    rw [List.getElem?_append_left (by simp [ptCells]; omega)]
  | t :: r, i + 1, h, j, hj => by
    have := ptsV_at r i (by simpa using h) j hj
    simp only [ptsV, List.getElem_cons_succ]
    rw [List.getElem?_append_right (by simp [ptCells]; omega), ← this]
    congr 1
    simp [ptCells]; omega
theorem wd_at {ts : List PTok} {i : Nat} (h : i < ts.length) : wd ts i = ts[i].word := by unfold wd; rw [List.getElem?_eq_getElem h]
theorem tk_at {ts : List PTok} {i : Nat} (h : i < ts.length) : tk ts i = ts[i].tok := by unfold tk; rw [List.getElem?_eq_getElem h]

/-- The tokens as they are read. -/
theorem Fix.tok {E : Env} {w : World} (h : Fix E w) (i : Nat) (hi : i < E.ts.length) : ∃ tb cap, E.tv = .slice (some ⟨tb, 0, none⟩) E.ts.length cap ∧ E.ts.length ≤ cap ∧
    w.cell? ⟨tb, i * 5, none⟩ = some (.int .i64 (tk E.ts i).kind) ∧ w.cell? ⟨tb, i * 5 + 1, none⟩ = some (.string ⟨(tk E.ts i).text.toArray⟩) ∧
    w.cell? ⟨tb, i * 5 + 2, none⟩ = some (.int .u64 (tk E.ts i).num) ∧ w.cell? ⟨tb, i * 5 + 3, none⟩ = some (.int .i64 (tk E.ts i).off) ∧
    w.cell? ⟨tb, i * 5 + 4, none⟩ = some (.string ⟨(wd E.ts i).toArray⟩) := by
  have hlen := ptsV_length E.ts
  rcases h.toks.2 with ⟨_, h2⟩ | ⟨g, cap, cur, e, hb, hg, hc, hm, hs, ht⟩
  · omega
  · have key : ∀ j, j < 5 → w.cell? ⟨g, i * 5 + j, none⟩ = (ptCells E.ts[i])[j]? := fun j hj => by
      have hlt : i * 5 + j < E.ts.length * 5 := by omega
      rw [← ptsV_at E.ts i hi j hj, ← ht, List.getElem?_take, if_pos hlt]
      unfold World.cell?
      rw [hg]
      simp
    rw [tk_at hi, wd_at hi]
    exact ⟨g, cap, e, hc, key 0 (by omega), key 1 (by omega), key 2 (by omega), key 3 (by omega), key 4 (by omega)⟩
/-- The reader's own cells. -/
theorem RS.cells {E : Env} {N : Nat} {w : World} {dp : Nat} {s : St} (h : RS E N w dp s) : ∃ dv,
    w.cell? ⟨E.r, 0, none⟩ = some E.tv ∧ w.cell? ⟨E.r, 1, none⟩ = some (.int .i64 s.nx) ∧ w.cell? ⟨E.r, 2, none⟩ = some (.int .i64 dp) ∧ w.cell? ⟨E.r, 3, none⟩ = some dv ∧
    w.cell? ⟨E.r, 4, none⟩ = some (.map (some E.mi)) ∧ w.cell? ⟨E.r, 5, none⟩ = some (.map (some E.ms)) ∧ w.cell? ⟨E.r, 6, none⟩ = some (.map (some E.me)) ∧ w.cell? ⟨E.r, 7, none⟩ = some (.map (some E.mg)) ∧
    (∀ i, w.frozen? ⟨E.r, i, none⟩ = false) ∧ w.ownsRow E.base DT 2 dv s.ds.length (dgV s.ds) := by
  obtain ⟨dv, h1, h2⟩ := h.rd
  refine ⟨dv, ?_, ?_, ?_, ?_, ?_, ?_, ?_, ?_, fun i => ?_, h2⟩
  all_goals first | (unfold World.cell?; rw [h1]; rfl) | (unfold World.frozen?; rw [h1]; simp)

set_option maxRecDepth 100000 in
set_option maxHeartbeats 800000 in
theorem word_any {E : Env} {N : Nat} {w : World} {dp : Nat} {s : St} (h : RS E N w dp s) :
    Calls Tryz.prog 61 #[.pointer (some ⟨E.r, 0, none⟩)] w fun e w' => e = .returned (.string ⟨(wd E.ts s.nx).toArray⟩) ∧ Drew w w' := by
  obtain ⟨tb, cap, etv, hcap, k0, k1, k2, k3, k4⟩ := h.fix.tok s.nx h.hnx
  obtain ⟨dv, r0, r1, _⟩ := h.cells
  have hn := h.hnx
  rw [etv] at r0
  generalize (wd E.ts s.nx) = W at *
  generalize s.nx = n at *
  generalize E.ts.length = L at *
  generalize E.r = r at *
  clear h etv k0 k1 k2 k3
  go_enter Tryz.func61, Tryz.ntmps61
  go_wp2_with fail
  go_quiet (fail)
  go_wp2
  go_ret
  exact ⟨rfl, _, rfl⟩

set_option maxRecDepth 100000 in
set_option maxHeartbeats 800000 in
theorem here_any {E : Env} {N : Nat} {w : World} {dp : Nat} {s : St} (h : RS E N w dp s) :
    Calls Tryz.prog 167 #[.pointer (some ⟨E.r, 0, none⟩)] w fun e w' => e = .returned (.int .i64 (tk E.ts s.nx).off) ∧ Drew w w' := by
  obtain ⟨tb, cap, etv, hcap, k0, k1, k2, k3, k4⟩ := h.fix.tok s.nx h.hnx
  obtain ⟨dv, r0, r1, _⟩ := h.cells
  have hn := h.hnx
  rw [etv] at r0
  generalize (tk E.ts s.nx).off = W at *
  generalize s.nx = n at *
  generalize E.ts.length = L at *
  generalize E.r = r at *
  clear h etv k0 k1 k2 k4
  go_enter Tryz.func167, Tryz.ntmps167
  go_wp2_with fail
  go_quiet (fail)
  go_wp2
  go_ret
  exact ⟨rfl, _, rfl⟩

/-- One diagnostic more. -/
theorem RS.failed {E : Env} {w W w2 : World} {dp : Nat} {s : St} (h : RS E 20 w dp s) (hb : Below w.heap.size w W) {dv : Value} (r3 : w.cell? ⟨E.r, 3, none⟩ = some dv) {v : Value} {e a : Nat}
    (ho : w2.ownsRow E.base DT 2 v (s.ds.length + 1) (dgV s.ds ++ [.int .i64 e, .int .i64 a])) (hg : W.grownBy w2 dv.ownBlock) :
    RS E 21 (w2.setCell ⟨E.r, 3, none⟩ v) dp ⟨s.nx, s.ds ++ [(e, a)]⟩ ∧ Kept E.base w (w2.setCell ⟨E.r, 3, none⟩ v) := by
  have hR := h.later hb
  obtain ⟨dv', h1, h2⟩ := hR.rd
  have h1w : w.heap[E.r]? = some (.cells (rdCells E s.nx dp dv') RT (0, 0)) := by rw [← hb.block _ h.lt]; exact h1
  have e1 : dv' = dv := by
    unfold World.cell? at r3; rw [h1w] at r3; simpa [rdCells] using r3
  subst e1
  have hne : some E.r ≠ dv'.ownBlock := by
    rcases h2.2 with ⟨rfl, _⟩ | ⟨g, cap, cur, rfl, _, hgg, _⟩
    · simp [Value.ownBlock]
    · intro e
      simp [Value.ownBlock] at e
      subst e
      rw [h1] at hgg
      cases hgg
  have hne2 : v.ownBlock ≠ some E.r := by
    rcases ho.2 with ⟨rfl, _⟩ | ⟨g, cap, cur, rfl, _, hgg, _⟩
    · simp [Value.ownBlock]
    · intro e
      simp [Value.ownBlock] at e
      subst e
      rw [hg.block _ hR.lt hne, h1] at hgg
      cases hgg
  have h3 : w2.heap[E.r]? = some (.cells (rdCells E s.nx dp dv') RT (0, 0)) := by rw [hg.block _ hR.lt hne]; exact h1
  have hw3 : W.grownBy w2 dv'.ownBlock := hg
  have K1 : Kept E.base W w2 := by
    refine ⟨⟨hg.os, hg.tape, hg.output, hg.size, fun k hk => hg.block k (by have := hR.baselt; omega) ?_⟩, fun b hbb hT => hg.block b hbb ?_⟩
    · intro e
      have := (h2.lt k e.symm).1
      omega
    · intro e
      rcases h2.2 with ⟨rfl, _⟩ | ⟨g, cap, cur, rfl, _, hgg, _⟩
      · simp [Value.ownBlock] at e
      · simp [Value.ownBlock] at e
        subst e
        exact (hT _ _ _ hgg).2 rfl
  have K2 : Kept E.base w2 (w2.setCell ⟨E.r, 3, none⟩ v) := by
    refine ⟨(Below.refl _ _).setCell h.base _, fun b _ hT => ?_⟩
    refine Below.heap_setCell w2 ⟨E.r, 3, none⟩ v b ?_
    rintro rfl
    exact (hT _ _ _ h3).1 rfl
  have K : Kept E.base w (w2.setCell ⟨E.r, 3, none⟩ v) := ((Kept.of hb h.baselt).trans K1).trans K2
  refine ⟨⟨h.good, h.fix.later K, h.base, h.hnx, h.hdp, ?_, v, ?_, ?_⟩, K⟩
  · have := h.few; simp; omega
  · simp [World.setCell, Array.getElem?_modify, h3, rdCells]
  · rw [List.length_append, dgV_append]
    refine ho.kept (row := some E.r) ⟨rfl, rfl, rfl, by simp [World.setCell], fun k _ hk => ?_⟩ (Or.inr hne2)
    refine Below.heap_setCell w2 ⟨E.r, 3, none⟩ v k ?_
    rintro rfl
    exact hk rfl
theorem below_same {w W : World} (h1 : W.os = w.os) (h2 : W.tape = w.tape) (h3 : W.output = w.output) (h4 : W.heap = w.heap) : Below w.heap.size w W := ⟨h1, h2, h3, by rw [h4]; exact Nat.le_refl _, fun k _ => by rw [h4]⟩
theorem below_new1 {w W : World} {o : Obj} (h1 : W.os = w.os) (h2 : W.tape = w.tape) (h3 : W.output = w.output) (h4 : W.heap = (w.alloc o).heap) : Below w.heap.size w W :=
  ((Below.refl _ _).alloc (Nat.le_refl _) o).trans ⟨h1, h2, h3, by rw [h4]; exact Nat.le_refl _, fun k _ => by rw [h4]⟩
theorem RS.far {E : Env} {w W w2 : World} {N dp : Nat} {s : St} (h : RS E N w dp s) (hb : Below w.heap.size w W) {dv : Value} (r3 : w.cell? ⟨E.r, 3, none⟩ = some dv) (hg : W.grownBy w2 dv.ownBlock) :
    w2.cell? ⟨E.r, 3, none⟩ = some dv ∧ w2.frozen? ⟨E.r, 3, none⟩ = false := by
  have hR := h.later hb
  obtain ⟨dv', h1, h2⟩ := hR.rd
  have h1w : w.heap[E.r]? = some (.cells (rdCells E s.nx dp dv') RT (0, 0)) := by rw [← hb.block _ h.lt]; exact h1
  have e1 : dv' = dv := by
    unfold World.cell? at r3; rw [h1w] at r3; simpa [rdCells] using r3
  subst e1
  have hne : some E.r ≠ dv'.ownBlock := by
    rcases h2.2 with ⟨rfl, _⟩ | ⟨g, cap, cur, rfl, _, hgg, _⟩
    · simp [Value.ownBlock]
    · intro e
      simp [Value.ownBlock] at e
      subst e
      rw [h1] at hgg
      cases hgg
  have h3 : w2.heap[E.r]? = some (.cells (rdCells E s.nx dp dv') RT (0, 0)) := by rw [hg.block _ hR.lt hne]; exact h1
  refine ⟨?_, ?_⟩
  · unfold World.cell?; rw [h3]; rfl
  · unfold World.frozen?; rw [h3]; simp
theorem r3new {w : World} {a : Addr} {v : Value} (h : w.cell? a = some v) (n : Nat) : ∀ o, ((w.drewN n).alloc o).cell? a = some v := fun o => cell_later (w := w) ((Drew.below ⟨n, rfl⟩).alloc (Nat.le_refl _) o) h
theorem dgV_length : ∀ a, (dgV a).length = a.length * 2
  | [] => rfl
  | t :: r => by simp [dgV, dgV_length r]; omega
theorem Tryz.infoDiag : (Tryz.prog.info? 56).map (fun i => (i.zero, i.size, i.bytes)) = some (some (.agg #[.int .i64 0, .int .i64 0]), 2, 16) := by kernel_rfl
/-- What a leaving is, at the function's end. -/
def Out (E : Env) (w : World) (l : Nat) (s' : St) (e : Ending) (w' : World) : Prop :=
  ∃ ch dp', e = .panicked ({ v := .iface LV (.int .i64 l), recovered := false } :: ch) ∧ Few l s' ch ∧ RS E 21 w' dp' s' ∧ Kept E.base w w'
theorem post_out {α : Type} {E : Env} {w w' : World} {dp : Nat} {R : World → α → Value → Prop} {x : Res α} {l : Nat} {s' : St} {e : Ending} (h : x = .out l s') (H : Out E w l s' e w') : PostR E w dp R x e w' := by
  subst h; exact H

def FailPost (E : Env) (w : World) (dv : Value) (x : Nat) (s : St) (e : Ending) (w' : World) : Prop :=
  (∃ (l : Nat) (W w2 : World) (v : Value), e = .panicked [{ v := .iface LV (.int .i64 l), recovered := false }] ∧ l = (if s.ds.length + 1 = 20 then 2 else 0) ∧ w' = w2.setCell ⟨E.r, 3, none⟩ v ∧ Below w.heap.size w W ∧ w2.ownsRow E.base DT 2 v (s.ds.length + 1) (dgV s.ds ++ [.int .i64 x, .int .i64 (tk E.ts s.nx).off]) ∧ W.grownBy w2 dv.ownBlock)
set_option maxRecDepth 100000 in
set_option maxHeartbeats 1600000 in
theorem fail_any {α : Type} (R : World → α → Value → Prop) (x : Nat) {E : Env} {w : World} {dp : Nat} {s : St} (h : RS E 20 w dp s) :
    Calls Tryz.prog 125 #[.pointer (some ⟨E.r, 0, none⟩), .int .i64 x] w (PostR E w dp R (fail E.ts x s)) := by
  obtain ⟨dv, r0, r1, r2, r3, _, _, _, _, hz, ho⟩ := h.cells
  obtain ⟨i0, hi, hz0, hz1, hz2⟩ := info_parts Tryz.infoDiag
  have hl := dgV_length s.ds
  have hf := h.few
  have hbs := h.baselt
  have hlt := h.lt
  have H : ∀ e w', FailPost E w dv x s e w' → PostR E w dp R (fail E.ts x s) e w' := by
    rintro e w' ⟨l, W, w2, v, rfl, hle, rfl, hb, ho2, hg⟩
    obtain ⟨k1, k2⟩ := h.failed hb r3 ho2 hg
    refine post_out rfl ⟨[], dp, by rw [hle], ⟨fun hl2 => ?_, by simp, ?_⟩, k1, k2⟩
    · simp only [List.length_append, List.length_singleton]
      split at hl2 <;> omega
    · split <;> omega
  refine Calls.mono ?_ H
  clear H
  go_enter Tryz.func125, Tryz.ntmps125
  go_wp2_with fail
  go_region_law (first
    | (go_simp; go_at_call 167; refine (here_any (h.later ?_)).mono ?_; exact Drew.below ⟨1, rfl⟩; rintro e w1 ⟨rfl, n1, rfl⟩; have q0 := r3new r3 (1 + n1))
    | (refine step_append_lies _ rfl (.tmp 8) (.tmp 13) 28 rfl E.base DT i0 _ 2 16 Tryz.underlying28 hi hz0 hz1 hz2 rfl (by decide) dv s.ds.length (dgV s.ds) (by simp [Act.eval]) (World.ownsRow.alloc (ho.kept (only_of_below (below_same rfl rfl rfl rfl) none) (by cases dv.ownBlock <;> simp)) _) ⟨w.heap.size, 0, none⟩ 1 1 [.int .i64 x, .int .i64 (tk E.ts s.nx).off] (by simp [Act.eval]) rfl (by exact World.news_of_block (heap_alloc_new _ _)) (by intro u hu; simp at hu; rcases hu with rfl | rfl <;> rfl) (by decide) (by unfold maxLen; omega) (by omega) (by simp; omega) _ rfl ?_; intro g cap w2 o2 g2 p2 z2; have q := h.far (hg := g2) (r3 := r3) (by exact below_new1 rfl rfl rfl rfl); obtain ⟨q1, q2⟩ := q))
  all_goals
    have hB := below_new1 (w := w) (W := (w.drewN (1 + n1)).alloc (Obj.cells #[Value.int IntKind.i64 ↑x, Value.int IntKind.i64 ↑(tk E.ts s.nx).off] DT)) rfl rfl rfl rfl
    clear q0
    by_cases h20 : s.ds.length + 1 = 20
    · have hb : ((s.ds.length : Int) + 1 == 20) = true := by simp; omega
      have HH := Lib.hid h20
      clear h20
      go_wp2
      exact ⟨rfl, 2, _, w2, _, rfl, by rw [if_pos HH.out], rfl, hB, o2, g2⟩
    · have hb : ((s.ds.length : Int) + 1 == 20) = false := by simp; omega
      have HH := Lib.hid h20
      clear h20
      go_wp2
      exact ⟨rfl, 0, _, w2, _, rfl, by rw [if_neg HH.out], rfl, hB, o2, g2⟩
end Go.Proofs.YtmkehecapjdfdaaGreatDoor

/- A token is taken. -/
namespace Go.Proofs.YtmkehecapjdfdaaGreatDoor
open Go.RowKit

theorem bcellP {W w1 : World} (hb : Below W.heap.size W w1) : (∀ b o, b < W.heap.size → w1.cell? ⟨b, o, none⟩ = W.cell? ⟨b, o, none⟩) ∧ (∀ b o, b < W.heap.size → w1.frozen? ⟨b, o, none⟩ = W.frozen? ⟨b, o, none⟩) :=
  ⟨fun b o h => hb.cell (p := ⟨b, o, none⟩) h, fun b o h => hb.frozen (p := ⟨b, o, none⟩) h⟩
/-- The reader's block has been written, and new blocks; the rest is as it was. -/
structure Upd (W X : World) (r : Nat) (cs : Array Value) : Prop where
  lt : r < W.heap.size
  grown : W.grownBy X (some r)
  blk : X.heap[r]? = some (.cells cs RT (0, 0))
section
variable {W X : World} {r : Nat} {cs : Array Value}
theorem Upd.start (h : W.heap[r]? = some (.cells cs RT (0, 0))) : Upd W W r cs := ⟨(Array.getElem?_eq_some_iff.1 h).1, ⟨rfl, rfl, rfl, Nat.le_refl _, fun _ _ _ => rfl⟩, h⟩
theorem Upd.drew (h : Upd W X r cs) : Upd W X.drew r cs := ⟨h.lt, ⟨h.grown.os, h.grown.tape, h.grown.output, h.grown.size, h.grown.block⟩, h.blk⟩
theorem Upd.later {Y : World} (h : Upd W X r cs) (hb : Below X.heap.size X Y) : Upd W Y r cs := by
  have hl := h.lt
  have hs := h.grown.size
  refine ⟨hl, ⟨hb.os.trans h.grown.os, hb.tape.trans h.grown.tape, hb.output.trans h.grown.output, Nat.le_trans hs hb.size, fun k hk hne => ?_⟩, ?_⟩
  · rw [hb.block k (by omega)]; exact h.grown.block k hk hne
  · rw [hb.block r (by omega)]; exact h.blk
theorem Upd.alloc (h : Upd W X r cs) (o : Obj) : Upd W (X.alloc o) r cs := h.later ((Below.refl _ _).alloc (Nat.le_refl _) o)
theorem Upd.far (h : Upd W X r cs) {b i : Nat} (hb : W.heap.size ≤ b) (v : Value) : Upd W (X.setCell ⟨b, i, none⟩ v) r cs := by
  have hl := h.lt
  refine ⟨hl, ⟨h.grown.os, h.grown.tape, h.grown.output, by have := h.grown.size; simp [World.setCell]; omega, fun k hk hne => ?_⟩, ?_⟩
  · rw [Below.heap_setCell X ⟨b, i, none⟩ v k (by simp; omega)]; exact h.grown.block k hk hne
  · rw [Below.heap_setCell X ⟨b, i, none⟩ v r (by simp; omega)]; exact h.blk
theorem Upd.set (h : Upd W X r cs) (i : Nat) (v : Value) : Upd W (X.setCell ⟨r, i, none⟩ v) r (cs.setIfInBounds i v) := by
  refine ⟨h.lt, ⟨h.grown.os, h.grown.tape, h.grown.output, by have := h.grown.size; simp [World.setCell]; omega, fun k hk hne => ?_⟩, ?_⟩
  · rw [Below.heap_setCell X ⟨r, i, none⟩ v k (fun e => hne (by rw [e]))]; exact h.grown.block k hk hne
  · have hb := h.blk
    simp [World.setCell, Array.getElem?_modify, hb]
end
theorem RS.upd {E : Env} {W X : World} {dp nx' dp' : Nat} {s : St} {dv : Value} {cs : Array Value} (h : RS E 20 W dp s) (hc : W.cell? ⟨E.r, 3, none⟩ = some dv) (hn : nx' < E.ts.length) (hd : dp' ≤ 10)
    (hu : Upd W X E.r cs) (he : cs = rdCells E nx' dp' dv) : RS E 20 X dp' ⟨nx', s.ds⟩ ∧ Kept E.base W X :=
  h.set nx' dp' hn hd (fun dv' h' => by
    have e : dv' = dv := by unfold World.cell? at hc; rw [h'] at hc; simpa [rdCells] using hc
    rw [e, ← he]; exact hu.blk) hu.grown
theorem RS.blk {E : Env} {N : Nat} {W : World} {dp : Nat} {s : St} {dv : Value} (h : RS E N W dp s) (hc : W.cell? ⟨E.r, 3, none⟩ = some dv) : W.heap[E.r]? = some (.cells (rdCells E s.nx dp dv) RT (0, 0)) := by
  obtain ⟨dv', h', _⟩ := h.rd
  have e : dv' = dv := by unfold World.cell? at hc; rw [h'] at hc; simpa [rdCells] using hc
  rw [← e]; exact h'

set_option maxRecDepth 100000 in
set_option maxHeartbeats 1600000 in
theorem take_no {w : Str} (R : World → Tok → Value → Prop) {E : Env} {W : World} {dp : Nat} {s : St} (h : RS E 20 W dp s) (hw : wd E.ts s.nx ≠ w) :
    Calls Tryz.prog 64 #[.pointer (some ⟨E.r, 0, none⟩), .string ⟨w.toArray⟩] W (PostR E W dp R (take E.ts w s)) := by
  have e0 : take E.ts w s = fail E.ts 10 s := by unfold take; rw [if_neg hw]
  rw [e0]
  have b1 : (wd E.ts s.nx == w) = false := by simpa using hw
  clear hw e0
  go_enter Tryz.func64, Tryz.ntmps64
  go_wp2_with fail
  refine (word_any (h.later ((Below.refl _ _).alloc (Nat.le_refl _) _))).mono ?_
  rintro e w1 ⟨rfl, n1, rfl⟩
  go_wp2_with fail
  refine (fail_any R 10 ((h.later ((Below.refl _ _).alloc (Nat.le_refl _) _)).later (Drew.below ⟨n1, rfl⟩))).mono ?_
  rintro e w2 ⟨ch, dp', rfl, H1, H2, H3⟩
  exact ⟨rfl, ch, dp', rfl, H1, H2, (Kept.of ((Below.refl _ _).alloc (Nat.le_refl _) _ |>.trans ((Drew.below ⟨n1, rfl⟩).mono (by simp))) h.baselt).trans H3⟩
set_option maxRecDepth 100000 in
set_option maxHeartbeats 1600000 in
theorem take_yes {w : Str} {E : Env} {W : World} {dp : Nat} {s : St} (h : RS E 20 W dp s) (hw : wd E.ts s.nx = w) (hn : s.nx + 1 < E.ts.length) :
    Calls Tryz.prog 64 #[.pointer (some ⟨E.r, 0, none⟩), .string ⟨w.toArray⟩] W (PostR E W dp RTok (take E.ts w s)) := by
  have e0 : take E.ts w s = .ok (tk E.ts s.nx) ⟨s.nx + 1, s.ds⟩ := by unfold take; rw [if_pos hw]
  rw [e0]
  have b1 : (wd E.ts s.nx == w) = true := by simpa using hw
  clear hw e0
  go_enter Tryz.func64, Tryz.ntmps64
  go_wp2_with fail
  refine (word_any (h.later ((Below.refl _ _).alloc (Nat.le_refl _) _))).mono ?_
  rintro e w1 ⟨rfl, n1, rfl⟩
  obtain ⟨W1, eW⟩ : ∃ W1, (W.alloc (Obj.cells #[Value.int IntKind.i64 0, Value.string { data := #[] }, Value.int IntKind.u64 0, Value.int IntKind.i64 0] 47)).drewN n1 = W1 := ⟨_, rfl⟩
  have hB : Below W.heap.size W W1 := by rw [← eW]; exact (Below.refl _ _).alloc (Nat.le_refl _) _ |>.trans ((Drew.below ⟨n1, rfl⟩).mono (by simp))
  have hs1 : W1.heap.size = W.heap.size + 1 := by rw [← eW]; simp
  have c0 : W1.cell? ⟨W.heap.size, 0, none⟩ = some (.int .i64 0) := by rw [← eW]; simp [go_sem]
  have c1 : W1.cell? ⟨W.heap.size, 1, none⟩ = some (.string { data := #[] }) := by rw [← eW]; simp [go_sem]
  have c2 : W1.cell? ⟨W.heap.size, 2, none⟩ = some (.int .u64 0) := by rw [← eW]; simp [go_sem]
  have c3 : W1.cell? ⟨W.heap.size, 3, none⟩ = some (.int .i64 0) := by rw [← eW]; simp [go_sem]
  have f0 : ∀ i, W1.frozen? ⟨W.heap.size, i, none⟩ = false := by intro i; rw [← eW]; simp [go_sem]
  have h1 := h.later hB
  rw [eW]
  clear eW
  obtain ⟨tb, cap, etv, hcap, k0, k1, k2, k3, k4⟩ := h1.fix.tok s.nx h.hnx
  obtain ⟨dv, r0, r1, r2, r3, r4, r5, r6, r7, rf, _⟩ := h1.cells
  have hnx := h.hnx
  have hf := h.good.few
  rw [etv] at r0
  have z1 := World.new_ne W1 _ k0
  have z2 := World.new_ne W1 _ r0
  go_wp2_with fail
  go_region_held3 (fun w' => w'.cell? ⟨E.r, 0, none⟩ = some (.slice (some ⟨tb, 0, none⟩) E.ts.length cap) ∧ w'.cell? ⟨E.r, 1, none⟩ = some (.int .i64 s.nx) ∧ w'.cell? ⟨tb, s.nx * 5, none⟩ = some (.int .i64 (tk E.ts s.nx).kind) ∧ w'.cell? ⟨tb, s.nx * 5 + 1, none⟩ = some (.string ⟨(tk E.ts s.nx).text.toArray⟩) ∧ w'.cell? ⟨tb, s.nx * 5 + 2, none⟩ = some (.int .u64 (tk E.ts s.nx).num) ∧ w'.cell? ⟨tb, s.nx * 5 + 3, none⟩ = some (.int .i64 (tk E.ts s.nx).off)) (go_keep) (fail)
  obtain ⟨W2, eW2⟩ : ∃ W2, (W1.alloc (Obj.cells #[Value.int IntKind.i64 (tk E.ts s.nx).kind, Value.string { data := (tk E.ts s.nx).text.toArray }, Value.int IntKind.u64 (tk E.ts s.nx).num, Value.int IntKind.i64 (tk E.ts s.nx).off] 47)).drew = W2 := ⟨_, rfl⟩
  have hB2 : Below W1.heap.size W1 W2 := by rw [← eW2]; exact (Below.refl _ _).alloc (Nat.le_refl _) _ |>.trans ((Drew.below ⟨1, rfl⟩).mono (by simp))
  have d0 : W2.cell? ⟨W.heap.size + 1, 0, none⟩ = some (.int .i64 (tk E.ts s.nx).kind) := by rw [← eW2, ← hs1]; simp [go_sem]
  have d1 : W2.cell? ⟨W.heap.size + 1, 1, none⟩ = some (.string { data := (tk E.ts s.nx).text.toArray }) := by rw [← eW2, ← hs1]; simp [go_sem]
  have d2 : W2.cell? ⟨W.heap.size + 1, 2, none⟩ = some (.int .u64 (tk E.ts s.nx).num) := by rw [← eW2, ← hs1]; simp [go_sem]
  have d3 : W2.cell? ⟨W.heap.size + 1, 3, none⟩ = some (.int .i64 (tk E.ts s.nx).off) := by rw [← eW2, ← hs1]; simp [go_sem]
  rw [eW2]
  clear eW2
  obtain ⟨dvw, _, _, _, rw3, _⟩ := h.cells
  have U := ((Upd.start (h.blk rw3)).later hB).later hB2
  have hr := h.lt
  obtain ⟨hc, hfr⟩ := bcellP hB2
  have e0 := (hc W.heap.size 0 (by omega)).trans c0
  have e1 := (hc W.heap.size 1 (by omega)).trans c1
  have e2 := (hc W.heap.size 2 (by omega)).trans c2
  have e3 := (hc W.heap.size 3 (by omega)).trans c3
  have q1 := (hc E.r 1 (by omega)).trans r1
  have qf := (hfr E.r 1 (by omega)).trans (rf 1)
  have g0 := fun i => (hfr W.heap.size i (by omega)).trans (f0 i)
  have w1 : IntKind.i64.wrap ((s.nx : Int) + 1) = (s.nx : Int) + 1 := IntWalk.i64_in _ (by omega)
  have n1 : ¬ E.r = W.heap.size := by omega
  have n2 : ¬ E.r = W.heap.size + 1 := by omega
  have n3 : ¬ W.heap.size = E.r := by omega
  have n4 : ¬ W.heap.size + 1 = E.r := by omega
  clear hc hfr c0 c1 c2 c3 r0 r1 r2 r3 r4 r5 r6 r7 rf k0 k1 k2 k3 k4 z1 z2 f0 hs1
  go_wp2_with fail
  have U2 := ((((U.set 1 (.int .i64 ((s.nx : Int) + 1))).far (b := W.heap.size) (i := 0) (Nat.le_refl _) (.int .i64 (tk E.ts s.nx).kind)).far (b := W.heap.size) (i := 1) (Nat.le_refl _) (.string { data := (tk E.ts s.nx).text.toArray })).far (b := W.heap.size) (i := 2) (Nat.le_refl _) (.int .u64 (tk E.ts s.nx).num)).far (b := W.heap.size) (i := 3) (Nat.le_refl _) (.int .i64 (tk E.ts s.nx).off)
  obtain ⟨k1, k2⟩ := h.upd rw3 hn h.hdp U2 rfl
  exact bodyPost_ret (v := .agg #[.int .i64 (tk E.ts s.nx).kind, .string ⟨(tk E.ts s.nx).text.toArray⟩, .int .u64 (tk E.ts s.nx).num, .int .i64 (tk E.ts s.nx).off]) (by simp [results, Tryz.results64, go_sem, e0, e1, e2, e3]) rfl ⟨_, rfl, rfl, k1, k2⟩
theorem take_any (w : Str) (hE : w ≠ wEnd) {E : Env} {W : World} {dp : Nat} {s : St} (h : RS E 20 W dp s) :
    Calls Tryz.prog 64 #[.pointer (some ⟨E.r, 0, none⟩), .string ⟨w.toArray⟩] W (PostR E W dp RTok (take E.ts w s)) := by
  by_cases hw : wd E.ts s.nx = w
  · exact take_yes h hw (h.good.last _ h.hnx (by rw [hw]; exact hE))
  · exact take_no RTok h hw
end Go.Proofs.YtmkehecapjdfdaaGreatDoor

/- What the walks of the reader's methods carry. -/
namespace Go.Proofs.YtmkehecapjdfdaaGreatDoor
open Go.RowKit

/-- A block of the call's own that is known whole. -/
def Box (w : World) (b : Nat) (T : TypeId) (cs : Array Value) : Prop := w.heap[b]? = some (.cells cs T (0, 0))
section
variable {w w' : World} {b : Nat} {T : TypeId} {cs : Array Value}
theorem Box.lt (h : Box w b T cs) : b < w.heap.size := (Array.getElem?_eq_some_iff.1 h).1
theorem Box.cell (h : Box w b T cs) (i : Nat) : w.cell? ⟨b, i, none⟩ = cs[i]? := cell_of_row w b i cs T (0, 0) h
theorem Box.free (h : Box w b T cs) (i : Nat) : w.frozen? ⟨b, i, none⟩ = false := by unfold World.frozen?; rw [h]; simp
theorem Box.new (w : World) (T : TypeId) (cs : Array Value) : Box (w.alloc (.cells cs T)) w.heap.size T cs := heap_alloc_new w _
theorem Box.below (h : Box w b T cs) (hb : Below w.heap.size w w') : Box w' b T cs := (hb.block b h.lt).trans h
theorem Box.alloc (h : Box w b T cs) (o : Obj) : Box (w.alloc o) b T cs := h.below ((Below.refl _ _).alloc (Nat.le_refl _) o)
theorem Box.drewN (h : Box w b T cs) (n : Nat) : Box (w.drewN n) b T cs := h
theorem Box.set (h : Box w b T cs) (i : Nat) (v : Value) : Box (w.setCell ⟨b, i, none⟩ v) b T (cs.setIfInBounds i v) := by
  unfold Box at *
  simp [World.setCell, Array.getElem?_modify, h]
theorem Box.far (h : Box w b T cs) {b' i : Nat} (hne : b ≠ b') (v : Value) : Box (w.setCell ⟨b', i, none⟩ v) b T cs := (Below.heap_setCell w ⟨b', i, none⟩ v b hne).trans h
theorem Box.kept {B : Nat} (h : Box w b T cs) (k : Kept B w w') (hT : T ≠ RT ∧ T ≠ DT) : Box w' b T cs := k.block h (fun _ _ _ e => by cases e; exact hT)
theorem Box.ne {b' : Nat} {T' : TypeId} {cs' : Array Value} (h : Box w b T cs) (h' : Box w b' T' cs') (hT : T ≠ T') : b ≠ b' := by
  rintro rfl
  unfold Box at h h'
  rw [h] at h'
  injection h' with h'
  injection h' with _ e
  exact hT e
end

/-- Only rows and boxes of nodes have been written. -/
structure NTc (w X : World) : Prop where
  os : X.os = w.os
  tape : X.tape = w.tape
  output : X.output = w.output
  size : w.heap.size ≤ X.heap.size
  block : ∀ k, k < w.heap.size → (∀ c, w.heap[k]? ≠ some (.cells c NT (0, 0))) → X.heap[k]? = w.heap[k]?
theorem NTc.refl (w : World) : NTc w w := ⟨rfl, rfl, rfl, Nat.le_refl _, fun _ _ _ => rfl⟩
theorem NTc.trans {a b c : World} (h : NTc a b) (k : NTc b c) : NTc a c :=
  ⟨k.os.trans h.os, k.tape.trans h.tape, k.output.trans h.output, Nat.le_trans h.size k.size, fun i hi hn => by
    have e := h.block i hi hn
    rw [← e]
    exact k.block i (Nat.lt_of_lt_of_le hi h.size) (fun c => by rw [e]; exact hn c)⟩
theorem NTc.of {w X : World} (h : Below w.heap.size w X) : NTc w X := ⟨h.os, h.tape, h.output, h.size, fun k hk _ => h.block k hk⟩
theorem NTc.set {w : World} {b : Nat} {cs : Array Value} (h : Box w b NT cs) (i : Nat) (v : Value) : NTc w (w.setCell ⟨b, i, none⟩ v) :=
  ⟨rfl, rfl, rfl, by simp [World.setCell], fun k _ hn => Below.heap_setCell w ⟨b, i, none⟩ v k (by rintro rfl; exact hn _ h)⟩
theorem NTc.own {w X : World} {B T sz n : Nat} {v : Value} {xs : List Value} (h : NTc w X) (ho : w.ownsRow B T sz v n xs) (hT : T ≠ NT) : X.ownsRow B T sz v n xs := by
  refine ⟨ho.1, ?_⟩
  rcases ho.2 with hn | ⟨g, cap, cur, e, hb, hg, rest⟩
  · exact .inl hn
  · exact .inr ⟨g, cap, cur, e, hb, (h.block g (Array.getElem?_eq_some_iff.1 hg).1 (fun c hc => by rw [hg] at hc; cases hc; exact hT rfl)).trans hg, rest⟩
theorem NTc.obj {w X : World} (h : NTc w X) {b : Nat} {o : Obj} (hb : w.heap[b]? = some o) (ho : ∀ c, o ≠ .cells c NT (0, 0)) : X.heap[b]? = some o :=
  (h.block b (Array.getElem?_eq_some_iff.1 hb).1 (fun c hc => by rw [hb] at hc; exact ho c (Option.some.inj hc))).trans hb
theorem RS.ntc {E : Env} {N : Nat} {w X : World} {dp : Nat} {s : St} (h : RS E N w dp s) (k : NTc w X) : RS E N X dp s := by
  obtain ⟨dv, h1, h2⟩ := h.rd
  refine ⟨h.good, ⟨k.own h.fix.toks (by decide), ?_, ?_, ?_, ?_⟩, h.base, h.hnx, h.hdp, h.few, dv, ?_, k.own h2 (by decide)⟩
  · exact k.obj h.fix.mi (fun c e => by cases e)
  · exact k.obj h.fix.ms (fun c e => by cases e)
  · exact k.obj h.fix.me (fun c e => by cases e)
  · exact k.obj h.fix.mg (fun c e => by cases e)
  · exact k.obj h1 (fun c e => by cases e)

/-- The call has come to a world: the reader stands there, and what was before the call is kept. -/
structure At (E : Env) (W X : World) (dp : Nat) (s : St) : Prop where
  rs : RS E 20 X dp s
  kept : Kept E.base W X
  bs : E.base ≤ W.heap.size
section
variable {E : Env} {W X : World} {dp : Nat} {s : St}
theorem At.start (h : RS E 20 W dp s) : At E W W dp s := ⟨h, Kept.refl _ _, h.baselt⟩
theorem At.later {Y : World} (h : At E W X dp s) (hb : Below X.heap.size X Y) : At E W Y dp s :=
  ⟨h.rs.later hb, h.kept.trans (Kept.of hb (Nat.le_trans h.bs h.kept.size)), h.bs⟩
theorem At.alloc (h : At E W X dp s) (o : Obj) : At E W (X.alloc o) dp s := h.later ((Below.refl _ _).alloc (Nat.le_refl _) o)
theorem At.drewN (h : At E W X dp s) (n : Nat) : At E W (X.drewN n) dp s := h.later (Drew.below ⟨n, rfl⟩)
theorem At.drew (h : At E W X dp s) : At E W X.drew dp s := h.drewN 1
theorem Kept.then_ {B : Nat} {w X : World} (h : Kept B W w) (hB : B ≤ W.heap.size) (hb : Below W.heap.size w X) : Kept B W X :=
  ⟨h.below.trans (hb.mono hB), fun b hlt hT => by rw [hb.block b hlt]; exact h.keep b hlt hT⟩
theorem At.ntc {Y : World} (h : At E W X dp s) (k : NTc X Y) (hb : Below W.heap.size X Y) : At E W Y dp s := ⟨h.rs.ntc k, h.kept.then_ h.bs hb, h.bs⟩
theorem At.set (h : At E W X dp s) {b : Nat} {cs : Array Value} (hb : Box X b NT cs) (hw : W.heap.size ≤ b) (i : Nat) (v : Value) : At E W (X.setCell ⟨b, i, none⟩ v) dp s :=
  h.ntc (NTc.set hb i v) ((Below.refl _ _).setCell hw _)
theorem At.call {Y : World} {dp' : Nat} {s' : St} (h : At E W X dp s) (hr : RS E 20 Y dp' s') (hk : Kept E.base X Y) : At E W Y dp' s' := ⟨hr, h.kept.trans hk, h.bs⟩
theorem At.size (h : At E W X dp s) : W.heap.size ≤ X.heap.size := h.kept.size
end

/-- A leaving goes through. -/
def Up (E : Env) (X : World) (l : Nat) (s' : St) (ch : List PanicEntry) (Y : World) : Prop :=
  ∃ c dp', ch = { v := .iface LV (.int .i64 l), recovered := false } :: c ∧ Few l s' c ∧ RS E 21 Y dp' s' ∧ Kept E.base X Y
theorem PostR.cases {α : Type} {E : Env} {X : World} {dp : Nat} {R : World → α → Value → Prop} {x : Res α} {e : Ending} {Y : World} (h : PostR E X dp R x e Y) :
    (∃ a s' v, x = .ok a s' ∧ e = .returned v ∧ R Y a v ∧ RS E 20 Y dp s' ∧ Kept E.base X Y) ∨ (∃ l s' ch, x = .out l s' ∧ e = .panicked ch ∧ Up E X l s' ch Y) := by
  cases x with
  | ok a s' => obtain ⟨v, h1, h2, h3, h4⟩ := h; exact Or.inl ⟨a, s', v, rfl, h1, h2, h3, h4⟩
  | out l s' => obtain ⟨c, dp', h1, h2, h3, h4⟩ := h; exact Or.inr ⟨l, s', _, rfl, h1, c, dp', rfl, h2, h3, h4⟩
theorem At.out {E : Env} {W X Y : World} {dp : Nat} {s : St} {α β : Type} {R : World → α → Value → Prop} {M : Res α} {m : PM β} {k : β → PM α} {l : Nat} {s' : St} {ch : List PanicEntry}
    (h : At E W X dp s) (HQ : Hid (M = bnd m k s)) (hm : m s = .out l s') (H : Up E X l s' ch Y) : PostR E W dp R M (.panicked ch) Y := by
  obtain ⟨c, dp', rfl, h1, h2, h3⟩ := H
  rw [HQ.out, bnd_out hm]
  exact ⟨c, dp', rfl, h1, h2, h.kept.trans h3⟩
theorem At.outs {E : Env} {W X Y : World} {dp dp2 : Nat} {s : St} {α : Type} {R : World → α → Value → Prop} {M : Res α} {l : Nat} {s' : St} {ch : List PanicEntry}
    (h : At E W X dp s) (HQ : Hid (M = .out l s')) (H : Up E X l s' ch Y) : PostR E W dp2 R M (.panicked ch) Y := by
  obtain ⟨c, dp', rfl, h1, h2, h3⟩ := H
  rw [HQ.out]
  exact ⟨c, dp', rfl, h1, h2, h.kept.trans h3⟩
theorem hq_ok {α β : Type} {M : Res α} {m : PM β} {k : β → PM α} {s s' : St} {a : β} (HQ : Hid (M = bnd m k s)) (hm : m s = .ok a s') : Hid (M = k a s') := Lib.hid (by rw [HQ.out, bnd_ok hm])
theorem At.ok {E : Env} {W X : World} {dp : Nat} {s : St} {α : Type} {R : World → α → Value → Prop} {M : Res α} {a : α} {v : Value}
    (h : At E W X dp s) (HQ : Hid (M = .ok a s)) (hv : R X a v) : PostR E W dp R M (.returned v) X := by
  rw [HQ.out]
  exact ⟨v, rfl, hv, h.rs, h.kept⟩

/-- A node is stored whole. -/
abbrev fill7 (w : World) (b : Nat) (a0 a1 a2 a3 a4 a5 a6 : Value) : World :=
  ((((((w.setCell ⟨b, 0, none⟩ a0).setCell ⟨b, 1, none⟩ a1).setCell ⟨b, 2, none⟩ a2).setCell ⟨b, 3, none⟩ a3).setCell ⟨b, 4, none⟩ a4).setCell ⟨b, 5, none⟩ a5).setCell ⟨b, 6, none⟩ a6
theorem At.fill {E : Env} {W X : World} {dp : Nat} {s : St} (h : At E W X dp s) {b : Nat} {cs : Array Value} (hb : Box X b NT cs) (hw : W.heap.size ≤ b) (a0 a1 a2 a3 a4 a5 a6 : Value) : At E W (fill7 X b a0 a1 a2 a3 a4 a5 a6) dp s := by
  refine ((((((h.set hb hw 0 a0).set (hb.set 0 a0) hw 1 a1).set ((hb.set 0 a0).set 1 a1) hw 2 a2).set (((hb.set 0 a0).set 1 a1).set 2 a2) hw 3 a3).set ((((hb.set 0 a0).set 1 a1).set 2 a2).set 3 a3) hw 4 a4).set (((((hb.set 0 a0).set 1 a1).set 2 a2).set 3 a3).set 4 a4) hw 5 a5).set ((((((hb.set 0 a0).set 1 a1).set 2 a2).set 3 a3).set 4 a4).set 5 a5) hw 6 a6
/-- Trees whose rows lie beyond a block don't see a store to it. -/
theorem nodeAt_far {w : World} {b i M : Nat} (hb : b < M) (v : Value) {t : T} {kv : Value} (h : nodeAt w (fun g => M ≤ g) t kv) : nodeAt (w.setCell ⟨b, i, none⟩ v) (fun g => M ≤ g) t kv :=
  nodeAt_imp (fun _ h => h) (fun g c hg hc => (Below.heap_setCell w ⟨b, i, none⟩ v g (by simp; omega)).trans hc) t kv h
theorem nodeAt_fill {w : World} {b M : Nat} (hb : b < M) (a0 a1 a2 a3 a4 a5 a6 : Value) {t : T} {kv : Value} (h : nodeAt w (fun g => M ≤ g) t kv) : nodeAt (fill7 w b a0 a1 a2 a3 a4 a5 a6) (fun g => M ≤ g) t kv :=
  nodeAt_far hb _ (nodeAt_far hb _ (nodeAt_far hb _ (nodeAt_far hb _ (nodeAt_far hb _ (nodeAt_far hb _ (nodeAt_far hb _ h))))))
theorem nodeAt_le {w : World} {M M' : Nat} (hM : M' ≤ M) {t : T} {kv : Value} (h : nodeAt w (fun g => M ≤ g) t kv) : nodeAt w (fun g => M' ≤ g) t kv := nodeAt_mono (fun _ hg => Nat.le_trans hM hg) h

def RBeg (kind : Nat) (_ : World) (t : T) (v : Value) : Prop := ∃ a : Nat, t = .mk kind [] [] 0 0 a [] ∧ v = .agg #[.int .i64 kind, .string ⟨#[]⟩, .string ⟨#[]⟩, .int .u64 0, .int .i64 0, .int .i64 a, .slice none 0 0]
def RNodeX (B : Nat) (w : World) (t : T) (v : Value) : Prop := ∃ A c, v = .agg #[.int .i64 t.kind, .string ⟨t.name.toArray⟩, .string ⟨t.part.toArray⟩, .int .u64 t.num, .int .i64 t.wid, .int .i64 t.at_, .slice A t.kids.length c] ∧ nodeAt w (fun g => B ≤ g) t (.slice A t.kids.length c)

theorem tokF1 (a b c d : Value) (w : World) : (Instr.field 47 (.agg #[a, b, c, d]) 1).run Tryz.prog w = .ok b w := by kernel_rfl
theorem tokF2 (a b c d : Value) (w : World) : (Instr.field 47 (.agg #[a, b, c, d]) 2).run Tryz.prog w = .ok c w := by kernel_rfl
theorem tokF3 (a b c d : Value) (w : World) : (Instr.field 47 (.agg #[a, b, c, d]) 3).run Tryz.prog w = .ok d w := by kernel_rfl

set_option maxRecDepth 100000 in
set_option maxHeartbeats 1600000 in
theorem name_any {E : Env} {W : World} {dp : Nat} {s : St} (h : RS E 20 W dp s) :
    Calls Tryz.prog 154 #[.pointer (some ⟨E.r, 0, none⟩)] W (PostR E W dp RStr (name E.ts s)) := by
  have A0 := At.start h
  have HQ : Hid (name E.ts s = bnd (take E.ts wName) (fun t => ret t.text) s) := Lib.hid rfl
  generalize name E.ts s = M at *
  have hfd := tokF1
  go_enter Tryz.func154, Tryz.ntmps154
  go_wp2_with fail
  refine (take_any wName (by decide) h).mono ?_
  intro e w1 H
  rcases H.cases with ⟨t, s1, v, hm, rfl, rfl, R1, K1⟩ | ⟨l, s1, ch, hm, rfl, H1⟩
  · have A1 := A0.call R1 K1
    have HQ1 := hq_ok HQ hm
    clear HQ hm
    go_wp2
    go_ret
    exact A1.ok HQ1 rfl
  · exact ⟨rfl, A0.out HQ hm H1⟩

set_option maxRecDepth 100000 in
set_option maxHeartbeats 1600000 in
theorem width_any {E : Env} {W : World} {dp : Nat} {s : St} (h : RS E 20 W dp s) :
    Calls Tryz.prog 156 #[.pointer (some ⟨E.r, 0, none⟩)] W (PostR E W dp (RNat .i64) (width E.ts s)) := by
  have A0 := At.start h
  have HQ : Hid (width E.ts s = bnd (take E.ts wType) (fun t => ret t.num) s) := Lib.hid rfl
  generalize width E.ts s = M at *
  have HT : Hid (∀ t s1, take E.ts wType s = .ok t s1 → t.num ≤ 64) := Lib.hid (fun t s1 h1 => by
    unfold take at h1
    by_cases hw : wd E.ts s.nx = wType
    · rw [if_pos hw] at h1
      cases h1
      exact h.good.typ _ hw
    · rw [if_neg hw] at h1
      cases h1)
  have hfd := tokF2
  go_enter Tryz.func156, Tryz.ntmps156
  go_wp2_with fail
  refine (take_any wType (by decide) h).mono ?_
  intro e w1 H
  rcases H.cases with ⟨t, s1, v, hm, rfl, rfl, R1, K1⟩ | ⟨l, s1, ch, hm, rfl, H1⟩
  · have A1 := A0.call R1 K1
    have HQ1 := hq_ok HQ hm
    have ht := HT.out t s1 hm
    have hwr : IntKind.i64.wrap (t.num : Int) = (t.num : Int) := IntWalk.i64_in _ (by omega)
    clear HQ hm HT
    go_wp2
    go_ret
    exact A1.ok HQ1 rfl
  · exact ⟨rfl, A0.out HQ hm H1⟩

set_option maxRecDepth 100000 in
set_option maxHeartbeats 1600000 in
theorem begin_any (kind : Nat) (wo : Str) (hwo : wo ≠ wEnd) {E : Env} {W : World} {dp : Nat} {s : St} (h : RS E 20 W dp s) :
    Calls Tryz.prog 153 #[.pointer (some ⟨E.r, 0, none⟩), .int .i64 kind, .string ⟨wo.toArray⟩] W (PostR E W dp (RBeg kind) (begin_ E.ts kind wo s)) := by
  have A0 := (At.start h).alloc (.cells #[.int .i64 0, .string ⟨#[]⟩, .string ⟨#[]⟩, .int .u64 0, .int .i64 0, .int .i64 0, .slice none 0 0] NT)
  have HQ : Hid (begin_ E.ts kind wo s = bnd (take E.ts wo) (fun t => ret (.mk kind [] [] 0 0 t.off [])) s) := Lib.hid rfl
  have X0 := Box.new W NT #[.int .i64 0, .string ⟨#[]⟩, .string ⟨#[]⟩, .int .u64 0, .int .i64 0, .int .i64 0, .slice none 0 0]
  generalize begin_ E.ts kind wo s = M at *
  have hfd := tokF3
  go_enter Tryz.func153, Tryz.ntmps153
  go_wp2_with fail
  refine (take_any wo hwo A0.rs).mono ?_
  intro e w1 H
  rcases H.cases with ⟨t, s1, v, hm, rfl, rfl, R1, K1⟩ | ⟨l, s1, ch, hm, rfl, H1⟩
  · have A1 := A0.call R1 K1
    have HQ1 := hq_ok HQ hm
    have X1 := X0.kept K1 NT_ne
    have c0 : w1.cell? ⟨W.heap.size, 0, none⟩ = some (.int .i64 0) := X1.cell 0
    have c1 : w1.cell? ⟨W.heap.size, 1, none⟩ = some (.string ⟨#[]⟩) := X1.cell 1
    have c2 : w1.cell? ⟨W.heap.size, 2, none⟩ = some (.string ⟨#[]⟩) := X1.cell 2
    have c3 : w1.cell? ⟨W.heap.size, 3, none⟩ = some (.int .u64 0) := X1.cell 3
    have c4 : w1.cell? ⟨W.heap.size, 4, none⟩ = some (.int .i64 0) := X1.cell 4
    have c5 : w1.cell? ⟨W.heap.size, 5, none⟩ = some (.int .i64 0) := X1.cell 5
    have c6 : w1.cell? ⟨W.heap.size, 6, none⟩ = some (.slice none 0 0) := X1.cell 6
    have f := X1.free
    clear HQ hm X0
    go_wp2
    exact bodyPost_ret (v := .agg #[.int .i64 kind, .string ⟨#[]⟩, .string ⟨#[]⟩, .int .u64 0, .int .i64 0, .int .i64 t.off, .slice none 0 0]) (by simp [results, Tryz.results153, go_sem, c0, c1, c2, c3, c4, c5, c6]) rfl ((A1.fill X1 (Nat.le_refl _) _ _ _ _ _ _ _).ok HQ1 ⟨_, rfl, rfl⟩)
  · exact ⟨rfl, A0.out HQ hm H1⟩
end Go.Proofs.YtmkehecapjdfdaaGreatDoor

/- Behind an append of nodes; a first method that appends. -/
namespace Go.Proofs.YtmkehecapjdfdaaGreatDoor
open Go.RowKit

theorem Tryz.infoNode : (Tryz.prog.info? 25).map (fun i => (i.zero, i.size, i.bytes)) = some (some (.agg #[.int .i64 0, .string ⟨#[]⟩, .string ⟨#[]⟩, .int .u64 0, .int .i64 0, .int .i64 0, .slice none 0 0]), 7, 88) := by kernel_rfl

/-- What stands behind an append to a row of the call's own. -/
structure App (E : Env) (W w1 w2 : World) (dp : Nat) (s : St) (M : Nat) (l : List T) (v : Value) : Prop where
  at_ : At E W w2 dp s
  kids : Kids w2 M l v
  old : ∀ b, b < w1.heap.size → b < M → w2.heap[b]? = w1.heap[b]?
theorem appended {E : Env} {W w1 w2 : World} {dp : Nat} {s : St} (A : At E W w1 dp s) {M : Nat} (hW : W.heap.size ≤ M) {o : Obj} {old : Value} {l : List T} {kc : List Value}
    (ko : w1.ownsRow M NT 7 old l.length kc) (kr : rowAt w1 (fun g => M ≤ g ∧ old.ownBlock ≠ some g) l kc) {ts : List T} {nc : List Value} {g cap : Nat}
    (nd : rowAt w1 (fun g => M ≤ g ∧ old.ownBlock ≠ some g) ts nc)
    (o2 : w2.ownsRow M NT 7 (.slice (some ⟨g, 0, none⟩) (l.length + ts.length) cap) (l.length + ts.length) (kc ++ nc))
    (g2 : (w1.alloc o).grownBy w2 old.ownBlock) (p2 : old.ownBlock = some g ∨ g = (w1.alloc o).heap.size) :
    App E W w1 w2 dp s M (l ++ ts) (.slice (some ⟨g, 0, none⟩) (l.length + ts.length) cap) := by
  have hold : ∀ b, b < w1.heap.size → old.ownBlock ≠ some b → w2.heap[b]? = w1.heap[b]? := fun b hb hne => by
    rw [g2.block b (by simp; omega) (fun e => hne e.symm)]
    exact Below.heap_alloc w1 o b hb
  have hsz : w1.heap.size ≤ w2.heap.size := by have := g2.size; simp at this; omega
  have hN : NTc w1 w2 := by
    refine ⟨g2.os, g2.tape, g2.output, hsz, fun k hk hn => hold k hk fun e => ?_⟩
    rcases ko.2 with ⟨rfl, _⟩ | ⟨g', cap', cur, rfl, _, hg, _⟩
    · simp [Value.ownBlock] at e
    · simp [Value.ownBlock] at e
      subst e
      exact hn _ hg
  have hlow : ∀ b, b < w1.heap.size → b < M → w2.heap[b]? = w1.heap[b]? := fun b hb hM => hold b hb fun e => by
    have := (ko.lt b e).1
    omega
  have hB : Below W.heap.size w1 w2 := ⟨g2.os, g2.tape, g2.output, hsz, fun k hk => hlow k (by have := A.size; omega) (by omega)⟩
  refine ⟨A.ntc hN hB, ⟨kc ++ nc, by rw [List.length_append]; exact o2, ?_⟩, hlow⟩
  have hrow := rowAt_append l ts kc nc kr nd
  have hlt : ∀ g' c, w1.heap[g']? = some (.cells c NT (0, 0)) → g' < w1.heap.size := fun g' c h => (Array.getElem?_eq_some_iff.1 h).1
  have key : ∀ (l : List T) (cs : List Value), rowAt w1 (fun g => M ≤ g ∧ old.ownBlock ≠ some g) l cs → rowAt w2 (fun g' => M ≤ g' ∧ old.ownBlock ≠ some g' ∧ g' < w1.heap.size) l cs := fun l cs h =>
    rowAt_imp' (fun g' c hg hc => ⟨⟨hg.1, hg.2, hlt g' c hc⟩, (hold g' (hlt g' c hc) hg.2).trans hc⟩) l cs h
  refine rowAt_mono (fun g' hg => ⟨hg.1, ?_⟩) (key _ _ hrow)
  intro e
  simp [Value.ownBlock] at e
  subst e
  rcases p2 with p2 | p2
  · exact hg.2.1 p2
  · have := hg.2.2; simp at p2; omega
theorem App.box {E : Env} {W w1 w2 : World} {dp : Nat} {s : St} {M : Nat} {l : List T} {v : Value} (h : App E W w1 w2 dp s M l v) {b : Nat} {T : TypeId} {cs : Array Value} (hb : Box w1 b T cs) (hM : b < M) : Box w2 b T cs :=
  (h.old b hb.lt hM).trans hb
theorem Kids.far {w : World} {M b i : Nat} (hb : b < M) (v : Value) {l : List T} {kv : Value} (h : Kids w M l kv) : Kids (w.setCell ⟨b, i, none⟩ v) M l kv := by
  obtain ⟨c, h1, h2⟩ := h
  refine ⟨c, ⟨h1.1, ?_⟩, rowAt_imp (fun _ h => h) (fun g c hg hc => (Below.heap_setCell w ⟨b, i, none⟩ v g (by simp; omega)).trans hc) l c h2⟩
  rcases h1.2 with hn | ⟨g, cap, cur, e, hb', hg, rest⟩
  · exact .inl hn
  · exact .inr ⟨g, cap, cur, e, hb', (Below.heap_setCell w ⟨b, i, none⟩ v g (by simp; omega)).trans hg, rest⟩
theorem rowAt_fresh {w : World} {M N : Nat} {old : Value} {t : T} {kv : Value} (h : nodeAt w (fun g => N ≤ g) t kv) (hM : M ≤ N) (hold : ∀ g, old.ownBlock = some g → g < N) :
    rowAt w (fun g => M ≤ g ∧ old.ownBlock ≠ some g) [t] (nodeCells t kv) :=
  rowAt_one (nodeAt_mono (fun g hg => ⟨Nat.le_trans hM hg, fun e => by have := hold g e; omega⟩) h)
theorem bnd_ret {α : Type} (m : PM α) (s : St) : bnd m (fun t => ret t) s = m s := by
  unfold bnd ret
  cases m s <;> rfl
theorem out0 {E : Env} {W Y : World} {dp : Nat} {s : St} {α β : Type} {R : World → α → Value → Prop} {M : Res α} {m : PM β} {k : β → PM α} {l : Nat} {s' : St} {ch : List PanicEntry}
    (HQ : Hid (M = bnd m k s)) (hm : m s = .out l s') (H : Up E W l s' ch Y) : PostR E W dp R M (.panicked ch) Y := by
  obtain ⟨c, dp', rfl, h1, h2, h3⟩ := H
  rw [HQ.out, bnd_out hm]
  exact ⟨c, dp', rfl, h1, h2, h3⟩
theorem hq_ret {α : Type} {M : Res α} {m : PM α} {s : St} (HQ : Hid (M = m s)) : Hid (M = bnd m (fun t => ret t) s) := Lib.hid (by rw [bnd_ret]; exact HQ.out)
theorem no_own {N : Nat} : ∀ g, (Value.slice none 0 0).ownBlock = some g → g < N := fun g h => by simp [Value.ownBlock] at h

theorem nodeCells_one (t : T) (A : Option Addr) (n c : Nat) : ∀ u ∈ nodeCells t (.slice A n c), u.oneCell' = true := by
  intro u hu
  simp [nodeCells] at hu
  rcases hu with rfl | rfl | rfl | rfl | rfl | rfl | rfl <;> rfl
theorem nodeCells_two (t : T) (A : Option Addr) (n c : Nat) (t' : T) (A' : Option Addr) (n' c' : Nat) : ∀ u ∈ nodeCells t (.slice A n c) ++ nodeCells t' (.slice A' n' c'), u.oneCell' = true := by
  intro u hu
  rcases List.mem_append.1 hu with h | h
  · exact nodeCells_one _ _ _ _ u h
  · exact nodeCells_one _ _ _ _ u h
theorem ownsDrew {w : World} {B T sz n : Nat} {v : Value} {xs : List Value} (h : w.ownsRow B T sz v n xs) : w.drew.ownsRow B T sz v n xs := h
theorem rowDrew {w : World} {ok : Nat → Prop} {l : List T} {cs : List Value} (h : rowAt w ok l cs) : rowAt w.drew ok l cs := rowAt_imp (w := w) (w' := w.drew) (fun _ h => h) (fun _ _ _ hc => hc) l cs h
theorem nodeDrew {w : World} {ok : Nat → Prop} {t : T} {v : Value} (h : nodeAt w ok t v) : nodeAt w.drew ok t v := nodeAt_imp (w := w) (w' := w.drew) (fun _ h => h) (fun _ _ _ hc => hc) t v h
/-- Expressions, as the methods of a depth use them. -/
def CE (E : Env) (dp : Nat) (m : PM T) : Prop := ∀ (w : World) (s : St), RS E 20 w dp s → Calls Tryz.prog 161 #[.pointer (some ⟨E.r, 0, none⟩)] w (PostR E w dp (RNodeX w.heap.size) (m s))
def CB (E : Env) (dp : Nat) (m : PM T) : Prop := ∀ (w : World) (s : St), RS E 20 w dp s → Calls Tryz.prog 157 #[.pointer (some ⟨E.r, 0, none⟩)] w (PostR E w dp (RNodeX w.heap.size) (m s))
end Go.Proofs.YtmkehecapjdfdaaGreatDoor

/- Methods that read in a straight line. -/
namespace Go.Proofs.YtmkehecapjdfdaaGreatDoor
open Go.RowKit

set_option maxRecDepth 100000 in
set_option maxHeartbeats 1600000 in
theorem inBrackets_any {E : Env} {W : World} {dp : Nat} {s : St} {x : PM T} (he : CE E dp x) (h : RS E 20 W dp s) :
    Calls Tryz.prog 159 #[.pointer (some ⟨E.r, 0, none⟩)] W (PostR E W dp (RNodeX W.heap.size) (inBrackets E.ts x s)) := by
  have A0 := At.start h
  have HQ0 : Hid (inBrackets E.ts x s = bnd (take E.ts pLK) (fun _ => bnd x fun t => bnd (take E.ts pRK) fun _ => ret t) s) := Lib.hid rfl
  generalize hM : inBrackets E.ts x s = M at *
  clear hM
  have hb1 := A0.size
  have B2 := Box.new (W) 25 #[Value.int IntKind.i64 0, Value.string { data := #[] }, Value.string { data := #[] }, Value.int IntKind.u64 0, Value.int IntKind.i64 0, Value.int IntKind.i64 0, Value.slice none 0 0]
  have A3 := A0.alloc (Obj.cells #[Value.int IntKind.i64 0, Value.string { data := #[] }, Value.string { data := #[] }, Value.int IntKind.u64 0, Value.int IntKind.i64 0, Value.int IntKind.i64 0, Value.slice none 0 0] 25)
  have sz4 : (W.alloc (Obj.cells #[Value.int IntKind.i64 0, Value.string { data := #[] }, Value.string { data := #[] }, Value.int IntKind.u64 0, Value.int IntKind.i64 0, Value.int IntKind.i64 0, Value.slice none 0 0] 25)).heap.size = W.heap.size + 1 := by simp
  go_enter Tryz.func159, Tryz.ntmps159
  go_wp2_with fail
  refine (take_any pLK (by decide) A3.rs).mono ?_
  intro e w1 H
  rcases H.cases with ⟨t1, s1, v, hm5, rfl, rfl, R, K⟩ | ⟨l, s', ch, hm, rfl, H1⟩
  rotate_left 1
  · exact ⟨rfl, A3.out HQ0 hm H1⟩
  have A6 := A3.call R K
  have HQ7 := hq_ok HQ0 hm5
  have B8 : Box w1 (W.heap.size) 25 #[Value.int IntKind.i64 0, Value.string { data := #[] }, Value.string { data := #[] }, Value.int IntKind.u64 0, Value.int IntKind.i64 0, Value.int IntKind.i64 0, Value.slice none 0 0] := B2.kept K (by decide)
  have sz9 := K.size
  clear HQ0 hm5 H R K
  go_wp2_with fail
  refine (he _ _ A6.rs).mono ?_
  intro e w2 H
  rcases H.cases with ⟨t, s2, v, hm10, rfl, ⟨KA, KC, rfl, nd⟩, R, K⟩ | ⟨l, s', ch, hm, rfl, H1⟩
  rotate_left 1
  · exact ⟨rfl, A6.out HQ7 hm H1⟩
  have A11 := A6.call R K
  have HQ12 := hq_ok HQ7 hm10
  have B13 : Box w2 (W.heap.size) 25 #[Value.int IntKind.i64 0, Value.string { data := #[] }, Value.string { data := #[] }, Value.int IntKind.u64 0, Value.int IntKind.i64 0, Value.int IntKind.i64 0, Value.slice none 0 0] := B8.kept K (by decide)
  have sz14 := K.size
  clear HQ7 hm10 H R K
  have hb15 := A11.size
  have B16 := B13.alloc (Obj.cells #[Value.int IntKind.i64 (t).kind, Value.string { data := (t).name.toArray }, Value.string { data := (t).part.toArray }, Value.int IntKind.u64 (t).num, Value.int IntKind.i64 (t).wid, Value.int IntKind.i64 (t).at_, Value.slice KA t.kids.length KC] 25)
  have lt17 := B13.lt
  have B18 := Box.new (w2) 25 #[Value.int IntKind.i64 (t).kind, Value.string { data := (t).name.toArray }, Value.string { data := (t).part.toArray }, Value.int IntKind.u64 (t).num, Value.int IntKind.i64 (t).wid, Value.int IntKind.i64 (t).at_, Value.slice KA t.kids.length KC]
  have A19 := A11.alloc (Obj.cells #[Value.int IntKind.i64 (t).kind, Value.string { data := (t).name.toArray }, Value.string { data := (t).part.toArray }, Value.int IntKind.u64 (t).num, Value.int IntKind.i64 (t).wid, Value.int IntKind.i64 (t).at_, Value.slice KA t.kids.length KC] 25)
  have sz20 : (w2.alloc (Obj.cells #[Value.int IntKind.i64 (t).kind, Value.string { data := (t).name.toArray }, Value.string { data := (t).part.toArray }, Value.int IntKind.u64 (t).num, Value.int IntKind.i64 (t).wid, Value.int IntKind.i64 (t).at_, Value.slice KA t.kids.length KC] 25)).heap.size = w2.heap.size + 1 := by simp
  have nd1 := nodeAt_kept (Kept.of (B := 0) ((Below.refl _ _).alloc (Nat.le_refl _) (Obj.cells #[Value.int IntKind.i64 (t).kind, Value.string { data := (t).name.toArray }, Value.string { data := (t).part.toArray }, Value.int IntKind.u64 (t).num, Value.int IntKind.i64 (t).wid, Value.int IntKind.i64 (t).at_, Value.slice KA t.kids.length KC] 25)) (Nat.zero_le _)) nd
  go_wp2_with fail
  refine (take_any pRK (by decide) A19.rs).mono ?_
  intro e w3 H
  rcases H.cases with ⟨t2, s3, v, hm21, rfl, rfl, R, K⟩ | ⟨l, s', ch, hm, rfl, H1⟩
  rotate_left 1
  · exact ⟨rfl, A19.out HQ12 hm H1⟩
  have A22 := A19.call R K
  have HQ23 := hq_ok HQ12 hm21
  have B24 : Box w3 (W.heap.size) 25 #[Value.int IntKind.i64 0, Value.string { data := #[] }, Value.string { data := #[] }, Value.int IntKind.u64 0, Value.int IntKind.i64 0, Value.int IntKind.i64 0, Value.slice none 0 0] := B16.kept K (by decide)
  have B25 : Box w3 (w2.heap.size) 25 #[Value.int IntKind.i64 (t).kind, Value.string { data := (t).name.toArray }, Value.string { data := (t).part.toArray }, Value.int IntKind.u64 (t).num, Value.int IntKind.i64 (t).wid, Value.int IntKind.i64 (t).at_, Value.slice KA t.kids.length KC] := B18.kept K (by decide)
  have N26 := nodeAt_kept K nd1
  have sz27 := K.size
  clear HQ12 hm21 H R K
  have c28 : w3.cell? ⟨w2.heap.size, 0, none⟩ = some (Value.int IntKind.i64 (t).kind) := B25.cell 0
  have c29 : w3.cell? ⟨w2.heap.size, 1, none⟩ = some (Value.string { data := (t).name.toArray }) := B25.cell 1
  have c30 : w3.cell? ⟨w2.heap.size, 2, none⟩ = some (Value.string { data := (t).part.toArray }) := B25.cell 2
  have c31 : w3.cell? ⟨w2.heap.size, 3, none⟩ = some (Value.int IntKind.u64 (t).num) := B25.cell 3
  have c32 : w3.cell? ⟨w2.heap.size, 4, none⟩ = some (Value.int IntKind.i64 (t).wid) := B25.cell 4
  have c33 : w3.cell? ⟨w2.heap.size, 5, none⟩ = some (Value.int IntKind.i64 (t).at_) := B25.cell 5
  have c34 : w3.cell? ⟨w2.heap.size, 6, none⟩ = some (Value.slice KA t.kids.length KC) := B25.cell 6
  have fz35 := B25.free
  have c36 : w3.cell? ⟨W.heap.size, 0, none⟩ = some (Value.int IntKind.i64 0) := B24.cell 0
  have c37 : w3.cell? ⟨W.heap.size, 1, none⟩ = some (Value.string { data := #[] }) := B24.cell 1
  have c38 : w3.cell? ⟨W.heap.size, 2, none⟩ = some (Value.string { data := #[] }) := B24.cell 2
  have c39 : w3.cell? ⟨W.heap.size, 3, none⟩ = some (Value.int IntKind.u64 0) := B24.cell 3
  have c40 : w3.cell? ⟨W.heap.size, 4, none⟩ = some (Value.int IntKind.i64 0) := B24.cell 4
  have c41 : w3.cell? ⟨W.heap.size, 5, none⟩ = some (Value.int IntKind.i64 0) := B24.cell 5
  have c42 : w3.cell? ⟨W.heap.size, 6, none⟩ = some (Value.slice none 0 0) := B24.cell 6
  have fz43 := B24.free
  go_wp2
  exact bodyPost_ret (v := .agg #[Value.int IntKind.i64 (t).kind, Value.string { data := (t).name.toArray }, Value.string { data := (t).part.toArray }, Value.int IntKind.u64 (t).num, Value.int IntKind.i64 (t).wid, Value.int IntKind.i64 (t).at_, Value.slice KA t.kids.length KC]) (by simp [results, Tryz.results159, go_sem, c36, c37, c38, c39, c40, c41, c42]) rfl ((A22.fill B24 (Nat.le_refl _) _ _ _ _ _ _ _).ok HQ23 ⟨_, _, rfl, nodeAt_le (M := w1.heap.size) (by omega) (nodeAt_fill (M := w1.heap.size) (by omega) _ _ _ _ _ _ _ N26)⟩)

end Go.Proofs.YtmkehecapjdfdaaGreatDoor
