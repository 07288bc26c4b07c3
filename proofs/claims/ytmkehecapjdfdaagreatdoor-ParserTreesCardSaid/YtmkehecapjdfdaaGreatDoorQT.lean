/- Joined texts: PTree, PLit. -/
import Derived.Test.YtmkehecapjdfdaaGreatDoorQB2

/- Trees as they can be read, wherever they lie. -/
namespace Go.Proofs.YtmkehecapjdfdaaGreatDoor
open Go.RowKit

inductive G where
  | mk (kind : Int) (name part : ByteArray) (num : Nat) (wid at_ : Int) (kids : List G)
def G.kind : G → Int | .mk k _ _ _ _ _ _ => k
def G.name : G → ByteArray | .mk _ n _ _ _ _ _ => n
def G.part : G → ByteArray | .mk _ _ p _ _ _ _ => p
def G.num : G → Nat | .mk _ _ _ n _ _ _ => n
def G.wid : G → Int | .mk _ _ _ _ w _ _ => w
def G.at_ : G → Int | .mk _ _ _ _ _ a _ => a
def G.kids : G → List G | .mk _ _ _ _ _ _ k => k
mutual
/-- The value of the kids' field reads as the kids of a tree. -/
def gAt (w : World) : G → Value → Prop
  | .mk _ _ _ _ _ _ ks, kv => ∃ A c, kv = .slice A ks.length c ∧ ks.length ≤ c ∧ c ≤ maxLen ∧ gRow w A 0 ks
/-- From the i-th on, the kids lie one behind the other. -/
def gRow (w : World) (A : Option Addr) (i : Nat) : List G → Prop
  | [] => True
  | t :: r => (∃ g o kv, A = some ⟨g, o, none⟩ ∧ w.cell? ⟨g, o + i * 7, none⟩ = some (.int .i64 t.kind) ∧ w.cell? ⟨g, o + i * 7 + 1, none⟩ = some (.string t.name) ∧ w.cell? ⟨g, o + i * 7 + 2, none⟩ = some (.string t.part) ∧
      w.cell? ⟨g, o + i * 7 + 3, none⟩ = some (.int .u64 t.num) ∧ w.cell? ⟨g, o + i * 7 + 4, none⟩ = some (.int .i64 t.wid) ∧ w.cell? ⟨g, o + i * 7 + 5, none⟩ = some (.int .i64 t.at_) ∧ w.cell? ⟨g, o + i * 7 + 6, none⟩ = some kv ∧ gAt w t kv) ∧ gRow w A (i + 1) r
end
mutual
theorem gAt_later {w w' : World} (hb : Below w.heap.size w w') : ∀ (t : G) (kv : Value), gAt w t kv → gAt w' t kv
  | .mk _ _ _ _ _ _ ks, kv, h => by
    obtain ⟨A, c, e, h1, h2, h3⟩ := h
    exact ⟨A, c, e, h1, h2, gRow_later hb A 0 ks h3⟩
theorem gRow_later {w w' : World} (hb : Below w.heap.size w w') (A : Option Addr) : ∀ (i : Nat) (l : List G), gRow w A i l → gRow w' A i l
  | _, [], _ => trivial
  | i, t :: r, h => by
    obtain ⟨⟨g, o, kv, e, c0, c1, c2, c3, c4, c5, c6, h6⟩, hr⟩ := h
    exact ⟨⟨g, o, kv, e, cell_later hb c0, cell_later hb c1, cell_later hb c2, cell_later hb c3, cell_later hb c4, cell_later hb c5, cell_later hb c6, gAt_later hb t kv h6⟩, gRow_later hb A (i + 1) r hr⟩
end
theorem gRow_at {w : World} {A : Option Addr} : ∀ (l : List G) (i : Nat), gRow w A i l → ∀ (j : Nat) (h : j < l.length), ∃ g o kv, A = some ⟨g, o, none⟩ ∧ w.cell? ⟨g, o + (i + j) * 7, none⟩ = some (.int .i64 l[j].kind) ∧ w.cell? ⟨g, o + (i + j) * 7 + 1, none⟩ = some (.string l[j].name) ∧ w.cell? ⟨g, o + (i + j) * 7 + 2, none⟩ = some (.string l[j].part) ∧
      w.cell? ⟨g, o + (i + j) * 7 + 3, none⟩ = some (.int .u64 l[j].num) ∧ w.cell? ⟨g, o + (i + j) * 7 + 4, none⟩ = some (.int .i64 l[j].wid) ∧ w.cell? ⟨g, o + (i + j) * 7 + 5, none⟩ = some (.int .i64 l[j].at_) ∧ w.cell? ⟨g, o + (i + j) * 7 + 6, none⟩ = some kv ∧ gAt w l[j] kv
  | [], _, _, j, h => by simp at h
  | t :: r, i, hg, 0, _ => hg.1
  | t :: r, i, hg, j + 1, h => by
    have := gRow_at r (i + 1) hg.2 j (by simpa using h)
    rw [show i + (j + 1) = i + 1 + j by omega]
    exact this

/-- A tree as it is read. -/
def T.toG : T → G
  | .mk k n p x y z ks => .mk k ⟨n.toArray⟩ ⟨p.toArray⟩ x y z (toGs ks)
where toGs : List T → List G
  | [] => []
  | t :: r => t.toG :: toGs r
theorem toGs_length : ∀ l : List T, (T.toG.toGs l).length = l.length
  | [] => rfl
  | t :: r => by simp [T.toG.toGs, toGs_length r]
theorem nodeCells_length (t : T) (kv : Value) : (nodeCells t kv).length = 7 := rfl
theorem toG_f (t : T) : t.toG.kind = t.kind ∧ t.toG.name = ⟨t.name.toArray⟩ ∧ t.toG.part = ⟨t.part.toArray⟩ ∧ t.toG.num = t.num ∧ t.toG.wid = t.wid ∧ t.toG.at_ = t.at_ := by
  cases t; exact ⟨rfl, rfl, rfl, rfl, rfl, rfl⟩
mutual
theorem gAt_node {w : World} {ok : Nat → Prop} : ∀ (t : T) (kv : Value), nodeAt w ok t kv → gAt w t.toG kv
  | .mk _ _ _ _ _ _ ks, kv, h => by
    obtain ⟨cells, ho, _, hr⟩ := h
    rcases ho.2 with ⟨e1, e2⟩ | ⟨g, cap, cur, e, _, hg, hc, hm, hs, ht⟩
    · refine ⟨none, 0, ?_, ?_, by unfold maxLen; omega, ?_⟩
      · rw [toGs_length, e1, e2]
      · rw [toGs_length, e2]; exact Nat.le_refl _
      · have : ks = [] := List.length_eq_zero_iff.1 e2
        subst this
        trivial
    · refine ⟨some ⟨g, 0, none⟩, cap, by rw [toGs_length]; exact e, by rw [toGs_length]; exact hc, hm, ?_⟩
      have hcell : ∀ j, j < cells.length → w.cell? ⟨g, j, none⟩ = cells[j]? := fun j hj => by
        have h1 := ho.1
        rw [← ht, List.getElem?_take, if_pos (by omega)]
        unfold World.cell?
        rw [hg]
        simp
      exact gRow_rows (pre := []) ks cells g 0 hr rfl (by simpa using hcell)
theorem gRow_rows {w : World} {ok : Nat → Prop} {pre : List Value} : ∀ (l : List T) (cs : List Value) (g i : Nat), rowAt w ok l cs → pre.length = i * 7 →
    (∀ j, j < (pre ++ cs).length → w.cell? ⟨g, j, none⟩ = (pre ++ cs)[j]?) → gRow w (some ⟨g, 0, none⟩) i (T.toG.toGs l)
  | [], _, _, _, _, _, _ => trivial
  | t :: r, cs, g, i, h, hp, hc => by
    obtain ⟨kv, more, rfl, hn, hr⟩ := h
    obtain ⟨f1, f2, f3, f4, f5, f6⟩ := toG_f t
    have key : ∀ j, j < 7 → w.cell? ⟨g, i * 7 + j, none⟩ = (nodeCells t kv)[j]? := fun j hj => by
      rw [hc (i * 7 + j) (by simp [nodeCells_length, hp]; omega), List.getElem?_append_right (by omega), List.getElem?_append_left (by rw [nodeCells_length]; omega)]
      congr 1
      omega
    refine ⟨⟨g, 0, kv, rfl, ?_, ?_, ?_, ?_, ?_, ?_, ?_, gAt_node t kv hn⟩, gRow_rows (pre := pre ++ nodeCells t kv) r more g (i + 1) hr (by simp [nodeCells_length, hp]; omega) (by simpa using hc)⟩
    · rw [f1]; simpa [nodeCells] using key 0 (by omega)
    · rw [f2]; simpa [nodeCells] using key 1 (by omega)
    · rw [f3]; simpa [nodeCells] using key 2 (by omega)
    · rw [f4]; simpa [nodeCells] using key 3 (by omega)
    · rw [f5]; simpa [nodeCells] using key 4 (by omega)
    · rw [f6]; simpa [nodeCells] using key 5 (by omega)
    · simpa [nodeCells] using key 6 (by omega)
end
end Go.Proofs.YtmkehecapjdfdaaGreatDoor

/- Literals of nodes as they lie. -/
namespace Go.Proofs.YtmkehecapjdfdaaGreatDoor
open Go.RowKit

def gCells (t : G) (kv : Value) : List Value := [.int .i64 t.kind, .string t.name, .string t.part, .int .u64 t.num, .int .i64 t.wid, .int .i64 t.at_, kv]
/-- One cell of a block that is known whole. -/
theorem box_at {w : World} {b : Nat} {T : TypeId} {cs : Array Value} (h : Box w b T cs) (i : Nat) {v : Value} (hv : cs[i]? = some v) : w.cell? ⟨b, i, none⟩ = some v := (h.cell i).trans hv
theorem gRow_lit {w : World} {b : Nat} {T : TypeId} : ∀ (ts : List (G × Value)) (pre : List Value) (i : Nat), pre.length = i * 7 → Box w b T (pre ++ ts.flatMap fun p => gCells p.1 p.2).toArray → (∀ p ∈ ts, gAt w p.1 p.2) → gRow w (some ⟨b, 0, none⟩) i (ts.map (·.1))
  | [], _, _, _, _, _ => trivial
  | (t, kv) :: r, pre, i, hp, hb, hk => by
    have hq : ∀ j v, (gCells t kv)[j]? = some v → w.cell? ⟨b, 0 + i * 7 + j, none⟩ = some v := fun j v hj => by
      refine box_at hb _ ?_
      have hj7 : j < 7 := by
        have := (List.getElem?_eq_some_iff.1 hj).1
        simpa [gCells] using this
      rw [List.getElem?_toArray, List.getElem?_append_right (by omega), show 0 + i * 7 + j - pre.length = j by omega]
      simp only [List.flatMap_cons]
      rw [List.getElem?_append_left (by simp [gCells]; omega)]
      exact hj
    refine ⟨⟨b, 0, kv, rfl, hq 0 _ rfl, hq 1 _ rfl, hq 2 _ rfl, hq 3 _ rfl, hq 4 _ rfl, hq 5 _ rfl, hq 6 _ rfl, hk _ (by simp)⟩, ?_⟩
    refine gRow_lit r (pre ++ gCells t kv) (i + 1) (by rw [List.length_append, hp]; simp [gCells]; omega) (by simpa [List.flatMap_cons] using hb) (fun p hp => hk p (by simp [hp]))
theorem gAt_lit {w : World} {b : Nat} {T : TypeId} (ts : List (G × Value)) (hb : Box w b T (ts.flatMap fun p => gCells p.1 p.2).toArray) (hl : ts.length ≤ 1000) (hk : ∀ p ∈ ts, gAt w p.1 p.2) (k : Int) (n p : ByteArray) (x : Nat) (y z : Int) :
    gAt w (.mk k n p x y z (ts.map (·.1))) (.slice (some ⟨b, 0, none⟩) ts.length ts.length) := by
  simp only [gAt]
  exact ⟨_, _, by rw [List.length_map], by rw [List.length_map]; exact Nat.le_refl _, by unfold maxLen; omega, gRow_lit ts [] 0 rfl (by simpa using hb) hk⟩
theorem gAt_none (w : World) (k : Int) (n p : ByteArray) (x : Nat) (y z : Int) : gAt w (.mk k n p x y z []) (.slice none 0 0) := by
  simp only [gAt]
  exact ⟨_, _, rfl, Nat.le_refl _, by unfold maxLen; omega, trivial⟩
theorem lit1 {w : World} {b : Nat} {T : TypeId} (t : G) (kv : Value) (hb : Box w b T #[.int .i64 t.kind, .string t.name, .string t.part, .int .u64 t.num, .int .i64 t.wid, .int .i64 t.at_, kv]) (hk : gAt w t kv) (k : Int) (n p : ByteArray) (x : Nat) (y z : Int) :
    gAt w (.mk k n p x y z [t]) (.slice (some ⟨b, 0, none⟩) 1 1) := gAt_lit [(t, kv)] (by simpa [gCells] using hb) (by simp) (by simpa using hk) k n p x y z
theorem lit2 {w : World} {b : Nat} {T : TypeId} (t u : G) (kv kw : Value) (hb : Box w b T #[.int .i64 t.kind, .string t.name, .string t.part, .int .u64 t.num, .int .i64 t.wid, .int .i64 t.at_, kv, .int .i64 u.kind, .string u.name, .string u.part, .int .u64 u.num, .int .i64 u.wid, .int .i64 u.at_, kw])
    (hk : gAt w t kv) (hj : gAt w u kw) (k : Int) (n p : ByteArray) (x : Nat) (y z : Int) :
    gAt w (.mk k n p x y z [t, u]) (.slice (some ⟨b, 0, none⟩) 2 2) := gAt_lit [(t, kv), (u, kw)] (by simpa [gCells] using hb) (by simp) (by simpa using ⟨hk, hj⟩) k n p x y z
theorem lit3 {w : World} {b : Nat} {T : TypeId} (t u v : G) (kv kw kx : Value) (hb : Box w b T #[.int .i64 t.kind, .string t.name, .string t.part, .int .u64 t.num, .int .i64 t.wid, .int .i64 t.at_, kv, .int .i64 u.kind, .string u.name, .string u.part, .int .u64 u.num, .int .i64 u.wid, .int .i64 u.at_, kw, .int .i64 v.kind, .string v.name, .string v.part, .int .u64 v.num, .int .i64 v.wid, .int .i64 v.at_, kx])
    (hk : gAt w t kv) (hj : gAt w u kw) (hi : gAt w v kx) (k : Int) (n p : ByteArray) (x : Nat) (y z : Int) :
    gAt w (.mk k n p x y z [t, u, v]) (.slice (some ⟨b, 0, none⟩) 3 3) := gAt_lit [(t, kv), (u, kw), (v, kx)] (by simpa [gCells] using hb) (by simp) (by simpa using ⟨hk, hj, hi⟩) k n p x y z
end Go.Proofs.YtmkehecapjdfdaaGreatDoor
