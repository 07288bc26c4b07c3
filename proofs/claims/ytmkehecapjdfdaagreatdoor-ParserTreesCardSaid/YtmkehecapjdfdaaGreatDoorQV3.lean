/- Joined texts: PSame. -/
import Derived.Test.YtmkehecapjdfdaaGreatDoorQV1
import Derived.Deep.RegionLaw
import Derived.MapKept

/- Whether two trees are the same. -/
namespace Go.Proofs.YtmkehecapjdfdaaGreatDoor
open Go.RowKit

mutual
def sameG : G → G → Bool
  | .mk k n p x y z ks, .mk k' n' p' x' y' z' ks' => k == k' && (n == n' && (p == p' && (x == x' && (y == y' && (z == z' && (ks.length == ks'.length && sameL ks ks'))))))
def sameL : List G → List G → Bool
  | [], _ => true
  | _ :: _, [] => true
  | a :: r, b :: r' => sameG a b && sameL r r'
end
def SC (t : G) : Prop := ∀ (u : G) (W : World) (A A' : Option Addr) (c c' : Nat), gAt W t (.slice A t.kids.length c) → gAt W u (.slice A' u.kids.length c') →
  Calls Tryz.prog 14 #[.agg #[.int .i64 t.kind, Value.string t.name, Value.string t.part, .int .u64 t.num, .int .i64 t.wid, .int .i64 t.at_, .slice A t.kids.length c], .agg #[.int .i64 u.kind, Value.string u.name, Value.string u.part, .int .u64 u.num, .int .i64 u.wid, .int .i64 u.at_, .slice A' u.kids.length c']] W fun e w' => e = .returned (.bool (sameG t u)) ∧ Below W.heap.size W w'
theorem sameG_eq (t u : G) : sameG t u = (t.kind == u.kind && (t.name == u.name && (t.part == u.part && (t.num == u.num && (t.wid == u.wid && (t.at_ == u.at_ && (t.kids.length == u.kids.length && sameL t.kids u.kids))))))) := by
  cases t; cases u; simp only [sameG, G.kind, G.name, G.part, G.num, G.wid, G.at_, G.kids]
theorem gAt_len {w : World} {t : G} {A : Option Addr} {c : Nat} (h : gAt w t (.slice A t.kids.length c)) : t.kids.length ≤ 9223372036854775807 := by
  cases t
  obtain ⟨A', c', e, h1, h2, _⟩ := h
  unfold maxLen at h2
  simp only [G.kids]
  omega
theorem gAt_row {w : World} {t : G} {A : Option Addr} {c : Nat} (h : gAt w t (.slice A t.kids.length c)) : gRow w A 0 t.kids := by
  cases t
  obtain ⟨A', c', e, _, _, hr⟩ := h
  cases e
  exact hr
theorem sameL_take : ∀ (l m : List G) (i : Nat), l.length = m.length → sameL (l.take i) (m.take i) = false → sameL l m = false
  | [], _, i, _, h => by simp [sameL] at h
  | a :: r, [], i, hl, _ => by simp at hl
  | a :: r, b :: r', 0, _, h => by simp [sameL] at h
  | a :: r, b :: r', i + 1, hl, h => by
    simp only [List.take_succ_cons, sameL, Bool.and_eq_false_iff] at h ⊢
    rcases h with h | h
    · exact .inl h
    · exact .inr (sameL_take r r' i (by simpa using hl) h)
theorem sameL_snoc : ∀ (l m : List G) (a b : G), l.length = m.length → sameL (l ++ [a]) (m ++ [b]) = (sameL l m && sameG a b)
  | [], [], a, b, _ => by simp [sameL]
  | [], y :: m, a, b, h => by simp at h
  | x :: l, [], a, b, h => by simp at h
  | x :: l, y :: m, a, b, h => by
    simp only [List.cons_append, sameL, sameL_snoc l m a b (by simpa using h), Bool.and_assoc]
theorem bytes_list (a b : Str) : ((⟨a.toArray⟩ : ByteArray) == ⟨b.toArray⟩) = (a == b) := by
  by_cases h : a = b
  · subst h
    simp [MapKept.bytes_beq]
  · have h1 : (a == b) = false := by simpa using h
    rw [h1]
    cases hh : ((⟨a.toArray⟩ : ByteArray) == ⟨b.toArray⟩) with
    | false => rfl
    | true =>
      have := (MapKept.bytes_beq _ _).1 hh
      exact absurd (by simpa using this) h
def SmRel (W : World) (l m : List G) (b1 b2 : Nat) (ct cu : Array Value) (v : Value) (wr : World) : Prop :=
  ∃ i : Nat, v = .int .i64 i ∧ i ≤ l.length ∧ sameL (l.take i) (m.take i) = true ∧ Below W.heap.size W wr ∧ Box wr b1 25 ct ∧ Box wr b2 25 cu
set_option maxRecDepth 100000 in
set_option maxHeartbeats 6400000 in
theorem same_step (k : Int) (n p : ByteArray) (x : Nat) (y z : Int) (ks : List G) (hv : ∀ x ∈ ks, SC x) : SC (.mk k n p x y z ks) := by
  intro u W A A' c c' hg hg'
  obtain ⟨k', n', p', x', y', z', ks'⟩ := u
  have hr := gAt_row hg
  have hr' := gAt_row hg'
  have hn := gAt_len hg
  simp only [G.kind, G.name, G.part, G.num, G.wid, G.at_, G.kids] at hr hr' hn ⊢
  clear hg hg'
  obtain ⟨n, rfl⟩ : ∃ l : Str, n = ⟨l.toArray⟩ := ⟨n.data.toList, by simp⟩
  obtain ⟨p, rfl⟩ : ∃ l : Str, p = ⟨l.toArray⟩ := ⟨p.data.toList, by simp⟩
  obtain ⟨n', rfl⟩ : ∃ l : Str, n' = ⟨l.toArray⟩ := ⟨n'.data.toList, by simp⟩
  obtain ⟨p', rfl⟩ : ∃ l : Str, p' = ⟨l.toArray⟩ := ⟨p'.data.toList, by simp⟩
  obtain ⟨R, hR⟩ : ∃ R, Hid (sameG (.mk k ⟨n.toArray⟩ ⟨p.toArray⟩ x y z ks) (.mk k' ⟨n'.toArray⟩ ⟨p'.toArray⟩ x' y' z' ks') = R) := ⟨_, Lib.hid rfl⟩
  rw [hR.out]
  have hR : Hid (R = (k == k' && (n == n' && (p == p' && (x == x' && (y == y' && (z == z' && (ks.length == ks'.length && sameL ks ks')))))))) := Lib.hid (by rw [← hR.out]; simp only [sameG, bytes_list])
  by_cases e0 : k = k'
  rotate_left 1
  · have hF : Hid (R = false) := Lib.hid (by rw [hR.out, show (k == k') = false from (by simpa using e0)]; simp)
    have b0 : (k == k') = false := by simpa using e0
    have d0 : (k != k') = true := by simp only [bne, b0]; rfl
    clear e0
    have bA : Below W.heap.size W ((W.alloc (.cells #[.int .i64 k, Value.string ⟨List.toArray n⟩, Value.string ⟨List.toArray p⟩, .int .u64 x, .int .i64 y, .int .i64 z, .slice A ks.length c] 25)).alloc (.cells #[.int .i64 k', Value.string ⟨List.toArray n'⟩, Value.string ⟨List.toArray p'⟩, .int .u64 x', .int .i64 y', .int .i64 z', .slice A' ks'.length c'] 25)) := ((Below.refl _ _).alloc (Nat.le_refl _) _).alloc (by simp) _
    have T2 := (Box.new W 25 #[.int .i64 k, Value.string ⟨List.toArray n⟩, Value.string ⟨List.toArray p⟩, .int .u64 x, .int .i64 y, .int .i64 z, .slice A ks.length c]).alloc (.cells #[.int .i64 k', Value.string ⟨List.toArray n'⟩, Value.string ⟨List.toArray p'⟩, .int .u64 x', .int .i64 y', .int .i64 z', .slice A' ks'.length c'] 25)
    have U2 := Box.newAt (X := W.alloc (.cells #[.int .i64 k, Value.string ⟨List.toArray n⟩, Value.string ⟨List.toArray p⟩, .int .u64 x, .int .i64 y, .int .i64 z, .slice A ks.length c] 25)) (n := W.heap.size + 1) (by simp) 25 #[.int .i64 k', Value.string ⟨List.toArray n'⟩, Value.string ⟨List.toArray p'⟩, .int .u64 x', .int .i64 y', .int .i64 z', .slice A' ks'.length c']
    have t0 : ((W.alloc (.cells #[.int .i64 k, Value.string ⟨List.toArray n⟩, Value.string ⟨List.toArray p⟩, .int .u64 x, .int .i64 y, .int .i64 z, .slice A ks.length c] 25)).alloc (.cells #[.int .i64 k', Value.string ⟨List.toArray n'⟩, Value.string ⟨List.toArray p'⟩, .int .u64 x', .int .i64 y', .int .i64 z', .slice A' ks'.length c'] 25)).cell? ⟨W.heap.size, 0, none⟩ = some (.int .i64 k) := T2.cell 0
    have uc0 : ((W.alloc (.cells #[.int .i64 k, Value.string ⟨List.toArray n⟩, Value.string ⟨List.toArray p⟩, .int .u64 x, .int .i64 y, .int .i64 z, .slice A ks.length c] 25)).alloc (.cells #[.int .i64 k', Value.string ⟨List.toArray n'⟩, Value.string ⟨List.toArray p'⟩, .int .u64 x', .int .i64 y', .int .i64 z', .slice A' ks'.length c'] 25)).cell? ⟨W.heap.size + 1, 0, none⟩ = some (.int .i64 k') := U2.cell 0
    have t1 : ((W.alloc (.cells #[.int .i64 k, Value.string ⟨List.toArray n⟩, Value.string ⟨List.toArray p⟩, .int .u64 x, .int .i64 y, .int .i64 z, .slice A ks.length c] 25)).alloc (.cells #[.int .i64 k', Value.string ⟨List.toArray n'⟩, Value.string ⟨List.toArray p'⟩, .int .u64 x', .int .i64 y', .int .i64 z', .slice A' ks'.length c'] 25)).cell? ⟨W.heap.size, 1, none⟩ = some (Value.string ⟨List.toArray n⟩) := T2.cell 1
    have uc1 : ((W.alloc (.cells #[.int .i64 k, Value.string ⟨List.toArray n⟩, Value.string ⟨List.toArray p⟩, .int .u64 x, .int .i64 y, .int .i64 z, .slice A ks.length c] 25)).alloc (.cells #[.int .i64 k', Value.string ⟨List.toArray n'⟩, Value.string ⟨List.toArray p'⟩, .int .u64 x', .int .i64 y', .int .i64 z', .slice A' ks'.length c'] 25)).cell? ⟨W.heap.size + 1, 1, none⟩ = some (Value.string ⟨List.toArray n'⟩) := U2.cell 1
    have t2 : ((W.alloc (.cells #[.int .i64 k, Value.string ⟨List.toArray n⟩, Value.string ⟨List.toArray p⟩, .int .u64 x, .int .i64 y, .int .i64 z, .slice A ks.length c] 25)).alloc (.cells #[.int .i64 k', Value.string ⟨List.toArray n'⟩, Value.string ⟨List.toArray p'⟩, .int .u64 x', .int .i64 y', .int .i64 z', .slice A' ks'.length c'] 25)).cell? ⟨W.heap.size, 2, none⟩ = some (Value.string ⟨List.toArray p⟩) := T2.cell 2
    have uc2 : ((W.alloc (.cells #[.int .i64 k, Value.string ⟨List.toArray n⟩, Value.string ⟨List.toArray p⟩, .int .u64 x, .int .i64 y, .int .i64 z, .slice A ks.length c] 25)).alloc (.cells #[.int .i64 k', Value.string ⟨List.toArray n'⟩, Value.string ⟨List.toArray p'⟩, .int .u64 x', .int .i64 y', .int .i64 z', .slice A' ks'.length c'] 25)).cell? ⟨W.heap.size + 1, 2, none⟩ = some (Value.string ⟨List.toArray p'⟩) := U2.cell 2
    have t3 : ((W.alloc (.cells #[.int .i64 k, Value.string ⟨List.toArray n⟩, Value.string ⟨List.toArray p⟩, .int .u64 x, .int .i64 y, .int .i64 z, .slice A ks.length c] 25)).alloc (.cells #[.int .i64 k', Value.string ⟨List.toArray n'⟩, Value.string ⟨List.toArray p'⟩, .int .u64 x', .int .i64 y', .int .i64 z', .slice A' ks'.length c'] 25)).cell? ⟨W.heap.size, 3, none⟩ = some (.int .u64 x) := T2.cell 3
    have uc3 : ((W.alloc (.cells #[.int .i64 k, Value.string ⟨List.toArray n⟩, Value.string ⟨List.toArray p⟩, .int .u64 x, .int .i64 y, .int .i64 z, .slice A ks.length c] 25)).alloc (.cells #[.int .i64 k', Value.string ⟨List.toArray n'⟩, Value.string ⟨List.toArray p'⟩, .int .u64 x', .int .i64 y', .int .i64 z', .slice A' ks'.length c'] 25)).cell? ⟨W.heap.size + 1, 3, none⟩ = some (.int .u64 x') := U2.cell 3
    have t4 : ((W.alloc (.cells #[.int .i64 k, Value.string ⟨List.toArray n⟩, Value.string ⟨List.toArray p⟩, .int .u64 x, .int .i64 y, .int .i64 z, .slice A ks.length c] 25)).alloc (.cells #[.int .i64 k', Value.string ⟨List.toArray n'⟩, Value.string ⟨List.toArray p'⟩, .int .u64 x', .int .i64 y', .int .i64 z', .slice A' ks'.length c'] 25)).cell? ⟨W.heap.size, 4, none⟩ = some (.int .i64 y) := T2.cell 4
    have uc4 : ((W.alloc (.cells #[.int .i64 k, Value.string ⟨List.toArray n⟩, Value.string ⟨List.toArray p⟩, .int .u64 x, .int .i64 y, .int .i64 z, .slice A ks.length c] 25)).alloc (.cells #[.int .i64 k', Value.string ⟨List.toArray n'⟩, Value.string ⟨List.toArray p'⟩, .int .u64 x', .int .i64 y', .int .i64 z', .slice A' ks'.length c'] 25)).cell? ⟨W.heap.size + 1, 4, none⟩ = some (.int .i64 y') := U2.cell 4
    have t5 : ((W.alloc (.cells #[.int .i64 k, Value.string ⟨List.toArray n⟩, Value.string ⟨List.toArray p⟩, .int .u64 x, .int .i64 y, .int .i64 z, .slice A ks.length c] 25)).alloc (.cells #[.int .i64 k', Value.string ⟨List.toArray n'⟩, Value.string ⟨List.toArray p'⟩, .int .u64 x', .int .i64 y', .int .i64 z', .slice A' ks'.length c'] 25)).cell? ⟨W.heap.size, 5, none⟩ = some (.int .i64 z) := T2.cell 5
    have uc5 : ((W.alloc (.cells #[.int .i64 k, Value.string ⟨List.toArray n⟩, Value.string ⟨List.toArray p⟩, .int .u64 x, .int .i64 y, .int .i64 z, .slice A ks.length c] 25)).alloc (.cells #[.int .i64 k', Value.string ⟨List.toArray n'⟩, Value.string ⟨List.toArray p'⟩, .int .u64 x', .int .i64 y', .int .i64 z', .slice A' ks'.length c'] 25)).cell? ⟨W.heap.size + 1, 5, none⟩ = some (.int .i64 z') := U2.cell 5
    have t6 : ((W.alloc (.cells #[.int .i64 k, Value.string ⟨List.toArray n⟩, Value.string ⟨List.toArray p⟩, .int .u64 x, .int .i64 y, .int .i64 z, .slice A ks.length c] 25)).alloc (.cells #[.int .i64 k', Value.string ⟨List.toArray n'⟩, Value.string ⟨List.toArray p'⟩, .int .u64 x', .int .i64 y', .int .i64 z', .slice A' ks'.length c'] 25)).cell? ⟨W.heap.size, 6, none⟩ = some (.slice A ks.length c) := T2.cell 6
    have uc6 : ((W.alloc (.cells #[.int .i64 k, Value.string ⟨List.toArray n⟩, Value.string ⟨List.toArray p⟩, .int .u64 x, .int .i64 y, .int .i64 z, .slice A ks.length c] 25)).alloc (.cells #[.int .i64 k', Value.string ⟨List.toArray n'⟩, Value.string ⟨List.toArray p'⟩, .int .u64 x', .int .i64 y', .int .i64 z', .slice A' ks'.length c'] 25)).cell? ⟨W.heap.size + 1, 6, none⟩ = some (.slice A' ks'.length c') := U2.cell 6
    go_enter Tryz.func14, Tryz.ntmps14
    go_wp2
    go_ret
    exact ⟨by rw [hF.out]; rfl, bA⟩
  subst e0
  by_cases e1 : n = n'
  rotate_left 1
  · have hF : Hid (R = false) := Lib.hid (by rw [hR.out, show (n == n') = false from (by simpa using e1)]; simp)
    have b1 : (n == n') = false := by simpa using e1
    have d1 : (n != n') = true := by simp only [bne, b1]; rfl
    clear e1
    have bA : Below W.heap.size W ((W.alloc (.cells #[.int .i64 k, Value.string ⟨List.toArray n⟩, Value.string ⟨List.toArray p⟩, .int .u64 x, .int .i64 y, .int .i64 z, .slice A ks.length c] 25)).alloc (.cells #[.int .i64 k, Value.string ⟨List.toArray n'⟩, Value.string ⟨List.toArray p'⟩, .int .u64 x', .int .i64 y', .int .i64 z', .slice A' ks'.length c'] 25)) := ((Below.refl _ _).alloc (Nat.le_refl _) _).alloc (by simp) _
    have T2 := (Box.new W 25 #[.int .i64 k, Value.string ⟨List.toArray n⟩, Value.string ⟨List.toArray p⟩, .int .u64 x, .int .i64 y, .int .i64 z, .slice A ks.length c]).alloc (.cells #[.int .i64 k, Value.string ⟨List.toArray n'⟩, Value.string ⟨List.toArray p'⟩, .int .u64 x', .int .i64 y', .int .i64 z', .slice A' ks'.length c'] 25)
    have U2 := Box.newAt (X := W.alloc (.cells #[.int .i64 k, Value.string ⟨List.toArray n⟩, Value.string ⟨List.toArray p⟩, .int .u64 x, .int .i64 y, .int .i64 z, .slice A ks.length c] 25)) (n := W.heap.size + 1) (by simp) 25 #[.int .i64 k, Value.string ⟨List.toArray n'⟩, Value.string ⟨List.toArray p'⟩, .int .u64 x', .int .i64 y', .int .i64 z', .slice A' ks'.length c']
    have t0 : ((W.alloc (.cells #[.int .i64 k, Value.string ⟨List.toArray n⟩, Value.string ⟨List.toArray p⟩, .int .u64 x, .int .i64 y, .int .i64 z, .slice A ks.length c] 25)).alloc (.cells #[.int .i64 k, Value.string ⟨List.toArray n'⟩, Value.string ⟨List.toArray p'⟩, .int .u64 x', .int .i64 y', .int .i64 z', .slice A' ks'.length c'] 25)).cell? ⟨W.heap.size, 0, none⟩ = some (.int .i64 k) := T2.cell 0
    have uc0 : ((W.alloc (.cells #[.int .i64 k, Value.string ⟨List.toArray n⟩, Value.string ⟨List.toArray p⟩, .int .u64 x, .int .i64 y, .int .i64 z, .slice A ks.length c] 25)).alloc (.cells #[.int .i64 k, Value.string ⟨List.toArray n'⟩, Value.string ⟨List.toArray p'⟩, .int .u64 x', .int .i64 y', .int .i64 z', .slice A' ks'.length c'] 25)).cell? ⟨W.heap.size + 1, 0, none⟩ = some (.int .i64 k) := U2.cell 0
    have t1 : ((W.alloc (.cells #[.int .i64 k, Value.string ⟨List.toArray n⟩, Value.string ⟨List.toArray p⟩, .int .u64 x, .int .i64 y, .int .i64 z, .slice A ks.length c] 25)).alloc (.cells #[.int .i64 k, Value.string ⟨List.toArray n'⟩, Value.string ⟨List.toArray p'⟩, .int .u64 x', .int .i64 y', .int .i64 z', .slice A' ks'.length c'] 25)).cell? ⟨W.heap.size, 1, none⟩ = some (Value.string ⟨List.toArray n⟩) := T2.cell 1
    have uc1 : ((W.alloc (.cells #[.int .i64 k, Value.string ⟨List.toArray n⟩, Value.string ⟨List.toArray p⟩, .int .u64 x, .int .i64 y, .int .i64 z, .slice A ks.length c] 25)).alloc (.cells #[.int .i64 k, Value.string ⟨List.toArray n'⟩, Value.string ⟨List.toArray p'⟩, .int .u64 x', .int .i64 y', .int .i64 z', .slice A' ks'.length c'] 25)).cell? ⟨W.heap.size + 1, 1, none⟩ = some (Value.string ⟨List.toArray n'⟩) := U2.cell 1
    have t2 : ((W.alloc (.cells #[.int .i64 k, Value.string ⟨List.toArray n⟩, Value.string ⟨List.toArray p⟩, .int .u64 x, .int .i64 y, .int .i64 z, .slice A ks.length c] 25)).alloc (.cells #[.int .i64 k, Value.string ⟨List.toArray n'⟩, Value.string ⟨List.toArray p'⟩, .int .u64 x', .int .i64 y', .int .i64 z', .slice A' ks'.length c'] 25)).cell? ⟨W.heap.size, 2, none⟩ = some (Value.string ⟨List.toArray p⟩) := T2.cell 2
    have uc2 : ((W.alloc (.cells #[.int .i64 k, Value.string ⟨List.toArray n⟩, Value.string ⟨List.toArray p⟩, .int .u64 x, .int .i64 y, .int .i64 z, .slice A ks.length c] 25)).alloc (.cells #[.int .i64 k, Value.string ⟨List.toArray n'⟩, Value.string ⟨List.toArray p'⟩, .int .u64 x', .int .i64 y', .int .i64 z', .slice A' ks'.length c'] 25)).cell? ⟨W.heap.size + 1, 2, none⟩ = some (Value.string ⟨List.toArray p'⟩) := U2.cell 2
    have t3 : ((W.alloc (.cells #[.int .i64 k, Value.string ⟨List.toArray n⟩, Value.string ⟨List.toArray p⟩, .int .u64 x, .int .i64 y, .int .i64 z, .slice A ks.length c] 25)).alloc (.cells #[.int .i64 k, Value.string ⟨List.toArray n'⟩, Value.string ⟨List.toArray p'⟩, .int .u64 x', .int .i64 y', .int .i64 z', .slice A' ks'.length c'] 25)).cell? ⟨W.heap.size, 3, none⟩ = some (.int .u64 x) := T2.cell 3
    have uc3 : ((W.alloc (.cells #[.int .i64 k, Value.string ⟨List.toArray n⟩, Value.string ⟨List.toArray p⟩, .int .u64 x, .int .i64 y, .int .i64 z, .slice A ks.length c] 25)).alloc (.cells #[.int .i64 k, Value.string ⟨List.toArray n'⟩, Value.string ⟨List.toArray p'⟩, .int .u64 x', .int .i64 y', .int .i64 z', .slice A' ks'.length c'] 25)).cell? ⟨W.heap.size + 1, 3, none⟩ = some (.int .u64 x') := U2.cell 3
    have t4 : ((W.alloc (.cells #[.int .i64 k, Value.string ⟨List.toArray n⟩, Value.string ⟨List.toArray p⟩, .int .u64 x, .int .i64 y, .int .i64 z, .slice A ks.length c] 25)).alloc (.cells #[.int .i64 k, Value.string ⟨List.toArray n'⟩, Value.string ⟨List.toArray p'⟩, .int .u64 x', .int .i64 y', .int .i64 z', .slice A' ks'.length c'] 25)).cell? ⟨W.heap.size, 4, none⟩ = some (.int .i64 y) := T2.cell 4
    have uc4 : ((W.alloc (.cells #[.int .i64 k, Value.string ⟨List.toArray n⟩, Value.string ⟨List.toArray p⟩, .int .u64 x, .int .i64 y, .int .i64 z, .slice A ks.length c] 25)).alloc (.cells #[.int .i64 k, Value.string ⟨List.toArray n'⟩, Value.string ⟨List.toArray p'⟩, .int .u64 x', .int .i64 y', .int .i64 z', .slice A' ks'.length c'] 25)).cell? ⟨W.heap.size + 1, 4, none⟩ = some (.int .i64 y') := U2.cell 4
    have t5 : ((W.alloc (.cells #[.int .i64 k, Value.string ⟨List.toArray n⟩, Value.string ⟨List.toArray p⟩, .int .u64 x, .int .i64 y, .int .i64 z, .slice A ks.length c] 25)).alloc (.cells #[.int .i64 k, Value.string ⟨List.toArray n'⟩, Value.string ⟨List.toArray p'⟩, .int .u64 x', .int .i64 y', .int .i64 z', .slice A' ks'.length c'] 25)).cell? ⟨W.heap.size, 5, none⟩ = some (.int .i64 z) := T2.cell 5
    have uc5 : ((W.alloc (.cells #[.int .i64 k, Value.string ⟨List.toArray n⟩, Value.string ⟨List.toArray p⟩, .int .u64 x, .int .i64 y, .int .i64 z, .slice A ks.length c] 25)).alloc (.cells #[.int .i64 k, Value.string ⟨List.toArray n'⟩, Value.string ⟨List.toArray p'⟩, .int .u64 x', .int .i64 y', .int .i64 z', .slice A' ks'.length c'] 25)).cell? ⟨W.heap.size + 1, 5, none⟩ = some (.int .i64 z') := U2.cell 5
    have t6 : ((W.alloc (.cells #[.int .i64 k, Value.string ⟨List.toArray n⟩, Value.string ⟨List.toArray p⟩, .int .u64 x, .int .i64 y, .int .i64 z, .slice A ks.length c] 25)).alloc (.cells #[.int .i64 k, Value.string ⟨List.toArray n'⟩, Value.string ⟨List.toArray p'⟩, .int .u64 x', .int .i64 y', .int .i64 z', .slice A' ks'.length c'] 25)).cell? ⟨W.heap.size, 6, none⟩ = some (.slice A ks.length c) := T2.cell 6
    have uc6 : ((W.alloc (.cells #[.int .i64 k, Value.string ⟨List.toArray n⟩, Value.string ⟨List.toArray p⟩, .int .u64 x, .int .i64 y, .int .i64 z, .slice A ks.length c] 25)).alloc (.cells #[.int .i64 k, Value.string ⟨List.toArray n'⟩, Value.string ⟨List.toArray p'⟩, .int .u64 x', .int .i64 y', .int .i64 z', .slice A' ks'.length c'] 25)).cell? ⟨W.heap.size + 1, 6, none⟩ = some (.slice A' ks'.length c') := U2.cell 6
    go_enter Tryz.func14, Tryz.ntmps14
    go_wp2
    go_ret
    exact ⟨by rw [hF.out]; rfl, bA⟩
  subst e1
  by_cases e2 : p = p'
  rotate_left 1
  · have hF : Hid (R = false) := Lib.hid (by rw [hR.out, show (p == p') = false from (by simpa using e2)]; simp)
    have b2 : (p == p') = false := by simpa using e2
    have d2 : (p != p') = true := by simp only [bne, b2]; rfl
    clear e2
    have bA : Below W.heap.size W ((W.alloc (.cells #[.int .i64 k, Value.string ⟨List.toArray n⟩, Value.string ⟨List.toArray p⟩, .int .u64 x, .int .i64 y, .int .i64 z, .slice A ks.length c] 25)).alloc (.cells #[.int .i64 k, Value.string ⟨List.toArray n⟩, Value.string ⟨List.toArray p'⟩, .int .u64 x', .int .i64 y', .int .i64 z', .slice A' ks'.length c'] 25)) := ((Below.refl _ _).alloc (Nat.le_refl _) _).alloc (by simp) _
    have T2 := (Box.new W 25 #[.int .i64 k, Value.string ⟨List.toArray n⟩, Value.string ⟨List.toArray p⟩, .int .u64 x, .int .i64 y, .int .i64 z, .slice A ks.length c]).alloc (.cells #[.int .i64 k, Value.string ⟨List.toArray n⟩, Value.string ⟨List.toArray p'⟩, .int .u64 x', .int .i64 y', .int .i64 z', .slice A' ks'.length c'] 25)
    have U2 := Box.newAt (X := W.alloc (.cells #[.int .i64 k, Value.string ⟨List.toArray n⟩, Value.string ⟨List.toArray p⟩, .int .u64 x, .int .i64 y, .int .i64 z, .slice A ks.length c] 25)) (n := W.heap.size + 1) (by simp) 25 #[.int .i64 k, Value.string ⟨List.toArray n⟩, Value.string ⟨List.toArray p'⟩, .int .u64 x', .int .i64 y', .int .i64 z', .slice A' ks'.length c']
    have t0 : ((W.alloc (.cells #[.int .i64 k, Value.string ⟨List.toArray n⟩, Value.string ⟨List.toArray p⟩, .int .u64 x, .int .i64 y, .int .i64 z, .slice A ks.length c] 25)).alloc (.cells #[.int .i64 k, Value.string ⟨List.toArray n⟩, Value.string ⟨List.toArray p'⟩, .int .u64 x', .int .i64 y', .int .i64 z', .slice A' ks'.length c'] 25)).cell? ⟨W.heap.size, 0, none⟩ = some (.int .i64 k) := T2.cell 0
    have uc0 : ((W.alloc (.cells #[.int .i64 k, Value.string ⟨List.toArray n⟩, Value.string ⟨List.toArray p⟩, .int .u64 x, .int .i64 y, .int .i64 z, .slice A ks.length c] 25)).alloc (.cells #[.int .i64 k, Value.string ⟨List.toArray n⟩, Value.string ⟨List.toArray p'⟩, .int .u64 x', .int .i64 y', .int .i64 z', .slice A' ks'.length c'] 25)).cell? ⟨W.heap.size + 1, 0, none⟩ = some (.int .i64 k) := U2.cell 0
    have t1 : ((W.alloc (.cells #[.int .i64 k, Value.string ⟨List.toArray n⟩, Value.string ⟨List.toArray p⟩, .int .u64 x, .int .i64 y, .int .i64 z, .slice A ks.length c] 25)).alloc (.cells #[.int .i64 k, Value.string ⟨List.toArray n⟩, Value.string ⟨List.toArray p'⟩, .int .u64 x', .int .i64 y', .int .i64 z', .slice A' ks'.length c'] 25)).cell? ⟨W.heap.size, 1, none⟩ = some (Value.string ⟨List.toArray n⟩) := T2.cell 1
    have uc1 : ((W.alloc (.cells #[.int .i64 k, Value.string ⟨List.toArray n⟩, Value.string ⟨List.toArray p⟩, .int .u64 x, .int .i64 y, .int .i64 z, .slice A ks.length c] 25)).alloc (.cells #[.int .i64 k, Value.string ⟨List.toArray n⟩, Value.string ⟨List.toArray p'⟩, .int .u64 x', .int .i64 y', .int .i64 z', .slice A' ks'.length c'] 25)).cell? ⟨W.heap.size + 1, 1, none⟩ = some (Value.string ⟨List.toArray n⟩) := U2.cell 1
    have t2 : ((W.alloc (.cells #[.int .i64 k, Value.string ⟨List.toArray n⟩, Value.string ⟨List.toArray p⟩, .int .u64 x, .int .i64 y, .int .i64 z, .slice A ks.length c] 25)).alloc (.cells #[.int .i64 k, Value.string ⟨List.toArray n⟩, Value.string ⟨List.toArray p'⟩, .int .u64 x', .int .i64 y', .int .i64 z', .slice A' ks'.length c'] 25)).cell? ⟨W.heap.size, 2, none⟩ = some (Value.string ⟨List.toArray p⟩) := T2.cell 2
    have uc2 : ((W.alloc (.cells #[.int .i64 k, Value.string ⟨List.toArray n⟩, Value.string ⟨List.toArray p⟩, .int .u64 x, .int .i64 y, .int .i64 z, .slice A ks.length c] 25)).alloc (.cells #[.int .i64 k, Value.string ⟨List.toArray n⟩, Value.string ⟨List.toArray p'⟩, .int .u64 x', .int .i64 y', .int .i64 z', .slice A' ks'.length c'] 25)).cell? ⟨W.heap.size + 1, 2, none⟩ = some (Value.string ⟨List.toArray p'⟩) := U2.cell 2
    have t3 : ((W.alloc (.cells #[.int .i64 k, Value.string ⟨List.toArray n⟩, Value.string ⟨List.toArray p⟩, .int .u64 x, .int .i64 y, .int .i64 z, .slice A ks.length c] 25)).alloc (.cells #[.int .i64 k, Value.string ⟨List.toArray n⟩, Value.string ⟨List.toArray p'⟩, .int .u64 x', .int .i64 y', .int .i64 z', .slice A' ks'.length c'] 25)).cell? ⟨W.heap.size, 3, none⟩ = some (.int .u64 x) := T2.cell 3
    have uc3 : ((W.alloc (.cells #[.int .i64 k, Value.string ⟨List.toArray n⟩, Value.string ⟨List.toArray p⟩, .int .u64 x, .int .i64 y, .int .i64 z, .slice A ks.length c] 25)).alloc (.cells #[.int .i64 k, Value.string ⟨List.toArray n⟩, Value.string ⟨List.toArray p'⟩, .int .u64 x', .int .i64 y', .int .i64 z', .slice A' ks'.length c'] 25)).cell? ⟨W.heap.size + 1, 3, none⟩ = some (.int .u64 x') := U2.cell 3
    have t4 : ((W.alloc (.cells #[.int .i64 k, Value.string ⟨List.toArray n⟩, Value.string ⟨List.toArray p⟩, .int .u64 x, .int .i64 y, .int .i64 z, .slice A ks.length c] 25)).alloc (.cells #[.int .i64 k, Value.string ⟨List.toArray n⟩, Value.string ⟨List.toArray p'⟩, .int .u64 x', .int .i64 y', .int .i64 z', .slice A' ks'.length c'] 25)).cell? ⟨W.heap.size, 4, none⟩ = some (.int .i64 y) := T2.cell 4
    have uc4 : ((W.alloc (.cells #[.int .i64 k, Value.string ⟨List.toArray n⟩, Value.string ⟨List.toArray p⟩, .int .u64 x, .int .i64 y, .int .i64 z, .slice A ks.length c] 25)).alloc (.cells #[.int .i64 k, Value.string ⟨List.toArray n⟩, Value.string ⟨List.toArray p'⟩, .int .u64 x', .int .i64 y', .int .i64 z', .slice A' ks'.length c'] 25)).cell? ⟨W.heap.size + 1, 4, none⟩ = some (.int .i64 y') := U2.cell 4
    have t5 : ((W.alloc (.cells #[.int .i64 k, Value.string ⟨List.toArray n⟩, Value.string ⟨List.toArray p⟩, .int .u64 x, .int .i64 y, .int .i64 z, .slice A ks.length c] 25)).alloc (.cells #[.int .i64 k, Value.string ⟨List.toArray n⟩, Value.string ⟨List.toArray p'⟩, .int .u64 x', .int .i64 y', .int .i64 z', .slice A' ks'.length c'] 25)).cell? ⟨W.heap.size, 5, none⟩ = some (.int .i64 z) := T2.cell 5
    have uc5 : ((W.alloc (.cells #[.int .i64 k, Value.string ⟨List.toArray n⟩, Value.string ⟨List.toArray p⟩, .int .u64 x, .int .i64 y, .int .i64 z, .slice A ks.length c] 25)).alloc (.cells #[.int .i64 k, Value.string ⟨List.toArray n⟩, Value.string ⟨List.toArray p'⟩, .int .u64 x', .int .i64 y', .int .i64 z', .slice A' ks'.length c'] 25)).cell? ⟨W.heap.size + 1, 5, none⟩ = some (.int .i64 z') := U2.cell 5
    have t6 : ((W.alloc (.cells #[.int .i64 k, Value.string ⟨List.toArray n⟩, Value.string ⟨List.toArray p⟩, .int .u64 x, .int .i64 y, .int .i64 z, .slice A ks.length c] 25)).alloc (.cells #[.int .i64 k, Value.string ⟨List.toArray n⟩, Value.string ⟨List.toArray p'⟩, .int .u64 x', .int .i64 y', .int .i64 z', .slice A' ks'.length c'] 25)).cell? ⟨W.heap.size, 6, none⟩ = some (.slice A ks.length c) := T2.cell 6
    have uc6 : ((W.alloc (.cells #[.int .i64 k, Value.string ⟨List.toArray n⟩, Value.string ⟨List.toArray p⟩, .int .u64 x, .int .i64 y, .int .i64 z, .slice A ks.length c] 25)).alloc (.cells #[.int .i64 k, Value.string ⟨List.toArray n⟩, Value.string ⟨List.toArray p'⟩, .int .u64 x', .int .i64 y', .int .i64 z', .slice A' ks'.length c'] 25)).cell? ⟨W.heap.size + 1, 6, none⟩ = some (.slice A' ks'.length c') := U2.cell 6
    go_enter Tryz.func14, Tryz.ntmps14
    go_wp2
    go_ret
    exact ⟨by rw [hF.out]; rfl, bA⟩
  subst e2
  by_cases e3 : x = x'
  rotate_left 1
  · have hF : Hid (R = false) := Lib.hid (by rw [hR.out, show (x == x') = false from (by simpa using e3)]; simp)
    have b3 : ((x : Int) == (x' : Int)) = false := by simp; omega
    have d3 : ((x : Int) != (x' : Int)) = true := by simp only [bne, b3]; rfl
    clear e3
    have bA : Below W.heap.size W ((W.alloc (.cells #[.int .i64 k, Value.string ⟨List.toArray n⟩, Value.string ⟨List.toArray p⟩, .int .u64 x, .int .i64 y, .int .i64 z, .slice A ks.length c] 25)).alloc (.cells #[.int .i64 k, Value.string ⟨List.toArray n⟩, Value.string ⟨List.toArray p⟩, .int .u64 x', .int .i64 y', .int .i64 z', .slice A' ks'.length c'] 25)) := ((Below.refl _ _).alloc (Nat.le_refl _) _).alloc (by simp) _
    have T2 := (Box.new W 25 #[.int .i64 k, Value.string ⟨List.toArray n⟩, Value.string ⟨List.toArray p⟩, .int .u64 x, .int .i64 y, .int .i64 z, .slice A ks.length c]).alloc (.cells #[.int .i64 k, Value.string ⟨List.toArray n⟩, Value.string ⟨List.toArray p⟩, .int .u64 x', .int .i64 y', .int .i64 z', .slice A' ks'.length c'] 25)
    have U2 := Box.newAt (X := W.alloc (.cells #[.int .i64 k, Value.string ⟨List.toArray n⟩, Value.string ⟨List.toArray p⟩, .int .u64 x, .int .i64 y, .int .i64 z, .slice A ks.length c] 25)) (n := W.heap.size + 1) (by simp) 25 #[.int .i64 k, Value.string ⟨List.toArray n⟩, Value.string ⟨List.toArray p⟩, .int .u64 x', .int .i64 y', .int .i64 z', .slice A' ks'.length c']
    have t0 : ((W.alloc (.cells #[.int .i64 k, Value.string ⟨List.toArray n⟩, Value.string ⟨List.toArray p⟩, .int .u64 x, .int .i64 y, .int .i64 z, .slice A ks.length c] 25)).alloc (.cells #[.int .i64 k, Value.string ⟨List.toArray n⟩, Value.string ⟨List.toArray p⟩, .int .u64 x', .int .i64 y', .int .i64 z', .slice A' ks'.length c'] 25)).cell? ⟨W.heap.size, 0, none⟩ = some (.int .i64 k) := T2.cell 0
    have uc0 : ((W.alloc (.cells #[.int .i64 k, Value.string ⟨List.toArray n⟩, Value.string ⟨List.toArray p⟩, .int .u64 x, .int .i64 y, .int .i64 z, .slice A ks.length c] 25)).alloc (.cells #[.int .i64 k, Value.string ⟨List.toArray n⟩, Value.string ⟨List.toArray p⟩, .int .u64 x', .int .i64 y', .int .i64 z', .slice A' ks'.length c'] 25)).cell? ⟨W.heap.size + 1, 0, none⟩ = some (.int .i64 k) := U2.cell 0
    have t1 : ((W.alloc (.cells #[.int .i64 k, Value.string ⟨List.toArray n⟩, Value.string ⟨List.toArray p⟩, .int .u64 x, .int .i64 y, .int .i64 z, .slice A ks.length c] 25)).alloc (.cells #[.int .i64 k, Value.string ⟨List.toArray n⟩, Value.string ⟨List.toArray p⟩, .int .u64 x', .int .i64 y', .int .i64 z', .slice A' ks'.length c'] 25)).cell? ⟨W.heap.size, 1, none⟩ = some (Value.string ⟨List.toArray n⟩) := T2.cell 1
    have uc1 : ((W.alloc (.cells #[.int .i64 k, Value.string ⟨List.toArray n⟩, Value.string ⟨List.toArray p⟩, .int .u64 x, .int .i64 y, .int .i64 z, .slice A ks.length c] 25)).alloc (.cells #[.int .i64 k, Value.string ⟨List.toArray n⟩, Value.string ⟨List.toArray p⟩, .int .u64 x', .int .i64 y', .int .i64 z', .slice A' ks'.length c'] 25)).cell? ⟨W.heap.size + 1, 1, none⟩ = some (Value.string ⟨List.toArray n⟩) := U2.cell 1
    have t2 : ((W.alloc (.cells #[.int .i64 k, Value.string ⟨List.toArray n⟩, Value.string ⟨List.toArray p⟩, .int .u64 x, .int .i64 y, .int .i64 z, .slice A ks.length c] 25)).alloc (.cells #[.int .i64 k, Value.string ⟨List.toArray n⟩, Value.string ⟨List.toArray p⟩, .int .u64 x', .int .i64 y', .int .i64 z', .slice A' ks'.length c'] 25)).cell? ⟨W.heap.size, 2, none⟩ = some (Value.string ⟨List.toArray p⟩) := T2.cell 2
    have uc2 : ((W.alloc (.cells #[.int .i64 k, Value.string ⟨List.toArray n⟩, Value.string ⟨List.toArray p⟩, .int .u64 x, .int .i64 y, .int .i64 z, .slice A ks.length c] 25)).alloc (.cells #[.int .i64 k, Value.string ⟨List.toArray n⟩, Value.string ⟨List.toArray p⟩, .int .u64 x', .int .i64 y', .int .i64 z', .slice A' ks'.length c'] 25)).cell? ⟨W.heap.size + 1, 2, none⟩ = some (Value.string ⟨List.toArray p⟩) := U2.cell 2
    have t3 : ((W.alloc (.cells #[.int .i64 k, Value.string ⟨List.toArray n⟩, Value.string ⟨List.toArray p⟩, .int .u64 x, .int .i64 y, .int .i64 z, .slice A ks.length c] 25)).alloc (.cells #[.int .i64 k, Value.string ⟨List.toArray n⟩, Value.string ⟨List.toArray p⟩, .int .u64 x', .int .i64 y', .int .i64 z', .slice A' ks'.length c'] 25)).cell? ⟨W.heap.size, 3, none⟩ = some (.int .u64 x) := T2.cell 3
    have uc3 : ((W.alloc (.cells #[.int .i64 k, Value.string ⟨List.toArray n⟩, Value.string ⟨List.toArray p⟩, .int .u64 x, .int .i64 y, .int .i64 z, .slice A ks.length c] 25)).alloc (.cells #[.int .i64 k, Value.string ⟨List.toArray n⟩, Value.string ⟨List.toArray p⟩, .int .u64 x', .int .i64 y', .int .i64 z', .slice A' ks'.length c'] 25)).cell? ⟨W.heap.size + 1, 3, none⟩ = some (.int .u64 x') := U2.cell 3
    have t4 : ((W.alloc (.cells #[.int .i64 k, Value.string ⟨List.toArray n⟩, Value.string ⟨List.toArray p⟩, .int .u64 x, .int .i64 y, .int .i64 z, .slice A ks.length c] 25)).alloc (.cells #[.int .i64 k, Value.string ⟨List.toArray n⟩, Value.string ⟨List.toArray p⟩, .int .u64 x', .int .i64 y', .int .i64 z', .slice A' ks'.length c'] 25)).cell? ⟨W.heap.size, 4, none⟩ = some (.int .i64 y) := T2.cell 4
    have uc4 : ((W.alloc (.cells #[.int .i64 k, Value.string ⟨List.toArray n⟩, Value.string ⟨List.toArray p⟩, .int .u64 x, .int .i64 y, .int .i64 z, .slice A ks.length c] 25)).alloc (.cells #[.int .i64 k, Value.string ⟨List.toArray n⟩, Value.string ⟨List.toArray p⟩, .int .u64 x', .int .i64 y', .int .i64 z', .slice A' ks'.length c'] 25)).cell? ⟨W.heap.size + 1, 4, none⟩ = some (.int .i64 y') := U2.cell 4
    have t5 : ((W.alloc (.cells #[.int .i64 k, Value.string ⟨List.toArray n⟩, Value.string ⟨List.toArray p⟩, .int .u64 x, .int .i64 y, .int .i64 z, .slice A ks.length c] 25)).alloc (.cells #[.int .i64 k, Value.string ⟨List.toArray n⟩, Value.string ⟨List.toArray p⟩, .int .u64 x', .int .i64 y', .int .i64 z', .slice A' ks'.length c'] 25)).cell? ⟨W.heap.size, 5, none⟩ = some (.int .i64 z) := T2.cell 5
    have uc5 : ((W.alloc (.cells #[.int .i64 k, Value.string ⟨List.toArray n⟩, Value.string ⟨List.toArray p⟩, .int .u64 x, .int .i64 y, .int .i64 z, .slice A ks.length c] 25)).alloc (.cells #[.int .i64 k, Value.string ⟨List.toArray n⟩, Value.string ⟨List.toArray p⟩, .int .u64 x', .int .i64 y', .int .i64 z', .slice A' ks'.length c'] 25)).cell? ⟨W.heap.size + 1, 5, none⟩ = some (.int .i64 z') := U2.cell 5
    have t6 : ((W.alloc (.cells #[.int .i64 k, Value.string ⟨List.toArray n⟩, Value.string ⟨List.toArray p⟩, .int .u64 x, .int .i64 y, .int .i64 z, .slice A ks.length c] 25)).alloc (.cells #[.int .i64 k, Value.string ⟨List.toArray n⟩, Value.string ⟨List.toArray p⟩, .int .u64 x', .int .i64 y', .int .i64 z', .slice A' ks'.length c'] 25)).cell? ⟨W.heap.size, 6, none⟩ = some (.slice A ks.length c) := T2.cell 6
    have uc6 : ((W.alloc (.cells #[.int .i64 k, Value.string ⟨List.toArray n⟩, Value.string ⟨List.toArray p⟩, .int .u64 x, .int .i64 y, .int .i64 z, .slice A ks.length c] 25)).alloc (.cells #[.int .i64 k, Value.string ⟨List.toArray n⟩, Value.string ⟨List.toArray p⟩, .int .u64 x', .int .i64 y', .int .i64 z', .slice A' ks'.length c'] 25)).cell? ⟨W.heap.size + 1, 6, none⟩ = some (.slice A' ks'.length c') := U2.cell 6
    go_enter Tryz.func14, Tryz.ntmps14
    go_wp2
    go_ret
    exact ⟨by rw [hF.out]; rfl, bA⟩
  subst e3
  by_cases e4 : y = y'
  rotate_left 1
  · have hF : Hid (R = false) := Lib.hid (by rw [hR.out, show (y == y') = false from (by simpa using e4)]; simp)
    have b4 : (y == y') = false := by simpa using e4
    have d4 : (y != y') = true := by simp only [bne, b4]; rfl
    clear e4
    have bA : Below W.heap.size W ((W.alloc (.cells #[.int .i64 k, Value.string ⟨List.toArray n⟩, Value.string ⟨List.toArray p⟩, .int .u64 x, .int .i64 y, .int .i64 z, .slice A ks.length c] 25)).alloc (.cells #[.int .i64 k, Value.string ⟨List.toArray n⟩, Value.string ⟨List.toArray p⟩, .int .u64 x, .int .i64 y', .int .i64 z', .slice A' ks'.length c'] 25)) := ((Below.refl _ _).alloc (Nat.le_refl _) _).alloc (by simp) _
    have T2 := (Box.new W 25 #[.int .i64 k, Value.string ⟨List.toArray n⟩, Value.string ⟨List.toArray p⟩, .int .u64 x, .int .i64 y, .int .i64 z, .slice A ks.length c]).alloc (.cells #[.int .i64 k, Value.string ⟨List.toArray n⟩, Value.string ⟨List.toArray p⟩, .int .u64 x, .int .i64 y', .int .i64 z', .slice A' ks'.length c'] 25)
    have U2 := Box.newAt (X := W.alloc (.cells #[.int .i64 k, Value.string ⟨List.toArray n⟩, Value.string ⟨List.toArray p⟩, .int .u64 x, .int .i64 y, .int .i64 z, .slice A ks.length c] 25)) (n := W.heap.size + 1) (by simp) 25 #[.int .i64 k, Value.string ⟨List.toArray n⟩, Value.string ⟨List.toArray p⟩, .int .u64 x, .int .i64 y', .int .i64 z', .slice A' ks'.length c']
    have t0 : ((W.alloc (.cells #[.int .i64 k, Value.string ⟨List.toArray n⟩, Value.string ⟨List.toArray p⟩, .int .u64 x, .int .i64 y, .int .i64 z, .slice A ks.length c] 25)).alloc (.cells #[.int .i64 k, Value.string ⟨List.toArray n⟩, Value.string ⟨List.toArray p⟩, .int .u64 x, .int .i64 y', .int .i64 z', .slice A' ks'.length c'] 25)).cell? ⟨W.heap.size, 0, none⟩ = some (.int .i64 k) := T2.cell 0
    have uc0 : ((W.alloc (.cells #[.int .i64 k, Value.string ⟨List.toArray n⟩, Value.string ⟨List.toArray p⟩, .int .u64 x, .int .i64 y, .int .i64 z, .slice A ks.length c] 25)).alloc (.cells #[.int .i64 k, Value.string ⟨List.toArray n⟩, Value.string ⟨List.toArray p⟩, .int .u64 x, .int .i64 y', .int .i64 z', .slice A' ks'.length c'] 25)).cell? ⟨W.heap.size + 1, 0, none⟩ = some (.int .i64 k) := U2.cell 0
    have t1 : ((W.alloc (.cells #[.int .i64 k, Value.string ⟨List.toArray n⟩, Value.string ⟨List.toArray p⟩, .int .u64 x, .int .i64 y, .int .i64 z, .slice A ks.length c] 25)).alloc (.cells #[.int .i64 k, Value.string ⟨List.toArray n⟩, Value.string ⟨List.toArray p⟩, .int .u64 x, .int .i64 y', .int .i64 z', .slice A' ks'.length c'] 25)).cell? ⟨W.heap.size, 1, none⟩ = some (Value.string ⟨List.toArray n⟩) := T2.cell 1
    have uc1 : ((W.alloc (.cells #[.int .i64 k, Value.string ⟨List.toArray n⟩, Value.string ⟨List.toArray p⟩, .int .u64 x, .int .i64 y, .int .i64 z, .slice A ks.length c] 25)).alloc (.cells #[.int .i64 k, Value.string ⟨List.toArray n⟩, Value.string ⟨List.toArray p⟩, .int .u64 x, .int .i64 y', .int .i64 z', .slice A' ks'.length c'] 25)).cell? ⟨W.heap.size + 1, 1, none⟩ = some (Value.string ⟨List.toArray n⟩) := U2.cell 1
    have t2 : ((W.alloc (.cells #[.int .i64 k, Value.string ⟨List.toArray n⟩, Value.string ⟨List.toArray p⟩, .int .u64 x, .int .i64 y, .int .i64 z, .slice A ks.length c] 25)).alloc (.cells #[.int .i64 k, Value.string ⟨List.toArray n⟩, Value.string ⟨List.toArray p⟩, .int .u64 x, .int .i64 y', .int .i64 z', .slice A' ks'.length c'] 25)).cell? ⟨W.heap.size, 2, none⟩ = some (Value.string ⟨List.toArray p⟩) := T2.cell 2
    have uc2 : ((W.alloc (.cells #[.int .i64 k, Value.string ⟨List.toArray n⟩, Value.string ⟨List.toArray p⟩, .int .u64 x, .int .i64 y, .int .i64 z, .slice A ks.length c] 25)).alloc (.cells #[.int .i64 k, Value.string ⟨List.toArray n⟩, Value.string ⟨List.toArray p⟩, .int .u64 x, .int .i64 y', .int .i64 z', .slice A' ks'.length c'] 25)).cell? ⟨W.heap.size + 1, 2, none⟩ = some (Value.string ⟨List.toArray p⟩) := U2.cell 2
    have t3 : ((W.alloc (.cells #[.int .i64 k, Value.string ⟨List.toArray n⟩, Value.string ⟨List.toArray p⟩, .int .u64 x, .int .i64 y, .int .i64 z, .slice A ks.length c] 25)).alloc (.cells #[.int .i64 k, Value.string ⟨List.toArray n⟩, Value.string ⟨List.toArray p⟩, .int .u64 x, .int .i64 y', .int .i64 z', .slice A' ks'.length c'] 25)).cell? ⟨W.heap.size, 3, none⟩ = some (.int .u64 x) := T2.cell 3
    have uc3 : ((W.alloc (.cells #[.int .i64 k, Value.string ⟨List.toArray n⟩, Value.string ⟨List.toArray p⟩, .int .u64 x, .int .i64 y, .int .i64 z, .slice A ks.length c] 25)).alloc (.cells #[.int .i64 k, Value.string ⟨List.toArray n⟩, Value.string ⟨List.toArray p⟩, .int .u64 x, .int .i64 y', .int .i64 z', .slice A' ks'.length c'] 25)).cell? ⟨W.heap.size + 1, 3, none⟩ = some (.int .u64 x) := U2.cell 3
    have t4 : ((W.alloc (.cells #[.int .i64 k, Value.string ⟨List.toArray n⟩, Value.string ⟨List.toArray p⟩, .int .u64 x, .int .i64 y, .int .i64 z, .slice A ks.length c] 25)).alloc (.cells #[.int .i64 k, Value.string ⟨List.toArray n⟩, Value.string ⟨List.toArray p⟩, .int .u64 x, .int .i64 y', .int .i64 z', .slice A' ks'.length c'] 25)).cell? ⟨W.heap.size, 4, none⟩ = some (.int .i64 y) := T2.cell 4
    have uc4 : ((W.alloc (.cells #[.int .i64 k, Value.string ⟨List.toArray n⟩, Value.string ⟨List.toArray p⟩, .int .u64 x, .int .i64 y, .int .i64 z, .slice A ks.length c] 25)).alloc (.cells #[.int .i64 k, Value.string ⟨List.toArray n⟩, Value.string ⟨List.toArray p⟩, .int .u64 x, .int .i64 y', .int .i64 z', .slice A' ks'.length c'] 25)).cell? ⟨W.heap.size + 1, 4, none⟩ = some (.int .i64 y') := U2.cell 4
    have t5 : ((W.alloc (.cells #[.int .i64 k, Value.string ⟨List.toArray n⟩, Value.string ⟨List.toArray p⟩, .int .u64 x, .int .i64 y, .int .i64 z, .slice A ks.length c] 25)).alloc (.cells #[.int .i64 k, Value.string ⟨List.toArray n⟩, Value.string ⟨List.toArray p⟩, .int .u64 x, .int .i64 y', .int .i64 z', .slice A' ks'.length c'] 25)).cell? ⟨W.heap.size, 5, none⟩ = some (.int .i64 z) := T2.cell 5
    have uc5 : ((W.alloc (.cells #[.int .i64 k, Value.string ⟨List.toArray n⟩, Value.string ⟨List.toArray p⟩, .int .u64 x, .int .i64 y, .int .i64 z, .slice A ks.length c] 25)).alloc (.cells #[.int .i64 k, Value.string ⟨List.toArray n⟩, Value.string ⟨List.toArray p⟩, .int .u64 x, .int .i64 y', .int .i64 z', .slice A' ks'.length c'] 25)).cell? ⟨W.heap.size + 1, 5, none⟩ = some (.int .i64 z') := U2.cell 5
    have t6 : ((W.alloc (.cells #[.int .i64 k, Value.string ⟨List.toArray n⟩, Value.string ⟨List.toArray p⟩, .int .u64 x, .int .i64 y, .int .i64 z, .slice A ks.length c] 25)).alloc (.cells #[.int .i64 k, Value.string ⟨List.toArray n⟩, Value.string ⟨List.toArray p⟩, .int .u64 x, .int .i64 y', .int .i64 z', .slice A' ks'.length c'] 25)).cell? ⟨W.heap.size, 6, none⟩ = some (.slice A ks.length c) := T2.cell 6
    have uc6 : ((W.alloc (.cells #[.int .i64 k, Value.string ⟨List.toArray n⟩, Value.string ⟨List.toArray p⟩, .int .u64 x, .int .i64 y, .int .i64 z, .slice A ks.length c] 25)).alloc (.cells #[.int .i64 k, Value.string ⟨List.toArray n⟩, Value.string ⟨List.toArray p⟩, .int .u64 x, .int .i64 y', .int .i64 z', .slice A' ks'.length c'] 25)).cell? ⟨W.heap.size + 1, 6, none⟩ = some (.slice A' ks'.length c') := U2.cell 6
    go_enter Tryz.func14, Tryz.ntmps14
    go_wp2
    go_ret
    exact ⟨by rw [hF.out]; rfl, bA⟩
  subst e4
  by_cases e5 : z = z'
  rotate_left 1
  · have hF : Hid (R = false) := Lib.hid (by rw [hR.out, show (z == z') = false from (by simpa using e5)]; simp)
    have b5 : (z == z') = false := by simpa using e5
    have d5 : (z != z') = true := by simp only [bne, b5]; rfl
    clear e5
    have bA : Below W.heap.size W ((W.alloc (.cells #[.int .i64 k, Value.string ⟨List.toArray n⟩, Value.string ⟨List.toArray p⟩, .int .u64 x, .int .i64 y, .int .i64 z, .slice A ks.length c] 25)).alloc (.cells #[.int .i64 k, Value.string ⟨List.toArray n⟩, Value.string ⟨List.toArray p⟩, .int .u64 x, .int .i64 y, .int .i64 z', .slice A' ks'.length c'] 25)) := ((Below.refl _ _).alloc (Nat.le_refl _) _).alloc (by simp) _
    have T2 := (Box.new W 25 #[.int .i64 k, Value.string ⟨List.toArray n⟩, Value.string ⟨List.toArray p⟩, .int .u64 x, .int .i64 y, .int .i64 z, .slice A ks.length c]).alloc (.cells #[.int .i64 k, Value.string ⟨List.toArray n⟩, Value.string ⟨List.toArray p⟩, .int .u64 x, .int .i64 y, .int .i64 z', .slice A' ks'.length c'] 25)
    have U2 := Box.newAt (X := W.alloc (.cells #[.int .i64 k, Value.string ⟨List.toArray n⟩, Value.string ⟨List.toArray p⟩, .int .u64 x, .int .i64 y, .int .i64 z, .slice A ks.length c] 25)) (n := W.heap.size + 1) (by simp) 25 #[.int .i64 k, Value.string ⟨List.toArray n⟩, Value.string ⟨List.toArray p⟩, .int .u64 x, .int .i64 y, .int .i64 z', .slice A' ks'.length c']
    have t0 : ((W.alloc (.cells #[.int .i64 k, Value.string ⟨List.toArray n⟩, Value.string ⟨List.toArray p⟩, .int .u64 x, .int .i64 y, .int .i64 z, .slice A ks.length c] 25)).alloc (.cells #[.int .i64 k, Value.string ⟨List.toArray n⟩, Value.string ⟨List.toArray p⟩, .int .u64 x, .int .i64 y, .int .i64 z', .slice A' ks'.length c'] 25)).cell? ⟨W.heap.size, 0, none⟩ = some (.int .i64 k) := T2.cell 0
    have uc0 : ((W.alloc (.cells #[.int .i64 k, Value.string ⟨List.toArray n⟩, Value.string ⟨List.toArray p⟩, .int .u64 x, .int .i64 y, .int .i64 z, .slice A ks.length c] 25)).alloc (.cells #[.int .i64 k, Value.string ⟨List.toArray n⟩, Value.string ⟨List.toArray p⟩, .int .u64 x, .int .i64 y, .int .i64 z', .slice A' ks'.length c'] 25)).cell? ⟨W.heap.size + 1, 0, none⟩ = some (.int .i64 k) := U2.cell 0
    have t1 : ((W.alloc (.cells #[.int .i64 k, Value.string ⟨List.toArray n⟩, Value.string ⟨List.toArray p⟩, .int .u64 x, .int .i64 y, .int .i64 z, .slice A ks.length c] 25)).alloc (.cells #[.int .i64 k, Value.string ⟨List.toArray n⟩, Value.string ⟨List.toArray p⟩, .int .u64 x, .int .i64 y, .int .i64 z', .slice A' ks'.length c'] 25)).cell? ⟨W.heap.size, 1, none⟩ = some (Value.string ⟨List.toArray n⟩) := T2.cell 1
    have uc1 : ((W.alloc (.cells #[.int .i64 k, Value.string ⟨List.toArray n⟩, Value.string ⟨List.toArray p⟩, .int .u64 x, .int .i64 y, .int .i64 z, .slice A ks.length c] 25)).alloc (.cells #[.int .i64 k, Value.string ⟨List.toArray n⟩, Value.string ⟨List.toArray p⟩, .int .u64 x, .int .i64 y, .int .i64 z', .slice A' ks'.length c'] 25)).cell? ⟨W.heap.size + 1, 1, none⟩ = some (Value.string ⟨List.toArray n⟩) := U2.cell 1
    have t2 : ((W.alloc (.cells #[.int .i64 k, Value.string ⟨List.toArray n⟩, Value.string ⟨List.toArray p⟩, .int .u64 x, .int .i64 y, .int .i64 z, .slice A ks.length c] 25)).alloc (.cells #[.int .i64 k, Value.string ⟨List.toArray n⟩, Value.string ⟨List.toArray p⟩, .int .u64 x, .int .i64 y, .int .i64 z', .slice A' ks'.length c'] 25)).cell? ⟨W.heap.size, 2, none⟩ = some (Value.string ⟨List.toArray p⟩) := T2.cell 2
    have uc2 : ((W.alloc (.cells #[.int .i64 k, Value.string ⟨List.toArray n⟩, Value.string ⟨List.toArray p⟩, .int .u64 x, .int .i64 y, .int .i64 z, .slice A ks.length c] 25)).alloc (.cells #[.int .i64 k, Value.string ⟨List.toArray n⟩, Value.string ⟨List.toArray p⟩, .int .u64 x, .int .i64 y, .int .i64 z', .slice A' ks'.length c'] 25)).cell? ⟨W.heap.size + 1, 2, none⟩ = some (Value.string ⟨List.toArray p⟩) := U2.cell 2
    have t3 : ((W.alloc (.cells #[.int .i64 k, Value.string ⟨List.toArray n⟩, Value.string ⟨List.toArray p⟩, .int .u64 x, .int .i64 y, .int .i64 z, .slice A ks.length c] 25)).alloc (.cells #[.int .i64 k, Value.string ⟨List.toArray n⟩, Value.string ⟨List.toArray p⟩, .int .u64 x, .int .i64 y, .int .i64 z', .slice A' ks'.length c'] 25)).cell? ⟨W.heap.size, 3, none⟩ = some (.int .u64 x) := T2.cell 3
    have uc3 : ((W.alloc (.cells #[.int .i64 k, Value.string ⟨List.toArray n⟩, Value.string ⟨List.toArray p⟩, .int .u64 x, .int .i64 y, .int .i64 z, .slice A ks.length c] 25)).alloc (.cells #[.int .i64 k, Value.string ⟨List.toArray n⟩, Value.string ⟨List.toArray p⟩, .int .u64 x, .int .i64 y, .int .i64 z', .slice A' ks'.length c'] 25)).cell? ⟨W.heap.size + 1, 3, none⟩ = some (.int .u64 x) := U2.cell 3
    have t4 : ((W.alloc (.cells #[.int .i64 k, Value.string ⟨List.toArray n⟩, Value.string ⟨List.toArray p⟩, .int .u64 x, .int .i64 y, .int .i64 z, .slice A ks.length c] 25)).alloc (.cells #[.int .i64 k, Value.string ⟨List.toArray n⟩, Value.string ⟨List.toArray p⟩, .int .u64 x, .int .i64 y, .int .i64 z', .slice A' ks'.length c'] 25)).cell? ⟨W.heap.size, 4, none⟩ = some (.int .i64 y) := T2.cell 4
    have uc4 : ((W.alloc (.cells #[.int .i64 k, Value.string ⟨List.toArray n⟩, Value.string ⟨List.toArray p⟩, .int .u64 x, .int .i64 y, .int .i64 z, .slice A ks.length c] 25)).alloc (.cells #[.int .i64 k, Value.string ⟨List.toArray n⟩, Value.string ⟨List.toArray p⟩, .int .u64 x, .int .i64 y, .int .i64 z', .slice A' ks'.length c'] 25)).cell? ⟨W.heap.size + 1, 4, none⟩ = some (.int .i64 y) := U2.cell 4
    have t5 : ((W.alloc (.cells #[.int .i64 k, Value.string ⟨List.toArray n⟩, Value.string ⟨List.toArray p⟩, .int .u64 x, .int .i64 y, .int .i64 z, .slice A ks.length c] 25)).alloc (.cells #[.int .i64 k, Value.string ⟨List.toArray n⟩, Value.string ⟨List.toArray p⟩, .int .u64 x, .int .i64 y, .int .i64 z', .slice A' ks'.length c'] 25)).cell? ⟨W.heap.size, 5, none⟩ = some (.int .i64 z) := T2.cell 5
    have uc5 : ((W.alloc (.cells #[.int .i64 k, Value.string ⟨List.toArray n⟩, Value.string ⟨List.toArray p⟩, .int .u64 x, .int .i64 y, .int .i64 z, .slice A ks.length c] 25)).alloc (.cells #[.int .i64 k, Value.string ⟨List.toArray n⟩, Value.string ⟨List.toArray p⟩, .int .u64 x, .int .i64 y, .int .i64 z', .slice A' ks'.length c'] 25)).cell? ⟨W.heap.size + 1, 5, none⟩ = some (.int .i64 z') := U2.cell 5
    have t6 : ((W.alloc (.cells #[.int .i64 k, Value.string ⟨List.toArray n⟩, Value.string ⟨List.toArray p⟩, .int .u64 x, .int .i64 y, .int .i64 z, .slice A ks.length c] 25)).alloc (.cells #[.int .i64 k, Value.string ⟨List.toArray n⟩, Value.string ⟨List.toArray p⟩, .int .u64 x, .int .i64 y, .int .i64 z', .slice A' ks'.length c'] 25)).cell? ⟨W.heap.size, 6, none⟩ = some (.slice A ks.length c) := T2.cell 6
    have uc6 : ((W.alloc (.cells #[.int .i64 k, Value.string ⟨List.toArray n⟩, Value.string ⟨List.toArray p⟩, .int .u64 x, .int .i64 y, .int .i64 z, .slice A ks.length c] 25)).alloc (.cells #[.int .i64 k, Value.string ⟨List.toArray n⟩, Value.string ⟨List.toArray p⟩, .int .u64 x, .int .i64 y, .int .i64 z', .slice A' ks'.length c'] 25)).cell? ⟨W.heap.size + 1, 6, none⟩ = some (.slice A' ks'.length c') := U2.cell 6
    go_enter Tryz.func14, Tryz.ntmps14
    go_wp2
    go_ret
    exact ⟨by rw [hF.out]; rfl, bA⟩
  subst e5
  by_cases e6 : ks.length = ks'.length
  rotate_left 1
  · have hF : Hid (R = false) := Lib.hid (by rw [hR.out, show (ks.length == ks'.length) = false by simpa using e6]; simp)
    have b6 : ((ks.length : Int) == (ks'.length : Int)) = false := by simp; omega
    have d6 : ((ks.length : Int) != (ks'.length : Int)) = true := by simp only [bne, b6]; rfl
    clear e6
    have bA : Below W.heap.size W ((W.alloc (.cells #[.int .i64 k, Value.string ⟨List.toArray n⟩, Value.string ⟨List.toArray p⟩, .int .u64 x, .int .i64 y, .int .i64 z, .slice A ks.length c] 25)).alloc (.cells #[.int .i64 k, Value.string ⟨List.toArray n⟩, Value.string ⟨List.toArray p⟩, .int .u64 x, .int .i64 y, .int .i64 z, .slice A' ks'.length c'] 25)) := ((Below.refl _ _).alloc (Nat.le_refl _) _).alloc (by simp) _
    have T2 := (Box.new W 25 #[.int .i64 k, Value.string ⟨List.toArray n⟩, Value.string ⟨List.toArray p⟩, .int .u64 x, .int .i64 y, .int .i64 z, .slice A ks.length c]).alloc (.cells #[.int .i64 k, Value.string ⟨List.toArray n⟩, Value.string ⟨List.toArray p⟩, .int .u64 x, .int .i64 y, .int .i64 z, .slice A' ks'.length c'] 25)
    have U2 := Box.newAt (X := W.alloc (.cells #[.int .i64 k, Value.string ⟨List.toArray n⟩, Value.string ⟨List.toArray p⟩, .int .u64 x, .int .i64 y, .int .i64 z, .slice A ks.length c] 25)) (n := W.heap.size + 1) (by simp) 25 #[.int .i64 k, Value.string ⟨List.toArray n⟩, Value.string ⟨List.toArray p⟩, .int .u64 x, .int .i64 y, .int .i64 z, .slice A' ks'.length c']
    have t0 : ((W.alloc (.cells #[.int .i64 k, Value.string ⟨List.toArray n⟩, Value.string ⟨List.toArray p⟩, .int .u64 x, .int .i64 y, .int .i64 z, .slice A ks.length c] 25)).alloc (.cells #[.int .i64 k, Value.string ⟨List.toArray n⟩, Value.string ⟨List.toArray p⟩, .int .u64 x, .int .i64 y, .int .i64 z, .slice A' ks'.length c'] 25)).cell? ⟨W.heap.size, 0, none⟩ = some (.int .i64 k) := T2.cell 0
    have uc0 : ((W.alloc (.cells #[.int .i64 k, Value.string ⟨List.toArray n⟩, Value.string ⟨List.toArray p⟩, .int .u64 x, .int .i64 y, .int .i64 z, .slice A ks.length c] 25)).alloc (.cells #[.int .i64 k, Value.string ⟨List.toArray n⟩, Value.string ⟨List.toArray p⟩, .int .u64 x, .int .i64 y, .int .i64 z, .slice A' ks'.length c'] 25)).cell? ⟨W.heap.size + 1, 0, none⟩ = some (.int .i64 k) := U2.cell 0
    have t1 : ((W.alloc (.cells #[.int .i64 k, Value.string ⟨List.toArray n⟩, Value.string ⟨List.toArray p⟩, .int .u64 x, .int .i64 y, .int .i64 z, .slice A ks.length c] 25)).alloc (.cells #[.int .i64 k, Value.string ⟨List.toArray n⟩, Value.string ⟨List.toArray p⟩, .int .u64 x, .int .i64 y, .int .i64 z, .slice A' ks'.length c'] 25)).cell? ⟨W.heap.size, 1, none⟩ = some (Value.string ⟨List.toArray n⟩) := T2.cell 1
    have uc1 : ((W.alloc (.cells #[.int .i64 k, Value.string ⟨List.toArray n⟩, Value.string ⟨List.toArray p⟩, .int .u64 x, .int .i64 y, .int .i64 z, .slice A ks.length c] 25)).alloc (.cells #[.int .i64 k, Value.string ⟨List.toArray n⟩, Value.string ⟨List.toArray p⟩, .int .u64 x, .int .i64 y, .int .i64 z, .slice A' ks'.length c'] 25)).cell? ⟨W.heap.size + 1, 1, none⟩ = some (Value.string ⟨List.toArray n⟩) := U2.cell 1
    have t2 : ((W.alloc (.cells #[.int .i64 k, Value.string ⟨List.toArray n⟩, Value.string ⟨List.toArray p⟩, .int .u64 x, .int .i64 y, .int .i64 z, .slice A ks.length c] 25)).alloc (.cells #[.int .i64 k, Value.string ⟨List.toArray n⟩, Value.string ⟨List.toArray p⟩, .int .u64 x, .int .i64 y, .int .i64 z, .slice A' ks'.length c'] 25)).cell? ⟨W.heap.size, 2, none⟩ = some (Value.string ⟨List.toArray p⟩) := T2.cell 2
    have uc2 : ((W.alloc (.cells #[.int .i64 k, Value.string ⟨List.toArray n⟩, Value.string ⟨List.toArray p⟩, .int .u64 x, .int .i64 y, .int .i64 z, .slice A ks.length c] 25)).alloc (.cells #[.int .i64 k, Value.string ⟨List.toArray n⟩, Value.string ⟨List.toArray p⟩, .int .u64 x, .int .i64 y, .int .i64 z, .slice A' ks'.length c'] 25)).cell? ⟨W.heap.size + 1, 2, none⟩ = some (Value.string ⟨List.toArray p⟩) := U2.cell 2
    have t3 : ((W.alloc (.cells #[.int .i64 k, Value.string ⟨List.toArray n⟩, Value.string ⟨List.toArray p⟩, .int .u64 x, .int .i64 y, .int .i64 z, .slice A ks.length c] 25)).alloc (.cells #[.int .i64 k, Value.string ⟨List.toArray n⟩, Value.string ⟨List.toArray p⟩, .int .u64 x, .int .i64 y, .int .i64 z, .slice A' ks'.length c'] 25)).cell? ⟨W.heap.size, 3, none⟩ = some (.int .u64 x) := T2.cell 3
    have uc3 : ((W.alloc (.cells #[.int .i64 k, Value.string ⟨List.toArray n⟩, Value.string ⟨List.toArray p⟩, .int .u64 x, .int .i64 y, .int .i64 z, .slice A ks.length c] 25)).alloc (.cells #[.int .i64 k, Value.string ⟨List.toArray n⟩, Value.string ⟨List.toArray p⟩, .int .u64 x, .int .i64 y, .int .i64 z, .slice A' ks'.length c'] 25)).cell? ⟨W.heap.size + 1, 3, none⟩ = some (.int .u64 x) := U2.cell 3
    have t4 : ((W.alloc (.cells #[.int .i64 k, Value.string ⟨List.toArray n⟩, Value.string ⟨List.toArray p⟩, .int .u64 x, .int .i64 y, .int .i64 z, .slice A ks.length c] 25)).alloc (.cells #[.int .i64 k, Value.string ⟨List.toArray n⟩, Value.string ⟨List.toArray p⟩, .int .u64 x, .int .i64 y, .int .i64 z, .slice A' ks'.length c'] 25)).cell? ⟨W.heap.size, 4, none⟩ = some (.int .i64 y) := T2.cell 4
    have uc4 : ((W.alloc (.cells #[.int .i64 k, Value.string ⟨List.toArray n⟩, Value.string ⟨List.toArray p⟩, .int .u64 x, .int .i64 y, .int .i64 z, .slice A ks.length c] 25)).alloc (.cells #[.int .i64 k, Value.string ⟨List.toArray n⟩, Value.string ⟨List.toArray p⟩, .int .u64 x, .int .i64 y, .int .i64 z, .slice A' ks'.length c'] 25)).cell? ⟨W.heap.size + 1, 4, none⟩ = some (.int .i64 y) := U2.cell 4
    have t5 : ((W.alloc (.cells #[.int .i64 k, Value.string ⟨List.toArray n⟩, Value.string ⟨List.toArray p⟩, .int .u64 x, .int .i64 y, .int .i64 z, .slice A ks.length c] 25)).alloc (.cells #[.int .i64 k, Value.string ⟨List.toArray n⟩, Value.string ⟨List.toArray p⟩, .int .u64 x, .int .i64 y, .int .i64 z, .slice A' ks'.length c'] 25)).cell? ⟨W.heap.size, 5, none⟩ = some (.int .i64 z) := T2.cell 5
    have uc5 : ((W.alloc (.cells #[.int .i64 k, Value.string ⟨List.toArray n⟩, Value.string ⟨List.toArray p⟩, .int .u64 x, .int .i64 y, .int .i64 z, .slice A ks.length c] 25)).alloc (.cells #[.int .i64 k, Value.string ⟨List.toArray n⟩, Value.string ⟨List.toArray p⟩, .int .u64 x, .int .i64 y, .int .i64 z, .slice A' ks'.length c'] 25)).cell? ⟨W.heap.size + 1, 5, none⟩ = some (.int .i64 z) := U2.cell 5
    have t6 : ((W.alloc (.cells #[.int .i64 k, Value.string ⟨List.toArray n⟩, Value.string ⟨List.toArray p⟩, .int .u64 x, .int .i64 y, .int .i64 z, .slice A ks.length c] 25)).alloc (.cells #[.int .i64 k, Value.string ⟨List.toArray n⟩, Value.string ⟨List.toArray p⟩, .int .u64 x, .int .i64 y, .int .i64 z, .slice A' ks'.length c'] 25)).cell? ⟨W.heap.size, 6, none⟩ = some (.slice A ks.length c) := T2.cell 6
    have uc6 : ((W.alloc (.cells #[.int .i64 k, Value.string ⟨List.toArray n⟩, Value.string ⟨List.toArray p⟩, .int .u64 x, .int .i64 y, .int .i64 z, .slice A ks.length c] 25)).alloc (.cells #[.int .i64 k, Value.string ⟨List.toArray n⟩, Value.string ⟨List.toArray p⟩, .int .u64 x, .int .i64 y, .int .i64 z, .slice A' ks'.length c'] 25)).cell? ⟨W.heap.size + 1, 6, none⟩ = some (.slice A' ks'.length c') := U2.cell 6
    go_enter Tryz.func14, Tryz.ntmps14
    go_wp2
    go_ret
    exact ⟨by rw [hF.out]; rfl, bA⟩
  have hF : Hid (R = sameL ks ks') := Lib.hid (by rw [hR.out]; simp [e6])
  obtain ⟨N, hN⟩ : ∃ N, Hid (ks.length = N) := ⟨_, Lib.hid rfl⟩
  have hN2 : Hid (ks'.length = N) := Lib.hid (e6.symm.trans hN.out)
  rw [hN.out, hN2.out]
  have bA : Below W.heap.size W ((W.alloc (.cells #[.int .i64 k, Value.string ⟨List.toArray n⟩, Value.string ⟨List.toArray p⟩, .int .u64 x, .int .i64 y, .int .i64 z, .slice A N c] 25)).alloc (.cells #[.int .i64 k, Value.string ⟨List.toArray n⟩, Value.string ⟨List.toArray p⟩, .int .u64 x, .int .i64 y, .int .i64 z, .slice A' N c'] 25)) := ((Below.refl _ _).alloc (Nat.le_refl _) _).alloc (by simp) _
  have T2 := (Box.new W 25 #[.int .i64 k, Value.string ⟨List.toArray n⟩, Value.string ⟨List.toArray p⟩, .int .u64 x, .int .i64 y, .int .i64 z, .slice A N c]).alloc (.cells #[.int .i64 k, Value.string ⟨List.toArray n⟩, Value.string ⟨List.toArray p⟩, .int .u64 x, .int .i64 y, .int .i64 z, .slice A' N c'] 25)
  have U2 := Box.newAt (X := W.alloc (.cells #[.int .i64 k, Value.string ⟨List.toArray n⟩, Value.string ⟨List.toArray p⟩, .int .u64 x, .int .i64 y, .int .i64 z, .slice A N c] 25)) (n := W.heap.size + 1) (by simp) 25 #[.int .i64 k, Value.string ⟨List.toArray n⟩, Value.string ⟨List.toArray p⟩, .int .u64 x, .int .i64 y, .int .i64 z, .slice A' N c']
  have t0 : ((W.alloc (.cells #[.int .i64 k, Value.string ⟨List.toArray n⟩, Value.string ⟨List.toArray p⟩, .int .u64 x, .int .i64 y, .int .i64 z, .slice A N c] 25)).alloc (.cells #[.int .i64 k, Value.string ⟨List.toArray n⟩, Value.string ⟨List.toArray p⟩, .int .u64 x, .int .i64 y, .int .i64 z, .slice A' N c'] 25)).cell? ⟨W.heap.size, 0, none⟩ = some (.int .i64 k) := T2.cell 0
  have uc0 : ((W.alloc (.cells #[.int .i64 k, Value.string ⟨List.toArray n⟩, Value.string ⟨List.toArray p⟩, .int .u64 x, .int .i64 y, .int .i64 z, .slice A N c] 25)).alloc (.cells #[.int .i64 k, Value.string ⟨List.toArray n⟩, Value.string ⟨List.toArray p⟩, .int .u64 x, .int .i64 y, .int .i64 z, .slice A' N c'] 25)).cell? ⟨W.heap.size + 1, 0, none⟩ = some (.int .i64 k) := U2.cell 0
  have t1 : ((W.alloc (.cells #[.int .i64 k, Value.string ⟨List.toArray n⟩, Value.string ⟨List.toArray p⟩, .int .u64 x, .int .i64 y, .int .i64 z, .slice A N c] 25)).alloc (.cells #[.int .i64 k, Value.string ⟨List.toArray n⟩, Value.string ⟨List.toArray p⟩, .int .u64 x, .int .i64 y, .int .i64 z, .slice A' N c'] 25)).cell? ⟨W.heap.size, 1, none⟩ = some (Value.string ⟨List.toArray n⟩) := T2.cell 1
  have uc1 : ((W.alloc (.cells #[.int .i64 k, Value.string ⟨List.toArray n⟩, Value.string ⟨List.toArray p⟩, .int .u64 x, .int .i64 y, .int .i64 z, .slice A N c] 25)).alloc (.cells #[.int .i64 k, Value.string ⟨List.toArray n⟩, Value.string ⟨List.toArray p⟩, .int .u64 x, .int .i64 y, .int .i64 z, .slice A' N c'] 25)).cell? ⟨W.heap.size + 1, 1, none⟩ = some (Value.string ⟨List.toArray n⟩) := U2.cell 1
  have t2 : ((W.alloc (.cells #[.int .i64 k, Value.string ⟨List.toArray n⟩, Value.string ⟨List.toArray p⟩, .int .u64 x, .int .i64 y, .int .i64 z, .slice A N c] 25)).alloc (.cells #[.int .i64 k, Value.string ⟨List.toArray n⟩, Value.string ⟨List.toArray p⟩, .int .u64 x, .int .i64 y, .int .i64 z, .slice A' N c'] 25)).cell? ⟨W.heap.size, 2, none⟩ = some (Value.string ⟨List.toArray p⟩) := T2.cell 2
  have uc2 : ((W.alloc (.cells #[.int .i64 k, Value.string ⟨List.toArray n⟩, Value.string ⟨List.toArray p⟩, .int .u64 x, .int .i64 y, .int .i64 z, .slice A N c] 25)).alloc (.cells #[.int .i64 k, Value.string ⟨List.toArray n⟩, Value.string ⟨List.toArray p⟩, .int .u64 x, .int .i64 y, .int .i64 z, .slice A' N c'] 25)).cell? ⟨W.heap.size + 1, 2, none⟩ = some (Value.string ⟨List.toArray p⟩) := U2.cell 2
  have t3 : ((W.alloc (.cells #[.int .i64 k, Value.string ⟨List.toArray n⟩, Value.string ⟨List.toArray p⟩, .int .u64 x, .int .i64 y, .int .i64 z, .slice A N c] 25)).alloc (.cells #[.int .i64 k, Value.string ⟨List.toArray n⟩, Value.string ⟨List.toArray p⟩, .int .u64 x, .int .i64 y, .int .i64 z, .slice A' N c'] 25)).cell? ⟨W.heap.size, 3, none⟩ = some (.int .u64 x) := T2.cell 3
  have uc3 : ((W.alloc (.cells #[.int .i64 k, Value.string ⟨List.toArray n⟩, Value.string ⟨List.toArray p⟩, .int .u64 x, .int .i64 y, .int .i64 z, .slice A N c] 25)).alloc (.cells #[.int .i64 k, Value.string ⟨List.toArray n⟩, Value.string ⟨List.toArray p⟩, .int .u64 x, .int .i64 y, .int .i64 z, .slice A' N c'] 25)).cell? ⟨W.heap.size + 1, 3, none⟩ = some (.int .u64 x) := U2.cell 3
  have t4 : ((W.alloc (.cells #[.int .i64 k, Value.string ⟨List.toArray n⟩, Value.string ⟨List.toArray p⟩, .int .u64 x, .int .i64 y, .int .i64 z, .slice A N c] 25)).alloc (.cells #[.int .i64 k, Value.string ⟨List.toArray n⟩, Value.string ⟨List.toArray p⟩, .int .u64 x, .int .i64 y, .int .i64 z, .slice A' N c'] 25)).cell? ⟨W.heap.size, 4, none⟩ = some (.int .i64 y) := T2.cell 4
  have uc4 : ((W.alloc (.cells #[.int .i64 k, Value.string ⟨List.toArray n⟩, Value.string ⟨List.toArray p⟩, .int .u64 x, .int .i64 y, .int .i64 z, .slice A N c] 25)).alloc (.cells #[.int .i64 k, Value.string ⟨List.toArray n⟩, Value.string ⟨List.toArray p⟩, .int .u64 x, .int .i64 y, .int .i64 z, .slice A' N c'] 25)).cell? ⟨W.heap.size + 1, 4, none⟩ = some (.int .i64 y) := U2.cell 4
  have t5 : ((W.alloc (.cells #[.int .i64 k, Value.string ⟨List.toArray n⟩, Value.string ⟨List.toArray p⟩, .int .u64 x, .int .i64 y, .int .i64 z, .slice A N c] 25)).alloc (.cells #[.int .i64 k, Value.string ⟨List.toArray n⟩, Value.string ⟨List.toArray p⟩, .int .u64 x, .int .i64 y, .int .i64 z, .slice A' N c'] 25)).cell? ⟨W.heap.size, 5, none⟩ = some (.int .i64 z) := T2.cell 5
  have uc5 : ((W.alloc (.cells #[.int .i64 k, Value.string ⟨List.toArray n⟩, Value.string ⟨List.toArray p⟩, .int .u64 x, .int .i64 y, .int .i64 z, .slice A N c] 25)).alloc (.cells #[.int .i64 k, Value.string ⟨List.toArray n⟩, Value.string ⟨List.toArray p⟩, .int .u64 x, .int .i64 y, .int .i64 z, .slice A' N c'] 25)).cell? ⟨W.heap.size + 1, 5, none⟩ = some (.int .i64 z) := U2.cell 5
  have t6 : ((W.alloc (.cells #[.int .i64 k, Value.string ⟨List.toArray n⟩, Value.string ⟨List.toArray p⟩, .int .u64 x, .int .i64 y, .int .i64 z, .slice A N c] 25)).alloc (.cells #[.int .i64 k, Value.string ⟨List.toArray n⟩, Value.string ⟨List.toArray p⟩, .int .u64 x, .int .i64 y, .int .i64 z, .slice A' N c'] 25)).cell? ⟨W.heap.size, 6, none⟩ = some (.slice A N c) := T2.cell 6
  have uc6 : ((W.alloc (.cells #[.int .i64 k, Value.string ⟨List.toArray n⟩, Value.string ⟨List.toArray p⟩, .int .u64 x, .int .i64 y, .int .i64 z, .slice A N c] 25)).alloc (.cells #[.int .i64 k, Value.string ⟨List.toArray n⟩, Value.string ⟨List.toArray p⟩, .int .u64 x, .int .i64 y, .int .i64 z, .slice A' N c'] 25)).cell? ⟨W.heap.size + 1, 6, none⟩ = some (.slice A' N c') := U2.cell 6
  clear e6
  go_enter Tryz.func14, Tryz.ntmps14
  go_wp2_with fail
  go_loopw [5] (fun v wr => SmRel W ks ks' W.heap.size (W.heap.size + 1) #[.int .i64 k, Value.string ⟨List.toArray n⟩, Value.string ⟨List.toArray p⟩, .int .u64 x, .int .i64 y, .int .i64 z, .slice A N c] #[.int .i64 k, Value.string ⟨List.toArray n⟩, Value.string ⟨List.toArray p⟩, .int .u64 x, .int .i64 y, .int .i64 z, .slice A' N c'] v wr) (fun v _ => N - iOf v)
  case atStart => exact ⟨0, rfl, Nat.zero_le _, rfl, bA, T2, U2⟩
  case round =>
    rename_i wr
    obtain ⟨i, rfl, hil, hsm, hbl, B1, B2⟩ := hrel
    clear bA T2 U2 t0 t1 t2 t3 t4 t5 t6 uc0 uc1 uc2 uc3 uc4 uc5 uc6
    have r1 := B1.cell 6
    have r2 := B2.cell 6
    by_cases hi2 : i < N
    · have hi3 : i < ks.length := by rw [hN.out]; exact hi2
      have hi4 : i < ks'.length := by rw [hN2.out]; exact hi2
      obtain ⟨g, o, kv, rfl, c0, c1, c2, c3, c4, c5, c6, hk⟩ := gRow_at ks 0 (gRow_later hbl A 0 ks hr) i hi3
      obtain ⟨g', o', kv', rfl, d0, d1, d2, d3, d4, d5, d6, hk'⟩ := gRow_at ks' 0 (gRow_later hbl A' 0 ks' hr') i hi4
      simp only [Nat.zero_add] at c0 c1 c2 c3 c4 c5 c6 d0 d1 d2 d3 d4 d5 d6
      have hmem : ks[i] ∈ ks := List.getElem_mem hi3
      have hsn : sameL (ks.take (i + 1)) (ks'.take (i + 1)) = sameG ks[i] ks'[i] := by
        rw [List.take_succ_eq_append_getElem hi3, List.take_succ_eq_append_getElem hi4, sameL_snoc _ _ _ _ (by simp; omega), hsm, Bool.true_and]
      obtain ⟨t, ht⟩ : ∃ t, Hid (ks[i] = t) := ⟨_, Lib.hid rfl⟩
      obtain ⟨u, hu⟩ : ∃ u, Hid (ks'[i] = u) := ⟨_, Lib.hid rfl⟩
      rw [ht.out, hu.out] at hsn
      rw [ht.out] at c0 c1 c2 c3 c4 c5 hk hmem
      rw [hu.out] at d0 d1 d2 d3 d4 d5 hk'
      obtain ⟨A2, C2, rfl⟩ := gAt_form hk
      obtain ⟨A3, C3, rfl⟩ := gAt_form hk'
      have hw2 : IntKind.i64.wrap ((i : Int) + 1) = ((i + 1 : Nat) : Int) := by rw [IntWalk.i64_in _ (by have := hN.out; omega)]; omega
      have hsc := hv t hmem
      go_wp2_with fail
      go_region_law (first
        | (go_simp; go_at_call 14; refine (hsc u _ A2 A3 C2 C3 (gAt_later (Drew.below ⟨1, rfl⟩) t _ hk) (gAt_later (Drew.below ⟨1, rfl⟩) u _ hk')).mono ?_; rintro e w1 ⟨rfl, b1⟩; have b2 : Below wr.heap.size wr w1 := (Drew.below ⟨1, rfl⟩).trans b1))
      all_goals
        have bl1 := hbl.trans (b2.mono hbl.size)
        have E1 := B1.below b2
        have E2 := B2.below b2
        cases hx : sameG t u with
        | true =>
          rw [hx] at hsn
          clear hx
          go_wp2_with fail
          go_roundw
          case rel => exact ⟨i + 1, rfl, by omega, hsn, bl1, E1, E2⟩
          case measure => simp only [iOf]; omega
        | false =>
          rw [hx] at hsn
          have hF2 : Hid (R = false) := Lib.hid (by rw [hF.out]; exact sameL_take ks ks' (i + 1) (hN.out.trans hN2.out.symm) hsn)
          clear hx
          go_wp2
          go_ret
          exact ⟨by rw [hF2.out]; rfl, bl1⟩
    · have hie : i = ks.length := by have := hN.out; omega
      have hF2 : Hid (R = true) := Lib.hid (by
        rw [hF.out]
        rw [hie, List.take_length, show ks.length = ks'.length from hN.out.trans hN2.out.symm, List.take_length] at hsm
        exact hsm)
      clear hie hsm
      go_wp2
      go_ret
      exact ⟨by rw [hF2.out]; rfl, hbl⟩
mutual
theorem same_all : ∀ t : G, SC t
  | .mk k n p x y z ks => same_step k n p x y z ks (sames_all ks)
theorem sames_all : ∀ l : List G, ∀ t ∈ l, SC t
  | [] => fun t h => by cases h
  | a :: r => fun t h => by
    have h1 := same_all a
    have h2 := sames_all r
    rcases List.mem_cons.1 h with e | e
    · rw [e]; exact h1
    · exact h2 t e
end
end Go.Proofs.YtmkehecapjdfdaaGreatDoor
