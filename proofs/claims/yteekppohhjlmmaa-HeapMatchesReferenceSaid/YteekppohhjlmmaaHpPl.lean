/- Layer 9, plainly: what follows of what the functions answer. -/
import Derived.Test.YteekppohhjlmmaaHpMath
namespace Go.Proofs.Yteekppohhjlmmaa
open Go

theorem vB_low_ok {n v : Int} (h : 1 ≤ n ∧ n ≤ 64) : vB n (low n v) = true := by
  have := low_lt n v
  unfold pw at this
  exact (vB_iff _ _).2 ⟨h.1, h.2, this⟩
theorem vB_range {n v : Int} (h : vB n v = true) : 1 ≤ n ∧ n ≤ 64 := ⟨((vB_iff _ _).1 h).1, ((vB_iff _ _).1 h).2.1⟩
theorem low_u64 {n : Int} (h : n ≤ 64) (v : Int) : U64 (low n v) := by
  have h1 := low_lt n v
  have h2 := pw_le n h
  exact ⟨low_nonneg n v, by omega⟩
theorem obsV_of {l : List Ob} (h : l.length ≤ 8) (k : ∀ x ∈ l, obV x = true) : obsV l = true := by simp [obsV, h]; exact k
theorem obV_of {x : Ob} (h : x.c.length ≤ 16) (k : ∀ c ∈ x.c, ceV c = true) : obV x = true := by simp [obV, h]; exact k
theorem width_of {l : List Ob} (h : obsV l = true) {t k : Nat} (ht : t < l.length) (hk : k < (obAt l t).c.length) : 1 ≤ (ceAt (obAt l t).c k).w ∧ (ceAt (obAt l t).c k).w ≤ 64 :=
  vB_range (ceV_vB (obV_mem (obsV_mem h _ (obAt_mem ht)) _ (ceAt_mem hk)))
theorem put_obV {x : Ob} (h : obV x = true) {k : Nat} (hk : k < x.c.length) (v : Int) : obV (putOb x k v) = true := by
  refine obV_of (by simp [putOb]; exact obV_len h) (fun c hc => ?_)
  rcases List.mem_or_eq_of_mem_set hc with hc | rfl
  · exact obV_mem h c hc
  · simp [ceV, vB_low_ok (vB_range (ceV_vB (obV_mem h _ (ceAt_mem hk))))]
theorem set_obsV {l : List Ob} (h : obsV l = true) {y : Ob} (hy : obV y = true) (t : Nat) : obsV (l.set t y) = true := by
  refine obsV_of (by simp; exact obsV_len h) (fun x hx => ?_)
  rcases List.mem_or_eq_of_mem_set hx with hx | rfl
  · exact obsV_mem h x hx
  · exact hy
theorem put_ok {x : Ob} (h : x.ok) {k : Nat} (hk : k < x.c.length) (hw : (ceAt x.c k).w ≤ 64) (v : Int) : (putOb x k v).ok := by
  intro c hc
  rcases List.mem_or_eq_of_mem_set hc with hc | rfl
  · exact h c hc
  · exact ⟨(h _ (ceAt_mem hk)).1, low_u64 hw v⟩
theorem set_oks {l : List Ob} (h : oks l) {y : Ob} (hy : y.ok) (t : Nat) : oks (l.set t y) := by
  intro x hx
  rcases List.mem_or_eq_of_mem_set hx with hx | rfl
  · exact h x hx
  · exact hy
theorem new_obV {ws : List Int} (h : ws.all wV = true) (hl : ws.length ≤ 16) : obV (newOb ws) = true := by
  refine obV_of (by simp [newOb]; exact hl) (fun c hc => ?_)
  obtain ⟨n, hn, rfl⟩ := List.mem_map.1 hc
  have := List.all_eq_true.1 h n hn
  simp [ceV]; exact this
theorem new_obOk {ws : List Int} (h : ∀ n ∈ ws, I64 n) : (newOb ws).ok := by
  intro c hc
  obtain ⟨n, hn, rfl⟩ := List.mem_map.1 hc
  exact ⟨h n hn, by show U64 0; unfold U64; omega⟩
/-- Whether a put, and a load, reach a cell. -/
def Hit (l : List Ob) (obj k : Int) : Prop := hasO l obj = true ∧ (obAt l obj.toNat).g = false ∧ k < (obAt l obj.toNat).c.length
theorem hit_put {l : List Ob} {obj k : Int} (h : Hit l obj k) (v : Int) : putR l obj k v = (l.set obj.toNat (putOb (obAt l obj.toNat) k.toNat v), 0, 0) := by
  unfold putR
  rw [if_neg (by rw [h.1]; decide)]
  simp only [h.2.1]
  rw [if_neg (by decide), if_neg (by have := h.2.2; omega)]
theorem put_zero {l : List Ob} {obj k v : Int} (h : (putR l obj k v).2 = (0, 0)) : Hit l obj k := by
  unfold putR at h
  by_cases h1 : hasO l obj = false
  · rw [if_pos h1] at h; simp at h
  · rw [if_neg h1] at h
    cases h2 : (obAt l obj.toNat).g with
    | true => simp [h2] at h
    | false =>
      by_cases h3 : ((obAt l obj.toNat).c.length : Int) ≤ k
      · simp [h2, h3] at h
      · exact ⟨by simpa using h1, h2, by omega⟩
theorem hit_t {l : List Ob} {obj k : Int} (h : Hit l obj k) : obj.toNat < l.length := by
  have := (hasO_iff.1 h.1).2; omega
theorem hit_k {l : List Ob} {obj k : Int} (h : Hit l obj k) (h0 : 0 ≤ k) : k.toNat < (obAt l obj.toNat).c.length := by
  have := h.2.2; omega
theorem hit_valid {l : List Ob} {obj k : Int} (h : Hit l obj k) (h0 : 0 ≤ k) (v : Int) : obsV (l.set obj.toNat (putOb (obAt l obj.toNat) k.toNat v)) = true :=
  set_obsV (hasO_iff.1 h.1).1 (put_obV (obsV_mem (hasO_iff.1 h.1).1 _ (obAt_mem (hit_t h))) (hit_k h h0) v) _
theorem hit_oks {l : List Ob} {obj k : Int} (h : Hit l obj k) (h0 : 0 ≤ k) (ho : oks l) (v : Int) : oks (l.set obj.toNat (putOb (obAt l obj.toNat) k.toNat v)) :=
  set_oks ho (put_ok (ho _ (obAt_mem (hit_t h))) (hit_k h h0) (width_of (hasO_iff.1 h.1).1 (hit_t h) (hit_k h h0)).2 v) _
theorem putOb_len (x : Ob) (k : Nat) (v : Int) : (putOb x k v).c.length = x.c.length := by simp [putOb]
/-- What is found behind a put. -/
theorem hasO_set {l : List Ob} {t : Nat} {y : Ob} (hv : obsV l = true) (hv' : obsV (l.set t y) = true) (o : Int) : hasO (l.set t y) o = hasO l o := by
  simp [hasO, hv, hv']
theorem load_other {l : List Ob} {obj k v o j : Int} (h : Hit l obj k) (h0 : 0 ≤ k) (ho : 0 ≤ o) (hj : 0 ≤ j) (hne : ¬ (o = obj ∧ j = k)) :
    loadR (l.set obj.toNat (putOb (obAt l obj.toNat) k.toNat v)) o j = loadR l o j := by
  have hb := (hasO_iff.1 h.1).2
  have ht := hit_t h
  have hk := hit_k h h0
  unfold loadR
  rw [hasO_set (hasO_iff.1 h.1).1 (hit_valid h h0 v), obAt_set l ht]
  by_cases e : o.toNat = obj.toNat
  · rw [if_pos e, e]
    have hc : ceAt (putOb (obAt l obj.toNat) k.toNat v).c j.toNat = ceAt (obAt l obj.toNat).c j.toNat := by
      unfold putOb
      rw [ceAt_set _ hk, if_neg (by omega)]
    simp only [hc, putOb_len]
    rfl
  · rw [if_neg e]
theorem load_same {l : List Ob} {obj k v : Int} (h : Hit l obj k) (h0 : 0 ≤ k) :
    loadR (l.set obj.toNat (putOb (obAt l obj.toNat) k.toNat v)) obj k = (((ceAt (obAt l obj.toNat).c k.toNat).w, low (ceAt (obAt l obj.toNat).c k.toNat).w v), 0, 0) := by
  have ht := hit_t h
  have hk := hit_k h h0
  unfold loadR
  rw [hasO_set (hasO_iff.1 h.1).1 (hit_valid h h0 v), if_neg (by rw [h.1]; decide), obAt_set l ht, if_pos rfl]
  have hc : ceAt (putOb (obAt l obj.toNat) k.toNat v).c k.toNat = ⟨(ceAt (obAt l obj.toNat).c k.toNat).w, true, low (ceAt (obAt l obj.toNat).c k.toNat).w v⟩ := by
    unfold putOb
    rw [ceAt_set _ hk, if_pos rfl]
  have hg : (putOb (obAt l obj.toNat) k.toNat v).g = false := h.2.1
  simp only [hc, putOb_len, hg]
  rw [if_neg (by decide), if_neg (by have := h.2.2; omega), if_pos trivial]
/-- A put leaves what can be reached as it was. -/
theorem hit_after {l : List Ob} {obj k v o j : Int} (h : Hit l obj k) (h0 : 0 ≤ k) (h2 : Hit l o j) : Hit (l.set obj.toNat (putOb (obAt l obj.toNat) k.toNat v)) o j := by
  have ht := hit_t h
  refine ⟨by rw [hasO_set (hasO_iff.1 h.1).1 (hit_valid h h0 v)]; exact h2.1, ?_, ?_⟩
  · rw [obAt_set l ht]
    by_cases e : o.toNat = obj.toNat
    · rw [if_pos e]; rw [← e]; exact h2.2.1
    · rw [if_neg e]; exact h2.2.1
  · rw [obAt_set l ht]
    by_cases e : o.toNat = obj.toNat
    · rw [if_pos e, putOb_len, ← e]; exact h2.2.2
    · rw [if_neg e]; exact h2.2.2
theorem put_put {x : Ob} {i k : Nat} (hne : i ≠ k) (hi : i < x.c.length) (hk : k < x.c.length) (v w : Int) : putOb (putOb x i v) k w = putOb (putOb x k w) i v := by
  have e1 : ceAt (putOb x i v).c k = ceAt x.c k := by unfold putOb; rw [ceAt_set _ hi, if_neg (fun e => hne e.symm)]
  have e2 : ceAt (putOb x k w).c i = ceAt x.c i := by unfold putOb; rw [ceAt_set _ hk, if_neg hne]
  refine Ob.ext' ?_ rfl
  show (putOb x i v).c.set k _ = (putOb x k w).c.set i _
  rw [e1, e2]
  exact List.set_comm _ _ hne
theorem put_swap {l : List Ob} {one two i k : Int} (h1 : Hit l one i) (h2 : Hit l two k) (i0 : 0 ≤ i) (k0 : 0 ≤ k) (hne : ¬ (one = two ∧ i = k)) (v w : Int) :
    (putR (putR l one i v).1 two k w) = putR (putR l two k w).1 one i v ∧ (putR (putR l one i v).1 two k w).2 = (0, 0) := by
  have b1 := (hasO_iff.1 h1.1).2
  have b2 := (hasO_iff.1 h2.1).2
  rw [hit_put h1, hit_put h2]
  simp only
  rw [hit_put (hit_after h1 i0 h2), hit_put (hit_after h2 k0 h1), obAt_set _ (hit_t h1), obAt_set _ (hit_t h2)]
  refine ⟨?_, rfl⟩
  by_cases e : one = two
  · subst e
    rw [if_pos rfl, if_pos rfl, List.set_set, List.set_set, put_put (by omega) (hit_k h1 i0) (hit_k h2 k0)]
  · rw [if_neg (by omega), if_neg (by omega), List.set_comm _ _ (by omega)]
/-- A released object. -/
theorem free_has {l : List Ob} {obj : Int} (h : hasO l obj = true) (hg : (obAt l obj.toNat).g = false) : freeR l obj = (l.set obj.toNat ⟨(obAt l obj.toNat).c, true⟩, 0, 0) := by
  unfold freeR
  rw [if_neg (by rw [h]; decide)]
  simp only [hg]
  rw [if_neg (by decide)]
theorem free_valid {l : List Ob} {obj : Int} (h : hasO l obj = true) : obsV (l.set obj.toNat ⟨(obAt l obj.toNat).c, true⟩) = true := by
  have ht : obj.toNat < l.length := by have := (hasO_iff.1 h).2; omega
  have hv := obsV_mem (hasO_iff.1 h).1 _ (obAt_mem ht)
  exact set_obsV (hasO_iff.1 h).1 (y := ⟨(obAt l obj.toNat).c, true⟩) (obV_of (obV_len hv) (obV_mem hv)) _
theorem free_oks {l : List Ob} {obj : Int} (h : hasO l obj = true) (ho : oks l) : oks (l.set obj.toNat ⟨(obAt l obj.toNat).c, true⟩) := by
  have ht : obj.toNat < l.length := by have := (hasO_iff.1 h).2; omega
  exact set_oks ho (y := ⟨(obAt l obj.toNat).c, true⟩) (fun c hc => ho _ (obAt_mem ht) c hc) _
theorem free_gone {l : List Ob} {obj : Int} (h : hasO l obj = true) : hasO (l.set obj.toNat ⟨(obAt l obj.toNat).c, true⟩) obj = true ∧ (obAt (l.set obj.toNat ⟨(obAt l obj.toNat).c, true⟩) obj.toNat).g = true := by
  have ht : obj.toNat < l.length := by have := (hasO_iff.1 h).2; omega
  refine ⟨by rw [hasO_set (hasO_iff.1 h).1 (free_valid h)]; exact h, ?_⟩
  rw [obAt_set l ht, if_pos rfl]
theorem free_other {l : List Ob} {obj o j : Int} (h : hasO l obj = true) (ho : 0 ≤ o) (hne : o ≠ obj) : loadR (l.set obj.toNat ⟨(obAt l obj.toNat).c, true⟩) o j = loadR l o j := by
  have hb := (hasO_iff.1 h).2
  have ht : obj.toNat < l.length := by omega
  have hn : ¬ o.toNat = obj.toNat := by omega
  unfold loadR
  rw [hasO_set (hasO_iff.1 h).1 (free_valid h), obAt_set l ht, if_neg hn]
theorem gone_load {l : List Ob} {obj : Int} (h : hasO l obj = true) (hg : (obAt l obj.toNat).g = true) (k : Int) : loadR l obj k = ((0, 0), 3, 0) := by
  unfold loadR
  rw [if_neg (by rw [h]; decide)]
  simp [hg]
theorem gone_put {l : List Ob} {obj : Int} (h : hasO l obj = true) (hg : (obAt l obj.toNat).g = true) (k v : Int) : putR l obj k v = ([], 3, 0) := by
  unfold putR
  rw [if_neg (by rw [h]; decide)]
  simp [hg]
theorem gone_free {l : List Ob} {obj : Int} (h : hasO l obj = true) (hg : (obAt l obj.toNat).g = true) : freeR l obj = ([], 3, 0) := by
  unfold freeR
  rw [if_neg (by rw [h]; decide)]
  simp [hg]
theorem out_put {l : List Ob} {obj k : Int} (h : hasO l obj = true) (hg : (obAt l obj.toNat).g = false) (hk : ¬ k < (obAt l obj.toNat).c.length) (v : Int) : putR l obj k v = ([], 2, 0) := by
  unfold putR
  rw [if_neg (by rw [h]; decide)]
  simp only [hg]
  rw [if_neg (by decide), if_pos (by omega)]
theorem out_load {l : List Ob} {obj k : Int} (h : hasO l obj = true) (hg : (obAt l obj.toNat).g = false) (hk : ¬ k < (obAt l obj.toNat).c.length) : loadR l obj k = ((0, 0), 2, 0) := by
  unfold loadR
  rw [if_neg (by rw [h]; decide)]
  simp only [hg]
  rw [if_neg (by decide), if_pos (by omega)]
theorem hit_load {l : List Ob} {obj k : Int} (h : Hit l obj k) : (loadR l obj k).2.2 = 0 ∧ ((loadR l obj k).2.1 = 0 ∨ (loadR l obj k).2.1 = 4) := by
  unfold loadR
  rw [if_neg (by rw [h.1]; decide)]
  simp only [h.2.1]
  rw [if_neg (by decide), if_neg (by have := h.2.2; omega)]
  split <;> simp
/-- A new object. -/
theorem new_ok {l : List Ob} {ws : List Int} (hv : obsV l = true) (hw : ws.all wV = true) (h8 : l.length ≠ 8) (h16 : ws.length ≤ 16) : newR l ws = (l ++ [newOb ws], (l.length : Int), 0, 0) := by
  unfold newR
  rw [if_neg (by rw [hv, hw]; decide), if_neg (by omega)]
theorem new_full {l : List Ob} {ws : List Int} (hv : obsV l = true) (hw : ws.all wV = true) (h : l.length = 8 ∨ 16 < ws.length) : newR l ws = ([], 0, 5, 0) := by
  unfold newR
  rw [if_neg (by rw [hv, hw]; decide), if_pos h]
theorem new_valid {l : List Ob} {ws : List Int} (hv : obsV l = true) (hw : ws.all wV = true) (h8 : l.length ≠ 8) (h16 : ws.length ≤ 16) : obsV (l ++ [newOb ws]) = true := by
  refine obsV_of (by have := obsV_len hv; simp; omega) (fun x hx => ?_)
  rcases List.mem_append.1 hx with hx | hx
  · exact obsV_mem hv x hx
  · rw [List.mem_singleton.1 hx]; exact new_obV hw h16
theorem new_oks {l : List Ob} {ws : List Int} (ho : oks l) (h : ∀ n ∈ ws, I64 n) : oks (l ++ [newOb ws]) := by
  intro x hx
  rcases List.mem_append.1 hx with hx | hx
  · exact ho x hx
  · rw [List.mem_singleton.1 hx]; exact new_obOk h
end Go.Proofs.Yteekppohhjlmmaa
