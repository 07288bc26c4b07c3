/- heap: copies of objects. -/
import Derived.Test.YteekppohhjlmmaaHpVal
import Derived.Laws.CopyRow
namespace Go.Proofs.Yteekppohhjlmmaa
open Go.RowKit

/-- copy between rows of elements of several cells. -/
theorem run_copy_rows {P : Program} (w : World) (dT sT ty elem : TypeId) (sz g o dLen dCap : Nat) (a : Addr) (sLen sCap : Nat) (cur : Array Value) (t : TypeId) (cs : List Value)
    (hu : P.underlying dT = some (.slice elem)) (hs : (P.info? elem).map (·.size) = some sz)
    (hg : w.heap[g]? = some (.cells cur t (0, 0))) (hn : cs.length = Nat.min sLen dLen * sz)
    (hsrc : ∀ j v, cs[j]? = some v → w.cell? (a.add j) = some v) (hfit : o + cs.length ≤ cur.size) (h1 : ∀ v ∈ cs, v.oneCell' = true) :
    (Builtin.copy_ #[dT, sT] ty #[.slice (some ⟨g, o, none⟩) dLen dCap, .slice (some a) sLen sCap]).run P w =
      .ok (goInt (Nat.min sLen dLen)) (w.setRow g (cur.toList.take o ++ cs ++ cur.toList.drop (o + cs.length)).toArray) := by
  have hl := run_loadCells_list (P := P) w a cs hsrc
  have hst := run_storeCells_at P g o t cs 0 cur w hg (by simpa using hfit) h1
  cases hq : P.info? elem with
  | none => simp [hq] at hs
  | some i =>
    have hi : i.size = sz := by simpa [hq] using hs
    simp [Builtin.copy_, run_underlying hu, Builtin.lenOf, Builtin.firstCells, sizeOf, typeInfo, hq, hi, ← hn, hl, hst]
theorem But.setRow {g : Nat} (w : World) (cs : Array Value) : But g w (w.setRow g cs) := ⟨rfl, rfl, rfl, by simp [World.setRow], fun k _ hn => setRow_other w g k cs hn⟩

theorem flat_at {l : List Ce} {j : Nat} {u : Value} (h : (flat l)[j]? = some u) : ∃ q r, r < 3 ∧ j = q * 3 + r ∧ q < l.length ∧ u = cev l (q * 3 + r) := by
  have hlt : j < l.length * 3 := by
    apply Classical.byContradiction; intro hn
    unfold flat at h
    rw [tab_none _ (by omega)] at h; cases h
  unfold flat at h
  rw [tab_get _ hlt] at h
  exact ⟨j / 3, j % 3, Nat.mod_lt _ (by decide), by omega, by omega, by rw [show j / 3 * 3 + j % 3 = j by omega]; exact (Option.some.inj h).symm⟩
theorem CeSl.cells {w : World} {ad : Addr} {c : Nat} {l : List Ce} (h : CeSl w (some ad) c l) : ∀ j u, (flat l)[j]? = some u → w.cell? (ad.add j) = some u := by
  intro j u hj
  obtain ⟨q, r, hr, rfl, hq, rfl⟩ := flat_at hj
  obtain ⟨g, o, e, c0, c1, c2⟩ := h.at_ hq
  obtain rfl := Option.some.inj e
  rw [add_o]
  rcases (show r = 0 ∨ r = 1 ∨ r = 2 by omega) with rfl | rfl | rfl
  · rw [Nat.add_zero, cev0]; exact c0
  · rw [cev1]; exact c1
  · rw [cev2]; exact c2
theorem flat_one {l : List Ce} : ∀ u ∈ flat l, u.oneCell' = true := by
  intro u hu
  obtain ⟨j, hj, rfl⟩ := tab_mem hu
  unfold cev
  split
  · rfl
  · split <;> rfl
set_option maxRecDepth 100000 in
set_option maxHeartbeats 1600000 in
theorem Clone_any (l : List Ce) (w : World) (A : Option Addr) (c : Nat) (hl : l.length ≤ 40) (hs : CeSl w A c l) :
    Calls Try.prog 48 #[.slice A l.length c] w fun e w' => (∃ v, e = .returned v ∧ COwn w' w.heap.size v l) ∧ Below w.heap.size w w' := by
  have q : ∀ (w : World) (a : Option Addr) (n c n' c' : Nat), (binOp .eql 40 (.slice a n c) (.slice none n' c')).run Try.prog w = .ok (.bool a.isNone) w := fun w a n c n' c' => Lib.run_eql_slice_nil w _ _ a n c n' c' Try.underlying40
  cases A with
  | none =>
    have h0 := hs.2.2.1 rfl
    have h1 := hs.1
    have : l = [] := List.eq_nil_of_length_eq_zero (by omega)
    subst this
    clear hs h1
    go_enter Try.func48, Try.ntmps48
    go_wp2
    go_ret
    exact ⟨⟨_, rfl, World.ownsRow_nil _ _ _ _⟩, Below.refl _ _⟩
  | some ad =>
    have hcs := hs.cells
    have hcs := Lib.hid hcs
    clear hs
    go_enter Try.func48, Try.ntmps48
    go_wp2_with (at_builtin; refine wpList_append_own _ rfl _ _ 40 rfl w.heap.size 45 Try.t45 (.agg #[.int .i64 0, .bool false, .int .u64 0]) 3 24 Try.underlying40 (by kernel_rfl) (by kernel_rfl) rfl rfl rfl (by decide) _ 0 [] rfl (World.ownsRow_made w #[] 0 (Nat.le_refl _) (Nat.zero_le _) rfl) ad l.length c (flat l) rfl (flat_len l) ?c1 flat_one ?c3 ?c4 ?c5 ?_)
    case c1 => intro j u hj; exact Lib.cell?_alloc_some _ (hcs.out j u hj)
    case c3 => unfold maxLen; omega
    case c4 => omega
    case c5 => simp
    intro v' w1 hown hgrow _
    go_wp2
    go_ret
    refine ⟨⟨v', rfl, ?_⟩, ?_⟩
    · exact hown
    · exact ((Below.refl _ w).alloc (Nat.le_refl _) _).grown hgrow (by simp) (by intro k hk; simp [Value.ownBlock] at hk; omega)

/-! ### Objects -/
theorem oflat_at {V : Nat → Value} {l : List Ob} {j : Nat} {u : Value} (h : (oflat V l)[j]? = some u) : ∃ q r, r < 2 ∧ j = q * 2 + r ∧ q < l.length ∧ u = obv V l (q * 2 + r) := by
  have hlt : j < l.length * 2 := by
    apply Classical.byContradiction; intro hn
    unfold oflat at h
    rw [tab_none _ (by omega)] at h; cases h
  unfold oflat at h
  rw [tab_get _ hlt] at h
  exact ⟨j / 2, j % 2, Nat.mod_lt _ (by decide), by omega, by omega, by rw [show j / 2 * 2 + j % 2 = j by omega]; exact (Option.some.inj h).symm⟩
/-- The values of the objects' lists, as they lie. -/
noncomputable def lists (w : World) (g o : Nat) (t : Nat) : Value := (w.cell? ⟨g, o + t * 2, none⟩).getD undef
theorem lists_is {w : World} {g o c : Nat} {l : List Ob} (h : ObSl w (some ⟨g, o, none⟩) c l) {t : Nat} (ht : t < l.length) : ∃ A' c', lists w g o t = .slice A' (obAt l t).c.length c' := by
  obtain ⟨g', o', A', c', e, h1, _⟩ := h.at_ ht
  simp at e
  obtain ⟨rfl, rfl⟩ := e
  exact ⟨A', c', by unfold lists; rw [h1]; rfl⟩
theorem ObSl.cells {w : World} {g o c : Nat} {l : List Ob} (h : ObSl w (some ⟨g, o, none⟩) c l) : ∀ j u, (oflat (lists w g o) l)[j]? = some u → w.cell? ((⟨g, o, none⟩ : Addr).add j) = some u := by
  intro j u hj
  obtain ⟨q, r, hr, rfl, hq, rfl⟩ := oflat_at hj
  obtain ⟨g', o', A', c', e, h1, h2, _⟩ := h.at_ hq
  simp at e
  obtain ⟨rfl, rfl⟩ := e
  rw [add_o]
  rcases (show r = 0 ∨ r = 1 by omega) with rfl | rfl
  · rw [Nat.add_zero, obv0]; unfold lists; rw [h1]; rfl
  · rw [obv1]; exact h2
theorem oflat_one {w : World} {g o c : Nat} {l : List Ob} (h : ObSl w (some ⟨g, o, none⟩) c l) : ∀ u ∈ oflat (lists w g o) l, u.oneCell' = true := by
  intro u hu
  obtain ⟨j, hj, rfl⟩ := tab_mem hu
  unfold obv
  split
  · obtain ⟨A', c', e⟩ := lists_is h (t := j / 2) (by omega)
    rw [e]; rfl
  · rfl
theorem oflat_upd (V : Nat → Value) (l : List Ob) (i : Nat) (v : Value) : (oflat V l).set (i * 2) v = oflat (fun t => if t = i then v else V t) l := by
  unfold oflat
  rw [tab_set]
  apply tab_congr
  intro j hj
  obtain ⟨q, r, hr, rfl⟩ : ∃ q r, r < 2 ∧ j = q * 2 + r := ⟨j / 2, j % 2, Nat.mod_lt _ (by decide), by omega⟩
  rcases (show r = 0 ∨ r = 1 by omega) with rfl | rfl
  · rw [Nat.add_zero, obv0, obv0]
    by_cases e : q = i
    · subst e; simp
    · rw [if_neg (by omega), if_neg e]
  · rw [if_neg (by omega), obv1, obv1]
theorem mk_objs (n : Nat) (hn : n ≤ 1000) (w : World) : (Instr.makeSlice 22 (.int .i64 n) (.int .i64 n)).run Try.prog w = .ok (.slice (some ⟨w.heap.size, 0, none⟩) n n) (w.alloc (.cells (oflat (fun _ => .slice none 0 0) (List.replicate n zOb)).toArray 42)) := by
  have h := run_makeSlice (P := Try.prog) (w := w) 22 42 Try.t42 (.agg #[.slice none 0 0, .bool false]) Try.underlying22 (by kernel_rfl) (by kernel_rfl) .i64 .i64 (n : Int) (n : Int) (by omega) (Int.le_refl _) (by show (n : Int).toNat * 2 ≤ _; omega) (by show ((32 : Nat) : Int) * (n : Int) ≤ _; omega) (by omega)
  rw [h]
  have e : madeCells (Value.cells (.agg #[.slice none 0 0, .bool false])) ((n : Int).toNat * Try.t42.size) = (oflat (fun _ => .slice none 0 0) (List.replicate n zOb)).toArray := by
    show madeCells #[.slice none 0 0, .bool false] ((n : Int).toNat * 2) = _
    rw [Int.toNat_natCast]
    apply Array.ext
    · simp [madeCells, oflat_len]
    · intro i h1 h2
      have hi : i < n * 2 := by simpa [madeCells] using h1
      apply Option.some.inj
      rw [← Array.getElem?_eq_getElem h2, List.getElem?_toArray]
      unfold oflat
      rw [tab_get _ (by simpa using hi)]
      obtain ⟨q, r, hr, rfl⟩ : ∃ q r, r < 2 ∧ i = q * 2 + r := ⟨i / 2, i % 2, Nat.mod_lt _ (by decide), by omega⟩
      rcases (show r = 0 ∨ r = 1 by omega) with rfl | rfl
      · rw [show obv (fun _ => Value.slice none 0 0) (List.replicate n zOb) (q * 2 + 0) = Value.slice none 0 0 from obv0 _ _ q]; simp [madeCells]
      · rw [obv1]
        have : obAt (List.replicate n zOb) q = zOb := by unfold obAt List.getD; rw [List.getElem?_replicate]; split <;> rfl
        rw [this]; simp [madeCells, zOb]
  rw [e]
  simp

theorem copy_len {w : World} {B v} {V : Nat → Value} {l : List Ob} (h : OTab w B v V l) (h0 : 0 < l.length) : ∃ g cap, v = .slice (some ⟨g, 0, none⟩) l.length cap ∧ B ≤ g ∧ g < w.heap.size := World.ownsRow.form h.row h0
theorem own_mono {w : World} {base base' : Nat} {e : TypeId} {size : Nat} {v : Value} {n : Nat} {xs : List Value} (h : w.ownsRow base e size v n xs) (hb : base' ≤ base) : w.ownsRow base' e size v n xs := by
  refine ⟨h.1, ?_⟩
  rcases h.2 with h | ⟨g, cap, cur, h1, h2, h3⟩
  · exact .inl h
  · exact .inr ⟨g, cap, cur, h1, Nat.le_trans hb h2, h3⟩
/-- The state of the copying loop. -/
def CopyR (B b : Nat) (l : List Ob) (W : World) (i : Nat) (wr : World) : Prop := ∃ V : Nat → Value, Box wr b 42 (oflat V l).toArray ∧ (∀ t, t < i → COwn wr B (V t) (obAt l t).c) ∧ (∀ t u, t < i → u < i → t ≠ u → (V t).ownBlock = none ∨ (V t).ownBlock ≠ (V u).ownBlock) ∧ Below B W wr
theorem CopyR.step {B b : Nat} {l : List Ob} {W wr w1 : World} {i : Nat} {v : Value} (hB : B = W.heap.size) (hb : B ≤ b) (h : CopyR B b l W i wr) (ho : COwn w1 wr.heap.size v (obAt l i).c) (b1 : Below wr.heap.size wr w1) : CopyR B b l W (i + 1) (w1.setCell ⟨b, i * 2, none⟩ v) := by
  obtain ⟨V, hX, hO, hF, hW⟩ := h
  have hX1 := hX.below b1
  have hset : But b w1 (w1.setCell ⟨b, i * 2, none⟩ v) := But.set _
  have hbs := hW.size
  have hO1 : ∀ t, t < i → COwn w1 B (V t) (obAt l t).c := fun t ht => own_later (hO t ht) b1
  have ho1 : COwn w1 B v (obAt l i).c := own_mono ho (by rw [hB]; exact hbs)
  refine ⟨fun t => if t = i then v else V t, ?_, fun t ht => ?_, fun t u ht hu hne => ?_, ?_⟩
  · have h2 := hX1.set (i * 2) v
    rw [List.setIfInBounds_toArray, oflat_upd] at h2
    exact h2
  · by_cases e : t = i
    · subst e
      simp only [if_true]
      exact World.ownsRow.kept ho1 hset.grownBy (own_box ho1 hX1 (by decide))
    · simp only [if_neg e]
      exact World.ownsRow.kept (hO1 t (by omega)) hset.grownBy (own_box (hO1 t (by omega)) hX1 (by decide))
  · have hfar : ∀ t, t < i → (V t).ownBlock = none ∨ ((V t).ownBlock ≠ v.ownBlock ∧ v.ownBlock ≠ (V t).ownBlock) := fun t ht => by
      cases hv : (V t).ownBlock with
      | none => exact Or.inl rfl
      | some g =>
        right
        have h1 := (World.ownsRow.lt (hO t ht) g hv).2
        have h2 : v.ownBlock ≠ some g := fun e => by
          have := (World.ownsRow.lt ho g e).1
          omega
        exact ⟨fun e => h2 e.symm, h2⟩
    show (if t = i then v else V t).ownBlock = none ∨ (if t = i then v else V t).ownBlock ≠ (if u = i then v else V u).ownBlock
    by_cases e1 : t = i
    · subst e1
      rw [if_pos rfl, if_neg (fun e => hne e.symm)]
      rcases hfar u (by omega) with h1 | h1
      · cases hv : v.ownBlock with
        | none => exact Or.inl rfl
        | some g => right; rw [h1]; simp
      · exact Or.inr h1.2
    · rw [if_neg e1]
      by_cases e2 : u = i
      · subst e2
        rw [if_pos rfl]
        rcases hfar t (by omega) with h1 | h1
        · exact Or.inl h1
        · exact Or.inr h1.1
      · rw [if_neg e2]
        exact hF t u (by omega) (by omega) hne
  · exact (hW.trans (b1.mono (by rw [hB]; exact hbs))).setCell hb v
theorem CopyR.tab {B b : Nat} {l : List Ob} {W wr : World} (h : CopyR B b l W l.length wr) (hb : B ≤ b) (hl : l.length ≤ 8) : ∃ V, OTab wr B (.slice (some ⟨b, 0, none⟩) l.length l.length) V l := by
  obtain ⟨V, hX, hO, hF, hW⟩ := h
  exact ⟨V, ⟨oflat_len V l, .inr ⟨b, l.length, (oflat V l).toArray, rfl, hb, hX, Nat.le_refl _, by unfold maxLen; omega, by simp [oflat_len], List.take_of_length_le (by simp [oflat_len])⟩⟩, hO, hF⟩
set_option maxRecDepth 100000 in
set_option maxHeartbeats 1600000 in
theorem copyOf_any (l : List Ob) (w : World) (A : Option Addr) (c : Nat) (hv : obsV l = true) (hs : ObSl w A c l) :
    Calls Try.prog 30 #[.slice A l.length c] w fun e w' => (∃ v V, e = .returned v ∧ OTab w' w.heap.size v V l) ∧ Below w.heap.size w w' := by
  have hl := obsV_len hv
  have hcl : ∀ t, t < l.length → (obAt l t).c.length ≤ 40 := fun t ht => Nat.le_trans (obV_len (obsV_mem hv _ (obAt_mem ht))) (by decide)
  clear hv
  by_cases h0 : l.length = 0
  · have : l = [] := List.eq_nil_of_length_eq_zero h0
    subst this
    have mk : (Instr.makeSlice 22 (.int .i64 0) (.int .i64 0)).run Try.prog w = .ok (.slice (some ⟨w.heap.size, 0, none⟩) 0 0) (w.alloc (.cells #[] 42)) := mk_objs 0 (by omega) w
    have hc : ∀ w1 : World, (Builtin.copy_ #[22, 22] 3 #[.slice (some ⟨w.heap.size, 0, none⟩) 0 0, .slice A 0 c]).run Try.prog w1 = .ok (.int .i64 0) w1 := fun w1 => by
      have hi : Try.prog.info? 42 = some Try.t42 := by kernel_rfl
      cases A with
      | none => simp [Builtin.copy_, run_underlying Try.underlying22, Builtin.lenOf, Builtin.firstCells, sizeOf, typeInfo, goInt, hi, storeCells]
      | some a => simp [Builtin.copy_, run_underlying Try.underlying22, Builtin.lenOf, Builtin.firstCells, sizeOf, typeInfo, goInt, loadCells, hi, loadCellsFrom, storeCells]
    clear hs hcl hl h0
    go_enter Try.func30, Try.ntmps30
    go_upto_region 3 with fail
    clear mk hc
    go_wp2_with fail
    go_loopw [13] (fun v wr => v = .int .i64 0 ∧ wr = w.alloc (.cells #[] 42)) (fun _ _ => 0)
    case atStart => exact ⟨rfl, rfl⟩
    case round =>
      obtain ⟨rfl, rfl⟩ := hrel
      go_wp2
      go_ret
      refine ⟨⟨_, fun _ => .slice none 0 0, rfl, ⟨World.ownsRow_made w #[] 0 (Nat.le_refl _) (Nat.zero_le _) rfl, fun t ht => ?_, fun t u ht => ?_⟩⟩, (Below.refl _ _).alloc (Nat.le_refl _) _⟩
      · exact absurd ht (by simp)
      · exact absurd ht (by simp)
  · obtain ⟨g, o, A0, c0, eA, _⟩ := hs.at_ (t := 0) (by omega)
    subst eA
    have mk := mk_objs l.length (by omega) w
    obtain ⟨B, hB⟩ : ∃ B, Hid (w.heap.size = B) := ⟨_, Lib.hid rfl⟩
    have N := Box.new w 42 (oflat (fun _ => .slice none 0 0) (List.replicate l.length zOb)).toArray
    have bA : Below w.heap.size w (w.alloc (.cells (oflat (fun _ => .slice none 0 0) (List.replicate l.length zOb)).toArray 42)) := (Below.refl _ _).alloc (Nat.le_refl _) _
    have hlen : (oflat (fun _ => .slice none 0 0) (List.replicate l.length zOb)).toArray.size = l.length * 2 := by simp [oflat_len]
    obtain ⟨w1, hw1⟩ : ∃ Y, Hid (w.alloc (.cells (oflat (fun _ => .slice none 0 0) (List.replicate l.length zOb)).toArray 42) = Y) := ⟨_, Lib.hid rfl⟩
    have hs1 := hs.later bA
    rw [hw1.out] at N bA mk hs1
    rw [hB.out] at N bA mk
    have hmin : Nat.min l.length l.length = l.length := Nat.min_self _
    have hc := run_copy_rows (P := Try.prog) w1 22 22 3 42 2 B 0 l.length l.length ⟨g, o, none⟩ l.length c _ 42 (oflat (lists w1 g o) l) (by kernel_rfl) (by kernel_rfl) N (by rw [hmin, oflat_len]) hs1.cells (by rw [hlen, oflat_len]; omega) (oflat_one hs1)
    have he : ((oflat (fun _ => .slice none 0 0) (List.replicate l.length zOb)).toArray.toList.take 0 ++ oflat (lists w1 g o) l ++ (oflat (fun _ => .slice none 0 0) (List.replicate l.length zOb)).toArray.toList.drop (0 + (oflat (lists w1 g o) l).length)).toArray = (oflat (lists w1 g o) l).toArray := by
      rw [List.drop_eq_nil_of_le (by simp [oflat_len])]; simp
    rw [he, hmin] at hc
    have R0 : CopyR B B l w 0 (w1.setRow B (oflat (lists w1 g o) l).toArray) := ⟨lists w1 g o, setRow_heap w1 B _ _ _ _ N, fun t ht => by omega, fun t u ht => by omega, ((But.of (by rw [hB.out]; exact bA)).trans (But.setRow _ _)).below (Nat.le_refl _) (by rw [hB.out]; exact Nat.le_refl _)⟩
    clear N hs1 he hlen
    go_enter Try.func30, Try.ntmps30
    go_upto_region 3 with fail
    obtain ⟨w2, hw2⟩ : ∃ Y, w1.setRow B (oflat (lists w1 g o) l).toArray = Y := ⟨_, rfl⟩
    rw [hw2] at R0
    simp only [hw2]
    clear hw2 hc mk bA
    go_wp2_with fail
    go_loopw [13] (fun v wr => ∃ i : Nat, i ≤ l.length ∧ v = .int .i64 i ∧ CopyR B B l w i wr) (fun v _ => l.length - iOf v)
    case atStart => exact ⟨0, Nat.zero_le _, rfl, R0⟩
    case round =>
      rename_i wr
      clear R0
      obtain ⟨i, hi, rfl, R⟩ := hrel
      by_cases hlt : i < l.length
      · have hlc : (i : Int) < l.length := by omega
        have hwi : IntKind.i64.wrap ((i : Int) + 1) = ((i + 1 : Nat) : Int) := by rw [IntWalk.i64_in _ (by omega)]; omega
        obtain ⟨g', o', A', c', e, k0, _, k2⟩ := hs.at_ hlt
        simp at e
        obtain ⟨rfl, rfl⟩ := e
        have hWr : Below w.heap.size w wr := by rw [hB.out]; obtain ⟨V, _, _, _, h⟩ := R; exact h
        have k0 := cell_later hWr k0
        have hC := Clone_any (obAt l i).c wr A' c' (hcl i hlt) (k2.later hWr)
        clear k2
        go_wp2_with fail
        refine hC.mono ?_
        rintro e w3 ⟨⟨v, rfl, ho⟩, b3⟩
        obtain ⟨A2, c2, hv2, _⟩ := ho.sl
        subst hv2
        have R' := R.step hB.out.symm (Nat.le_refl _) ho b3
        have fz : w3.frozen? ⟨B, i * 2, none⟩ = false := by obtain ⟨V, hX, _⟩ := R; exact (hX.below b3).free _
        have k3 : ∃ u, w3.cell? ⟨B, i * 2, none⟩ = some u := by
          obtain ⟨V, hX, _⟩ := R
          exact ⟨_, by rw [(hX.below b3).cell, List.getElem?_toArray]; unfold oflat; rw [tab_get _ (by omega)]⟩
        obtain ⟨u, k3⟩ := k3
        clear hC R ho k0
        go_wp2_with fail
        go_roundw
        case rel => exact ⟨i + 1, hlt, rfl, R'⟩
        case measure => simp only [iOf]; omega
      · have hie : i = l.length := by omega
        subst hie
        clear hs hcl
        obtain ⟨V, hT⟩ := R.tab (Nat.le_refl _) hl
        have hW : Below B w wr := by obtain ⟨V, _, _, _, h⟩ := R; exact h
        clear R
        go_wp2
        go_ret
        rw [hB.out]
        exact ⟨⟨_, V, rfl, hT⟩, hW⟩
end Go.Proofs.Yteekppohhjlmmaa
