/- Joined texts: SaRep, SaFla. -/
import Derived.Test.YtnbgadndkepomaaGreatDoorSaAll
import Derived.Test.YtnbgadndkepomaaGreatDoorShelf
import Derived.Laws.CopyRow
import Derived.Laws.CopyOwn

/- ssa: slices.Repeat for sets of blocks. -/
namespace Go.Proofs.YtnbgadndkepomaaGreatDoor
open Go.RowKit

/-- copy between rows of elements of several cells. -/
theorem run_copy_rows {P : Program} (w : World) (dT sT ty elem : TypeId) (sz g o dLen dCap : Nat) (a : Addr) (sLen sCap : Nat) (cur : Array Value) (t : TypeId) (cs : List Value)
    (hu : P.underlying dT = some (.slice elem)) (hs : (P.info? elem).map (·.size) = some sz)
    (hg : w.heap[g]? = some (.cells cur t (0, 0))) (hn : cs.length = Nat.min sLen dLen * sz)
    (hsrc : ∀ j v, cs[j]? = some v → w.cell? (a.add j) = some v) (hfit : o + cs.length ≤ cur.size) (h1 : ∀ v ∈ cs, v.oneCell' = true) :
    (Builtin.copy_ #[dT, sT] ty #[.slice (some ⟨g, o, none⟩) dLen dCap, .slice (some a) sLen sCap]).run P w =
      .ok (goInt (Nat.min sLen dLen)) (w.setRow g (cur.toList.take o ++ cs ++ cur.toList.drop (o + cs.length)).toArray) := by
  have hl := run_loadCells_list (P := P) w a cs hsrc
  have hst := run_storeCells_at P g o t cs 0 cur w hg (by simpa using hfit) h1
  cases hq : P.info? elem with
  | none => simp [hq] at hs
  | some i =>
    have hi : i.size = sz := by simpa [hq] using hs
    simp [Builtin.copy_, run_underlying hu, Builtin.lenOf, Builtin.firstCells, sizeOf, typeInfo, hq, hi, ← hn, hl, hst]
theorem But.setRow {g : Nat} (w : World) (cs : Array Value) : But g w (w.setRow g cs) := ⟨rfl, rfl, rfl, by simp [World.setRow], fun k _ hn => setRow_other w g k cs hn⟩
theorem wpList_copy_rows {P : Program} {w : World} {ops : Array Oper} {rest : List Oper} {o : Oper} {a : Act} {Q : Exit → Act → World → Prop} (hgd : o.guard = none) (d s : Operand) (dT sT : TypeId)
    (ho : o.op = .call { callee := .builtin .copy, args := #[d, s], argTypes := #[dT, sT] }) (elem : TypeId) (sz : Nat) (hu : P.underlying dT = some (.slice elem)) (hsz : (P.info? elem).map (·.size) = some sz)
    (g off dLen dCap : Nat) (ad : Addr) (sLen sCap : Nat) (hd : a.eval d = .slice (some ⟨g, off, none⟩) dLen dCap) (hs : a.eval s = .slice (some ad) sLen sCap)
    (cur : Array Value) (t : TypeId) (hg : Box w g t cur) (cs : List Value) (hn : cs.length = Nat.min sLen dLen * sz)
    (hsrc : ∀ j v, cs[j]? = some v → w.cell? (ad.add j) = some v) (hfit : off + cs.length ≤ cur.size) (h1 : ∀ v ∈ cs, v.oneCell' = true)
    (h : ∀ w', Box w' g t (cur.toList.take off ++ (cs ++ cur.toList.drop (off + cs.length))).toArray → But g w w' → wpList P ops Q rest (a.put o.dst (goInt (Nat.min sLen dLen))) w') : wpList P ops Q (o :: rest) a w := by
  refine wpList_plain hgd fun K hK => ?_
  have hrun := run_copy_rows (P := P) w dT sT o.type elem sz g off dLen dCap ad sLen sCap cur t cs hu hsz hg hn hsrc hfit h1
  unfold Oper.wp
  simp only [execOp, ho, resolve, invoke, builtin]
  simp [hd, hs, hrun, Result.andThen]
  exact hK _ _ (h _ (setRow_heap w g _ _ t _ hg) (But.setRow w _))
theorem step_copy_rows {P : Program} {ops : Array Oper} {o : Oper} {a : Act} {w : World} {K : Act → World → Prop} {Q : Exit → Act → World → Prop} {E : Prop} (hgd : o.guard = none) (d s : Operand) (dT sT : TypeId)
    (ho : o.op = .call { callee := .builtin .copy, args := #[d, s], argTypes := #[dT, sT] }) (elem : TypeId) (sz : Nat) (hu : P.underlying dT = some (.slice elem)) (hsz : (P.info? elem).map (·.size) = some sz)
    (g off dLen dCap : Nat) (ad : Addr) (sLen sCap : Nat) (hd : a.eval d = .slice (some ⟨g, off, none⟩) dLen dCap) (hs : a.eval s = .slice (some ad) sLen sCap)
    (cur : Array Value) (t : TypeId) (hg : Box w g t cur) (cs : List Value) (hn : cs.length = Nat.min sLen dLen * sz)
    (hsrc : ∀ j v, cs[j]? = some v → w.cell? (ad.add j) = some v) (hfit : off + cs.length ≤ cur.size) (h1 : ∀ v ∈ cs, v.oneCell' = true)
    (h : ∀ w', Box w' g t (cur.toList.take off ++ (cs ++ cur.toList.drop (off + cs.length))).toArray → But g w w' → K (a.put o.dst (goInt (Nat.min sLen dLen))) w') :
    if Region.wanted o (yielded ops a.tmps) = true then Oper.wp P o a w K Q else E := by
  have hw : Region.wanted o (yielded ops a.tmps) = true := by simp [Region.wanted, hgd]
  rw [if_pos hw]
  have hrun := run_copy_rows (P := P) w dT sT o.type elem sz g off dLen dCap ad sLen sCap cur t cs hu hsz hg hn hsrc hfit h1
  unfold Oper.wp
  simp only [execOp, ho, resolve, invoke, builtin]
  simp [hd, hs, hrun, Result.andThen]
  exact h _ (setRow_heap w g _ _ t _ hg) (But.setRow w _)

/-- The words of a row whose first m sets were written. -/
def words (s : Bs) (m n : Nat) : List Nat := (List.replicate m s).flatten ++ List.replicate ((n - m) * 7) 0
theorem rep_len {s : Bs} (h : s.length = 7) (m : Nat) : (List.replicate m s).flatten.length = m * 7 := by
  induction m with
  | zero => rfl
  | succ m ih => rw [List.replicate_succ, List.flatten_cons, List.length_append, ih, h]; omega
theorem words_len {s : Bs} (h : s.length = 7) {m n : Nat} (hm : m ≤ n) : (words s m n).length = n * 7 := by
  unfold words
  rw [List.length_append, rep_len h, List.length_replicate, ← Nat.add_mul]
  congr 1; omega
theorem words_splice {s : Bs} (h : s.length = 7) {m k n : Nat} (hm : m + k ≤ n) :
    (words s m n).take (m * 7) ++ (List.replicate k s).flatten ++ (words s m n).drop (m * 7 + k * 7) = words s (m + k) n := by
  unfold words
  rw [List.take_left' (rep_len h m), ← List.drop_drop, List.drop_left' (rep_len h m), List.drop_replicate, show List.replicate (m + k) s = List.replicate m s ++ List.replicate k s from List.replicate_append_replicate.symm, List.flatten_append, show (n - m) * 7 - k * 7 = (n - (m + k)) * 7 by omega]
theorem words_all (s : Bs) (n : Nat) : words s n n = (List.replicate n s).flatten := by unfold words; simp
theorem u64s_list (l : List Nat) : (u64s l).toList = l.map fun v : Nat => Value.int .u64 (v : Int) := by simp [u64s]
theorem u64s_splice (l m : List Nat) (i j : Nat) : ((u64s l).toList.take i ++ ((m.map fun v : Nat => Value.int .u64 (v : Int)) ++ (u64s l).toList.drop j)).toArray = u64s (l.take i ++ m ++ l.drop j) := by
  rw [u64s_list]
  simp [u64s, List.map_take, List.map_drop]
theorem madeCells_get (zs : Array Value) (n i : Nat) (h : i < (madeCells zs n).size) : (madeCells zs n)[i] = zs[i % zs.size]! := by simp [madeCells]
theorem mk_sets (n : Nat) (hn : n ≤ 10000) (w : World) : (Instr.makeSlice 70 (.int .i64 n) (.int .i64 n)).run Tryz.prog w = .ok (.slice (some ⟨w.heap.size, 0, none⟩) n n) (w.alloc (.cells (u64s (words [] 0 n)) 108)) := by
  have h := run_makeSlice (P := Tryz.prog) (w := w) 70 108 Tryz.t108 (.agg #[.int .u64 0, .int .u64 0, .int .u64 0, .int .u64 0, .int .u64 0, .int .u64 0, .int .u64 0]) Tryz.underlying70 (by kernel_rfl) (by kernel_rfl) .i64 .i64 (n : Int) (n : Int) (by omega) (Int.le_refl _) (by show (n : Int).toNat * 7 ≤ _; omega) (by show ((56 : Nat) : Int) * (n : Int) ≤ _; omega) (by omega)
  rw [h]
  have e : madeCells (Value.cells (.agg #[.int .u64 0, .int .u64 0, .int .u64 0, .int .u64 0, .int .u64 0, .int .u64 0, .int .u64 0])) ((n : Int).toNat * Tryz.t108.size) = u64s (words [] 0 n) := by
    show madeCells #[.int .u64 0, .int .u64 0, .int .u64 0, .int .u64 0, .int .u64 0, .int .u64 0, .int .u64 0] ((n : Int).toNat * 7) = _
    rw [Int.toNat_natCast]
    apply Array.ext
    · simp [madeCells, words, u64s]
    · intro i h1 h2
      have h3 : ∀ k, k < 7 → (#[Value.int .u64 0, .int .u64 0, .int .u64 0, .int .u64 0, .int .u64 0, .int .u64 0, .int .u64 0] : Array Value)[k]? = some (.int .u64 0)
        | 0, _ => rfl
        | 1, _ => rfl
        | 2, _ => rfl
        | 3, _ => rfl
        | 4, _ => rfl
        | 5, _ => rfl
        | 6, _ => rfl
        | _ + 7, h => absurd h (by omega)
      have h4 := h3 (i % 7) (by omega)
      have h5 : (u64s (words [] 0 n))[i] = .int .u64 0 := by simp [words, u64s]
      rw [h5]
      rw [madeCells_get]
      show (#[Value.int .u64 0, .int .u64 0, .int .u64 0, .int .u64 0, .int .u64 0, .int .u64 0, .int .u64 0] : Array Value)[i % 7]! = _
      rw [getElem!_def, h4]
  rw [e]
  simp
theorem words_front {s : Bs} (h : s.length = 7) {m k n j : Nat} (hk : k ≤ m) (hj : j < k * 7) : (words s m n).getD j 0 = ((List.replicate k s).flatten).getD j 0 := by
  have e : words s m n = (List.replicate k s).flatten ++ ((List.replicate (m - k) s).flatten ++ List.replicate ((n - m) * 7) 0) := by
    unfold words
    rw [← List.append_assoc, ← List.flatten_append, List.replicate_append_replicate, Nat.add_sub_cancel' hk]
  rw [e, gd_lt _ (by rw [List.length_append, rep_len h]; omega), gd_lt _ (by rw [rep_len h]; exact hj), List.getElem_append_left]
theorem words_zero (s : Bs) (n : Nat) : words s 0 n = words [] 0 n := rfl
set_option maxRecDepth 100000 in
set_option maxHeartbeats 1600000 in
theorem Repeat_any {W : World} (s : Bs) (hs : okS s) (bx q n : Nat) (hx : Box W bx 108 (u64s s)) (h0 : 0 < n) (hn : n ≤ 400) :
    Calls Tryz.prog 98 #[.slice (some ⟨bx, 0, none⟩) 1 q, .int .i64 n] W fun e w' => ∃ b, e = .returned (.slice (some ⟨b, 0, none⟩) n n) ∧ W.heap.size ≤ b ∧ Box w' b 108 (u64s (List.replicate n s).flatten) ∧ Below W.heap.size W w' := by
  have hs7 := hs.1
  have l0 : ((n : Int) < 0) = False := by simp
  have cv : IntKind.u64.wrap (n : Int) = (n : Int) := IntWalk.u64_in _ (by omega)
  have cv1 : IntKind.u64.wrap (1 : Int) = (1 : Int) := IntWalk.u64_in _ (by omega)
  have cv2 : IntKind.i64.wrap (n : Int) = (n : Int) := IntWalk.i64_in _ (by omega)
  have hmul := Tryz.bits_Mul 1 n (by omega) (by omega) W
  have e1 : ((1 * n / 18446744073709551616 : Nat) : Int) = 0 := by omega
  have e2 : ((1 * n % 18446744073709551616 : Nat) : Int) = (n : Int) := by omega
  rw [e1, e2] at hmul
  replace hmul := Lib.hid hmul
  have mk := fun w => mk_sets n (by omega) w
  clear e1 e2
  go_enter Tryz.func98, Tryz.ntmps98
  go_wp2_with fail
  refine hmul.out.mono ?_
  rintro r w' ⟨rfl, rfl⟩
  clear hmul
  have hbig : ((9223372036854775807 : Int) < (n : Int)) = False := by simp; omega
  have bA : Below w'.heap.size w' (w'.alloc (.cells (u64s (words [] 0 n)) 108)) := (Below.refl _ _).alloc (Nat.le_refl _) _
  have N := Box.new w' 108 (u64s (words [] 0 n))
  have X := hx.below bA
  have hlt := hx.lt
  go_upto_region 7 with fail
  obtain ⟨b, hb⟩ : ∃ b, Hid (w'.heap.size = b) := ⟨_, Lib.hid rfl⟩
  obtain ⟨w1, hw1⟩ : ∃ Y, w'.alloc (.cells (u64s (words [] 0 n)) 108) = Y := ⟨_, rfl⟩
  rw [hw1] at N bA X
  rw [hb.out] at N hlt
  simp only [hw1, hb.out]
  clear hw1 mk hx
  rw [← words_zero s n] at N
  have hl0 : (words s 0 n).length = n * 7 := words_len hs7 (by omega)
  have hsz : (u64s (words s 0 n)).size = n * 7 := by rw [u64s_size, hl0]
  have hmin : Nat.min 1 n = 1 := by simp [Nat.min_def]; omega
  have hc := run_copy_rows (P := Tryz.prog) w1 70 70 3 108 7 b 0 n n ⟨bx, 0, none⟩ 1 q (u64s (words s 0 n)) 108 (s.map fun v : Nat => Value.int .u64 (v : Int)) (by kernel_rfl) (by kernel_rfl) N (by rw [hmin]; simp [hs7])
    (by
      intro j v hj
      have hj7 : j < s.length := by
        have := (List.getElem?_eq_some_iff.1 hj).1
        simpa using this
      have hadd : (⟨bx, 0, none⟩ : Addr).add j = ⟨bx, j, none⟩ := by unfold Addr.add; split <;> simp_all
      rw [hadd, X.cell, u64s_get _ _ hj7, gd_lt _ hj7]
      simp [hj7] at hj
      rw [← hj])
    (by rw [hsz]; simp [hs7]; omega) (by intro v hv; obtain ⟨z, _, rfl⟩ := List.mem_map.1 hv; rfl)
  rw [hmin, List.append_assoc, u64s_splice] at hc
  have e2 : (words s 0 n).take 0 ++ s ++ (words s 0 n).drop (0 + (s.map fun v : Nat => Value.int .u64 (v : Int)).length) = words s 1 n := by
    have := words_splice hs7 (m := 0) (k := 1) (n := n) (by omega)
    simpa [hs7] using this
  rw [e2] at hc
  have N2 : Box (w1.setRow b (u64s (words s 1 n))) b 108 (u64s (words s 1 n)) := setRow_heap w1 b _ _ _ _ N
  have B2 : Below w'.heap.size w' (w1.setRow b (u64s (words s 1 n))) := ((But.of bA : But b w' w1).trans (But.setRow _ _)).below (by rw [hb.out]; exact Nat.le_refl _) (Nat.le_refl _)
  clear e2 N X bA hsz hl0
  go_upto_region 8 with fail
  obtain ⟨w2, hw2⟩ : ∃ Y, w1.setRow b (u64s (words s 1 n)) = Y := ⟨_, rfl⟩
  rw [hw2] at N2 B2
  simp only [hw2]
  clear hw2 hc hmin hbig
  go_loopw [8] (fun v wr => ∃ m : Nat, 1 ≤ m ∧ m ≤ n ∧ v = .int .i64 m ∧ Box wr b 108 (u64s (words s m n)) ∧ Below w'.heap.size w' wr) (fun v _ => n - iOf v)
  case atStart => exact ⟨1, Nat.le_refl _, h0, rfl, N2, B2⟩
  case round =>
    rename_i wr
    clear N2 B2
    obtain ⟨m, hm1, hm2, rfl, N, B⟩ := hrel
    by_cases hlt7 : m < n
    · have hmc : (m : Int) < n := by omega
      obtain ⟨k, hk⟩ : ∃ k, Nat.min m (n - m) = k := ⟨_, rfl⟩
      have hk1 : k ≤ m ∧ m + k ≤ n ∧ 1 ≤ k := by have h1 : Nat.min m (n - m) ≤ m := Nat.min_le_left _ _; have h2 : Nat.min m (n - m) ≤ n - m := Nat.min_le_right _ _; have h3 : 1 ≤ Nat.min m (n - m) := Nat.le_min.2 ⟨hm1, by omega⟩; omega
      have hl0 : (words s m n).length = n * 7 := words_len hs7 (by omega)
      have hsz : (u64s (words s m n)).size = n * 7 := by rw [u64s_size, hl0]
      have hc := run_copy_rows (P := Tryz.prog) wr.drew 70 70 3 108 7 b (m * 7) (n - m) (n - m) ⟨b, 0, none⟩ m n (u64s (words s m n)) 108 (((List.replicate k s).flatten).map fun v : Nat => Value.int .u64 (v : Int)) (by kernel_rfl) (by kernel_rfl) N (by rw [hk, List.length_map, rep_len hs7])
        (by
          intro j v hj
          have hj7 : j < k * 7 := by
            have := (List.getElem?_eq_some_iff.1 hj).1
            rwa [List.length_map, rep_len hs7] at this
          have hadd : (⟨b, 0, none⟩ : Addr).add j = ⟨b, j, none⟩ := by unfold Addr.add; split <;> simp_all
          have hj8 : j < ((List.replicate k s).flatten).length := by rw [rep_len hs7]; exact hj7
          rw [hadd]
          have h9 : wr.drew.cell? ⟨b, j, none⟩ = (u64s (words s m n))[j]? := N.cell j
          rw [h9, u64s_get _ _ (by rw [hl0]; omega), words_front hs7 hk1.1 hj7, gd_lt _ hj8]
          rw [List.getElem?_map, List.getElem?_eq_getElem hj8] at hj
          exact hj)
        (by rw [hsz, List.length_map, rep_len hs7]; omega) (by intro v hv; obtain ⟨z, _, rfl⟩ := List.mem_map.1 hv; rfl)
      rw [hk, List.append_assoc, u64s_splice] at hc
      have e2 : (words s m n).take (m * 7) ++ (List.replicate k s).flatten ++ (words s m n).drop (m * 7 + (((List.replicate k s).flatten).map fun v : Nat => Value.int .u64 (v : Int)).length) = words s (m + k) n := by
        rw [List.length_map, rep_len hs7]
        exact words_splice hs7 hk1.2.1
      rw [e2] at hc
      have N2 : Box (wr.drew.setRow b (u64s (words s (m + k) n))) b 108 (u64s (words s (m + k) n)) := setRow_heap wr.drew b _ _ _ _ N
      have B2 : Below w'.heap.size w' (wr.drew.setRow b (u64s (words s (m + k) n))) := B.trans (((But.of (Drew.below ⟨1, rfl⟩) : But b wr wr.drew).trans (But.setRow _ _)).below (B := w'.heap.size) (by rw [hb.out]; exact Nat.le_refl _) B.size)
      have hwk : IntKind.i64.wrap ((m : Int) + (k : Int)) = ((m + k : Nat) : Int) := by rw [IntWalk.i64_in _ (by omega)]; omega
      clear e2 hsz hl0 N hk
      go_wp2_with fail
      go_region
      go_wp2_with fail
      go_roundw
      case rel => exact ⟨m + k, by omega, hk1.2.1, by go_num, N2, B2⟩
      case measure => simp only [iOf]; omega
    · have hme : m = n := by omega
      subst hme
      go_wp2
      go_ret
      exact ⟨b, rfl, by rw [hb.out]; exact Nat.le_refl _, by rw [← words_all]; exact N, B⟩
end Go.Proofs.YtnbgadndkepomaaGreatDoor

/- ssa: a row of sets as one row of words. Nothing of the program stands here. -/
namespace Go.Proofs.YtnbgadndkepomaaGreatDoor
open Go.RowKit

def len7 (D : List Bs) : Prop := ∀ s ∈ D, s.length = 7
theorem okD.len7 {D : List Bs} (h : okD D) : len7 D := fun s hs => (h s hs).1
theorem flat_len : ∀ {D : List Bs}, len7 D → D.flatten.length = D.length * 7
  | [], _ => rfl
  | a :: D, h => by
    rw [List.flatten_cons, List.length_append, flat_len (fun s hs => h s (List.mem_cons_of_mem _ hs)), h a (by simp), List.length_cons]
    omega
theorem flat_get : ∀ {D : List Bs}, len7 D → ∀ (e k : Nat) (_ : e < D.length) (_ : k < 7), D.flatten.getD (e * 7 + k) 0 = (D.getD e noneS).getD k 0
  | [], _, _, _, h, _ => by simp at h
  | a :: D, h, 0, k, _, hk => by
    have ha := h a (by simp)
    rw [gd_lt _ (by rw [List.flatten_cons, List.length_append]; omega), gd_lt noneS (l := a :: D) (by simp), List.getElem_cons_zero, gd_lt _ (by omega)]
    simp only [List.flatten_cons, Nat.zero_mul, Nat.zero_add]
    rw [List.getElem_append_left]
  | a :: D, h, e + 1, k, he, hk => by
    have ha := h a (by simp)
    have hD : len7 D := fun s hs => h s (List.mem_cons_of_mem _ hs)
    have he2 : e < D.length := by simpa using he
    have ih := flat_get hD e k he2 hk
    have hl := flat_len hD
    rw [gd_lt _ (by rw [hl]; omega)] at ih
    rw [gd_lt _ (by rw [List.flatten_cons, List.length_append, hl]; omega), show (a :: D).getD (e + 1) noneS = D.getD e noneS from rfl, ← ih]
    simp only [List.flatten_cons]
    rw [List.getElem_append_right (by omega)]
    congr 1
    omega
theorem flat_set : ∀ {D : List Bs}, len7 D → ∀ (e k v : Nat) (_ : e < D.length) (_ : k < 7), D.flatten.set (e * 7 + k) v = (D.set e ((D.getD e noneS).set k v)).flatten
  | [], _, _, _, _, h, _ => by simp at h
  | a :: D, h, 0, k, v, _, hk => by
    have ha := h a (by simp)
    simp only [List.flatten_cons, Nat.zero_mul, Nat.zero_add, List.set_cons_zero]
    rw [List.set_append_left _ _ (by omega)]
    rfl
  | a :: D, h, e + 1, k, v, he, hk => by
    have ha := h a (by simp)
    have hD : len7 D := fun s hs => h s (List.mem_cons_of_mem _ hs)
    have he2 : e < D.length := by simpa using he
    have ih := flat_set hD e k v he2 hk
    simp only [List.flatten_cons, List.set_cons_succ]
    rw [List.set_append_right _ _ (by omega), show (e + 1) * 7 + k - a.length = e * 7 + k by omega, ih]
    rfl
theorem u64s_set (l : List Nat) (i v : Nat) : (u64s l).setIfInBounds i (.int .u64 (v : Int)) = u64s (l.set i v) := by
  apply Array.toList_inj.1
  simp [u64s, List.map_set]
theorem len7_set {D : List Bs} (h : len7 D) (e : Nat) {s : Bs} (hs : s.length = 7) : len7 (D.set e s) := fun t ht => by
  rcases List.mem_or_eq_of_mem_set ht with ht | rfl
  · exact h t ht
  · exact hs
theorem getD_len7 {D : List Bs} (h : len7 D) (e : Nat) : (D.getD e noneS).length = 7 := by
  by_cases he : e < D.length
  · rw [gd_lt _ he]; exact h _ (List.getElem_mem he)
  · rw [gd_ge _ (by omega)]; rfl
/-- One word of one set. -/
theorem set_one {D : List Bs} (h : len7 D) {e k : Nat} (he : e < D.length) (hk : k < 7) (v : Nat) : (u64s D.flatten).setIfInBounds (e * 7 + k) (.int .u64 (v : Int)) = u64s (D.set e ((D.getD e noneS).set k v)).flatten := by
  rw [u64s_set, flat_set h e k v he hk]
/-- All words of one set. -/
theorem set_seven {D : List Bs} (h : len7 D) {e : Nat} (he : e < D.length) (a b c d f g i : Nat) :
    (((((((u64s D.flatten).setIfInBounds (e * 7 + 0) (.int .u64 (a : Int))).setIfInBounds (e * 7 + 1) (.int .u64 (b : Int))).setIfInBounds (e * 7 + 2) (.int .u64 (c : Int))).setIfInBounds (e * 7 + 3) (.int .u64 (d : Int))).setIfInBounds (e * 7 + 4) (.int .u64 (f : Int))).setIfInBounds (e * 7 + 5) (.int .u64 (g : Int))).setIfInBounds (e * 7 + 6) (.int .u64 (i : Int))
      = u64s (D.set e [a, b, c, d, f, g, i]).flatten := by
  have step : ∀ (s : Bs) (k v : Nat), s.length = 7 → k < 7 → (u64s (D.set e s).flatten).setIfInBounds (e * 7 + k) (.int .u64 (v : Int)) = u64s (D.set e (s.set k v)).flatten := fun s k v hs hk => by
    rw [set_one (len7_set h e hs) (by simpa using he) hk, List.set_set, getD_set_self he]
  have h0 := getD_len7 h e
  rw [set_one h he (by omega)]
  rw [step _ 1 b (by simpa using h0) (by omega), step _ 2 c (by simpa using h0) (by omega), step _ 3 d (by simpa using h0) (by omega), step _ 4 f (by simpa using h0) (by omega), step _ 5 g (by simpa using h0) (by omega), step _ 6 i (by simpa using h0) (by omega)]
  congr 3
  match D.getD e noneS, h0 with
  | [_, _, _, _, _, _, _], _ => rfl
theorem sum_flat : ∀ (D : List Bs), D.flatten.sum = totalS D
  | [] => rfl
  | a :: D => by
    have := sum_flat D
    unfold totalS at *
    rw [List.flatten_cons, List.sum_append, this]
    simp
/-- The sum of a block's words. -/
def sumAt (w : World) (b : Nat) : Nat := match w.heap[b]? with
  | some (.cells cs _ _) => (cs.toList.map iOf).sum
  | _ => 0
theorem sumAt_of {w : World} {b : Nat} {T : TypeId} {D : List Bs} (h : Box w b T (u64s D.flatten)) : sumAt w b = totalS D := by
  unfold sumAt
  rw [h]
  show ((u64s D.flatten).toList.map iOf).sum = _
  rw [u64s_list, List.map_map, ← sum_flat]
  congr 1
  refine (List.map_congr_left (g := id) fun a _ => ?_).trans (List.map_id _)
  simp [iOf]
end Go.Proofs.YtnbgadndkepomaaGreatDoor
