/- ssa: sets of blocks. -/
import Derived.Test.YtnbgadndkepomaaGreatDoorSQA
import Derived.Test.YtnbgadndkepomaaGreatDoorSaPre
import Derived.Laws.BitsAllLaws
namespace Go.Proofs.YtnbgadndkepomaaGreatDoor
open Go.RowKit

/-- The cells of words. -/
def u64s (s : List Nat) : Array Value := (s.map fun v : Nat => Value.int .u64 (v : Int)).toArray
theorem u64s_get (s : List Nat) (i : Nat) (h : i < s.length) : (u64s s)[i]? = some (.int .u64 (s.getD i 0 : Nat)) := by
  rw [gd_lt _ h]
  simp [u64s, h]
theorem u64s_size (s : List Nat) : (u64s s).size = s.length := by simp [u64s]
theorem seven {s : Bs} (h : okS s) : ∃ a b c d e f g, s = [a, b, c, d, e, f, g] := by
  have h1 := h.1
  match s, h1 with
  | [a, b, c, d, e, f, g], _ => exact ⟨a, b, c, d, e, f, g, rfl⟩
theorem bit_and (v k : Nat) (hv : v < 18446744073709551616) : (bits BinOp.and IntKind.u64 ((v : Int) / 2 ^ k) 1 != 0) = v.testBit k := by
  have e : ((v : Int) / 2 ^ k) = ((v / 2 ^ k : Nat) : Int) := by simp
  have hlt : v / 2 ^ k < 18446744073709551616 := Nat.lt_of_le_of_lt (Nat.div_le_self _ _) hv
  have h := u64_and_nat (v / 2 ^ k) 1 hlt (by omega)
  rw [e]
  rw [show (1 : Int) = ((1 : Nat) : Int) from rfl, h]
  unfold Nat.testBit
  rw [Nat.shiftRight_eq_div_pow, Nat.and_comm]
  generalize 1 &&& v / 2 ^ k = z
  by_cases hz : z = 0
  · subst hz; rfl
  · have h1 : ((z : Int) != 0) = true := by simpa using hz
    have h2 : (z != 0) = true := by simpa using hz
    rw [h1, h2]
set_option maxRecDepth 100000 in
set_option maxHeartbeats 1600000 in
theorem has_any {W : World} (s : Bs) (hs : okS s) (b : Nat) (hb : b < 448) :
    Calls Tryz.prog 104 #[.agg (u64s s), .int .i64 b] W fun e w' => e = .returned (.bool (hasS s b)) ∧ Below W.heap.size W w' := by
  obtain ⟨R, hR⟩ : ∃ R, Hid (hasS s b = R) := ⟨_, Lib.hid rfl⟩
  rw [hR.out]
  have hk : b / 64 < s.length := by rw [hs.1]; omega
  have N := Box.new W 108 (u64s s)
  have c := N.cell (b / 64)
  rw [u64s_get s _ hk] at c
  have bA : Below W.heap.size W (W.alloc (.cells (u64s s) 108)) := (Below.refl _ _).alloc (Nat.le_refl _) _
  go_enter Tryz.func104, Tryz.ntmps104
  go_upto_region 1 with fail
  obtain ⟨w1, hw1⟩ : ∃ Y, W.alloc (.cells (u64s s) 108) = Y := ⟨_, rfl⟩
  rw [hw1] at c N bA
  simp only [hw1]
  obtain ⟨v, hv⟩ : ∃ v, Hid (List.getD s (b / 64) 0 = v) := ⟨_, Lib.hid rfl⟩
  rw [hv.out] at c
  have hq : IntKind.i64.wrap ((b : Int).tdiv 64) = ((b / 64 : Nat) : Int) := by
    have : (b : Int).tdiv 64 = ((b / 64 : Nat) : Int) := by rw [Int.tdiv_eq_ediv_of_nonneg (by omega)]; omega
    rw [this, IntWalk.i64_in _ (by omega)]
  have hr : IntKind.i64.wrap ((b : Int).tmod 64) = ((b % 64 : Nat) : Int) := by
    have : (b : Int).tmod 64 = ((b % 64 : Nat) : Int) := by rw [Int.tmod_eq_emod_of_nonneg (by omega)]; omega
    rw [this, IntWalk.i64_in _ (by omega)]
  have hb7 : ((b / 64 : Nat) : Int) < 7 := by omega
  go_wp2
  go_ret
  refine ⟨?_, bA⟩
  rw [bit_and v _ (by rw [← hv.out]; exact okS_getD hs _), ← hv.out, ← hR.out]
  rfl
set_option maxRecDepth 100000 in
set_option maxHeartbeats 1600000 in
theorem add_any {w : World} {pb : Nat} {T : TypeId} {cs : Array Value} (hB : Box w pb T cs) (b v : Nat) (hb : b < 448) (hv : cs[b / 64]? = some (.int .u64 (v : Nat))) (hv2 : v < 18446744073709551616) :
    Calls Tryz.prog 100 #[.pointer (some ⟨pb, 0, none⟩), .int .i64 b] w fun e w' => e = .returned (.tuple #[]) ∧ Box w' pb T (cs.setIfInBounds (b / 64) (.int .u64 (v ||| 2 ^ (b % 64) : Nat))) ∧ But pb w w' := by
  have c := hB.cell (b / 64)
  have f := hB.free (b / 64)
  rw [hv] at c
  go_enter Tryz.func100, Tryz.ntmps100
  have hq : IntKind.i64.wrap ((b : Int).tdiv 64) = ((b / 64 : Nat) : Int) := by
    have : (b : Int).tdiv 64 = ((b / 64 : Nat) : Int) := by rw [Int.tdiv_eq_ediv_of_nonneg (by omega)]; omega
    rw [this, IntWalk.i64_in _ (by omega)]
  have hr : IntKind.i64.wrap ((b : Int).tmod 64) = ((b % 64 : Nat) : Int) := by
    have : (b : Int).tmod 64 = ((b % 64 : Nat) : Int) := by rw [Int.tmod_eq_emod_of_nonneg (by omega)]; omega
    rw [this, IntWalk.i64_in _ (by omega)]
  have hb7 : ((b / 64 : Nat) : Int) < 7 := by omega
  have hval : bits BinOp.or IntKind.u64 (v : Int) (IntKind.u64.wrap (2 ^ (b % 64))) = ((v ||| 2 ^ (b % 64) : Nat) : Int) := by
    have h2 : 2 ^ (b % 64) < 18446744073709551616 := by
      have : 2 ^ (b % 64) < 2 ^ 64 := Nat.pow_lt_pow_right (by omega) (by omega)
      omega
    have e : ((2 : Int) ^ (b % 64)) = ((2 ^ (b % 64) : Nat) : Int) := by simp
    rw [e]
    generalize 2 ^ (b % 64) = z at h2
    rw [IntWalk.u64_in _ (by omega)]
    exact u64_or_nat v _ hv2 h2
  have N := hB.set (b / 64) (.int .u64 (v ||| 2 ^ (b % 64) : Nat))
  go_region
  go_wp2
  refine ⟨rfl, _, results_none rfl _ _ _, ?_⟩
  exact ⟨rfl, N, (But.set _).trans (But.of (Drew.below ⟨1, rfl⟩))⟩
def partK (s o : Bs) (j : Nat) : Bs := (List.range 7).map fun i => if i < j then s.getD i 0 &&& o.getD i 0 else s.getD i 0
theorem partK_zero {s : Bs} (o : Bs) (h : okS s) : partK s o 0 = s := by
  obtain ⟨a0, a1, a2, a3, a4, a5, a6, rfl⟩ := seven h
  rfl
theorem partK_all {s o : Bs} (h : okS s) (k : okS o) : partK s o 7 = keepS s o := by
  obtain ⟨a0, a1, a2, a3, a4, a5, a6, rfl⟩ := seven h
  obtain ⟨b0, b1, b2, b3, b4, b5, b6, rfl⟩ := seven k
  rfl
theorem partK_len (s o : Bs) (j : Nat) : (partK s o j).length = 7 := by simp [partK]
theorem partK_at (s o : Bs) {j : Nat} (hj : j < 7) : (partK s o j).getD j 0 = s.getD j 0 := by
  rw [gd_lt _ (by rw [partK_len]; exact hj)]
  simp [partK]
theorem partK_set (s o : Bs) {j : Nat} (hj : j < 7) : (u64s (partK s o j)).setIfInBounds j (.int .u64 (s.getD j 0 &&& o.getD j 0 : Nat)) = u64s (partK s o (j + 1)) := by
  apply Array.ext_getElem?
  intro i
  by_cases h7 : i < 7
  · by_cases e : j = i
    · subst e
      rw [Array.getElem?_setIfInBounds_self_of_lt (by rw [u64s_size, partK_len]; exact hj), u64s_get _ _ (by rw [partK_len]; exact hj)]
      have e : (partK s o (j + 1)).getD j 0 = s.getD j 0 &&& o.getD j 0 := by
        rw [gd_lt 0 (l := partK s o (j + 1)) (by rw [partK_len]; exact hj)]
        unfold partK
        rw [List.getElem_map, List.getElem_range, if_pos (Nat.lt_succ_self j)]
      rw [e]
    · rw [Array.getElem?_setIfInBounds_ne e, u64s_get _ _ (by rw [partK_len]; exact h7), u64s_get _ _ (by rw [partK_len]; exact h7), gd_lt _ (by rw [partK_len]; exact h7), gd_lt _ (by rw [partK_len]; exact h7)]
      have : (i < j) ↔ (i < j + 1) := by omega
      simp [partK, this]
  · rw [Array.getElem?_eq_none (by simp [u64s_size, partK_len]; omega), Array.getElem?_eq_none (by simp [u64s_size, partK_len]; omega)]
set_option maxRecDepth 100000 in
set_option maxHeartbeats 1600000 in
theorem keep_any {w : World} {pb : Nat} {T : TypeId} (s o : Bs) (hB : Box w pb T (u64s s)) (hs : okS s) (ho : okS o) :
    Calls Tryz.prog 101 #[.pointer (some ⟨pb, 0, none⟩), .agg (u64s o)] w fun e w' => e = .returned (.tuple #[]) ∧ Box w' pb T (u64s (keepS s o)) ∧ But pb w w' := by
  have N := Box.new w 108 (u64s o)
  have bA : Below w.heap.size w (w.alloc (.cells (u64s o) 108)) := (Below.refl _ _).alloc (Nat.le_refl _) _
  have hB1 := hB.below bA
  have hlt := hB.lt
  go_enter Tryz.func101, Tryz.ntmps101
  go_upto_region 2 with fail
  obtain ⟨bo, hbo⟩ : ∃ b, Hid (w.heap.size = b) := ⟨_, Lib.hid rfl⟩
  obtain ⟨w1, hw1⟩ : ∃ Y, w.alloc (.cells (u64s o) 108) = Y := ⟨_, rfl⟩
  rw [hw1] at N bA hB1
  rw [hbo.out] at N hlt
  simp only [hw1, hbo.out]
  clear hw1 hB
  have b1 : But pb w w1 := But.of bA
  rw [← partK_zero o hs] at hB1
  go_loopw [5] (fun v wr => ∃ j : Nat, j ≤ 7 ∧ v = .int .i64 j ∧ Box wr pb T (u64s (partK s o j)) ∧ Box wr bo 108 (u64s o) ∧ But pb w wr) (fun v _ => 7 - iOf v)
  case atStart => exact ⟨0, by omega, rfl, hB1, N, b1⟩
  case round =>
    rename_i wr
    clear hB1 N b1
    obtain ⟨j, hj, rfl, hB, N, hb⟩ := hrel
    by_cases hlt7 : j < 7
    · have c1 := hB.cell j
      rw [u64s_get _ _ (by rw [partK_len]; exact hlt7), partK_at s o hlt7] at c1
      have f1 := hB.free j
      have c2 := N.cell j
      rw [u64s_get _ _ (by rw [ho.1]; exact hlt7)] at c2
      have hjc : (j : Int) < 7 := by omega
      have hwi : IntKind.i64.wrap ((j : Int) + 1) = ((j + 1 : Nat) : Int) := by rw [IntWalk.i64_in _ (by omega)]; omega
      have hval : bits BinOp.and IntKind.u64 ((s.getD j 0 : Nat) : Int) ((o.getD j 0 : Nat) : Int) = ((s.getD j 0 &&& o.getD j 0 : Nat) : Int) := u64_and_nat _ _ (okS_getD hs j) (okS_getD ho j)
      have h2 := hB.set j (.int .u64 (s.getD j 0 &&& o.getD j 0 : Nat))
      rw [partK_set s o hlt7] at h2
      have n2 := N.far (b' := pb) (i := j) (by omega) (.int .u64 (s.getD j 0 &&& o.getD j 0 : Nat))
      have hb2 := hb.trans (But.set (i := j) (.int .u64 (s.getD j 0 &&& o.getD j 0 : Nat)))
      generalize List.getD s j 0 = sv at c1 hval h2 n2 hb2
      generalize List.getD o j 0 = ov at c2 hval h2 n2 hb2
      go_wp2_with fail
      go_region
      go_wp2_with fail
      go_roundw
      case rel => exact ⟨j + 1, by omega, by go_num, h2, n2, hb2.trans (But.of (Drew.below ⟨1, rfl⟩))⟩
      case measure => simp only [iOf]; omega
    · have hje : j = 7 := by omega
      subst hje
      go_wp2
      refine ⟨rfl, _, results_none rfl _ _ _, ?_⟩
      exact ⟨rfl, by rw [← partK_all hs ho]; exact hB, hb⟩
end Go.Proofs.YtnbgadndkepomaaGreatDoor
