/- The reference's Copy. -/
import Derived.Test.YteekppohhjlmmaaHpNew
import Derived.Test.YteekppohhjlmmaaHpRef
namespace Go.Proofs.Yteekppohhjlmmaa
open Go.RowKit

theorem OTab.snoc {w w' : World} {B B2 : Nat} {v v' u : Value} {V : Nat → Value} {l : List Ob} {x : Ob} (h : OTab w B v V l) (ho : COwn w B2 u x.c) (hB : B ≤ B2) (hfar : ∀ t, t < l.length → ∀ g, (V t).ownBlock = some g → g < B2)
    (hrow : w'.ownsRow B 42 2 v' (l.length + 1) (oflat V l ++ [u, .bool x.g])) (hg : w.grownBy w' v.ownBlock) : OTab w' B v' (fun t => if t = l.length then u else V t) (l ++ [x]) := by
  refine ⟨by rw [oflat_snoc, List.length_append]; exact hrow, fun t ht => ?_, fun t s ht hs hne => ?_⟩
  · by_cases e : t = l.length
    · subst e
      rw [if_pos rfl, obAt_append, if_neg (by omega), Nat.sub_self]
      exact World.ownsRow.kept (own_mono ho hB) hg (own_ne ho h.row (by decide))
    · have ht2 : t < l.length := by rw [List.length_append] at ht; simp at ht; omega
      rw [if_neg e, obAt_append, if_pos ht2]
      exact World.ownsRow.kept (h.own t ht2) hg (own_ne (h.own t ht2) h.row (by decide))
  · have hl : ∀ q, q < (l ++ [x]).length → q = l.length ∨ q < l.length := fun q hq => by rw [List.length_append] at hq; simp at hq; omega
    have hnew : ∀ q, q < l.length → (V q).ownBlock = none ∨ ((V q).ownBlock ≠ u.ownBlock ∧ u.ownBlock ≠ (V q).ownBlock) := fun q hq => by
      cases hv : (V q).ownBlock with
      | none => exact Or.inl rfl
      | some g =>
        right
        have h1 := hfar q hq g hv
        have h2 : u.ownBlock ≠ some g := fun e => by
          have := (World.ownsRow.lt ho g e).1
          omega
        exact ⟨fun e => h2 e.symm, h2⟩
    show (if t = l.length then u else V t).ownBlock = none ∨ (if t = l.length then u else V t).ownBlock ≠ (if s = l.length then u else V s).ownBlock
    rcases hl t ht with e1 | e1
    · rcases hl s hs with e2 | e2
      · omega
      · rw [if_pos e1, if_neg (by omega)]
        rcases hnew s e2 with q | q
        · cases hv : u.ownBlock with
          | none => exact Or.inl rfl
          | some g => right; rw [q]; simp
        · exact Or.inr q.2
    · rw [if_neg (by omega)]
      rcases hl s hs with e2 | e2
      · rw [if_pos e2]
        rcases hnew t e1 with q | q
        · exact Or.inl q
        · exact Or.inr q.1
      · rw [if_neg (by omega)]
        exact h.far t s e1 e2 hne
theorem oflat_nil (V : Nat → Value) : oflat V [] = [] := rfl
set_option maxRecDepth 100000 in
set_option maxHeartbeats 1600000 in
theorem RCopy_any (l : List Ob) (w : World) (A : Option Addr) (c : Nat) (hs : ObSl w A c l) (hf : fewO l = true) :
    Calls Try.prog 27 #[.slice A l.length c] w fun e w' => (∃ v V, e = .returned v ∧ OTab w' w.heap.size v V l) ∧ Below w.heap.size w w' := by
  obtain ⟨h20, h40⟩ := fewO_iff.1 hf
  clear hf
  have h40 := Lib.hid h40
  go_enter Try.func27, Try.ntmps27
  go_wp2_with fail
  go_loopw [3, 4] (fun a b wr => ∃ (i : Nat) (V : Nat → Value), i ≤ l.length ∧ b = .int .i64 i ∧ OTab wr w.heap.size a V (l.take i) ∧ Below w.heap.size w wr) (fun _ b _ => l.length - iOf b)
  case atStart => exact ⟨0, fun _ => .slice none 0 0, Nat.zero_le _, rfl, ⟨World.ownsRow_nil _ _ _ _, fun t ht => absurd ht (by simp), fun t u ht => absurd ht (by simp)⟩, Below.refl _ _⟩
  case round =>
    rename_i wr
    obtain ⟨i, V, hi, rfl, hT, bW⟩ := hrel
    by_cases hlt : i < l.length
    · have hlc : (i : Int) < l.length := by omega
      have hwi : IntKind.i64.wrap ((i : Int) + 1) = ((i + 1 : Nat) : Int) := by rw [IntWalk.i64_in _ (by omega)]; omega
      obtain ⟨g, o, A', c', rfl, k0, k1, ks⟩ := hs.at_ hlt
      have k0 := cell_later bW k0
      have k1 := cell_later bW k1
      have ks := ks.later bW
      have hn := h40.out _ (obAt_mem hlt)
      have htk : l.take (i + 1) = l.take i ++ [obAt l i] := by rw [List.take_succ_eq_append_getElem hlt, obAt_eq hlt]
      have hti : (l.take i).length = i := by simp; omega
      have htk := Lib.hid htk
      obtain ⟨Av, cv, ev, _⟩ := hT.sl
      rw [hti] at ev
      subst ev
      have hrow0 := hT.row
      rw [hti] at hrow0
      have hfar : ∀ t, t < (l.take i).length → ∀ gg, (V t).ownBlock = some gg → gg < wr.heap.size := fun t ht gg hg => (World.ownsRow.lt (hT.own t ht) gg hg).2
      have hfin : ∀ (w1 : World) (u : Value), COwn w1 wr.heap.size u (obAt l i).c → Below wr.heap.size wr w1 → ∀ (v' : Value) (w5 : World), w5.ownsRow w.heap.size 42 2 v' (i + 1) (oflat V (l.take i) ++ [u, .bool (obAt l i).g]) → w1.grownBy w5 (Value.ownBlock (.slice Av i cv)) → OTab w5 w.heap.size v' (fun t => if t = (l.take i).length then u else V t) (l.take (i + 1)) ∧ Below w.heap.size w w5 := fun w1 u hO b1 v' w5 hr hg => by
        have hT1 := hT.later b1
        have b2 := bW.trans (b1.mono bW.size)
        refine ⟨?_, b2.grown hg b2.size (fun k hk => (World.ownsRow.lt hT1.row k hk).1)⟩
        rw [htk.out]
        exact hT1.snoc hO bW.size hfar (by rw [hti]; exact hr) hg
      have hfin := Lib.hid hfin
      have hro : ∀ w1, Below wr.heap.size wr w1 → w1.ownsRow w.heap.size 42 2 (.slice Av i cv) i (oflat V (l.take i)) := fun w1 h1 => own_later hrow0 h1
      have hro := Lib.hid hro
      have hsz := bW.size
      cases A' with
      | none =>
        have c0 : c' = 0 := ks.2.2.1 rfl
        have hz : (obAt l i).c = [] := List.eq_nil_of_length_eq_zero (by have := ks.1; omega)
        have hO : COwn wr wr.heap.size (.slice none 0 0) (obAt l i).c := by rw [hz]; exact World.ownsRow_nil _ _ _ _
        rw [hz] at k0
        subst c0
        have hi : Try.prog.info? 45 = some Try.t45 := by kernel_rfl
        have happ : ∀ w, (Builtin.append_ #[40, 40] 40 #[.slice none 0 0, .slice none 0 0]).run Try.prog w = .ok (.slice none 0 0) w := fun w => by simp [Builtin.append_, run_underlying Try.underlying40, sizeOf, typeInfo, hi, Builtin.lenOf, Builtin.firstCells]
        clear ks hn hT hrow0 hfar hz
        generalize (obAt l i).g = gi at k1 hfin
        generalize (obAt l i).c = cs at hO hfin
        have bA : Below wr.heap.size wr (wr.alloc (.cells #[.slice none 0 0, .bool gi] 42)) := (Below.refl _ _).alloc (Nat.le_refl _) _
        go_upto_region 7 with fail
        go_wp2_with (at_builtin; refine wpList_append_own _ rfl (.tmp 19) (.tmp 27) 22 rfl w.heap.size 42 Try.t42 (.agg #[.slice none 0 0, .bool false]) 2 32 Try.underlying22 (by kernel_rfl) (by kernel_rfl) rfl rfl rfl (by decide) _ i (oflat V (l.take i)) rfl (hro.out _ bA) ⟨wr.heap.size, 0, none⟩ 1 1 [.slice none 0 0, .bool gi] rfl rfl ?d1 ?d2 ?d3 ?d4 ?d5 ?_)
        case d1 =>
          intro j u hj
          match j, hj with
          | 0, hj => simp at hj; subst hj; simp [Addr.add]
          | 1, hj => simp at hj; subst hj; simp [Addr.add]
        case d2 => intro u hu; simp at hu; rcases hu with rfl | rfl <;> rfl
        case d3 => unfold maxLen; omega
        case d4 => omega
        case d5 => simp; omega
        intro v' w5 hown hgrow _
        obtain ⟨hT5, b5⟩ := hfin.out _ _ (own_later hO bA) bA v' w5 hown hgrow
        clear hfin hro hO hown hgrow
        go_wp2_with fail
        go_roundw
        case rel => exact ⟨i + 1, _, hlt, rfl, hT5, b5⟩
        case measure => simp only [iOf]; omega
      | some ad =>
        go_upto_region 6 with fail
        go_wp2_with (at_builtin; refine wpList_append_own _ rfl (.tmp 12) (.tmp 17) 40 rfl wr.heap.size 45 Try.t45 (.agg #[.int .i64 0, .bool false, .int .u64 0]) 3 24 Try.underlying40 (by kernel_rfl) (by kernel_rfl) rfl rfl rfl (by decide) _ 0 [] rfl (World.ownsRow_nil _ _ _ _) ad (obAt l i).c.length c' (flat (obAt l i).c) rfl (flat_len _) ks.cells flat_one ?e3 ?e4 ?e5 ?_)
        case e3 => unfold maxLen; omega
        case e4 => omega
        case e5 => exact Nat.le_refl _
        intro v1 w1 hown1 hgrow1 _
        have hO : COwn w1 wr.heap.size v1 (obAt l i).c := hown1
        have b1 : Below wr.heap.size wr w1 := (Below.refl _ _).grown hgrow1 (Nat.le_refl _) (fun k hk => by simp [Value.ownBlock] at hk)
        have k1 := cell_later b1 k1
        obtain ⟨A1, c1, e1, _⟩ := hO.sl
        subst e1
        clear hown1 hgrow1 ks k0 hn hT hrow0 hfar
        generalize (obAt l i).g = gi at k1 hfin
        generalize (obAt l i).c = cs at hO hfin
        have bA : Below wr.heap.size wr (w1.alloc (.cells #[.slice A1 cs.length c1, .bool gi] 42)) := b1.alloc b1.size _
        have bA1 : Below w1.heap.size w1 (w1.alloc (.cells #[.slice A1 cs.length c1, .bool gi] 42)) := (Below.refl _ _).alloc (Nat.le_refl _) _
        have hz1 := b1.size
        go_wp2_with (at_builtin; refine wpList_append_own _ rfl (.tmp 19) (.tmp 27) 22 rfl w.heap.size 42 Try.t42 (.agg #[.slice none 0 0, .bool false]) 2 32 Try.underlying22 (by kernel_rfl) (by kernel_rfl) rfl rfl rfl (by decide) _ i (oflat V (l.take i)) rfl (hro.out _ bA) ⟨w1.heap.size, 0, none⟩ 1 1 [.slice A1 cs.length c1, .bool gi] rfl rfl ?d1 ?d2 ?d3 ?d4 ?d5 ?_)
        case d1 =>
          intro j u hj
          match j, hj with
          | 0, hj => simp at hj; subst hj; simp [Addr.add]
          | 1, hj => simp at hj; subst hj; simp [Addr.add]
        case d2 => intro u hu; simp at hu; rcases hu with rfl | rfl <;> rfl
        case d3 => unfold maxLen; omega
        case d4 => omega
        case d5 => simp; omega
        intro v' w5 hown hgrow _
        obtain ⟨hT5, b5⟩ := hfin.out _ _ (own_later hO bA1) bA v' w5 hown hgrow
        clear hfin hro hO hown hgrow
        go_wp2_with fail
        go_roundw
        case rel => exact ⟨i + 1, _, hlt, rfl, hT5, b5⟩
        case measure => simp only [iOf]; omega
    · have hie : i = l.length := by omega
      subst hie
      rw [List.take_length] at hT
      clear hs
      go_wp2
      go_ret
      exact ⟨⟨_, V, rfl, hT⟩, bW⟩
end Go.Proofs.Yteekppohhjlmmaa
