/- heap: New. -/
import Derived.Test.YteekppohhjlmmaaHpPut
namespace Go.Proofs.Yteekppohhjlmmaa
open Go.RowKit

theorem sl_of {w : World} {B B' : Nat} {v : Value} {V : Nat → Value} {l : List Ob} (hr : w.ownsRow B 42 2 v l.length (oflat V l)) (ho : ∀ t, t < l.length → COwn w B' (V t) (obAt l t).c) : ∃ A c, v = .slice A l.length c ∧ ObSl w A c l := by
  have hc := fun g hg => World.ownsRow.cells (g := g) hr hg
  rcases hr.2 with ⟨rfl, h0⟩ | ⟨g, cap, cur, rfl, _, hg, h1, h2, _⟩
  · have : l = [] := List.eq_nil_of_length_eq_zero h0
    subst this
    exact ⟨none, 0, rfl, ObSl.nil w⟩
  · refine ⟨some ⟨g, 0, none⟩, cap, rfl, h1, h2, fun e => by simp at e, fun i hi => ?_⟩
    have k0 := hc g rfl (i * 2) _ (tab_get (obv V l) (by omega))
    have k1 := hc g rfl (i * 2 + 1) _ (tab_get (obv V l) (by omega))
    rw [add_z, obv0] at k0
    rw [add_z, obv1, obAt_eq hi] at k1
    obtain ⟨A', c', e, hs⟩ := (ho i hi).sl
    rw [obAt_eq hi] at e hs
    rw [e] at k0
    refine ⟨g, 0, A', c', rfl, ?_, ?_, hs⟩
    · rw [Nat.zero_add]; exact k0
    · rw [Nat.zero_add]; exact k1
theorem flat_zero (n : Nat) : (flat (List.replicate n zCe)).toArray.size = n * 3 := by simp [flat_len]
theorem mk_cells (n : Nat) (hn : n ≤ 1000) (w : World) : (Instr.makeSlice 40 (.int .i64 n) (.int .i64 n)).run Try.prog w = .ok (.slice (some ⟨w.heap.size, 0, none⟩) n n) (w.alloc (.cells (flat (List.replicate n zCe)).toArray 45)) := by
  have h := run_makeSlice (P := Try.prog) (w := w) 40 45 Try.t45 (.agg #[.int .i64 0, .bool false, .int .u64 0]) Try.underlying40 (by kernel_rfl) (by kernel_rfl) .i64 .i64 (n : Int) (n : Int) (by omega) (Int.le_refl _) (by show (n : Int).toNat * 3 ≤ _; omega) (by show ((24 : Nat) : Int) * (n : Int) ≤ _; omega) (by omega)
  rw [h]
  have e : madeCells (Value.cells (.agg #[.int .i64 0, .bool false, .int .u64 0])) ((n : Int).toNat * Try.t45.size) = (flat (List.replicate n zCe)).toArray := by
    show madeCells #[.int .i64 0, .bool false, .int .u64 0] ((n : Int).toNat * 3) = _
    rw [Int.toNat_natCast]
    apply Array.ext
    · simp [madeCells, flat_len]
    · intro i h1 h2
      have hi : i < n * 3 := by simpa [madeCells] using h1
      apply Option.some.inj
      rw [← Array.getElem?_eq_getElem h2, List.getElem?_toArray]
      unfold flat
      rw [tab_get _ (by simpa using hi)]
      obtain ⟨q, r, hr, rfl⟩ : ∃ q r, r < 3 ∧ i = q * 3 + r := ⟨i / 3, i % 3, Nat.mod_lt _ (by decide), by omega⟩
      have : ceAt (List.replicate n zCe) q = zCe := by unfold ceAt List.getD; rw [List.getElem?_replicate]; split <;> rfl
      rcases (show r = 0 ∨ r = 1 ∨ r = 2 by omega) with rfl | rfl | rfl
      · rw [show cev (List.replicate n zCe) (q * 3 + 0) = Value.int .i64 (ceAt (List.replicate n zCe) q).w from cev0 _ q, this]; simp [madeCells, zCe]
      · rw [cev1, this]; simp [madeCells, zCe]
      · rw [cev2, this]; simp [madeCells, zCe]
  rw [e]
  simp
theorem upto_zero (ws : List Int) : upto ws 0 = List.replicate ws.length zCe := by simp [upto]
set_option maxRecDepth 100000 in
set_option maxHeartbeats 1600000 in
theorem fresh_any (ws : List Int) (w : World) (A : Option Addr) (c : Nat) (hl : ws.length ≤ 16) (hr : IRow w A ws) :
    Calls Try.prog 31 #[.slice A ws.length c] w fun e w' => (∃ b, e = .returned (.agg #[.slice (some ⟨b, 0, none⟩) ws.length ws.length, .bool false]) ∧ COwn w' w.heap.size (.slice (some ⟨b, 0, none⟩) ws.length ws.length) (newOb ws).c) ∧ Below w.heap.size w w' := by
  have mk := fun w => mk_cells ws.length (by omega) w
  have N0 := Box.new w 42 #[.slice none 0 0, .bool false]
  have bA : Below w.heap.size w (w.alloc (.cells #[.slice none 0 0, .bool false] 42)) := (Below.refl _ _).alloc (Nat.le_refl _) _
  have bB : Below w.heap.size w ((w.alloc (.cells #[.slice none 0 0, .bool false] 42)).alloc (.cells (flat (List.replicate ws.length zCe)).toArray 45)) := bA.alloc bA.size _
  have N1 := N0.alloc (.cells (flat (List.replicate ws.length zCe)).toArray 45)
  have N2 := Box.newAt (X := w.alloc (.cells #[.slice none 0 0, .bool false] 42)) (n := w.heap.size + 1) (by simp) 45 (flat (List.replicate ws.length zCe)).toArray
  rw [← upto_zero] at N2
  go_enter Try.func31, Try.ntmps31
  go_upto_region 2 with fail
  rw [← upto_zero] at *
  obtain ⟨w1, hw1⟩ : ∃ Y, (w.alloc (.cells #[.slice none 0 0, .bool false] 42)).alloc (.cells (flat (upto ws 0)).toArray 45) = Y := ⟨_, rfl⟩
  rw [hw1] at N1 N2 bB
  simp only [hw1]
  clear hw1 mk bA N0
  obtain ⟨B, hB⟩ : ∃ b, Hid (w.heap.size + 1 = b) := ⟨_, Lib.hid rfl⟩
  rw [hB.out] at N2
  simp only [hB.out]
  go_wp2_with fail
  go_loopw [11] (fun v wr => ∃ i : Nat, i ≤ ws.length ∧ v = .int .i64 i ∧ Box wr w.heap.size 42 #[.slice none 0 0, .bool false] ∧ Box wr B 45 (flat (upto ws i)).toArray ∧ Below w.heap.size w wr) (fun v _ => ws.length - iOf v)
  case atStart => exact ⟨0, Nat.zero_le _, rfl, N1, N2, bB⟩
  case round =>
    rename_i wr
    clear N1 N2 bB
    obtain ⟨i, hi, rfl, N1, N2, bW⟩ := hrel
    by_cases hlt : i < ws.length
    · have hlc : (i : Int) < ws.length := by omega
      have hwi : IntKind.i64.wrap ((i : Int) + 1) = ((i + 1 : Nat) : Int) := by rw [IntWalk.i64_in _ (by omega)]; omega
      obtain ⟨g, o, rfl, k0⟩ := hr i hlt
      have k1 := cell_later bW k0
      have f0 := N2.free (i * 3)
      have c0 := N2.cell (i * 3)
      rw [List.getElem?_toArray] at c0
      unfold flat at c0
      rw [tab_get _ (by rw [upto_len ws hi]; omega)] at c0
      have N3 := N2.set (i * 3) (.int .i64 ws[i])
      rw [List.setIfInBounds_toArray, flat_width _ (by rw [upto_len ws hi]; exact hlt), upto_step ws hlt] at N3
      have hne : w.heap.size ≠ B := by have := hB.out; omega
      have N4 := N1.far hne (i := i * 3) (.int .i64 ws[i])
      have bW2 : Below w.heap.size w (wr.setCell ⟨B, i * 3, none⟩ (.int .i64 ws[i])) := bW.setCell (by have := hB.out; show w.heap.size ≤ B; omega) _
      obtain ⟨t, ht⟩ : ∃ t, Hid (ws[i] = t) := ⟨_, Lib.hid rfl⟩
      rw [ht.out] at k1 N3 N4 bW2
      clear N1 N2 bW k0 ht hr
      go_wp2_with fail
      go_roundw
      case rel => exact ⟨i + 1, hlt, rfl, N4, N3, bW2⟩
      case measure => simp only [iOf]; omega
    · have hie : i = ws.length := by omega
      subst hie
      rw [upto_all] at N2
      clear hr hlt hi
      have hO : COwn wr w.heap.size (.slice (some ⟨B, 0, none⟩) ws.length ws.length) (newOb ws).c := ⟨flat_len _, .inr ⟨B, ws.length, (flat (newOb ws).c).toArray, by simp [newOb], by have := hB.out; omega, N2, by simp [newOb], by unfold maxLen; omega, by simp [flat_len, newOb], List.take_of_length_le (by simp [flat_len])⟩⟩
      have f0 := N1.free 0
      have f1 := N1.free 1
      have c0 := N1.cell 0
      have c1 := N1.cell 1
      clear N2
      go_wp2
      refine bodyPost_ret (v := .agg #[.slice (some ⟨B, 0, none⟩) ws.length ws.length, .bool false]) (by simp [results, Try.results31, go_sem, c0, c1]) rfl ⟨⟨B, rfl, ?_⟩, ?_⟩
      · have hS : But w.heap.size wr ((wr.setCell ⟨w.heap.size, 0, none⟩ (.slice (some ⟨B, 0, none⟩) ws.length ws.length)).setCell ⟨w.heap.size, 1, none⟩ (.bool false)) := (But.set _).trans (But.set _)
        exact World.ownsRow.kept hO hS.grownBy (own_box hO N1 (by decide))
      · exact (bW.setCell (Nat.le_refl _) _).setCell (Nat.le_refl _) _

def NewAns (R : List Ob × Int × Int × Int) (w : World) (e : Ending) (w' : World) : Prop := ∃ A c, e = .returned (.tuple #[.slice A R.1.length c, .int .i64 R.2.1, .int .i64 R.2.2.1, .int .i64 R.2.2.2]) ∧ ObSl w' A c R.1 ∧ Below w.heap.size w w'
theorem all_widths (ws : List Int) (w : World) (A : Option Addr) (c : Nat) (hl : ws.length ≤ maxLen) (hr : IRow w A ws) :
    Calls Try.prog 28 #[.slice A ws.length c, .func (.func 29) #[] #[]] w fun e w' => e = .returned (.bool (ws.all wV)) ∧ Below w.heap.size w w' :=
  all_int ws w A c hl hr (fun t _ w1 _ => validWidth_any t w1)
set_option maxRecDepth 100000 in
set_option maxHeartbeats 1600000 in
theorem New_any (l : List Ob) (ws : List Int) (w : World) (A Aw : Option Addr) (c cw : Nat) (hs : ObSl w A c l) (hr : IRow w Aw ws) (hw : ws.length ≤ maxLen) :
    Calls Try.prog 12 #[.slice A l.length c, .slice Aw ws.length cw] w (NewAns (newR l ws) w) := by
  have hV := Valid_any l w A c hs
  cases hv : obsV l with
  | false =>
    have hR : newR l ws = ([], 0, 0, 1) := by unfold newR; rw [if_pos (by rw [hv]; rfl)]
    rw [hv] at hV
    rw [hR]
    have hs := Lib.hid hs
    clear hr hw hR hv
    go_enter Try.func12, Try.ntmps12
    go_wp2_with fail
    refine hV.mono ?_
    rintro e w1 ⟨rfl, b1⟩
    clear hV
    go_wp2
    refine bodyPost_ret (v := .tuple #[.slice none 0 0, .int .i64 0, .int .i64 0, .int .i64 1]) (by simp [results, Try.results12, go_sem]) rfl ?_
    exact ⟨none, 0, rfl, ObSl.nil _, b1⟩
  | true =>
    rw [hv] at hV
    have hA : ∀ w1, Below w.heap.size w w1 → _ := fun w1 h1 => all_widths ws w1 Aw cw hw (hr.later h1)
    cases ha : ws.all wV with
    | false =>
      have hR : newR l ws = ([], 0, 0, 1) := by unfold newR; rw [if_pos (by rw [hv, ha]; rfl)]
      rw [ha] at hA
      rw [hR]
      clear hr hw hR hv ha hs
      go_enter Try.func12, Try.ntmps12
      go_wp2_with fail
      refine hV.mono ?_
      rintro e w1 ⟨rfl, b1⟩
      have hA := hA w1 b1
      clear hV
      go_wp2_with fail
      refine hA.mono ?_
      rintro e w2 ⟨rfl, b2⟩
      clear hA
      go_wp2
      refine bodyPost_ret (v := .tuple #[.slice none 0 0, .int .i64 0, .int .i64 0, .int .i64 1]) (by simp [results, Try.results12, go_sem]) rfl ?_
      exact ⟨none, 0, rfl, ObSl.nil _, b1.trans (b2.mono b1.size)⟩
    | true =>
      rw [ha] at hA
      by_cases h8 : l.length = 8
      · rw [new_full hv ha (Or.inl h8)]
        have hq : ((l.length : Int) == 8) = true := by simp; omega
        clear hr hw hv ha hs h8
        go_enter Try.func12, Try.ntmps12
        go_wp2_with fail
        refine hV.mono ?_
        rintro e w1 ⟨rfl, b1⟩
        have hA := hA w1 b1
        clear hV
        go_wp2_with fail
        refine hA.mono ?_
        rintro e w2 ⟨rfl, b2⟩
        clear hA
        go_wp2
        refine bodyPost_ret (v := .tuple #[.slice none 0 0, .int .i64 0, .int .i64 5, .int .i64 0]) (by simp [results, Try.results12, go_sem]) rfl ?_
        exact ⟨none, 0, rfl, ObSl.nil _, b1.trans (b2.mono b1.size)⟩
      · have hq : ((l.length : Int) == 8) = false := by simp; omega
        by_cases h16 : 16 < ws.length
        · rw [new_full hv ha (Or.inr h16)]
          have hd : decide ((16 : Int) < ws.length) = true := by simp; omega
          clear hr hw hv ha hs h16 h8
          go_enter Try.func12, Try.ntmps12
          go_wp2_with fail
          refine hV.mono ?_
          rintro e w1 ⟨rfl, b1⟩
          have hA := hA w1 b1
          clear hV
          go_wp2_with fail
          refine hA.mono ?_
          rintro e w2 ⟨rfl, b2⟩
          clear hA
          go_wp2
          refine bodyPost_ret (v := .tuple #[.slice none 0 0, .int .i64 0, .int .i64 5, .int .i64 0]) (by simp [results, Try.results12, go_sem]) rfl ?_
          exact ⟨none, 0, rfl, ObSl.nil _, b1.trans (b2.mono b1.size)⟩
        · rw [new_ok hv ha h8 (by omega)]
          have hd : decide ((16 : Int) < ws.length) = false := by simp; omega
          have hC : ∀ w1, Below w.heap.size w w1 → _ := fun w1 h1 => copyOf_any l w1 A c hv (hs.later h1)
          have hF : ∀ w1, Below w.heap.size w w1 → _ := fun w1 h1 => fresh_any ws w1 Aw cw (by omega) (hr.later h1)
          have hl8 := obsV_len hv
          clear hr hw hv ha hs h16 h8
          go_enter Try.func12, Try.ntmps12
          go_wp2_with fail
          refine hV.mono ?_
          rintro e w1 ⟨rfl, b1⟩
          have hA := hA w1 b1
          clear hV
          go_wp2_with fail
          refine hA.mono ?_
          rintro e w2 ⟨rfl, b2⟩
          have b12 := b1.trans (b2.mono b1.size)
          have hC := hC w2 b12
          clear hA b1 b2
          go_wp2_with fail
          refine hC.mono ?_
          rintro e w3 ⟨⟨v, V, rfl, hT⟩, b3⟩
          have b13 := b12.trans (b3.mono b12.size)
          have hz3 := b3.size
          have hz2 := b12.size
          have hF := hF w3 b13
          clear hC b12 b3
          obtain ⟨Av, cv, ev, _⟩ := hT.sl
          subst ev
          go_wp2_with fail
          refine hF.mono ?_
          rintro e w4 ⟨⟨b, rfl, hO⟩, b4⟩
          have hT4 := hT.later b4
          have b14 := b13.trans (b4.mono b13.size)
          have hz : w2.heap.size ≤ w4.heap.size := Nat.le_trans hz3 b4.size
          clear hT hF b4 b13
          go_wp2_with (at_builtin; refine wpList_append_own _ rfl _ _ 22 rfl w2.heap.size 42 Try.t42 (.agg #[.slice none 0 0, .bool false]) 2 32 Try.underlying22 (by kernel_rfl) (by kernel_rfl) rfl rfl rfl (by decide) _ l.length (oflat V l) rfl (World.ownsRow.alloc hT4.row _) ⟨w4.heap.size, 0, none⟩ 1 1 [.slice (some ⟨b, 0, none⟩) ws.length ws.length, .bool false] rfl rfl ?c1 ?c2 ?c3 ?c4 ?c5 ?_)
          case c1 =>
            intro j u hj
            match j, hj with
            | 0, hj => simp at hj; subst hj; simp [Addr.add]
            | 1, hj => simp at hj; subst hj; simp [Addr.add]
          case c2 => intro u hu; simp at hu; rcases hu with rfl | rfl <;> rfl
          case c3 => unfold maxLen; omega
          case c4 => omega
          case c5 => simp; omega
          intro v' w5 hown hgrow _
          obtain ⟨A5, c5, e5, hS⟩ := sl_of (V := fun t => if t = l.length then .slice (some ⟨b, 0, none⟩) ws.length ws.length else V t) (l := l ++ [newOb ws]) (B := w2.heap.size) (B' := w2.heap.size) (v := v') (w := w5) (by rw [oflat_snoc, List.length_append]; exact hown) (fun t ht => by
            by_cases e : t = l.length
            · subst e
              rw [if_pos rfl, obAt_append, if_neg (by omega), Nat.sub_self]
              exact World.ownsRow.kept (World.ownsRow.alloc (own_mono hO (by omega)) _) hgrow (own_ne hO hT4.row (by decide))
            · have ht2 : t < l.length := by rw [List.length_append] at ht; simp at ht; omega
              rw [if_neg e, obAt_append, if_pos ht2]
              exact World.ownsRow.kept (World.ownsRow.alloc (hT4.own t ht2) _) hgrow (own_ne (hT4.own t ht2) hT4.row (by decide)))
          subst e5
          have b15 : Below w.heap.size w w5 := (b14.alloc b14.size _).grown hgrow (by have := b14.size; simp; omega) (fun k hk => by have := (World.ownsRow.lt hT4.row k hk).1; omega)
          clear hT4 hO hown hgrow b14 hA hC
          go_wp2
          refine bodyPost_ret (v := .tuple #[.slice A5 (l ++ [newOb ws]).length c5, .int .i64 l.length, .int .i64 0, .int .i64 0]) (by simp [results, Try.results12, go_sem]) rfl ?_
          exact ⟨A5, c5, rfl, hS, b15⟩
end Go.Proofs.Yteekppohhjlmmaa
