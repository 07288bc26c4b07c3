/- The reference's Same at equal objects. -/
import Derived.Test.YteekppohhjlmmaaHpRef
namespace Go.Proofs.Yteekppohhjlmmaa
open Go.RowKit

def SameRel (w wr : World) : Prop := Drew w wr
set_option maxRecDepth 100000 in
set_option maxHeartbeats 1600000 in
theorem Same_eq (l : List Ob) (w : World) (A A2 : Option Addr) (c c2 : Nat) (hs : ObSl w A c l) (hm : ObSl w A2 c2 l) (h8 : l.length ≤ 100) (h16 : ∀ t, t < l.length → (obAt l t).c.length ≤ 100) : Calls Try.prog 14 #[.slice A l.length c, .slice A2 l.length c2] w fun e w' => e = .returned (.bool true) ∧ Below w.heap.size w w' := by
  go_enter Try.func14, Try.ntmps14
  go_wp2_with fail
  go_loopw [5] (fun v wr => ∃ i : Nat, i ≤ l.length ∧ v = .int .i64 i ∧ SameRel w wr) (fun v _ => l.length - iOf v)
  case atStart => exact ⟨0, Nat.zero_le _, rfl, Drew.refl _⟩
  case round =>
    rename_i wr
    obtain ⟨i, hi, rfl, hD⟩ := hrel
    by_cases hlt : i < l.length
    · have hlc : (i : Int) < l.length := by omega
      have hwi : IntKind.i64.wrap ((i : Int) + 1) = ((i + 1 : Nat) : Int) := by rw [IntWalk.i64_in _ (by omega)]; omega
      obtain ⟨g, o, Ai, ci, rfl, j0, j1, js⟩ := hs.at_ hlt
      obtain ⟨g2, o2, Bi, di, rfl, k0, k1, ks⟩ := hm.at_ hlt
      have hn := h16 i hlt
      have js := Lib.hid js
      have ks := Lib.hid ks
      obtain ⟨x, hx⟩ : ∃ x, Hid ((obAt l i).c = x) := ⟨_, Lib.hid rfl⟩
      rw [hx.out] at j0 k0 hn js ks
      generalize (obAt l i).g = gi at j1 k1
      have a0 := cell_later hD.below j0
      have a1 := cell_later hD.below j1
      have b0 := cell_later hD.below k0
      have b1 := cell_later hD.below k1
      clear hx
      go_wp2_with fail
      go_quiet (fail)
      go_wp2_with fail
      go_loopw [6] (fun v wq => ∃ q : Nat, q ≤ x.length ∧ v = .int .i64 q ∧ SameRel w wq) (fun v _ => x.length - iOf v)
      case atStart => exact ⟨0, Nat.zero_le _, rfl, hD.trans ⟨_, rfl⟩⟩
      case round =>
        clear hD a0 a1 b0 b1
        obtain ⟨q, hq, rfl, hD⟩ := hrel
        have a0 := cell_later hD.below j0
        have b0 := cell_later hD.below k0
        by_cases hql : q < x.length
        · have hqc : (q : Int) < x.length := by omega
          have hwq : IntKind.i64.wrap ((q : Int) + 1) = ((q + 1 : Nat) : Int) := by rw [IntWalk.i64_in _ (by omega)]; omega
          obtain ⟨gc, oc, rfl, c0, c1, c2⟩ := (js.out.later hD.below).2.2.2 q hql
          obtain ⟨gd, od, rfl, d0, d1, d2⟩ := (ks.out.later hD.below).2.2.2 q hql
          obtain ⟨y, hy⟩ : ∃ y, Hid (x[q] = y) := ⟨_, Lib.hid rfl⟩
          rw [hy.out] at c0 c1 c2 d0 d1 d2
          clear hy
          go_wp2_with fail
          go_quiet (fail)
          go_wp2_with fail
          go_roundw
          case rel => exact ⟨q + 1, hql, rfl, hD.trans ⟨_, rfl⟩⟩
          case measure => simp only [iOf]; omega
        · have hie : q = x.length := by omega
          subst hie
          go_wp2_with fail
          go_roundw
          case rel => exact ⟨i + 1, hlt, rfl, hD⟩
          case measure => simp only [iOf]; omega
    · have hie : i = l.length := by omega
      subst hie
      clear hs hm
      go_wp2
      go_ret
      exact ⟨rfl, hD.below⟩
end Go.Proofs.Yteekppohhjlmmaa
