/- The lexer's smallest functions: roles, the tests of one byte, stretches. -/
import Derived.Test.YtnanfedggmkboaaDoorRows
import Derived.Test.YtnanfedggmkboaaDoorLMath
import Derived.WalkKit
import Derived.Lib.Hide
import Derived.WalkSpells
import Derived.WalkLawsBesides
import Derived.StillTactics
import Derived.Laws.Pointers
import Derived.Deep.RegionHeld3
import Derived.Deep.QuietTactic
import Derived.BigQuiet
import Derived.RowKit3
namespace Go.Proofs.YtnanfedggmkboaaDoor
open Go.RowKit

/-- The roles of the bytes. -/
def roleL : List Nat := [0, 0, 0, 0, 0, 0, 0, 0, 0, 1, 1, 0, 0, 0, 0, 0, 0, 0, 0, 0, 0, 0, 0, 0, 0, 0, 0, 0, 0, 0, 0, 0, 1, 16, 0, 0, 0, 8, 8, 0, 8, 8, 8, 8, 8, 8, 8, 8, 4, 4, 4, 4, 4, 4, 4, 4, 4, 4, 8, 8, 56, 24, 56, 0, 0, 0, 0, 0, 0, 0, 0, 0, 0, 0, 0, 0, 0, 0, 0, 0, 0, 0, 0, 0, 0, 0, 0, 0, 0, 0, 0, 8, 0, 8, 8, 0, 0, 2, 2, 2, 2, 2, 2, 2, 2, 2, 2, 2, 2, 2, 2, 2, 2, 2, 2, 2, 2, 2, 2, 2, 2, 2, 2, 8, 8, 8, 8, 0]
def roleI (n : Nat) : Int := ((roleL.getD n 0 : Nat) : Int)
/-- The table lies as it is laid. -/
def Tab (w : World) : Prop := ∀ i, i < 128 → w.cell? ⟨0, i, none⟩ = some (.int .u8 (roleI i))

/-- A world that has only drawn. -/
def Drew (w w' : World) : Prop := ∃ n, w' = w.drewN n
theorem Drew.refl (w : World) : Drew w w := ⟨0, rfl⟩
theorem Drew.trans {a b c : World} (h : Drew a b) (k : Drew b c) : Drew a c := by
  obtain ⟨n, rfl⟩ := h; obtain ⟨m, rfl⟩ := k; exact ⟨n + m, by rw [World.drewN_drewN]⟩
theorem Drew.more {a b : World} (h : Drew a b) (m : Nat) : Drew a (b.drewN m) := h.trans ⟨m, rfl⟩
theorem Drew.cell {a b : World} (h : Drew a b) (p : Addr) : b.cell? p = a.cell? p := by
  obtain ⟨n, rfl⟩ := h; rfl
theorem Drew.below {a b : World} (h : Drew a b) : Below a.heap.size a b := by
  obtain ⟨n, rfl⟩ := h; exact ⟨rfl, rfl, rfl, Nat.le_refl _, fun _ _ => rfl⟩
theorem Drew.size {a b : World} (h : Drew a b) : b.heap.size = a.heap.size := by
  obtain ⟨n, rfl⟩ := h; rfl
theorem cell_lt {w : World} {p : Addr} {v : Value} (h : w.cell? p = some v) : p.block < w.heap.size := by
  apply Classical.byContradiction; intro hn
  unfold World.cell? at h
  rw [Array.getElem?_eq_none (by omega)] at h
  cases h
theorem cell_later {w w' : World} {p : Addr} {v : Value} (hb : Below w.heap.size w w') (h : w.cell? p = some v) : w'.cell? p = some v :=
  (hb.cell (cell_lt h)).trans h
theorem Tab.later {w w' : World} (hb : Below w.heap.size w w') (h : Tab w) : Tab w' := fun i hi => cell_later hb (h i hi)

set_option maxRecDepth 100000 in
set_option maxHeartbeats 400000 in
theorem roles_any (n : Nat) (hn : n < 256) (w : World) (ht : Tab w) :
    Calls Tryd.prog 43 #[.int .u8 n] w fun e w' => e = .returned (.int .u8 (roleI n)) ∧ w' = w := by
  by_cases h : n < 128
  · have hc := ht n h
    clear ht
    generalize roleI n = r at *
    go_enter Tryd.func43, Tryd.ntmps43
    go_wp2
    go_ret
    exact ⟨rfl, rfl⟩
  · have hr : roleI n = 0 := by
      unfold roleI
      rw [List.getD_eq_getElem?_getD, List.getElem?_eq_none (by show 128 ≤ n; omega)]; rfl
    rw [hr]
    clear hr ht
    go_enter Tryd.func43, Tryd.ntmps43
    go_wp2
    go_ret
    exact ⟨rfl, rfl⟩

/-- What a mask of roles admits. -/
def Mask (m : Int) (ok : UInt8 → Bool) : Prop := ∀ n : Fin 256, (bits .and .u8 (roleI n.val) m != 0) = ok (UInt8.ofNat n.val)
theorem mask1 : Mask 1 isBlk := by unfold Mask; decide +kernel
theorem mask2 : Mask 2 isLet := by unfold Mask; decide +kernel
theorem mask4 : Mask 4 isDig := by unfold Mask; decide +kernel
theorem mask6 : Mask 6 isWrd := by unfold Mask; decide +kernel
theorem mask8 : Mask 8 isSgn := by unfold Mask; decide +kernel
theorem mask16 : Mask 16 isEq := by unfold Mask; decide +kernel
theorem mask32 : Mask 32 isDbl := by unfold Mask; decide +kernel
theorem Mask.at_ {m : Int} {ok : UInt8 → Bool} (h : Mask m ok) (b : UInt8) : (bits .and .u8 (roleI b.toNat) m != 0) = ok b := by
  have := h ⟨b.toNat, b.toNat_lt⟩
  simpa using this

set_option maxHeartbeats 400000 in
theorem oneOf_any (b : UInt8) (m : Int) (ok : UInt8 → Bool) (hm : Hid (Mask m ok)) (p : Addr) (w : World) (ht : Tab w) (hp : w.cell? p = some (.int .u8 m)) :
    Calls Tryd.prog 60 #[.int .u8 b.toNat, .pointer (some p)] w fun e w' => e = .returned (.bool (ok b)) ∧ ∃ k, w' = w.drewN k := by
  have hb : b.toNat < 256 := b.toNat_lt
  rw [← hm.out.at_ b]
  go_enter Tryd.func60, Tryd.ntmps60
  go_wp2
  go_quiet ((go_at_call 43; exact Calls.quiet_of_same (roles_any _ hb _ ht)))
  go_wp2
  go_ret
  exact ⟨rfl, _, rfl⟩

set_option maxHeartbeats 400000 in
theorem notNl_any (b : UInt8) (w : World) :
    Calls Tryd.prog 40 #[.int .u8 b.toNat] w fun e w' => e = .returned (.bool (notNl b)) ∧ w' = w := by
  have e : notNl b = ((b.toNat : Int) != 10) := by
    unfold notNl; rw [Bool.eq_iff_iff]; simp; omega
  rw [e]; clear e
  go_enter Tryd.func40, Tryd.ntmps40
  go_wp2
  go_ret
  exact ⟨rfl, rfl⟩
end Go.Proofs.YtnanfedggmkboaaDoor
