/- ends: the closures that Lex makes. -/
import Derived.Test.YtnanfedggmkboaaDoorLRead
import Derived.Deep.DeepCutAuto
import Derived.Deep.RegionWith
import Derived.Laws.EntriesVeiled
namespace Go.Proofs.YtnanfedggmkboaaDoor
open Go.RowKit

set_option maxHeartbeats 400000 in
theorem oneOf_make (m : Int) (w : World) :
    Calls Tryd.prog 39 #[.int .u8 m] w fun e w' => e = .returned (.func (.func 60) #[] #[.pointer (some ⟨w.heap.size, 0, none⟩)]) ∧ w' = w.alloc (.cells #[.int .u8 m] 5) := by
  have hmf : ∀ (fn : Fn) (first cap : Array Value) (w : World), (Instr.makeFunc fn first cap).run Tryd.prog w = .ok (.func fn first cap) w := fun _ _ _ _ => rfl
  go_enter Tryd.func39, Tryd.ntmps39
  go_wp2
  go_ret
  exact ⟨rfl, rfl⟩
set_option maxHeartbeats 400000 in
theorem stretch_make (s : ByteArray) (fv : Value) (fn : Fn) (c : Array Value) (hfv : Hid (fv = .func fn #[] c)) (w : World) :
    Calls Tryd.prog 38 #[.string s, fv] w fun e w' => e = .returned (.func (.func 59) #[] #[.pointer (some ⟨w.heap.size, 0, none⟩), .pointer (some ⟨w.heap.size + 1, 0, none⟩)]) ∧ w' = (w.alloc (.cells #[.string s] 9)).alloc (.cells #[fv] 62) := by
  have hmf : ∀ (fn : Fn) (first cap : Array Value) (w : World), (Instr.makeFunc fn first cap).run Tryd.prog w = .ok (.func fn first cap) w := fun _ _ _ _ => rfl
  have e := hfv.out
  subst e
  clear hfv
  go_enter Tryd.func38, Tryd.ntmps38
  go_wp2
  go_ret
  exact ⟨rfl, rfl⟩

/-- A stretch of masked bytes lies at an address. -/
def MaskAt (s : ByteArray) (m : Int) (g : Addr) (w : World) : Prop := ∃ p q r : Addr, w.cell? g = some (.func (.func 59) #[] #[.pointer (some p), .pointer (some q)]) ∧ w.cell? p = some (.string s) ∧ w.cell? q = some (.func (.func 60) #[] #[.pointer (some r)]) ∧ w.cell? r = some (.int .u8 m)
def LineAt (s : ByteArray) (g : Addr) (w : World) : Prop := ∃ p q : Addr, w.cell? g = some (.func (.func 59) #[] #[.pointer (some p), .pointer (some q)]) ∧ w.cell? p = some (.string s) ∧ w.cell? q = some (.func (.func 40) #[] #[])
def NewLine (s : ByteArray) (V : World) (t : Value) (w : World) : Prop := ∃ b : Nat, t = .pointer (some ⟨b, 0, none⟩) ∧ LineAt s ⟨b, 0, none⟩ w ∧ Below V.heap.size V w
def NewMask (s : ByteArray) (m : Int) (V : World) (t : Value) (w : World) : Prop := ∃ b : Nat, t = .pointer (some ⟨b, 0, none⟩) ∧ MaskAt s m ⟨b, 0, none⟩ w ∧ Below V.heap.size V w
theorem MaskAt.later {s : ByteArray} {m : Int} {g : Addr} {w w' : World} (hb : Below w.heap.size w w') (h : MaskAt s m g w) : MaskAt s m g w' := by
  obtain ⟨p, q, r, h1, h2, h3, h4⟩ := h
  exact ⟨p, q, r, cell_later hb h1, cell_later hb h2, cell_later hb h3, cell_later hb h4⟩
theorem LineAt.later {s : ByteArray} {g : Addr} {w w' : World} (hb : Below w.heap.size w w') (h : LineAt s g w) : LineAt s g w' := by
  obtain ⟨p, q, h1, h2, h3⟩ := h
  exact ⟨p, q, cell_later hb h1, cell_later hb h2, cell_later hb h3⟩

set_option maxRecDepth 100000 in
set_option maxHeartbeats 1600000 in
theorem ends_any (s : ByteArray) (w : World) (ht : Tab w) :
    Calls Tryd.prog 25 #[.string s] w fun e w' => ∃ gs gb gc tw tn : Addr, e = .returned (.tuple #[.func (.func 41) #[] #[.pointer (some gb), .pointer (some gs), .pointer (some gc)], .func (.func 42) #[] #[.pointer (some gs), .pointer (some tw), .pointer (some tn)]]) ∧
      w'.cell? gs = some (.string s) ∧ MaskAt s 1 gb w' ∧ LineAt s gc w' ∧ MaskAt s 6 tw w' ∧ MaskAt s 4 tn w' ∧ Tab w' ∧ Below w.heap.size w w' := by
  have hmf : ∀ (fn : Fn) (first cap : Array Value) (w : World), (Instr.makeFunc fn first cap).run Tryd.prog w = .ok (.func fn first cap) w := fun _ _ _ _ => rfl
  go_enter Tryd.func25, Tryd.ntmps25
  go_wp2_with fail
  have S0 : (w.alloc (.cells #[.string s] 9)).cell? ⟨w.heap.size, 0, none⟩ = some (.string s) := by simp [go_sem]
  have B0 : Below w.heap.size w (w.alloc (.cells #[.string s] 9)) := (Below.refl _ _).alloc (Nat.le_refl _) _
  have Z0 : w.heap.size < (w.alloc (.cells #[.string s] 9)).heap.size := by simp
  generalize (w.alloc (.cells #[.string s] 9)) = V at *
  go_cut [4] (fun t wx => NewMask s 1 V t wx)
  case first =>
    go_region_with (first
      | (go_at_call 39; refine (oneOf_make _ _).mono ?_; rintro e w' ⟨rfl, rfl⟩)
      | (go_at_call 38; refine (stretch_make s _ _ _ (Lib.hid rfl) _).mono ?_; rintro e w' ⟨rfl, rfl⟩))
    all_goals (go_wp2_with fail; go_meet)
    all_goals (first | (refine ⟨_, rfl, ⟨⟨V.heap.size + 1, 0, none⟩, ⟨V.heap.size + 1 + 1, 0, none⟩, ⟨V.heap.size, 0, none⟩, ?_, ?_, ?_, ?_⟩, ?_⟩ <;> first | (simp [go_sem]; done) | ((repeat (first | exact Below.refl _ _ | refine Below.drew ?_ | refine Below.alloc ?_ (by simp <;> omega) _)); done)) | (refine ⟨_, rfl, ⟨⟨V.heap.size + 1 + 1, 0, none⟩, ⟨V.heap.size + 1 + 1 + 1, 0, none⟩, ⟨V.heap.size, 0, none⟩, ?_, ?_, ?_, ?_⟩, ?_⟩ <;> first | (simp [go_sem]; done) | ((repeat (first | exact Below.refl _ _ | refine Below.drew ?_ | refine Below.alloc ?_ (by simp <;> omega) _)); done)) | (refine ⟨_, rfl, ⟨⟨V.heap.size + 1 + 1, 0, none⟩, ⟨V.heap.size + 1 + 1 + 1, 0, none⟩, ⟨V.heap.size + 1, 0, none⟩, ?_, ?_, ?_, ?_⟩, ?_⟩ <;> first | (simp [go_sem]; done) | ((repeat (first | exact Below.refl _ _ | refine Below.drew ?_ | refine Below.alloc ?_ (by simp <;> omega) _)); done)))
  case rest =>
    obtain ⟨b4, rfl, M4, BB⟩ := hcut
    have S1 := cell_later BB S0
    have B1 : Below w.heap.size w wc := B0.trans (BB.mono B0.size)
    clear S0 B0 BB Z0
    generalize wc = V at *
    go_wp2_with (go_at_call 38; refine (stretch_make s _ _ _ (Lib.hid rfl) _).mono ?_; rintro e w' ⟨rfl, rfl⟩)
    have MM : LineAt s ⟨V.heap.size + 1 + 1, 0, none⟩ (((V.alloc (.cells #[.string s] 9)).alloc (.cells #[.func (.func 40) #[] #[]] 62)).alloc (.cells #[.func (.func 59) #[] #[.pointer (some ⟨V.heap.size, 0, none⟩), .pointer (some ⟨V.heap.size + 1, 0, none⟩)]] 54)) := by
      refine ⟨⟨V.heap.size, 0, none⟩, ⟨V.heap.size + 1, 0, none⟩, ?_, ?_, ?_⟩ <;> simp [go_sem]
    have BB : Below V.heap.size V (((V.alloc (.cells #[.string s] 9)).alloc (.cells #[.func (.func 40) #[] #[]] 62)).alloc (.cells #[.func (.func 59) #[] #[.pointer (some ⟨V.heap.size, 0, none⟩), .pointer (some ⟨V.heap.size + 1, 0, none⟩)]] 54)) := by
      (repeat (first | exact Below.refl _ _ | refine Below.drew ?_ | refine Below.alloc ?_ (by simp <;> omega) _))
    have S2 := cell_later BB S1
    have N4 := M4.later BB
    have B2 : Below w.heap.size w (((V.alloc (.cells #[.string s] 9)).alloc (.cells #[.func (.func 40) #[] #[]] 62)).alloc (.cells #[.func (.func 59) #[] #[.pointer (some ⟨V.heap.size, 0, none⟩), .pointer (some ⟨V.heap.size + 1, 0, none⟩)]] 54)) := B1.trans (BB.mono B1.size)
    have M5 := MM
    clear S1 B1 M4 BB MM
    have HS : ∃ X : Nat, V.heap.size + 1 + 1 = X := ⟨_, rfl⟩
    obtain ⟨b5, hb5⟩ := HS
    rw [hb5] at M5 ⊢
    clear hb5
    generalize (((V.alloc (.cells #[.string s] 9)).alloc (.cells #[.func (.func 40) #[] #[]] 62)).alloc (.cells #[.func (.func 59) #[] #[.pointer (some ⟨V.heap.size, 0, none⟩), .pointer (some ⟨V.heap.size + 1, 0, none⟩)]] 54)) = V2 at *
    have Z2 : w.heap.size < V2.heap.size := cell_lt S2
    go_cut [6] (fun t wx => NewMask s 6 V2 t wx)
    case first =>
      go_region_with (first
        | (go_at_call 39; refine (oneOf_make _ _).mono ?_; rintro e w' ⟨rfl, rfl⟩)
        | (go_at_call 38; refine (stretch_make s _ _ _ (Lib.hid rfl) _).mono ?_; rintro e w' ⟨rfl, rfl⟩))
      all_goals (go_wp2_with fail; go_meet)
      all_goals (first | (refine ⟨_, rfl, ⟨⟨V2.heap.size + 1, 0, none⟩, ⟨V2.heap.size + 1 + 1, 0, none⟩, ⟨V2.heap.size, 0, none⟩, ?_, ?_, ?_, ?_⟩, ?_⟩ <;> first | (simp [go_sem]; done) | ((repeat (first | exact Below.refl _ _ | refine Below.drew ?_ | refine Below.alloc ?_ (by simp <;> omega) _)); done)) | (refine ⟨_, rfl, ⟨⟨V2.heap.size + 1 + 1, 0, none⟩, ⟨V2.heap.size + 1 + 1 + 1, 0, none⟩, ⟨V2.heap.size, 0, none⟩, ?_, ?_, ?_, ?_⟩, ?_⟩ <;> first | (simp [go_sem]; done) | ((repeat (first | exact Below.refl _ _ | refine Below.drew ?_ | refine Below.alloc ?_ (by simp <;> omega) _)); done)) | (refine ⟨_, rfl, ⟨⟨V2.heap.size + 1 + 1, 0, none⟩, ⟨V2.heap.size + 1 + 1 + 1, 0, none⟩, ⟨V2.heap.size + 1, 0, none⟩, ?_, ?_, ?_, ?_⟩, ?_⟩ <;> first | (simp [go_sem]; done) | ((repeat (first | exact Below.refl _ _ | refine Below.drew ?_ | refine Below.alloc ?_ (by simp <;> omega) _)); done)))
    case rest =>
      obtain ⟨b6, rfl, M6, BB⟩ := hcut
      have S3 := cell_later BB S2
      have O4 := N4.later BB
      have O5 := M5.later BB
      have B3 : Below w.heap.size w wc := B2.trans (BB.mono B2.size)
      clear S2 B2 N4 M5 BB
      generalize wc = V3 at *
      have Z3 : w.heap.size < V3.heap.size := cell_lt S3
      go_wp2_with fail
      go_cut [7] (fun t wx => NewMask s 4 V3 t wx)
      case first =>
        go_region_with (first
          | (go_at_call 39; refine (oneOf_make _ _).mono ?_; rintro e w' ⟨rfl, rfl⟩)
          | (go_at_call 38; refine (stretch_make s _ _ _ (Lib.hid rfl) _).mono ?_; rintro e w' ⟨rfl, rfl⟩))
        all_goals (go_wp2_with fail; go_meet)
        all_goals (first | (refine ⟨_, rfl, ⟨⟨V3.heap.size + 1, 0, none⟩, ⟨V3.heap.size + 1 + 1, 0, none⟩, ⟨V3.heap.size, 0, none⟩, ?_, ?_, ?_, ?_⟩, ?_⟩ <;> first | (simp [go_sem]; done) | ((repeat (first | exact Below.refl _ _ | refine Below.drew ?_ | refine Below.alloc ?_ (by simp <;> omega) _)); done)) | (refine ⟨_, rfl, ⟨⟨V3.heap.size + 1 + 1, 0, none⟩, ⟨V3.heap.size + 1 + 1 + 1, 0, none⟩, ⟨V3.heap.size, 0, none⟩, ?_, ?_, ?_, ?_⟩, ?_⟩ <;> first | (simp [go_sem]; done) | ((repeat (first | exact Below.refl _ _ | refine Below.drew ?_ | refine Below.alloc ?_ (by simp <;> omega) _)); done)) | (refine ⟨_, rfl, ⟨⟨V3.heap.size + 1 + 1, 0, none⟩, ⟨V3.heap.size + 1 + 1 + 1, 0, none⟩, ⟨V3.heap.size + 1, 0, none⟩, ?_, ?_, ?_, ?_⟩, ?_⟩ <;> first | (simp [go_sem]; done) | ((repeat (first | exact Below.refl _ _ | refine Below.drew ?_ | refine Below.alloc ?_ (by simp <;> omega) _)); done)))
      case rest =>
        obtain ⟨b7, rfl, M7, BB⟩ := hcut
        have S4 := cell_later BB S3
        have P4 := O4.later BB
        have P5 := O5.later BB
        have P6 := M6.later BB
        have B4 : Below w.heap.size w wc := B3.trans (BB.mono B3.size)
        clear S3 B3 O4 O5 M6 BB
        go_wp2
        go_ret2
        exact ⟨_, _, _, _, _, rfl, S4, P4, P5, P6, M7, ht.later B4, B4⟩
end Go.Proofs.YtnanfedggmkboaaDoor
