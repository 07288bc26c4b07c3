/- Two lists of tokens that are the same, apart from a shift. -/
import Derived.Test.YtnanfedggmkboaaDoorLLeaf
import Derived.Test.YtnanfedggmkboaaDoorLOwn
namespace Go.Proofs.YtnanfedggmkboaaDoor
open Go.RowKit

/-- Tokens that can be read from an address on. -/
def TRd (w : World) (A : Option Addr) (ts : List Tok) : Prop := ∀ (i : Nat) (h : i < ts.length), ∃ g o : Nat, A = some ⟨g, o, none⟩ ∧
  w.cell? ⟨g, o + i * 4, none⟩ = some (.int .i64 ts[i].kind) ∧ w.cell? ⟨g, o + i * 4 + 1, none⟩ = some (.string ⟨ts[i].text.toArray⟩) ∧
  w.cell? ⟨g, o + i * 4 + 2, none⟩ = some (.int .u64 ts[i].num) ∧ w.cell? ⟨g, o + i * 4 + 3, none⟩ = some (.int .i64 ts[i].off)
theorem TRd.later {w w' : World} {A : Option Addr} {ts : List Tok} (hb : Below w.heap.size w w') (h : TRd w A ts) : TRd w' A ts := fun i hi => by
  obtain ⟨g, o, h1, h2, h3, h4, h5⟩ := h i hi
  exact ⟨g, o, h1, cell_later hb h2, cell_later hb h3, cell_later hb h4, cell_later hb h5⟩
theorem Toks.read {w : World} {base : Nat} {v : Value} {ts : List Tok} (h : Toks w base v ts) : ∃ A c, v = .slice A ts.length c ∧ ts.length ≤ c ∧ c ≤ maxLen ∧ TRd w A ts := by
  obtain ⟨hlen, h2⟩ := h
  have hl := toksV_length ts
  rcases h2 with ⟨rfl, h2⟩ | ⟨g, cap, cur, rfl, hb, hg, hc, hm, hs, ht⟩
  · exact ⟨none, 0, by rw [h2], by omega, by unfold maxLen; omega, fun i hi => absurd hi (by omega)⟩
  · refine ⟨_, _, rfl, hc, hm, fun i hi => ?_⟩
    have key : ∀ j, j < 4 → w.cell? ⟨g, 0 + i * 4 + j, none⟩ = (tokVals ts[i])[j]? := fun j hj => by
      have hlt : i * 4 + j < ts.length * 4 := by omega
      rw [← toksV_at ts i hi j hj, ← ht, List.getElem?_take, if_pos hlt]
      unfold World.cell?
      rw [hg]
      simp
    exact ⟨g, 0, rfl, key 0 (by omega), key 1 (by omega), key 2 (by omega), key 3 (by omega)⟩
theorem TRd.take {w : World} {A : Option Addr} {ts : List Tok} (h : TRd w A ts) (k : Nat) : TRd w A (ts.take k) := fun i hi => by
  have hi2 : i < ts.length := by rw [List.length_take] at hi; omega
  have := h i hi2
  simpa using this
theorem TRd.drop {w : World} {A : Option Addr} {ts : List Tok} (h : TRd w A ts) (k : Nat) : TRd w (A.map (·.add (k * 4))) (ts.drop k) := fun i hi => by
  have hi2 : k + i < ts.length := by rw [List.length_drop] at hi; omega
  obtain ⟨g, o, rfl, h2, h3, h4, h5⟩ := h (k + i) hi2
  refine ⟨g, o + k * 4, by simp [Addr.add], ?_⟩
  have e : o + k * 4 + i * 4 = o + (k + i) * 4 := by omega
  rw [e]
  simpa using ⟨h2, h3, h4, h5⟩

/-- The second list is the first one with greater offsets. -/
def Shift (d : Int) (ts us : List Tok) : Prop := us.length = ts.length ∧ ∀ (i : Nat) (h : i < ts.length) (h' : i < us.length), us[i].kind = ts[i].kind ∧ us[i].text = ts[i].text ∧ us[i].num = ts[i].num ∧ (us[i].off : Int) = ts[i].off + d
theorem Shift.refl (ts : List Tok) : Shift 0 ts ts := ⟨rfl, fun i h h' => ⟨rfl, rfl, rfl, by omega⟩⟩

set_option maxRecDepth 100000 in
set_option maxHeartbeats 4000000 in
theorem same_any (A1 A2 : Option Addr) (c1 c2 : Nat) (ts us : List Tok) (d : Int) (w : World) (hd : -100000 ≤ d ∧ d ≤ 100000) (hlen : ts.length ≤ 100000) (hO : Hid (∀ t ∈ ts, t.off ≤ 100000)) (h1 : TRd w A1 ts) (h2 : TRd w A2 us) (hS : Hid (Shift d ts us)) :
    Calls Tryd.prog 13 #[.slice A1 ts.length c1, .slice A2 ts.length c2, .int .i64 d] w fun e w' => e = .returned (.bool true) ∧ Drew w w' := by
  go_enter Tryd.func13, Tryd.ntmps13
  go_wp2
  go_loopw [7] (fun i wr => ∃ k : Nat, k ≤ ts.length ∧ i = .int .i64 k ∧ Drew w wr) (fun i _ => ts.length - (intOf i).toNat)
  case atStart => exact ⟨0, Nat.zero_le _, rfl, Drew.refl _⟩
  case round =>
    rename_i wr
    obtain ⟨k, hk, rfl, hD⟩ := hrel
    by_cases hlt : k < ts.length
    · have hu : k < us.length := by have := hS.out.1; omega
      obtain ⟨s1, s2, s3, s4⟩ := hS.out.2 k hlt hu
      obtain ⟨g1, o1, rfl, p0, p1, p2, p3⟩ := h1.later hD.below k hlt
      obtain ⟨g2, o2, rfl, q0, q1, q2, q3⟩ := h2.later hD.below k hu
      rw [s1] at q0
      rw [s2] at q1
      rw [s3] at q2
      rw [s4] at q3
      have b1 : ts[k].off ≤ 100000 := hO.out _ (List.getElem_mem hlt)
      generalize ts[k].kind = a0 at *
      generalize ts[k].text = a1 at *
      generalize ts[k].num = a2 at *
      generalize ts[k].off = a3 at *
      clear s1 s2 s3 s4 h1 h2 hO hS hu
      have w1 : 0 ≤ (a3 : Int) + d ∨ (a3 : Int) + d < 0 := by omega
      go_wp2
      go_quiet (fail)
      go_wp2
      go_roundw
      case rel => exact ⟨k + 1, by omega, by go_num, hD.more _⟩
      case measure => simp [intOf]; omega
    · go_wp2
      go_ret
      exact ⟨rfl, hD⟩
end Go.Proofs.YtnanfedggmkboaaDoor
