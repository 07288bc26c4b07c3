/- The reference of layer 9: Put. -/
import Derived.Test.YteekppohhjlmmaaHpRld
namespace Go.Proofs.Yteekppohhjlmmaa
open Go.RowKit

theorem set_self (l : List Ce) {k : Nat} (h : k < l.length) : l.set k (ceAt l k) = l := by
  apply List.ext_getElem?
  intro i
  rw [List.getElem?_set]
  by_cases e : k = i
  · subst e; rw [if_pos rfl, if_pos h, List.getElem?_eq_getElem h, ceAt_eq h]
  · rw [if_neg e]
/-- A width that is written over itself. -/
theorem OTab.same {w : World} {B g n cap : Nat} {v : Value} {V : Nat → Value} {l : List Ob} (h : OTab w B v V l) {t : Nat} (ht : t < l.length) (hV : V t = .slice (some ⟨g, 0, none⟩) n cap) {k : Nat} (hk : k < (obAt l t).c.length) :
    OTab (w.setCell ⟨g, k * 3, none⟩ (.int .i64 (ceAt (obAt l t).c k).w)) B v V l := by
  have h0 := h.own t ht
  unfold COwn at h0
  rw [hV] at h0
  have hn : n = (obAt l t).c.length := by
    rcases h0.2 with ⟨e, _⟩ | ⟨_, _, _, e, _⟩ <;> simp at e
    exact e.2.1
  subst hn
  obtain ⟨h1, h2⟩ := World.ownsRow.stored h0 (k * 3) (.int .i64 (ceAt (obAt l t).c k).w)
  have hz : (⟨(ceAt (obAt l t).c k).w, (ceAt (obAt l t).c k).s, (ceAt (obAt l t).c k).v⟩ : Ce) = ceAt (obAt l t).c k := rfl
  rw [flat_width _ hk, hz, set_self _ hk] at h1
  refine ⟨?_, fun u hu => ?_, h.far⟩
  · exact h.row.kept h2 (own_ne h.row h0 (by decide))
  · by_cases e : u = t
    · subst e
      rw [hV]
      exact h1
    · have q : (V u).ownBlock = none ∨ (V u).ownBlock ≠ some g := by
        rcases h.far u t hu ht e with q | q
        · exact Or.inl q
        · rw [hV] at q; exact Or.inr q
      exact World.ownsRow.kept (h.own u hu) h2 q
set_option maxRecDepth 100000 in
set_option maxHeartbeats 1600000 in
theorem RPut_any (l : List Ob) (obj : Int) (k : Nat) (v : Int) (w : World) (A : Option Addr) (c : Nat) (hs : ObSl w A c l) (ho : oks l) (hv : U64 v) : Calls Try.prog 20 #[.slice A l.length c, .int .i64 obj, .int .u64 (k : Nat), .int .u64 v] w (ObAns (putR l obj k v) w) := by
  have hH := has_any l obj w A c hs ho
  cases hh : hasO l obj with
  | false =>
    have hR : putR l obj k v = ([], 0, 1) := by unfold putR; rw [if_pos hh]
    rw [hh] at hH
    rw [hR]
    clear hs ho hh hR
    go_enter Try.func20, Try.ntmps20
    go_wp2_with fail
    refine hH.mono ?_
    rintro e w1 ⟨rfl, b1⟩
    clear hH
    go_wp2
    refine bodyPost_ret (v := .tuple #[.slice none 0 0, .int .i64 0, .int .i64 1]) (by simp [results, Try.results20, go_sem]) rfl ?_
    exact ⟨none, 0, rfl, ObSl.nil _, b1⟩
  | true =>
    rw [hh] at hH
    obtain ⟨t, rfl⟩ : ∃ t : Nat, obj = t := ⟨obj.toNat, by have := (hasO_iff.1 hh).2; omega⟩
    have ht : t < l.length := by have := (hasO_iff.1 hh).2; omega
    have htc : (t : Int) < l.length := by omega
    obtain ⟨g, o, A', c', eA, k0, k1, ks⟩ := hs.at_ ht
    subst eA
    have hlen : (obAt l t).c.length ≤ 16 := obV_len (obsV_mem (hasO_iff.1 hh).1 _ (obAt_mem ht))
    have hFa := fun w => fault_any A' (obAt l t).c.length c' k (obAt l t).g w (by omega)
    have hcase : (faultR (obAt l t).g (obAt l t).c.length k ≠ 0 ∧ putR l (t : Int) (k : Int) v = ([], faultR (obAt l t).g (obAt l t).c.length k, 0)) ∨ (faultR (obAt l t).g (obAt l t).c.length k = 0 ∧ k < (obAt l t).c.length ∧ putR l (t : Int) (k : Int) v = (l.set t (putOb (obAt l t) k v), 0, 0)) := by
      cases hg : (obAt l t).g with
      | true => exact Or.inl ⟨show (3 : Int) ≠ 0 by decide, gone_put hh (by simpa using hg) k v⟩
      | false =>
        by_cases hk : k < (obAt l t).c.length
        · have hz : faultR false (obAt l t).c.length k = 0 := by unfold faultR; rw [if_neg (by decide), if_neg (by omega)]
          have hR := hit_put (l := l) (obj := (t : Int)) (k := (k : Int)) ⟨hh, by simpa using hg, by simp; omega⟩ v
          simp only [Int.toNat_natCast] at hR
          exact Or.inr ⟨hz, hk, hR⟩
        · have hz : faultR false (obAt l t).c.length k = 2 := by unfold faultR; rw [if_neg (by decide), if_pos (by omega)]
          rw [hz]
          exact Or.inl ⟨by decide, out_put hh (by simpa using hg) (by simp; omega) v⟩
    rcases hcase with ⟨hf, hR⟩ | ⟨hf, hk, hR⟩
    · rw [hR]
      generalize faultR (obAt l t).g (obAt l t).c.length k = f at hFa hf
      have hq : (f != 0) = true := by simpa using hf
      generalize (obAt l t).c.length = n at k0 hFa
      generalize (obAt l t).g = gi at k1 hFa
      clear hs ho hh hR hf hlen ks
      go_enter Try.func20, Try.ntmps20
      go_wp2_with fail
      refine hH.mono ?_
      rintro e w1 ⟨rfl, b1⟩
      have k0 := cell_later b1 k0
      have k1 := cell_later b1 k1
      clear hH
      go_wp2_with fail
      refine (hFa _).mono ?_
      rintro e w2 ⟨rfl, b2⟩
      clear hFa
      go_wp2
      refine bodyPost_ret (v := .tuple #[.slice none 0 0, .int .i64 f, .int .i64 0]) (by simp [results, Try.results20, go_sem]) rfl ?_
      exact ⟨none, 0, rfl, ObSl.nil _, b1.trans (b2.mono b1.size)⟩
    · rw [hR]
      rw [hf] at hFa
      have hkc : (k : Int) < (obAt l t).c.length := by omega
      have hwd := width_of (hasO_iff.1 hh).1 ht hk
      have hC : ∀ w1, Below w.heap.size w w1 → _ := fun w1 h1 => RCopy_any l w1 _ c (hs.later h1) (few_of_valid (hasO_iff.1 hh).1)
      have hL := fun w => ref_low v (ceAt (obAt l t).c k).w w hv.1 (by omega) hwd.2
      have hl0 : 0 < l.length := by omega
      obtain ⟨m, hm⟩ : ∃ m, Hid (l.set t (putOb (obAt l t) k v) = m) := ⟨_, Lib.hid rfl⟩
      rw [hm.out]
      clear hs ho hh hR hf hlen ks
      go_enter Try.func20, Try.ntmps20
      go_wp2_with fail
      refine hH.mono ?_
      rintro e w1 ⟨rfl, b1⟩
      have k0 := cell_later b1 k0
      have k1 := cell_later b1 k1
      have hC' := fun w2 (h2 : Below w1.heap.size w1 w2) => hC w2 (b1.trans (h2.mono b1.size))
      clear hH hC
      go_wp2_with fail
      refine (hFa _).mono ?_
      rintro e w2 ⟨rfl, b2⟩
      have hC := hC' w2 b2
      have b2 := b1.trans (b2.mono b1.size)
      clear hFa hC'
      go_wp2_with fail
      refine hC.mono ?_
      rintro e w3 ⟨⟨vv, V, rfl, hT⟩, b3⟩
      have hz2 := b2.size
      have b3 := b2.trans (b3.mono b2.size)
      obtain ⟨gq, cap, rfl, q1, q2⟩ := copy_len hT hl0
      obtain ⟨gc, cc, eV, r1, ⟨d0, d1, d2⟩, hfz, _⟩ := hT.cell ht hk
      have s0 := (hT.slot ht).1
      rw [eV] at s0
      have hT1 := hT.same ht eV hk
      have hT2 := hT1.put ht eV hk (low (ceAt (obAt l t).c k).w v)
      obtain ⟨A2, c2, e2, hS⟩ := hT2.sl
      simp at e2
      obtain ⟨e2a, e2b⟩ := e2
      subst e2a
      subst e2b
      have hW : Below w.heap.size w (((w3.setCell ⟨gc, k * 3, none⟩ (.int .i64 (ceAt (obAt l t).c k).w)).setCell ⟨gc, k * 3 + 1, none⟩ (.bool true)).setCell ⟨gc, k * 3 + 2, none⟩ (.int .u64 (low (ceAt (obAt l t).c k).w v))) := ((b3.setCell (by show w.heap.size ≤ gc; omega) _).setCell (by show w.heap.size ≤ gc; omega) _).setCell (by show w.heap.size ≤ gc; omega) _
      rw [Nat.zero_add] at d0 d1 d2
      have z0 := hfz (k * 3)
      have z1 := hfz (k * 3 + 1)
      have z2 := hfz (k * 3 + 2)
      have hlen : (l.set t (putOb (obAt l t) k v)).length = l.length := List.length_set
      have hS := Lib.hid hS
      have hW := Lib.hid hW
      have hpo : (⟨(obAt l t).c.set k ⟨(ceAt (obAt l t).c k).w, true, low (ceAt (obAt l t).c k).w v⟩, (obAt l t).g⟩ : Ob) = putOb (obAt l t) k v := rfl
      rw [hpo] at hS
      have hpo := Lib.hid hpo
      simp only [hm.out] at hS hlen
      generalize (ceAt (obAt l t).c k).w = n at d0 hL hS hW
      generalize (obAt l t).c.length = nl at s0 hkc
      clear hC hT hT1 hT2 k0 k1 hpo eV
      have hfinS := fun nn => Lib.hid (hS.out.later (Drew.below ⟨nn, rfl⟩))
      have hfinW := fun nn => Lib.hid (below_drewN hW.out nn)
      have hwd := Lib.hid hwd
      clear hS hW
      go_upto_region 8 with fail
      go_region_with (first | (go_at_call 42; refine (hL _).mono ?_; rintro e w9 ⟨rfl, rfl⟩))
      all_goals
        go_wp2
        refine bodyPost_ret (v := .tuple #[.slice (some ⟨gq, 0, none⟩) l.length cap, .int .i64 0, .int .i64 0]) (by simp [results, Try.results20, go_sem]) rfl ?_
        exact ⟨_, _, by simp only [hlen], (hfinS _).out, (hfinW _).out⟩
end Go.Proofs.Yteekppohhjlmmaa
