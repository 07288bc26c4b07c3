/- ssa: whether a value that is used was computed before. -/
import Derived.Test.YtnbgadndkepomaaGreatDoorSaDo
import Derived.Test.YtnbgadndkepomaaGreatDoorSQI
import Derived.Test.YtnbgadndkepomaaGreatDoorSaOut2
namespace Go.Proofs.YtnbgadndkepomaaGreatDoor
open Go.RowKit

theorem useP_home {c : Cd} (hb : BlocksP c) {v before : Int} {b : Nat} (hi : Ix v c.ins) : UseP c v b before ↔ (homeN c v.toNat = b → v < before) ∧ (homeN c v.toNat ≠ b → Dom (succs c) (homeN c v.toNat) b) := by
  obtain ⟨k, rfl, hk⟩ := ix_nat hi
  rw [Int.toNat_natCast]
  obtain ⟨h1, h2⟩ := home_lt hb hk
  constructor
  · rintro ⟨_, h⟩
    have := h (homeN c k) h1 (by rw [Int.toNat_natCast]; exact h2)
    exact this
  · intro h
    refine ⟨hi, fun g hg hin => ?_⟩
    rw [Int.toNat_natCast] at hin
    have e := home_is hb hg hin
    rw [← e]
    exact h
/-- What the code has found out, in memory. -/
structure Fnd (w : World) (c : Cd) (cs : Array Value) (b2 bd : Nat) (H : List Int) (D : List Bs) : Prop where
  e116 : cs[116]? = some (.slice (some ⟨b2, 0, none⟩) c.ins.length c.ins.length)
  e119 : cs[119]? = some (.slice (some ⟨bd, 0, none⟩) c.bk.length c.bk.length)
  bH : Box w b2 3 (ints H)
  bD : Box w bd 108 (u64s D.flatten)
  lH : H.length = c.ins.length
  hH : ∀ (n : Nat) (h2 : n < H.length), H[n] = (homeN c n : Int)
  okD : okD D
  lD : D.length = c.bk.length
  dom : ∀ b h, b < c.bk.length → h < c.bk.length → (hasS (D.getD b noneS) h = true ↔ Dom (succs c) h b)
theorem Fnd.later {w w' : World} {c : Cd} {cs : Array Value} {b2 bd : Nat} {H : List Int} {D : List Bs} (h : Fnd w c cs b2 bd H D) (hb : Below w.heap.size w w') : Fnd w' c cs b2 bd H D :=
  { h with bH := h.bH.below hb, bD := h.bD.below hb }
set_option maxRecDepth 100000 in
set_option maxHeartbeats 1600000 in
theorem visit_any {W0 W : World} {p : Nat} {c : Cd} {x : Sl} {cs : Array Value} (h : Cod W0 W p c x cs) {b2 bd : Nat} {H : List Int} {D : List Bs} (hf : Fnd W c cs b2 bd H D) (hl : ListsP c) (hb : BlocksP c) {xc : Nat} (hc : Box W xc 63 #[.pointer (some ⟨p, 0, none⟩)])
    (v before : Int) (b : Nat) (hv : I64 v) (hbn : b < c.bk.length) :
    Calls Tryz.prog 102 #[.agg #[.int .i64 v, .int .i64 b, .int .i64 before], .pointer (some ⟨xc, 0, none⟩)] W fun e w' => e = .returned (.bool (B (UseP c v b before))) ∧ Below W.heap.size W w' := by
  have hn := hl.2.2.1.2
  have hi3 := hl.2.2.2.1
  obtain ⟨R, hR⟩ : ∃ R, Hid (B (UseP c v b before) = R) := ⟨_, Lib.hid rfl⟩
  rw [hR.out]
  replace hl := Lib.hid hl
  replace hb := Lib.hid hb
  have N := Box.new W 76 #[.int .i64 v, .int .i64 b, .int .i64 before]
  have bA : Below W.heap.size W (W.alloc (.cells #[.int .i64 v, .int .i64 b, .int .i64 before] 76)) := (Below.refl _ _).alloc (Nat.le_refl _) _
  have h1 := h.later bA
  have hf1 := hf.later bA
  have hc1 := hc.below bA
  go_enter Tryz.func102, Tryz.ntmps102
  go_upto_region 1 with fail
  obtain ⟨bu, hbu⟩ : ∃ b, Hid (W.heap.size = b) := ⟨_, Lib.hid rfl⟩
  obtain ⟨w1, hw1⟩ : ∃ Y, W.alloc (.cells #[.int .i64 v, .int .i64 b, .int .i64 before] 76) = Y := ⟨_, rfl⟩
  rw [hw1] at N bA h1 hf1 hc1
  rw [hbu.out] at N
  simp only [hw1, hbu.out]
  clear hw1 h hf hc
  have n0 := N.cell 0
  have n1 := N.cell 1
  have n2 := N.cell 2
  have c0 := hc1.cell 0
  have s2 := h1.pt.s2
  have k1 := fun m => isIndex_inst v hv x.I c.ins.length x.ic (by omega) (w1.drewN m)
  by_cases hix : Ix v c.ins
  · have hix2 : (0 ≤ v ∧ v < (c.ins.length : Int)) := hix
    simp only [B_of hix2] at k1
    obtain ⟨k, rfl, hk⟩ := ix_nat hix
    have hiff := Lib.hid (useP_home hb.out (before := before) (b := b) hix)
    rw [Int.toNat_natCast] at hiff
    obtain ⟨g1, g2⟩ := home_lt hb.out hk
    obtain ⟨hm, hhm⟩ : ∃ q, Hid (homeN c k = q) := ⟨_, Lib.hid rfl⟩
    rw [hhm.out] at hiff g1
    clear g2 hix2
    have k116 : w1.cell? ⟨p, 116, none⟩ = some (.slice (some ⟨b2, 0, none⟩) c.ins.length c.ins.length) := by rw [h1.box.cell]; exact hf1.e116
    have kh : w1.cell? ⟨b2, k, none⟩ = some (.int .i64 hm) := by rw [hf1.bH.cell, ints_get _ _ (by rw [hf1.lH]; exact hk), hf1.hH, hhm.out]
    have k119 : w1.cell? ⟨p, 119, none⟩ = some (.slice (some ⟨bd, 0, none⟩) c.bk.length c.bk.length) := by rw [h1.box.cell]; exact hf1.e119
    have hkc : (k : Int) < c.ins.length := by omega
    have hbc : (b : Int) < c.bk.length := by omega
    go_quiet (first | (go_at_call 103; exact quiet_same' (k1 _)))
    obtain ⟨w2a, hw2a⟩ : ∃ Y, w1.drewN nq = Y := ⟨_, rfl⟩
    have hSa : Bel w1 w2a := by rw [← hw2a]; exact (Drew.below ⟨nq, rfl⟩ : Below w1.heap.size w1 (w1.drewN nq))
    simp only [hw2a]
    clear hw2a nq
    have na0 := hSa.cell n0
    have ca0 := hSa.cell c0
    have ka116 := hSa.cell k116
    have kah := hSa.cell kh
    go_wp2_with fail
    go_quiet (fail)
    clear na0 ca0 ka116 kah
    obtain ⟨w2, hw2⟩ : ∃ Y, w2a.drewN nq = Y := ⟨_, rfl⟩
    have hS2 : Bel w1 w2 := by rw [← hw2]; exact hSa.below (Drew.below ⟨nq, rfl⟩)
    simp only [hw2]
    clear hw2 hSa
    replace n0 := hS2.cell n0
    replace n1 := hS2.cell n1
    replace n2 := hS2.cell n2
    by_cases hmb : hm = b
    · have e1 : ((hm : Int) == (b : Int)) = true := by rw [hmb]; simp
      have hQ : Hid (R = decide ((k : Int) < before)) := Lib.hid (by
        rw [← hR.out]
        refine (B_eq ?_).symm
        rw [decide_eq_true_eq, hiff.out]
        exact ⟨fun h => ⟨fun _ => h, fun h2 => absurd hmb h2⟩, fun h => h.1 hmb⟩)
      clear hmb hiff hR k1
      go_wp2
      go_ret
      exact ⟨by rw [hQ.out]; rfl, bA.trans (Below.mono hS2 bA.size)⟩
    · have e1 : ((hm : Int) == (b : Int)) = false := by
        have : (hm : Int) ≠ (b : Int) := by omega
        simpa using this
      have okb := okD_getD hf1.okD b
      have hcl : ∀ k, k < 7 → w1.cell? ⟨bd, b * 7 + k, none⟩ = some (.int .u64 ((D.getD b noneS).getD k 0 : Nat)) := fun k hk => by
        rw [hf1.bD.cell, u64s_get _ _ (by rw [flat_len hf1.okD.len7, hf1.lD]; omega), flat_get hf1.okD.len7 b k (by rw [hf1.lD]; exact hbn) hk]
      have hQ : Hid (R = hasS (D.getD b noneS) hm) := Lib.hid (by
        rw [← hR.out]
        refine (B_eq ?_).symm
        rw [hf1.dom b hm hbn g1, hiff.out]
        exact ⟨fun h => ⟨fun h2 => absurd h2 hmb, fun _ => h⟩, fun h => h.2 hmb⟩)
      have hhas := Lib.hid (fun X => has_any (W := X) (D.getD b noneS) okb hm (by omega))
      generalize D.getD b noneS = od at okb hcl hQ hhas
      obtain ⟨x0, x1, x2, x3, x4, x5, x6, rfl⟩ := seven okb
      obtain ⟨rb, hrb⟩ : ∃ q, Hid (hasS [x0, x1, x2, x3, x4, x5, x6] hm = q) := ⟨_, Lib.hid rfl⟩
      rw [hrb.out] at hQ hhas
      have hmk : Hid (∀ X, Bel w1 X → X.cell? ⟨xc, 0, none⟩ = some (.pointer (some ⟨p, 0, none⟩)) ∧ X.cell? ⟨p, 119, none⟩ = some (.slice (some ⟨bd, 0, none⟩) c.bk.length c.bk.length) ∧ X.cell? ⟨bu, 1, none⟩ = some (.int .i64 b) ∧ X.cell? ⟨bd, b * 7, none⟩ = some (.int .u64 (x0 : Nat)) ∧ X.cell? ⟨bd, b * 7 + 1, none⟩ = some (.int .u64 (x1 : Nat)) ∧ X.cell? ⟨bd, b * 7 + 2, none⟩ = some (.int .u64 (x2 : Nat)) ∧ X.cell? ⟨bd, b * 7 + 3, none⟩ = some (.int .u64 (x3 : Nat)) ∧ X.cell? ⟨bd, b * 7 + 4, none⟩ = some (.int .u64 (x4 : Nat)) ∧ X.cell? ⟨bd, b * 7 + 5, none⟩ = some (.int .u64 (x5 : Nat)) ∧ X.cell? ⟨bd, b * 7 + 6, none⟩ = some (.int .u64 (x6 : Nat)) ∧ Bel w1 X) :=
        Lib.hid (fun X hX => ⟨hX.cell c0, hX.cell k119, hX.cell (N.cell 1), hX.cell (hcl 0 (by omega)), hX.cell (hcl 1 (by omega)), hX.cell (hcl 2 (by omega)), hX.cell (hcl 3 (by omega)), hX.cell (hcl 4 (by omega)), hX.cell (hcl 5 (by omega)), hX.cell (hcl 6 (by omega)), hX⟩)
      have hcc := hmk.out _ hS2
      clear hmb hiff hR k1 hcl n0 n1 n2 k116 kh k119 c0
      go_wp2_with fail
      go_region_held3 (fun w' => w'.cell? ⟨xc, 0, none⟩ = some (.pointer (some ⟨p, 0, none⟩)) ∧ w'.cell? ⟨p, 119, none⟩ = some (.slice (some ⟨bd, 0, none⟩) c.bk.length c.bk.length) ∧ w'.cell? ⟨bu, 1, none⟩ = some (.int .i64 b) ∧ w'.cell? ⟨bd, b * 7, none⟩ = some (.int .u64 (x0 : Nat)) ∧ w'.cell? ⟨bd, b * 7 + 1, none⟩ = some (.int .u64 (x1 : Nat)) ∧ w'.cell? ⟨bd, b * 7 + 2, none⟩ = some (.int .u64 (x2 : Nat)) ∧ w'.cell? ⟨bd, b * 7 + 3, none⟩ = some (.int .u64 (x3 : Nat)) ∧ w'.cell? ⟨bd, b * 7 + 4, none⟩ = some (.int .u64 (x4 : Nat)) ∧ w'.cell? ⟨bd, b * 7 + 5, none⟩ = some (.int .u64 (x5 : Nat)) ∧ w'.cell? ⟨bd, b * 7 + 6, none⟩ = some (.int .u64 (x6 : Nat)) ∧ Bel w1 w')
        ((first | assumption | (refine hmk.out _ ?_; repeat (first | assumption | refine Bel.drew ?_)))) (first | (go_at_call 104; refine (hhas.out _).mono ?_; rintro e w5 ⟨rfl, b5⟩; have hS5 : Bel w1 w5 := Bel.below (Bel.drew hS2) b5))
      go_wp2
      go_ret
      exact ⟨by rw [hQ.out]; rfl, bA.trans (Below.mono hS5 bA.size)⟩
  · have hix2 : ¬ (0 ≤ v ∧ v < (c.ins.length : Int)) := hix
    simp only [B_not hix2] at k1
    have hQ : Hid (R = false) := Lib.hid (by rw [← hR.out]; exact B_not (fun h => hix h.1))
    clear hix hix2 hR
    go_quiet (first | (go_at_call 103; exact quiet_same' (k1 _)))
    go_wp2
    go_ret
    exact ⟨by rw [hQ.out]; rfl, bA.trans ((Drew.below ⟨_, rfl⟩).mono bA.size)⟩
end Go.Proofs.YtnbgadndkepomaaGreatDoor
