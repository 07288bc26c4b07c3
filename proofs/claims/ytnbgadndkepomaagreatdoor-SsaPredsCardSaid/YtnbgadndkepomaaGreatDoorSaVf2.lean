/- ssa: whether all values that are used were computed before. -/
import Derived.Test.YtnbgadndkepomaaGreatDoorSaEu
namespace Go.Proofs.YtnbgadndkepomaaGreatDoor
open Go.RowKit

theorem endArgs_ok {e : CEn} (h : e.ok) : ∀ v ∈ endArgs e, I64 v := fun v hv => by
  obtain ⟨h1, h2, h3, h4, h5, h6, _⟩ := h
  unfold endArgs at hv
  rcases List.mem_append.1 hv with hv | hv
  · split at hv
    · rw [List.mem_singleton] at hv; rw [hv]; exact h2
    · cases hv
  · unfold edges at hv
    split at hv
    · simp at hv; exact h5 v hv
    · split at hv
      · simp at hv
        rcases hv with hv | hv
        · exact h5 v hv
        · exact h6 v hv
      · simp at hv
theorem argsOf_ok {x : CIn} (h : x.ok) : ∀ v ∈ argsOf x, I64 v := fun v hv => by
  obtain ⟨_, _, _, h4, h5, h6, _⟩ := h
  have := List.mem_of_mem_take hv
  unfold valsOf at this
  simp at this
  rcases this with rfl | rfl | rfl
  · exact h4
  · exact h5
  · exact h6
theorem uses_ok {c : Cd} (ok : c.ok) (hb : BlocksP c) {u : Us} (hu : u ∈ allUses c) : u.b < c.bk.length ∧ I64 u.v := by
  obtain ⟨i, hi, h⟩ := mem_allUses.1 hu
  have hf : 0 ≤ c.bk[i].frm := (chain_at c.bk 0 _ hb _ (List.getElem_mem hi)).1
  rcases (mem_usesIn hf).1 h with ⟨j, hj, _, v, hv, rfl⟩ | ⟨v, hv, rfl⟩
  · exact ⟨hi, argsOf_ok (ok.ins _ (List.getElem_mem hj)) v hv⟩
  · exact ⟨hi, endArgs_ok (ok.bk _ (List.getElem_mem hi)).2.2 v hv⟩
set_option maxRecDepth 100000 in
set_option maxHeartbeats 1600000 in
theorem valuesFit_any {W0 W : World} {p : Nat} {c : Cd} {x : Sl} {cs : Array Value} (h : Cod W0 W p c x cs) (ok : c.ok) (hl : ListsP c) (hb : BlocksP c) (hop : ∀ i ∈ c.ins, OpP i.op) (hend : ∀ b ∈ c.bk, (endArgs b.en).length ≤ 1000000000)
    {b2 bd : Nat} {H : List Int} {D : List Bs} (hf : Fnd W c cs b2 bd H D) (hb2 : W0.heap.size ≤ b2) :
    Calls Tryz.prog 51 #[.pointer (some ⟨p, 0, none⟩)] W fun e w' => e = .returned (.bool (B (ValuesP c))) ∧ Below W.heap.size W w' := by
  have hpb : p ≠ b2 := fun e => by subst e; exact absurd (h.box.type hf.bH) (by decide)
  have hbW := hf.bH.lt
  have N := Box.new W 63 #[.pointer (some ⟨p, 0, none⟩)]
  have bA : Below W.heap.size W (W.alloc (.cells #[.pointer (some ⟨p, 0, none⟩)] 63)) := (Below.refl _ _).alloc (Nat.le_refl _) _
  have h1 := h.later bA
  have hf1 := hf.later bA
  have hiff : ValuesP c ↔ ∀ u ∈ allUses c, UseP c u.v u.b u.before := values_iff (fun b hb' => (chain_at c.bk 0 _ hb _ hb').1)
  go_enter Tryz.func51, Tryz.ntmps51
  go_upto_region 1 with fail
  obtain ⟨bu, hbu⟩ : ∃ b, Hid (W.heap.size = b) := ⟨_, Lib.hid rfl⟩
  obtain ⟨w1, hw1⟩ : ∃ Y, W.alloc (.cells #[.pointer (some ⟨p, 0, none⟩)] 63) = Y := ⟨_, rfl⟩
  rw [hw1] at N bA h1 hf1
  have hbW1 : b2 < w1.heap.size := Nat.lt_of_lt_of_le hbW bA.size
  rw [hbu.out] at N
  simp only [hw1, hbu.out]
  clear hw1
  have n0 := N.cell 0
  have hvis : VisOk 102 c b2 bu (fun _ w => Below w1.heap.size w1 w) (fun w => Below w1.heap.size w1 w) (fun u => B (UseP c u.v u.b u.before)) :=
    ⟨fun _ _ _ k kb => k.trans (kb.mono k.size), fun us u w hp k => by
      have hu : u ∈ allUses c := hp.subset (by simp)
      obtain ⟨u1, u2⟩ := uses_ok ok hb hu
      refine (visit_any (h1.later k) (hf1.later k) hl hb (N.below k) u.v u.before u.b u2 u1).mono ?_
      rintro e w' ⟨rfl, b⟩
      exact ⟨rfl, But.of b, fun _ => k.trans (b.mono k.size), fun _ => k.trans (b.mono k.size)⟩⟩
  have hcall := Lib.hid (eachUse_v h1 hl hb hop hend hb2 hpb hbW1 hvis (Below.refl _ _))
  go_wp2_with fail
  refine hcall.out.mono ?_
  rintro e w2 ⟨r, rfl, r1, r2, _⟩
  have hr : Hid (r = B (ValuesP c)) := Lib.hid (by
    cases r with
    | true => exact (B_of (hiff.2 (fun u hu => B_true.1 ((r1 rfl).2 u hu)))).symm
    | false =>
      obtain ⟨u, hu, h2⟩ := (r2 rfl).2
      exact (B_not (fun h => by
        have h3 : B (UseP c u.v u.b u.before) = false := h2
        rw [B_of (hiff.1 h u hu)] at h3
        cases h3)).symm)
  have hB : Below W.heap.size W w2 := by
    cases r with
    | true => exact bA.trans (Below.mono (r1 rfl).1 bA.size)
    | false => exact bA.trans (Below.mono (r2 rfl).1 bA.size)
  clear r1 r2 hcall hvis
  go_wp2
  go_ret
  exact ⟨by rw [← hr.out]; rfl, hB⟩
end Go.Proofs.YtnbgadndkepomaaGreatDoor
