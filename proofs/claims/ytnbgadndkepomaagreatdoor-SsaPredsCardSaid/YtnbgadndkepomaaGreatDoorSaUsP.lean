/- ssa: Uses. -/
import Derived.Test.YtnbgadndkepomaaGreatDoorSaApi
import Derived.Test.YtnbgadndkepomaaGreatDoorSaEuU
namespace Go.Proofs.YtnbgadndkepomaaGreatDoor
open Go.RowKit

/-- How often each value is used. -/
def counts (n : Nat) (us : List Us) : List Int := (List.range n).map fun k : Nat => ((us.countP fun u => decide (u.v = (k : Int)) : Nat) : Int)
theorem counts_len (n : Nat) (us : List Us) : (counts n us).length = n := by simp [counts]
theorem counts_get {n : Nat} {us : List Us} {k : Nat} (h : k < (counts n us).length) : (counts n us)[k] = ((us.countP fun u => decide (u.v = (k : Int)) : Nat) : Int) := by simp [counts]
theorem counts_nil (n : Nat) : counts n [] = List.replicate n 0 := by
  apply List.ext_getElem
  · simp [counts]
  · intro i h1 h2
    simp [counts]
theorem counts_snoc {n : Nat} (us : List Us) (u : Us) {k : Nat} (hu : u.v = (k : Int)) : counts n (us ++ [u]) = (counts n us).set k ((us.countP fun u => decide (u.v = (k : Int)) : Nat) + 1 : Int) := by
  apply List.ext_getElem
  · simp [counts]
  · intro i h1 h2
    rw [counts_get, List.countP_append]
    by_cases e : k = i
    · subst e
      rw [List.getElem_set_self]
      simp [hu]
    · rw [List.getElem_set_ne e, counts_get]
      have : ¬ u.v = (i : Int) := by omega
      simp [this]
theorem flat_le {α : Type} {k : Nat} : ∀ {L : List (List α)}, (∀ l ∈ L, l.length ≤ k) → L.flatten.length ≤ L.length * k
  | [], _ => by simp
  | a :: L, h => by
    have h1 := h a (by simp)
    have h2 := flat_le (L := L) (fun l hl => h l (List.mem_cons_of_mem _ hl))
    rw [List.flatten_cons, List.length_append, List.length_cons, Nat.add_mul]
    omega
theorem uses_len {c : Cd} (hl : ListsP c) (hb : BlocksP c) (hend : ∀ b ∈ c.bk, (endArgs b.en).length ≤ 1000000000) : (allUses c).length ≤ 1000000000000 := by
  have h1 : ∀ l ∈ (List.range c.bk.length).map (usesOf c), l.length ≤ 1000009000 := fun l hl2 => by
    obtain ⟨i, hi, rfl⟩ := List.mem_map.1 hl2
    have hi2 : i < c.bk.length := List.mem_range.1 hi
    have hm := List.getElem_mem hi2
    have h2 := chain_at c.bk 0 _ hb _ hm
    have h3 := hend _ hm
    have h4 := hl.2.2.2.1
    have e : usesOf c i = usesIn c i c.bk[i] := by unfold usesOf; rw [List.getElem?_eq_getElem hi2]; rfl
    rw [e]
    unfold usesIn
    rw [List.length_append, List.length_map]
    have h5 : ((List.range' c.bk[i].frm.toNat (c.bk[i].til.toNat - c.bk[i].frm.toNat)).map (usesAt c i)).flatten.length ≤ ((List.range' c.bk[i].frm.toNat (c.bk[i].til.toNat - c.bk[i].frm.toNat)).map (usesAt c i)).length * 3 := flat_le (fun l hl3 => by
      obtain ⟨j, _, rfl⟩ := List.mem_map.1 hl3
      unfold usesAt
      cases hj : c.ins[j]? with
      | none => simp
      | some z =>
        simp only [Option.map_some, Option.getD_some, List.length_map]
        unfold argsOf valsOf
        simp; omega)
    rw [List.length_map, List.length_range'] at h5
    omega
  have h6 := flat_le h1
  rw [List.length_map, List.length_range] at h6
  have h7 := hl.2.2.1.2
  unfold allUses
  have h8 : c.bk.length * 1000009000 ≤ 400 * 1000009000 := Nat.mul_le_mul_right _ h7
  omega
set_option maxRecDepth 100000 in
set_option maxHeartbeats 1600000 in
theorem count_any {W : World} {bm xm n k : Nat} {us : List Us} {v b before : Int} (hv : v = (k : Int)) (hk : k < n) (hm : Box W bm 3 (ints (counts n us))) (hx : Box W xm 30 #[.slice (some ⟨bm, 0, none⟩) n n]) (hus : us.length ≤ 1000000000000) :
    Calls Tryz.prog 35 #[.agg #[.int .i64 v, .int .i64 b, .int .i64 before], .pointer (some ⟨xm, 0, none⟩)] W fun e w' => e = .returned (.bool true) ∧ But bm W w' ∧ Box w' bm 3 (ints (counts n (us ++ [⟨v, b.toNat, before⟩]))) ∧ Box w' xm 30 #[.slice (some ⟨bm, 0, none⟩) n n] := by
  subst hv
  have N := Box.new W 76 #[.int .i64 (k : Nat), .int .i64 b, .int .i64 before]
  have bA : Below W.heap.size W (W.alloc (.cells #[.int .i64 (k : Nat), .int .i64 b, .int .i64 before] 76)) := (Below.refl _ _).alloc (Nat.le_refl _) _
  have hm1 := hm.below bA
  have hx1 := hx.below bA
  have hlm := hm.lt
  have hne : xm ≠ bm := fun e => by subst e; exact absurd (hx.type hm) (by decide)
  have hsn := Lib.hid (counts_snoc (n := n) us ⟨(k : Int), b.toNat, before⟩ rfl)
  have hck : k < (counts n us).length := by rw [counts_len]; exact hk
  have hcg := counts_get hck
  have hcb : us.countP (fun u => decide (u.v = (k : Int))) ≤ us.length := List.countP_le_length
  generalize us.countP (fun u => decide (u.v = (k : Int))) = z at hsn hcg hcb
  go_enter Tryz.func35, Tryz.ntmps35
  go_upto_region 1 with fail
  obtain ⟨bu, hbu⟩ : ∃ b, Hid (W.heap.size = b) := ⟨_, Lib.hid rfl⟩
  obtain ⟨w1, hw1⟩ : ∃ Y, W.alloc (.cells #[.int .i64 (k : Nat), .int .i64 b, .int .i64 before] 76) = Y := ⟨_, rfl⟩
  rw [hw1] at N bA hm1 hx1
  rw [hbu.out] at N hlm
  simp only [hw1, hbu.out]
  clear hw1
  have n0 := N.cell 0
  have cm : w1.cell? ⟨bm, k, none⟩ = some (.int .i64 (z : Nat)) := by rw [hm1.cell, ints_get _ _ hck, hcg]
  have fm := hm1.free k
  have hkc : (k : Int) < n := by omega
  have hwz : IntKind.i64.wrap ((z : Int) + 1) = (z : Int) + 1 := IntWalk.i64_in _ (by omega)
  have hm2 := hm1.set k (.int .i64 ((z : Int) + 1))
  rw [ints_set, ← hsn.out] at hm2
  have hx2 := hx1.far (b' := bm) (i := k) hne (.int .i64 ((z : Int) + 1))
  have b2 : But bm W (w1.setCell ⟨bm, k, none⟩ (.int .i64 ((z : Int) + 1))) := (But.of bA).trans (But.set _)
  have c0 := hx1.cell 0
  clear hcg hcb hck hm1
  go_wp2
  go_ret
  exact ⟨rfl, b2, hm2, hx2⟩
open Classical in
noncomputable def usesE (c : Cd) : List Int × Int := if ValidP c then (counts c.ins.length (allUses c), 0) else ([], 1)
set_option maxRecDepth 100000 in
set_option maxHeartbeats 1600000 in
theorem Uses_any {W : World} {c : Cd} {x : Sl} (hx : CdAt W c x) (ok : c.ok) (hv : ErrV W) :
    Calls Tryz.prog 17 #[.agg #[.slice x.S c.st.length x.sc, .slice x.N c.nm.length x.nc, .slice x.I c.ins.length x.ic, .slice x.K c.bk.length x.kc]] W (ListE W (usesE c).1 (usesE c).2) := by
  have N := Box.new W 27 #[.slice x.S c.st.length x.sc, .slice x.N c.nm.length x.nc, .slice x.I c.ins.length x.ic, .slice x.K c.bk.length x.kc]
  have bA : Below W.heap.size W (W.alloc (.cells #[.slice x.S c.st.length x.sc, .slice x.N c.nm.length x.nc, .slice x.I c.ins.length x.ic, .slice x.K c.bk.length x.kc] 27)) := (Below.refl _ _).alloc (Nat.le_refl _) _
  have hex := Lib.hid (examine_any (hx.later bA) ok (hv.later bA))
  have n0 := N.cell 0
  have n1 := N.cell 1
  have n2 := N.cell 2
  have n3 := N.cell 3
  have hE1 : Hid (ValidP c → usesE c = (counts c.ins.length (allUses c), 0)) := Lib.hid (fun h => if_pos h)
  have hE2 : Hid (¬ ValidP c → usesE c = ([], 1)) := Lib.hid (fun h => if_neg h)
  generalize usesE c = oe at hE1 hE2
  obtain ⟨bu, hbu⟩ : ∃ b, Hid (W.heap.size = b) := ⟨_, Lib.hid rfl⟩
  go_enter Tryz.func17, Tryz.ntmps17
  go_wp2_with fail
  refine hex.out.mono ?_
  rintro e w2 ⟨r, v, rfl, hvv, b2, hyes⟩
  have hvv2 := Lib.hid hvv
  have bW := bA.trans (b2.mono bA.size)
  have N2 := N.below b2
  clear hvv hex n0 n1 n2 n3
  cases v with
  | false =>
    have hnv : ¬ ValidP c := B_false.1 hvv2.out.symm
    obtain rfl := hE2.out hnv
    clear hyes hE1 hE2
    go_wp2
    refine bodyPost_ret (v := .tuple #[.slice none 0 0, .int .i64 1]) (by simp [results, Tryz.results17, go_sem]) rfl ?_
    exact ⟨none, 0, rfl, Nat.le_refl _, by unfold maxLen; omega, (fun i hi => by simp at hi), bW⟩
  | true =>
    have hvd : ValidP c := B_true.1 hvv2.out.symm
    obtain rfl := hE1.out hvd
    obtain ⟨p, cs, rfl, hX⟩ := hyes rfl
    have hC := hX.cod
    have hins := hvd.1.1.1.2.2.2.1
    have n2 := N2.cell 2
    have mk := fun w => mk_ints c.ins.length (by omega) w
    clear hyes hE1 hE2 hX
    have M0 := (Box.new w2 3 (ints (List.replicate c.ins.length 0))).alloc (.cells #[.slice (some ⟨w2.heap.size, 0, none⟩) c.ins.length c.ins.length] 30)
    have M1 := Box.newAt (X := w2.alloc (.cells (ints (List.replicate c.ins.length 0)) 3)) (n := w2.heap.size + 1) (by simp) 30 #[.slice (some ⟨w2.heap.size, 0, none⟩) c.ins.length c.ins.length]
    have bM : Below w2.heap.size w2 ((w2.alloc (.cells (ints (List.replicate c.ins.length 0)) 3)).alloc (.cells #[.slice (some ⟨w2.heap.size, 0, none⟩) c.ins.length c.ins.length] 30)) := ((Below.refl _ _).alloc (Nat.le_refl _) _).alloc (by simp) _
    have hC3 := hC.later bM
    have hW0 := hC.below.size
    have hplt := hC.box.lt
    go_upto_region 5 with fail
    obtain ⟨bm, hbm⟩ : ∃ b, Hid (w2.heap.size = b) := ⟨_, Lib.hid rfl⟩
    obtain ⟨w3, hw3⟩ : ∃ Y, (w2.alloc (.cells (ints (List.replicate c.ins.length 0)) 3)).alloc (.cells #[.slice (some ⟨w2.heap.size, 0, none⟩) c.ins.length c.ins.length] 30) = Y := ⟨_, rfl⟩
    rw [hw3] at M0 M1 bM hC3
    rw [hbm.out] at M0 M1 hW0 hplt
    have hbmW : W.heap.size ≤ bm := by rw [← hbm.out]; exact bW.size
    simp only [hw3]
    simp only [hbm.out]
    clear hw3 mk n2 hC
    have bW3 := bW.trans (bM.mono bW.size)
    rw [← counts_nil c.ins.length] at M0
    have hpb : p ≠ bm := by omega
    have hbmlt := M0.lt
    have hop := fields_op hvd.1.2.1
    have hend := endArgs_le hvd.1.1.1 hvd.1.2.2
    have hul := uses_len hvd.1.1.1 hvd.1.1.2 hend
    have hix : ∀ u ∈ allUses c, Ix u.v c.ins := fun u hu => ((values_iff (fun b hb' => (chain_at c.bk 0 _ hvd.1.1.2 _ hb').1)).1 hvd.2.2.1 u hu).1
    have hvis : VisOk 35 c bm (bm + 1) (fun us w => Box w bm 3 (ints (counts c.ins.length us)) ∧ Box w (bm + 1) 30 #[.slice (some ⟨bm, 0, none⟩) c.ins.length c.ins.length]) (fun _ => True) (fun _ => true) :=
      ⟨fun _ _ _ k kb => ⟨k.1.below kb, k.2.below kb⟩, fun us u w hp k => by
        have hu : u ∈ allUses c := hp.subset (by simp)
        obtain ⟨kk, hk, hkl⟩ := ix_nat (hix u hu)
        have hlen := hp.length_le
        rw [List.length_append] at hlen
        refine (count_any hk hkl k.1 k.2 (by omega)).mono ?_
        rintro e w' ⟨rfl, q1, q2, q3⟩
        refine ⟨rfl, q1, fun _ => ⟨?_, q3⟩, fun _ => trivial⟩
        rw [Int.toNat_natCast] at q2
        exact q2⟩
    have hcall := Lib.hid (eachUse_u hC3 hvd.1.1.1 hvd.1.1.2 hop hend (by omega) hpb hbmlt hvis ⟨M0, M1⟩)
    have m0 := M1.cell 0
    clear hvis hop hend hul hix
    go_wp2_with fail
    refine hcall.out.mono ?_
    rintro e w4 ⟨r, rfl, r1, r2, b4⟩
    have hr : r = true := by
      cases r with
      | true => rfl
      | false => obtain ⟨u, _, h2⟩ := (r2 rfl).2; cases h2
    subst hr
    obtain ⟨⟨V1, V2⟩, _⟩ := r1 rfl
    have bW4 : Below W.heap.size W w4 := bW3.trans (b4.below hbmW bW3.size)
    have v0 := V2.cell 0
    clear r1 r2 hcall m0 b4 M0 M1
    go_wp2
    refine bodyPost_ret (v := .tuple #[.slice (some ⟨bm, 0, none⟩) c.ins.length c.ins.length, .int .i64 0]) (by simp [results, Tryz.results17, go_sem]) rfl ?_
    refine ⟨some ⟨bm, 0, none⟩, c.ins.length, by simp [counts_len], by simp [counts_len], by unfold maxLen; omega, fun i hi => ⟨bm, 0, rfl, ?_⟩, bW4⟩
    rw [Nat.zero_add, V1.cell, ints_get _ _ hi]
end Go.Proofs.YtnbgadndkepomaaGreatDoor
