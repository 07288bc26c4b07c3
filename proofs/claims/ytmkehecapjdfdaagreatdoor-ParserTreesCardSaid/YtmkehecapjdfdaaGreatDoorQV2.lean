/- Joined texts: PVld4, PVld5. -/
import Derived.Test.YtmkehecapjdfdaaGreatDoorQV1

/- Whether a tree is valid. -/
namespace Go.Proofs.YtmkehecapjdfdaaGreatDoor
open Go.RowKit

def deeper (k : Nat) (d : Nat) : Nat := if sortL.getD k [] = [98] ∨ sortL.getD k [] = [101] then d + 1 else d
mutual
def validG (d : Nat) : G → Bool
  | .mk k nm pt num wid _ ks => isKindG k && (decide (deeper k.toNat d ≤ 10) && (fieldsG k.toNat nm.data.toList pt.data.toList num wid && (kidsG k.toNat (sortsS ks) && validL (deeper k.toNat d) ks)))
def validL (d : Nat) : List G → Bool
  | [] => true
  | t :: r => validG d t && validL d r
end
mutual
/-- A tree of a size that can be dealt with. -/
def okG : G → Prop
  | .mk _ nm pt num _ _ ks => nm.size ≤ 9223372036854775807 ∧ pt.size ≤ 9223372036854775807 ∧ num < 18446744073709551616 ∧ ks.length ≤ 2000 ∧ okL ks
def okL : List G → Prop
  | [] => True
  | t :: r => okG t ∧ okL r
end
theorem okL_mem : ∀ (l : List G), okL l → ∀ t ∈ l, okG t
  | [], _, t, h => by cases h
  | a :: r, hk, t, h => by
    rcases List.mem_cons.1 h with rfl | h
    · exact hk.1
    · exact okL_mem r hk.2 t h
theorem validL_get : ∀ (l : List G) (d : Nat), validL d l = true ↔ ∀ t ∈ l, validG d t = true
  | [], d => by simp [validL]
  | a :: r, d => by simp [validL, validL_get r d]
/-- What the package's variables hold. -/
def PV (w : World) : Prop := Tab w ∧ Errs w ∧ FTab w
theorem PV.later {w w' : World} (hb : Below w.heap.size w w') (h : PV w) : PV w' :=
  ⟨Tab.later hb h.1, Errs.later hb h.2.1, fun k hk => ⟨cell_later hb (h.2.2 k hk).1, cell_later hb (h.2.2 k hk).2.1, cell_later hb (h.2.2 k hk).2.2⟩⟩
def VC (t : G) : Prop := ∀ (d : Nat) (w : World) (A : Option Addr) (c : Nat), d ≤ 100 → gAt w t (.slice A t.kids.length c) → PV w →
  Calls Tryz.prog 35 #[.agg #[Value.int IntKind.i64 t.kind, Value.string t.name, Value.string t.part, Value.int IntKind.u64 t.num, Value.int IntKind.i64 t.wid, Value.int IntKind.i64 t.at_, Value.slice A t.kids.length c], .int .i64 d] w fun e w' => e = .returned (.bool (validG d t)) ∧ Below w.heap.size w w'
set_option maxRecDepth 100000 in
set_option maxHeartbeats 1600000 in
theorem closure_any {t : G} (hv : VC t) (d pd : Nat) (w : World) (A : Option Addr) (c : Nat) (hd : d ≤ 100) (hg : gAt w t (.slice A t.kids.length c)) (hp : PV w) (hc : w.cell? ⟨pd, 0, none⟩ = some (.int .i64 d)) :
    Calls Tryz.prog 76 #[.agg #[Value.int IntKind.i64 t.kind, Value.string t.name, Value.string t.part, Value.int IntKind.u64 t.num, Value.int IntKind.i64 t.wid, Value.int IntKind.i64 t.at_, Value.slice A t.kids.length c], .pointer (some ⟨pd, 0, none⟩)] w fun e w' => e = .returned (.bool (!validG d t)) ∧ Below w.heap.size w w' := by
  have bA : Below w.heap.size w (w.alloc (Obj.cells #[Value.int IntKind.i64 t.kind, Value.string t.name, Value.string t.part, Value.int IntKind.u64 t.num, Value.int IntKind.i64 t.wid, Value.int IntKind.i64 t.at_, Value.slice A t.kids.length c] 25)) := (Below.refl _ _).alloc (Nat.le_refl _) _
  have B0 := Box.new w 25 #[Value.int IntKind.i64 t.kind, Value.string t.name, Value.string t.part, Value.int IntKind.u64 t.num, Value.int IntKind.i64 t.wid, Value.int IntKind.i64 t.at_, Value.slice A t.kids.length c]
  have hcA := cell_later bA hc
  have g0 : (w.alloc (Obj.cells #[Value.int IntKind.i64 t.kind, Value.string t.name, Value.string t.part, Value.int IntKind.u64 t.num, Value.int IntKind.i64 t.wid, Value.int IntKind.i64 t.at_, Value.slice A t.kids.length c] 25)).cell? ⟨w.heap.size, 0, none⟩ = some (Value.int IntKind.i64 t.kind) := B0.cell 0
  have g1 : (w.alloc (Obj.cells #[Value.int IntKind.i64 t.kind, Value.string t.name, Value.string t.part, Value.int IntKind.u64 t.num, Value.int IntKind.i64 t.wid, Value.int IntKind.i64 t.at_, Value.slice A t.kids.length c] 25)).cell? ⟨w.heap.size, 1, none⟩ = some (Value.string t.name) := B0.cell 1
  have g2 : (w.alloc (Obj.cells #[Value.int IntKind.i64 t.kind, Value.string t.name, Value.string t.part, Value.int IntKind.u64 t.num, Value.int IntKind.i64 t.wid, Value.int IntKind.i64 t.at_, Value.slice A t.kids.length c] 25)).cell? ⟨w.heap.size, 2, none⟩ = some (Value.string t.part) := B0.cell 2
  have g3 : (w.alloc (Obj.cells #[Value.int IntKind.i64 t.kind, Value.string t.name, Value.string t.part, Value.int IntKind.u64 t.num, Value.int IntKind.i64 t.wid, Value.int IntKind.i64 t.at_, Value.slice A t.kids.length c] 25)).cell? ⟨w.heap.size, 3, none⟩ = some (Value.int IntKind.u64 t.num) := B0.cell 3
  have g4 : (w.alloc (Obj.cells #[Value.int IntKind.i64 t.kind, Value.string t.name, Value.string t.part, Value.int IntKind.u64 t.num, Value.int IntKind.i64 t.wid, Value.int IntKind.i64 t.at_, Value.slice A t.kids.length c] 25)).cell? ⟨w.heap.size, 4, none⟩ = some (Value.int IntKind.i64 t.wid) := B0.cell 4
  have g5 : (w.alloc (Obj.cells #[Value.int IntKind.i64 t.kind, Value.string t.name, Value.string t.part, Value.int IntKind.u64 t.num, Value.int IntKind.i64 t.wid, Value.int IntKind.i64 t.at_, Value.slice A t.kids.length c] 25)).cell? ⟨w.heap.size, 5, none⟩ = some (Value.int IntKind.i64 t.at_) := B0.cell 5
  have g6 : (w.alloc (Obj.cells #[Value.int IntKind.i64 t.kind, Value.string t.name, Value.string t.part, Value.int IntKind.u64 t.num, Value.int IntKind.i64 t.wid, Value.int IntKind.i64 t.at_, Value.slice A t.kids.length c] 25)).cell? ⟨w.heap.size, 6, none⟩ = some (Value.slice A t.kids.length c) := B0.cell 6
  have fz := B0.free
  go_enter Tryz.func76, Tryz.ntmps76
  go_wp2_with fail
  refine (hv d _ A c hd (gAt_later bA t _ hg) (hp.later bA)).mono ?_
  rintro e w1 ⟨rfl, b1⟩
  go_wp2
  go_ret
  exact ⟨rfl, bA.trans (b1.mono bA.size)⟩
def IxOk (b : Bool) (r : Int) : Prop := (b = true → r = -1) ∧ (b = false → 0 ≤ r)
def IxRel (W : World) (d : Nat) (l : List G) (v : Value) (wr : World) : Prop := ∃ i : Nat, v = .int .i64 i ∧ i ≤ l.length ∧ validL d (l.take i) = true ∧ Below W.heap.size W wr
set_option maxRecDepth 100000 in
set_option maxHeartbeats 3200000 in
theorem index_any (l : List G) (hv : ∀ t ∈ l, VC t) (d pd : Nat) (W : World) (A : Option Addr) (c : Nat) (hn : l.length ≤ 2000) (hd : d ≤ 100) (hr : gRow W A 0 l) (hp : PV W) (hc : W.cell? ⟨pd, 0, none⟩ = some (.int .i64 d)) :
    Calls Tryz.prog 138 #[.slice A l.length c, .func (.func 76) #[] #[.pointer (some ⟨pd, 0, none⟩)]] W fun e w' => (∃ r : Int, e = .returned (.int .i64 r) ∧ IxOk (validL d l) r) ∧ Below W.heap.size W w' := by
  go_enter Tryz.func138, Tryz.ntmps138
  go_wp2_with fail
  go_loopw [8] (fun v wr => IxRel W d l v wr) (fun v _ => l.length - iOf v)
  case atStart => exact ⟨0, rfl, Nat.zero_le _, rfl, Below.refl _ _⟩
  case round =>
    rename_i wr
    obtain ⟨i, rfl, hil, hvl, hbl⟩ := hrel
    by_cases hi2 : i < l.length
    · obtain ⟨g, o, kv, rfl, c0, c1, c2, c3, c4, c5, c6, hk⟩ := gRow_at l 0 (gRow_later hbl A 0 l hr) i hi2
      simp only [Nat.zero_add] at c0 c1 c2 c3 c4 c5 c6
      have hmem : l[i] ∈ l := List.getElem_mem hi2
      obtain ⟨t, ht⟩ : ∃ t, Hid (l[i] = t) := ⟨_, Lib.hid rfl⟩
      rw [ht.out] at c0 c1 c2 c3 c4 c5 hk hmem
      obtain ⟨A2, C2, rfl⟩ := gAt_form hk
      have hw2 : IntKind.i64.wrap ((i : Int) + 1) = ((i + 1 : Nat) : Int) := by rw [IntWalk.i64_in _ (by omega)]; omega
      have hcw := cell_later hbl hc
      have hvt : validL d (l.take (i + 1)) = validG d t := by
        rw [List.take_succ_eq_append_getElem hi2, ht.out]
        have : ∀ a, validL d a = true → validL d (a ++ [t]) = validG d t := by
          intro a
          induction a with
          | nil => intro _; simp [validL]
          | cons x r ih => intro h; simp only [validL, Bool.and_eq_true] at h; simp only [List.cons_append, validL, h.1, Bool.true_and]; exact ih h.2
        exact this _ hvl
      have hct := hv t hmem
      have hpw := hp.later hbl
      clear hv hp hc
      go_wp2_with fail
      refine (closure_any hct d pd wr A2 C2 hd hk hpw hcw).mono ?_
      rintro e w1 ⟨rfl, b1⟩
      have bl1 := hbl.trans (b1.mono hbl.size)
      cases hx : validG d t with
      | true =>
        rw [hx] at hvt
        go_wp2_with fail
        go_roundw
        case rel => exact ⟨i + 1, rfl, hi2, hvt, bl1⟩
        case measure => simp only [iOf]; omega
      | false =>
        have hF : Hid (validL d l = false) := Lib.hid (by
          cases hh : validL d l with
          | false => rfl
          | true => rw [(validL_get l d).1 hh t hmem] at hx; cases hx)
        go_wp2
        go_ret
        exact ⟨⟨_, rfl, by rw [hF.out]; exact ⟨(fun h => by cases h), fun _ => by omega⟩⟩, bl1⟩
    · have hie : i = l.length := by omega
      subst hie
      rw [List.take_length] at hvl
      have hvl := Lib.hid hvl
      go_wp2
      go_ret
      exact ⟨⟨_, rfl, by rw [hvl.out]; exact ⟨fun _ => rfl, fun h => by cases h⟩⟩, hbl⟩
set_option maxRecDepth 100000 in
theorem contains_any (l : List G) (hv : ∀ t ∈ l, VC t) (d pd : Nat) (W : World) (A : Option Addr) (c : Nat) (hn : l.length ≤ 2000) (hd : d ≤ 100) (hr : gRow W A 0 l) (hp : PV W) (hc : W.cell? ⟨pd, 0, none⟩ = some (.int .i64 d)) :
    Calls Tryz.prog 75 #[.slice A l.length c, .func (.func 76) #[] #[.pointer (some ⟨pd, 0, none⟩)]] W fun e w' => e = .returned (.bool (!validL d l)) ∧ Below W.heap.size W w' := by
  go_enter Tryz.func75, Tryz.ntmps75
  go_wp2_with fail
  refine (index_any l hv d pd W A c hn hd hr hp hc).mono ?_
  rintro e w1 ⟨⟨r, rfl, hrr⟩, b1⟩
  cases hx : validL d l with
  | true =>
    obtain rfl := hrr.1 hx
    clear hrr
    have hx := Lib.hid hx
    go_wp2
    go_ret
    exact ⟨by simp [hx.out], b1⟩
  | false =>
    have hb : decide (0 ≤ r) = true := by simpa using hrr.2 hx
    clear hrr
    have hx := Lib.hid hx
    go_wp2
    go_ret
    exact ⟨by simp [hx.out], b1⟩
set_option maxRecDepth 100000 in
set_option maxHeartbeats 6400000 in
theorem valid_step {k : Int} {nm pt : ByteArray} {num : Nat} {wid a : Int} {ks : List G} (hok : okG (.mk k nm pt num wid a ks)) (hv : ∀ t ∈ ks, VC t) : VC (.mk k nm pt num wid a ks) := by
  intro d W A c hd hg hp
  simp only [G.kind, G.name, G.part, G.num, G.wid, G.at_, G.kids] at hg ⊢
  have hmf : ∀ (fn : Fn) (first cap : Array Value) (w : World), (Instr.makeFunc fn first cap).run Tryz.prog w = .ok (.func fn first cap) w := fun _ _ _ _ => rfl
  obtain ⟨nl, rfl⟩ : ∃ l : Str, nm = ⟨l.toArray⟩ := ⟨nm.data.toList, by simp⟩
  obtain ⟨pl, rfl⟩ : ∃ l : Str, pt = ⟨l.toArray⟩ := ⟨pt.data.toList, by simp⟩
  obtain ⟨ok1, ok2, ok3, ok4, _⟩ := hok
  obtain ⟨A', c', e', _, _, hr⟩ := hg
  cases e'
  have bA : Below W.heap.size W ((W.alloc (Obj.cells #[Value.int IntKind.i64 k, Value.string ⟨nl.toArray⟩, Value.string ⟨pl.toArray⟩, Value.int IntKind.u64 num, Value.int IntKind.i64 wid, Value.int IntKind.i64 a, Value.slice A ks.length c] 25)).alloc (Obj.cells #[Value.int IntKind.i64 d] 3)) := ((Below.refl _ _).alloc (Nat.le_refl _) _).alloc (by simp) _
  have N2 := (Box.new W 25 #[Value.int IntKind.i64 k, Value.string ⟨nl.toArray⟩, Value.string ⟨pl.toArray⟩, Value.int IntKind.u64 num, Value.int IntKind.i64 wid, Value.int IntKind.i64 a, Value.slice A ks.length c]).alloc (Obj.cells #[Value.int IntKind.i64 d] 3)
  have D2 := Box.newAt (X := W.alloc (Obj.cells #[Value.int IntKind.i64 k, Value.string ⟨nl.toArray⟩, Value.string ⟨pl.toArray⟩, Value.int IntKind.u64 num, Value.int IntKind.i64 wid, Value.int IntKind.i64 a, Value.slice A ks.length c] 25)) (n := W.heap.size + 1) (by simp) 3 #[Value.int IntKind.i64 d]
  have s2 : ((W.alloc (Obj.cells #[Value.int IntKind.i64 k, Value.string ⟨nl.toArray⟩, Value.string ⟨pl.toArray⟩, Value.int IntKind.u64 num, Value.int IntKind.i64 wid, Value.int IntKind.i64 a, Value.slice A ks.length c] 25)).alloc (Obj.cells #[Value.int IntKind.i64 d] 3)).heap.size = W.heap.size + 1 + 1 := by simp
  have n0 := N2.cell 0
  obtain ⟨R, hR⟩ : ∃ R, Hid (validG d (.mk k ⟨nl.toArray⟩ ⟨pl.toArray⟩ num wid a ks) = R) := ⟨_, Lib.hid rfl⟩
  rw [hR.out]
  go_enter Tryz.func35, Tryz.ntmps35
  go_wp2_with fail
  refine (isKind_any k _).mono ?_
  rintro e w1 ⟨rfl, rfl⟩
  cases hk : isKindG k with
  | false =>
    have hF : Hid (R = false) := Lib.hid (by rw [← hR.out]; simp [validG, hk])
    go_wp2
    go_ret
    exact ⟨by rw [hF.out]; rfl, bA⟩
  | true =>
    obtain ⟨m, rfl, hm⟩ : ∃ m : Nat, k = (m : Int) ∧ m < 32 := by
      unfold isKindG at hk
      simp only [Bool.and_eq_true, decide_eq_true_eq] at hk
      exact ⟨k.toNat, by omega, by omega⟩
    have hR2 : Hid (R = (decide (deeper m d ≤ 10) && (fieldsG m nl pl num wid && (kidsG m (sortsS ks) && validL (deeper m d) ks)))) := Lib.hid (by rw [← hR.out]; simp [validG, hk])
    clear hR
    have f0 := cell_later bA (hp.2.2 m hm).1
    obtain ⟨s5, hs5⟩ : ∃ s5, Hid (sortL.getD m [] = s5) := ⟨_, Lib.hid rfl⟩
    rw [hs5.out] at f0
    clear hk
    by_cases hA : s5 = [98]
    · have e1 : (s5 == [98]) = true := by rw [hA]; rfl

      have hw1 : IntKind.i64.wrap ((d : Int) + 1) = (d : Int) + 1 := IntWalk.i64_in _ (by omega)
      have hdd : Hid (deeper m d = d + 1) := Lib.hid (by unfold deeper; rw [hs5.out, if_pos (by simp [hA])])
      have N5 := (Box.new W 25 #[Value.int IntKind.i64 m, Value.string ⟨nl.toArray⟩, Value.string ⟨pl.toArray⟩, Value.int IntKind.u64 num, Value.int IntKind.i64 wid, Value.int IntKind.i64 a, Value.slice A ks.length c]).alloc (Obj.cells #[(Value.int IntKind.i64 ((d : Int) + 1))] 3)
      have D5 := Box.newAt (X := W.alloc (Obj.cells #[Value.int IntKind.i64 m, Value.string ⟨nl.toArray⟩, Value.string ⟨pl.toArray⟩, Value.int IntKind.u64 num, Value.int IntKind.i64 wid, Value.int IntKind.i64 a, Value.slice A ks.length c] 25)) (n := W.heap.size + 1) (by simp) 3 #[(Value.int IntKind.i64 ((d : Int) + 1))]
      have b5 : Below W.heap.size W ((W.alloc (Obj.cells #[Value.int IntKind.i64 m, Value.string ⟨nl.toArray⟩, Value.string ⟨pl.toArray⟩, Value.int IntKind.u64 num, Value.int IntKind.i64 wid, Value.int IntKind.i64 a, Value.slice A ks.length c] 25)).alloc (Obj.cells #[(Value.int IntKind.i64 ((d : Int) + 1))] 3)) := ((Below.refl _ _).alloc (Nat.le_refl _) _).alloc (by simp) _
      have dfz := D2.free 0
      have dc0 := D2.cell 0
      go_upto_region 6 with fail
      obtain ⟨w5, hy⟩ : ∃ Y, ((W.alloc (Obj.cells #[Value.int IntKind.i64 m, Value.string ⟨nl.toArray⟩, Value.string ⟨pl.toArray⟩, Value.int IntKind.u64 num, Value.int IntKind.i64 wid, Value.int IntKind.i64 a, Value.slice A ks.length c] 25)).alloc (Obj.cells #[(Value.int IntKind.i64 ((d : Int) + 1))] 3)) = Y := ⟨_, rfl⟩
      rw [hy] at N5 D5 b5
      simp only [hy]
      clear hy
      have D5 : Box w5 (W.heap.size + 1) 3 #[Value.int IntKind.i64 ((d + 1 : Nat) : Int)] := D5
      have nc0 := N5.cell 0
      have nc1 := N5.cell 1
      have nc2 := N5.cell 2
      have nc3 := N5.cell 3
      have nc4 := N5.cell 4
      have nc5 := N5.cell 5
      have nc6 := N5.cell 6
      have dc := D5.cell 0
      have p5 := hp.later b5
      by_cases h10 : (d + 1) ≤ 10
      rotate_left 1
      · have hg1 : (10 : Int) < (((d + 1) : Nat) : Int) := by omega
        have hF : Hid (R = false) := Lib.hid (by rw [hR2.out, hdd.out]; simp [h10])
        go_wp2
        go_ret
        exact ⟨by rw [hF.out]; rfl, b5⟩
      have hg1 : ¬ ((10 : Int) < (((d + 1) : Nat) : Int)) := by omega
      go_wp2_with fail
      refine (fieldsFit_any m hm nl pl num wid a _ w5 ok1 ok2 p5.1 p5.2.1 p5.2.2).mono ?_
      rintro e w6 ⟨rfl, b6⟩
      have N6 := N5.below b6
      have D6 := D5.below b6
      have c6 := b5.trans (b6.mono b5.size)
      cases hfi : fieldsG m nl pl num wid with
      | false =>
        have hF : Hid (R = false) := Lib.hid (by rw [hR2.out, hfi]; simp)
        go_wp2
        go_ret
        exact ⟨by rw [hF.out]; rfl, c6⟩
      | true =>
        have mc0 := N6.cell 0
        have mc1 := N6.cell 1
        have mc2 := N6.cell 2
        have mc3 := N6.cell 3
        have mc4 := N6.cell 4
        have mc5 := N6.cell 5
        have mc6 := N6.cell 6
        go_wp2_with fail
        refine (kidsFit_any m hm _ _ num wid a ks A c w6 ok4 (gRow_later c6 A 0 ks hr) (hp.later c6).2.2).mono ?_
        rintro e w7 ⟨rfl, b7⟩
        have N7 := N6.below b7
        have D7 := D6.below b7
        have c7 := c6.trans (b7.mono c6.size)
        cases hki : kidsG m (sortsS ks) with
        | false =>
          have hF : Hid (R = false) := Lib.hid (by rw [hR2.out, hki]; simp)
          go_wp2
          go_ret
          exact ⟨by rw [hF.out]; rfl, c7⟩
        | true =>
          have kc6 := N7.cell 6
          have hF : Hid (R = validL (d + 1) ks) := Lib.hid (by rw [hR2.out, hfi, hki, hdd.out]; simp [h10])
          go_wp2_with fail
          refine (contains_any ks hv (d + 1) (W.heap.size + 1) w7 A c ok4 (by omega) (gRow_later c7 A 0 ks hr) (hp.later c7) (D7.cell 0)).mono ?_
          rintro e w8 ⟨rfl, b8⟩
          go_wp2
          go_ret
          exact ⟨by rw [hF.out]; simp, c7.trans (b8.mono c7.size)⟩
    have e1 : (s5 == [98]) = false := by simpa using hA
    by_cases hB : s5 = [101]
    · have e2 : (s5 == [101]) = true := by rw [hB]; rfl

      have hw1 : IntKind.i64.wrap ((d : Int) + 1) = (d : Int) + 1 := IntWalk.i64_in _ (by omega)
      have hdd : Hid (deeper m d = d + 1) := Lib.hid (by unfold deeper; rw [hs5.out, if_pos (by simp [hB])])
      have N5 := (Box.new W 25 #[Value.int IntKind.i64 m, Value.string ⟨nl.toArray⟩, Value.string ⟨pl.toArray⟩, Value.int IntKind.u64 num, Value.int IntKind.i64 wid, Value.int IntKind.i64 a, Value.slice A ks.length c]).alloc (Obj.cells #[(Value.int IntKind.i64 ((d : Int) + 1))] 3)
      have D5 := Box.newAt (X := W.alloc (Obj.cells #[Value.int IntKind.i64 m, Value.string ⟨nl.toArray⟩, Value.string ⟨pl.toArray⟩, Value.int IntKind.u64 num, Value.int IntKind.i64 wid, Value.int IntKind.i64 a, Value.slice A ks.length c] 25)) (n := W.heap.size + 1) (by simp) 3 #[(Value.int IntKind.i64 ((d : Int) + 1))]
      have b5 : Below W.heap.size W ((W.alloc (Obj.cells #[Value.int IntKind.i64 m, Value.string ⟨nl.toArray⟩, Value.string ⟨pl.toArray⟩, Value.int IntKind.u64 num, Value.int IntKind.i64 wid, Value.int IntKind.i64 a, Value.slice A ks.length c] 25)).alloc (Obj.cells #[(Value.int IntKind.i64 ((d : Int) + 1))] 3)) := ((Below.refl _ _).alloc (Nat.le_refl _) _).alloc (by simp) _
      have dfz := D2.free 0
      have dc0 := D2.cell 0
      go_upto_region 6 with fail
      obtain ⟨w5, hy⟩ : ∃ Y, ((W.alloc (Obj.cells #[Value.int IntKind.i64 m, Value.string ⟨nl.toArray⟩, Value.string ⟨pl.toArray⟩, Value.int IntKind.u64 num, Value.int IntKind.i64 wid, Value.int IntKind.i64 a, Value.slice A ks.length c] 25)).alloc (Obj.cells #[(Value.int IntKind.i64 ((d : Int) + 1))] 3)) = Y := ⟨_, rfl⟩
      rw [hy] at N5 D5 b5
      simp only [hy]
      clear hy
      have D5 : Box w5 (W.heap.size + 1) 3 #[Value.int IntKind.i64 ((d + 1 : Nat) : Int)] := D5
      have nc0 := N5.cell 0
      have nc1 := N5.cell 1
      have nc2 := N5.cell 2
      have nc3 := N5.cell 3
      have nc4 := N5.cell 4
      have nc5 := N5.cell 5
      have nc6 := N5.cell 6
      have dc := D5.cell 0
      have p5 := hp.later b5
      by_cases h10 : (d + 1) ≤ 10
      rotate_left 1
      · have hg1 : (10 : Int) < (((d + 1) : Nat) : Int) := by omega
        have hF : Hid (R = false) := Lib.hid (by rw [hR2.out, hdd.out]; simp [h10])
        go_wp2
        go_ret
        exact ⟨by rw [hF.out]; rfl, b5⟩
      have hg1 : ¬ ((10 : Int) < (((d + 1) : Nat) : Int)) := by omega
      go_wp2_with fail
      refine (fieldsFit_any m hm nl pl num wid a _ w5 ok1 ok2 p5.1 p5.2.1 p5.2.2).mono ?_
      rintro e w6 ⟨rfl, b6⟩
      have N6 := N5.below b6
      have D6 := D5.below b6
      have c6 := b5.trans (b6.mono b5.size)
      cases hfi : fieldsG m nl pl num wid with
      | false =>
        have hF : Hid (R = false) := Lib.hid (by rw [hR2.out, hfi]; simp)
        go_wp2
        go_ret
        exact ⟨by rw [hF.out]; rfl, c6⟩
      | true =>
        have mc0 := N6.cell 0
        have mc1 := N6.cell 1
        have mc2 := N6.cell 2
        have mc3 := N6.cell 3
        have mc4 := N6.cell 4
        have mc5 := N6.cell 5
        have mc6 := N6.cell 6
        go_wp2_with fail
        refine (kidsFit_any m hm _ _ num wid a ks A c w6 ok4 (gRow_later c6 A 0 ks hr) (hp.later c6).2.2).mono ?_
        rintro e w7 ⟨rfl, b7⟩
        have N7 := N6.below b7
        have D7 := D6.below b7
        have c7 := c6.trans (b7.mono c6.size)
        cases hki : kidsG m (sortsS ks) with
        | false =>
          have hF : Hid (R = false) := Lib.hid (by rw [hR2.out, hki]; simp)
          go_wp2
          go_ret
          exact ⟨by rw [hF.out]; rfl, c7⟩
        | true =>
          have kc6 := N7.cell 6
          have hF : Hid (R = validL (d + 1) ks) := Lib.hid (by rw [hR2.out, hfi, hki, hdd.out]; simp [h10])
          go_wp2_with fail
          refine (contains_any ks hv (d + 1) (W.heap.size + 1) w7 A c ok4 (by omega) (gRow_later c7 A 0 ks hr) (hp.later c7) (D7.cell 0)).mono ?_
          rintro e w8 ⟨rfl, b8⟩
          go_wp2
          go_ret
          exact ⟨by rw [hF.out]; simp, c7.trans (b8.mono c7.size)⟩
    have e2 : (s5 == [101]) = false := by simpa using hB

    have hdd : Hid (deeper m d = d) := Lib.hid (by unfold deeper; rw [hs5.out, if_neg (by rintro (h | h); exact hA h; exact hB h)])
    have N5 := N2
    have D5 := D2
    have b5 := bA
    go_upto_region 6 with fail
    obtain ⟨w5, hy⟩ : ∃ Y, ((W.alloc (Obj.cells #[Value.int IntKind.i64 m, Value.string ⟨nl.toArray⟩, Value.string ⟨pl.toArray⟩, Value.int IntKind.u64 num, Value.int IntKind.i64 wid, Value.int IntKind.i64 a, Value.slice A ks.length c] 25)).alloc (Obj.cells #[Value.int IntKind.i64 d] 3)) = Y := ⟨_, rfl⟩
    rw [hy] at N5 D5 b5
    simp only [hy]
    clear hy
    have nc0 := N5.cell 0
    have nc1 := N5.cell 1
    have nc2 := N5.cell 2
    have nc3 := N5.cell 3
    have nc4 := N5.cell 4
    have nc5 := N5.cell 5
    have nc6 := N5.cell 6
    have dc := D5.cell 0
    have p5 := hp.later b5
    by_cases h10 : d ≤ 10
    rotate_left 1
    · have hg1 : (10 : Int) < ((d : Nat) : Int) := by omega
      have hF : Hid (R = false) := Lib.hid (by rw [hR2.out, hdd.out]; simp [h10])
      go_wp2
      go_ret
      exact ⟨by rw [hF.out]; rfl, b5⟩
    have hg1 : ¬ ((10 : Int) < ((d : Nat) : Int)) := by omega
    go_wp2_with fail
    refine (fieldsFit_any m hm nl pl num wid a _ w5 ok1 ok2 p5.1 p5.2.1 p5.2.2).mono ?_
    rintro e w6 ⟨rfl, b6⟩
    have N6 := N5.below b6
    have D6 := D5.below b6
    have c6 := b5.trans (b6.mono b5.size)
    cases hfi : fieldsG m nl pl num wid with
    | false =>
      have hF : Hid (R = false) := Lib.hid (by rw [hR2.out, hfi]; simp)
      go_wp2
      go_ret
      exact ⟨by rw [hF.out]; rfl, c6⟩
    | true =>
      have mc0 := N6.cell 0
      have mc1 := N6.cell 1
      have mc2 := N6.cell 2
      have mc3 := N6.cell 3
      have mc4 := N6.cell 4
      have mc5 := N6.cell 5
      have mc6 := N6.cell 6
      go_wp2_with fail
      refine (kidsFit_any m hm _ _ num wid a ks A c w6 ok4 (gRow_later c6 A 0 ks hr) (hp.later c6).2.2).mono ?_
      rintro e w7 ⟨rfl, b7⟩
      have N7 := N6.below b7
      have D7 := D6.below b7
      have c7 := c6.trans (b7.mono c6.size)
      cases hki : kidsG m (sortsS ks) with
      | false =>
        have hF : Hid (R = false) := Lib.hid (by rw [hR2.out, hki]; simp)
        go_wp2
        go_ret
        exact ⟨by rw [hF.out]; rfl, c7⟩
      | true =>
        have kc6 := N7.cell 6
        have hF : Hid (R = validL d ks) := Lib.hid (by rw [hR2.out, hfi, hki, hdd.out]; simp [h10])
        go_wp2_with fail
        refine (contains_any ks hv d (W.heap.size + 1) w7 A c ok4 (by omega) (gRow_later c7 A 0 ks hr) (hp.later c7) (D7.cell 0)).mono ?_
        rintro e w8 ⟨rfl, b8⟩
        go_wp2
        go_ret
        exact ⟨by rw [hF.out]; simp, c7.trans (b8.mono c7.size)⟩
end Go.Proofs.YtmkehecapjdfdaaGreatDoor

/- Valid. -/
namespace Go.Proofs.YtmkehecapjdfdaaGreatDoor
open Go.RowKit

mutual
theorem valid_all : ∀ t : G, okG t → VC t
  | .mk _ _ _ _ _ _ ks, h => valid_step h (valids_all ks h.2.2.2.2)
theorem valids_all : ∀ l : List G, okL l → ∀ t ∈ l, VC t
  | [], _ => fun t h => by cases h
  | a :: r, hk => fun t h => by
    have h1 := valid_all a hk.1
    have h2 := valids_all r hk.2
    rcases List.mem_cons.1 h with e | e
    · rw [e]; exact h1
    · exact h2 t e
end
def validT (t : G) : Bool := t.kind == 1 && validG 0 t
set_option maxRecDepth 100000 in
set_option maxHeartbeats 1600000 in
theorem Valid_any (t : G) (hok : okG t) (w : World) (A : Option Addr) (c : Nat) (hg : gAt w t (.slice A t.kids.length c)) (hp : PV w) :
    Calls Tryz.prog 16 #[.agg #[Value.int IntKind.i64 t.kind, Value.string t.name, Value.string t.part, Value.int IntKind.u64 t.num, Value.int IntKind.i64 t.wid, Value.int IntKind.i64 t.at_, Value.slice A t.kids.length c]] w
      fun e w' => e = .returned (.bool (validT t)) ∧ Below w.heap.size w w' := by
  have bA : Below w.heap.size w (w.alloc (Obj.cells #[Value.int IntKind.i64 t.kind, Value.string t.name, Value.string t.part, Value.int IntKind.u64 t.num, Value.int IntKind.i64 t.wid, Value.int IntKind.i64 t.at_, Value.slice A t.kids.length c] 25)) := (Below.refl _ _).alloc (Nat.le_refl _) _
  have B0 := Box.new w 25 #[Value.int IntKind.i64 t.kind, Value.string t.name, Value.string t.part, Value.int IntKind.u64 t.num, Value.int IntKind.i64 t.wid, Value.int IntKind.i64 t.at_, Value.slice A t.kids.length c]
  have g0 := B0.cell 0
  have g1 := B0.cell 1
  have g2 := B0.cell 2
  have g3 := B0.cell 3
  have g4 := B0.cell 4
  have g5 := B0.cell 5
  have g6 := B0.cell 6
  have fz := B0.free
  obtain ⟨R, hR⟩ : ∃ R, Hid ((t.kind == 1 && validG 0 t) = R) := ⟨_, Lib.hid rfl⟩
  unfold validT
  rw [hR.out]
  cases hk : (t.kind == 1) with
  | false =>
    have hF : Hid (R = false) := Lib.hid (by rw [← hR.out, hk]; rfl)
    clear hR
    go_enter Tryz.func16, Tryz.ntmps16
    go_wp2
    go_ret
    exact ⟨by rw [hF.out]; rfl, bA⟩
  | true =>
    have hF : Hid (R = validG 0 t) := Lib.hid (by rw [← hR.out, hk]; rfl)
    clear hR
    go_enter Tryz.func16, Tryz.ntmps16
    go_wp2_with fail
    refine (valid_all t hok 0 _ A c (by omega) (gAt_later bA t _ hg) (hp.later bA)).mono ?_
    rintro e w1 ⟨rfl, b1⟩
    go_wp2
    go_ret
    exact ⟨by rw [hF.out]; rfl, bA.trans (b1.mono bA.size)⟩
end Go.Proofs.YtmkehecapjdfdaaGreatDoor
