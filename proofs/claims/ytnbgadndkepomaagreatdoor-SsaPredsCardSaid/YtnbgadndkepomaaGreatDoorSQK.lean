/- Joined texts: SaExC, SaCmp, SaHd. -/
import Derived.Test.YtnbgadndkepomaaGreatDoorSaUsP

/- The example of the laws' head, plainly. -/
namespace Go.Proofs.YtnbgadndkepomaaGreatDoor

def exI (w2 : Int) : List CIn := [⟨22, 8, 0, 0, 0, 0, 0, 0⟩, ⟨1, 8, 0, 0, 0, 0, 3, 0⟩, ⟨13, w2, 0, 0, 1, 0, 0, 0⟩]
def exK : List CBk := [⟨0, 3, ⟨2, 2, 1, 2, [], [], 0, 0⟩⟩, ⟨3, 3, ⟨3, 0, 0, 0, [], [], 0, 0⟩⟩, ⟨3, 3, ⟨4, 0, 0, 0, [], [], 5, 0⟩⟩]
/-- The example; its third instruction has the width w2. -/
def exC (w2 : Int) : Cd := ⟨[], [], exI w2, exK⟩
def exE : Cd := ⟨[], [], [], []⟩
theorem exE_not : ¬ ValidP exE := fun h => by
  have := h.1.1.1.2.2.1.1
  simp [exE] at this
theorem exC_succs : ∀ w2 b, succs (exC w2) b = match b with | 0 => [1, 2] | _ => []
  | _, 0 => rfl
  | _, 1 => rfl
  | _, 2 => rfl
  | _, _ + 3 => rfl
theorem exC_reach (w2 : Int) : ReachP (exC w2) := fun b hb => by
  have hb3 : b < 3 := hb
  match b, hb3 with
  | 0, _ => exact ⟨_, .start⟩
  | 1, _ => exact ⟨_, .step .start (by rw [exC_succs]; simp)⟩
  | 2, _ => exact ⟨_, .step .start (by rw [exC_succs]; simp)⟩
theorem exC_lists (w2 : Int) : ListsP (exC w2) := ⟨by simp [exC], by simp [exC], ⟨by simp [exC, exK], by simp [exC, exK]⟩, by simp [exC, exI], by simp [exC], by intro i h; simp [exC] at h⟩
theorem exC_blocks (w2 : Int) : BlocksP (exC w2) := by
  unfold BlocksP exC exK exI ChainP
  simp [ChainP]
theorem exC_par (w2 : Int) : ∀ b ∈ (exC w2).bk, parN (exC w2) b = 0 := fun b hb => by
  simp [exC, exK] at hb
  rcases hb with rfl | rfl | rfl <;> rfl
theorem exC_fields (w2 : Int) : FieldsP (exC w2) := by
  refine ⟨fun i hi => ?_, fun b hb i hi hin => ?_, fun h => exC_par w2 _ (List.getElem_mem h)⟩
  · have h3 : i < 3 := hi
    match i, h3 with
    | 0, _ => simp [exC, exI, Plc, OpP, OutP, valN, UseW, UseK, UseN]
    | 1, _ => simp [exC, exI, Plc, OpP, OutP, valN, UseW, UseK, UseN]
    | 2, _ => simp [exC, exI, Plc, OpP, OutP, valN, UseW, UseK, UseN]
  · rw [exC_par w2 b hb]
    have h3 : i < 3 := hi
    have h1 : (exC w2).ins[i].op ≠ 30 := by
      match i, h3 with
      | 0, _ => simp [exC, exI]
      | 1, _ => simp [exC, exI]
      | 2, _ => simp [exC, exI]
    have h2 := hin.1
    exact ⟨fun h => absurd h h1, fun h => by simp at h; omega⟩
theorem exC_ends (w2 : Int) : EndsP (exC w2) := fun b hb => by
  have hb2 := hb
  simp [exC, exK] at hb
  have hp := exC_par w2
  rcases hb with rfl | rfl | rfl
  · refine ⟨by simp [Plc], by simp [EndP], fun e he => ?_⟩
    simp [edges] at he
    rcases he with rfl | rfl
    · exact ⟨by simp, by simp [exC, exK], by simp, by rw [hp _ (List.getElem_mem _)]; rfl⟩
    · exact ⟨by simp, by simp [exC, exK], by simp, by rw [hp _ (List.getElem_mem _)]; rfl⟩
  · exact ⟨by simp [Plc], by simp [EndP, NoWhere], fun e he => by simp [edges] at he⟩
  · exact ⟨by simp [Plc], by simp [EndP, NoWhere], fun e he => by simp [edges] at he⟩
theorem exC_home (w2 : Int) {v : Nat} (hv : v < 3) (h : Nat) (hh : h < (exC w2).bk.length) (hin : InBk (exC w2).bk[h] v) : h = 0 := by
  have h3 : h < 3 := hh
  obtain ⟨h1, h2⟩ := hin
  match h, h3 with
  | 0, _ => rfl
  | 1, _ => simp [exC, exK] at h1 h2; omega
  | 2, _ => simp [exC, exK] at h1 h2; omega
theorem exC_use (w2 : Int) {v : Nat} {before : Int} (hv : v < 3) (hb : (v : Int) < before) : UseP (exC w2) v 0 before :=
  ⟨⟨by omega, by simp [exC, exI]; omega⟩, fun h hh hin => by
    rw [Int.toNat_natCast] at hin
    have := exC_home w2 hv h hh hin
    exact ⟨fun _ => hb, fun hn => absurd this hn⟩⟩
theorem exC_uses (w2 : Int) : allUses (exC w2) = [⟨0, 0, 2⟩, ⟨1, 0, 2⟩, ⟨2, 0, 3⟩] := rfl
theorem exC_values (w2 : Int) : ValuesP (exC w2) := by
  rw [values_iff (fun b hb => by simp [exC, exK] at hb; rcases hb with rfl | rfl | rfl <;> simp), exC_uses]
  intro u hu
  simp at hu
  rcases hu with rfl | rfl | rfl
  · exact exC_use w2 (v := 0) (by omega) (by simp)
  · exact exC_use w2 (v := 1) (by omega) (by simp)
  · exact exC_use w2 (v := 2) (by omega) (by simp)
theorem exC_instr : InstrP (exC 1) := fun i hi => by
  simp [exC, exI] at hi
  rcases hi with rfl | rfl | rfl
  · simp [InstP]
  · simp [InstP, Wid]
  · simp [InstP, Wid, wOf, exC, exI]
theorem exC_args (w2 : Int) (h : w2 = 1) : ArgsP (exC w2) := fun b hb => by
  subst h
  simp [exC, exK] at hb
  rcases hb with rfl | rfl | rfl
  · refine ⟨fun _ => by simp [wOf, exC, exI], fun e he => ?_⟩
    simp [edges] at he
    rcases he with rfl | rfl <;> exact fun _ k hk => by simp at hk
  · exact ⟨fun h => by simp at h, fun e he => by simp [edges] at he⟩
  · exact ⟨fun h => by simp at h, fun e he => by simp [edges] at he⟩
theorem exC_valid : ValidP (exC 1) := ⟨⟨⟨exC_lists 1, exC_blocks 1⟩, exC_fields 1, exC_ends 1⟩, exC_reach 1, exC_values 1, exC_instr, exC_args 1 rfl⟩
theorem exC_wrong : ¬ ValidP (exC 2) := fun h => by
  have := h.2.2.2.1 ⟨13, 2, 0, 0, 1, 0, 0, 0⟩ (by simp [exC, exI])
  simp [InstP] at this
theorem exC_order : orderE (exC 1) = ([0, 2, 1], 0) := by
  unfold orderE
  rw [if_pos exC_valid]
  rfl
theorem exC_orderW : orderE (exC 2) = ([], 1) := by
  unfold orderE
  rw [if_neg exC_wrong]
theorem exC_preds : predsE (exC 1) = ([[], [0], [0]], 0) := by
  unfold predsE
  rw [if_pos exC_valid]
  rfl
theorem exC_usesE : usesE (exC 1) = ([1, 1, 1], 0) := by
  unfold usesE
  rw [if_pos exC_valid, exC_uses]
  rfl
end Go.Proofs.YtnbgadndkepomaaGreatDoor

/- The reference's comparisons of lists. -/
namespace Go.Proofs.YtnbgadndkepomaaGreatDoor
open Go.RowKit

theorem take_eq_next {α : Type} {a b : List α} (hl : a.length = b.length) {i : Nat} (hi : i < a.length) (h : a.take i = b.take i) (e : a[i] = b[i]'(by omega)) : a.take (i + 1) = b.take (i + 1) := by
  rw [List.take_succ_eq_append_getElem hi, List.take_succ_eq_append_getElem (by omega), h, e]
noncomputable def sameB {α : Type} (a b : List α) : Bool := B (a = b)
theorem sameB_len {α : Type} {a b : List α} (h : a.length ≠ b.length) : sameB a b = false := B_not (fun e => h (by rw [e]))
theorem sameB_at {α : Type} {a b : List α} {i : Nat} (h1 : i < a.length) (h2 : i < b.length) (h : a[i] ≠ b[i]) : sameB a b = false := B_not (fun e => h (by subst e; rfl))
theorem sameB_of {α : Type} {a b : List α} (h : a = b) : sameB a b = true := B_of h
set_option maxRecDepth 100000 in
set_option maxHeartbeats 1600000 in
theorem Ints_any {W : World} (a b : List Int) (A C : Option Addr) (qa qb : Nat) (ha : IRow W A a) (hb : IRow W C b) (la : a.length ≤ qa ∧ qa ≤ maxLen) (lb : b.length ≤ qb ∧ qb ≤ maxLen) :
    Calls Tryz.prog 21 #[.slice A a.length qa, .slice C b.length qb] W fun e w' => e = .returned (.bool (sameB a b)) ∧ Below W.heap.size W w' := by
  obtain ⟨R, hR⟩ : ∃ R, Hid (sameB a b = R) := ⟨_, Lib.hid rfl⟩
  rw [hR.out]
  obtain ⟨l1, l2⟩ := la
  obtain ⟨l3, l4⟩ := lb
  unfold maxLen at l2 l4
  go_enter Tryz.func21, Tryz.ntmps21
  by_cases hl : a.length = b.length
  rotate_left 1
  · have e1 : (((a.length : Nat) : Int) != (b.length : Int)) = true := by
      have : ((a.length : Nat) : Int) ≠ (b.length : Int) := by omega
      simpa using this
    have hQ : Hid (R = false) := Lib.hid (by rw [← hR.out]; exact sameB_len hl)
    clear hl hR
    go_wp2
    go_ret
    exact ⟨by rw [hQ.out]; rfl, Below.refl _ _⟩
  have e1 : (((a.length : Nat) : Int) != (b.length : Int)) = false := by rw [hl]; simp
  replace hl := Lib.hid hl
  go_wp2_with fail
  go_loopw [5] (fun v wr => ∃ i : Nat, i ≤ a.length ∧ v = .int .i64 i ∧ Hid (a.take i = b.take i) ∧ Below W.heap.size W wr) (fun v _ => a.length - iOf v)
  case atStart => exact ⟨0, Nat.zero_le _, rfl, Lib.hid rfl, Below.refl _ _⟩
  case round =>
    obtain ⟨i, hi, rfl, hI, hB⟩ := hrel
    by_cases hlt : i < a.length
    · have hl2 : b.length = a.length := hl.out.symm
      replace hl2 := Lib.hid hl2
      obtain ⟨ga, oa, eA, ca⟩ := (ha.later hB) i hlt
      obtain ⟨gb, ob, eB, cb⟩ := (hb.later hB) i (by have := hl2.out; omega)
      have hic : (i : Int) < a.length := by omega
      have hic2 : (i : Int) < b.length := by have := hl2.out; omega
      have hwi : IntKind.i64.wrap ((i : Int) + 1) = ((i + 1 : Nat) : Int) := by rw [IntWalk.i64_in _ (by omega)]; omega
      have hnx := Lib.hid (fun e => take_eq_next hl.out hlt hI.out e)
      have hno := Lib.hid (sameB_at hlt (show i < b.length by have := hl2.out; omega))
      rw [hR.out] at hno
      clear hI
      obtain ⟨za, hza⟩ : ∃ z, Hid (a[i] = z) := ⟨_, Lib.hid rfl⟩
      obtain ⟨zb, hzb⟩ : ∃ z, Hid (b[i]'(by have := hl.out; omega) = z) := ⟨_, Lib.hid rfl⟩
      rw [hza.out] at ca hnx hno
      rw [hzb.out] at cb hnx hno
      by_cases hz : za = zb
      · have e2 : (za != zb) = false := by rw [hz]; simp
        have hn2 := Lib.hid (hnx.out hz)
        clear hz hnx hno
        go_wp2_with fail
        go_quiet (fail)
        try simp only [← eA, ← eB]
        clear eA eB ca cb
        have hB2 : Below W.heap.size W (wr.drewN nq) := hB.trans ((Drew.below ⟨nq, rfl⟩).mono hB.size)
        go_wp2_with fail
        go_roundw
        case rel => exact ⟨i + 1, hlt, by go_num, hn2, hB2⟩
        case measure => simp only [iOf]; omega
      · have e2 : (za != zb) = true := by simpa using hz
        have hQ := Lib.hid (hno.out hz)
        clear hz hnx hno hR
        go_wp2_with fail
        go_quiet (fail)
        go_wp2
        go_ret
        exact ⟨by rw [hQ.out]; rfl, hB.trans ((Drew.below ⟨_, rfl⟩ : Below wr.heap.size wr _).mono hB.size)⟩
    · have hie : i = a.length := by omega
      have hQ : Hid (R = true) := Lib.hid (by
        rw [← hR.out]
        have := hI.out
        rw [List.take_of_length_le (by omega), List.take_of_length_le (by have := hl.out; omega)] at this
        exact sameB_of this)
      clear hI hR
      subst hie
      go_wp2
      go_ret
      exact ⟨by rw [hQ.out]; rfl, hB⟩
set_option maxRecDepth 100000 in
set_option maxHeartbeats 1600000 in
theorem Lists_any {W : World} (a b : List (List Int)) (A C : Option Addr) (qa qb : Nat) (ha : LRow W A a) (hb : LRow W C b) (la : a.length ≤ qa ∧ qa ≤ maxLen) (lb : b.length ≤ qb ∧ qb ≤ maxLen) :
    Calls Tryz.prog 22 #[.slice A a.length qa, .slice C b.length qb] W fun e w' => e = .returned (.bool (sameB a b)) ∧ Below W.heap.size W w' := by
  obtain ⟨R, hR⟩ : ∃ R, Hid (sameB a b = R) := ⟨_, Lib.hid rfl⟩
  rw [hR.out]
  obtain ⟨l1, l2⟩ := la
  obtain ⟨l3, l4⟩ := lb
  unfold maxLen at l2 l4
  go_enter Tryz.func22, Tryz.ntmps22
  by_cases hl : a.length = b.length
  rotate_left 1
  · have e1 : (((a.length : Nat) : Int) != (b.length : Int)) = true := by
      have : ((a.length : Nat) : Int) ≠ (b.length : Int) := by omega
      simpa using this
    have hQ : Hid (R = false) := Lib.hid (by rw [← hR.out]; exact sameB_len hl)
    clear hl hR
    go_wp2
    go_ret
    exact ⟨by rw [hQ.out]; rfl, Below.refl _ _⟩
  have e1 : (((a.length : Nat) : Int) != (b.length : Int)) = false := by rw [hl]; simp
  replace hl := Lib.hid hl
  go_wp2_with fail
  go_loopw [5] (fun v wr => ∃ i : Nat, i ≤ a.length ∧ v = .int .i64 i ∧ Hid (a.take i = b.take i) ∧ Below W.heap.size W wr) (fun v _ => a.length - iOf v)
  case atStart => exact ⟨0, Nat.zero_le _, rfl, Lib.hid rfl, Below.refl _ _⟩
  case round =>
    obtain ⟨i, hi, rfl, hI, hB⟩ := hrel
    by_cases hlt : i < a.length
    · have hl2 : b.length = a.length := hl.out.symm
      replace hl2 := Lib.hid hl2
      obtain ⟨ga, oa, Aa, qA, eA, ca, la1, la2, hra⟩ := (ha.later hB) i hlt
      obtain ⟨gb, ob, Ab, qB, eB, cb, lb1, lb2, hrb⟩ := (hb.later hB) i (by have := hl2.out; omega)
      have hic : (i : Int) < a.length := by omega
      have hic2 : (i : Int) < b.length := by have := hl2.out; omega
      have hwi : IntKind.i64.wrap ((i : Int) + 1) = ((i + 1 : Nat) : Int) := by rw [IntWalk.i64_in _ (by omega)]; omega
      have hnx := Lib.hid (fun e => take_eq_next hl.out hlt hI.out e)
      have hno := Lib.hid (sameB_at hlt (show i < b.length by have := hl2.out; omega))
      rw [hR.out] at hno
      clear hI
      obtain ⟨za, hza⟩ : ∃ z, Hid (a[i] = z) := ⟨_, Lib.hid rfl⟩
      obtain ⟨zb, hzb⟩ : ∃ z, Hid (b[i]'(by have := hl.out; omega) = z) := ⟨_, Lib.hid rfl⟩
      rw [hza.out] at ca hnx hno la1 hra
      rw [hzb.out] at cb hnx hno lb1 hrb
      have hcl := Lib.hid (fun (w' : World) (hb' : Below wr.heap.size wr w') => Ints_any (W := w') za zb Aa Ab qA qB (hra.later hb') (hrb.later hb') ⟨la1, la2⟩ ⟨lb1, lb2⟩)
      have hq0 := Bel.refl wr
      have hmk : Hid (∀ X, Bel wr X → X.cell? ⟨ga, oa + i, none⟩ = some (.slice Aa za.length qA) ∧ X.cell? ⟨gb, ob + i, none⟩ = some (.slice Ab zb.length qB) ∧ Bel wr X) := Lib.hid (fun X hX => ⟨hX.cell ca, hX.cell cb, hX⟩)
      have hcc := hmk.out _ hq0
      clear hra hrb la1 la2 lb1 lb2 ca cb
      by_cases hz : za = zb
      · have hs := sameB_of hz
        rw [hs] at hcl
        have hn2 := Lib.hid (hnx.out hz)
        clear hz hnx hno hs
        go_wp2_with fail
        go_region_held3 (fun w' => w'.cell? ⟨ga, oa + i, none⟩ = some (.slice Aa za.length qA) ∧ w'.cell? ⟨gb, ob + i, none⟩ = some (.slice Ab zb.length qB) ∧ Bel wr w')
          ((first | assumption | (refine hmk.out _ ?_; repeat (first | assumption | refine Bel.drew ?_)))) (first | (go_at_call 21; refine (hcl.out _ (Bel.drew hq0)).mono ?_; rintro e w5 ⟨rfl, b5⟩; have hS5 : Bel wr w5 := Bel.below (Bel.drew hq0) b5))
        try simp only [← eA, ← eB]
        clear eA eB hmk hcc hcl
        have hB2 : Below W.heap.size W w5 := hB.trans (Below.mono hS5 hB.size)
        go_wp2_with fail
        go_roundw
        case rel => exact ⟨i + 1, hlt, by go_num, hn2, hB2⟩
        case measure => simp only [iOf]; omega
      · have hs : sameB za zb = false := B_not hz
        rw [hs] at hcl
        have hQ := Lib.hid (hno.out hz)
        clear hz hnx hno hs hR
        go_wp2_with fail
        go_region_held3 (fun w' => w'.cell? ⟨ga, oa + i, none⟩ = some (.slice Aa za.length qA) ∧ w'.cell? ⟨gb, ob + i, none⟩ = some (.slice Ab zb.length qB) ∧ Bel wr w')
          ((first | assumption | (refine hmk.out _ ?_; repeat (first | assumption | refine Bel.drew ?_)))) (first | (go_at_call 21; refine (hcl.out _ (Bel.drew hq0)).mono ?_; rintro e w5 ⟨rfl, b5⟩; have hS5 : Bel wr w5 := Bel.below (Bel.drew hq0) b5))
        go_wp2
        go_ret
        exact ⟨by rw [hQ.out]; rfl, hB.trans (Below.mono hS5 hB.size)⟩
    · have hie : i = a.length := by omega
      have hQ : Hid (R = true) := Lib.hid (by
        rw [← hR.out]
        have := hI.out
        rw [List.take_of_length_le (by omega), List.take_of_length_le (by have := hl.out; omega)] at this
        exact sameB_of this)
      clear hI hR
      subst hie
      go_wp2
      go_ret
      exact ⟨by rw [hQ.out]; rfl, hB⟩
end Go.Proofs.YtnbgadndkepomaaGreatDoor

/- The laws' head: the example in memory. -/
namespace Go.Proofs.YtnbgadndkepomaaGreatDoor
open Go.RowKit

def exIc (w2 : Int) : Array Value := #[.int .i64 22, .int .i64 8, .int .i64 0, .int .i64 0, .int .i64 0, .int .i64 0, .int .u64 0, .int .i64 0, .int .i64 1, .int .i64 8, .int .i64 0, .int .i64 0, .int .i64 0, .int .i64 0, .int .u64 3, .int .i64 0, .int .i64 13, .int .i64 w2, .int .i64 0, .int .i64 0, .int .i64 1, .int .i64 0, .int .u64 0, .int .i64 0]
def exKc : Array Value := #[.int .i64 0, .int .i64 3, .int .i64 2, .int .i64 2, .int .i64 1, .int .i64 2, .slice none 0 0, .slice none 0 0, .int .i64 0, .int .i64 0, .int .i64 3, .int .i64 3, .int .i64 3, .int .i64 0, .int .i64 0, .int .i64 0, .slice none 0 0, .slice none 0 0, .int .i64 0, .int .i64 0, .int .i64 3, .int .i64 3, .int .i64 4, .int .i64 0, .int .i64 0, .int .i64 0, .slice none 0 0, .slice none 0 0, .int .i64 5, .int .i64 0]
/-- Where the example lies. -/
def exSl (bi bk : Nat) : Sl := ⟨none, 0, none, 0, some ⟨bi, 0, none⟩, 3, some ⟨bk, 0, none⟩, 3⟩
theorem exC_at {w : World} {bi bk : Nat} (w2 : Int) (hi : Box w bi 47 (exIc w2)) (hk : Box w bk 43 exKc) : CdAt w (exC w2) (exSl bi bk) := by
  refine ⟨fun i h => by simp [exC] at h, fun i h => by simp [exC] at h, fun i h => ⟨bi, 0, rfl, ?_⟩, fun i h => ⟨bk, 0, none, none, 0, 0, rfl, ?_, ?_⟩, ⟨by simp [exC], by unfold maxLen; simp [exSl]⟩, ⟨by simp [exC], by unfold maxLen; simp [exSl]⟩, ⟨by simp [exC, exI, exSl], by unfold maxLen; simp [exSl]⟩, ⟨by simp [exC, exK, exSl], by unfold maxLen; simp [exSl]⟩⟩
  · have h3 : i < 3 := h
    match i, h3 with
    | 0, _ => exact ⟨hi.cell 0, hi.cell 1, hi.cell 2, hi.cell 3, hi.cell 4, hi.cell 5, hi.cell 6, hi.cell 7⟩
    | 1, _ => exact ⟨hi.cell 8, hi.cell 9, hi.cell 10, hi.cell 11, hi.cell 12, hi.cell 13, hi.cell 14, hi.cell 15⟩
    | 2, _ => exact ⟨hi.cell 16, hi.cell 17, hi.cell 18, hi.cell 19, hi.cell 20, hi.cell 21, hi.cell 22, hi.cell 23⟩
  · have h3 : i < 3 := h
    match i, h3 with
    | 0, _ => exact ⟨hk.cell 0, hk.cell 1, hk.cell 2, hk.cell 3, hk.cell 4, hk.cell 5, hk.cell 6, hk.cell 7, hk.cell 8, hk.cell 9⟩
    | 1, _ => exact ⟨hk.cell 10, hk.cell 11, hk.cell 12, hk.cell 13, hk.cell 14, hk.cell 15, hk.cell 16, hk.cell 17, hk.cell 18, hk.cell 19⟩
    | 2, _ => exact ⟨hk.cell 20, hk.cell 21, hk.cell 22, hk.cell 23, hk.cell 24, hk.cell 25, hk.cell 26, hk.cell 27, hk.cell 28, hk.cell 29⟩
  · have h3 : i < 3 := h
    have e1 : ∀ l : List Int, l.length = 0 → IRow w none l := fun l hl j hj => by omega
    match i, h3 with
    | 0, _ => exact ⟨e1 _ rfl, e1 _ rfl, ⟨by simp [exC, exK], by unfold maxLen; omega⟩, ⟨by simp [exC, exK], by unfold maxLen; omega⟩, fun _ => rfl, fun _ => rfl⟩
    | 1, _ => exact ⟨e1 _ rfl, e1 _ rfl, ⟨by simp [exC, exK], by unfold maxLen; omega⟩, ⟨by simp [exC, exK], by unfold maxLen; omega⟩, fun _ => rfl, fun _ => rfl⟩
    | 2, _ => exact ⟨e1 _ rfl, e1 _ rfl, ⟨by simp [exC, exK], by unfold maxLen; omega⟩, ⟨by simp [exC, exK], by unfold maxLen; omega⟩, fun _ => rfl, fun _ => rfl⟩
theorem exE_at (w : World) : CdAt w exE ⟨none, 0, none, 0, none, 0, none, 0⟩ :=
  ⟨fun i h => by simp [exE] at h, fun i h => by simp [exE] at h, fun i h => by simp [exE] at h, fun i h => by simp [exE] at h, ⟨by simp [exE], by unfold maxLen; simp⟩, ⟨by simp [exE], by unfold maxLen; simp⟩, ⟨by simp [exE], by unfold maxLen; simp⟩, ⟨by simp [exE], by unfold maxLen; simp⟩⟩
theorem exE_ok : exE.ok := ⟨by simp [exE], by simp [exE], by simp [exE], by simp [exE], by simp [exE], by simp [exE], by simp [exE], by simp [exE]⟩
theorem exC_ok (w2 : Int) (h : I64 w2) : (exC w2).ok := by
  have z : I64 0 := by unfold I64; omega
  refine ⟨by simp [exC], by simp [exC], fun y hy => ?_, fun y hy => ?_, by simp [exC], by simp [exC], by simp [exC, exI], by simp [exC, exK]⟩
  · simp [exC, exI] at hy
    rcases hy with rfl | rfl | rfl
    · simp [CIn.ok, I64]
    · simp [CIn.ok, I64]
    · refine ⟨by simp [I64], h, by simp [I64], by simp [I64], by simp [I64], by simp [I64], by simp, by simp [I64]⟩
  · simp [exC, exK] at hy
    rcases hy with rfl | rfl | rfl <;> simp [CBk.ok, CEn.ok, I64]
/-- What the example's call answers. -/
def ExaPost (W : World) (e : Ending) (w' : World) : Prop := ∃ bi bk, e = .returned (.agg #[.slice none 0 0, .slice none 0 0, .slice (some ⟨bi, 0, none⟩) 3 3, .slice (some ⟨bk, 0, none⟩) 3 3]) ∧ W.heap.size ≤ bi ∧ W.heap.size ≤ bk ∧ Box w' bi 47 (exIc 1) ∧ Box w' bk 43 exKc ∧ Below W.heap.size W w'
set_option maxRecDepth 100000 in
set_option maxHeartbeats 1600000 in
theorem example_any {W : World} : Calls Tryz.prog 31 #[] W (ExaPost W) := by
  have N0 := ((Box.new W 27 #[.slice none 0 0, .slice none 0 0, .slice (some ⟨W.heap.size + 1, 0, none⟩) 3 3, .slice (some ⟨W.heap.size + 1 + 1, 0, none⟩) 3 3]).alloc (.cells #[.int .i64 22, .int .i64 8, .int .i64 0, .int .i64 0, .int .i64 0, .int .i64 0, .int .u64 0, .int .i64 0, .int .i64 1, .int .i64 8, .int .i64 0, .int .i64 0, .int .i64 0, .int .i64 0, .int .u64 3, .int .i64 0, .int .i64 13, .int .i64 1, .int .i64 0, .int .i64 0, .int .i64 1, .int .i64 0, .int .u64 0, .int .i64 0] 47)).alloc (.cells #[.int .i64 0, .int .i64 3, .int .i64 2, .int .i64 2, .int .i64 1, .int .i64 2, .slice none 0 0, .slice none 0 0, .int .i64 0, .int .i64 0, .int .i64 3, .int .i64 3, .int .i64 3, .int .i64 0, .int .i64 0, .int .i64 0, .slice none 0 0, .slice none 0 0, .int .i64 0, .int .i64 0, .int .i64 3, .int .i64 3, .int .i64 4, .int .i64 0, .int .i64 0, .int .i64 0, .slice none 0 0, .slice none 0 0, .int .i64 5, .int .i64 0] 43)
  have N1 := (Box.newAt (X := W.alloc (.cells #[.slice none 0 0, .slice none 0 0, .slice (some ⟨W.heap.size + 1, 0, none⟩) 3 3, .slice (some ⟨W.heap.size + 1 + 1, 0, none⟩) 3 3] 27)) (n := W.heap.size + 1) (by simp) 47 #[.int .i64 22, .int .i64 8, .int .i64 0, .int .i64 0, .int .i64 0, .int .i64 0, .int .u64 0, .int .i64 0, .int .i64 1, .int .i64 8, .int .i64 0, .int .i64 0, .int .i64 0, .int .i64 0, .int .u64 3, .int .i64 0, .int .i64 13, .int .i64 1, .int .i64 0, .int .i64 0, .int .i64 1, .int .i64 0, .int .u64 0, .int .i64 0]).alloc (.cells #[.int .i64 0, .int .i64 3, .int .i64 2, .int .i64 2, .int .i64 1, .int .i64 2, .slice none 0 0, .slice none 0 0, .int .i64 0, .int .i64 0, .int .i64 3, .int .i64 3, .int .i64 3, .int .i64 0, .int .i64 0, .int .i64 0, .slice none 0 0, .slice none 0 0, .int .i64 0, .int .i64 0, .int .i64 3, .int .i64 3, .int .i64 4, .int .i64 0, .int .i64 0, .int .i64 0, .slice none 0 0, .slice none 0 0, .int .i64 5, .int .i64 0] 43)
  have N2 := Box.newAt (X := (W.alloc (.cells #[.slice none 0 0, .slice none 0 0, .slice (some ⟨W.heap.size + 1, 0, none⟩) 3 3, .slice (some ⟨W.heap.size + 1 + 1, 0, none⟩) 3 3] 27)).alloc (.cells #[.int .i64 22, .int .i64 8, .int .i64 0, .int .i64 0, .int .i64 0, .int .i64 0, .int .u64 0, .int .i64 0, .int .i64 1, .int .i64 8, .int .i64 0, .int .i64 0, .int .i64 0, .int .i64 0, .int .u64 3, .int .i64 0, .int .i64 13, .int .i64 1, .int .i64 0, .int .i64 0, .int .i64 1, .int .i64 0, .int .u64 0, .int .i64 0] 47)) (n := W.heap.size + 1 + 1) (by simp) 43 #[.int .i64 0, .int .i64 3, .int .i64 2, .int .i64 2, .int .i64 1, .int .i64 2, .slice none 0 0, .slice none 0 0, .int .i64 0, .int .i64 0, .int .i64 3, .int .i64 3, .int .i64 3, .int .i64 0, .int .i64 0, .int .i64 0, .slice none 0 0, .slice none 0 0, .int .i64 0, .int .i64 0, .int .i64 3, .int .i64 3, .int .i64 4, .int .i64 0, .int .i64 0, .int .i64 0, .slice none 0 0, .slice none 0 0, .int .i64 5, .int .i64 0]
  have bA : Below W.heap.size W (((W.alloc (.cells #[.slice none 0 0, .slice none 0 0, .slice (some ⟨W.heap.size + 1, 0, none⟩) 3 3, .slice (some ⟨W.heap.size + 1 + 1, 0, none⟩) 3 3] 27)).alloc (.cells #[.int .i64 22, .int .i64 8, .int .i64 0, .int .i64 0, .int .i64 0, .int .i64 0, .int .u64 0, .int .i64 0, .int .i64 1, .int .i64 8, .int .i64 0, .int .i64 0, .int .i64 0, .int .i64 0, .int .u64 3, .int .i64 0, .int .i64 13, .int .i64 1, .int .i64 0, .int .i64 0, .int .i64 1, .int .i64 0, .int .u64 0, .int .i64 0] 47)).alloc (.cells #[.int .i64 0, .int .i64 3, .int .i64 2, .int .i64 2, .int .i64 1, .int .i64 2, .slice none 0 0, .slice none 0 0, .int .i64 0, .int .i64 0, .int .i64 3, .int .i64 3, .int .i64 3, .int .i64 0, .int .i64 0, .int .i64 0, .slice none 0 0, .slice none 0 0, .int .i64 0, .int .i64 0, .int .i64 3, .int .i64 3, .int .i64 4, .int .i64 0, .int .i64 0, .int .i64 0, .slice none 0 0, .slice none 0 0, .int .i64 5, .int .i64 0] 43)) := (((Below.refl _ _).alloc (Nat.le_refl _) _).alloc (by simp) _).alloc (by simp; omega) _
  go_enter Tryz.func31, Tryz.ntmps31
  go_wp2
  generalize (((W.alloc (.cells #[.slice none 0 0, .slice none 0 0, .slice (some ⟨W.heap.size + 1, 0, none⟩) 3 3, .slice (some ⟨W.heap.size + 1 + 1, 0, none⟩) 3 3] 27)).alloc (.cells #[.int .i64 22, .int .i64 8, .int .i64 0, .int .i64 0, .int .i64 0, .int .i64 0, .int .u64 0, .int .i64 0, .int .i64 1, .int .i64 8, .int .i64 0, .int .i64 0, .int .i64 0, .int .i64 0, .int .u64 3, .int .i64 0, .int .i64 13, .int .i64 1, .int .i64 0, .int .i64 0, .int .i64 1, .int .i64 0, .int .u64 0, .int .i64 0] 47)).alloc (.cells #[.int .i64 0, .int .i64 3, .int .i64 2, .int .i64 2, .int .i64 1, .int .i64 2, .slice none 0 0, .slice none 0 0, .int .i64 0, .int .i64 0, .int .i64 3, .int .i64 3, .int .i64 3, .int .i64 0, .int .i64 0, .int .i64 0, .slice none 0 0, .slice none 0 0, .int .i64 0, .int .i64 0, .int .i64 3, .int .i64 3, .int .i64 4, .int .i64 0, .int .i64 0, .int .i64 0, .slice none 0 0, .slice none 0 0, .int .i64 5, .int .i64 0] 43)) = w9 at N0 N1 N2 bA ⊢
  have c0 := N0.cell 0
  have c1 := N0.cell 1
  have c2 := N0.cell 2
  have c3 := N0.cell 3
  refine bodyPost_ret (v := .agg #[.slice none 0 0, .slice none 0 0, .slice (some ⟨W.heap.size + 1, 0, none⟩) 3 3, .slice (some ⟨W.heap.size + 1 + 1, 0, none⟩) 3 3]) (by simp [results, Tryz.results31, go_sem, c0, c1, c2, c3]) rfl ?_
  exact ⟨W.heap.size + 1, W.heap.size + 1 + 1, rfl, by omega, by omega, N1, N2, bA⟩
section
variable {w : World} {bi bk : Nat}
abbrev exV (bi bk : Nat) : Value := .agg #[.slice none 0 0, .slice none 0 0, .slice (some ⟨bi, 0, none⟩) 3 3, .slice (some ⟨bk, 0, none⟩) 3 3]
theorem Order_ex (hi : Box w bi 47 (exIc 1)) (hk : Box w bk 43 exKc) (hv : ErrV w) : Calls Tryz.prog 13 #[exV bi bk] w (ListE w [0, 2, 1] 0) := by
  have h := Order_any (exC_at 1 hi hk) (exC_ok 1 (by unfold I64; omega)) hv
  rw [exC_order] at h
  exact h
theorem Order_wr (hi : Box w bi 47 (exIc 2)) (hk : Box w bk 43 exKc) (hv : ErrV w) : Calls Tryz.prog 13 #[exV bi bk] w (ListE w [] 1) := by
  have h := Order_any (exC_at 2 hi hk) (exC_ok 2 (by unfold I64; omega)) hv
  rw [exC_orderW] at h
  exact h
theorem Preds_ex (hi : Box w bi 47 (exIc 1)) (hk : Box w bk 43 exKc) (hv : ErrV w) : Calls Tryz.prog 15 #[exV bi bk] w (RowsE w [[], [0], [0]] 0) := by
  have h := Preds_any (exC_at 1 hi hk) (exC_ok 1 (by unfold I64; omega)) hv
  rw [exC_preds] at h
  exact h
theorem Uses_ex (hi : Box w bi 47 (exIc 1)) (hk : Box w bk 43 exKc) (hv : ErrV w) : Calls Tryz.prog 17 #[exV bi bk] w (ListE w [1, 1, 1] 0) := by
  have h := Uses_any (exC_at 1 hi hk) (exC_ok 1 (by unfold I64; omega)) hv
  rw [exC_usesE] at h
  exact h
theorem Valid_ex (hi : Box w bi 47 (exIc 1)) (hk : Box w bk 43 exKc) (hv : ErrV w) : Calls Tryz.prog 19 #[exV bi bk] w fun e w' => e = .returned (.bool true) ∧ Below w.heap.size w w' := by
  have h := Valid_any (exC_at 1 hi hk) (exC_ok 1 (by unfold I64; omega)) hv
  rw [B_of exC_valid] at h
  exact h
theorem Valid_wr (hi : Box w bi 47 (exIc 2)) (hk : Box w bk 43 exKc) (hv : ErrV w) : Calls Tryz.prog 19 #[exV bi bk] w fun e w' => e = .returned (.bool false) ∧ Below w.heap.size w w' := by
  have h := Valid_any (exC_at 2 hi hk) (exC_ok 2 (by unfold I64; omega)) hv
  rw [B_not exC_wrong] at h
  exact h
theorem Valid_em (hv : ErrV w) : Calls Tryz.prog 19 #[.agg #[.slice none 0 0, .slice none 0 0, .slice none 0 0, .slice none 0 0]] w fun e w' => e = .returned (.bool false) ∧ Below w.heap.size w w' := by
  have h := Valid_any (exE_at w) exE_ok hv
  rw [B_not exE_not] at h
  exact h
end
end Go.Proofs.YtnbgadndkepomaaGreatDoor
