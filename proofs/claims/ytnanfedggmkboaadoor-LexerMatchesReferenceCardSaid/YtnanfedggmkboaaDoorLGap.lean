/- Stretches, gaps and the ends of tokens: the lexer's closures. -/
import Derived.Test.YtnanfedggmkboaaDoorLLeaf
namespace Go.Proofs.YtnanfedggmkboaaDoor
open Go.RowKit

theorem run_cons (ok : UInt8 → Bool) (s : ByteArray) (k : Nat) (h : k < s.size) : run ok (s.data.toList.drop k) = if ok s[k] then run ok (s.data.toList.drop (k + 1)) + 1 else 0 := by
  have e : s.data.toList.drop k = s[k] :: s.data.toList.drop (k + 1) := by
    rw [List.drop_eq_getElem_cons (by simpa using h)]; rfl
  rw [e]; rfl
theorem run_end (ok : UInt8 → Bool) (s : ByteArray) (k : Nat) (h : s.size ≤ k) : run ok (s.data.toList.drop k) = 0 := by
  rw [List.drop_eq_nil_of_le (by simpa using h)]; rfl
theorem run_end_le (ok : UInt8 → Bool) (s : ByteArray) (k : Nat) (h : k ≤ s.size) : k + run ok (s.data.toList.drop k) ≤ s.size := by
  have := run_le ok (s.data.toList.drop k)
  have e : s.data.toList.length = s.size := rfl
  rw [List.length_drop, e] at this; omega
theorem ret_int {k : IntKind} {a b : Int} (h : a = b) : Ending.returned (.int k a) = .returned (.int k b) := by rw [h]

set_option maxHeartbeats 800000 in
theorem stretch_mask (s : ByteArray) (k0 : Nat) (ok : UInt8 → Bool) (p q : Addr) (r : Addr) (m : Int) (w : World) (hk0 : k0 ≤ s.size) (hs : s.size ≤ 100000) (hp : w.cell? p = some (.string s)) (ht : Tab w) (hq : w.cell? q = some (.func (.func 60) #[] #[.pointer (some r)])) (hr : w.cell? r = some (.int .u8 m)) (hm : Hid (Mask m ok)) :
    Calls Tryd.prog 59 #[.int .i64 k0, .pointer (some p), .pointer (some q)] w fun e w' => e = .returned (.int .i64 ((k0 + run ok (s.data.toList.drop k0) : Nat) : Int)) ∧ ∃ n, w' = w.drewN n := by
  go_enter Tryd.func59, Tryd.ntmps59
  go_wp2
  go_loopw [0] (fun a wr => ∃ k : Nat, k0 ≤ k ∧ k ≤ s.size ∧ a = .int .i64 k ∧ Hid (k + run ok (s.data.toList.drop k) = k0 + run ok (s.data.toList.drop k0)) ∧ Drew w wr) (fun a _ => s.size - (intOf a).toNat)
  case atStart => exact ⟨k0, Nat.le_refl _, hk0, rfl, Lib.hid rfl, Drew.refl _⟩
  case round =>
    rename_i wr
    obtain ⟨k, hk1, hk2, rfl, hR, hD⟩ := hrel
    have hp' := (hD.cell p).trans hp
    have hq' := (hD.cell q).trans hq
    have hr2 := (hD.cell r).trans hr
    have ht2 := ht.later hD.below
    clear hp hq hr ht
    by_cases hlt : k < s.size
    · have hc := run_cons ok s k hlt
      by_cases hok : ok s[k] = true
      · rw [if_pos hok] at hc
        have HC := Lib.hid hc
        clear hc
        go_wp2
        go_quiet ((go_at_call 60; exact Calls.quiet_of (oneOf_any _ m ok hm r _ ht2 hr2)))
        go_wp2
        go_roundw
        case rel => exact ⟨k + 1, by omega, by omega, by go_num, Lib.hid (by have := HC.out; have := hR.out; omega), hD.more _⟩
        case measure => simp [intOf]; omega
      · have hok2 : ok s[k] = false := by simpa using hok
        rw [if_neg hok] at hc
        have HC := Lib.hid hc
        clear hc hok
        go_wp2
        go_quiet ((go_at_call 60; exact Calls.quiet_of (oneOf_any _ m ok hm r _ ht2 hr2)))
        go_wp2
        go_ret
        exact ⟨ret_int (by have := HC.out; have := hR.out; omega), hD.more _⟩
    · have HC := Lib.hid (run_end ok s k (by omega))
      go_wp2
      go_quiet (fail)
      go_wp2
      go_ret
      exact ⟨ret_int (by have := HC.out; have := hR.out; omega), hD.more _⟩

set_option maxHeartbeats 800000 in
theorem stretch_line (s : ByteArray) (k0 : Nat) (p q : Addr) (w : World) (hk0 : k0 ≤ s.size) (hs : s.size ≤ 100000) (hp : w.cell? p = some (.string s)) (hq : w.cell? q = some (.func (.func 40) #[] #[])) :
    Calls Tryd.prog 59 #[.int .i64 k0, .pointer (some p), .pointer (some q)] w fun e w' => e = .returned (.int .i64 ((k0 + run notNl (s.data.toList.drop k0) : Nat) : Int)) ∧ ∃ n, w' = w.drewN n := by
  go_enter Tryd.func59, Tryd.ntmps59
  go_wp2
  go_loopw [0] (fun a wr => ∃ k : Nat, k0 ≤ k ∧ k ≤ s.size ∧ a = .int .i64 k ∧ Hid (k + run notNl (s.data.toList.drop k) = k0 + run notNl (s.data.toList.drop k0)) ∧ Drew w wr) (fun a _ => s.size - (intOf a).toNat)
  case atStart => exact ⟨k0, Nat.le_refl _, hk0, rfl, Lib.hid rfl, Drew.refl _⟩
  case round =>
    rename_i wr
    obtain ⟨k, hk1, hk2, rfl, hR, hD⟩ := hrel
    have hp' := (hD.cell p).trans hp
    have hq' := (hD.cell q).trans hq


    clear hp hq
    by_cases hlt : k < s.size
    · have hc := run_cons notNl s k hlt
      by_cases hok : notNl s[k] = true
      · rw [if_pos hok] at hc
        have HC := Lib.hid hc
        clear hc
        go_wp2
        go_quiet ((go_at_call 40; exact Calls.quiet_of_same (notNl_any _ _)))
        go_wp2
        go_roundw
        case rel => exact ⟨k + 1, by omega, by omega, by go_num, Lib.hid (by have := HC.out; have := hR.out; omega), hD.more _⟩
        case measure => simp [intOf]; omega
      · have hok2 : notNl s[k] = false := by simpa using hok
        rw [if_neg hok] at hc
        have HC := Lib.hid hc
        clear hc hok
        go_wp2
        go_quiet ((go_at_call 40; exact Calls.quiet_of_same (notNl_any _ _)))
        go_wp2
        go_ret
        exact ⟨ret_int (by have := HC.out; have := hR.out; omega), hD.more _⟩
    · have HC := Lib.hid (run_end notNl s k (by omega))
      go_wp2
      go_quiet (fail)
      go_wp2
      go_ret
      exact ⟨ret_int (by have := HC.out; have := hR.out; omega), hD.more _⟩

theorem stretch_mask' (s : ByteArray) (k0 K : Nat) (ok : UInt8 → Bool) (p q : Addr) (r : Addr) (m : Int) (w : World) (hk0 : k0 ≤ s.size) (hs : s.size ≤ 100000) (hp : w.cell? p = some (.string s)) (ht : Tab w) (hq : w.cell? q = some (.func (.func 60) #[] #[.pointer (some r)])) (hr : w.cell? r = some (.int .u8 m)) (hm : Hid (Mask m ok)) (hK : Hid (k0 + run ok (s.data.toList.drop k0) = K)) :
    Calls Tryd.prog 59 #[.int .i64 k0, .pointer (some p), .pointer (some q)] w fun e w' => e = .returned (.int .i64 K) ∧ ∃ n, w' = w.drewN n := by
  have e := hK.out; subst e
  exact stretch_mask s k0 ok p q r m w hk0 hs hp ht hq hr hm
theorem stretch_line' (s : ByteArray) (k0 K : Nat) (p q : Addr) (w : World) (hk0 : k0 ≤ s.size) (hs : s.size ≤ 100000) (hp : w.cell? p = some (.string s)) (hq : w.cell? q = some (.func (.func 40) #[] #[])) (hK : Hid (k0 + run notNl (s.data.toList.drop k0) = K)) :
    Calls Tryd.prog 59 #[.int .i64 k0, .pointer (some p), .pointer (some q)] w fun e w' => e = .returned (.int .i64 K) ∧ ∃ n, w' = w.drewN n := by
  have e := hK.out; subst e
  exact stretch_line s k0 p q w hk0 hs hp hq

theorem gap_blanks : ∀ l, gapLen l = run isBlk l + gapLen (l.drop (run isBlk l))
  | [] => rfl
  | b :: l => by
    unfold run
    by_cases h : isBlk b = true
    · have h35 : (b.toNat == 35) = false := by
        unfold isBlk at h; simp at h ⊢; omega
      rw [if_pos h]
      have := gap_blanks l
      unfold gapLen at this ⊢
      rw [List.drop_succ_cons, gapC, h35, if_neg (by simp), if_pos h]
      omega
    · rw [if_neg h]; simp
theorem gapC_line : ∀ l, gapC true l = run notNl l + gapLen (l.drop (run notNl l))
  | [] => rfl
  | b :: l => by
    unfold run
    by_cases h : notNl b = true
    · have h10 : ¬ (b.toNat == 10) = true := by
        unfold notNl at h; simpa using h
      rw [if_pos h, gapC, if_neg h10, gapC_line l, List.drop_succ_cons]
      omega
    · have h10 : (b.toNat == 10) = true := by
        unfold notNl at h; simpa using h
      have hb : isBlk b = true := by unfold isBlk; simp at h10 ⊢; omega
      have h35 : ¬ (b.toNat == 35) = true := by simp at h10 ⊢; omega
      rw [if_neg h, gapC, if_pos h10]
      unfold gapLen
      rw [List.drop_zero, gapC, if_neg h35, if_pos hb]; omega
theorem gap_hash (b : UInt8) (l : List UInt8) (h : b.toNat = 35) : gapLen (b :: l) = run notNl (b :: l) + gapLen ((b :: l).drop (run notNl (b :: l))) := by
  have hn : notNl b = true := by unfold notNl; rw [h]; rfl
  have e : run notNl (b :: l) = run notNl l + 1 := by rw [run, if_pos hn]
  rw [e, List.drop_succ_cons]
  have := gapC_line l
  unfold gapLen at this ⊢
  rw [gapC, if_pos (by simp [h]), this]; omega
theorem gap_stop (b : UInt8) (l : List UInt8) (h : b.toNat ≠ 35) (h2 : isBlk b = false) : gapLen (b :: l) = 0 := by
  unfold gapLen
  rw [gapC, if_neg (by simpa using h), if_neg (by simp [h2])]
theorem run_stop (ok : UInt8 → Bool) : ∀ l, (hk : run ok l < l.length) → ok (l[run ok l]) = false
  | b :: l, hk => by
    by_cases h : ok b = true
    · have e : run ok (b :: l) = run ok l + 1 := by rw [run, if_pos h]
      simp only [e, List.length_cons] at hk ⊢
      simpa using run_stop ok l (by omega)
    · have e : run ok (b :: l) = 0 := by rw [run, if_neg h]
      simp only [e]
      simpa using h
theorem drop_at (s : ByteArray) (k : Nat) (h : k < s.size) : s.data.toList.drop k = s[k] :: s.data.toList.drop (k + 1) := by
  rw [List.drop_eq_getElem_cons (by simpa using h)]; rfl
theorem run_stop_at (ok : UInt8 → Bool) (s : ByteArray) (k K : Nat) (hK : k + run ok (s.data.toList.drop k) = K) (h : K < s.size) : ok s[K] = false := by
  subst hK
  have hl : s.data.toList.length = s.size := rfl
  have := run_stop ok (s.data.toList.drop k) (by rw [List.length_drop]; omega)
  rw [List.getElem_drop] at this
  exact this
theorem blanks_at (s : ByteArray) (k K : Nat) (hK : k + run isBlk (s.data.toList.drop k) = K) : k + gapLen (s.data.toList.drop k) = K + gapLen (s.data.toList.drop K) := by
  rw [gap_blanks, List.drop_drop, hK]; omega
theorem hash_at (s : ByteArray) (k K : Nat) (h : k < s.size) (h35 : s[k].toNat = 35) (hK : k + run notNl (s.data.toList.drop k) = K) : k + gapLen (s.data.toList.drop k) = K + gapLen (s.data.toList.drop K) := by
  have e := gap_hash s[k] (s.data.toList.drop (k + 1)) h35
  rw [← drop_at s k h, List.drop_drop, hK] at e
  omega
theorem stop_at (s : ByteArray) (k : Nat) (h : k < s.size) (h35 : s[k].toNat ≠ 35) (hb : isBlk s[k] = false) : gapLen (s.data.toList.drop k) = 0 := by
  rw [drop_at s k h]; exact gap_stop _ _ h35 hb
theorem gap_end (s : ByteArray) (k : Nat) (h : s.size ≤ k) : gapLen (s.data.toList.drop k) = 0 := by
  rw [List.drop_eq_nil_of_le (by simpa using h)]; rfl

/-- Where the closures that Lex makes lie, and what they hold. -/
structure EndsIn (s : ByteArray) (w : World) (gs gb gc tw tn pb qb rb pc qc pw qw rw_ pn qn rn : Addr) : Prop where
  tab : Tab w
  src : w.cell? gs = some (.string s)
  blank : w.cell? gb = some (.func (.func 59) #[] #[.pointer (some pb), .pointer (some qb)])
  line : w.cell? gc = some (.func (.func 59) #[] #[.pointer (some pc), .pointer (some qc)])
  word : w.cell? tw = some (.func (.func 59) #[] #[.pointer (some pw), .pointer (some qw)])
  numb : w.cell? tn = some (.func (.func 59) #[] #[.pointer (some pn), .pointer (some qn)])
  pb_ : w.cell? pb = some (.string s)
  qb_ : w.cell? qb = some (.func (.func 60) #[] #[.pointer (some rb)])
  rb_ : w.cell? rb = some (.int .u8 1)
  pc_ : w.cell? pc = some (.string s)
  qc_ : w.cell? qc = some (.func (.func 40) #[] #[])
  pw_ : w.cell? pw = some (.string s)
  qw_ : w.cell? qw = some (.func (.func 60) #[] #[.pointer (some rw_)])
  rww : w.cell? rw_ = some (.int .u8 6)
  pn_ : w.cell? pn = some (.string s)
  qn_ : w.cell? qn = some (.func (.func 60) #[] #[.pointer (some rn)])
  rn_ : w.cell? rn = some (.int .u8 4)

theorem EndsIn.later {s : ByteArray} {w w' : World} {gs gb gc tw tn pb qb rb pc qc pw qw rw_ pn qn rn : Addr} (h : EndsIn s w gs gb gc tw tn pb qb rb pc qc pw qw rw_ pn qn rn) (hb : Below w.heap.size w w') : EndsIn s w' gs gb gc tw tn pb qb rb pc qc pw qw rw_ pn qn rn :=
  ⟨h.tab.later hb, cell_later hb h.src, cell_later hb h.blank, cell_later hb h.line, cell_later hb h.word, cell_later hb h.numb, cell_later hb h.pb_, cell_later hb h.qb_, cell_later hb h.rb_, cell_later hb h.pc_, cell_later hb h.qc_, cell_later hb h.pw_, cell_later hb h.qw_, cell_later hb h.rww, cell_later hb h.pn_, cell_later hb h.qn_, cell_later hb h.rn_⟩

set_option maxRecDepth 100000 in
set_option maxHeartbeats 1600000 in
theorem gapEnd_any (s : ByteArray) (k0 : Nat) (w : World) {gs gb gc tw tn pb qb rb pc qc pw qw rw_ pn qn rn : Addr} (hk0 : k0 ≤ s.size) (hs : s.size ≤ 100000) (hE : EndsIn s w gs gb gc tw tn pb qb rb pc qc pw qw rw_ pn qn rn) :
    Calls Tryd.prog 41 #[.int .i64 k0, .pointer (some gb), .pointer (some gs), .pointer (some gc)] w fun e w' => e = .returned (.int .i64 ((k0 + gapLen (s.data.toList.drop k0) : Nat) : Int)) ∧ ∃ n, w' = w.drewN n := by
  obtain ⟨K, hK⟩ : ∃ K, k0 + run isBlk (s.data.toList.drop k0) = K := ⟨_, rfl⟩
  have hK2 : K ≤ s.size := by rw [← hK]; exact run_end_le _ _ _ hk0
  have hst : Hid (∀ h : K < s.size, isBlk s[K] = false) := Lib.hid fun h => run_stop_at isBlk s k0 K hK h
  have HR : Hid (K + gapLen (s.data.toList.drop K) = k0 + gapLen (s.data.toList.drop k0)) := Lib.hid (blanks_at s k0 K hK).symm
  have HK := Lib.hid hK
  clear hK
  have c1 := hE.blank
  have c2 := hE.src
  have M1 := Lib.hid mask1
  go_enter Tryd.func41, Tryd.ntmps41
  go_wp2_with (go_at_call 59; refine (stretch_mask' s k0 K isBlk pb qb rb 1 _ hk0 hs hE.pb_ hE.tab hE.qb_ hE.rb_ M1 HK).mono ?_; rintro e w' ⟨rfl, n0, rfl⟩)
  go_loopw [0] (fun a wr => ∃ k : Nat, k0 ≤ k ∧ k ≤ s.size ∧ a = .int .i64 k ∧ Hid (k + gapLen (s.data.toList.drop k) = k0 + gapLen (s.data.toList.drop k0)) ∧ Hid (∀ h : k < s.size, isBlk s[k] = false) ∧ Drew w wr) (fun a _ => s.size - (intOf a).toNat)
  case atStart => exact ⟨K, by have := HK.out; omega, hK2, rfl, HR, hst, ⟨n0, rfl⟩⟩
  case round =>
    clear HK HR hst c1 c2 hK2
    rename_i wr
    obtain ⟨k, hk1, hk2, rfl, hR, hB, hD⟩ := hrel
    have hE2 := hE.later hD.below
    clear hE
    have c1 := hE2.blank
    have c2 := hE2.src
    have c3 := hE2.line
    by_cases hlt : k < s.size
    · by_cases h35 : s[k].toNat = 35
      · obtain ⟨J, hJ⟩ : ∃ J, k + run notNl (s.data.toList.drop k) = J := ⟨_, rfl⟩
        have hJ2 : J ≤ s.size := by rw [← hJ]; exact run_end_le _ _ _ hk2
        have hJ1 : k < J := by
          rw [← hJ, run_cons notNl s k hlt, if_pos (by unfold notNl; rw [h35]; rfl)]; omega
        obtain ⟨I, hI⟩ : ∃ I, J + run isBlk (s.data.toList.drop J) = I := ⟨_, rfl⟩
        have hI2 : I ≤ s.size := by rw [← hI]; exact run_end_le _ _ _ hJ2
        have hI1 : J ≤ I := by omega
        have hst : Hid (∀ h : I < s.size, isBlk s[I] = false) := Lib.hid fun h => run_stop_at isBlk s J I hI h
        have HR : Hid (I + gapLen (s.data.toList.drop I) = k0 + gapLen (s.data.toList.drop k0)) := Lib.hid (((blanks_at s J I hI).symm.trans (hash_at s k J hlt h35 hJ).symm).trans hR.out)
        have HJ := Lib.hid hJ
        have HI := Lib.hid hI
        have t35 : ((s[k].toNat : Int) == 35) = true := by simp [h35]
        clear hJ hI h35 hR hB
        go_wp2
        go_quiet (((first
          | (go_at_call 59; (with_reducible refine Calls.quiet_of (stretch_line' s k J pc qc _ hk2 hs ?_ ?_ HJ)); exact hE2.pc_; exact hE2.qc_)
          | (go_at_call 59; (with_reducible refine Calls.quiet_of (stretch_mask' s J I isBlk pb qb rb 1 _ hJ2 hs ?_ ?_ ?_ ?_ M1 HI)); exact hE2.pb_; exact hE2.tab; exact hE2.qb_; exact hE2.rb_))))
        go_wp2
        go_roundw
        case rel => exact ⟨I, by omega, hI2, rfl, HR, hst, hD.more _⟩
        case measure => simp [intOf]; omega
      · have HG := Lib.hid (stop_at s k hlt h35 (hB.out hlt))
        have t35 : ((s[k].toNat : Int) == 35) = false := by simp; omega
        clear h35
        go_wp2
        go_ret
        exact ⟨ret_int (by have := HG.out; have := hR.out; omega), hD⟩
    · have HG := Lib.hid (gap_end s k (by omega))
      go_wp2
      go_ret
      exact ⟨ret_int (by have := HG.out; have := hR.out; omega), hD⟩
end Go.Proofs.YtnanfedggmkboaaDoor
