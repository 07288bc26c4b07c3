/- Joined texts: LGap, LSign. -/
import Derived.Test.YtmkehecapjdfdaaGreatDoorQB2

/- Stretches, gaps and the ends of tokens: the lexer's closures. -/
namespace Go.Proofs.YtmkehecapjdfdaaGreatDoor
open Go.RowKit

theorem run_cons (ok : UInt8 → Bool) (s : ByteArray) (k : Nat) (h : k < s.size) : run ok (s.data.toList.drop k) = if ok s[k] then run ok (s.data.toList.drop (k + 1)) + 1 else 0 := by
  have e : s.data.toList.drop k = s[k] :: s.data.toList.drop (k + 1) := by
    rw [List.drop_eq_getElem_cons (by simpa using h)]; rfl
  rw [e]; rfl
theorem run_end (ok : UInt8 → Bool) (s : ByteArray) (k : Nat) (h : s.size ≤ k) : run ok (s.data.toList.drop k) = 0 := by
  rw [List.drop_eq_nil_of_le (by simpa using h)]; rfl
theorem run_end_le (ok : UInt8 → Bool) (s : ByteArray) (k : Nat) (h : k ≤ s.size) : k + run ok (s.data.toList.drop k) ≤ s.size := by
  have := run_le ok (s.data.toList.drop k)
  have e : s.data.toList.length = s.size := rfl
  rw [List.length_drop, e] at this; omega
theorem ret_int {k : IntKind} {a b : Int} (h : a = b) : Ending.returned (.int k a) = .returned (.int k b) := by rw [h]

set_option maxHeartbeats 800000 in
theorem stretch_mask (s : ByteArray) (k0 : Nat) (ok : UInt8 → Bool) (p q : Addr) (r : Addr) (m : Int) (w : World) (hk0 : k0 ≤ s.size) (hs : s.size ≤ 100000) (hp : w.cell? p = some (.string s)) (ht : Tab w) (hq : w.cell? q = some (.func (.func 150) #[] #[.pointer (some r)])) (hr : w.cell? r = some (.int .u8 m)) (hm : Hid (Mask m ok)) :
    Calls Tryz.prog 149 #[.int .i64 k0, .pointer (some p), .pointer (some q)] w fun e w' => e = .returned (.int .i64 ((k0 + run ok (s.data.toList.drop k0) : Nat) : Int)) ∧ ∃ n, w' = w.drewN n := by
  go_enter Tryz.func149, Tryz.ntmps149
  go_wp2
  go_loopw [0] (fun a wr => ∃ k : Nat, k0 ≤ k ∧ k ≤ s.size ∧ a = .int .i64 k ∧ Hid (k + run ok (s.data.toList.drop k) = k0 + run ok (s.data.toList.drop k0)) ∧ Drew w wr) (fun a _ => s.size - (intOf a).toNat)
  case atStart => exact ⟨k0, Nat.le_refl _, hk0, rfl, Lib.hid rfl, Drew.refl _⟩
  case round =>
    rename_i wr
    obtain ⟨k, hk1, hk2, rfl, hR, hD⟩ := hrel
    have hp' := (hD.cell p).trans hp
    have hq' := (hD.cell q).trans hq
    have hr2 := (hD.cell r).trans hr
    have ht2 := ht.later hD.below
    clear hp hq hr ht
    by_cases hlt : k < s.size
    · have hc := run_cons ok s k hlt
      by_cases hok : ok s[k] = true
      · rw [if_pos hok] at hc
        have HC := Lib.hid hc
        clear hc
        go_wp2
        go_quiet ((go_at_call 150; exact Calls.quiet_of (oneOf_any _ m ok hm r _ ht2 hr2)))
        go_wp2
        go_roundw
        case rel => exact ⟨k + 1, by omega, by omega, by go_num, Lib.hid (by have := HC.out; have := hR.out; omega), hD.more _⟩
        case measure => simp [intOf]; omega
      · have hok2 : ok s[k] = false := by simpa using hok
        rw [if_neg hok] at hc
        have HC := Lib.hid hc
        clear hc hok
        go_wp2
        go_quiet ((go_at_call 150; exact Calls.quiet_of (oneOf_any _ m ok hm r _ ht2 hr2)))
        go_wp2
        go_ret
        exact ⟨ret_int (by have := HC.out; have := hR.out; omega), hD.more _⟩
    · have HC := Lib.hid (run_end ok s k (by omega))
      go_wp2
      go_quiet (fail)
      go_wp2
      go_ret
      exact ⟨ret_int (by have := HC.out; have := hR.out; omega), hD.more _⟩

set_option maxHeartbeats 800000 in
theorem stretch_line (s : ByteArray) (k0 : Nat) (p q : Addr) (w : World) (hk0 : k0 ≤ s.size) (hs : s.size ≤ 100000) (hp : w.cell? p = some (.string s)) (hq : w.cell? q = some (.func (.func 93) #[] #[])) :
    Calls Tryz.prog 149 #[.int .i64 k0, .pointer (some p), .pointer (some q)] w fun e w' => e = .returned (.int .i64 ((k0 + run notNl (s.data.toList.drop k0) : Nat) : Int)) ∧ ∃ n, w' = w.drewN n := by
  go_enter Tryz.func149, Tryz.ntmps149
  go_wp2
  go_loopw [0] (fun a wr => ∃ k : Nat, k0 ≤ k ∧ k ≤ s.size ∧ a = .int .i64 k ∧ Hid (k + run notNl (s.data.toList.drop k) = k0 + run notNl (s.data.toList.drop k0)) ∧ Drew w wr) (fun a _ => s.size - (intOf a).toNat)
  case atStart => exact ⟨k0, Nat.le_refl _, hk0, rfl, Lib.hid rfl, Drew.refl _⟩
  case round =>
    rename_i wr
    obtain ⟨k, hk1, hk2, rfl, hR, hD⟩ := hrel
    have hp' := (hD.cell p).trans hp
    have hq' := (hD.cell q).trans hq


    clear hp hq
    by_cases hlt : k < s.size
    · have hc := run_cons notNl s k hlt
      by_cases hok : notNl s[k] = true
      · rw [if_pos hok] at hc
        have HC := Lib.hid hc
        clear hc
        go_wp2
        go_quiet ((go_at_call 93; exact Calls.quiet_of_same (notNl_any _ _)))
        go_wp2
        go_roundw
        case rel => exact ⟨k + 1, by omega, by omega, by go_num, Lib.hid (by have := HC.out; have := hR.out; omega), hD.more _⟩
        case measure => simp [intOf]; omega
      · have hok2 : notNl s[k] = false := by simpa using hok
        rw [if_neg hok] at hc
        have HC := Lib.hid hc
        clear hc hok
        go_wp2
        go_quiet ((go_at_call 93; exact Calls.quiet_of_same (notNl_any _ _)))
        go_wp2
        go_ret
        exact ⟨ret_int (by have := HC.out; have := hR.out; omega), hD.more _⟩
    · have HC := Lib.hid (run_end notNl s k (by omega))
      go_wp2
      go_quiet (fail)
      go_wp2
      go_ret
      exact ⟨ret_int (by have := HC.out; have := hR.out; omega), hD.more _⟩

theorem stretch_mask' (s : ByteArray) (k0 K : Nat) (ok : UInt8 → Bool) (p q : Addr) (r : Addr) (m : Int) (w : World) (hk0 : k0 ≤ s.size) (hs : s.size ≤ 100000) (hp : w.cell? p = some (.string s)) (ht : Tab w) (hq : w.cell? q = some (.func (.func 150) #[] #[.pointer (some r)])) (hr : w.cell? r = some (.int .u8 m)) (hm : Hid (Mask m ok)) (hK : Hid (k0 + run ok (s.data.toList.drop k0) = K)) :
    Calls Tryz.prog 149 #[.int .i64 k0, .pointer (some p), .pointer (some q)] w fun e w' => e = .returned (.int .i64 K) ∧ ∃ n, w' = w.drewN n := by
  have e := hK.out; subst e
  exact stretch_mask s k0 ok p q r m w hk0 hs hp ht hq hr hm
theorem stretch_line' (s : ByteArray) (k0 K : Nat) (p q : Addr) (w : World) (hk0 : k0 ≤ s.size) (hs : s.size ≤ 100000) (hp : w.cell? p = some (.string s)) (hq : w.cell? q = some (.func (.func 93) #[] #[])) (hK : Hid (k0 + run notNl (s.data.toList.drop k0) = K)) :
    Calls Tryz.prog 149 #[.int .i64 k0, .pointer (some p), .pointer (some q)] w fun e w' => e = .returned (.int .i64 K) ∧ ∃ n, w' = w.drewN n := by
  have e := hK.out; subst e
  exact stretch_line s k0 p q w hk0 hs hp hq

theorem gap_blanks : ∀ l, gapLen l = run isBlk l + gapLen (l.drop (run isBlk l))
  | [] => rfl
  | b :: l => by
    unfold run
    by_cases h : isBlk b = true
    · have h35 : (b.toNat == 35) = false := by
        unfold isBlk at h; simp at h ⊢; omega
      rw [if_pos h]
      have := gap_blanks l
      unfold gapLen at this ⊢
      rw [List.drop_succ_cons, gapC, h35, if_neg (by simp), if_pos h]
      omega
    · rw [if_neg h]; simp
theorem gapC_line : ∀ l, gapC true l = run notNl l + gapLen (l.drop (run notNl l))
  | [] => rfl
  | b :: l => by
    unfold run
    by_cases h : notNl b = true
    · have h10 : ¬ (b.toNat == 10) = true := by
        unfold notNl at h; simpa using h
      rw [if_pos h, gapC, if_neg h10, gapC_line l, List.drop_succ_cons]
      omega
    · have h10 : (b.toNat == 10) = true := by
        unfold notNl at h; simpa using h
      have hb : isBlk b = true := by unfold isBlk; simp at h10 ⊢; omega
      have h35 : ¬ (b.toNat == 35) = true := by simp at h10 ⊢; omega
      rw [if_neg h, gapC, if_pos h10]
      unfold gapLen
      rw [List.drop_zero, gapC, if_neg h35, if_pos hb]; omega
theorem gap_hash (b : UInt8) (l : List UInt8) (h : b.toNat = 35) : gapLen (b :: l) = run notNl (b :: l) + gapLen ((b :: l).drop (run notNl (b :: l))) := by
  have hn : notNl b = true := by unfold notNl; rw [h]; rfl
  have e : run notNl (b :: l) = run notNl l + 1 := by rw [run, if_pos hn]
  rw [e, List.drop_succ_cons]
  have := gapC_line l
  unfold gapLen at this ⊢
  rw [gapC, if_pos (by simp [h]), this]; omega
theorem gap_stop (b : UInt8) (l : List UInt8) (h : b.toNat ≠ 35) (h2 : isBlk b = false) : gapLen (b :: l) = 0 := by
  unfold gapLen
  rw [gapC, if_neg (by simpa using h), if_neg (by simp [h2])]
theorem run_stop (ok : UInt8 → Bool) : ∀ l, (hk : run ok l < l.length) → ok (l[run ok l]) = false
  | b :: l, hk => by
    by_cases h : ok b = true
    · have e : run ok (b :: l) = run ok l + 1 := by rw [run, if_pos h]
      simp only [e, List.length_cons] at hk ⊢
      simpa using run_stop ok l (by omega)
    · have e : run ok (b :: l) = 0 := by rw [run, if_neg h]
      simp only [e]
      simpa using h
theorem drop_at (s : ByteArray) (k : Nat) (h : k < s.size) : s.data.toList.drop k = s[k] :: s.data.toList.drop (k + 1) := by
  rw [List.drop_eq_getElem_cons (by simpa using h)]; rfl
theorem run_stop_at (ok : UInt8 → Bool) (s : ByteArray) (k K : Nat) (hK : k + run ok (s.data.toList.drop k) = K) (h : K < s.size) : ok s[K] = false := by
  subst hK
  have hl : s.data.toList.length = s.size := rfl
  have := run_stop ok (s.data.toList.drop k) (by rw [List.length_drop]; omega)
  rw [List.getElem_drop] at this
  exact this
theorem blanks_at (s : ByteArray) (k K : Nat) (hK : k + run isBlk (s.data.toList.drop k) = K) : k + gapLen (s.data.toList.drop k) = K + gapLen (s.data.toList.drop K) := by
  rw [gap_blanks, List.drop_drop, hK]; omega
theorem hash_at (s : ByteArray) (k K : Nat) (h : k < s.size) (h35 : s[k].toNat = 35) (hK : k + run notNl (s.data.toList.drop k) = K) : k + gapLen (s.data.toList.drop k) = K + gapLen (s.data.toList.drop K) := by
  have e := gap_hash s[k] (s.data.toList.drop (k + 1)) h35
  rw [← drop_at s k h, List.drop_drop, hK] at e
  omega
theorem stop_at (s : ByteArray) (k : Nat) (h : k < s.size) (h35 : s[k].toNat ≠ 35) (hb : isBlk s[k] = false) : gapLen (s.data.toList.drop k) = 0 := by
  rw [drop_at s k h]; exact gap_stop _ _ h35 hb
theorem gap_end (s : ByteArray) (k : Nat) (h : s.size ≤ k) : gapLen (s.data.toList.drop k) = 0 := by
  rw [List.drop_eq_nil_of_le (by simpa using h)]; rfl

/-- Where the closures that Lex makes lie, and what they hold. -/
structure EndsIn (s : ByteArray) (w : World) (gs gb gc tw tn pb qb rb pc qc pw qw rw_ pn qn rn : Addr) : Prop where
  tab : Tab w
  src : w.cell? gs = some (.string s)
  blank : w.cell? gb = some (.func (.func 149) #[] #[.pointer (some pb), .pointer (some qb)])
  line : w.cell? gc = some (.func (.func 149) #[] #[.pointer (some pc), .pointer (some qc)])
  word : w.cell? tw = some (.func (.func 149) #[] #[.pointer (some pw), .pointer (some qw)])
  numb : w.cell? tn = some (.func (.func 149) #[] #[.pointer (some pn), .pointer (some qn)])
  pb_ : w.cell? pb = some (.string s)
  qb_ : w.cell? qb = some (.func (.func 150) #[] #[.pointer (some rb)])
  rb_ : w.cell? rb = some (.int .u8 1)
  pc_ : w.cell? pc = some (.string s)
  qc_ : w.cell? qc = some (.func (.func 93) #[] #[])
  pw_ : w.cell? pw = some (.string s)
  qw_ : w.cell? qw = some (.func (.func 150) #[] #[.pointer (some rw_)])
  rww : w.cell? rw_ = some (.int .u8 6)
  pn_ : w.cell? pn = some (.string s)
  qn_ : w.cell? qn = some (.func (.func 150) #[] #[.pointer (some rn)])
  rn_ : w.cell? rn = some (.int .u8 4)

theorem EndsIn.later {s : ByteArray} {w w' : World} {gs gb gc tw tn pb qb rb pc qc pw qw rw_ pn qn rn : Addr} (h : EndsIn s w gs gb gc tw tn pb qb rb pc qc pw qw rw_ pn qn rn) (hb : Below w.heap.size w w') : EndsIn s w' gs gb gc tw tn pb qb rb pc qc pw qw rw_ pn qn rn :=
  ⟨h.tab.later hb, cell_later hb h.src, cell_later hb h.blank, cell_later hb h.line, cell_later hb h.word, cell_later hb h.numb, cell_later hb h.pb_, cell_later hb h.qb_, cell_later hb h.rb_, cell_later hb h.pc_, cell_later hb h.qc_, cell_later hb h.pw_, cell_later hb h.qw_, cell_later hb h.rww, cell_later hb h.pn_, cell_later hb h.qn_, cell_later hb h.rn_⟩

set_option maxRecDepth 100000 in
set_option maxHeartbeats 1600000 in
theorem gapEnd_any (s : ByteArray) (k0 : Nat) (w : World) {gs gb gc tw tn pb qb rb pc qc pw qw rw_ pn qn rn : Addr} (hk0 : k0 ≤ s.size) (hs : s.size ≤ 100000) (hE : EndsIn s w gs gb gc tw tn pb qb rb pc qc pw qw rw_ pn qn rn) :
    Calls Tryz.prog 94 #[.int .i64 k0, .pointer (some gb), .pointer (some gs), .pointer (some gc)] w fun e w' => e = .returned (.int .i64 ((k0 + gapLen (s.data.toList.drop k0) : Nat) : Int)) ∧ ∃ n, w' = w.drewN n := by
  obtain ⟨K, hK⟩ : ∃ K, k0 + run isBlk (s.data.toList.drop k0) = K := ⟨_, rfl⟩
  have hK2 : K ≤ s.size := by rw [← hK]; exact run_end_le _ _ _ hk0
  have hst : Hid (∀ h : K < s.size, isBlk s[K] = false) := Lib.hid fun h => run_stop_at isBlk s k0 K hK h
  have HR : Hid (K + gapLen (s.data.toList.drop K) = k0 + gapLen (s.data.toList.drop k0)) := Lib.hid (blanks_at s k0 K hK).symm
  have HK := Lib.hid hK
  clear hK
  have c1 := hE.blank
  have c2 := hE.src
  have M1 := Lib.hid mask1
  go_enter Tryz.func94, Tryz.ntmps94
  go_wp2_with (go_at_call 149; refine (stretch_mask' s k0 K isBlk pb qb rb 1 _ hk0 hs hE.pb_ hE.tab hE.qb_ hE.rb_ M1 HK).mono ?_; rintro e w' ⟨rfl, n0, rfl⟩)
  go_loopw [0] (fun a wr => ∃ k : Nat, k0 ≤ k ∧ k ≤ s.size ∧ a = .int .i64 k ∧ Hid (k + gapLen (s.data.toList.drop k) = k0 + gapLen (s.data.toList.drop k0)) ∧ Hid (∀ h : k < s.size, isBlk s[k] = false) ∧ Drew w wr) (fun a _ => s.size - (intOf a).toNat)
  case atStart => exact ⟨K, by have := HK.out; omega, hK2, rfl, HR, hst, ⟨n0, rfl⟩⟩
  case round =>
    clear HK HR hst c1 c2 hK2
    rename_i wr
    obtain ⟨k, hk1, hk2, rfl, hR, hB, hD⟩ := hrel
    have hE2 := hE.later hD.below
    clear hE
    have c1 := hE2.blank
    have c2 := hE2.src
    have c3 := hE2.line
    by_cases hlt : k < s.size
    · by_cases h35 : s[k].toNat = 35
      · obtain ⟨J, hJ⟩ : ∃ J, k + run notNl (s.data.toList.drop k) = J := ⟨_, rfl⟩
        have hJ2 : J ≤ s.size := by rw [← hJ]; exact run_end_le _ _ _ hk2
        have hJ1 : k < J := by
          rw [← hJ, run_cons notNl s k hlt, if_pos (by unfold notNl; rw [h35]; rfl)]; omega
        obtain ⟨I, hI⟩ : ∃ I, J + run isBlk (s.data.toList.drop J) = I := ⟨_, rfl⟩
        have hI2 : I ≤ s.size := by rw [← hI]; exact run_end_le _ _ _ hJ2
        have hI1 : J ≤ I := by omega
        have hst : Hid (∀ h : I < s.size, isBlk s[I] = false) := Lib.hid fun h => run_stop_at isBlk s J I hI h
        have HR : Hid (I + gapLen (s.data.toList.drop I) = k0 + gapLen (s.data.toList.drop k0)) := Lib.hid (((blanks_at s J I hI).symm.trans (hash_at s k J hlt h35 hJ).symm).trans hR.out)
        have HJ := Lib.hid hJ
        have HI := Lib.hid hI
        have t35 : ((s[k].toNat : Int) == 35) = true := by simp [h35]
        clear hJ hI h35 hR hB
        go_wp2
        go_quiet (((first
          | (go_at_call 149; (with_reducible refine Calls.quiet_of (stretch_line' s k J pc qc _ hk2 hs ?_ ?_ HJ)); exact hE2.pc_; exact hE2.qc_)
          | (go_at_call 149; (with_reducible refine Calls.quiet_of (stretch_mask' s J I isBlk pb qb rb 1 _ hJ2 hs ?_ ?_ ?_ ?_ M1 HI)); exact hE2.pb_; exact hE2.tab; exact hE2.qb_; exact hE2.rb_))))
        go_wp2
        go_roundw
        case rel => exact ⟨I, by omega, hI2, rfl, HR, hst, hD.more _⟩
        case measure => simp [intOf]; omega
      · have HG := Lib.hid (stop_at s k hlt h35 (hB.out hlt))
        have t35 : ((s[k].toNat : Int) == 35) = false := by simp; omega
        clear h35
        go_wp2
        go_ret
        exact ⟨ret_int (by have := HG.out; have := hR.out; omega), hD⟩
    · have HG := Lib.hid (gap_end s k (by omega))
      go_wp2
      go_ret
      exact ⟨ret_int (by have := HG.out; have := hR.out; omega), hD⟩
end Go.Proofs.YtmkehecapjdfdaaGreatDoor

/- The length of a sign; the end of a token. -/
namespace Go.Proofs.YtmkehecapjdfdaaGreatDoor
open Go.RowKit

def signV (a b c d e : Bool) : Nat := if (a && b) || (c && d) then 2 else if e then 1 else 0
theorem int_beq (a b : Nat) : ((a : Int) == (b : Int)) = (a == b) := by rw [Bool.eq_iff_iff]; simp; omega
theorem u8_beq (a b : UInt8) : (a == b) = (a.toNat == b.toNat) := by
  rw [Bool.eq_iff_iff]; simp [UInt8.toNat_inj]
theorem sign_two (s : ByteArray) (h : 1 < s.size) : signLen s.data.toList = signV (s[1].toNat == 61) (isEq (s[0]'(by omega))) (s[1] == (s[0]'(by omega))) (isDbl (s[0]'(by omega))) (isSgn (s[0]'(by omega))) := by
  have e : s.data.toList = (s[0]'(by omega)) :: s[1] :: s.data.toList.drop 2 := by
    have e0 := drop_at s 0 (by omega)
    have e1 := drop_at s 1 h
    rw [List.drop_zero] at e0
    rw [e0, e1]; simp
  rw [e]; rfl
theorem sign_one (s : ByteArray) (h0 : 0 < s.size) (h : ¬ 1 < s.size) : signLen s.data.toList = signV false false false false (isSgn s[0]) := by
  have e : s.data.toList = [s[0]] := by
    have e0 := drop_at s 0 h0
    rw [List.drop_zero, List.drop_eq_nil_of_le (show s.data.toList.length ≤ 0 + 1 by show s.size ≤ 1; omega)] at e0
    exact e0
  rw [e]; rfl

set_option maxHeartbeats 4000000 in
theorem lsign_any (s : ByteArray) (w : World) (h0 : 0 < s.size) (hs : s.size ≤ 100000) (ht : Tab w) :
    Calls Tryz.prog 97 #[.string s] w fun e w' => e = .returned (.int .i64 ((signLen s.data.toList : Nat) : Int)) ∧ w' = w := by
  have hb0 : s[0].toNat < 256 := s[0].toNat_lt
  have m16 := mask16.at_ s[0]
  have m32 := mask32.at_ s[0]
  have m8 := mask8.at_ s[0]
  by_cases h1 : 1 < s.size
  · have E := sign_two s h1
    have f1 : ((s[1].toNat : Int) == 61) = (s[1].toNat == 61) := int_beq s[1].toNat 61
    have f2 : ((s[1].toNat : Int) == (s[0].toNat : Int)) = (s[1] == s[0]) := (int_beq s[1].toNat s[0].toNat).trans (u8_beq s[1] s[0]).symm
    generalize isEq s[0] = b at *
    generalize isDbl s[0] = d at *
    generalize isSgn s[0] = e at *
    generalize (s[1].toNat == 61) = a at *
    generalize (s[1] == s[0]) = c at *
    cases a
    · clear m16
      cases c
      · clear m32
        have E2 : signLen s.data.toList = signV false false false false e := E
        clear E
        cases e
        all_goals
          have HE := Lib.hid E2
          clear E2
          go_enter Tryz.func97, Tryz.ntmps97
          go_wp2_with (go_at_call 96; refine (roles_any _ hb0 _ ht).mono ?_; rintro e w' ⟨rfl, rfl⟩)
          go_ret
          exact ⟨ret_int (by rw [HE.out]; rfl), rfl⟩
      · cases d
        · have E2 : signLen s.data.toList = signV false false false false e := E
          clear E
          cases e
          all_goals
            have HE := Lib.hid E2
            clear E2
            go_enter Tryz.func97, Tryz.ntmps97
            go_wp2_with (go_at_call 96; refine (roles_any _ hb0 _ ht).mono ?_; rintro e w' ⟨rfl, rfl⟩)
            go_ret
            exact ⟨ret_int (by rw [HE.out]; rfl), rfl⟩
        · clear m8
          have HE : Hid (signLen s.data.toList = 2) := Lib.hid E
          clear E
          go_enter Tryz.func97, Tryz.ntmps97
          go_wp2_with (go_at_call 96; refine (roles_any _ hb0 _ ht).mono ?_; rintro e w' ⟨rfl, rfl⟩)
          go_ret
          exact ⟨ret_int (by rw [HE.out]; rfl), rfl⟩
    · cases b
      · cases c
        · clear m32
          have E2 : signLen s.data.toList = signV false false false false e := E
          clear E
          cases e
          all_goals
            have HE := Lib.hid E2
            clear E2
            go_enter Tryz.func97, Tryz.ntmps97
            go_wp2_with (go_at_call 96; refine (roles_any _ hb0 _ ht).mono ?_; rintro e w' ⟨rfl, rfl⟩)
            go_ret
            exact ⟨ret_int (by rw [HE.out]; rfl), rfl⟩
        · cases d
          · have E2 : signLen s.data.toList = signV false false false false e := E
            clear E
            cases e
            all_goals
              have HE := Lib.hid E2
              clear E2
              go_enter Tryz.func97, Tryz.ntmps97
              go_wp2_with (go_at_call 96; refine (roles_any _ hb0 _ ht).mono ?_; rintro e w' ⟨rfl, rfl⟩)
              go_ret
              exact ⟨ret_int (by rw [HE.out]; rfl), rfl⟩
          · clear m8
            have HE : Hid (signLen s.data.toList = 2) := Lib.hid E
            clear E
            go_enter Tryz.func97, Tryz.ntmps97
            go_wp2_with (go_at_call 96; refine (roles_any _ hb0 _ ht).mono ?_; rintro e w' ⟨rfl, rfl⟩)
            go_ret
            exact ⟨ret_int (by rw [HE.out]; rfl), rfl⟩
      · clear f2 m32 m8
        have HE : Hid (signLen s.data.toList = 2) := Lib.hid E
        clear E
        go_enter Tryz.func97, Tryz.ntmps97
        go_wp2_with (go_at_call 96; refine (roles_any _ hb0 _ ht).mono ?_; rintro e w' ⟨rfl, rfl⟩)
        go_ret
        exact ⟨ret_int (by rw [HE.out]; rfl), rfl⟩
  · have E := sign_one s h0 h1
    clear m16 m32
    cases he : isSgn s[0] <;> rw [he] at m8 E <;> clear he
    all_goals
      have HE := Lib.hid E
      clear E
      go_enter Tryz.func97, Tryz.ntmps97
      go_wp2_with (go_at_call 96; refine (roles_any _ hb0 _ ht).mono ?_; rintro e w' ⟨rfl, rfl⟩)
      go_ret
      exact ⟨ret_int (by rw [HE.out]; rfl), rfl⟩

theorem lsign_any' (s : ByteArray) (N : Nat) (w : World) (h0 : 0 < s.size) (hs : s.size ≤ 100000) (ht : Tab w) (hN : Hid (signLen s.data.toList = N)) :
    Calls Tryz.prog 97 #[.string s] w fun e w' => e = .returned (.int .i64 N) ∧ w' = w := by
  have e := hN.out; subst e
  exact lsign_any s w h0 hs ht

theorem extract_end (s : ByteArray) (k : Nat) : (s.extract k s.size).data.toList = s.data.toList.drop k := by
  have hl : s.data.toList.length = s.size := rfl
  simp [ByteArray.data_extract, Array.toList_extract]
  rw [List.take_of_length_le (by rw [List.length_drop, hl]; omega)]
theorem tok_let (s : ByteArray) (k : Nat) (h : k < s.size) (hl : isLet s[k] = true) : tokLen (s.data.toList.drop k) = run isWrd (s.data.toList.drop k) := by
  rw [drop_at s k h, tokLen, if_pos hl]
theorem tok_dig (s : ByteArray) (k : Nat) (h : k < s.size) (hl : isLet s[k] = false) (hd : isDig s[k] = true) : tokLen (s.data.toList.drop k) = run isDig (s.data.toList.drop k) := by
  rw [drop_at s k h, tokLen, if_neg (by simp [hl]), if_pos hd]
theorem tok_sgn (s : ByteArray) (k : Nat) (h : k < s.size) (hl : isLet s[k] = false) (hd : isDig s[k] = false) : tokLen (s.data.toList.drop k) = signLen (s.data.toList.drop k) := by
  rw [drop_at s k h, tokLen, if_neg (by simp [hl]), if_neg (by simp [hd])]

set_option maxRecDepth 100000 in
set_option maxHeartbeats 1600000 in
theorem tokenEnd_any (s : ByteArray) (k0 : Nat) (w : World) {gs gb gc tw tn pb qb rb pc qc pw qw rw_ pn qn rn : Addr} (hk0 : k0 < s.size) (hs : s.size ≤ 100000) (hE : EndsIn s w gs gb gc tw tn pb qb rb pc qc pw qw rw_ pn qn rn) :
    Calls Tryz.prog 95 #[.int .i64 k0, .pointer (some gs), .pointer (some tw), .pointer (some tn)] w fun e w' => e = .returned (.int .i64 ((k0 + tokLen (s.data.toList.drop k0) : Nat) : Int)) ∧ ∃ n, w' = w.drewN n := by
  have hb0 : s[k0].toNat < 256 := s[k0].toNat_lt
  have m2 := mask2.at_ s[k0]
  have m4 := mask4.at_ s[k0]
  have c1 := hE.src
  have c2 := hE.word
  have c3 := hE.numb
  have ht := hE.tab
  obtain ⟨K, hK⟩ : ∃ K, k0 + tokLen (s.data.toList.drop k0) = K := ⟨_, rfl⟩
  rw [hK]
  cases hl : isLet s[k0]
  · rw [hl] at m2
    cases hd : isDig s[k0]
    · rw [hd] at m4
      have hx0 : 0 < (s.extract k0 s.size).size := by simp; omega
      have hx1 : (s.extract k0 s.size).size ≤ 100000 := by simp; omega
      obtain ⟨N, hN⟩ : ∃ N, signLen (s.extract k0 s.size).data.toList = N := ⟨_, rfl⟩
      have hsl : N ≤ 100000 := by
        have := signLen_le (s.extract k0 s.size).data.toList
        rw [extract_end, List.length_drop, show s.data.toList.length = s.size from rfl] at this
        rw [← hN, extract_end]; omega
      have HK : Hid (k0 + N = K) := Lib.hid (by rw [← hN, extract_end, ← tok_sgn s k0 hk0 hl hd]; exact hK)
      have HN := Lib.hid hN
      clear hl hd hK hN
      go_enter Tryz.func95, Tryz.ntmps95
      go_wp2_with (first
        | (go_at_call 96; refine (roles_any _ hb0 _ ht).mono ?_; rintro e w' ⟨rfl, rfl⟩)
        | (go_at_call 97; refine (lsign_any' (s.extract k0 s.size) N _ hx0 hx1 ht HN).mono ?_; rintro e w' ⟨rfl, rfl⟩))
      go_ret
      exact ⟨ret_int (by have := HK.out; omega), 0, rfl⟩
    · rw [hd] at m4
      have HT : Hid (k0 + run isDig (s.data.toList.drop k0) = K) := Lib.hid (by rw [← tok_dig s k0 hk0 hl hd]; exact hK)
      have M := Lib.hid mask4
      clear hl hd hK
      go_enter Tryz.func95, Tryz.ntmps95
      go_wp2_with (first
        | (go_at_call 96; refine (roles_any _ hb0 _ ht).mono ?_; rintro e w' ⟨rfl, rfl⟩)
        | (go_at_call 149; refine (stretch_mask' s k0 K isDig pn qn rn 4 _ (by omega) hs hE.pn_ hE.tab hE.qn_ hE.rn_ M HT).mono ?_; rintro e w' ⟨rfl, n0, rfl⟩))
      go_ret
      exact ⟨rfl, n0, rfl⟩
  · rw [hl] at m2
    have HT : Hid (k0 + run isWrd (s.data.toList.drop k0) = K) := Lib.hid (by rw [← tok_let s k0 hk0 hl]; exact hK)
    have M := Lib.hid mask6
    clear hl hK m4
    go_enter Tryz.func95, Tryz.ntmps95
    go_wp2_with (first
      | (go_at_call 96; refine (roles_any _ hb0 _ ht).mono ?_; rintro e w' ⟨rfl, rfl⟩)
      | (go_at_call 149; refine (stretch_mask' s k0 K isWrd pw qw rw_ 6 _ (by omega) hs hE.pw_ hE.tab hE.qw_ hE.rww M HT).mono ?_; rintro e w' ⟨rfl, n0, rfl⟩))
    go_ret
    exact ⟨rfl, n0, rfl⟩
end Go.Proofs.YtmkehecapjdfdaaGreatDoor
