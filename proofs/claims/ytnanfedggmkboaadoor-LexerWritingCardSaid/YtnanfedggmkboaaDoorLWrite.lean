/- LexerWriting: the walk. -/
import Derived.Test.YtnanfedggmkboaaDoorLGaps
import Derived.Test.YtnanfedggmkboaaDoorLCov
import Derived.Test.YtnanfedggmkboaaDoorLBld
namespace Go.Proofs.YtnanfedggmkboaaDoor
open Go.RowKit

set_option maxRecDepth 100000 in
set_option maxHeartbeats 4000000 in
theorem alike_any (A1 A2 : Option Addr) (c1 c2 n : Nat) (ts us : List Tok) (w : World) (hn : ts.length = n) (hlen : n ≤ 100000) (h1 : TRd w A1 ts) (h2 : TRd w A2 us) (hS : Hid (LikeL ts us)) :
    Calls Tryd.prog 19 #[.slice A1 n c1, .slice A2 n c2] w fun e w' => e = .returned (.bool true) ∧ Drew w w' := by
  subst hn
  go_enter Tryd.func19, Tryd.ntmps19
  go_wp2
  go_loopw [5] (fun i wr => ∃ k : Nat, k ≤ ts.length ∧ i = .int .i64 k ∧ Drew w wr) (fun i _ => ts.length - (intOf i).toNat)
  case atStart => exact ⟨0, Nat.zero_le _, rfl, Drew.refl _⟩
  case round =>
    rename_i wr
    obtain ⟨k, hk, rfl, hD⟩ := hrel
    by_cases hlt : k < ts.length
    · have hu : k < us.length := by have := hS.out.1; omega
      obtain ⟨s1, s2, s3⟩ := hS.out.2 k hlt hu
      obtain ⟨g1, o1, rfl, p0, p1, p2, p3⟩ := h1.later hD.below k hlt
      obtain ⟨g2, o2, rfl, q0, q1, q2, q3⟩ := h2.later hD.below k hu
      rw [s1] at q0
      rw [s2] at q1
      rw [s3] at q2
      generalize ts[k].kind = a0 at *
      generalize ts[k].text = a1 at *
      generalize ts[k].num = a2 at *
      clear s1 s2 s3 h1 h2 hS hu p3 q3
      go_wp2
      go_quiet (fail)
      go_wp2
      go_roundw
      case rel => exact ⟨k + 1, by omega, by go_num, hD.more _⟩
      case measure => simp [intOf]; omega
    · go_wp2
      go_ret
      exact ⟨rfl, hD⟩

set_option maxHeartbeats 400000 in
theorem writing_long (s : ByteArray) (w : World) (hl : 4000 < s.size) (hs : s.size ≤ 9223372036854775807) (ht : Tab w) (he : Errs w) :
    Calls Tryd.prog 7 #[.string s] w fun e w' => e = .returned (.bool true) ∧ Below w.heap.size w w' := by
  go_enter Tryd.func7, Tryd.ntmps7
  go_wp2_with (go_at_call 10; refine (head_any _ ht he).mono ?_; rintro e w1 ⟨rfl, B⟩)
  go_ret
  exact ⟨rfl, B⟩
set_option maxHeartbeats 800000 in
theorem writing_err (s : ByteArray) (x k : Nat) (w : World) (hl : s.size ≤ 4000) (hx : x ≠ 0) (h : Hid (lexS s.data.toList = ([], x, k))) (ht : Tab w) (he : Errs w) :
    Calls Tryd.prog 7 #[.string s] w fun e w' => e = .returned (.bool true) ∧ Below w.heap.size w w' := by
  have b0 : ((x : Int) != 0) = true := by simp; omega
  go_enter Tryd.func7, Tryd.ntmps7
  have E0 := Env.start ht he
  clear ht he
  go_wp2_with fail
  refine (head_any _ E0.tab E0.errs).mono ?_
  rintro e w1 ⟨rfl, B⟩
  have E1 := E0.later B
  clear E0 B
  go_wp2_with fail
  refine (lex_at s [] x k _ (by omega) h E1.tab E1.errs).mono ?_
  rintro e w2 ⟨A, c, rfl, _, _, _, B⟩
  have E2 := E1.later B
  clear E1 B
  go_wp2
  go_ret
  exact ⟨rfl, E2.below⟩

theorem wr_snoc : ∀ (a : List Tok) (t : Tok), wr (a ++ [t]) = wr a ++ (textOf t ++ [32])
  | [], t => by simp [wr]
  | x :: a, t => by rw [List.cons_append, wr, wr, wr_snoc a t]; simp
theorem wr_len {l : List UInt8} {o : Nat} {ts : List Tok} {m : List UInt8} {o' : Nat} (h : Lp l o ts m o') : (wr ts).length ≤ l.length + ts.length := by
  induction h with
  | stop => simp [wr]
  | cons x g r v o ts m o' h1 h2 h3 h4 h5 ih =>
    rw [wr, textOf_mk, (read_text h2 h3).1]
    simp; omega
theorem wr_take {ts : List Tok} (k : Nat) : (wr (ts.take k)).length ≤ (wr ts).length := by
  induction ts generalizing k with
  | nil => simp
  | cons t r ih =>
    cases k with
    | zero => simp [wr]
    | succ k =>
      have := ih k
      rw [List.take_succ_cons, wr, wr]
      simp; omega
theorem lp_num {l : List UInt8} {o : Nat} {ts : List Tok} {m : List UInt8} {o' : Nat} (h : Lp l o ts m o') : ∀ t ∈ ts, t.num ≤ M64 := by
  induction h with
  | stop => simp
  | cons x g r v o ts m o' h1 h2 h3 h4 h5 ih =>
    intro t ht
    rcases List.mem_cons.1 ht with rfl | ht
    · exact (read_text h2 h3).2.1
    · exact ih t ht

set_option maxRecDepth 100000 in
set_option maxHeartbeats 3200000 in
theorem writing_ok (s Y : ByteArray) (ts us : List Tok) (y1 y2 : Nat) (w : World) (hl : s.size ≤ 4000) (ht5 : ts.length ≤ 1500) (h : Hid (lexS s.data.toList = (ts, 0, 0))) (hnum : Hid (∀ t ∈ ts, t.num ≤ M64)) (hwl : Hid ((Go.Proofs.YtnanfedggmkboaaDoor.wr ts).length ≤ 10000))
    (hY : Hid (Y = ⟨(Go.Proofs.YtnanfedggmkboaaDoor.wr ts).toArray⟩)) (hYs : Y.size ≤ 10000) (hv : Hid (lexS Y.data.toList = (us, y1, y2))) (hz : 4000 < Y.size ∧ y1 = 2 ∧ y2 = 0 ∨ Y.size ≤ 4000 ∧ y1 = 0 ∧ us.length = ts.length) (hS : Hid (y1 = 0 → LikeL ts us)) (ht : Tab w) (he : Errs w) :
    Calls Tryd.prog 7 #[.string s] w fun e w' => e = .returned (.bool true) ∧ Below w.heap.size w w' := by
  go_enter Tryd.func7, Tryd.ntmps7
  have E0 := Env.start ht he
  clear ht he
  go_wp2_with fail
  refine (head_any _ E0.tab E0.errs).mono ?_
  rintro e w1 ⟨rfl, B⟩
  have E1 := E0.later B
  clear E0 B
  go_wp2_with fail
  refine (lex_at s ts 0 0 _ (by omega) h E1.tab E1.errs).mono ?_
  rintro e w2 ⟨A, c, rfl, hc1, hc2, hT, B⟩
  have E2 := E1.later B
  clear E1 B
  have hB0 := bld_new w2
  go_wp2_with fail
  go_loopw [29] (fun i wr_ => ∃ k : Nat, k ≤ ts.length ∧ i = .int .i64 k ∧ Bld wr_ w2.heap.size w2.heap.size (Go.Proofs.YtnanfedggmkboaaDoor.wr (ts.take k)) ∧ Below w2.heap.size w2 wr_) (fun i _ => ts.length - (intOf i).toNat)
  case atStart => exact ⟨0, Nat.zero_le _, rfl, by simpa [wr] using hB0, (Below.refl _ _).alloc (Nat.le_refl _) _⟩
  case round =>
    obtain ⟨k, hk, rfl, hB, hW⟩ := hrel
    clear hB0
    by_cases hlt : k < ts.length
    · obtain ⟨g, o, rfl, r0, r1, r2, r3⟩ := hT.later hW k hlt
      have hText := Lib.hid (text_any ts[k].kind ts[k].text ts[k].num ts[k].off (hnum.out _ (List.getElem_mem hlt)))
      obtain ⟨X, hX⟩ : ∃ X : ByteArray, (⟨(textV (ts[k].kind, ts[k].text, ts[k].num)).toArray⟩ : ByteArray) = X := ⟨_, rfl⟩
      have e1 : Go.Proofs.YtnanfedggmkboaaDoor.wr (ts.take (k + 1)) = Go.Proofs.YtnanfedggmkboaaDoor.wr (ts.take k) ++ (X ++ ⟨#[32]⟩ : ByteArray).data.toList := by
        rw [List.take_succ_eq_append_getElem hlt, wr_snoc, ByteArray.data_append, Array.toList_append, ← hX]
        rfl
      rw [hX] at hText
      have hlen := wr_take (ts := ts) (k + 1)
      have hlen2 := hwl.out
      rw [e1, List.length_append] at hlen
      have hz2 : (X ++ ⟨#[32]⟩ : ByteArray).data.toList.length = (X ++ ⟨#[32]⟩ : ByteArray).size := rfl
      have hlen3 : (Go.Proofs.YtnanfedggmkboaaDoor.wr (ts.take k)).length + (X ++ ⟨#[32]⟩ : ByteArray).size ≤ 100000000 := by omega
      have hXs : X.size ≤ 100000 := by rw [ByteArray.size_append] at hlen3; rw [hz2, ByteArray.size_append] at hlen; omega
      have HE := Lib.hid e1
      clear e1 hlen hlen2 hz2 hX
      generalize ts[k].kind = a0 at *
      generalize ts[k].text = a1 at *
      generalize ts[k].num = a2 at *
      generalize ts[k].off = a3 at *
      go_wp2_with fail
      refine (hText.out _).mono ?_
      rintro e w4 ⟨rfl, B4⟩
      have B5 : Below wr.heap.size wr w4 := ((Below.refl _ _).alloc (Nat.le_refl _) _).trans (B4.mono (by simp))
      have hB2 := hB.later B5
      have hW2 := hW.trans (B5.mono hW.size)
      clear hB hW B4 B5 r0 r1 r2 r3 hText
      go_wp2_with fail
      refine (bld_write _ _ _ _ _ hB2 hlen3).mono ?_
      rintro e w5 ⟨rfl, hB3, B6⟩
      rw [← HE.out] at hB3
      have hW3 := hW2.trans B6
      clear hB2 hW2 B6
      go_wp2
      go_roundw
      case rel => exact ⟨k + 1, by omega, by go_num, hB3, hW3⟩
      case measure => simp [intOf]; omega
    · obtain rfl : k = ts.length := by omega
      rw [List.take_length] at hB
      have hYl : (Go.Proofs.YtnanfedggmkboaaDoor.wr ts).length = Y.size := by rw [hY.out, size_mk]
      go_wp2_with fail
      refine (bld_string _ _ _ _ hB).mono ?_
      rintro e w4 ⟨rfl, hB2, B4⟩
      rw [← hY.out]
      have hW2 := hW.trans B4
      clear hB hW B4
      go_wp2_with fail
      have EW := E2.later hW2
      refine (lex_at Y us y1 y2 _ (by omega) hv EW.tab EW.errs).mono ?_
      rintro e w5 ⟨A2, c2, rfl, hd1, hd2, hU, B5⟩
      have hB3 := hB2.later B5
      have hW3 := hW2.trans (B5.mono hW2.size)
      have HL := Lib.hid hYl
      clear hB2 hW2 B5 EW hYl
      have E5 := E2.later hW3
      have hT5 := hT.later hW3
      clear E2 hT hW3
      rcases hz with ⟨z1, rfl, rfl⟩ | ⟨z1, rfl, z3⟩
      · go_wp2_with (go_at_call 18; refine (bld_len _ _ _ _ hB3).mono ?_; rintro e w0 ⟨rfl, hw0⟩; rw [hw0, HL.out]; clear hw0 w0)
        go_ret
        exact ⟨rfl, E5.below⟩
      · have HLike := hS.out rfl
        have HS := Lib.hid HLike
        clear hS HLike
        have z4 : ¬ 4000 < (Y.size : Int) := by omega
        go_wp2_with (go_at_call 18; refine (bld_len _ _ _ _ hB3).mono ?_; rintro e w0 ⟨rfl, hw0⟩; rw [hw0, HL.out]; clear hw0 w0)
        refine (alike_any _ _ _ _ _ ts us _ rfl (by omega) hT5 hU HS).mono ?_
        rintro e w6 ⟨rfl, D⟩
        go_wp2
        go_ret
        exact ⟨rfl, (E5.later D.below).below⟩

theorem writing_any (s : ByteArray) (w : World) (hs : s.size ≤ 9223372036854775807) (ht : Tab w) (he : Errs w) :
    Calls Tryd.prog 7 #[.string s] w fun e w' => e = .returned (.bool true) ∧ Below w.heap.size w w' := by
  by_cases hl : 4000 < s.size
  · exact writing_long s w hl hs ht he
  · obtain ⟨ts, x, k, h⟩ : ∃ ts x k, lexS s.data.toList = (ts, x, k) := ⟨_, _, _, rfl⟩
    have hl2 : s.data.toList.length ≤ 4000 := by
      have : s.data.toList.length = s.size := rfl
      omega
    by_cases hx : x = 0
    · subst hx
      obtain ⟨h1, h2, h3, rfl⟩ := lexS_ok h
      obtain ⟨us, i1, i2⟩ := h3.write
      obtain ⟨g, l, hg1, hg2, hg3⟩ := h3
      have hwl := wr_len hg3
      have hll : l.length ≤ s.data.toList.length := by rw [hg1]; simp
      have hYl : (⟨(Go.Proofs.YtnanfedggmkboaaDoor.wr ts).toArray⟩ : ByteArray).data.toList = Go.Proofs.YtnanfedggmkboaaDoor.wr ts := by simp
      have hlk := i2.1
      by_cases hz : (Go.Proofs.YtnanfedggmkboaaDoor.wr ts).length ≤ 4000
      · refine writing_ok s ⟨(Go.Proofs.YtnanfedggmkboaaDoor.wr ts).toArray⟩ ts us 0 0 w (by omega) h2 (Lib.hid h) (Lib.hid (lp_num hg3)) (Lib.hid (by omega)) (Lib.hid rfl) (by rw [size_mk]; omega) (Lib.hid ?_) (Or.inr ⟨by rw [size_mk]; omega, rfl, hlk⟩) (Lib.hid fun _ => i2) ht he
        rw [hYl]
        exact lexS_of i1 hz (by omega)
      · refine writing_ok s ⟨(Go.Proofs.YtnanfedggmkboaaDoor.wr ts).toArray⟩ ts [] 2 0 w (by omega) h2 (Lib.hid h) (Lib.hid (lp_num hg3)) (Lib.hid (by omega)) (Lib.hid rfl) (by rw [size_mk]; omega) (Lib.hid ?_) (Or.inl ⟨by rw [size_mk]; omega, rfl, rfl⟩) (Lib.hid (fun e => absurd e (by decide))) ht he
        rw [hYl]
        exact lexS_long (by omega)
    · obtain ⟨rfl, _⟩ := lexS_err h hx hl2
      exact writing_err s x k w (by omega) hx (Lib.hid h) ht he
end Go.Proofs.YtnanfedggmkboaaDoor
