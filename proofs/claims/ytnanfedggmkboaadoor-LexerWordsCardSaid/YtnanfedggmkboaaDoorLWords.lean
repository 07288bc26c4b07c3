/- LexerWords: the walk. -/
import Derived.Test.YtnanfedggmkboaaDoorLGaps
import Derived.Test.YtnanfedggmkboaaDoorLPlain2
import Derived.Test.YtnanfedggmkboaaDoorLFmt
namespace Go.Proofs.YtnanfedggmkboaaDoor
open Go.RowKit

/-! ### Sources of one token -/
theorem lex_one {x : List UInt8} {v : Nat × List UInt8 × Nat} (hx : x ≠ []) (h1 : tokLen x = x.length) (h2 : readT x = (v, 0)) (hs : x.length ≤ 4000) : lexS x = ([mkTok v 0], 0, 0) := by
  have hz : tokLen x ≠ 0 := by rw [h1]; intro e; exact hx (List.length_eq_zero_iff.1 e)
  refine lexS_of (a := x.length) ⟨[], x, rfl, tok_gap hz, ?_⟩ hs (by simp)
  have := Lp.cons x [] [] v 0 [] [] x.length (by simpa using h1) hx h2 (by simp [gapLen, gapC]) (by simpa using Lp.stop [] x.length)
  simpa using this
theorem lex_bad {x : List UInt8} {v : Nat × List UInt8 × Nat} {e : Nat} (hx : x ≠ []) (h1 : tokLen x = x.length) (h2 : readT x = (v, e)) (he : e ≠ 0) (hs : x.length ≤ 4000) : lexS x = ([], e, 0) := by
  have hz : tokLen x ≠ 0 := by rw [h1]; intro e; exact hx (List.length_eq_zero_iff.1 e)
  refine lexS_of_err (ts := []) (m := x) ⟨[], x, rfl, tok_gap hz, Lp.stop _ _⟩ hs (by simp) hx (Or.inr (Or.inr ⟨hz, by simp, ?_, he⟩)) he
  rw [h1, List.take_length, h2]
theorem isDig_let : ∀ b : Fin 256, isDig (UInt8.ofNat b.val) = true → isLet (UInt8.ofNat b.val) = false := by decide +kernel
theorem dig_let {b : UInt8} (h : isDig b = true) : isLet b = false := by
  have := isDig_let ⟨b.toNat, b.toNat_lt⟩
  simp at this
  exact this h
theorem run_full (p : UInt8 → Bool) {x : List UInt8} (h : ∀ b ∈ x, p b = true) : run p x = x.length := by
  have := run_of_all p x [] h rfl
  simpa using this
theorem tok_digits {x : List UInt8} (hx : x ≠ []) (h : ∀ b ∈ x, isDig b = true) : tokLen x = x.length := by
  match x, hx with
  | b :: l, _ =>
    have hb := h b (by simp)
    rw [tokLen, if_neg (by rw [dig_let hb]; simp), if_pos hb]
    exact run_full _ h
theorem tok_word (x : List UInt8) (h : ∀ b ∈ x, isDig b = true) : tokLen (117 :: x) = (117 :: x).length := by
  rw [tokLen, if_pos (by decide)]
  refine run_full _ fun b hb => ?_
  rcases List.mem_cons.1 hb with rfl | hb
  · decide
  · unfold isWrd; rw [h b hb, Bool.or_true]
theorem m64_pow : (2 : Nat) ^ 64 - 1 = M64 := by unfold M64; decide
theorem parseB_dec (n : Nat) (hn : n ≤ M64) : Lib.parseUintB 64 (Lib.decDigits n) = .ok n := by
  rw [Lib.parseUintB, if_neg (dec_ne n), m64_pow]
  have := parse_dec n hn []
  rw [List.append_nil] at this
  rw [this]; rfl
theorem dec_inj {a b : Nat} (ha : a ≤ M64) (hb : b ≤ M64) (h : Lib.decDigits a = Lib.decDigits b) : a = b := by
  have h1 := parseB_dec a ha
  rw [h, parseB_dec b hb] at h1
  cases h1; rfl
theorem lex_dec (n : Nat) (hn : n ≤ M64) : lexS (Lib.decDigits n) = ([⟨2, [], n, 0⟩], 0, 0) := by
  have hlen := dec_len 19 n (by have : (10 : Nat) ^ (19 + 1) = 100000000000000000000 := by decide
                                unfold M64 at hn; omega)
  refine lex_one (v := (2, [], n)) (dec_ne n) (tok_digits (dec_ne n) (dec_dig n)) ?_ (by omega)
  have hp := parseB_dec n hn
  by_cases h0 : n = 0
  · subst h0; decide +kernel
  · obtain ⟨b, l, e, hb⟩ := dec_head n (by omega)
    have hd := dec_dig n b (by rw [e]; simp)
    rw [e] at hp ⊢
    rw [readT, if_neg (by rw [dig_let hd]; simp), if_pos hd, if_neg (by rintro ⟨_, h⟩; exact hb h), hp]
theorem lex_zero (n : Nat) (hn : n ≤ M64) : lexS (48 :: Lib.decDigits n) = ([], 10, 0) := by
  have hlen := dec_len 19 n (by have : (10 : Nat) ^ (19 + 1) = 100000000000000000000 := by decide
                                unfold M64 at hn; omega)
  refine lex_bad (v := (0, [], 0)) (by simp) (tok_digits (by simp) ?_) ?_ (by decide) (by simp; omega)
  · intro b hb
    rcases List.mem_cons.1 hb with rfl | hb
    · decide
    · exact dec_dig n b hb
  · rw [readT, if_neg (by decide), if_pos (by decide), if_pos ⟨dec_ne n, by decide⟩]
theorem lex_far (n : Nat) (hn : n ≤ M64) (h1 : 1 ≤ n) : lexS (Lib.decDigits n ++ List.replicate 20 48) = ([], 3, 0) := by
  have hlen := dec_len 19 n (by have : (10 : Nat) ^ (19 + 1) = 100000000000000000000 := by decide
                                unfold M64 at hn; omega)
  obtain ⟨b, l, e, hb⟩ := dec_head n h1
  have hd := dec_dig n b (by rw [e]; simp)
  have hp : Lib.parseUintB 64 (Lib.decDigits n ++ List.replicate 20 48) = .range := by
    rw [Lib.parseUintB, if_neg (by simp [dec_ne]), m64_pow, parse_dec n hn]
    refine parse_zeros 20 n hn ?_
    have : (10 : Nat) ^ 20 = 100000000000000000000 := by decide
    unfold M64; rw [this]; omega
  have hall : ∀ c ∈ Lib.decDigits n ++ List.replicate 20 48, isDig c = true := by
    intro c hc
    rcases List.mem_append.1 hc with hc | hc
    · exact dec_dig n c hc
    · rw [(List.mem_replicate.1 hc).2]; decide
  refine lex_bad (v := (0, [], 0)) (by simp [dec_ne]) (tok_digits (by simp [dec_ne]) hall) ?_ (by decide) (by simp; omega)
  rw [e] at hp ⊢
  rw [List.cons_append] at hp ⊢
  rw [readT, if_neg (by rw [dig_let hd]; simp), if_pos hd, if_neg (by rintro ⟨_, h⟩; exact hb h), hp]
theorem lex_far0 : lexS (Lib.decDigits 0 ++ List.replicate 20 48) = ([], 10, 0) := by decide +kernel
theorem lex_type (m : Nat) (h1 : 1 ≤ m) (h2 : m ≤ 64) : lexS (117 :: Lib.decDigits m) = ([⟨3, [], m, 0⟩], 0, 0) := by
  have hlen := dec_len 1 m (by have : (10 : Nat) ^ (1 + 1) = 100 := by decide
                               omega)
  refine lex_one (v := (3, [], m)) (by simp) (tok_word _ (dec_dig m)) ?_ (by simp; omega)
  rw [readT, if_pos (by decide), width_text m h1 h2, if_pos (by omega)]
theorem lex_name (m : Nat) (h : m < 65536) (h1 : m < 1 ∨ 64 < m) : lexS (117 :: Lib.decDigits m) = ([⟨1, 117 :: Lib.decDigits m, 0, 0⟩], 0, 0) := by
  have hlen := dec_len 4 m (by have : (10 : Nat) ^ (4 + 1) = 100000 := by decide
                               omega)
  refine lex_one (v := (1, 117 :: Lib.decDigits m, 0)) (by simp) (tok_word _ (dec_dig m)) ?_ (by simp; omega)
  have hw : widthOf (117 :: Lib.decDigits m) = 0 := by
    by_cases hz : widthOf (117 :: Lib.decDigits m) = 0
    · exact hz
    · obtain ⟨a, b, c⟩ := width_is rfl hz
      have := dec_inj (a := m) (b := widthOf (117 :: Lib.decDigits m)) (by unfold M64; omega) (by unfold M64; omega) (by simpa using c)
      omega
  rw [readT, if_pos (by decide), hw, if_neg (by simp), if_neg (by simp; omega)]

/-! ### The walk -/
theorem trd_one {w : World} {A : Option Addr} {t : Tok} (h : TRd w A [t]) : ∃ g o : Nat, A = some ⟨g, o, none⟩ ∧ w.cell? ⟨g, o, none⟩ = some (.int .i64 t.kind) ∧ w.cell? ⟨g, o + 1, none⟩ = some (.string ⟨t.text.toArray⟩) ∧ w.cell? ⟨g, o + 2, none⟩ = some (.int .u64 t.num) := by
  obtain ⟨g, o, h0, h1, h2, h3, _⟩ := h 0 (by simp)
  exact ⟨g, o, h0, by simpa using h1, by simpa using h2, by simpa using h3⟩
theorem repeat_zeros (w : World) (Z : ByteArray) (hZ : Hid (Z = ⟨(List.replicate 20 (48 : UInt8)).toArray⟩)) :
    Calls Tryd.prog 23 #[.string ⟨#[48]⟩, .int .i64 20] w fun e w' => e = .returned (.string Z) ∧ Below w.heap.size w w' := by
  rw [hZ.out]
  exact repeat_one 48 20 _ w (by decide) (by decide) (Lib.hid (Lib.repeatL_replicate 48 1 20))

set_option maxRecDepth 100000 in
set_option maxHeartbeats 3200000 in
theorem words_at (n m : Nat) (T Z W : ByteArray) (k : Nat) (nm : Nat) (tx : List UInt8) (w : World) (hm : m < 65536) (hu : Hid (n < 18446744073709551616)) (hT : Hid (T = ⟨(Lib.decDigits n).toArray⟩)) (hZ : Hid (Z = ⟨(List.replicate 20 (48 : UInt8)).toArray⟩)) (hW : Hid (W = ⟨(Lib.decDigits m).toArray⟩))
    (hTs : T.size ≤ 100) (hZs : Z.size ≤ 100) (hWs : W.size ≤ 100)
    (h1 : Hid (lexS T.data.toList = ([⟨2, [], n, 0⟩], 0, 0))) (h2 : Hid (lexS ((⟨#[48]⟩ : ByteArray) ++ T).data.toList = ([], 10, 0)))
    (h3 : Hid (1 ≤ n → lexS (T ++ Z).data.toList = ([], 3, 0))) (h4 : Hid (n = 0 → lexS (T ++ Z).data.toList = ([], 10, 0)))
    (h5 : Hid (lexS ((⟨#[117]⟩ : ByteArray) ++ W).data.toList = ([⟨k, tx, nm, 0⟩], 0, 0)))
    (h6 : (1 ≤ m ∧ m ≤ 64 ∧ k = 3 ∧ nm = m ∧ tx = []) ∨ ((m < 1 ∨ 64 < m) ∧ k = 1 ∧ nm = 0 ∧ (⟨tx.toArray⟩ : ByteArray) = (⟨#[117]⟩ : ByteArray) ++ W)) (ht : Tab w) (he : Errs w) (hp : Pows w) :
    Calls Tryd.prog 9 #[.int .u64 n, .int .u16 m] w fun e w' => e = .returned (.bool true) ∧ Below w.heap.size w w' := by
  have hA : ((⟨#[48]⟩ : ByteArray) ++ T).size ≤ 200 := by rw [ByteArray.size_append]; have : (⟨#[48]⟩ : ByteArray).size = 1 := rfl; omega
  have hB : (T ++ Z).size ≤ 200 := by rw [ByteArray.size_append]; omega
  have hC : ((⟨#[117]⟩ : ByteArray) ++ W).size ≤ 200 := by rw [ByteArray.size_append]; have : (⟨#[117]⟩ : ByteArray).size = 1 := rfl; omega
  obtain ⟨SA, hSA⟩ : ∃ S, (⟨#[48]⟩ : ByteArray) ++ T = S := ⟨_, rfl⟩
  obtain ⟨SB, hSB⟩ : ∃ S, T ++ Z = S := ⟨_, rfl⟩
  obtain ⟨SC, hSC⟩ : ∃ S, (⟨#[117]⟩ : ByteArray) ++ W = S := ⟨_, rfl⟩
  rw [hSA] at h2 hA
  rw [hSB] at h3 h4 hB
  rw [hSC] at h5 h6 hC
  go_enter Tryd.func9, Tryd.ntmps9
  have E0 := Env.start ht he
  clear ht he
  go_wp2_with fail
  refine (head_any _ E0.tab E0.errs).mono ?_
  rintro e w1 ⟨rfl, B⟩
  have E1 := E0.later B
  clear E0 B
  go_wp2_with fail
  refine (fmt_any n hu.out _ (hp.later E1.below)).mono ?_
  rintro e w2 ⟨rfl, B⟩
  have E2 := E1.later B
  clear E1 B
  rw [← hT.out]
  go_wp2_with fail
  refine (lex_at T _ 0 0 _ (by omega) h1 E2.tab E2.errs).mono ?_
  rintro e w3 ⟨A, c, rfl, hc1, hc2, hR, B⟩
  have E3 := E2.later B
  clear E2 B
  obtain ⟨g, o, rfl, r0, r1, r2⟩ := trd_one hR
  clear hR
  go_wp2_with fail
  refine (repeat_zeros _ Z hZ).mono ?_
  rintro e w4 ⟨rfl, B⟩
  have E4 := E3.later B
  clear E3 B r0 r1 r2
  go_wp2_with fail
  refine (fails_yes SA 10 0 _ (by omega) h2 E4.tab E4.errs).mono ?_
  rintro e w5 ⟨rfl, B⟩
  have E5 := E4.later B
  clear E4 B
  by_cases hn : n = 0
  case' pos =>
    have HB := h4.out hn
    have HF := Lib.hid HB
    have hn1 : ¬ 0 < (n : Int) := by omega
    have hn2 : ((n : Int) == 0) = true := by simp; omega
    clear h3 h4 HB hn
    go_wp2_with fail
    refine (fails_yes SB 10 0 _ (by omega) HF E5.tab E5.errs).mono ?_
    rintro e w6 ⟨rfl, B⟩
  case' neg =>
    have HB := h3.out (by omega)
    have HF := Lib.hid HB
    have hn1 : 0 < (n : Int) := by omega
    have hn2 : ((n : Int) == 0) = false := by simp; omega
    clear h3 h4 HB hn
    go_wp2_with fail
    refine (fails_yes SB 3 0 _ (by omega) HF E5.tab E5.errs).mono ?_
    rintro e w6 ⟨rfl, B⟩
  all_goals
    have E6 := E5.later B
    clear E5 B
    go_wp2_with fail
    refine (itoa_any m (by omega) _ (hp.later E6.below)).mono ?_
    rintro e w7 ⟨rfl, B⟩
    have E7 := E6.later B
    clear E6 B
    rw [← hW.out]
    go_wp2_with fail
    refine (lex_at SC _ 0 0 _ (by omega) h5 E7.tab E7.errs).mono ?_
    rintro e w8 ⟨A2, c2, rfl, hd1, hd2, hR2, B⟩
    have E8 := E7.later B
    clear E7 B
    obtain ⟨g2, o2, rfl, q0, q1, q2⟩ := trd_one hR2
    clear hR2
    rcases h6 with ⟨i1, i2, rfl, rfl, rfl⟩ | ⟨i1, rfl, rfl, i4⟩
    · go_wp2
      all_goals go_ret
      all_goals exact ⟨rfl, E8.below⟩
    · have q1' : w8.cell? ⟨g2, o2 + 1, none⟩ = some (.string SC) := by rw [q1]; show some (Value.string ⟨tx.toArray⟩) = _; rw [i4]
      have q2' : w8.cell? ⟨g2, o2 + 2, none⟩ = some (.int .u64 0) := q2
      clear q1 q2 i4
      rcases i1 with i1 | i1
      · go_wp2
        all_goals go_ret
        all_goals exact ⟨rfl, E8.below⟩
      · go_wp2
        all_goals go_ret
        all_goals exact ⟨rfl, E8.below⟩

theorem words_any (n m : Int) (w : World) (hn : 0 ≤ n ∧ n < 18446744073709551616) (hm : 0 ≤ m ∧ m < 65536) (ht : Tab w) (he : Errs w) (hp : Pows w) :
    Calls Tryd.prog 9 #[.int .u64 n, .int .u16 m] w fun e w' => e = .returned (.bool true) ∧ Below w.heap.size w w' := by
  obtain ⟨n, rfl⟩ : ∃ k : Nat, n = k := ⟨n.toNat, by omega⟩
  obtain ⟨m, rfl⟩ : ∃ k : Nat, m = k := ⟨m.toNat, by omega⟩
  have hu : n < 18446744073709551616 := by omega
  have hM : n ≤ M64 := by unfold M64; omega
  have l1 := dec_len 19 n (by have : (10 : Nat) ^ (19 + 1) = 100000000000000000000 := by decide
                              omega)
  have l2 := dec_len 4 m (by have : (10 : Nat) ^ (4 + 1) = 100000 := by decide
                             omega)
  have c1 : ((⟨#[48]⟩ : ByteArray) ++ ⟨(Lib.decDigits n).toArray⟩).data.toList = 48 :: Lib.decDigits n := by rw [app_list]; rfl
  have c2 : ((⟨(Lib.decDigits n).toArray⟩ : ByteArray) ++ ⟨(List.replicate 20 (48 : UInt8)).toArray⟩).data.toList = Lib.decDigits n ++ List.replicate 20 48 := by rw [app_list]
  have c3 : ((⟨#[117]⟩ : ByteArray) ++ ⟨(Lib.decDigits m).toArray⟩).data.toList = 117 :: Lib.decDigits m := by rw [app_list]; rfl
  have z3 : ((⟨#[117]⟩ : ByteArray) ++ ⟨(Lib.decDigits m).toArray⟩) = ⟨(117 :: Lib.decDigits m).toArray⟩ := by
    apply ByteArray.ext; apply Array.toList_inj.1; rw [c3]
  have main := fun k nm tx => words_at n m ⟨(Lib.decDigits n).toArray⟩ ⟨(List.replicate 20 (48 : UInt8)).toArray⟩ ⟨(Lib.decDigits m).toArray⟩ k nm tx w (by omega) (Lib.hid hu) (Lib.hid rfl) (Lib.hid rfl) (Lib.hid rfl)
    (by rw [size_mk]; omega) (by rw [size_mk]; simp) (by rw [size_mk]; omega) (Lib.hid (lex_dec n hM)) (Lib.hid (by rw [c1]; exact lex_zero n hM)) (Lib.hid (fun h => by rw [c2]; exact lex_far n hM h))
    (Lib.hid (fun h => by rw [c2, h]; exact lex_far0))
  by_cases h : 1 ≤ m ∧ m ≤ 64
  · exact main 3 m [] (Lib.hid (by rw [c3]; exact lex_type m h.1 h.2)) (Or.inl ⟨h.1, h.2, rfl, rfl, rfl⟩) ht he hp
  · exact main 1 0 (117 :: Lib.decDigits m) (Lib.hid (by rw [c3]; exact lex_name m (by omega) (by omega))) (Or.inr ⟨by omega, rfl, rfl, z3.symm⟩) ht he hp
end Go.Proofs.YtnanfedggmkboaaDoor
