/- The reference's Lex answers what the plain function says. -/
import Derived.Test.YtnanfedggmkboaaDoorLRefT
namespace Go.Proofs.YtnanfedggmkboaaDoor
open Go.RowKit

set_option maxHeartbeats 400000 in
theorem lexR_long (s : ByteArray) (w : World) (h : 4000 < s.size) (hs : s.size ≤ 9223372036854775807) :
    Calls Tryd.prog 12 #[.string s] w (LexPost s.data.toList w) := by
  have hl : s.data.toList.length = s.size := rfl
  have hx : lexS s.data.toList = ([], 2, 0) := lexS_long (by rw [hl]; exact h)
  have hE : ∀ e w', (e = Ending.returned (.tuple #[.slice none 0 0, .int .i64 2, .int .i64 0]) ∧ w' = w) → LexPost s.data.toList w e w' := by
    rintro e w' ⟨rfl, rfl⟩
    refine ⟨.slice none 0 0, ?_, ?_, Below.refl _ _⟩
    · rw [hx]; rfl
    · rw [hx]; exact World.ownsRow_nil _ _ _ _
  clear hl hx
  refine Calls.mono ?_ hE
  clear hE
  go_enter Tryd.func12, Tryd.ntmps12
  go_wp2
  go_ret3
  exact ⟨rfl, rfl⟩

theorem tok_all (s : ByteArray) (k N : Nat) (hk : k < s.size) (hN : tokLen (s.data.toList.drop k) = N) (hN1 : k + N ≤ s.size) (h0 : 0 < N) (hz : 0 < (s.extract k (k + N)).size) :
    isLet (s.extract k (k + N))[0] = false → isDig (s.extract k (k + N))[0] = true → ∀ b ∈ (s.extract k (k + N)).data.toList, isDig b = true := by
  intro hl hd
  have hXt : (s.extract k (k + N)).data.toList = (s.data.toList.drop k).take N := by rw [extract_mid]; congr 1; omega
  have hc := drop_cons s k hk
  have e0 : (s.extract k (k + N))[0] = s[k] := by
    have h1 : (s.extract k (k + N)).data.toList[0]'hz = s[k] := by
      simp only [hXt]
      rw [List.getElem_take, List.getElem_drop]
      rfl
    exact h1
  rw [e0] at hl hd
  rw [hc, tokLen, if_neg (by rw [hl]; simp), if_pos hd, ← hc] at hN
  rw [hXt]
  have := run_all isDig ((s.data.toList.drop k).take N) ((s.data.toList.drop k).drop N) (by
    rw [List.take_append_drop, hN, List.length_take, List.length_drop]
    have : s.data.toList.length = s.size := rfl
    omega)
  exact this.1

set_option maxRecDepth 100000 in
set_option maxHeartbeats 8000000 in
theorem lexR_short (s : ByteArray) (w : World) (h : s.size ≤ 4000) :
    Calls Tryd.prog 12 #[.string s] w (LexPost s.data.toList w) := by
  have hl : s.data.toList.length = s.size := rfl
  obtain ⟨i0, hi, hz0, hz1, hz2⟩ := info_parts Tryd.infoTok
  have hG := gapLen_le s.data.toList
  rw [hl] at hG
  go_enter Tryd.func12, Tryd.ntmps12
  go_wp2_with fail
  refine (gapR_any s 0 _ (Nat.zero_le _) (by omega)).mono ?_
  rintro e w0 ⟨rfl, D0⟩
  have hA : Hid (lexAt s.data.toList (gapLen s.data.toList) []) := Lib.hid (lexAt_start _)
  have hD0 : Below w.heap.size w w0 := D0.below
  clear D0
  go_wp2_with fail
  go_loopw [5, 6] (fun v a wr => LexRel s.data.toList w v (.int .i64 0) a wr) (fun _ a _ => s.size - (intOf a).toNat)
  case atStart => exact ⟨gapLen s.data.toList, [], by rw [hl]; exact hG, by simp, rfl, hA, by simp, World.ownsRow_nil _ _ _ _, hD0⟩
  case round =>
    rename_i wr
    obtain ⟨k, ts, hk, rfl, _, hL, h15, hT, hD⟩ := hrel
    rw [hl] at hk
    obtain ⟨A, c, rfl⟩ := hT.form
    clear hA hD0 hG
    by_cases hlt : k < s.size
    · obtain ⟨N, hN⟩ : ∃ N, tokLen (s.data.toList.drop k) = N := ⟨_, rfl⟩
      have hN1 : k + N ≤ s.size := by
        have := tokLen_le (s.data.toList.drop k)
        rw [List.length_drop, hl] at this; omega
      have HN := Lib.hid hN
      obtain ⟨E, hE⟩ : ∃ E, k + N = E := ⟨_, rfl⟩
      have HE : Hid (k + tokLen (s.data.toList.drop k) = E) := Lib.hid (by rw [hN, hE])
      clear hN
      go_wp2_with fail
      refine (endR_any s k E _ hlt (by omega) HE).mono ?_
      rintro e w1 ⟨rfl, hb1⟩
      by_cases hz : N = 0
      · have HX : Hid (lexS s.data.toList = ([], 10, k)) := Lib.hid (lexAt_err hL.out (by omega) (by omega) (by decide) (Or.inl ⟨by rw [HN.out, hz], rfl⟩))
        have hb : ((E : Int) == k) = true := by simp; omega
        clear hL HN HE
        go_wp2
        go_ret3
        exact lexPost_err HX rfl rfl (hD.trans (hb1.mono hD.size))
      · have hzN : 0 < N := by omega
        have hb : ((E : Int) == k) = false := by simp; omega
        by_cases h0 : ts.length = 1500
        · have HX : Hid (lexS s.data.toList = ([], 2, k)) := Lib.hid (lexAt_err hL.out (by omega) (by omega) (by decide) (Or.inr (Or.inl ⟨by rw [HN.out]; omega, h0, rfl⟩)))
          have h0b : 1500 ≤ (ts.length : Int) := by omega
          clear hL HN HE h0 hz
          go_wp2
          go_ret3
          exact lexPost_err HX rfl rfl (hD.trans (hb1.mono hD.size))
        · have h0b : ¬ 1500 ≤ (ts.length : Int) := by omega
          have hX0 : 0 < (s.extract k (k + N)).size := by simp; omega
          have hX1 : (s.extract k (k + N)).size ≤ 100000 := by simp; omega
          have hXt : (s.extract k (k + N)).data.toList = (s.data.toList.drop k).take N := by rw [extract_mid]; congr 1; omega
          obtain ⟨kd, tx, nm, er, hR⟩ : ∃ kd tx nm er, readT (s.extract k (k + N)).data.toList = ((kd, tx, nm), er) := ⟨_, _, _, _, rfl⟩
          have HR := Lib.hid hR
          have HR2 : Hid (readT ((s.data.toList.drop k).take (tokLen (s.data.toList.drop k))) = ((kd, tx, nm), er)) := Lib.hid (by rw [HN.out, ← hXt]; exact hR)
          have HA := Lib.hid (tok_all s k N hlt HN.out hN1 hzN hX0)
          have HT := Lib.hid (fun w => tokR_any (s.extract k (k + N)) k kd tx nm er hX0 hX1 (by omega) HR HA.out w)
          rw [hE] at HT
          clear hR hXt hz hX0 hX1 HR HA
          by_cases her : er = 0
          · subst her
            have HT0 : Hid (∀ w, Calls Tryd.prog 27 #[.string (s.extract k E), .int .i64 k] w fun e w' => e = .returned (.tuple #[.agg #[.int .i64 kd, .string ⟨tx.toArray⟩, .int .u64 nm, .int .i64 k], .int .i64 0]) ∧ Below w.heap.size w w') := Lib.hid HT.out
            clear HT
            go_wp2_with fail
            refine (HT0.out _).mono ?_
            rintro e w2 ⟨rfl, hb2⟩
            go_upto_region 14 with fail
            have hBa : Below wr.heap.size wr (w2.alloc (.cells #[.int .i64 kd, .string ⟨tx.toArray⟩, .int .u64 nm, .int .i64 k] 31)) := (hb1.trans (hb2.mono hb1.size)).alloc (by have := hb1.size; have := hb2.size; omega) _
            have d0 : (w2.alloc (.cells #[.int .i64 kd, .string ⟨tx.toArray⟩, .int .u64 nm, .int .i64 k] 31)).cell? ⟨w2.heap.size, 0, none⟩ = some (.int .i64 kd) := by simp [go_sem]
            have d1 : (w2.alloc (.cells #[.int .i64 kd, .string ⟨tx.toArray⟩, .int .u64 nm, .int .i64 k] 31)).cell? ⟨w2.heap.size, 1, none⟩ = some (.string ⟨tx.toArray⟩) := by simp [go_sem]
            have d2 : (w2.alloc (.cells #[.int .i64 kd, .string ⟨tx.toArray⟩, .int .u64 nm, .int .i64 k] 31)).cell? ⟨w2.heap.size, 2, none⟩ = some (.int .u64 nm) := by simp [go_sem]
            have d3 : (w2.alloc (.cells #[.int .i64 kd, .string ⟨tx.toArray⟩, .int .u64 nm, .int .i64 k] 31)).cell? ⟨w2.heap.size, 3, none⟩ = some (.int .i64 k) := by simp [go_sem]
            generalize w2.alloc (.cells #[.int .i64 kd, .string ⟨tx.toArray⟩, .int .u64 nm, .int .i64 k] 31) = W at *
            generalize w2.heap.size = B at *
            clear hb1 hb2 HT0
            have hT2 := hT.later hBa
            have hD2 := hD.trans (hBa.mono hD.size)
            clear hBa hT
            go_wp2_with (at_builtin; refine wpList_append_own _ rfl (.tmp 43) (.tmp 45) _ rfl w.heap.size 31 i0 _ 4 40 Tryd.underlying23 hi hz0 hz1 hz2 rfl (by decide) _ ts.length (toksV ts) rfl (World.ownsRow.alloc hT2 _) ⟨W.heap.size, 0, none⟩ 1 1 [.int .i64 kd, .string ⟨tx.toArray⟩, .int .u64 nm, .int .i64 k] rfl rfl ?c1 ?c2 ?c3 ?c4 ?c5 ?_)
            case c1 =>
              intro j u hj
              match j, hj with
              | 0, hj => simp at hj; subst hj; simp [Addr.add]
              | 1, hj => simp at hj; subst hj; simp [Addr.add]
              | 2, hj => simp at hj; subst hj; simp [Addr.add]
              | 3, hj => simp at hj; subst hj; simp [Addr.add]
            case c2 => intro u hu; simp at hu; rcases hu with rfl | rfl | rfl | rfl <;> rfl
            case c3 => unfold maxLen; omega
            case c4 => omega
            case c5 => have := hD2.size; simp; omega
            · intro v' w2 hown' hgrow _
              have hT3 : Toks w2 w.heap.size v' (ts ++ [mkTok (kd, tx, nm) k]) := by
                unfold Toks
                rw [toksV_append, List.length_append]
                exact hown'
              have hD3 : Below w.heap.size w w2 := (hD2.alloc hD2.size _).grown hgrow (by have := hD2.size; simp; omega) (fun g hg => (World.ownsRow.lt hT2 g hg).1)
              have hS : Hid (lexAt s.data.toList (k + N + gapLen (s.data.toList.drop (k + N))) (ts ++ [mkTok (kd, tx, nm) k])) := Lib.hid (by
                have := lexAt_step hL.out (by omega) (by rw [HN.out]; omega) h0 (by rw [HR2.out])
                rw [HN.out] at this
                have e := HR2.out
                rw [HN.out] at e
                rw [e] at this
                exact this)
              obtain ⟨G, hGe⟩ : ∃ G, E + gapLen (s.data.toList.drop E) = G := ⟨_, rfl⟩
              have hG2 : G ≤ s.size := by
                have := gapLen_le (s.data.toList.drop E)
                rw [List.length_drop, hl] at this; omega
              rw [hE, hGe] at hS
              have HGe := Lib.hid hGe
              have hG1 : k < G := by omega
              clear hGe hown' hgrow hT2 hD2 hL HN HR2 d0 d1 d2 d3 h0b HE hD
              go_wp2_with fail
              refine (gapR_any s E _ (by omega) (by omega)).mono ?_
              rintro e w3 ⟨rfl, D⟩
              rw [HGe.out]
              clear HGe
              have hT4 := hT3.later D.below
              have hD4 := hD3.trans (D.below.mono hD3.size)
              clear hT3 hD3 D
              go_wp2
              go_roundw
              case rel => exact ⟨G, ts ++ [mkTok (kd, tx, nm) k], by omega, rfl, rfl, hS, by simp; omega, hT4, hD4⟩
              case measure => simp [intOf]; omega
          · have HX : Hid (lexS s.data.toList = ([], er, k)) := Lib.hid (lexAt_err hL.out (by omega) (by omega) her (Or.inr (Or.inr ⟨by rw [HN.out]; omega, h0, by rw [HR2.out]⟩)))
            have hb' : ((er : Int) != 0) = true := by simp; omega
            clear hL HN h0 HR2 HE
            go_wp2_with fail
            refine (HT.out _).mono ?_
            rintro e w2 ⟨rfl, hb2⟩
            go_wp2
            go_ret3
            exact lexPost_err HX rfl rfl (hD.trans (Below.mono ((hb1.trans (hb2.mono hb1.size)).alloc (by have := hb1.size; have := hb2.size; omega) _) hD.size))
    · have HX : Hid (lexS s.data.toList = (ts, 0, 0)) := Lib.hid (lexAt_done hL.out (by omega) (by omega))
      clear hL
      go_wp2
      go_ret3
      exact lexPost_ok HX hT hD

theorem lexR_any (s : ByteArray) (w : World) (hs : s.size ≤ 9223372036854775807) :
    Calls Tryd.prog 12 #[.string s] w (LexPost s.data.toList w) := by
  by_cases h : s.size ≤ 4000
  · exact lexR_short s w h
  · exact lexR_long s w (by omega) hs
theorem lexR_at (s : ByteArray) (ts : List Tok) (x k : Nat) (w : World) (hs : s.size ≤ 9223372036854775807) (h : Hid (lexS s.data.toList = (ts, x, k))) :
    Calls Tryd.prog 12 #[.string s] w fun e w' => ∃ A c, e = .returned (.tuple #[.slice A ts.length c, .int .i64 x, .int .i64 k]) ∧ ts.length ≤ c ∧ c ≤ maxLen ∧ TRd w' A ts ∧ Below w.heap.size w w' := by
  refine (lexR_any s w hs).mono fun e w' ⟨v, he, hT, hB⟩ => ?_
  rw [h.out] at he hT
  obtain ⟨A, c, rfl, h1, h2, h3⟩ := hT.read
  exact ⟨A, c, he, h1, h2, h3, hB⟩
end Go.Proofs.YtnanfedggmkboaaDoor
