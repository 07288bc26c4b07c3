/- HeapValid: for every input the statement's function returns true, and the input reads afterwards as it read before. No condition. -/
import Derived.Test.YteekppohhjlmmaaHpHd
import Derived.Test.YteekppohhjlmmaaHpSam
import Derived.Test.YteekppohhjlmmaaHpMis
import Derived.Test.YteekppohhjlmmaaHpCop
import Derived.Test.YteekppohhjlmmaaHpFr
import Derived.ProofKit
import Derived.Lib.SmallJoins
namespace Go.Proofs.Yteekppohhjlmmaa
open Go.ChangeShapes Go.WideShapes Go.ChangeAt Go.RowKit Go.Joins

def NewC (m : List Ob) (f e : Int) : Prop := (e = 1 ∧ f = 0) ∨ (e = 0 ∧ f = 5) ∨ (e = 0 ∧ f = 0 ∧ obsV m = true ∧ oks m)
def ActC (m : List Ob) (f e : Int) : Prop := (e = 0 ∧ (f != 0) = true) ∨ (e = 0 ∧ f = 0 ∧ obsV m = true ∧ oks m)
theorem newC (l : List Ob) (ws : List Int) (hv : obsV l = true) (ho : oks l) (hi : ∀ n ∈ ws, I64 n) : NewC (newR l ws).1 (newR l ws).2.2.1 (newR l ws).2.2.2 := by
  cases hw : ws.all wV with
  | false =>
    have hR : newR l ws = ([], 0, 0, 1) := by unfold newR; rw [if_pos (by rw [hv, hw]; rfl)]
    rw [hR]; exact Or.inl ⟨rfl, rfl⟩
  | true =>
    by_cases h : l.length = 8 ∨ 16 < ws.length
    · rw [new_full hv hw h]; exact Or.inr (Or.inl ⟨rfl, rfl⟩)
    · rw [new_ok hv hw (by omega) (by omega)]
      exact Or.inr (Or.inr ⟨rfl, rfl, new_valid hv hw (by omega) (by omega), new_oks ho hi⟩)
theorem putC {l : List Ob} {obj k : Int} (h : hasO l obj = true) (h0 : 0 ≤ k) (ho : oks l) (v : Int) : ActC (putR l obj k v).1 (putR l obj k v).2.1 (putR l obj k v).2.2 := by
  by_cases hit : Hit l obj k
  · rw [hit_put hit]; exact Or.inr ⟨rfl, rfl, hit_valid hit h0 v, hit_oks hit h0 ho v⟩
  · obtain ⟨f, hR, hf⟩ := put_miss h hit v
    rw [hR]; exact Or.inl ⟨rfl, by simpa using hf⟩
theorem freeC {l : List Ob} {obj : Int} (h : hasO l obj = true) (ho : oks l) : ActC (freeR l obj).1 (freeR l obj).2.1 (freeR l obj).2.2 := by
  cases hg : (obAt l obj.toNat).g with
  | true => rw [gone_free h hg]; exact Or.inl ⟨rfl, rfl⟩
  | false => rw [free_has h hg]; exact Or.inr ⟨rfl, rfl, free_valid h, free_oks h ho⟩
theorem hval (w : World) (m : List Ob) (A : Option Addr) (c : Nat) (h : ObSl w A c m) (hv : obsV m = true) : Calls Try.prog 15 #[.slice A m.length c] w fun e w' => e = .returned (.bool true) ∧ Below w.heap.size w w' := by
  have := Valid_any m w A c h
  rwa [hv] at this
theorem hrval (w : World) (m : List Ob) (A : Option Addr) (c : Nat) (h : ObSl w A c m) (hv : obsV m = true) (ho : oks m) : Calls Try.prog 16 #[.slice A m.length c] w fun e w' => e = .returned (.bool true) ∧ Below w.heap.size w w' := by
  have := RValid_any m w A c h ho
  rwa [hv] at this
set_option maxRecDepth 100000 in
set_option maxHeartbeats 4800000 in
theorem HeapValid_any (l : List Ob) (ws : List Int) (obj : Int) (k : Nat) (v : Int) (w : World) (A Aw : Option Addr) (c cw : Nat) (hs : ObSl w A c l) (ho : oks l) (hr : IRow w Aw ws) (hi : ∀ n ∈ ws, I64 n) (hw : ws.length ≤ maxLen) (hv : U64 v) :
    Calls Try.prog 9 #[.slice A l.length c, .slice Aw ws.length cw, .int .i64 obj, .int .u64 (k : Nat), .int .u64 v] w fun e w' => e = .returned (.bool true) ∧ Below w.heap.size w w' := by
  have hU : ∀ w1, Below w.heap.size w w1 → _ := fun w1 h1 => usable_any l obj w1 A c (hs.later h1) ho
  cases hh : hasO l obj with
  | false =>
    rw [hh] at hU
    clear hs ho hr hi hh
    go_enter Try.func9, Try.ntmps9
    go_wp2_with fail
    refine (head_any _).mono ?_
    rintro e w1 ⟨rfl, b1⟩
    have hU := hU w1 b1
    go_wp2_with fail
    refine hU.mono ?_
    rintro e w2 ⟨rfl, b2⟩
    have b2 := b1.trans (b2.mono b1.size)
    clear hU b1
    go_wp2
    go_ret
    exact ⟨rfl, b2⟩
  | true =>
    rw [hh] at hU
    by_cases h40 : 40 < ws.length
    · have hd : (40 : Int) < (ws.length : Int) := by omega
      clear hs ho hr hi hh h40
      go_enter Try.func9, Try.ntmps9
      go_wp2_with fail
      refine (head_any _).mono ?_
      rintro e w1 ⟨rfl, b1⟩
      have hU := hU w1 b1
      go_wp2_with fail
      refine hU.mono ?_
      rintro e w2 ⟨rfl, b2⟩
      have b2 := b1.trans (b2.mono b1.size)
      clear hU b1
      go_wp2
      go_ret
      exact ⟨rfl, b2⟩
    · have hd : ¬ (40 : Int) < (ws.length : Int) := by omega
      have hva := (hasO_iff.1 hh).1
      have hl8 := obsV_len hva
      have hN : ∀ w1, Below w.heap.size w w1 → _ := fun w1 h1 => New_any l ws w1 A Aw c cw (hs.later h1) (hr.later h1) hw
      have hP : ∀ w1, Below w.heap.size w w1 → _ := fun w1 h1 => Put_any l obj k v w1 A c (hs.later h1) hv
      have hF : ∀ w1, Below w.heap.size w w1 → _ := fun w1 h1 => Free_any l obj w1 A c (hs.later h1)
      have hC : ∀ w1, Below w.heap.size w w1 → _ := fun w1 h1 => RCopy_any l w1 A c (hs.later h1) (few_of_valid hva)
      have hsame : ∀ (w1 : World) (A2 : Option Addr) (c2 : Nat), ObSl w1 A c l → ObSl w1 A2 c2 l → _ := fun w1 A2 c2 h1 h2 => Same_eq l w1 A A2 c c2 h1 h2 (by omega) (fun t ht => Nat.le_trans (obV_len (obsV_mem hva _ (obAt_mem ht))) (by decide))
      unfold NewAns at hN
      unfold ObAns at hP hF
      have cN := newC l ws hva ho hi
      have cP := putC (k := (k : Int)) hh (by omega) ho v
      have cF := freeC hh ho
      generalize newR l ws = R1 at hN cN
      generalize putR l obj (k : Int) v = R2 at hP cP
      generalize freeR l obj = R3 at hF cF
      obtain ⟨m1, n1, f1, r1⟩ := R1
      obtain ⟨m2, f2, r2⟩ := R2
      obtain ⟨m3, f3, r3⟩ := R3
      simp only at hN hP hF cN cP cF
      have hhs := Lib.hid hs
      clear hs ho hr hi hh h40 hw hv hva
      go_enter Try.func9, Try.ntmps9
      go_wp2_with fail
      refine (head_any _).mono ?_
      rintro e w1 ⟨rfl, b1⟩
      have hU := hU w1 b1
      go_wp2_with fail
      refine hU.mono ?_
      rintro e w2 ⟨rfl, b2⟩
      have b2 := b1.trans (b2.mono b1.size)
      clear hU b1
      have hC := hC w2 b2
      go_wp2_with fail
      refine hC.mono ?_
      rintro e w3 ⟨⟨vb, V, rfl, hT⟩, b3⟩
      obtain ⟨Ab, cb, eb, hb3⟩ := hT.sl
      subst eb
      have b3 := b2.trans (b3.mono b2.size)
      have hN := hN w3 b3
      clear hC b2 hT
      go_wp2_with fail
      refine hN.mono ?_
      rintro e w4 ⟨A4, c4, rfl, ha, b4⟩
      have hb4 := hb3.later b4
      have b4 := b3.trans (b4.mono b3.size)
      have hP := hP w4 b4
      clear hN b3 hb3
      go_wp2_with fail
      refine hP.mono ?_
      rintro e w5 ⟨A5, c5, rfl, hbb, b5⟩
      have hb5 := hb4.later b5
      have ha := ha.later b5
      have b5 := b4.trans (b5.mono b4.size)
      have hF := hF w5 b5
      clear hP b4 hb4
      go_wp2_with fail
      refine hF.mono ?_
      rintro e w7 ⟨A6, c6, rfl, hcc, b7⟩
      have hb7 := hb5.later b7
      have ha := ha.later b7
      have hbb := hbb.later b7
      have b7 := b5.trans (b7.mono b5.size)
      have hl7 := hhs.out.later b7
      have hsame := fun w1 => hsame w1 Ab cb
      clear hF b5 hb5
      go_upto_region 8 with fail
      rcases cN with ⟨rfl, rfl⟩ | ⟨rfl, rfl⟩ | ⟨rfl, rfl, va1, oa1⟩
      · rcases cP with ⟨rfl, q2⟩ | ⟨rfl, rfl, va2, oa2⟩
        · rcases cF with ⟨rfl, q3⟩ | ⟨rfl, rfl, va3, oa3⟩
          · go_wp2_with fail
            refine (hsame _ hl7 hb7).mono ?_
            rintro e w8 ⟨rfl, b8⟩
            have b8 := b7.trans (b8.mono b7.size)
            go_wp2
            go_ret
            exact ⟨rfl, b8⟩
          · go_wp2_with fail
            refine (hval _ m3 A6 c6 hcc va3).mono ?_
            rintro e w8 ⟨rfl, b8⟩
            have hl7 := hl7.later b8
            have hb7 := hb7.later b8
            have hcc := hcc.later b8
            have b8 := b7.trans (b8.mono b7.size)
            go_wp2_with fail
            refine (hrval _ m3 A6 c6 hcc va3 oa3).mono ?_
            rintro e w9 ⟨rfl, b9⟩
            have hl7 := hl7.later b9
            have hb7 := hb7.later b9
            have b9 := b8.trans (b9.mono b8.size)
            go_wp2_with fail
            refine (hsame _ hl7 hb7).mono ?_
            rintro e w10 ⟨rfl, b10⟩
            have b10 := b9.trans (b10.mono b9.size)
            go_wp2
            go_ret
            exact ⟨rfl, b10⟩
        · rcases cF with ⟨rfl, q3⟩ | ⟨rfl, rfl, va3, oa3⟩
          · go_wp2_with fail
            refine (hval _ m2 A5 c5 hbb va2).mono ?_
            rintro e w8 ⟨rfl, b8⟩
            have hl7 := hl7.later b8
            have hb7 := hb7.later b8
            have hbb := hbb.later b8
            have b8 := b7.trans (b8.mono b7.size)
            go_wp2_with fail
            refine (hrval _ m2 A5 c5 hbb va2 oa2).mono ?_
            rintro e w9 ⟨rfl, b9⟩
            have hl7 := hl7.later b9
            have hb7 := hb7.later b9
            have b9 := b8.trans (b9.mono b8.size)
            go_wp2_with fail
            refine (hsame _ hl7 hb7).mono ?_
            rintro e w10 ⟨rfl, b10⟩
            have b10 := b9.trans (b10.mono b9.size)
            go_wp2
            go_ret
            exact ⟨rfl, b10⟩
          · go_wp2_with fail
            refine (hval _ m2 A5 c5 hbb va2).mono ?_
            rintro e w8 ⟨rfl, b8⟩
            have hl7 := hl7.later b8
            have hb7 := hb7.later b8
            have hbb := hbb.later b8
            have hcc := hcc.later b8
            have b8 := b7.trans (b8.mono b7.size)
            go_wp2_with fail
            refine (hrval _ m2 A5 c5 hbb va2 oa2).mono ?_
            rintro e w9 ⟨rfl, b9⟩
            have hl7 := hl7.later b9
            have hb7 := hb7.later b9
            have hcc := hcc.later b9
            have b9 := b8.trans (b9.mono b8.size)
            go_wp2_with fail
            refine (hval _ m3 A6 c6 hcc va3).mono ?_
            rintro e w10 ⟨rfl, b10⟩
            have hl7 := hl7.later b10
            have hb7 := hb7.later b10
            have hcc := hcc.later b10
            have b10 := b9.trans (b10.mono b9.size)
            go_wp2_with fail
            refine (hrval _ m3 A6 c6 hcc va3 oa3).mono ?_
            rintro e w11 ⟨rfl, b11⟩
            have hl7 := hl7.later b11
            have hb7 := hb7.later b11
            have b11 := b10.trans (b11.mono b10.size)
            go_wp2_with fail
            refine (hsame _ hl7 hb7).mono ?_
            rintro e w12 ⟨rfl, b12⟩
            have b12 := b11.trans (b12.mono b11.size)
            go_wp2
            go_ret
            exact ⟨rfl, b12⟩
      · rcases cP with ⟨rfl, q2⟩ | ⟨rfl, rfl, va2, oa2⟩
        · rcases cF with ⟨rfl, q3⟩ | ⟨rfl, rfl, va3, oa3⟩
          · go_wp2_with fail
            refine (hsame _ hl7 hb7).mono ?_
            rintro e w8 ⟨rfl, b8⟩
            have b8 := b7.trans (b8.mono b7.size)
            go_wp2
            go_ret
            exact ⟨rfl, b8⟩
          · go_wp2_with fail
            refine (hval _ m3 A6 c6 hcc va3).mono ?_
            rintro e w8 ⟨rfl, b8⟩
            have hl7 := hl7.later b8
            have hb7 := hb7.later b8
            have hcc := hcc.later b8
            have b8 := b7.trans (b8.mono b7.size)
            go_wp2_with fail
            refine (hrval _ m3 A6 c6 hcc va3 oa3).mono ?_
            rintro e w9 ⟨rfl, b9⟩
            have hl7 := hl7.later b9
            have hb7 := hb7.later b9
            have b9 := b8.trans (b9.mono b8.size)
            go_wp2_with fail
            refine (hsame _ hl7 hb7).mono ?_
            rintro e w10 ⟨rfl, b10⟩
            have b10 := b9.trans (b10.mono b9.size)
            go_wp2
            go_ret
            exact ⟨rfl, b10⟩
        · rcases cF with ⟨rfl, q3⟩ | ⟨rfl, rfl, va3, oa3⟩
          · go_wp2_with fail
            refine (hval _ m2 A5 c5 hbb va2).mono ?_
            rintro e w8 ⟨rfl, b8⟩
            have hl7 := hl7.later b8
            have hb7 := hb7.later b8
            have hbb := hbb.later b8
            have b8 := b7.trans (b8.mono b7.size)
            go_wp2_with fail
            refine (hrval _ m2 A5 c5 hbb va2 oa2).mono ?_
            rintro e w9 ⟨rfl, b9⟩
            have hl7 := hl7.later b9
            have hb7 := hb7.later b9
            have b9 := b8.trans (b9.mono b8.size)
            go_wp2_with fail
            refine (hsame _ hl7 hb7).mono ?_
            rintro e w10 ⟨rfl, b10⟩
            have b10 := b9.trans (b10.mono b9.size)
            go_wp2
            go_ret
            exact ⟨rfl, b10⟩
          · go_wp2_with fail
            refine (hval _ m2 A5 c5 hbb va2).mono ?_
            rintro e w8 ⟨rfl, b8⟩
            have hl7 := hl7.later b8
            have hb7 := hb7.later b8
            have hbb := hbb.later b8
            have hcc := hcc.later b8
            have b8 := b7.trans (b8.mono b7.size)
            go_wp2_with fail
            refine (hrval _ m2 A5 c5 hbb va2 oa2).mono ?_
            rintro e w9 ⟨rfl, b9⟩
            have hl7 := hl7.later b9
            have hb7 := hb7.later b9
            have hcc := hcc.later b9
            have b9 := b8.trans (b9.mono b8.size)
            go_wp2_with fail
            refine (hval _ m3 A6 c6 hcc va3).mono ?_
            rintro e w10 ⟨rfl, b10⟩
            have hl7 := hl7.later b10
            have hb7 := hb7.later b10
            have hcc := hcc.later b10
            have b10 := b9.trans (b10.mono b9.size)
            go_wp2_with fail
            refine (hrval _ m3 A6 c6 hcc va3 oa3).mono ?_
            rintro e w11 ⟨rfl, b11⟩
            have hl7 := hl7.later b11
            have hb7 := hb7.later b11
            have b11 := b10.trans (b11.mono b10.size)
            go_wp2_with fail
            refine (hsame _ hl7 hb7).mono ?_
            rintro e w12 ⟨rfl, b12⟩
            have b12 := b11.trans (b12.mono b11.size)
            go_wp2
            go_ret
            exact ⟨rfl, b12⟩
      · rcases cP with ⟨rfl, q2⟩ | ⟨rfl, rfl, va2, oa2⟩
        · rcases cF with ⟨rfl, q3⟩ | ⟨rfl, rfl, va3, oa3⟩
          · go_wp2_with fail
            refine (hval _ m1 A4 c4 ha va1).mono ?_
            rintro e w8 ⟨rfl, b8⟩
            have hl7 := hl7.later b8
            have hb7 := hb7.later b8
            have ha := ha.later b8
            have b8 := b7.trans (b8.mono b7.size)
            go_wp2_with fail
            refine (hrval _ m1 A4 c4 ha va1 oa1).mono ?_
            rintro e w9 ⟨rfl, b9⟩
            have hl7 := hl7.later b9
            have hb7 := hb7.later b9
            have b9 := b8.trans (b9.mono b8.size)
            go_wp2_with fail
            refine (hsame _ hl7 hb7).mono ?_
            rintro e w10 ⟨rfl, b10⟩
            have b10 := b9.trans (b10.mono b9.size)
            go_wp2
            go_ret
            exact ⟨rfl, b10⟩
          · go_wp2_with fail
            refine (hval _ m1 A4 c4 ha va1).mono ?_
            rintro e w8 ⟨rfl, b8⟩
            have hl7 := hl7.later b8
            have hb7 := hb7.later b8
            have ha := ha.later b8
            have hcc := hcc.later b8
            have b8 := b7.trans (b8.mono b7.size)
            go_wp2_with fail
            refine (hrval _ m1 A4 c4 ha va1 oa1).mono ?_
            rintro e w9 ⟨rfl, b9⟩
            have hl7 := hl7.later b9
            have hb7 := hb7.later b9
            have hcc := hcc.later b9
            have b9 := b8.trans (b9.mono b8.size)
            go_wp2_with fail
            refine (hval _ m3 A6 c6 hcc va3).mono ?_
            rintro e w10 ⟨rfl, b10⟩
            have hl7 := hl7.later b10
            have hb7 := hb7.later b10
            have hcc := hcc.later b10
            have b10 := b9.trans (b10.mono b9.size)
            go_wp2_with fail
            refine (hrval _ m3 A6 c6 hcc va3 oa3).mono ?_
            rintro e w11 ⟨rfl, b11⟩
            have hl7 := hl7.later b11
            have hb7 := hb7.later b11
            have b11 := b10.trans (b11.mono b10.size)
            go_wp2_with fail
            refine (hsame _ hl7 hb7).mono ?_
            rintro e w12 ⟨rfl, b12⟩
            have b12 := b11.trans (b12.mono b11.size)
            go_wp2
            go_ret
            exact ⟨rfl, b12⟩
        · rcases cF with ⟨rfl, q3⟩ | ⟨rfl, rfl, va3, oa3⟩
          · go_wp2_with fail
            refine (hval _ m1 A4 c4 ha va1).mono ?_
            rintro e w8 ⟨rfl, b8⟩
            have hl7 := hl7.later b8
            have hb7 := hb7.later b8
            have ha := ha.later b8
            have hbb := hbb.later b8
            have b8 := b7.trans (b8.mono b7.size)
            go_wp2_with fail
            refine (hrval _ m1 A4 c4 ha va1 oa1).mono ?_
            rintro e w9 ⟨rfl, b9⟩
            have hl7 := hl7.later b9
            have hb7 := hb7.later b9
            have hbb := hbb.later b9
            have b9 := b8.trans (b9.mono b8.size)
            go_wp2_with fail
            refine (hval _ m2 A5 c5 hbb va2).mono ?_
            rintro e w10 ⟨rfl, b10⟩
            have hl7 := hl7.later b10
            have hb7 := hb7.later b10
            have hbb := hbb.later b10
            have b10 := b9.trans (b10.mono b9.size)
            go_wp2_with fail
            refine (hrval _ m2 A5 c5 hbb va2 oa2).mono ?_
            rintro e w11 ⟨rfl, b11⟩
            have hl7 := hl7.later b11
            have hb7 := hb7.later b11
            have b11 := b10.trans (b11.mono b10.size)
            go_wp2_with fail
            refine (hsame _ hl7 hb7).mono ?_
            rintro e w12 ⟨rfl, b12⟩
            have b12 := b11.trans (b12.mono b11.size)
            go_wp2
            go_ret
            exact ⟨rfl, b12⟩
          · go_wp2_with fail
            refine (hval _ m1 A4 c4 ha va1).mono ?_
            rintro e w8 ⟨rfl, b8⟩
            have hl7 := hl7.later b8
            have hb7 := hb7.later b8
            have ha := ha.later b8
            have hbb := hbb.later b8
            have hcc := hcc.later b8
            have b8 := b7.trans (b8.mono b7.size)
            go_wp2_with fail
            refine (hrval _ m1 A4 c4 ha va1 oa1).mono ?_
            rintro e w9 ⟨rfl, b9⟩
            have hl7 := hl7.later b9
            have hb7 := hb7.later b9
            have hbb := hbb.later b9
            have hcc := hcc.later b9
            have b9 := b8.trans (b9.mono b8.size)
            go_wp2_with fail
            refine (hval _ m2 A5 c5 hbb va2).mono ?_
            rintro e w10 ⟨rfl, b10⟩
            have hl7 := hl7.later b10
            have hb7 := hb7.later b10
            have hbb := hbb.later b10
            have hcc := hcc.later b10
            have b10 := b9.trans (b10.mono b9.size)
            go_wp2_with fail
            refine (hrval _ m2 A5 c5 hbb va2 oa2).mono ?_
            rintro e w11 ⟨rfl, b11⟩
            have hl7 := hl7.later b11
            have hb7 := hb7.later b11
            have hcc := hcc.later b11
            have b11 := b10.trans (b11.mono b10.size)
            go_wp2_with fail
            refine (hval _ m3 A6 c6 hcc va3).mono ?_
            rintro e w12 ⟨rfl, b12⟩
            have hl7 := hl7.later b12
            have hb7 := hb7.later b12
            have hcc := hcc.later b12
            have b12 := b11.trans (b12.mono b11.size)
            go_wp2_with fail
            refine (hrval _ m3 A6 c6 hcc va3 oa3).mono ?_
            rintro e w13 ⟨rfl, b13⟩
            have hl7 := hl7.later b13
            have hb7 := hb7.later b13
            have b13 := b12.trans (b13.mono b12.size)
            go_wp2_with fail
            refine (hsame _ hl7 hb7).mono ?_
            rintro e w14 ⟨rfl, b14⟩
            have b14 := b13.trans (b14.mono b13.size)
            go_wp2
            go_ret
            exact ⟨rfl, b14⟩

set_option maxRecDepth 100000 in
theorem heapValid_lifted (os : Os) (started : os.Started) (H : Type) (enc : TypeId × Value → H) :
    ReturnsInHanded {} Try.checked os 9 .any (Rows.heapValidSpec.pre6 enc Try.prog Try.f9 Rows.heapValidRow.domain false) (Rows.heapValidSpec.post enc Try.prog Try.f9 false true false false) := by
  refine returnsInHanded_of_change (C := Try.checked) Try.own started (by kernel_rfl) Try.func9
    (ChangeSpec.witness6 (enc := enc) (C := Try.checked) false ⟨#[], #[.slice none 0 0, .slice none 0 0, .int .i64 0, .int .u64 0, .int .u64 0], []⟩ 8 (by kernel_rfl) (by kernel_rfl) (by kernel_rfl) (by kernel_rfl)) ?_
  intro W base args ds gs before hval0 hW hcnd _
  have hval : ∀ (j : Nat) t v, Try.f9.params[j]? = some t → args[j]? = some v → Value.okWide Try.prog W .any base t v := hval0
  have hW' := hW
  obtain ⟨p, q, hA0, hV, rfl, hfz, hnd⟩ := hW
  have hA : DataW.TrodAll enc Try.prog W 0 (fun _ => true) true Try.f9.params.toList args.toList ds p := hA0
  rw [Try.params9] at hA hval
  obtain ⟨v0, vs0, d0, ds0, p0, q0, hargs, rfl, rfl, h0, r0⟩ := trodAll_cons hA
  obtain ⟨v1, vs1, d1, ds1, p1, q1, rfl, rfl, rfl, h1, r1⟩ := trodAll_cons r0
  obtain ⟨v2, vs2, d2, ds2, p2, q2, rfl, rfl, rfl, h2, r2⟩ := trodAll_cons r1
  obtain ⟨v3, vs3, d3, ds3, p3, q3, rfl, rfl, rfl, h3, r3⟩ := trodAll_cons r2
  obtain ⟨v4, vs4, d4, ds4, p4, q4, rfl, rfl, rfl, h4, r4⟩ := trodAll_cons r3
  obtain ⟨rfl, rfl, rfl⟩ := trodAll_nil r4
  obtain rfl : args = #[v0, v1, v2, v3, v4] := by cases args; simp_all
  obtain ⟨rfl, rfl⟩ := trodVars_none hV
  simp only [List.append_nil] at hW'
  have hlt : ∀ x ∈ p0 ++ (p1 ++ (p2 ++ (p3 ++ (p4)))), x.block < W.heap.size := fun x hx => by simpa using hW'.lt x hx
  have h0k := h0
  obtain ⟨l0, A0, c0, rfl, hs0, ho0⟩ := obs_open (hval 0 22 v0 rfl rfl) h0
  have h1k := h1
  obtain ⟨l1, A1, c1, rfl, hr1, hi1, hl1⟩ := ints_open (hval 1 23 v1 rfl rfl) h1
  have h2k := h2
  obtain ⟨x2, rfl, rfl, hp2, wx2⟩ := open_int (show Try.prog.underlying 3 = some (.int .i64) by kernel_rfl) (hval 2 3 v2 rfl rfl) h2
  have h3k := h3
  obtain ⟨x3, rfl, rfl, hp3, wx3⟩ := open_int (show Try.prog.underlying 24 = some (.int .u64) by kernel_rfl) (hval 3 24 v3 rfl rfl) h3
  obtain ⟨n3, rfl, hu3⟩ := u64_nat wx3
  have h4k := h4
  obtain ⟨x4, rfl, rfl, hp4, wx4⟩ := open_int (show Try.prog.underlying 24 = some (.int .u64) by kernel_rfl) (hval 4 24 v4 rfl rfl) h4
  have hu4 := wf_u64 wx4
  clear hA0 hval0
  refine (HeapValid_any l0 l1 x2 n3 x4 W A0 A1 c0 c1 hs0 ho0 hr1 hi1 hl1 hu4).mono fun e W' ⟨he, hB⟩ => ?_
  subst he
  refine ⟨_, rfl, _, _, _, [], p0 ++ (p1 ++ (p2 ++ (p3 ++ (p4 ++ [])))), [], hW', trodAll_mk1 (shut_bool Try.underlying4 _), ?_, rfl, hB.frame _, fun h => by cases h⟩
  exact trodAll_cons_mk (Below.trod Try.laidOut (by kernel_rfl) (of_decide_eq_true (by kernel_rfl)) h0k hB (fun x hx => hlt x (by simp [hx]))) (trodAll_cons_mk (Below.trod Try.laidOut (by kernel_rfl) (of_decide_eq_true (by kernel_rfl)) h1k hB (fun x hx => hlt x (by simp [hx]))) (trodAll_cons_mk (Below.trod Try.laidOut (by kernel_rfl) (of_decide_eq_true (by kernel_rfl)) h2k hB (fun x hx => hlt x (by simp [hx]))) (trodAll_cons_mk (Below.trod Try.laidOut (by kernel_rfl) (of_decide_eq_true (by kernel_rfl)) h3k hB (fun x hx => hlt x (by simp [hx]))) (trodAll_cons_mk (Below.trod Try.laidOut (by kernel_rfl) (of_decide_eq_true (by kernel_rfl)) h4k hB (fun x hx => hlt x (by simp [hx]))) (trodAll_mk0)))))

theorem heapValid_holds : Rows.HeapValidSaid :=
  OpenClaim.holds_of_wide 9 Try.f9 rfl rfl rfl rfl rfl rfl rfl ⟨rfl, rfl, rfl, rfl, rfl⟩ rfl rfl rfl rfl rfl (by kernel_rfl) Try.func9 (by kernel_rfl)
    (of_decide_eq_true (by kernel_rfl)) (by unfold Func.isWrapper; first | (rw [if_neg (of_decide_eq_false (by kernel_rfl))]; exact ⟨rfl, rfl⟩) | (rw [if_pos (by decide +kernel)]; kernel_rfl) | (rw [if_neg (by decide +kernel)]; exact ⟨rfl, rfl⟩))
    (fun os started H enc _ => heapValid_lifted os started H enc)
#print axioms heapValid_holds
end Go.Proofs.Yteekppohhjlmmaa
