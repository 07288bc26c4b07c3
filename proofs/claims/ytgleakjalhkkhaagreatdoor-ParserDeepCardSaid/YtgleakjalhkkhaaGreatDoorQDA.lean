/- Joined texts: PDeepA, PDeepP. -/
import Derived.Test.YtgleakjalhkkhaaGreatDoorQW1
import Derived.Test.YtgleakjalhkkhaaGreatDoorQW2
import Derived.Test.YtgleakjalhkkhaaGreatDoorQW3
import Derived.Test.YtgleakjalhkkhaaGreatDoorQF
import Derived.Test.YtgleakjalhkkhaaGreatDoorCards
import Derived.Stop.Joined
import Derived.ChangeMaps5

/- ParserDeep: every argument. -/
namespace Go.Proofs.YtgleakjalhkkhaaGreatDoor
open Go.RowKit

theorem ba_list (x y : ByteArray) : (x ++ y).data.toList = x.data.toList ++ y.data.toList := by rw [ByteArray.data_append, Array.toList_append]
theorem ba_size (x : ByteArray) : x.size = x.data.toList.length := by show x.data.size = _; simp
theorem src_size (i k : Nat) (hi : i < 5) (hk : k < 200) : (dSrc i k).length ≤ 4000 ∧ (Lib.repeatL (dB i) k).length ≤ 1800 ∧ (Lib.repeatL (dD i) k).length ≤ 1800 := by
  unfold dSrc
  simp only [List.length_append, Lib.repeatL_length]
  match i, hi with
  | 0, _ => simp [dA, dB, dC, dD, dE, kParse]; omega
  | 1, _ => simp [dA, dB, dC, dD, dE, kParse]; omega
  | 2, _ => simp [dA, dB, dC, dD, dE, kParse]; omega
  | 3, _ => simp [dA, dB, dC, dD, dE, kParse]; omega
  | 4, _ => simp [dA, dB, dC, dD, dE, kParse]; omega
theorem deep_any (a b : Int) (W : World) (ha : 0 ≤ a ∧ a < 256) (hb : 0 ≤ b ∧ b < 256) (hp : PV W) :
    Calls Tryz.prog 9 #[.int .u8 a, .int .u8 b] W fun e w' => e = .returned (.bool true) ∧ Below W.heap.size W w' := by
  have ea : a.tmod 200 = a % 200 := Int.tmod_eq_emod_of_nonneg ha.1
  have eb : b.tmod 5 = b % 5 := Int.tmod_eq_emod_of_nonneg hb.1
  obtain ⟨k, hk⟩ : ∃ k : Nat, a.tmod 200 = (k : Int) := ⟨(a % 200).toNat, by rw [ea]; omega⟩
  have hk2 : k < 200 := by omega
  have hi : b.tmod 5 = 0 ∨ b.tmod 5 = 1 ∨ b.tmod 5 = 2 ∨ b.tmod 5 = 3 ∨ b.tmod 5 = 4 := by omega
  rcases hi with hi | hi | hi | hi | hi
  · have hs : (({ data := #[112, 97, 114, 115, 101, 32, 123, 32, 108, 101, 116, 32, 97, 32, 61, 32] } : ByteArray) ++ (⟨(Lib.repeatL (dB 0) k).toArray⟩ : ByteArray) ++ ({ data := #[108, 101, 110] } : ByteArray) ++ (⟨(Lib.repeatL (dD 0) k).toArray⟩ : ByteArray) ++ ({ data := #[59, 32, 125] } : ByteArray)).data.toList = dSrc 0 k := by simp only [ba_list]; rfl
    obtain ⟨s1, s2, s3⟩ := src_size 0 k (by omega) hk2
    have r1 : RepC ({ data := #[126] } : ByteArray) k ⟨(Lib.repeatL (dB 0) k).toArray⟩ := repMk ({ data := #[126] } : ByteArray) k hk2 (by decide)
    have r3 : RepC ({ data := #[] } : ByteArray) k ⟨(Lib.repeatL (dD 0) k).toArray⟩ := repMk ({ data := #[] } : ByteArray) k hk2 (by decide)
    have z1 : ((⟨(Lib.repeatL (dB 0) k).toArray⟩ : ByteArray)).size ≤ 1800 := by rw [ba_size]; simpa using s2
    have z3 : ((⟨(Lib.repeatL (dD 0) k).toArray⟩ : ByteArray)).size ≤ 1800 := by rw [ba_size]; simpa using s3
    have zS : ¬ (4000 < (({ data := #[112, 97, 114, 115, 101, 32, 123, 32, 108, 101, 116, 32, 97, 32, 61, 32] } : ByteArray) ++ (⟨(Lib.repeatL (dB 0) k).toArray⟩ : ByteArray) ++ ({ data := #[108, 101, 110] } : ByteArray) ++ (⟨(Lib.repeatL (dD 0) k).toArray⟩ : ByteArray) ++ ({ data := #[59, 32, 125] } : ByteArray)).size) := by rw [ba_size, hs]; omega
    by_cases hl : dLev 0 ≤ k
    · exact deepw_0 a b k W hp ha hb hk hi _ _ (Lib.hid r1) (Lib.hid r3) z1 z3 (Lib.hid zS) (Lib.hid (by rw [hs]; exact deep_big 0 k (by omega) hl hk2)) (by have : dLev 0 = 9 := rfl; omega)
    · obtain ⟨t, h1, h2, h3⟩ := deep_small 0 k (by omega) (by omega)
      exact deepv_0 a b k W hp ha hb hk hi _ _ (Lib.hid r1) (Lib.hid r3) z1 z3 (Lib.hid zS) t (Lib.hid (by rw [hs]; exact h1)) h2 h3 (by have : dLev 0 = 9 := rfl; omega)
  · have hs : (({ data := #[112, 97, 114, 115, 101, 32, 123, 32, 108, 101, 116, 32, 97, 32, 61, 32] } : ByteArray) ++ (⟨(Lib.repeatL (dB 1) k).toArray⟩ : ByteArray) ++ ({ data := #[108, 101, 110] } : ByteArray) ++ (⟨(Lib.repeatL (dD 1) k).toArray⟩ : ByteArray) ++ ({ data := #[59, 32, 125] } : ByteArray)).data.toList = dSrc 1 k := by simp only [ba_list]; rfl
    obtain ⟨s1, s2, s3⟩ := src_size 1 k (by omega) hk2
    have r1 : RepC ({ data := #[40] } : ByteArray) k ⟨(Lib.repeatL (dB 1) k).toArray⟩ := repMk ({ data := #[40] } : ByteArray) k hk2 (by decide)
    have r3 : RepC ({ data := #[43, 108, 101, 110, 41] } : ByteArray) k ⟨(Lib.repeatL (dD 1) k).toArray⟩ := repMk ({ data := #[43, 108, 101, 110, 41] } : ByteArray) k hk2 (by decide)
    have z1 : ((⟨(Lib.repeatL (dB 1) k).toArray⟩ : ByteArray)).size ≤ 1800 := by rw [ba_size]; simpa using s2
    have z3 : ((⟨(Lib.repeatL (dD 1) k).toArray⟩ : ByteArray)).size ≤ 1800 := by rw [ba_size]; simpa using s3
    have zS : ¬ (4000 < (({ data := #[112, 97, 114, 115, 101, 32, 123, 32, 108, 101, 116, 32, 97, 32, 61, 32] } : ByteArray) ++ (⟨(Lib.repeatL (dB 1) k).toArray⟩ : ByteArray) ++ ({ data := #[108, 101, 110] } : ByteArray) ++ (⟨(Lib.repeatL (dD 1) k).toArray⟩ : ByteArray) ++ ({ data := #[59, 32, 125] } : ByteArray)).size) := by rw [ba_size, hs]; omega
    by_cases hl : dLev 1 ≤ k
    · exact deepw_1 a b k W hp ha hb hk hi _ _ (Lib.hid r1) (Lib.hid r3) z1 z3 (Lib.hid zS) (Lib.hid (by rw [hs]; exact deep_big 1 k (by omega) hl hk2)) (by have : dLev 1 = 9 := rfl; omega)
    · obtain ⟨t, h1, h2, h3⟩ := deep_small 1 k (by omega) (by omega)
      exact deepv_1 a b k W hp ha hb hk hi _ _ (Lib.hid r1) (Lib.hid r3) z1 z3 (Lib.hid zS) t (Lib.hid (by rw [hs]; exact h1)) h2 h3 (by have : dLev 1 = 9 := rfl; omega)
  · have hs : (({ data := #[112, 97, 114, 115, 101, 32] } : ByteArray) ++ (⟨(Lib.repeatL (dB 2) k).toArray⟩ : ByteArray) ++ ({ data := #[123, 125] } : ByteArray) ++ (⟨(Lib.repeatL (dD 2) k).toArray⟩ : ByteArray) ++ ({ data := #[] } : ByteArray)).data.toList = dSrc 2 k := by simp only [ba_list]; rfl
    obtain ⟨s1, s2, s3⟩ := src_size 2 k (by omega) hk2
    have r1 : RepC ({ data := #[123, 32, 105, 102, 32, 108, 101, 110, 32] } : ByteArray) k ⟨(Lib.repeatL (dB 2) k).toArray⟩ := repMk ({ data := #[123, 32, 105, 102, 32, 108, 101, 110, 32] } : ByteArray) k hk2 (by decide)
    have r3 : RepC ({ data := #[125] } : ByteArray) k ⟨(Lib.repeatL (dD 2) k).toArray⟩ := repMk ({ data := #[125] } : ByteArray) k hk2 (by decide)
    have z1 : ((⟨(Lib.repeatL (dB 2) k).toArray⟩ : ByteArray)).size ≤ 1800 := by rw [ba_size]; simpa using s2
    have z3 : ((⟨(Lib.repeatL (dD 2) k).toArray⟩ : ByteArray)).size ≤ 1800 := by rw [ba_size]; simpa using s3
    have zS : ¬ (4000 < (({ data := #[112, 97, 114, 115, 101, 32] } : ByteArray) ++ (⟨(Lib.repeatL (dB 2) k).toArray⟩ : ByteArray) ++ ({ data := #[123, 125] } : ByteArray) ++ (⟨(Lib.repeatL (dD 2) k).toArray⟩ : ByteArray) ++ ({ data := #[] } : ByteArray)).size) := by rw [ba_size, hs]; omega
    by_cases hl : dLev 2 ≤ k
    · exact deepw_2 a b k W hp ha hb hk hi _ _ (Lib.hid r1) (Lib.hid r3) z1 z3 (Lib.hid zS) (Lib.hid (by rw [hs]; exact deep_big 2 k (by omega) hl hk2)) (by have : dLev 2 = 10 := rfl; omega)
    · obtain ⟨t, h1, h2, h3⟩ := deep_small 2 k (by omega) (by omega)
      exact deepv_2 a b k W hp ha hb hk hi _ _ (Lib.hid r1) (Lib.hid r3) z1 z3 (Lib.hid zS) t (Lib.hid (by rw [hs]; exact h1)) h2 h3 (by have : dLev 2 = 10 := rfl; omega)
  · have hs : (({ data := #[112, 97, 114, 115, 101, 32, 123, 32, 108, 101, 116, 32, 97, 32, 61, 32] } : ByteArray) ++ (⟨(Lib.repeatL (dB 3) k).toArray⟩ : ByteArray) ++ ({ data := #[108, 101, 110] } : ByteArray) ++ (⟨(Lib.repeatL (dD 3) k).toArray⟩ : ByteArray) ++ ({ data := #[59, 32, 125] } : ByteArray)).data.toList = dSrc 3 k := by simp only [ba_list]; rfl
    obtain ⟨s1, s2, s3⟩ := src_size 3 k (by omega) hk2
    have r1 : RepC ({ data := #[117, 56, 40] } : ByteArray) k ⟨(Lib.repeatL (dB 3) k).toArray⟩ := repMk ({ data := #[117, 56, 40] } : ByteArray) k hk2 (by decide)
    have r3 : RepC ({ data := #[41] } : ByteArray) k ⟨(Lib.repeatL (dD 3) k).toArray⟩ := repMk ({ data := #[41] } : ByteArray) k hk2 (by decide)
    have z1 : ((⟨(Lib.repeatL (dB 3) k).toArray⟩ : ByteArray)).size ≤ 1800 := by rw [ba_size]; simpa using s2
    have z3 : ((⟨(Lib.repeatL (dD 3) k).toArray⟩ : ByteArray)).size ≤ 1800 := by rw [ba_size]; simpa using s3
    have zS : ¬ (4000 < (({ data := #[112, 97, 114, 115, 101, 32, 123, 32, 108, 101, 116, 32, 97, 32, 61, 32] } : ByteArray) ++ (⟨(Lib.repeatL (dB 3) k).toArray⟩ : ByteArray) ++ ({ data := #[108, 101, 110] } : ByteArray) ++ (⟨(Lib.repeatL (dD 3) k).toArray⟩ : ByteArray) ++ ({ data := #[59, 32, 125] } : ByteArray)).size) := by rw [ba_size, hs]; omega
    by_cases hl : dLev 3 ≤ k
    · exact deepw_3 a b k W hp ha hb hk hi _ _ (Lib.hid r1) (Lib.hid r3) z1 z3 (Lib.hid zS) (Lib.hid (by rw [hs]; exact deep_big 3 k (by omega) hl hk2)) (by have : dLev 3 = 9 := rfl; omega)
    · obtain ⟨t, h1, h2, h3⟩ := deep_small 3 k (by omega) (by omega)
      exact deepv_3 a b k W hp ha hb hk hi _ _ (Lib.hid r1) (Lib.hid r3) z1 z3 (Lib.hid zS) t (Lib.hid (by rw [hs]; exact h1)) h2 h3 (by have : dLev 3 = 9 := rfl; omega)
  · have hs : (({ data := #[112, 97, 114, 115, 101, 32, 123, 32, 108, 101, 116, 32, 97, 32, 61, 32] } : ByteArray) ++ (⟨(Lib.repeatL (dB 4) k).toArray⟩ : ByteArray) ++ ({ data := #[108, 101, 110] } : ByteArray) ++ (⟨(Lib.repeatL (dD 4) k).toArray⟩ : ByteArray) ++ ({ data := #[59, 32, 125] } : ByteArray)).data.toList = dSrc 4 k := by simp only [ba_list]; rfl
    obtain ⟨s1, s2, s3⟩ := src_size 4 k (by omega) hk2
    have r1 : RepC ({ data := #[105, 110, 91] } : ByteArray) k ⟨(Lib.repeatL (dB 4) k).toArray⟩ := repMk ({ data := #[105, 110, 91] } : ByteArray) k hk2 (by decide)
    have r3 : RepC ({ data := #[93] } : ByteArray) k ⟨(Lib.repeatL (dD 4) k).toArray⟩ := repMk ({ data := #[93] } : ByteArray) k hk2 (by decide)
    have z1 : ((⟨(Lib.repeatL (dB 4) k).toArray⟩ : ByteArray)).size ≤ 1800 := by rw [ba_size]; simpa using s2
    have z3 : ((⟨(Lib.repeatL (dD 4) k).toArray⟩ : ByteArray)).size ≤ 1800 := by rw [ba_size]; simpa using s3
    have zS : ¬ (4000 < (({ data := #[112, 97, 114, 115, 101, 32, 123, 32, 108, 101, 116, 32, 97, 32, 61, 32] } : ByteArray) ++ (⟨(Lib.repeatL (dB 4) k).toArray⟩ : ByteArray) ++ ({ data := #[108, 101, 110] } : ByteArray) ++ (⟨(Lib.repeatL (dD 4) k).toArray⟩ : ByteArray) ++ ({ data := #[59, 32, 125] } : ByteArray)).size) := by rw [ba_size, hs]; omega
    by_cases hl : dLev 4 ≤ k
    · exact deepw_4 a b k W hp ha hb hk hi _ _ (Lib.hid r1) (Lib.hid r3) z1 z3 (Lib.hid zS) (Lib.hid (by rw [hs]; exact deep_big 4 k (by omega) hl hk2)) (by have : dLev 4 = 9 := rfl; omega)
    · obtain ⟨t, h1, h2, h3⟩ := deep_small 4 k (by omega) (by omega)
      exact deepv_4 a b k W hp ha hb hk hi _ _ (Lib.hid r1) (Lib.hid r3) z1 z3 (Lib.hid zS) t (Lib.hid (by rw [hs]; exact h1)) h2 h3 (by have : dLev 4 = 9 := rfl; omega)
end Go.Proofs.YtgleakjalhkkhaaGreatDoor

/- ParserDeep: for every input the statement's function returns true, and the input reads afterwards as it read before; the listed package-level variables start as the program's text lays them (the card ties them to it). No other condition. -/
namespace Go.Proofs.YtgleakjalhkkhaaGreatDoor
open Go.ChangeShapes Go.WideShapes Go.ChangeAt Go.RowKit Go.Joins Go.ChangeMaps

set_option maxRecDepth 100000 in
theorem parserDeep_lifted (os : Os) (started : os.Started) (H : Type) (enc : TypeId × Value → H) :
    ReturnsInHanded {} Tryz.checked os 9 .any (fun w args => (Rows.parserDeepSpec.pre enc Tryz.prog Tryz.f9 [] false w args ∧ laidMetH Tryz.prog laidP w) ∧ sizedMet enc Tryz.prog Tryz.f9 (OpenSpec.ofChange Rows.parserDeepSpec) false w args)
      (Rows.parserDeepSpec.post enc Tryz.prog Tryz.f9 false true false false) := by
  refine returnsInHanded_of_change_and (C := Tryz.checked) (X := fun w _ => laidMetH Tryz.prog laidP w) (fun _ _ _ hh h => h.of_heap hh) Tryz.own started (by kernel_rfl) Tryz.func9
    (ChangeSpec.witness_shaped (enc := enc) (C := Tryz.checked) (os := os) (X := fun w _ => laidMetH Tryz.prog laidP w) false (World.laidAll Tryz.prog os laidP) #[.int .u8 0, .int .u8 0] 8 (World.laidAll_os _ _ _) (World.shaped_of_ZipB (by kernel_rfl) (by kernel_rfl)) (by kernel_rfl) (by kernel_rfl) (by kernel_rfl) (lay_met os _)) ?_
  intro W base args ds gs before hval0 hW _ _ hL0 _
  have hL : laidMet Tryz.prog laidP W := by rw [← MakeChecks.laidMetH_plain _ _ _ (by kernel_rfl)]; exact hL0
  have hval : ∀ (j : Nat) t v, Tryz.f9.params[j]? = some t → args[j]? = some v → Value.okWide Tryz.prog W .any base t v := hval0
  have hW' := hW
  obtain ⟨p, q, hA0, hV, rfl, hfz, hnd⟩ := hW
  have hA : DataW.TrodAll enc Tryz.prog W 0 (fun _ => true) true Tryz.f9.params.toList args.toList ds p := hA0
  rw [Tryz.params9] at hA hval
  obtain ⟨v0, vs0, d0, ds0, p0, q0, hargs, rfl, rfl, h0, r0⟩ := trodAll_cons hA
  obtain ⟨v1, vs1, d1, ds1, p1, q1, rfl, rfl, rfl, h1, r1⟩ := trodAll_cons r0
  obtain ⟨rfl, rfl, rfl⟩ := trodAll_nil r1
  obtain rfl : args = #[v0, v1] := by cases args; simp_all
  obtain ⟨rfl, rfl⟩ := trodVars_none hV
  simp only [List.append_nil] at hW'
  have hlt : ∀ x ∈ p0 ++ (p1), x.block < W.heap.size := fun x hx => by simpa using hW'.lt x hx
  have h0k := h0
  obtain ⟨x0, rfl, rfl, hp0, wx0⟩ := open_int Tryz.underlying5 (hval 0 5 v0 rfl rfl) h0
  have h1k := h1
  obtain ⟨x1, rfl, rfl, hp1, wx1⟩ := open_int Tryz.underlying5 (hval 1 5 v1 rfl rfl) h1
  clear hA0 hval0
  refine (deep_any x0 x1 W (wf_u8 wx0) (wf_u8 wx1) (pv_of_laid hL)).mono fun e W' ⟨he, hB⟩ => ?_
  subst he
  refine ⟨_, rfl, _, _, _, [], p0 ++ (p1 ++ []), [], hW', trodAll_mk1 (shut_bool Tryz.underlying4 _), ?_, rfl, hB.frame _, fun h => by cases h⟩
  exact trodAll_cons_mk (Below.trod Tryz.laidOut (by kernel_rfl) (of_decide_eq_true (by kernel_rfl)) h0k hB (fun x hx => hlt x (by simp [hx]))) (trodAll_cons_mk (Below.trod Tryz.laidOut (by kernel_rfl) (of_decide_eq_true (by kernel_rfl)) h1k hB (fun x hx => hlt x (by simp [hx]))) (trodAll_mk0))

theorem parserDeep_said : Rows.ParserDeepSaid :=
  OpenClaim.holds_of_wide 9 Tryz.f9 rfl rfl rfl rfl rfl rfl rfl ⟨rfl, rfl, rfl, rfl, rfl⟩ rfl rfl rfl rfl rfl (by kernel_rfl) Tryz.func9 (by kernel_rfl)
    (of_decide_eq_true (by kernel_rfl)) (by unfold Func.isWrapper; first | (rw [if_pos (by decide +kernel)]; kernel_rfl) | (rw [if_neg (by decide +kernel)]; exact ⟨rfl, rfl⟩))
    (fun os started H enc _ => parserDeep_lifted os started H enc)

theorem parserDeep_holds : Rows.ParserDeepCardSaid :=
  Claim7.holds_tied_plain_at .later [] [.data, .data, .data, .data, .sentinel, .sentinel, .data, .data, .pinned] true Rows.parserDeepCard.stood.harness true
    parserDeep_said (fun _ h => by cases h) (by kernel_rfl) (fun _ h => by cases h) parserDeep_row_tie rfl ⟨rfl, rfl⟩ (by kernel_rfl) rfl
    (fun f fn hf hfn => by
      obtain rfl : f = 9 := Option.some.inj ((show Tryz.prog.funcNamed "formfinder/formfinderlaw03.ParserDeep" = some 9 by kernel_rfl).symm.trans hf) |>.symm
      obtain rfl : fn = Tryz.f9 := (Option.some.inj (Tryz.func9.symm.trans hfn)).symm
      exact ⟨by kernel_rfl, fun j t ht => by
        rw [Tryz.params9] at ht
        have hm : t ∈ ([5, 5] : List Nat) := by simpa using Array.mem_of_getElem? ht
        have hall : (([5, 5] : List Nat).all fun u => !Tryz.prog.wantsStandIn u) = true := by kernel_rfl
        exact (show Tryz.prog.wantsStandIn t = false by simpa using List.all_eq_true.1 hall t hm)⟩)
    (by kernel_rfl)
#print axioms parserDeep_holds
end Go.Proofs.YtgleakjalhkkhaaGreatDoor
