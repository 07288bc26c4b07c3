/- The document's own texts of tokens. -/
import Derived.Test.YtnanfedggmkboaaDoorLHead
import Derived.Test.YtnanfedggmkboaaDoorLPlain2
import Derived.Deep.RegionWith
import Derived.Laws.BytesArg
namespace Go.Proofs.YtnanfedggmkboaaDoor
open Go.RowKit

/-- One byte as a string. -/
theorem conv_one (W : World) (b : Nat) (x : Int) (h : W.cell? ⟨b, 0, none⟩ = some (.int .u8 x)) :
    (convert 39 9 (.slice (some ⟨b, 0, none⟩) 1 1)).run Tryd.prog W = .ok (.string ⟨#[UInt8.ofNat x.toNat]⟩) W :=
  run_convert_bytes_arg W 39 5 Tryd.underlying39 Tryd.underlying5 b 0 1 1 [x] rfl (fun i hi => by
    obtain rfl : i = 0 := by omega
    simpa using h) 9 Tryd.underlying9
theorem conv_new (W : World) (x : Int) (T : TypeId) :
    (convert 39 9 (.slice (some ⟨W.heap.size, 0, none⟩) 1 1)).run Tryd.prog (W.alloc (.cells #[.int .u8 x] T)) = .ok (.string ⟨#[UInt8.ofNat x.toNat]⟩) (W.alloc (.cells #[.int .u8 x] T)) :=
  conv_one _ _ x (by simp [go_sem])
theorem dec_byte (n : Nat) (h : n < 10) : (⟨#[UInt8.ofNat (48 + (n : Int)).toNat]⟩ : ByteArray) = ⟨(Lib.decDigits n).toArray⟩ := by
  rw [dec_one n h]
  have e : (48 + (n : Int)).toNat = 48 + n := by omega
  rw [e]

set_option maxRecDepth 100000 in
set_option maxHeartbeats 800000 in
theorem decimal_small (n : Nat) (h : n < 10) (w : World) :
    Calls Tryd.prog 28 #[.int .u64 n] w fun e w' => e = .returned (.string ⟨(Lib.decDigits n).toArray⟩) ∧ Below w.heap.size w w' := by
  have hcv := conv_new
  rw [← dec_byte n h]
  go_enter Tryd.func28, Tryd.ntmps28
  go_wp2_with fail
  go_ret
  exact ⟨rfl, (Below.refl _ _).alloc (Nat.le_refl _) _⟩
theorem below_drew {w w9 : World} (hb : Below w.drew.heap.size w.drew w9) : Below w.heap.size w w9 := (Drew.below (a := w) ⟨1, rfl⟩).trans hb
theorem below_new {w w9 : World} {o : Obj} (hb : Below (w.alloc o).drew.heap.size (w.alloc o).drew w9) : Below w.heap.size w w9 :=
  ((Below.refl w.heap.size w).alloc (Nat.le_refl _) o).trans ((below_drew hb).mono (by simp))
theorem wrap_u64 (n : Nat) (h : n ≤ M64) : IntKind.u64.wrap (n : Int) = (n : Int) := by
  unfold M64 at h
  simp [IntKind.wrap, IntKind.signed, IntKind.bits]; omega
set_option maxRecDepth 100000 in
set_option maxHeartbeats 1600000 in
theorem decimal_big (n q r : Nat) (h : ¬ (n : Int) < 10) (hq : IntKind.u64.wrap ((n : Int) / 10) = (q : Int)) (hr : (n : Int).tmod 10 = (r : Int)) (h10 : r < 10) (l : ByteArray) (hl : l.size ≤ 100000) (w : World) (D : Hid (∀ w, Calls Tryd.prog 28 #[.int .u64 q] w fun e w' => e = .returned (.string l) ∧ Below w.heap.size w w')) :
    Calls Tryd.prog 28 #[.int .u64 n] w fun e w' => e = .returned (.string (l ++ ⟨#[UInt8.ofNat (48 + r)]⟩)) ∧ Below w.heap.size w w' := by
  have hcv := conv_new
  have hcv2 := conv_one
  go_enter Tryd.func28, Tryd.ntmps28
  go_wp2_with fail
  go_region_with (first
      | (go_at_call 28; refine (D.out _).mono ?_; rintro e w9 ⟨rfl, hb⟩; obtain ⟨hc, hf⟩ := bcell hb))
  all_goals (go_wp2; go_simp)
  all_goals go_ret
  all_goals first
    | exact ⟨rfl, below_drew hb⟩
    | exact ⟨rfl, (below_drew hb).alloc (by have := hb.size; simp at this; omega) _⟩
    | exact ⟨rfl, below_new hb⟩

theorem size_mk (l : List UInt8) : (⟨l.toArray⟩ : ByteArray).size = l.length := by
  show l.toArray.size = _; simp
theorem decimal_any : ∀ (n : Nat), n ≤ M64 → ∀ w, Calls Tryd.prog 28 #[.int .u64 n] w fun e w' => e = .returned (.string ⟨(Lib.decDigits n).toArray⟩) ∧ Below w.heap.size w w' := fun n => by
  induction n using Nat.strongRecOn with
  | _ n ih =>
    intro hn w
    by_cases h : n < 10
    · exact decimal_small n h w
    · have hn' : n ≤ 18446744073709551615 := hn
      have hlen := dec_len 19 (n / 10) (by have : (10 : Nat) ^ (19 + 1) = 100000000000000000000 := by decide
                                           omega)
      have hq : IntKind.u64.wrap ((n : Int) / 10) = ((n / 10 : Nat) : Int) := by
        have : ((n : Int) / 10) = ((n / 10 : Nat) : Int) := by omega
        rw [this]; exact wrap_u64 _ (by omega)
      have hr : (n : Int).tmod 10 = ((n % 10 : Nat) : Int) := by
        rw [Int.tmod_eq_emod_of_nonneg (by omega)]; omega
      refine (decimal_big n (n / 10) (n % 10) (by omega) hq hr (by omega) ⟨(Lib.decDigits (n / 10)).toArray⟩ (by rw [size_mk]; omega) w (Lib.hid (ih (n / 10) (by omega) (by omega)))).mono fun e w' ⟨he, hb⟩ => ⟨?_, hb⟩
      have e2 : (⟨(Lib.decDigits (n / 10)).toArray⟩ ++ ⟨#[UInt8.ofNat (48 + n % 10)]⟩ : ByteArray) = ⟨(Lib.decDigits n).toArray⟩ := by
        apply ByteArray.ext
        rw [ByteArray.data_append]
        show (Lib.decDigits (n / 10)).toArray ++ #[UInt8.ofNat (48 + n % 10)] = (Lib.decDigits n).toArray
        rw [Lib.decDigits.eq_def n, dif_neg h]; simp
      rw [he, e2]

set_option maxRecDepth 100000 in
set_option maxHeartbeats 1600000 in
theorem text_num (tx : ByteArray) (n o : Nat) (hn : n ≤ M64) (w : World) :
    Calls Tryd.prog 14 #[.agg #[.int .i64 2, .string tx, .int .u64 n, .int .i64 o]] w fun e w' => e = .returned (.string ⟨(Lib.decDigits n).toArray⟩) ∧ Below w.heap.size w w' := by
  go_enter Tryd.func14, Tryd.ntmps14
  go_wp2_with (go_at_call 28; refine (decimal_any n hn _).mono ?_; rintro e w9 ⟨rfl, hb⟩)
  go_ret
  exact ⟨rfl, ((Below.refl _ _).alloc (Nat.le_refl _) _).trans (hb.mono (by simp))⟩
set_option maxRecDepth 100000 in
set_option maxHeartbeats 1600000 in
theorem text_typ (tx : ByteArray) (n o : Nat) (hn : n ≤ M64) (w : World) :
    Calls Tryd.prog 14 #[.agg #[.int .i64 3, .string tx, .int .u64 n, .int .i64 o]] w fun e w' => e = .returned (.string (⟨#[117]⟩ ++ ⟨(Lib.decDigits n).toArray⟩)) ∧ Below w.heap.size w w' := by
  have hlen := dec_len 19 n (by have : (10 : Nat) ^ (19 + 1) = 100000000000000000000 := by decide
                                unfold M64 at hn; omega)
  have hz : (⟨(Lib.decDigits n).toArray⟩ : ByteArray).size ≤ 100000 := by rw [size_mk]; omega
  have hD := Lib.hid (decimal_any n hn)
  generalize (⟨(Lib.decDigits n).toArray⟩ : ByteArray) = l at *
  clear hlen
  go_enter Tryd.func14, Tryd.ntmps14
  go_wp2_with (go_at_call 28; refine (hD.out _).mono ?_; rintro e w9 ⟨rfl, hb⟩)
  go_ret
  exact ⟨rfl, ((Below.refl _ _).alloc (Nat.le_refl _) _).trans (hb.mono (by simp))⟩
set_option maxRecDepth 100000 in
set_option maxHeartbeats 1600000 in
theorem text_txt (k : Nat) (tx : ByteArray) (n o : Nat) (h2 : ¬ (k : Int) = 2) (h3 : ¬ (k : Int) = 3) (w : World) :
    Calls Tryd.prog 14 #[.agg #[.int .i64 k, .string tx, .int .u64 n, .int .i64 o]] w fun e w' => e = .returned (.string tx) ∧ Below w.heap.size w w' := by
  have b2 : ((k : Int) == 2) = false := by simpa using h2
  have b3 : ((k : Int) == 3) = false := by simpa using h3
  go_enter Tryd.func14, Tryd.ntmps14
  go_wp2
  go_ret
  exact ⟨rfl, ((Below.refl _ _).alloc (Nat.le_refl _) _)⟩
theorem text_any (k : Nat) (tx : List UInt8) (n o : Nat) (hn : n ≤ M64) (w : World) :
    Calls Tryd.prog 14 #[.agg #[.int .i64 k, .string ⟨tx.toArray⟩, .int .u64 n, .int .i64 o]] w fun e w' => e = .returned (.string ⟨(textV (k, tx, n)).toArray⟩) ∧ Below w.heap.size w w' := by
  by_cases h2 : k = 2
  · subst h2
    exact text_num _ n o hn w
  · by_cases h3 : k = 3
    · subst h3
      refine (text_typ ⟨tx.toArray⟩ n o hn w).mono fun e w' ⟨he, hb⟩ => ⟨?_, hb⟩
      rw [he, textV, if_neg (by simp), if_pos rfl]
      have e2 : (⟨#[117]⟩ ++ ⟨(Lib.decDigits n).toArray⟩ : ByteArray) = ⟨(117 :: Lib.decDigits n).toArray⟩ := by
        apply ByteArray.ext
        rw [ByteArray.data_append]; simp
      rw [e2]
    · rw [show textV (k, tx, n) = tx by rw [textV, if_neg (by simpa using h2), if_neg (by simpa using h3)]]
      exact text_txt k _ n o (by omega) (by omega) w

end Go.Proofs.YtnanfedggmkboaaDoor
