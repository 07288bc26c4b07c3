/- Joined texts: PHeadF, PHead. -/
import Derived.Test.YtmkehecapjdfdaaGreatDoorQV5
import Derived.Test.YtmkehecapjdfdaaGreatDoorQT
import Derived.Test.YtmkehecapjdfdaaGreatDoorQB1
import Derived.Test.YtmkehecapjdfdaaGreatDoorQV2
import Derived.Test.YtmkehecapjdfdaaGreatDoorQV4
import Derived.Test.YtmkehecapjdfdaaGreatDoorShelf

/- The check of known sources: its calls. -/
namespace Go.Proofs.YtmkehecapjdfdaaGreatDoor
open Go.RowKit

def hT1 : T := .mk 1 [] [] 0 0 0 [.mk 6 [] [] 0 0 6 [.mk 7 [97] [] 0 0 8 [.mk 23 [] [] 0 0 16 [.mk 21 [] [] 0 8 19 []]], .mk 15 [] [] 0 0 26 [.mk 27 [] [] 11 0 29 [.mk 22 [97] [] 0 0 30 [], .mk 21 [] [] 7 8 35 []], .mk 6 [] [] 0 0 41 [.mk 18 [] [] 0 0 43 []]], .mk 19 [] [] 1 0 53 []]]
def hG1 : G := (G.mk 1 ⟨#[]⟩ ⟨#[]⟩ 0 0 0 [(G.mk 6 ⟨#[]⟩ ⟨#[]⟩ 0 0 6 [(G.mk 7 ⟨#[97]⟩ ⟨#[]⟩ 0 0 8 [(G.mk 23 ⟨#[]⟩ ⟨#[]⟩ 0 0 16 [(G.mk 21 ⟨#[]⟩ ⟨#[]⟩ 0 8 19 [])])]), (G.mk 15 ⟨#[]⟩ ⟨#[]⟩ 0 0 26 [(G.mk 27 ⟨#[]⟩ ⟨#[]⟩ 11 0 29 [(G.mk 22 ⟨#[97]⟩ ⟨#[]⟩ 0 0 30 []), (G.mk 21 ⟨#[]⟩ ⟨#[]⟩ 7 8 35 [])]), (G.mk 6 ⟨#[]⟩ ⟨#[]⟩ 0 0 41 [(G.mk 18 ⟨#[]⟩ ⟨#[]⟩ 0 0 43 [])])]), (G.mk 19 ⟨#[]⟩ ⟨#[]⟩ 1 0 53 [])])])
def hGb : G := (G.mk 6 ⟨#[]⟩ ⟨#[]⟩ 0 0 6 [(G.mk 7 ⟨#[97]⟩ ⟨#[]⟩ 0 0 8 [(G.mk 23 ⟨#[]⟩ ⟨#[]⟩ 0 0 16 [(G.mk 21 ⟨#[]⟩ ⟨#[]⟩ 0 8 19 [])])]), (G.mk 15 ⟨#[]⟩ ⟨#[]⟩ 0 0 26 [(G.mk 27 ⟨#[]⟩ ⟨#[]⟩ 11 0 29 [(G.mk 22 ⟨#[97]⟩ ⟨#[]⟩ 0 0 30 []), (G.mk 21 ⟨#[]⟩ ⟨#[]⟩ 7 8 35 [])]), (G.mk 6 ⟨#[]⟩ ⟨#[]⟩ 0 0 41 [(G.mk 18 ⟨#[]⟩ ⟨#[]⟩ 0 0 43 [])])]), (G.mk 19 ⟨#[]⟩ ⟨#[]⟩ 1 0 53 [])])
def hGs : G := (G.mk 6 ⟨#[]⟩ ⟨#[]⟩ 0 0 0 [(G.mk 18 ⟨#[]⟩ ⟨#[]⟩ 0 0 0 [])])
theorem hs1 : sameG hT1.toG hG1 = true := by kernel_rfl
theorem hs2 : sameG (T.mk 6 [] [] 0 0 0 [T.mk 18 [] [] 0 0 0 []]).toG hGs = true := by kernel_rfl
theorem hv1 : validT hT1.toG = true := by kernel_rfl
theorem hv2 : validT hGb = false := by kernel_rfl
theorem hk1 : okG hT1.toG := by simp [hT1, T.toG, T.toG.toGs, okG, okL]; decide
theorem hk2 : okG hGb := by simp [hGb, okG, okL]; decide
theorem h_same1 (w : World) (A1 : Option Addr) (c1 b : Nat) (g1 : gAt w hT1.toG (.slice A1 1 c1)) (g2 : gAt w hG1 (Value.slice (some { block := b, off := 0 }) 1 1)) :
    Calls Tryz.prog 14 #[.agg #[Value.int IntKind.i64 1, Value.string { data := #[] }, Value.string { data := #[] }, Value.int IntKind.u64 0, Value.int IntKind.i64 0, Value.int IntKind.i64 0, Value.slice A1 1 c1], .agg #[Value.int IntKind.i64 1, Value.string { data := #[] }, Value.string { data := #[] }, Value.int IntKind.u64 0, Value.int IntKind.i64 0, Value.int IntKind.i64 0, Value.slice (some { block := b, off := 0 }) 1 1]] w fun e w' => e = .returned (.bool true) ∧ Below w.heap.size w w' := by
  have h := same_all hT1.toG hG1 w A1 (some ⟨b, 0, none⟩) c1 1 g1 g2
  rw [hs1] at h
  exact h
theorem h_valid1 (w : World) (A1 : Option Addr) (c1 : Nat) (g1 : gAt w hT1.toG (.slice A1 1 c1)) (hp : PV w) :
    Calls Tryz.prog 16 #[.agg #[Value.int IntKind.i64 1, Value.string { data := #[] }, Value.string { data := #[] }, Value.int IntKind.u64 0, Value.int IntKind.i64 0, Value.int IntKind.i64 0, Value.slice A1 1 c1]] w fun e w' => e = .returned (.bool true) ∧ Below w.heap.size w w' := by
  have h := Valid_any hT1.toG hk1 w A1 c1 g1 hp
  rw [hv1] at h
  exact h
theorem h_valid2 (w : World) (b : Nat) (g1 : gAt w hGb (Value.slice (some { block := b, off := 0 }) 3 3)) (hp : PV w) :
    Calls Tryz.prog 16 #[.agg #[Value.int IntKind.i64 6, Value.string { data := #[] }, Value.string { data := #[] }, Value.int IntKind.u64 0, Value.int IntKind.i64 0, Value.int IntKind.i64 6, Value.slice (some { block := b, off := 0 }) 3 3]] w fun e w' => e = .returned (.bool false) ∧ Below w.heap.size w w' := by
  have h := Valid_any hGb hk2 w (some ⟨b, 0, none⟩) 3 g1 hp
  rw [hv2] at h
  exact h
theorem h_strip (w : World) (b : Nat) (g1 : gAt w (G.mk 6 ⟨#[]⟩ ⟨#[]⟩ 0 0 41 [(G.mk 18 ⟨#[]⟩ ⟨#[]⟩ 0 0 43 [])]) (Value.slice (some { block := b, off := 0 }) 1 1)) :
    Calls Tryz.prog 18 #[.agg #[Value.int IntKind.i64 6, Value.string { data := #[] }, Value.string { data := #[] }, Value.int IntKind.u64 0, Value.int IntKind.i64 0, Value.int IntKind.i64 41, Value.slice (some { block := b, off := 0 }) 1 1]] w fun e w' => ∃ KA KC, e = .returned (.agg #[Value.int IntKind.i64 6, Value.string { data := #[] }, Value.string { data := #[] }, Value.int IntKind.u64 0, Value.int IntKind.i64 0, Value.int IntKind.i64 0, Value.slice KA 1 KC]) ∧ gAt w' (T.mk 6 [] [] 0 0 0 [T.mk 18 [] [] 0 0 0 []]).toG (.slice KA 1 KC) ∧ Below w.heap.size w w' := by
  have h := Strip_any (T.mk 6 [] [] 0 0 41 [T.mk 18 [] [] 0 0 43 []]) (by simp [fewT, fewTs]) (by decide) w (some ⟨b, 0, none⟩) 1 g1
  refine h.mono ?_
  rintro e w' ⟨KA, KC, he, nd, hb⟩
  exact ⟨KA, KC, he, gAt_node _ _ nd, hb⟩
theorem h_same2 (w : World) (KA : Option Addr) (KC b : Nat) (g1 : gAt w (T.mk 6 [] [] 0 0 0 [T.mk 18 [] [] 0 0 0 []]).toG (.slice KA 1 KC)) (g2 : gAt w hGs (Value.slice (some { block := b, off := 0 }) 1 1)) :
    Calls Tryz.prog 14 #[.agg #[Value.int IntKind.i64 6, Value.string { data := #[] }, Value.string { data := #[] }, Value.int IntKind.u64 0, Value.int IntKind.i64 0, Value.int IntKind.i64 0, Value.slice KA 1 KC], .agg #[Value.int IntKind.i64 6, Value.string { data := #[] }, Value.string { data := #[] }, Value.int IntKind.u64 0, Value.int IntKind.i64 0, Value.int IntKind.i64 0, Value.slice (some { block := b, off := 0 }) 1 1]] w fun e w' => e = .returned (.bool true) ∧ Below w.heap.size w w' := by
  have h := same_all (T.mk 6 [] [] 0 0 0 [T.mk 18 [] [] 0 0 0 []]).toG hGs w KA (some ⟨b, 0, none⟩) KC 1 g1 g2
  rw [hs2] at h
  exact h
/-- One offset as an argument. -/
theorem irow1 (w : World) (T : TypeId) (k : Nat) : IRow (w.alloc (.cells #[.int .i64 k] T)) (some ⟨w.heap.size, 0, none⟩) [k] := by
  intro i hi
  have : i = 0 := by simpa using hi
  subst this
  exact ⟨w.heap.size, 0, rfl, (Box.new w T #[.int .i64 k]).cell 0⟩
theorem irow3 (w : World) (T : TypeId) (k l m : Nat) : IRow (w.alloc (.cells #[.int .i64 k, .int .i64 l, .int .i64 m] T)) (some ⟨w.heap.size, 0, none⟩) [k, l, m] := by
  intro i hi
  have hi : i < 3 := hi
  have hc := (Box.new w T #[.int .i64 k, .int .i64 l, .int .i64 m]).cell
  match i, hi with
  | 0, _ => exact ⟨w.heap.size, 0, rfl, hc 0⟩
  | 1, _ => exact ⟨w.heap.size, 0, rfl, hc 1⟩
  | 2, _ => exact ⟨w.heap.size, 0, rfl, hc 2⟩
end Go.Proofs.YtmkehecapjdfdaaGreatDoor

/- The check of known sources: its literals. -/
namespace Go.Proofs.YtmkehecapjdfdaaGreatDoor
open Go.RowKit

theorem happ_list (a b : Array UInt8) : (({ data := a } : ByteArray) ++ { data := b }).data = a ++ b := by
  rw [ByteArray.data_append]
theorem happ_size (a b : Array UInt8) : (({ data := a } : ByteArray) ++ { data := b }).size = a.size + b.size := by
  rw [ByteArray.size_append]; rfl
theorem h_rep (s : ByteArray) (c : Nat) (l : List UInt8) (w : World) (hc : 2 ≤ c) (hl : s.size * c ≤ 100000) (h0 : 0 < s.size) (hc2 : c ≤ 1000) (h : Hid (Lib.repeatL s.data.toList c = l)) :
    Calls Tryz.prog 28 #[.string s, .int .i64 c] w fun e w' => e = .returned (.string ⟨l.toArray⟩) ∧ Below w.heap.size w w' := by
  have e := h.out
  subst e
  exact Tryz.strings_Repeat_main s c w hc (by omega) (by omega) h0
theorem hd7 : parseS ([112, 97, 114, 115, 101, 32, 123] ++ Lib.repeatL [105, 102, 32, 108, 101, 110, 32, 123] 10 ++ Lib.repeatL [125] 11) = (T.zero, [(11, 82)]) := by kernel_rfl
theorem dg_lit (w : World) : Dg (w.alloc (.cells #[.int .i64 11, .int .i64 82] DT)) (.slice (some ⟨w.heap.size, 0, none⟩) 1 1) [(11, 82)] :=
  ⟨0, by simp [dgV], Or.inr ⟨w.heap.size, 1, _, rfl, Nat.zero_le _, Box.new w DT _, by simp, by unfold maxLen; omega, by simp, by simp [dgV]⟩⟩
set_option linter.constructorNameAsVariable false in
set_option maxRecDepth 100000 in
set_option maxHeartbeats 6400000 in
theorem head_one (W : World) (hp : PV W) :
    Calls Tryz.prog 10 #[] W fun e w' => e = .returned (.bool true) ∧ Below W.heap.size W w' := by
  have hq := Lib.hid (parse_at ⟨#[112, 97, 114, 115, 101, 32, 123, 32, 108, 101, 116, 32, 97, 32, 61, 32, 105, 110, 91, 48, 58, 117, 56, 93, 59, 32, 105, 102, 32, 40, 97, 32, 61, 61, 32, 55, 58, 117, 56, 41, 32, 123, 32, 97, 99, 99, 101, 112, 116, 59, 32, 125, 32, 114, 101, 106, 101, 99, 116, 32, 49, 59, 32, 125]⟩ W (by decide) hp.1 hp.2.1)
  obtain ⟨l1, hl1⟩ : ∃ l, Hid (Lib.repeatL [105, 102, 32, 108, 101, 110, 32, 123] 10 = l) := ⟨_, Lib.hid rfl⟩
  obtain ⟨l2, hl2⟩ : ∃ l, Hid (Lib.repeatL [125] 11 = l) := ⟨_, Lib.hid rfl⟩
  have h7 : Hid (parseS ([112, 97, 114, 115, 101, 32, 123] ++ l1 ++ l2) = (T.zero, [(11, 82)])) := Lib.hid (by rw [← hl1.out, ← hl2.out]; exact hd7)
  have hz1 : Hid (l1.length ≤ 100) := Lib.hid (by rw [← hl1.out]; decide)
  have hz2 : Hid (l2.length ≤ 100) := Lib.hid (by rw [← hl2.out]; decide)
  go_enter Tryz.func10, Tryz.ntmps10
  go_wp2_with fail
  refine hq.out.mono ?_
  clear hq
  rintro e w1 ⟨A1, c1, d1, hx, nd, drow, hB⟩
  have hsrc : parseS (ByteArray.mk #[112, 97, 114, 115, 101, 32, 123, 32, 108, 101, 116, 32, 97, 32, 61, 32, 105, 110, 91, 48, 58, 117, 56, 93, 59, 32, 105, 102, 32, 40, 97, 32, 61, 61, 32, 55, 58, 117, 56, 41, 32, 123, 32, 97, 99, 99, 101, 112, 116, 59, 32, 125, 32, 114, 101, 106, 101, 99, 116, 32, 49, 59, 32, 125]).data.toList = (hT1, []) := src1
  rw [hsrc] at hx nd drow
  clear hsrc
  obtain rfl : e = .returned (.tuple #[.agg #[.int .i64 1, .string ⟨#[]⟩, .string ⟨#[]⟩, .int .u64 0, .int .i64 0, .int .i64 0, .slice A1 1 c1], d1]) := hx
  replace drow : w1.ownsRow W.heap.size DT 2 d1 0 [] := drow
  obtain ⟨DA, DC, rfl⟩ := ownsRow_form drow
  have gn1 : gAt w1 hT1.toG (.slice A1 1 c1) := gAt_node _ _ nd
  have nb : Below w1.heap.size w1 (w1.alloc (.cells #[.int .i64 1, .string ⟨#[]⟩, .string ⟨#[]⟩, .int .u64 0, .int .i64 0, .int .i64 0, .slice A1 1 c1] 25)) := (Below.refl _ _).alloc (Nat.le_refl _) _
  replace gn1 := gAt_later nb _ _ gn1
  have bn1 := Box.new w1 25 #[.int .i64 1, .string ⟨#[]⟩, .string ⟨#[]⟩, .int .u64 0, .int .i64 0, .int .i64 0, .slice A1 1 c1]
  have hBv0 : Below W.heap.size W (w1.alloc (.cells #[.int .i64 1, .string ⟨#[]⟩, .string ⟨#[]⟩, .int .u64 0, .int .i64 0, .int .i64 0, .slice A1 1 c1] 25)) := hB.trans (nb.mono hB.size)
  clear nd drow hB nb
  go_upto_region 2 with fail
  obtain ⟨v0, hy⟩ : ∃ Y, w1.alloc (.cells #[.int .i64 1, .string ⟨#[]⟩, .string ⟨#[]⟩, .int .u64 0, .int .i64 0, .int .i64 0, .slice A1 1 c1] 25) = Y := ⟨_, rfl⟩
  rw [hy] at gn1 bn1 hBv0 ⊢
  clear hy
  go_upto_region 3 with fail
  have nb : Below v0.heap.size v0 (v0.alloc (.cells #[.int .i64 21, .string ⟨#[]⟩, .string ⟨#[]⟩, .int .u64 0, .int .i64 8, .int .i64 19, .slice none 0 0] 25)) := ((Below.refl _ _).alloc (by simp <;> omega) (.cells #[.int .i64 21, .string ⟨#[]⟩, .string ⟨#[]⟩, .int .u64 0, .int .i64 8, .int .i64 19, .slice none 0 0] 25))
  replace bn1 := bn1.below nb
  replace gn1 := gAt_later nb _ _ gn1
  have bzero : Box (v0.alloc (.cells #[.int .i64 21, .string ⟨#[]⟩, .string ⟨#[]⟩, .int .u64 0, .int .i64 8, .int .i64 19, .slice none 0 0] 25)) (v0.heap.size) 25 #[.int .i64 21, .string ⟨#[]⟩, .string ⟨#[]⟩, .int .u64 0, .int .i64 8, .int .i64 19, .slice none 0 0] := (Box.newAt (X := v0) (n := v0.heap.size) (by simp) 25 #[.int .i64 21, .string ⟨#[]⟩, .string ⟨#[]⟩, .int .u64 0, .int .i64 8, .int .i64 19, .slice none 0 0])
  have hBv1 : Below W.heap.size W (v0.alloc (.cells #[.int .i64 21, .string ⟨#[]⟩, .string ⟨#[]⟩, .int .u64 0, .int .i64 8, .int .i64 19, .slice none 0 0] 25)) := hBv0.trans (nb.mono hBv0.size)
  clear hBv0 nb 
  obtain ⟨v1, hy⟩ : ∃ Y, (v0.alloc (.cells #[.int .i64 21, .string ⟨#[]⟩, .string ⟨#[]⟩, .int .u64 0, .int .i64 8, .int .i64 19, .slice none 0 0] 25)) = Y := ⟨_, rfl⟩
  rw [hy] at bn1 gn1 bzero hBv1 ⊢
  clear hy 
  have l3zero0 : v1.cell? ⟨v0.heap.size, 0, none⟩ = some (.int .i64 21) := bzero.cell 0
  have l3zero1 : v1.cell? ⟨v0.heap.size, 1, none⟩ = some (.string ⟨#[]⟩) := bzero.cell 1
  have l3zero2 : v1.cell? ⟨v0.heap.size, 2, none⟩ = some (.string ⟨#[]⟩) := bzero.cell 2
  have l3zero3 : v1.cell? ⟨v0.heap.size, 3, none⟩ = some (.int .u64 0) := bzero.cell 3
  have l3zero4 : v1.cell? ⟨v0.heap.size, 4, none⟩ = some (.int .i64 8) := bzero.cell 4
  have l3zero5 : v1.cell? ⟨v0.heap.size, 5, none⟩ = some (.int .i64 19) := bzero.cell 5
  have l3zero6 : v1.cell? ⟨v0.heap.size, 6, none⟩ = some (.slice none 0 0) := bzero.cell 6
  go_upto_region 4 with fail
  have nb : Below v1.heap.size v1 (((v1.alloc (.cells #[.int .i64 21, .string ⟨#[]⟩, .string ⟨#[]⟩, .int .u64 0, .int .i64 8, .int .i64 19, .slice none 0 0] 25)).alloc (.cells #[.int .i64 23, .string ⟨#[]⟩, .string ⟨#[]⟩, .int .u64 0, .int .i64 0, .int .i64 16, .slice (some ⟨v1.heap.size, 0, none⟩) 1 1] 25)).alloc (.cells #[.int .i64 7, .string ⟨#[97]⟩, .string ⟨#[]⟩, .int .u64 0, .int .i64 0, .int .i64 8, .slice (some ⟨v1.heap.size + 1, 0, none⟩) 1 1] 25)) := ((((Below.refl _ _).alloc (by simp <;> omega) (.cells #[.int .i64 21, .string ⟨#[]⟩, .string ⟨#[]⟩, .int .u64 0, .int .i64 8, .int .i64 19, .slice none 0 0] 25)).alloc (by simp <;> omega) (.cells #[.int .i64 23, .string ⟨#[]⟩, .string ⟨#[]⟩, .int .u64 0, .int .i64 0, .int .i64 16, .slice (some ⟨v1.heap.size, 0, none⟩) 1 1] 25)).alloc (by simp <;> omega) (.cells #[.int .i64 7, .string ⟨#[97]⟩, .string ⟨#[]⟩, .int .u64 0, .int .i64 0, .int .i64 8, .slice (some ⟨v1.heap.size + 1, 0, none⟩) 1 1] 25))
  replace bn1 := bn1.below nb
  replace bzero := bzero.below nb
  replace gn1 := gAt_later nb _ _ gn1
  have bs17 : Box (((v1.alloc (.cells #[.int .i64 21, .string ⟨#[]⟩, .string ⟨#[]⟩, .int .u64 0, .int .i64 8, .int .i64 19, .slice none 0 0] 25)).alloc (.cells #[.int .i64 23, .string ⟨#[]⟩, .string ⟨#[]⟩, .int .u64 0, .int .i64 0, .int .i64 16, .slice (some ⟨v1.heap.size, 0, none⟩) 1 1] 25)).alloc (.cells #[.int .i64 7, .string ⟨#[97]⟩, .string ⟨#[]⟩, .int .u64 0, .int .i64 0, .int .i64 8, .slice (some ⟨v1.heap.size + 1, 0, none⟩) 1 1] 25)) (v1.heap.size) 25 #[.int .i64 21, .string ⟨#[]⟩, .string ⟨#[]⟩, .int .u64 0, .int .i64 8, .int .i64 19, .slice none 0 0] := (((Box.newAt (X := v1) (n := v1.heap.size) (by simp) 25 #[.int .i64 21, .string ⟨#[]⟩, .string ⟨#[]⟩, .int .u64 0, .int .i64 8, .int .i64 19, .slice none 0 0]).alloc (.cells #[.int .i64 23, .string ⟨#[]⟩, .string ⟨#[]⟩, .int .u64 0, .int .i64 0, .int .i64 16, .slice (some ⟨v1.heap.size, 0, none⟩) 1 1] 25)).alloc (.cells #[.int .i64 7, .string ⟨#[97]⟩, .string ⟨#[]⟩, .int .u64 0, .int .i64 0, .int .i64 8, .slice (some ⟨v1.heap.size + 1, 0, none⟩) 1 1] 25))
  have bs19 : Box (((v1.alloc (.cells #[.int .i64 21, .string ⟨#[]⟩, .string ⟨#[]⟩, .int .u64 0, .int .i64 8, .int .i64 19, .slice none 0 0] 25)).alloc (.cells #[.int .i64 23, .string ⟨#[]⟩, .string ⟨#[]⟩, .int .u64 0, .int .i64 0, .int .i64 16, .slice (some ⟨v1.heap.size, 0, none⟩) 1 1] 25)).alloc (.cells #[.int .i64 7, .string ⟨#[97]⟩, .string ⟨#[]⟩, .int .u64 0, .int .i64 0, .int .i64 8, .slice (some ⟨v1.heap.size + 1, 0, none⟩) 1 1] 25)) (v1.heap.size + 1) 25 #[.int .i64 23, .string ⟨#[]⟩, .string ⟨#[]⟩, .int .u64 0, .int .i64 0, .int .i64 16, .slice (some ⟨v1.heap.size, 0, none⟩) 1 1] := ((Box.newAt (X := (v1.alloc (.cells #[.int .i64 21, .string ⟨#[]⟩, .string ⟨#[]⟩, .int .u64 0, .int .i64 8, .int .i64 19, .slice none 0 0] 25))) (n := v1.heap.size + 1) (by simp) 25 #[.int .i64 23, .string ⟨#[]⟩, .string ⟨#[]⟩, .int .u64 0, .int .i64 0, .int .i64 16, .slice (some ⟨v1.heap.size, 0, none⟩) 1 1]).alloc (.cells #[.int .i64 7, .string ⟨#[97]⟩, .string ⟨#[]⟩, .int .u64 0, .int .i64 0, .int .i64 8, .slice (some ⟨v1.heap.size + 1, 0, none⟩) 1 1] 25))
  have blet : Box (((v1.alloc (.cells #[.int .i64 21, .string ⟨#[]⟩, .string ⟨#[]⟩, .int .u64 0, .int .i64 8, .int .i64 19, .slice none 0 0] 25)).alloc (.cells #[.int .i64 23, .string ⟨#[]⟩, .string ⟨#[]⟩, .int .u64 0, .int .i64 0, .int .i64 16, .slice (some ⟨v1.heap.size, 0, none⟩) 1 1] 25)).alloc (.cells #[.int .i64 7, .string ⟨#[97]⟩, .string ⟨#[]⟩, .int .u64 0, .int .i64 0, .int .i64 8, .slice (some ⟨v1.heap.size + 1, 0, none⟩) 1 1] 25)) (v1.heap.size + 2) 25 #[.int .i64 7, .string ⟨#[97]⟩, .string ⟨#[]⟩, .int .u64 0, .int .i64 0, .int .i64 8, .slice (some ⟨v1.heap.size + 1, 0, none⟩) 1 1] := (Box.newAt (X := ((v1.alloc (.cells #[.int .i64 21, .string ⟨#[]⟩, .string ⟨#[]⟩, .int .u64 0, .int .i64 8, .int .i64 19, .slice none 0 0] 25)).alloc (.cells #[.int .i64 23, .string ⟨#[]⟩, .string ⟨#[]⟩, .int .u64 0, .int .i64 0, .int .i64 16, .slice (some ⟨v1.heap.size, 0, none⟩) 1 1] 25))) (n := v1.heap.size + 2) (by simp) 25 #[.int .i64 7, .string ⟨#[97]⟩, .string ⟨#[]⟩, .int .u64 0, .int .i64 0, .int .i64 8, .slice (some ⟨v1.heap.size + 1, 0, none⟩) 1 1])
  have glet : gAt (((v1.alloc (.cells #[.int .i64 21, .string ⟨#[]⟩, .string ⟨#[]⟩, .int .u64 0, .int .i64 8, .int .i64 19, .slice none 0 0] 25)).alloc (.cells #[.int .i64 23, .string ⟨#[]⟩, .string ⟨#[]⟩, .int .u64 0, .int .i64 0, .int .i64 16, .slice (some ⟨v1.heap.size, 0, none⟩) 1 1] 25)).alloc (.cells #[.int .i64 7, .string ⟨#[97]⟩, .string ⟨#[]⟩, .int .u64 0, .int .i64 0, .int .i64 8, .slice (some ⟨v1.heap.size + 1, 0, none⟩) 1 1] 25)) (G.mk 7 ⟨#[97]⟩ ⟨#[]⟩ 0 0 8 [(G.mk 23 ⟨#[]⟩ ⟨#[]⟩ 0 0 16 [(G.mk 21 ⟨#[]⟩ ⟨#[]⟩ 0 8 19 [])])]) (.slice (some ⟨v1.heap.size + 1, 0, none⟩) 1 1) := lit1 (G.mk 23 ⟨#[]⟩ ⟨#[]⟩ 0 0 16 [(G.mk 21 ⟨#[]⟩ ⟨#[]⟩ 0 8 19 [])]) _ bs19 (lit1 (G.mk 21 ⟨#[]⟩ ⟨#[]⟩ 0 8 19 []) _ bs17 (gAt_none _ _ _ _ _ _ _) _ _ _ _ _ _) _ _ _ _ _ _
  have hBv2 : Below W.heap.size W (((v1.alloc (.cells #[.int .i64 21, .string ⟨#[]⟩, .string ⟨#[]⟩, .int .u64 0, .int .i64 8, .int .i64 19, .slice none 0 0] 25)).alloc (.cells #[.int .i64 23, .string ⟨#[]⟩, .string ⟨#[]⟩, .int .u64 0, .int .i64 0, .int .i64 16, .slice (some ⟨v1.heap.size, 0, none⟩) 1 1] 25)).alloc (.cells #[.int .i64 7, .string ⟨#[97]⟩, .string ⟨#[]⟩, .int .u64 0, .int .i64 0, .int .i64 8, .slice (some ⟨v1.heap.size + 1, 0, none⟩) 1 1] 25)) := hBv1.trans (nb.mono hBv1.size)
  clear hBv1 nb l3zero0 l3zero1 l3zero2 l3zero3 l3zero4 l3zero5 l3zero6
  obtain ⟨v2, hy⟩ : ∃ Y, (((v1.alloc (.cells #[.int .i64 21, .string ⟨#[]⟩, .string ⟨#[]⟩, .int .u64 0, .int .i64 8, .int .i64 19, .slice none 0 0] 25)).alloc (.cells #[.int .i64 23, .string ⟨#[]⟩, .string ⟨#[]⟩, .int .u64 0, .int .i64 0, .int .i64 16, .slice (some ⟨v1.heap.size, 0, none⟩) 1 1] 25)).alloc (.cells #[.int .i64 7, .string ⟨#[97]⟩, .string ⟨#[]⟩, .int .u64 0, .int .i64 0, .int .i64 8, .slice (some ⟨v1.heap.size + 1, 0, none⟩) 1 1] 25)) = Y := ⟨_, rfl⟩
  rw [hy] at bn1 bzero gn1 bs17 bs19 blet glet hBv2 ⊢
  clear hy bs17 bs19
  clear bzero
  go_upto_region 5 with fail
  have nb : Below v2.heap.size v2 ((v2.alloc (.cells #[.int .i64 22, .string ⟨#[97]⟩, .string ⟨#[]⟩, .int .u64 0, .int .i64 0, .int .i64 30, .slice none 0 0, .int .i64 21, .string ⟨#[]⟩, .string ⟨#[]⟩, .int .u64 7, .int .i64 8, .int .i64 35, .slice none 0 0] 25)).alloc (.cells #[.int .i64 27, .string ⟨#[]⟩, .string ⟨#[]⟩, .int .u64 11, .int .i64 0, .int .i64 29, .slice (some ⟨v2.heap.size, 0, none⟩) 2 2] 25)) := (((Below.refl _ _).alloc (by simp <;> omega) (.cells #[.int .i64 22, .string ⟨#[97]⟩, .string ⟨#[]⟩, .int .u64 0, .int .i64 0, .int .i64 30, .slice none 0 0, .int .i64 21, .string ⟨#[]⟩, .string ⟨#[]⟩, .int .u64 7, .int .i64 8, .int .i64 35, .slice none 0 0] 25)).alloc (by simp <;> omega) (.cells #[.int .i64 27, .string ⟨#[]⟩, .string ⟨#[]⟩, .int .u64 11, .int .i64 0, .int .i64 29, .slice (some ⟨v2.heap.size, 0, none⟩) 2 2] 25))
  replace bn1 := bn1.below nb
  replace blet := blet.below nb
  replace gn1 := gAt_later nb _ _ gn1
  replace glet := gAt_later nb _ _ glet
  have bs24 : Box ((v2.alloc (.cells #[.int .i64 22, .string ⟨#[97]⟩, .string ⟨#[]⟩, .int .u64 0, .int .i64 0, .int .i64 30, .slice none 0 0, .int .i64 21, .string ⟨#[]⟩, .string ⟨#[]⟩, .int .u64 7, .int .i64 8, .int .i64 35, .slice none 0 0] 25)).alloc (.cells #[.int .i64 27, .string ⟨#[]⟩, .string ⟨#[]⟩, .int .u64 11, .int .i64 0, .int .i64 29, .slice (some ⟨v2.heap.size, 0, none⟩) 2 2] 25)) (v2.heap.size) 25 #[.int .i64 22, .string ⟨#[97]⟩, .string ⟨#[]⟩, .int .u64 0, .int .i64 0, .int .i64 30, .slice none 0 0, .int .i64 21, .string ⟨#[]⟩, .string ⟨#[]⟩, .int .u64 7, .int .i64 8, .int .i64 35, .slice none 0 0] := ((Box.newAt (X := v2) (n := v2.heap.size) (by simp) 25 #[.int .i64 22, .string ⟨#[97]⟩, .string ⟨#[]⟩, .int .u64 0, .int .i64 0, .int .i64 30, .slice none 0 0, .int .i64 21, .string ⟨#[]⟩, .string ⟨#[]⟩, .int .u64 7, .int .i64 8, .int .i64 35, .slice none 0 0]).alloc (.cells #[.int .i64 27, .string ⟨#[]⟩, .string ⟨#[]⟩, .int .u64 11, .int .i64 0, .int .i64 29, .slice (some ⟨v2.heap.size, 0, none⟩) 2 2] 25))
  have bcond : Box ((v2.alloc (.cells #[.int .i64 22, .string ⟨#[97]⟩, .string ⟨#[]⟩, .int .u64 0, .int .i64 0, .int .i64 30, .slice none 0 0, .int .i64 21, .string ⟨#[]⟩, .string ⟨#[]⟩, .int .u64 7, .int .i64 8, .int .i64 35, .slice none 0 0] 25)).alloc (.cells #[.int .i64 27, .string ⟨#[]⟩, .string ⟨#[]⟩, .int .u64 11, .int .i64 0, .int .i64 29, .slice (some ⟨v2.heap.size, 0, none⟩) 2 2] 25)) (v2.heap.size + 1) 25 #[.int .i64 27, .string ⟨#[]⟩, .string ⟨#[]⟩, .int .u64 11, .int .i64 0, .int .i64 29, .slice (some ⟨v2.heap.size, 0, none⟩) 2 2] := (Box.newAt (X := (v2.alloc (.cells #[.int .i64 22, .string ⟨#[97]⟩, .string ⟨#[]⟩, .int .u64 0, .int .i64 0, .int .i64 30, .slice none 0 0, .int .i64 21, .string ⟨#[]⟩, .string ⟨#[]⟩, .int .u64 7, .int .i64 8, .int .i64 35, .slice none 0 0] 25))) (n := v2.heap.size + 1) (by simp) 25 #[.int .i64 27, .string ⟨#[]⟩, .string ⟨#[]⟩, .int .u64 11, .int .i64 0, .int .i64 29, .slice (some ⟨v2.heap.size, 0, none⟩) 2 2])
  have gcond : gAt ((v2.alloc (.cells #[.int .i64 22, .string ⟨#[97]⟩, .string ⟨#[]⟩, .int .u64 0, .int .i64 0, .int .i64 30, .slice none 0 0, .int .i64 21, .string ⟨#[]⟩, .string ⟨#[]⟩, .int .u64 7, .int .i64 8, .int .i64 35, .slice none 0 0] 25)).alloc (.cells #[.int .i64 27, .string ⟨#[]⟩, .string ⟨#[]⟩, .int .u64 11, .int .i64 0, .int .i64 29, .slice (some ⟨v2.heap.size, 0, none⟩) 2 2] 25)) (G.mk 27 ⟨#[]⟩ ⟨#[]⟩ 11 0 29 [(G.mk 22 ⟨#[97]⟩ ⟨#[]⟩ 0 0 30 []), (G.mk 21 ⟨#[]⟩ ⟨#[]⟩ 7 8 35 [])]) (.slice (some ⟨v2.heap.size, 0, none⟩) 2 2) := lit2 (G.mk 22 ⟨#[97]⟩ ⟨#[]⟩ 0 0 30 []) (G.mk 21 ⟨#[]⟩ ⟨#[]⟩ 7 8 35 []) _ _ bs24 (gAt_none _ _ _ _ _ _ _) (gAt_none _ _ _ _ _ _ _) _ _ _ _ _ _
  have hBv3 : Below W.heap.size W ((v2.alloc (.cells #[.int .i64 22, .string ⟨#[97]⟩, .string ⟨#[]⟩, .int .u64 0, .int .i64 0, .int .i64 30, .slice none 0 0, .int .i64 21, .string ⟨#[]⟩, .string ⟨#[]⟩, .int .u64 7, .int .i64 8, .int .i64 35, .slice none 0 0] 25)).alloc (.cells #[.int .i64 27, .string ⟨#[]⟩, .string ⟨#[]⟩, .int .u64 11, .int .i64 0, .int .i64 29, .slice (some ⟨v2.heap.size, 0, none⟩) 2 2] 25)) := hBv2.trans (nb.mono hBv2.size)
  clear hBv2 nb 
  obtain ⟨v3, hy⟩ : ∃ Y, ((v2.alloc (.cells #[.int .i64 22, .string ⟨#[97]⟩, .string ⟨#[]⟩, .int .u64 0, .int .i64 0, .int .i64 30, .slice none 0 0, .int .i64 21, .string ⟨#[]⟩, .string ⟨#[]⟩, .int .u64 7, .int .i64 8, .int .i64 35, .slice none 0 0] 25)).alloc (.cells #[.int .i64 27, .string ⟨#[]⟩, .string ⟨#[]⟩, .int .u64 11, .int .i64 0, .int .i64 29, .slice (some ⟨v2.heap.size, 0, none⟩) 2 2] 25)) = Y := ⟨_, rfl⟩
  rw [hy] at bn1 blet gn1 glet bs24 bcond gcond hBv3 ⊢
  clear hy bs24
  go_upto_region 6 with fail
  have nb : Below v3.heap.size v3 ((v3.alloc (.cells #[.int .i64 18, .string ⟨#[]⟩, .string ⟨#[]⟩, .int .u64 0, .int .i64 0, .int .i64 43, .slice none 0 0] 25)).alloc (.cells #[.int .i64 6, .string ⟨#[]⟩, .string ⟨#[]⟩, .int .u64 0, .int .i64 0, .int .i64 41, .slice (some ⟨v3.heap.size, 0, none⟩) 1 1] 25)) := (((Below.refl _ _).alloc (by simp <;> omega) (.cells #[.int .i64 18, .string ⟨#[]⟩, .string ⟨#[]⟩, .int .u64 0, .int .i64 0, .int .i64 43, .slice none 0 0] 25)).alloc (by simp <;> omega) (.cells #[.int .i64 6, .string ⟨#[]⟩, .string ⟨#[]⟩, .int .u64 0, .int .i64 0, .int .i64 41, .slice (some ⟨v3.heap.size, 0, none⟩) 1 1] 25))
  replace bn1 := bn1.below nb
  replace blet := blet.below nb
  replace bcond := bcond.below nb
  replace gn1 := gAt_later nb _ _ gn1
  replace glet := gAt_later nb _ _ glet
  replace gcond := gAt_later nb _ _ gcond
  have bs27 : Box ((v3.alloc (.cells #[.int .i64 18, .string ⟨#[]⟩, .string ⟨#[]⟩, .int .u64 0, .int .i64 0, .int .i64 43, .slice none 0 0] 25)).alloc (.cells #[.int .i64 6, .string ⟨#[]⟩, .string ⟨#[]⟩, .int .u64 0, .int .i64 0, .int .i64 41, .slice (some ⟨v3.heap.size, 0, none⟩) 1 1] 25)) (v3.heap.size) 25 #[.int .i64 18, .string ⟨#[]⟩, .string ⟨#[]⟩, .int .u64 0, .int .i64 0, .int .i64 43, .slice none 0 0] := ((Box.newAt (X := v3) (n := v3.heap.size) (by simp) 25 #[.int .i64 18, .string ⟨#[]⟩, .string ⟨#[]⟩, .int .u64 0, .int .i64 0, .int .i64 43, .slice none 0 0]).alloc (.cells #[.int .i64 6, .string ⟨#[]⟩, .string ⟨#[]⟩, .int .u64 0, .int .i64 0, .int .i64 41, .slice (some ⟨v3.heap.size, 0, none⟩) 1 1] 25))
  have bthen : Box ((v3.alloc (.cells #[.int .i64 18, .string ⟨#[]⟩, .string ⟨#[]⟩, .int .u64 0, .int .i64 0, .int .i64 43, .slice none 0 0] 25)).alloc (.cells #[.int .i64 6, .string ⟨#[]⟩, .string ⟨#[]⟩, .int .u64 0, .int .i64 0, .int .i64 41, .slice (some ⟨v3.heap.size, 0, none⟩) 1 1] 25)) (v3.heap.size + 1) 25 #[.int .i64 6, .string ⟨#[]⟩, .string ⟨#[]⟩, .int .u64 0, .int .i64 0, .int .i64 41, .slice (some ⟨v3.heap.size, 0, none⟩) 1 1] := (Box.newAt (X := (v3.alloc (.cells #[.int .i64 18, .string ⟨#[]⟩, .string ⟨#[]⟩, .int .u64 0, .int .i64 0, .int .i64 43, .slice none 0 0] 25))) (n := v3.heap.size + 1) (by simp) 25 #[.int .i64 6, .string ⟨#[]⟩, .string ⟨#[]⟩, .int .u64 0, .int .i64 0, .int .i64 41, .slice (some ⟨v3.heap.size, 0, none⟩) 1 1])
  have gthen : gAt ((v3.alloc (.cells #[.int .i64 18, .string ⟨#[]⟩, .string ⟨#[]⟩, .int .u64 0, .int .i64 0, .int .i64 43, .slice none 0 0] 25)).alloc (.cells #[.int .i64 6, .string ⟨#[]⟩, .string ⟨#[]⟩, .int .u64 0, .int .i64 0, .int .i64 41, .slice (some ⟨v3.heap.size, 0, none⟩) 1 1] 25)) (G.mk 6 ⟨#[]⟩ ⟨#[]⟩ 0 0 41 [(G.mk 18 ⟨#[]⟩ ⟨#[]⟩ 0 0 43 [])]) (.slice (some ⟨v3.heap.size, 0, none⟩) 1 1) := lit1 (G.mk 18 ⟨#[]⟩ ⟨#[]⟩ 0 0 43 []) _ bs27 (gAt_none _ _ _ _ _ _ _) _ _ _ _ _ _
  have hBv4 : Below W.heap.size W ((v3.alloc (.cells #[.int .i64 18, .string ⟨#[]⟩, .string ⟨#[]⟩, .int .u64 0, .int .i64 0, .int .i64 43, .slice none 0 0] 25)).alloc (.cells #[.int .i64 6, .string ⟨#[]⟩, .string ⟨#[]⟩, .int .u64 0, .int .i64 0, .int .i64 41, .slice (some ⟨v3.heap.size, 0, none⟩) 1 1] 25)) := hBv3.trans (nb.mono hBv3.size)
  clear hBv3 nb 
  obtain ⟨v4, hy⟩ : ∃ Y, ((v3.alloc (.cells #[.int .i64 18, .string ⟨#[]⟩, .string ⟨#[]⟩, .int .u64 0, .int .i64 0, .int .i64 43, .slice none 0 0] 25)).alloc (.cells #[.int .i64 6, .string ⟨#[]⟩, .string ⟨#[]⟩, .int .u64 0, .int .i64 0, .int .i64 41, .slice (some ⟨v3.heap.size, 0, none⟩) 1 1] 25)) = Y := ⟨_, rfl⟩
  rw [hy] at bn1 blet bcond gn1 glet gcond bs27 bthen gthen hBv4 ⊢
  clear hy bs27
  have l6let0 : v4.cell? ⟨v1.heap.size + 2, 0, none⟩ = some (.int .i64 7) := blet.cell 0
  have l6let1 : v4.cell? ⟨v1.heap.size + 2, 1, none⟩ = some (.string ⟨#[97]⟩) := blet.cell 1
  have l6let2 : v4.cell? ⟨v1.heap.size + 2, 2, none⟩ = some (.string ⟨#[]⟩) := blet.cell 2
  have l6let3 : v4.cell? ⟨v1.heap.size + 2, 3, none⟩ = some (.int .u64 0) := blet.cell 3
  have l6let4 : v4.cell? ⟨v1.heap.size + 2, 4, none⟩ = some (.int .i64 0) := blet.cell 4
  have l6let5 : v4.cell? ⟨v1.heap.size + 2, 5, none⟩ = some (.int .i64 8) := blet.cell 5
  have l6let6 : v4.cell? ⟨v1.heap.size + 2, 6, none⟩ = some (.slice (some ⟨v1.heap.size + 1, 0, none⟩) 1 1) := blet.cell 6
  have l6cond0 : v4.cell? ⟨v2.heap.size + 1, 0, none⟩ = some (.int .i64 27) := bcond.cell 0
  have l6cond1 : v4.cell? ⟨v2.heap.size + 1, 1, none⟩ = some (.string ⟨#[]⟩) := bcond.cell 1
  have l6cond2 : v4.cell? ⟨v2.heap.size + 1, 2, none⟩ = some (.string ⟨#[]⟩) := bcond.cell 2
  have l6cond3 : v4.cell? ⟨v2.heap.size + 1, 3, none⟩ = some (.int .u64 11) := bcond.cell 3
  have l6cond4 : v4.cell? ⟨v2.heap.size + 1, 4, none⟩ = some (.int .i64 0) := bcond.cell 4
  have l6cond5 : v4.cell? ⟨v2.heap.size + 1, 5, none⟩ = some (.int .i64 29) := bcond.cell 5
  have l6cond6 : v4.cell? ⟨v2.heap.size + 1, 6, none⟩ = some (.slice (some ⟨v2.heap.size, 0, none⟩) 2 2) := bcond.cell 6
  have l6then0 : v4.cell? ⟨v3.heap.size + 1, 0, none⟩ = some (.int .i64 6) := bthen.cell 0
  have l6then1 : v4.cell? ⟨v3.heap.size + 1, 1, none⟩ = some (.string ⟨#[]⟩) := bthen.cell 1
  have l6then2 : v4.cell? ⟨v3.heap.size + 1, 2, none⟩ = some (.string ⟨#[]⟩) := bthen.cell 2
  have l6then3 : v4.cell? ⟨v3.heap.size + 1, 3, none⟩ = some (.int .u64 0) := bthen.cell 3
  have l6then4 : v4.cell? ⟨v3.heap.size + 1, 4, none⟩ = some (.int .i64 0) := bthen.cell 4
  have l6then5 : v4.cell? ⟨v3.heap.size + 1, 5, none⟩ = some (.int .i64 41) := bthen.cell 5
  have l6then6 : v4.cell? ⟨v3.heap.size + 1, 6, none⟩ = some (.slice (some ⟨v3.heap.size, 0, none⟩) 1 1) := bthen.cell 6
  go_upto_region 7 with fail
  have nb : Below v4.heap.size v4 (((v4.alloc (.cells #[.int .i64 27, .string ⟨#[]⟩, .string ⟨#[]⟩, .int .u64 11, .int .i64 0, .int .i64 29, .slice (some ⟨v2.heap.size, 0, none⟩) 2 2, .int .i64 6, .string ⟨#[]⟩, .string ⟨#[]⟩, .int .u64 0, .int .i64 0, .int .i64 41, .slice (some ⟨v3.heap.size, 0, none⟩) 1 1] 25)).alloc (.cells #[.int .i64 7, .string ⟨#[97]⟩, .string ⟨#[]⟩, .int .u64 0, .int .i64 0, .int .i64 8, .slice (some ⟨v1.heap.size + 1, 0, none⟩) 1 1, .int .i64 15, .string ⟨#[]⟩, .string ⟨#[]⟩, .int .u64 0, .int .i64 0, .int .i64 26, .slice (some ⟨v4.heap.size, 0, none⟩) 2 2, .int .i64 19, .string ⟨#[]⟩, .string ⟨#[]⟩, .int .u64 1, .int .i64 0, .int .i64 53, .slice none 0 0] 25)).alloc (.cells #[.int .i64 6, .string ⟨#[]⟩, .string ⟨#[]⟩, .int .u64 0, .int .i64 0, .int .i64 6, .slice (some ⟨v4.heap.size + 1, 0, none⟩) 3 3] 25)) := ((((Below.refl _ _).alloc (by simp <;> omega) (.cells #[.int .i64 27, .string ⟨#[]⟩, .string ⟨#[]⟩, .int .u64 11, .int .i64 0, .int .i64 29, .slice (some ⟨v2.heap.size, 0, none⟩) 2 2, .int .i64 6, .string ⟨#[]⟩, .string ⟨#[]⟩, .int .u64 0, .int .i64 0, .int .i64 41, .slice (some ⟨v3.heap.size, 0, none⟩) 1 1] 25)).alloc (by simp <;> omega) (.cells #[.int .i64 7, .string ⟨#[97]⟩, .string ⟨#[]⟩, .int .u64 0, .int .i64 0, .int .i64 8, .slice (some ⟨v1.heap.size + 1, 0, none⟩) 1 1, .int .i64 15, .string ⟨#[]⟩, .string ⟨#[]⟩, .int .u64 0, .int .i64 0, .int .i64 26, .slice (some ⟨v4.heap.size, 0, none⟩) 2 2, .int .i64 19, .string ⟨#[]⟩, .string ⟨#[]⟩, .int .u64 1, .int .i64 0, .int .i64 53, .slice none 0 0] 25)).alloc (by simp <;> omega) (.cells #[.int .i64 6, .string ⟨#[]⟩, .string ⟨#[]⟩, .int .u64 0, .int .i64 0, .int .i64 6, .slice (some ⟨v4.heap.size + 1, 0, none⟩) 3 3] 25))
  replace bn1 := bn1.below nb
  replace blet := blet.below nb
  replace bcond := bcond.below nb
  replace bthen := bthen.below nb
  replace gn1 := gAt_later nb _ _ gn1
  replace glet := gAt_later nb _ _ glet
  replace gcond := gAt_later nb _ _ gcond
  replace gthen := gAt_later nb _ _ gthen
  have bs32 : Box (((v4.alloc (.cells #[.int .i64 27, .string ⟨#[]⟩, .string ⟨#[]⟩, .int .u64 11, .int .i64 0, .int .i64 29, .slice (some ⟨v2.heap.size, 0, none⟩) 2 2, .int .i64 6, .string ⟨#[]⟩, .string ⟨#[]⟩, .int .u64 0, .int .i64 0, .int .i64 41, .slice (some ⟨v3.heap.size, 0, none⟩) 1 1] 25)).alloc (.cells #[.int .i64 7, .string ⟨#[97]⟩, .string ⟨#[]⟩, .int .u64 0, .int .i64 0, .int .i64 8, .slice (some ⟨v1.heap.size + 1, 0, none⟩) 1 1, .int .i64 15, .string ⟨#[]⟩, .string ⟨#[]⟩, .int .u64 0, .int .i64 0, .int .i64 26, .slice (some ⟨v4.heap.size, 0, none⟩) 2 2, .int .i64 19, .string ⟨#[]⟩, .string ⟨#[]⟩, .int .u64 1, .int .i64 0, .int .i64 53, .slice none 0 0] 25)).alloc (.cells #[.int .i64 6, .string ⟨#[]⟩, .string ⟨#[]⟩, .int .u64 0, .int .i64 0, .int .i64 6, .slice (some ⟨v4.heap.size + 1, 0, none⟩) 3 3] 25)) (v4.heap.size) 25 #[.int .i64 27, .string ⟨#[]⟩, .string ⟨#[]⟩, .int .u64 11, .int .i64 0, .int .i64 29, .slice (some ⟨v2.heap.size, 0, none⟩) 2 2, .int .i64 6, .string ⟨#[]⟩, .string ⟨#[]⟩, .int .u64 0, .int .i64 0, .int .i64 41, .slice (some ⟨v3.heap.size, 0, none⟩) 1 1] := (((Box.newAt (X := v4) (n := v4.heap.size) (by simp) 25 #[.int .i64 27, .string ⟨#[]⟩, .string ⟨#[]⟩, .int .u64 11, .int .i64 0, .int .i64 29, .slice (some ⟨v2.heap.size, 0, none⟩) 2 2, .int .i64 6, .string ⟨#[]⟩, .string ⟨#[]⟩, .int .u64 0, .int .i64 0, .int .i64 41, .slice (some ⟨v3.heap.size, 0, none⟩) 1 1]).alloc (.cells #[.int .i64 7, .string ⟨#[97]⟩, .string ⟨#[]⟩, .int .u64 0, .int .i64 0, .int .i64 8, .slice (some ⟨v1.heap.size + 1, 0, none⟩) 1 1, .int .i64 15, .string ⟨#[]⟩, .string ⟨#[]⟩, .int .u64 0, .int .i64 0, .int .i64 26, .slice (some ⟨v4.heap.size, 0, none⟩) 2 2, .int .i64 19, .string ⟨#[]⟩, .string ⟨#[]⟩, .int .u64 1, .int .i64 0, .int .i64 53, .slice none 0 0] 25)).alloc (.cells #[.int .i64 6, .string ⟨#[]⟩, .string ⟨#[]⟩, .int .u64 0, .int .i64 0, .int .i64 6, .slice (some ⟨v4.heap.size + 1, 0, none⟩) 3 3] 25))
  have bs35 : Box (((v4.alloc (.cells #[.int .i64 27, .string ⟨#[]⟩, .string ⟨#[]⟩, .int .u64 11, .int .i64 0, .int .i64 29, .slice (some ⟨v2.heap.size, 0, none⟩) 2 2, .int .i64 6, .string ⟨#[]⟩, .string ⟨#[]⟩, .int .u64 0, .int .i64 0, .int .i64 41, .slice (some ⟨v3.heap.size, 0, none⟩) 1 1] 25)).alloc (.cells #[.int .i64 7, .string ⟨#[97]⟩, .string ⟨#[]⟩, .int .u64 0, .int .i64 0, .int .i64 8, .slice (some ⟨v1.heap.size + 1, 0, none⟩) 1 1, .int .i64 15, .string ⟨#[]⟩, .string ⟨#[]⟩, .int .u64 0, .int .i64 0, .int .i64 26, .slice (some ⟨v4.heap.size, 0, none⟩) 2 2, .int .i64 19, .string ⟨#[]⟩, .string ⟨#[]⟩, .int .u64 1, .int .i64 0, .int .i64 53, .slice none 0 0] 25)).alloc (.cells #[.int .i64 6, .string ⟨#[]⟩, .string ⟨#[]⟩, .int .u64 0, .int .i64 0, .int .i64 6, .slice (some ⟨v4.heap.size + 1, 0, none⟩) 3 3] 25)) (v4.heap.size + 1) 25 #[.int .i64 7, .string ⟨#[97]⟩, .string ⟨#[]⟩, .int .u64 0, .int .i64 0, .int .i64 8, .slice (some ⟨v1.heap.size + 1, 0, none⟩) 1 1, .int .i64 15, .string ⟨#[]⟩, .string ⟨#[]⟩, .int .u64 0, .int .i64 0, .int .i64 26, .slice (some ⟨v4.heap.size, 0, none⟩) 2 2, .int .i64 19, .string ⟨#[]⟩, .string ⟨#[]⟩, .int .u64 1, .int .i64 0, .int .i64 53, .slice none 0 0] := ((Box.newAt (X := (v4.alloc (.cells #[.int .i64 27, .string ⟨#[]⟩, .string ⟨#[]⟩, .int .u64 11, .int .i64 0, .int .i64 29, .slice (some ⟨v2.heap.size, 0, none⟩) 2 2, .int .i64 6, .string ⟨#[]⟩, .string ⟨#[]⟩, .int .u64 0, .int .i64 0, .int .i64 41, .slice (some ⟨v3.heap.size, 0, none⟩) 1 1] 25))) (n := v4.heap.size + 1) (by simp) 25 #[.int .i64 7, .string ⟨#[97]⟩, .string ⟨#[]⟩, .int .u64 0, .int .i64 0, .int .i64 8, .slice (some ⟨v1.heap.size + 1, 0, none⟩) 1 1, .int .i64 15, .string ⟨#[]⟩, .string ⟨#[]⟩, .int .u64 0, .int .i64 0, .int .i64 26, .slice (some ⟨v4.heap.size, 0, none⟩) 2 2, .int .i64 19, .string ⟨#[]⟩, .string ⟨#[]⟩, .int .u64 1, .int .i64 0, .int .i64 53, .slice none 0 0]).alloc (.cells #[.int .i64 6, .string ⟨#[]⟩, .string ⟨#[]⟩, .int .u64 0, .int .i64 0, .int .i64 6, .slice (some ⟨v4.heap.size + 1, 0, none⟩) 3 3] 25))
  have bblock : Box (((v4.alloc (.cells #[.int .i64 27, .string ⟨#[]⟩, .string ⟨#[]⟩, .int .u64 11, .int .i64 0, .int .i64 29, .slice (some ⟨v2.heap.size, 0, none⟩) 2 2, .int .i64 6, .string ⟨#[]⟩, .string ⟨#[]⟩, .int .u64 0, .int .i64 0, .int .i64 41, .slice (some ⟨v3.heap.size, 0, none⟩) 1 1] 25)).alloc (.cells #[.int .i64 7, .string ⟨#[97]⟩, .string ⟨#[]⟩, .int .u64 0, .int .i64 0, .int .i64 8, .slice (some ⟨v1.heap.size + 1, 0, none⟩) 1 1, .int .i64 15, .string ⟨#[]⟩, .string ⟨#[]⟩, .int .u64 0, .int .i64 0, .int .i64 26, .slice (some ⟨v4.heap.size, 0, none⟩) 2 2, .int .i64 19, .string ⟨#[]⟩, .string ⟨#[]⟩, .int .u64 1, .int .i64 0, .int .i64 53, .slice none 0 0] 25)).alloc (.cells #[.int .i64 6, .string ⟨#[]⟩, .string ⟨#[]⟩, .int .u64 0, .int .i64 0, .int .i64 6, .slice (some ⟨v4.heap.size + 1, 0, none⟩) 3 3] 25)) (v4.heap.size + 2) 25 #[.int .i64 6, .string ⟨#[]⟩, .string ⟨#[]⟩, .int .u64 0, .int .i64 0, .int .i64 6, .slice (some ⟨v4.heap.size + 1, 0, none⟩) 3 3] := (Box.newAt (X := ((v4.alloc (.cells #[.int .i64 27, .string ⟨#[]⟩, .string ⟨#[]⟩, .int .u64 11, .int .i64 0, .int .i64 29, .slice (some ⟨v2.heap.size, 0, none⟩) 2 2, .int .i64 6, .string ⟨#[]⟩, .string ⟨#[]⟩, .int .u64 0, .int .i64 0, .int .i64 41, .slice (some ⟨v3.heap.size, 0, none⟩) 1 1] 25)).alloc (.cells #[.int .i64 7, .string ⟨#[97]⟩, .string ⟨#[]⟩, .int .u64 0, .int .i64 0, .int .i64 8, .slice (some ⟨v1.heap.size + 1, 0, none⟩) 1 1, .int .i64 15, .string ⟨#[]⟩, .string ⟨#[]⟩, .int .u64 0, .int .i64 0, .int .i64 26, .slice (some ⟨v4.heap.size, 0, none⟩) 2 2, .int .i64 19, .string ⟨#[]⟩, .string ⟨#[]⟩, .int .u64 1, .int .i64 0, .int .i64 53, .slice none 0 0] 25))) (n := v4.heap.size + 2) (by simp) 25 #[.int .i64 6, .string ⟨#[]⟩, .string ⟨#[]⟩, .int .u64 0, .int .i64 0, .int .i64 6, .slice (some ⟨v4.heap.size + 1, 0, none⟩) 3 3])
  have gblock : gAt (((v4.alloc (.cells #[.int .i64 27, .string ⟨#[]⟩, .string ⟨#[]⟩, .int .u64 11, .int .i64 0, .int .i64 29, .slice (some ⟨v2.heap.size, 0, none⟩) 2 2, .int .i64 6, .string ⟨#[]⟩, .string ⟨#[]⟩, .int .u64 0, .int .i64 0, .int .i64 41, .slice (some ⟨v3.heap.size, 0, none⟩) 1 1] 25)).alloc (.cells #[.int .i64 7, .string ⟨#[97]⟩, .string ⟨#[]⟩, .int .u64 0, .int .i64 0, .int .i64 8, .slice (some ⟨v1.heap.size + 1, 0, none⟩) 1 1, .int .i64 15, .string ⟨#[]⟩, .string ⟨#[]⟩, .int .u64 0, .int .i64 0, .int .i64 26, .slice (some ⟨v4.heap.size, 0, none⟩) 2 2, .int .i64 19, .string ⟨#[]⟩, .string ⟨#[]⟩, .int .u64 1, .int .i64 0, .int .i64 53, .slice none 0 0] 25)).alloc (.cells #[.int .i64 6, .string ⟨#[]⟩, .string ⟨#[]⟩, .int .u64 0, .int .i64 0, .int .i64 6, .slice (some ⟨v4.heap.size + 1, 0, none⟩) 3 3] 25)) (G.mk 6 ⟨#[]⟩ ⟨#[]⟩ 0 0 6 [(G.mk 7 ⟨#[97]⟩ ⟨#[]⟩ 0 0 8 [(G.mk 23 ⟨#[]⟩ ⟨#[]⟩ 0 0 16 [(G.mk 21 ⟨#[]⟩ ⟨#[]⟩ 0 8 19 [])])]), (G.mk 15 ⟨#[]⟩ ⟨#[]⟩ 0 0 26 [(G.mk 27 ⟨#[]⟩ ⟨#[]⟩ 11 0 29 [(G.mk 22 ⟨#[97]⟩ ⟨#[]⟩ 0 0 30 []), (G.mk 21 ⟨#[]⟩ ⟨#[]⟩ 7 8 35 [])]), (G.mk 6 ⟨#[]⟩ ⟨#[]⟩ 0 0 41 [(G.mk 18 ⟨#[]⟩ ⟨#[]⟩ 0 0 43 [])])]), (G.mk 19 ⟨#[]⟩ ⟨#[]⟩ 1 0 53 [])]) (.slice (some ⟨v4.heap.size + 1, 0, none⟩) 3 3) := lit3 (G.mk 7 ⟨#[97]⟩ ⟨#[]⟩ 0 0 8 [(G.mk 23 ⟨#[]⟩ ⟨#[]⟩ 0 0 16 [(G.mk 21 ⟨#[]⟩ ⟨#[]⟩ 0 8 19 [])])]) (G.mk 15 ⟨#[]⟩ ⟨#[]⟩ 0 0 26 [(G.mk 27 ⟨#[]⟩ ⟨#[]⟩ 11 0 29 [(G.mk 22 ⟨#[97]⟩ ⟨#[]⟩ 0 0 30 []), (G.mk 21 ⟨#[]⟩ ⟨#[]⟩ 7 8 35 [])]), (G.mk 6 ⟨#[]⟩ ⟨#[]⟩ 0 0 41 [(G.mk 18 ⟨#[]⟩ ⟨#[]⟩ 0 0 43 [])])]) (G.mk 19 ⟨#[]⟩ ⟨#[]⟩ 1 0 53 []) _ _ _ bs35 glet (lit2 (G.mk 27 ⟨#[]⟩ ⟨#[]⟩ 11 0 29 [(G.mk 22 ⟨#[97]⟩ ⟨#[]⟩ 0 0 30 []), (G.mk 21 ⟨#[]⟩ ⟨#[]⟩ 7 8 35 [])]) (G.mk 6 ⟨#[]⟩ ⟨#[]⟩ 0 0 41 [(G.mk 18 ⟨#[]⟩ ⟨#[]⟩ 0 0 43 [])]) _ _ bs32 gcond gthen _ _ _ _ _ _) (gAt_none _ _ _ _ _ _ _) _ _ _ _ _ _
  have hBv5 : Below W.heap.size W (((v4.alloc (.cells #[.int .i64 27, .string ⟨#[]⟩, .string ⟨#[]⟩, .int .u64 11, .int .i64 0, .int .i64 29, .slice (some ⟨v2.heap.size, 0, none⟩) 2 2, .int .i64 6, .string ⟨#[]⟩, .string ⟨#[]⟩, .int .u64 0, .int .i64 0, .int .i64 41, .slice (some ⟨v3.heap.size, 0, none⟩) 1 1] 25)).alloc (.cells #[.int .i64 7, .string ⟨#[97]⟩, .string ⟨#[]⟩, .int .u64 0, .int .i64 0, .int .i64 8, .slice (some ⟨v1.heap.size + 1, 0, none⟩) 1 1, .int .i64 15, .string ⟨#[]⟩, .string ⟨#[]⟩, .int .u64 0, .int .i64 0, .int .i64 26, .slice (some ⟨v4.heap.size, 0, none⟩) 2 2, .int .i64 19, .string ⟨#[]⟩, .string ⟨#[]⟩, .int .u64 1, .int .i64 0, .int .i64 53, .slice none 0 0] 25)).alloc (.cells #[.int .i64 6, .string ⟨#[]⟩, .string ⟨#[]⟩, .int .u64 0, .int .i64 0, .int .i64 6, .slice (some ⟨v4.heap.size + 1, 0, none⟩) 3 3] 25)) := hBv4.trans (nb.mono hBv4.size)
  clear hBv4 nb l6let0 l6let1 l6let2 l6let3 l6let4 l6let5 l6let6 l6cond0 l6cond1 l6cond2 l6cond3 l6cond4 l6cond5 l6cond6 l6then0 l6then1 l6then2 l6then3 l6then4 l6then5 l6then6
  obtain ⟨v5, hy⟩ : ∃ Y, (((v4.alloc (.cells #[.int .i64 27, .string ⟨#[]⟩, .string ⟨#[]⟩, .int .u64 11, .int .i64 0, .int .i64 29, .slice (some ⟨v2.heap.size, 0, none⟩) 2 2, .int .i64 6, .string ⟨#[]⟩, .string ⟨#[]⟩, .int .u64 0, .int .i64 0, .int .i64 41, .slice (some ⟨v3.heap.size, 0, none⟩) 1 1] 25)).alloc (.cells #[.int .i64 7, .string ⟨#[97]⟩, .string ⟨#[]⟩, .int .u64 0, .int .i64 0, .int .i64 8, .slice (some ⟨v1.heap.size + 1, 0, none⟩) 1 1, .int .i64 15, .string ⟨#[]⟩, .string ⟨#[]⟩, .int .u64 0, .int .i64 0, .int .i64 26, .slice (some ⟨v4.heap.size, 0, none⟩) 2 2, .int .i64 19, .string ⟨#[]⟩, .string ⟨#[]⟩, .int .u64 1, .int .i64 0, .int .i64 53, .slice none 0 0] 25)).alloc (.cells #[.int .i64 6, .string ⟨#[]⟩, .string ⟨#[]⟩, .int .u64 0, .int .i64 0, .int .i64 6, .slice (some ⟨v4.heap.size + 1, 0, none⟩) 3 3] 25)) = Y := ⟨_, rfl⟩
  rw [hy] at bn1 blet bcond bthen gn1 glet gcond gthen bs32 bs35 bblock gblock hBv5 ⊢
  clear hy bs32 bs35
  clear blet bcond glet gcond
  have l7block0 : v5.cell? ⟨v4.heap.size + 2, 0, none⟩ = some (.int .i64 6) := bblock.cell 0
  have l7block1 : v5.cell? ⟨v4.heap.size + 2, 1, none⟩ = some (.string ⟨#[]⟩) := bblock.cell 1
  have l7block2 : v5.cell? ⟨v4.heap.size + 2, 2, none⟩ = some (.string ⟨#[]⟩) := bblock.cell 2
  have l7block3 : v5.cell? ⟨v4.heap.size + 2, 3, none⟩ = some (.int .u64 0) := bblock.cell 3
  have l7block4 : v5.cell? ⟨v4.heap.size + 2, 4, none⟩ = some (.int .i64 0) := bblock.cell 4
  have l7block5 : v5.cell? ⟨v4.heap.size + 2, 5, none⟩ = some (.int .i64 6) := bblock.cell 5
  have l7block6 : v5.cell? ⟨v4.heap.size + 2, 6, none⟩ = some (.slice (some ⟨v4.heap.size + 1, 0, none⟩) 3 3) := bblock.cell 6
  go_upto_region 8 with fail
  have nb : Below v5.heap.size v5 ((v5.alloc (.cells #[.int .i64 6, .string ⟨#[]⟩, .string ⟨#[]⟩, .int .u64 0, .int .i64 0, .int .i64 6, .slice (some ⟨v4.heap.size + 1, 0, none⟩) 3 3] 25)).alloc (.cells #[.int .i64 1, .string ⟨#[]⟩, .string ⟨#[]⟩, .int .u64 0, .int .i64 0, .int .i64 0, .slice (some ⟨v5.heap.size, 0, none⟩) 1 1] 25)) := (((Below.refl _ _).alloc (by simp <;> omega) (.cells #[.int .i64 6, .string ⟨#[]⟩, .string ⟨#[]⟩, .int .u64 0, .int .i64 0, .int .i64 6, .slice (some ⟨v4.heap.size + 1, 0, none⟩) 3 3] 25)).alloc (by simp <;> omega) (.cells #[.int .i64 1, .string ⟨#[]⟩, .string ⟨#[]⟩, .int .u64 0, .int .i64 0, .int .i64 0, .slice (some ⟨v5.heap.size, 0, none⟩) 1 1] 25))
  replace bn1 := bn1.below nb
  replace bthen := bthen.below nb
  replace bblock := bblock.below nb
  replace gn1 := gAt_later nb _ _ gn1
  replace gthen := gAt_later nb _ _ gthen
  replace gblock := gAt_later nb _ _ gblock
  have bs38 : Box ((v5.alloc (.cells #[.int .i64 6, .string ⟨#[]⟩, .string ⟨#[]⟩, .int .u64 0, .int .i64 0, .int .i64 6, .slice (some ⟨v4.heap.size + 1, 0, none⟩) 3 3] 25)).alloc (.cells #[.int .i64 1, .string ⟨#[]⟩, .string ⟨#[]⟩, .int .u64 0, .int .i64 0, .int .i64 0, .slice (some ⟨v5.heap.size, 0, none⟩) 1 1] 25)) (v5.heap.size) 25 #[.int .i64 6, .string ⟨#[]⟩, .string ⟨#[]⟩, .int .u64 0, .int .i64 0, .int .i64 6, .slice (some ⟨v4.heap.size + 1, 0, none⟩) 3 3] := ((Box.newAt (X := v5) (n := v5.heap.size) (by simp) 25 #[.int .i64 6, .string ⟨#[]⟩, .string ⟨#[]⟩, .int .u64 0, .int .i64 0, .int .i64 6, .slice (some ⟨v4.heap.size + 1, 0, none⟩) 3 3]).alloc (.cells #[.int .i64 1, .string ⟨#[]⟩, .string ⟨#[]⟩, .int .u64 0, .int .i64 0, .int .i64 0, .slice (some ⟨v5.heap.size, 0, none⟩) 1 1] 25))
  have bwant : Box ((v5.alloc (.cells #[.int .i64 6, .string ⟨#[]⟩, .string ⟨#[]⟩, .int .u64 0, .int .i64 0, .int .i64 6, .slice (some ⟨v4.heap.size + 1, 0, none⟩) 3 3] 25)).alloc (.cells #[.int .i64 1, .string ⟨#[]⟩, .string ⟨#[]⟩, .int .u64 0, .int .i64 0, .int .i64 0, .slice (some ⟨v5.heap.size, 0, none⟩) 1 1] 25)) (v5.heap.size + 1) 25 #[.int .i64 1, .string ⟨#[]⟩, .string ⟨#[]⟩, .int .u64 0, .int .i64 0, .int .i64 0, .slice (some ⟨v5.heap.size, 0, none⟩) 1 1] := (Box.newAt (X := (v5.alloc (.cells #[.int .i64 6, .string ⟨#[]⟩, .string ⟨#[]⟩, .int .u64 0, .int .i64 0, .int .i64 6, .slice (some ⟨v4.heap.size + 1, 0, none⟩) 3 3] 25))) (n := v5.heap.size + 1) (by simp) 25 #[.int .i64 1, .string ⟨#[]⟩, .string ⟨#[]⟩, .int .u64 0, .int .i64 0, .int .i64 0, .slice (some ⟨v5.heap.size, 0, none⟩) 1 1])
  have gwant : gAt ((v5.alloc (.cells #[.int .i64 6, .string ⟨#[]⟩, .string ⟨#[]⟩, .int .u64 0, .int .i64 0, .int .i64 6, .slice (some ⟨v4.heap.size + 1, 0, none⟩) 3 3] 25)).alloc (.cells #[.int .i64 1, .string ⟨#[]⟩, .string ⟨#[]⟩, .int .u64 0, .int .i64 0, .int .i64 0, .slice (some ⟨v5.heap.size, 0, none⟩) 1 1] 25)) (G.mk 1 ⟨#[]⟩ ⟨#[]⟩ 0 0 0 [(G.mk 6 ⟨#[]⟩ ⟨#[]⟩ 0 0 6 [(G.mk 7 ⟨#[97]⟩ ⟨#[]⟩ 0 0 8 [(G.mk 23 ⟨#[]⟩ ⟨#[]⟩ 0 0 16 [(G.mk 21 ⟨#[]⟩ ⟨#[]⟩ 0 8 19 [])])]), (G.mk 15 ⟨#[]⟩ ⟨#[]⟩ 0 0 26 [(G.mk 27 ⟨#[]⟩ ⟨#[]⟩ 11 0 29 [(G.mk 22 ⟨#[97]⟩ ⟨#[]⟩ 0 0 30 []), (G.mk 21 ⟨#[]⟩ ⟨#[]⟩ 7 8 35 [])]), (G.mk 6 ⟨#[]⟩ ⟨#[]⟩ 0 0 41 [(G.mk 18 ⟨#[]⟩ ⟨#[]⟩ 0 0 43 [])])]), (G.mk 19 ⟨#[]⟩ ⟨#[]⟩ 1 0 53 [])])]) (.slice (some ⟨v5.heap.size, 0, none⟩) 1 1) := lit1 (G.mk 6 ⟨#[]⟩ ⟨#[]⟩ 0 0 6 [(G.mk 7 ⟨#[97]⟩ ⟨#[]⟩ 0 0 8 [(G.mk 23 ⟨#[]⟩ ⟨#[]⟩ 0 0 16 [(G.mk 21 ⟨#[]⟩ ⟨#[]⟩ 0 8 19 [])])]), (G.mk 15 ⟨#[]⟩ ⟨#[]⟩ 0 0 26 [(G.mk 27 ⟨#[]⟩ ⟨#[]⟩ 11 0 29 [(G.mk 22 ⟨#[97]⟩ ⟨#[]⟩ 0 0 30 []), (G.mk 21 ⟨#[]⟩ ⟨#[]⟩ 7 8 35 [])]), (G.mk 6 ⟨#[]⟩ ⟨#[]⟩ 0 0 41 [(G.mk 18 ⟨#[]⟩ ⟨#[]⟩ 0 0 43 [])])]), (G.mk 19 ⟨#[]⟩ ⟨#[]⟩ 1 0 53 [])]) _ bs38 gblock _ _ _ _ _ _
  have hBv6 : Below W.heap.size W ((v5.alloc (.cells #[.int .i64 6, .string ⟨#[]⟩, .string ⟨#[]⟩, .int .u64 0, .int .i64 0, .int .i64 6, .slice (some ⟨v4.heap.size + 1, 0, none⟩) 3 3] 25)).alloc (.cells #[.int .i64 1, .string ⟨#[]⟩, .string ⟨#[]⟩, .int .u64 0, .int .i64 0, .int .i64 0, .slice (some ⟨v5.heap.size, 0, none⟩) 1 1] 25)) := hBv5.trans (nb.mono hBv5.size)
  clear hBv5 nb l7block0 l7block1 l7block2 l7block3 l7block4 l7block5 l7block6
  obtain ⟨v6, hy⟩ : ∃ Y, ((v5.alloc (.cells #[.int .i64 6, .string ⟨#[]⟩, .string ⟨#[]⟩, .int .u64 0, .int .i64 0, .int .i64 6, .slice (some ⟨v4.heap.size + 1, 0, none⟩) 3 3] 25)).alloc (.cells #[.int .i64 1, .string ⟨#[]⟩, .string ⟨#[]⟩, .int .u64 0, .int .i64 0, .int .i64 0, .slice (some ⟨v5.heap.size, 0, none⟩) 1 1] 25)) = Y := ⟨_, rfl⟩
  rw [hy] at bn1 bthen bblock gn1 gthen gblock bs38 bwant gwant hBv6 ⊢
  clear hy bs38
  have m1n10 : v6.cell? ⟨w1.heap.size, 0, none⟩ = some (.int .i64 1) := bn1.cell 0
  have m1n11 : v6.cell? ⟨w1.heap.size, 1, none⟩ = some (.string ⟨#[]⟩) := bn1.cell 1
  have m1n12 : v6.cell? ⟨w1.heap.size, 2, none⟩ = some (.string ⟨#[]⟩) := bn1.cell 2
  have m1n13 : v6.cell? ⟨w1.heap.size, 3, none⟩ = some (.int .u64 0) := bn1.cell 3
  have m1n14 : v6.cell? ⟨w1.heap.size, 4, none⟩ = some (.int .i64 0) := bn1.cell 4
  have m1n15 : v6.cell? ⟨w1.heap.size, 5, none⟩ = some (.int .i64 0) := bn1.cell 5
  have m1n16 : v6.cell? ⟨w1.heap.size, 6, none⟩ = some (.slice A1 1 c1) := bn1.cell 6
  have m1then0 : v6.cell? ⟨v3.heap.size + 1, 0, none⟩ = some (.int .i64 6) := bthen.cell 0
  have m1then1 : v6.cell? ⟨v3.heap.size + 1, 1, none⟩ = some (.string ⟨#[]⟩) := bthen.cell 1
  have m1then2 : v6.cell? ⟨v3.heap.size + 1, 2, none⟩ = some (.string ⟨#[]⟩) := bthen.cell 2
  have m1then3 : v6.cell? ⟨v3.heap.size + 1, 3, none⟩ = some (.int .u64 0) := bthen.cell 3
  have m1then4 : v6.cell? ⟨v3.heap.size + 1, 4, none⟩ = some (.int .i64 0) := bthen.cell 4
  have m1then5 : v6.cell? ⟨v3.heap.size + 1, 5, none⟩ = some (.int .i64 41) := bthen.cell 5
  have m1then6 : v6.cell? ⟨v3.heap.size + 1, 6, none⟩ = some (.slice (some ⟨v3.heap.size, 0, none⟩) 1 1) := bthen.cell 6
  have m1block0 : v6.cell? ⟨v4.heap.size + 2, 0, none⟩ = some (.int .i64 6) := bblock.cell 0
  have m1block1 : v6.cell? ⟨v4.heap.size + 2, 1, none⟩ = some (.string ⟨#[]⟩) := bblock.cell 1
  have m1block2 : v6.cell? ⟨v4.heap.size + 2, 2, none⟩ = some (.string ⟨#[]⟩) := bblock.cell 2
  have m1block3 : v6.cell? ⟨v4.heap.size + 2, 3, none⟩ = some (.int .u64 0) := bblock.cell 3
  have m1block4 : v6.cell? ⟨v4.heap.size + 2, 4, none⟩ = some (.int .i64 0) := bblock.cell 4
  have m1block5 : v6.cell? ⟨v4.heap.size + 2, 5, none⟩ = some (.int .i64 6) := bblock.cell 5
  have m1block6 : v6.cell? ⟨v4.heap.size + 2, 6, none⟩ = some (.slice (some ⟨v4.heap.size + 1, 0, none⟩) 3 3) := bblock.cell 6
  have m1want0 : v6.cell? ⟨v5.heap.size + 1, 0, none⟩ = some (.int .i64 1) := bwant.cell 0
  have m1want1 : v6.cell? ⟨v5.heap.size + 1, 1, none⟩ = some (.string ⟨#[]⟩) := bwant.cell 1
  have m1want2 : v6.cell? ⟨v5.heap.size + 1, 2, none⟩ = some (.string ⟨#[]⟩) := bwant.cell 2
  have m1want3 : v6.cell? ⟨v5.heap.size + 1, 3, none⟩ = some (.int .u64 0) := bwant.cell 3
  have m1want4 : v6.cell? ⟨v5.heap.size + 1, 4, none⟩ = some (.int .i64 0) := bwant.cell 4
  have m1want5 : v6.cell? ⟨v5.heap.size + 1, 5, none⟩ = some (.int .i64 0) := bwant.cell 5
  have m1want6 : v6.cell? ⟨v5.heap.size + 1, 6, none⟩ = some (.slice (some ⟨v5.heap.size, 0, none⟩) 1 1) := bwant.cell 6
  go_wp2_with fail
  refine (h_same1 _ A1 c1 _ gn1 gwant).mono ?_
  rintro e x1 ⟨rfl, nb⟩
  replace bn1 := bn1.below nb
  replace bthen := bthen.below nb
  replace bblock := bblock.below nb
  replace bwant := bwant.below nb
  replace gn1 := gAt_later nb _ _ gn1
  replace gthen := gAt_later nb _ _ gthen
  replace gblock := gAt_later nb _ _ gblock
  replace gwant := gAt_later nb _ _ gwant
  have hBx1 : Below W.heap.size W x1 := hBv6.trans (nb.mono hBv6.size)
  clear hBv6 nb m1n10 m1n11 m1n12 m1n13 m1n14 m1n15 m1n16 m1then0 m1then1 m1then2 m1then3 m1then4 m1then5 m1then6 m1block0 m1block1 m1block2 m1block3 m1block4 m1block5 m1block6 m1want0 m1want1 m1want2 m1want3 m1want4 m1want5 m1want6
  have m2n10 : x1.cell? ⟨w1.heap.size, 0, none⟩ = some (.int .i64 1) := bn1.cell 0
  have m2n11 : x1.cell? ⟨w1.heap.size, 1, none⟩ = some (.string ⟨#[]⟩) := bn1.cell 1
  have m2n12 : x1.cell? ⟨w1.heap.size, 2, none⟩ = some (.string ⟨#[]⟩) := bn1.cell 2
  have m2n13 : x1.cell? ⟨w1.heap.size, 3, none⟩ = some (.int .u64 0) := bn1.cell 3
  have m2n14 : x1.cell? ⟨w1.heap.size, 4, none⟩ = some (.int .i64 0) := bn1.cell 4
  have m2n15 : x1.cell? ⟨w1.heap.size, 5, none⟩ = some (.int .i64 0) := bn1.cell 5
  have m2n16 : x1.cell? ⟨w1.heap.size, 6, none⟩ = some (.slice A1 1 c1) := bn1.cell 6
  have m2then0 : x1.cell? ⟨v3.heap.size + 1, 0, none⟩ = some (.int .i64 6) := bthen.cell 0
  have m2then1 : x1.cell? ⟨v3.heap.size + 1, 1, none⟩ = some (.string ⟨#[]⟩) := bthen.cell 1
  have m2then2 : x1.cell? ⟨v3.heap.size + 1, 2, none⟩ = some (.string ⟨#[]⟩) := bthen.cell 2
  have m2then3 : x1.cell? ⟨v3.heap.size + 1, 3, none⟩ = some (.int .u64 0) := bthen.cell 3
  have m2then4 : x1.cell? ⟨v3.heap.size + 1, 4, none⟩ = some (.int .i64 0) := bthen.cell 4
  have m2then5 : x1.cell? ⟨v3.heap.size + 1, 5, none⟩ = some (.int .i64 41) := bthen.cell 5
  have m2then6 : x1.cell? ⟨v3.heap.size + 1, 6, none⟩ = some (.slice (some ⟨v3.heap.size, 0, none⟩) 1 1) := bthen.cell 6
  have m2block0 : x1.cell? ⟨v4.heap.size + 2, 0, none⟩ = some (.int .i64 6) := bblock.cell 0
  have m2block1 : x1.cell? ⟨v4.heap.size + 2, 1, none⟩ = some (.string ⟨#[]⟩) := bblock.cell 1
  have m2block2 : x1.cell? ⟨v4.heap.size + 2, 2, none⟩ = some (.string ⟨#[]⟩) := bblock.cell 2
  have m2block3 : x1.cell? ⟨v4.heap.size + 2, 3, none⟩ = some (.int .u64 0) := bblock.cell 3
  have m2block4 : x1.cell? ⟨v4.heap.size + 2, 4, none⟩ = some (.int .i64 0) := bblock.cell 4
  have m2block5 : x1.cell? ⟨v4.heap.size + 2, 5, none⟩ = some (.int .i64 6) := bblock.cell 5
  have m2block6 : x1.cell? ⟨v4.heap.size + 2, 6, none⟩ = some (.slice (some ⟨v4.heap.size + 1, 0, none⟩) 3 3) := bblock.cell 6
  have m2want0 : x1.cell? ⟨v5.heap.size + 1, 0, none⟩ = some (.int .i64 1) := bwant.cell 0
  have m2want1 : x1.cell? ⟨v5.heap.size + 1, 1, none⟩ = some (.string ⟨#[]⟩) := bwant.cell 1
  have m2want2 : x1.cell? ⟨v5.heap.size + 1, 2, none⟩ = some (.string ⟨#[]⟩) := bwant.cell 2
  have m2want3 : x1.cell? ⟨v5.heap.size + 1, 3, none⟩ = some (.int .u64 0) := bwant.cell 3
  have m2want4 : x1.cell? ⟨v5.heap.size + 1, 4, none⟩ = some (.int .i64 0) := bwant.cell 4
  have m2want5 : x1.cell? ⟨v5.heap.size + 1, 5, none⟩ = some (.int .i64 0) := bwant.cell 5
  have m2want6 : x1.cell? ⟨v5.heap.size + 1, 6, none⟩ = some (.slice (some ⟨v5.heap.size, 0, none⟩) 1 1) := bwant.cell 6
  go_wp2_with fail
  refine (h_valid1 _ A1 c1 gn1 (hp.later hBx1)).mono ?_
  rintro e x2 ⟨rfl, nb⟩
  replace bn1 := bn1.below nb
  replace bthen := bthen.below nb
  replace bblock := bblock.below nb
  replace bwant := bwant.below nb
  replace gn1 := gAt_later nb _ _ gn1
  replace gthen := gAt_later nb _ _ gthen
  replace gblock := gAt_later nb _ _ gblock
  replace gwant := gAt_later nb _ _ gwant
  have hBx2 : Below W.heap.size W x2 := hBx1.trans (nb.mono hBx1.size)
  clear hBx1 nb m2n10 m2n11 m2n12 m2n13 m2n14 m2n15 m2n16 m2then0 m2then1 m2then2 m2then3 m2then4 m2then5 m2then6 m2block0 m2block1 m2block2 m2block3 m2block4 m2block5 m2block6 m2want0 m2want1 m2want2 m2want3 m2want4 m2want5 m2want6
  clear bn1 bwant gn1 gwant
  have m3then0 : x2.cell? ⟨v3.heap.size + 1, 0, none⟩ = some (.int .i64 6) := bthen.cell 0
  have m3then1 : x2.cell? ⟨v3.heap.size + 1, 1, none⟩ = some (.string ⟨#[]⟩) := bthen.cell 1
  have m3then2 : x2.cell? ⟨v3.heap.size + 1, 2, none⟩ = some (.string ⟨#[]⟩) := bthen.cell 2
  have m3then3 : x2.cell? ⟨v3.heap.size + 1, 3, none⟩ = some (.int .u64 0) := bthen.cell 3
  have m3then4 : x2.cell? ⟨v3.heap.size + 1, 4, none⟩ = some (.int .i64 0) := bthen.cell 4
  have m3then5 : x2.cell? ⟨v3.heap.size + 1, 5, none⟩ = some (.int .i64 41) := bthen.cell 5
  have m3then6 : x2.cell? ⟨v3.heap.size + 1, 6, none⟩ = some (.slice (some ⟨v3.heap.size, 0, none⟩) 1 1) := bthen.cell 6
  have m3block0 : x2.cell? ⟨v4.heap.size + 2, 0, none⟩ = some (.int .i64 6) := bblock.cell 0
  have m3block1 : x2.cell? ⟨v4.heap.size + 2, 1, none⟩ = some (.string ⟨#[]⟩) := bblock.cell 1
  have m3block2 : x2.cell? ⟨v4.heap.size + 2, 2, none⟩ = some (.string ⟨#[]⟩) := bblock.cell 2
  have m3block3 : x2.cell? ⟨v4.heap.size + 2, 3, none⟩ = some (.int .u64 0) := bblock.cell 3
  have m3block4 : x2.cell? ⟨v4.heap.size + 2, 4, none⟩ = some (.int .i64 0) := bblock.cell 4
  have m3block5 : x2.cell? ⟨v4.heap.size + 2, 5, none⟩ = some (.int .i64 6) := bblock.cell 5
  have m3block6 : x2.cell? ⟨v4.heap.size + 2, 6, none⟩ = some (.slice (some ⟨v4.heap.size + 1, 0, none⟩) 3 3) := bblock.cell 6
  go_wp2_with fail
  refine (h_valid2 _ _ gblock (hp.later hBx2)).mono ?_
  rintro e x3 ⟨rfl, nb⟩
  replace bthen := bthen.below nb
  replace bblock := bblock.below nb
  replace gthen := gAt_later nb _ _ gthen
  replace gblock := gAt_later nb _ _ gblock
  have hBx3 : Below W.heap.size W x3 := hBx2.trans (nb.mono hBx2.size)
  clear hBx2 nb m3then0 m3then1 m3then2 m3then3 m3then4 m3then5 m3then6 m3block0 m3block1 m3block2 m3block3 m3block4 m3block5 m3block6
  clear bblock gblock
  have m4then0 : x3.cell? ⟨v3.heap.size + 1, 0, none⟩ = some (.int .i64 6) := bthen.cell 0
  have m4then1 : x3.cell? ⟨v3.heap.size + 1, 1, none⟩ = some (.string ⟨#[]⟩) := bthen.cell 1
  have m4then2 : x3.cell? ⟨v3.heap.size + 1, 2, none⟩ = some (.string ⟨#[]⟩) := bthen.cell 2
  have m4then3 : x3.cell? ⟨v3.heap.size + 1, 3, none⟩ = some (.int .u64 0) := bthen.cell 3
  have m4then4 : x3.cell? ⟨v3.heap.size + 1, 4, none⟩ = some (.int .i64 0) := bthen.cell 4
  have m4then5 : x3.cell? ⟨v3.heap.size + 1, 5, none⟩ = some (.int .i64 41) := bthen.cell 5
  have m4then6 : x3.cell? ⟨v3.heap.size + 1, 6, none⟩ = some (.slice (some ⟨v3.heap.size, 0, none⟩) 1 1) := bthen.cell 6
  go_wp2_with fail
  refine (h_strip _ _ gthen).mono ?_
  rintro e x4 ⟨KA, KC, rfl, gst, nb⟩
  replace bthen := bthen.below nb
  replace gthen := gAt_later nb _ _ gthen
  have hBx4 : Below W.heap.size W x4 := hBx3.trans (nb.mono hBx3.size)
  clear hBx3 nb m4then0 m4then1 m4then2 m4then3 m4then4 m4then5 m4then6
  clear bthen gthen
  have nb : Below x4.heap.size x4 (x4.alloc (.cells #[.int .i64 18, .string ⟨#[]⟩, .string ⟨#[]⟩, .int .u64 0, .int .i64 0, .int .i64 0, .slice none 0 0] 25)) := (Below.refl _ _).alloc (Nat.le_refl _) _
  have gs2 : gAt (x4.alloc (.cells #[.int .i64 18, .string ⟨#[]⟩, .string ⟨#[]⟩, .int .u64 0, .int .i64 0, .int .i64 0, .slice none 0 0] 25)) hGs (.slice (some ⟨x4.heap.size, 0, none⟩) 1 1) := lit1 (G.mk 18 ⟨#[]⟩ ⟨#[]⟩ 0 0 0 []) _ (Box.new x4 25 #[.int .i64 18, .string ⟨#[]⟩, .string ⟨#[]⟩, .int .u64 0, .int .i64 0, .int .i64 0, .slice none 0 0]) (gAt_none _ _ _ _ _ _ _) _ _ _ _ _ _
  replace gst := gAt_later nb _ _ gst
  have hBy : Below W.heap.size W (x4.alloc (.cells #[.int .i64 18, .string ⟨#[]⟩, .string ⟨#[]⟩, .int .u64 0, .int .i64 0, .int .i64 0, .slice none 0 0] 25)) := hBx4.trans (nb.mono hBx4.size)
  clear nb hBx4
  go_wp2_with fail
  refine (h_same2 _ KA KC _ gst gs2).mono ?_
  rintro e y0 ⟨rfl, nb⟩
  have hBy0 := hBy.trans (nb.mono hBy.size)
  clear nb hBy gst gs2
  have nb : Below y0.heap.size y0 (y0.alloc (.cells #[.int .i64 16] 3)) := (Below.refl _ _).alloc (Nat.le_refl _) _
  have hBa := hBy0.trans (nb.mono hBy0.size)
  clear nb hBy0
  go_wp2_with fail
  refine (fails_at ⟨#[112, 97, 114, 115, 101, 32, 123, 32, 108, 101, 116, 32, 97, 32, 61, 32, 59, 32, 97, 99, 99, 101, 112, 116, 59, 32, 125]⟩ [16] (some ⟨y0.heap.size, 0, none⟩) 1 _ (by decide) (Lib.hid src2) (by decide) (hp.later hBa).1 (hp.later hBa).2.1 (irow1 _ _ 16)).mono ?_
  rintro e y1 ⟨rfl, nb⟩
  have hBy1 := hBa.trans (nb.mono hBa.size)
  clear nb hBa
  have nb : Below y1.heap.size y1 (y1.alloc (.cells #[.int .i64 14] 3)) := (Below.refl _ _).alloc (Nat.le_refl _) _
  have hBa := hBy1.trans (nb.mono hBy1.size)
  clear nb hBy1
  go_wp2_with fail
  refine (fails_at ⟨#[112, 97, 114, 115, 101, 32, 123, 32, 97, 99, 99, 101, 112, 116]⟩ [14] (some ⟨y1.heap.size, 0, none⟩) 1 _ (by decide) (Lib.hid src3) (by decide) (hp.later hBa).1 (hp.later hBa).2.1 (irow1 _ _ 14)).mono ?_
  rintro e y2 ⟨rfl, nb⟩
  have hBy2 := hBa.trans (nb.mono hBa.size)
  clear nb hBa
  have nb : Below y2.heap.size y2 (y2.alloc (.cells #[.int .i64 11] 3)) := (Below.refl _ _).alloc (Nat.le_refl _) _
  have hBa := hBy2.trans (nb.mono hBy2.size)
  clear nb hBy2
  go_wp2_with fail
  refine (fails_at ⟨#[115, 116, 114, 117, 99, 116, 32, 115, 32, 123, 32, 125, 32, 32, 112, 97, 114, 115, 101, 32, 123, 32, 125]⟩ [11] (some ⟨y2.heap.size, 0, none⟩) 1 _ (by decide) (Lib.hid src4) (by decide) (hp.later hBa).1 (hp.later hBa).2.1 (irow1 _ _ 11)).mono ?_
  rintro e y3 ⟨rfl, nb⟩
  have hBy3 := hBa.trans (nb.mono hBa.size)
  clear nb hBa
  have nb : Below y3.heap.size y3 (y3.alloc (.cells #[.int .i64 0] 3)) := (Below.refl _ _).alloc (Nat.le_refl _) _
  have hBa := hBy3.trans (nb.mono hBy3.size)
  clear nb hBy3
  go_wp2_with fail
  refine (fails_at ⟨#[]⟩ [0] (some ⟨y3.heap.size, 0, none⟩) 1 _ (by decide) (Lib.hid src5) (by decide) (hp.later hBa).1 (hp.later hBa).2.1 (irow1 _ _ 0)).mono ?_
  rintro e y4 ⟨rfl, nb⟩
  have hBy4 := hBa.trans (nb.mono hBa.size)
  clear nb hBa
  have nb : Below y4.heap.size y4 (y4.alloc (.cells #[.int .i64 16, .int .i64 28, .int .i64 34] 3)) := (Below.refl _ _).alloc (Nat.le_refl _) _
  have hBa := hBy4.trans (nb.mono hBy4.size)
  clear nb hBy4
  go_wp2_with fail
  refine (fails_at ⟨#[112, 97, 114, 115, 101, 32, 123, 32, 105, 102, 32, 120, 32, 123, 32, 121, 59, 32, 125, 32, 101, 108, 115, 101, 32, 123, 32, 122, 59, 32, 125, 32, 119, 32, 125]⟩ [16, 28, 34] (some ⟨y4.heap.size, 0, none⟩) 3 _ (by decide) (Lib.hid src6) (by decide) (hp.later hBa).1 (hp.later hBa).2.1 (irow3 _ _ 16 28 34)).mono ?_
  rintro e y5 ⟨rfl, nb⟩
  have hBy5 := hBa.trans (nb.mono hBa.size)
  clear nb hBa
  go_wp2_with fail
  refine (h_rep ⟨#[105, 102, 32, 108, 101, 110, 32, 123]⟩ 10 l1 _ (by omega) (by decide) (by decide) (by omega) hl1).mono ?_
  rintro e z1 ⟨rfl, nb⟩
  have hBz1 := hBy5.trans (nb.mono hBy5.size)
  clear nb hBy5
  have q1 : (({ data := #[112, 97, 114, 115, 101, 32, 123] } : ByteArray) ++ { data := l1.toArray }).size ≤ 9223372036854775807 := by
    rw [happ_size]; have := hz1.out; simp; omega
  have hzz := hz1.out
  have q1b : 7 + l1.length ≤ 9223372036854775807 := by omega
  go_wp2_with fail
  refine (h_rep ⟨#[125]⟩ 11 l2 _ (by omega) (by decide) (by decide) (by omega) hl2).mono ?_
  rintro e z2 ⟨rfl, nb⟩
  have hBz2 := hBz1.trans (nb.mono hBz1.size)
  clear nb hBz1
  have q2 : (({ data := #[112, 97, 114, 115, 101, 32, 123] } : ByteArray) ++ { data := l1.toArray } ++ { data := l2.toArray }).size ≤ 9223372036854775807 := by
    rw [ByteArray.size_append, happ_size]; have h1 := hz1.out; have h2 := hz2.out; show _ + l2.toArray.size ≤ _; simp; omega
  have hzy := hz2.out
  have q2b : 7 + l1.length + l2.length ≤ 9223372036854775807 := by omega
  go_wp2_with fail
  have hS : Hid (parseS ({ data := #[112, 97, 114, 115, 101, 32, 123] } ++ { data := l1.toArray } ++ { data := l2.toArray } : ByteArray).data.toList = (T.zero, [(11, 82)])) := Lib.hid (by
    rw [ByteArray.data_append, happ_list, Array.toList_append, Array.toList_append]; exact h7.out)
  refine (parse_at _ _ q2 (hp.later hBz2).1 (hp.later hBz2).2.1).mono ?_
  rintro e u1 ⟨A7, c7, d7, hx, nd, drow, nb⟩
  rw [hS.out] at hx drow
  obtain rfl : e = .returned (.tuple #[.agg #[.int .i64 0, .string ⟨#[]⟩, .string ⟨#[]⟩, .int .u64 0, .int .i64 0, .int .i64 0, .slice A7 0 c7], d7]) := hx
  replace drow : u1.ownsRow z2.heap.size DT 2 d7 1 (dgV [(11, 82)]) := drow
  obtain ⟨DB, DD, rfl⟩ := ownsRow_form drow
  have hBu1 := hBz2.trans (nb.mono hBz2.size)
  have D1 : Dg u1 (.slice DB 1 DD) [(11, 82)] := ⟨_, drow⟩
  have nb2 : Below u1.heap.size u1 (u1.alloc (.cells #[.int .i64 0, .string ⟨#[]⟩, .string ⟨#[]⟩, .int .u64 0, .int .i64 0, .int .i64 0, .slice A7 0 c7] 25)) := (Below.refl _ _).alloc (Nat.le_refl _) _
  replace D1 := D1.later nb2
  have hBu2 : Below W.heap.size W (u1.alloc (.cells #[.int .i64 0, .string ⟨#[]⟩, .string ⟨#[]⟩, .int .u64 0, .int .i64 0, .int .i64 0, .slice A7 0 c7] 25)) := hBu1.trans (nb2.mono hBu1.size)
  clear nb2 nb nd drow hBu1 hS h7 hz1 hz2 q1 q1b q2 hBz2 hl1 hl2 hzz hzy q2b
  go_upto_region 11 with fail
  obtain ⟨u2, hy⟩ : ∃ Y, u1.alloc (.cells #[.int .i64 0, .string ⟨#[]⟩, .string ⟨#[]⟩, .int .u64 0, .int .i64 0, .int .i64 0, .slice A7 0 c7] 25) = Y := ⟨_, rfl⟩
  rw [hy] at D1 hBu2 ⊢
  clear hy
  have nb : Below u2.heap.size u2 (u2.alloc (.cells #[.int .i64 11, .int .i64 82] DT)) := (Below.refl _ _).alloc (Nat.le_refl _) _
  have D2 := dg_lit u2
  replace D1 := D1.later nb
  have hBu3 : Below W.heap.size W (u2.alloc (.cells #[.int .i64 11, .int .i64 82] DT)) := hBu2.trans (nb.mono hBu2.size)
  have hsd := sameDiags_any [(11, 82)] [(11, 82)] (.slice DB 1 DD) (.slice (some ⟨u2.heap.size, 0, none⟩) 1 1) _ (by decide) D1 D2
  have hst : (([(11, 82)] : List (Nat × Nat)) == [(11, 82)]) = true := by decide
  rw [hst] at hsd
  clear D1 D2 hst nb hBu2
  go_wp2_with fail
  refine hsd.mono ?_
  rintro e u4 ⟨rfl, hD⟩
  go_wp2
  go_ret
  exact ⟨rfl, hBu3.trans (hD.below.mono hBu3.size)⟩
end Go.Proofs.YtmkehecapjdfdaaGreatDoor
