/- ssa: whether the instructions fit. -/
import Derived.Test.YtnbgadndkepomaaGreatDoorSQI
import Derived.Test.YtnbgadndkepomaaGreatDoorSQC
import Derived.Test.YtnbgadndkepomaaGreatDoorSaOut2
namespace Go.Proofs.YtnbgadndkepomaaGreatDoor
open Go.RowKit

theorem arg_ix {c : Cd} {i : CIn} (h : ∀ v ∈ argsOf i, Ix v c.ins) {n : Nat} (hn : valN i.op = n) : (1 ≤ n → Ix i.a c.ins) ∧ (2 ≤ n → Ix i.b c.ins) ∧ (3 ≤ n → Ix i.c c.ins) := by
  unfold argsOf valsOf at h
  rw [hn] at h
  refine ⟨fun h1 => h _ ?_, fun h1 => h _ ?_, fun h1 => h _ ?_⟩
  · match n, h1 with
    | n + 1, _ => simp
  · match n, h1 with
    | n + 2, _ => simp
  · match n, h1 with
    | n + 3, _ => simp
set_option maxRecDepth 100000 in
set_option maxHeartbeats 1600000 in
theorem fits_any {W : World} {p : Nat} {c : Cd} {x : Sl} (h : PtAt W p c x) (ok : c.ok) (h8 : c.st.length ≤ 8) (h32 : c.nm.length ≤ 32) (i : CIn) (iok : i.ok) (k : Nat) (hop : i.op = k) (ho : OpP (k : Int)) (hargs : ∀ v ∈ argsOf i, Ix v c.ins) (fi : Nat) (hfi : fnL.getD k none = some fi) :
    Calls Tryz.prog fi #[.pointer (some ⟨p, 0, none⟩), .agg #[.int .i64 i.op, .int .i64 i.w, .int .i64 i.p, .int .i64 i.a, .int .i64 i.b, .int .i64 i.c, .int .u64 i.n, .int .i64 i.at_]] W fun e w' => e = .returned (.bool (B (InstP c i))) ∧ Below W.heap.size W w' := by
  have hk : k = 1 ∨ k = 2 ∨ k = 3 ∨ k = 4 ∨ k = 5 ∨ k = 6 ∨ k = 7 ∨ k = 8 ∨ k = 9 ∨ k = 10 ∨ k = 11 ∨ k = 12 ∨ k = 13 ∨ k = 14 ∨ k = 15 ∨ k = 16 ∨ k = 17 ∨ k = 18 ∨ k = 19 ∨ k = 21 ∨ k = 22 ∨ k = 30 ∨ k = 31 ∨ k = 32 ∨ k = 33 ∨ k = 34 ∨ k = 35 ∨ k = 36 := by unfold OpP at ho; omega
  rcases hk with rfl | rfl | rfl | rfl | rfl | rfl | rfl | rfl | rfl | rfl | rfl | rfl | rfl | rfl | rfl | rfl | rfl | rfl | rfl | rfl | rfl | rfl | rfl | rfl | rfl | rfl | rfl | rfl
  · cases hfi
    have hx := arg_ix hargs (n := 0) (by rw [hop]; decide)
    have e : InstP c i = InstP c i := rfl
    conv at e => rhs; unfold InstP
    dsimp only at e
    rw [hop, if_pos (by decide)] at e
    rw [e]
    exact constFits_any i iok.2.2.2.2.2.2.1
  · cases hfi
    have hx := arg_ix hargs (n := 2) (by rw [hop]; decide)
    have ha := hx.1 (by decide)
    have hb := hx.2.1 (by decide)
    have e : InstP c i = InstP c i := rfl
    conv at e => rhs; unfold InstP
    dsimp only at e
    rw [hop, if_neg (by decide), if_pos (by decide)] at e
    rw [e]
    exact arithmeticFits_any h i ha hb
  · cases hfi
    have hx := arg_ix hargs (n := 2) (by rw [hop]; decide)
    have ha := hx.1 (by decide)
    have hb := hx.2.1 (by decide)
    have e : InstP c i = InstP c i := rfl
    conv at e => rhs; unfold InstP
    dsimp only at e
    rw [hop, if_neg (by decide), if_pos (by decide)] at e
    rw [e]
    exact arithmeticFits_any h i ha hb
  · cases hfi
    have hx := arg_ix hargs (n := 2) (by rw [hop]; decide)
    have ha := hx.1 (by decide)
    have hb := hx.2.1 (by decide)
    have e : InstP c i = InstP c i := rfl
    conv at e => rhs; unfold InstP
    dsimp only at e
    rw [hop, if_neg (by decide), if_pos (by decide)] at e
    rw [e]
    exact arithmeticFits_any h i ha hb
  · cases hfi
    have hx := arg_ix hargs (n := 2) (by rw [hop]; decide)
    have ha := hx.1 (by decide)
    have hb := hx.2.1 (by decide)
    have e : InstP c i = InstP c i := rfl
    conv at e => rhs; unfold InstP
    dsimp only at e
    rw [hop, if_neg (by decide), if_pos (by decide)] at e
    rw [e]
    exact arithmeticFits_any h i ha hb
  · cases hfi
    have hx := arg_ix hargs (n := 2) (by rw [hop]; decide)
    have ha := hx.1 (by decide)
    have hb := hx.2.1 (by decide)
    have e : InstP c i = InstP c i := rfl
    conv at e => rhs; unfold InstP
    dsimp only at e
    rw [hop, if_neg (by decide), if_pos (by decide)] at e
    rw [e]
    exact arithmeticFits_any h i ha hb
  · cases hfi
    have hx := arg_ix hargs (n := 2) (by rw [hop]; decide)
    have ha := hx.1 (by decide)
    have hb := hx.2.1 (by decide)
    have e : InstP c i = InstP c i := rfl
    conv at e => rhs; unfold InstP
    dsimp only at e
    rw [hop, if_neg (by decide), if_pos (by decide)] at e
    rw [e]
    exact arithmeticFits_any h i ha hb
  · cases hfi
    have hx := arg_ix hargs (n := 2) (by rw [hop]; decide)
    have ha := hx.1 (by decide)
    have hb := hx.2.1 (by decide)
    have e : InstP c i = InstP c i := rfl
    conv at e => rhs; unfold InstP
    dsimp only at e
    rw [hop, if_neg (by decide), if_pos (by decide)] at e
    rw [e]
    exact arithmeticFits_any h i ha hb
  · cases hfi
    have hx := arg_ix hargs (n := 2) (by rw [hop]; decide)
    have ha := hx.1 (by decide)
    have hb := hx.2.1 (by decide)
    have e : InstP c i = InstP c i := rfl
    conv at e => rhs; unfold InstP
    dsimp only at e
    rw [hop, if_neg (by decide), if_pos (by decide)] at e
    rw [e]
    exact arithmeticFits_any h i ha hb
  · cases hfi
    have hx := arg_ix hargs (n := 2) (by rw [hop]; decide)
    have ha := hx.1 (by decide)
    have hb := hx.2.1 (by decide)
    have e : InstP c i = InstP c i := rfl
    conv at e => rhs; unfold InstP
    dsimp only at e
    rw [hop, if_neg (by decide), if_pos (by decide)] at e
    rw [e]
    exact arithmeticFits_any h i ha hb
  · cases hfi
    have hx := arg_ix hargs (n := 2) (by rw [hop]; decide)
    have ha := hx.1 (by decide)
    have hb := hx.2.1 (by decide)
    have e : InstP c i = InstP c i := rfl
    conv at e => rhs; unfold InstP
    dsimp only at e
    rw [hop, if_neg (by decide), if_pos (by decide)] at e
    rw [e]
    exact arithmeticFits_any h i ha hb
  · cases hfi
    have hx := arg_ix hargs (n := 2) (by rw [hop]; decide)
    have ha := hx.1 (by decide)
    have hb := hx.2.1 (by decide)
    have e : InstP c i = InstP c i := rfl
    conv at e => rhs; unfold InstP
    dsimp only at e
    rw [hop, if_neg (by decide), if_neg (by decide), if_pos (by decide)] at e
    rw [e]
    exact comparisonFits_any h i ha hb
  · cases hfi
    have hx := arg_ix hargs (n := 2) (by rw [hop]; decide)
    have ha := hx.1 (by decide)
    have hb := hx.2.1 (by decide)
    have e : InstP c i = InstP c i := rfl
    conv at e => rhs; unfold InstP
    dsimp only at e
    rw [hop, if_neg (by decide), if_neg (by decide), if_pos (by decide)] at e
    rw [e]
    exact comparisonFits_any h i ha hb
  · cases hfi
    have hx := arg_ix hargs (n := 2) (by rw [hop]; decide)
    have ha := hx.1 (by decide)
    have hb := hx.2.1 (by decide)
    have e : InstP c i = InstP c i := rfl
    conv at e => rhs; unfold InstP
    dsimp only at e
    rw [hop, if_neg (by decide), if_neg (by decide), if_pos (by decide)] at e
    rw [e]
    exact comparisonFits_any h i ha hb
  · cases hfi
    have hx := arg_ix hargs (n := 1) (by rw [hop]; decide)
    have ha := hx.1 (by decide)
    have e : InstP c i = InstP c i := rfl
    conv at e => rhs; unfold InstP
    dsimp only at e
    rw [hop, if_neg (by decide), if_neg (by decide), if_neg (by decide), if_pos (by decide)] at e
    rw [e]
    exact notFits_any h i ha
  · cases hfi
    have hx := arg_ix hargs (n := 1) (by rw [hop]; decide)
    have ha := hx.1 (by decide)
    have e : InstP c i = InstP c i := rfl
    conv at e => rhs; unfold InstP
    dsimp only at e
    rw [hop, if_neg (by decide), if_neg (by decide), if_neg (by decide), if_neg (by decide), if_pos (by decide)] at e
    rw [e]
    exact extensionFits_any h i ha
  · cases hfi
    have hx := arg_ix hargs (n := 1) (by rw [hop]; decide)
    have ha := hx.1 (by decide)
    have e : InstP c i = InstP c i := rfl
    conv at e => rhs; unfold InstP
    dsimp only at e
    rw [hop, if_neg (by decide), if_neg (by decide), if_neg (by decide), if_neg (by decide), if_pos (by decide)] at e
    rw [e]
    exact extensionFits_any h i ha
  · cases hfi
    have hx := arg_ix hargs (n := 1) (by rw [hop]; decide)
    have ha := hx.1 (by decide)
    have e : InstP c i = InstP c i := rfl
    conv at e => rhs; unfold InstP
    dsimp only at e
    rw [hop, if_neg (by decide), if_neg (by decide), if_neg (by decide), if_neg (by decide), if_neg (by decide), if_pos (by decide)] at e
    rw [e, ← and_assoc (a := 1 ≤ i.w)]
    exact partFits_any h i ha
  · cases hfi
    have hx := arg_ix hargs (n := 2) (by rw [hop]; decide)
    have ha := hx.1 (by decide)
    have hb := hx.2.1 (by decide)
    have e : InstP c i = InstP c i := rfl
    conv at e => rhs; unfold InstP
    dsimp only at e
    rw [hop, if_neg (by decide), if_neg (by decide), if_neg (by decide), if_neg (by decide), if_neg (by decide), if_neg (by decide), if_pos (by decide)] at e
    rw [e]
    exact joinFits_any h i ha hb
  · cases hfi
    have hx := arg_ix hargs (n := 1) (by rw [hop]; decide)
    have ha := hx.1 (by decide)
    have e : InstP c i = InstP c i := rfl
    conv at e => rhs; unfold InstP
    dsimp only at e
    rw [hop, if_neg (by decide), if_neg (by decide), if_neg (by decide), if_neg (by decide), if_neg (by decide), if_neg (by decide), if_neg (by decide), if_pos (by decide)] at e
    rw [e]
    exact byteFits_any h i ha
  · cases hfi
    have hx := arg_ix hargs (n := 0) (by rw [hop]; decide)
    have e : InstP c i = InstP c i := rfl
    conv at e => rhs; unfold InstP
    dsimp only at e
    rw [hop, if_neg (by decide), if_neg (by decide), if_neg (by decide), if_neg (by decide), if_neg (by decide), if_neg (by decide), if_neg (by decide), if_neg (by decide), if_pos (by decide)] at e
    rw [e]
    exact lenFits_any h i
  · cases hfi
    have hx := arg_ix hargs (n := 0) (by rw [hop]; decide)
    have e : InstP c i = InstP c i := rfl
    conv at e => rhs; unfold InstP
    dsimp only at e
    rw [hop, if_neg (by decide), if_neg (by decide), if_neg (by decide), if_neg (by decide), if_neg (by decide), if_neg (by decide), if_neg (by decide), if_neg (by decide), if_neg (by decide), if_pos (by decide)] at e
    rw [e]
    exact paramFits_any h i h8 iok.2.2.1
  · cases hfi
    have hx := arg_ix hargs (n := 1) (by rw [hop]; decide)
    have ha := hx.1 (by decide)
    have e : InstP c i = InstP c i := rfl
    conv at e => rhs; unfold InstP
    dsimp only at e
    rw [hop, if_neg (by decide), if_neg (by decide), if_neg (by decide), if_neg (by decide), if_neg (by decide), if_neg (by decide), if_neg (by decide), if_neg (by decide), if_neg (by decide), if_neg (by decide), if_pos (by decide)] at e
    rw [e]
    exact newFits_any h i ha
  · cases hfi
    have hx := arg_ix hargs (n := 0) (by rw [hop]; decide)
    have e : InstP c i = InstP c i := rfl
    conv at e => rhs; unfold InstP
    dsimp only at e
    rw [hop, if_neg (by decide), if_neg (by decide), if_neg (by decide), if_neg (by decide), if_neg (by decide), if_neg (by decide), if_neg (by decide), if_neg (by decide), if_neg (by decide), if_neg (by decide), if_neg (by decide), if_pos (by decide)] at e
    rw [e]
    exact makeFits_any h i h8
  · cases hfi
    have hx := arg_ix hargs (n := 2) (by rw [hop]; decide)
    have ha := hx.1 (by decide)
    have hb := hx.2.1 (by decide)
    have e : InstP c i = InstP c i := rfl
    conv at e => rhs; unfold InstP
    dsimp only at e
    rw [hop, if_neg (by decide), if_neg (by decide), if_neg (by decide), if_neg (by decide), if_neg (by decide), if_neg (by decide), if_neg (by decide), if_neg (by decide), if_neg (by decide), if_neg (by decide), if_neg (by decide), if_neg (by decide), if_pos (by decide)] at e
    rw [e]
    exact loadFits_any h i ok h8 ha hb
  · cases hfi
    have hx := arg_ix hargs (n := 3) (by rw [hop]; decide)
    have ha := hx.1 (by decide)
    have hb := hx.2.1 (by decide)
    have hc := hx.2.2 (by decide)
    have e : InstP c i = InstP c i := rfl
    conv at e => rhs; unfold InstP
    dsimp only at e
    rw [hop, if_neg (by decide), if_neg (by decide), if_neg (by decide), if_neg (by decide), if_neg (by decide), if_neg (by decide), if_neg (by decide), if_neg (by decide), if_neg (by decide), if_neg (by decide), if_neg (by decide), if_neg (by decide), if_neg (by decide), if_pos (by decide)] at e
    rw [e]
    exact putFits_any h i ok h8 ha hb hc
  · cases hfi
    have hx := arg_ix hargs (n := 1) (by rw [hop]; decide)
    have ha := hx.1 (by decide)
    have e : InstP c i = InstP c i := rfl
    conv at e => rhs; unfold InstP
    dsimp only at e
    rw [hop, if_neg (by decide), if_neg (by decide), if_neg (by decide), if_neg (by decide), if_neg (by decide), if_neg (by decide), if_neg (by decide), if_neg (by decide), if_neg (by decide), if_neg (by decide), if_neg (by decide), if_neg (by decide), if_neg (by decide), if_neg (by decide), if_pos (by decide)] at e
    rw [e]
    exact freeFits_any h i ok h8 ha
  · cases hfi
    have hx := arg_ix hargs (n := 1) (by rw [hop]; decide)
    have ha := hx.1 (by decide)
    have e : InstP c i = InstP c i := rfl
    conv at e => rhs; unfold InstP
    dsimp only at e
    rw [hop, if_neg (by decide), if_neg (by decide), if_neg (by decide), if_neg (by decide), if_neg (by decide), if_neg (by decide), if_neg (by decide), if_neg (by decide), if_neg (by decide), if_neg (by decide), if_neg (by decide), if_neg (by decide), if_neg (by decide), if_neg (by decide), if_neg (by decide), if_pos (by decide)] at e
    rw [e]
    exact emitFits_any h i ha h32
end Go.Proofs.YtnbgadndkepomaaGreatDoor
