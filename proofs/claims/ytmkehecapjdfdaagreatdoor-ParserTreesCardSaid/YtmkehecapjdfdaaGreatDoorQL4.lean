/- Joined texts: LEnds, LLex. -/
import Derived.Test.YtmkehecapjdfdaaGreatDoorQL3
import Derived.Deep.DeepCutAuto
import Derived.Deep.RegionWith
import Derived.Laws.EntriesVeiled
import Derived.Test.YtmkehecapjdfdaaGreatDoorQB2
import Derived.OwnWalk
import Derived.LoopTactic
import Derived.WalkMore

/- ends: the closures that Lex makes. -/
namespace Go.Proofs.YtmkehecapjdfdaaGreatDoor
open Go.RowKit

set_option maxHeartbeats 400000 in
theorem oneOf_make (m : Int) (w : World) :
    Calls Tryz.prog 92 #[.int .u8 m] w fun e w' => e = .returned (.func (.func 150) #[] #[.pointer (some ⟨w.heap.size, 0, none⟩)]) ∧ w' = w.alloc (.cells #[.int .u8 m] 5) := by
  have hmf : ∀ (fn : Fn) (first cap : Array Value) (w : World), (Instr.makeFunc fn first cap).run Tryz.prog w = .ok (.func fn first cap) w := fun _ _ _ _ => rfl
  go_enter Tryz.func92, Tryz.ntmps92
  go_wp2
  go_ret
  exact ⟨rfl, rfl⟩
set_option maxHeartbeats 400000 in
theorem stretch_make (s : ByteArray) (fv : Value) (fn : Fn) (c : Array Value) (hfv : Hid (fv = .func fn #[] c)) (w : World) :
    Calls Tryz.prog 91 #[.string s, fv] w fun e w' => e = .returned (.func (.func 149) #[] #[.pointer (some ⟨w.heap.size, 0, none⟩), .pointer (some ⟨w.heap.size + 1, 0, none⟩)]) ∧ w' = (w.alloc (.cells #[.string s] 9)).alloc (.cells #[fv] 120) := by
  have hmf : ∀ (fn : Fn) (first cap : Array Value) (w : World), (Instr.makeFunc fn first cap).run Tryz.prog w = .ok (.func fn first cap) w := fun _ _ _ _ => rfl
  have e := hfv.out
  subst e
  clear hfv
  go_enter Tryz.func91, Tryz.ntmps91
  go_wp2
  go_ret
  exact ⟨rfl, rfl⟩

/-- A stretch of masked bytes lies at an address. -/
def MaskAt (s : ByteArray) (m : Int) (g : Addr) (w : World) : Prop := ∃ p q r : Addr, w.cell? g = some (.func (.func 149) #[] #[.pointer (some p), .pointer (some q)]) ∧ w.cell? p = some (.string s) ∧ w.cell? q = some (.func (.func 150) #[] #[.pointer (some r)]) ∧ w.cell? r = some (.int .u8 m)
def LineAt (s : ByteArray) (g : Addr) (w : World) : Prop := ∃ p q : Addr, w.cell? g = some (.func (.func 149) #[] #[.pointer (some p), .pointer (some q)]) ∧ w.cell? p = some (.string s) ∧ w.cell? q = some (.func (.func 93) #[] #[])
def NewLine (s : ByteArray) (V : World) (t : Value) (w : World) : Prop := ∃ b : Nat, t = .pointer (some ⟨b, 0, none⟩) ∧ LineAt s ⟨b, 0, none⟩ w ∧ Below V.heap.size V w
def NewMask (s : ByteArray) (m : Int) (V : World) (t : Value) (w : World) : Prop := ∃ b : Nat, t = .pointer (some ⟨b, 0, none⟩) ∧ MaskAt s m ⟨b, 0, none⟩ w ∧ Below V.heap.size V w
theorem MaskAt.later {s : ByteArray} {m : Int} {g : Addr} {w w' : World} (hb : Below w.heap.size w w') (h : MaskAt s m g w) : MaskAt s m g w' := by
  obtain ⟨p, q, r, h1, h2, h3, h4⟩ := h
  exact ⟨p, q, r, cell_later hb h1, cell_later hb h2, cell_later hb h3, cell_later hb h4⟩
theorem LineAt.later {s : ByteArray} {g : Addr} {w w' : World} (hb : Below w.heap.size w w') (h : LineAt s g w) : LineAt s g w' := by
  obtain ⟨p, q, h1, h2, h3⟩ := h
  exact ⟨p, q, cell_later hb h1, cell_later hb h2, cell_later hb h3⟩

set_option maxRecDepth 100000 in
set_option maxHeartbeats 1600000 in
theorem ends_any (s : ByteArray) (w : World) (ht : Tab w) :
    Calls Tryz.prog 53 #[.string s] w fun e w' => ∃ gs gb gc tw tn : Addr, e = .returned (.tuple #[.func (.func 94) #[] #[.pointer (some gb), .pointer (some gs), .pointer (some gc)], .func (.func 95) #[] #[.pointer (some gs), .pointer (some tw), .pointer (some tn)]]) ∧
      w'.cell? gs = some (.string s) ∧ MaskAt s 1 gb w' ∧ LineAt s gc w' ∧ MaskAt s 6 tw w' ∧ MaskAt s 4 tn w' ∧ Tab w' ∧ Below w.heap.size w w' := by
  have hmf : ∀ (fn : Fn) (first cap : Array Value) (w : World), (Instr.makeFunc fn first cap).run Tryz.prog w = .ok (.func fn first cap) w := fun _ _ _ _ => rfl
  go_enter Tryz.func53, Tryz.ntmps53
  go_wp2_with fail
  have S0 : (w.alloc (.cells #[.string s] 9)).cell? ⟨w.heap.size, 0, none⟩ = some (.string s) := by simp [go_sem]
  have B0 : Below w.heap.size w (w.alloc (.cells #[.string s] 9)) := (Below.refl _ _).alloc (Nat.le_refl _) _
  have Z0 : w.heap.size < (w.alloc (.cells #[.string s] 9)).heap.size := by simp
  generalize (w.alloc (.cells #[.string s] 9)) = V at *
  go_cut [4] (fun t wx => NewMask s 1 V t wx)
  case first =>
    go_region_with (first
      | (go_at_call 92; refine (oneOf_make _ _).mono ?_; rintro e w' ⟨rfl, rfl⟩)
      | (go_at_call 91; refine (stretch_make s _ _ _ (Lib.hid rfl) _).mono ?_; rintro e w' ⟨rfl, rfl⟩))
    all_goals (go_wp2_with fail; go_meet)
    all_goals (first | (refine ⟨_, rfl, ⟨⟨V.heap.size + 1, 0, none⟩, ⟨V.heap.size + 1 + 1, 0, none⟩, ⟨V.heap.size, 0, none⟩, ?_, ?_, ?_, ?_⟩, ?_⟩ <;> first | (simp [go_sem]; done) | ((repeat (first | exact Below.refl _ _ | refine Below.drew ?_ | refine Below.alloc ?_ (by simp <;> omega) _)); done)) | (refine ⟨_, rfl, ⟨⟨V.heap.size + 1 + 1, 0, none⟩, ⟨V.heap.size + 1 + 1 + 1, 0, none⟩, ⟨V.heap.size, 0, none⟩, ?_, ?_, ?_, ?_⟩, ?_⟩ <;> first | (simp [go_sem]; done) | ((repeat (first | exact Below.refl _ _ | refine Below.drew ?_ | refine Below.alloc ?_ (by simp <;> omega) _)); done)) | (refine ⟨_, rfl, ⟨⟨V.heap.size + 1 + 1, 0, none⟩, ⟨V.heap.size + 1 + 1 + 1, 0, none⟩, ⟨V.heap.size + 1, 0, none⟩, ?_, ?_, ?_, ?_⟩, ?_⟩ <;> first | (simp [go_sem]; done) | ((repeat (first | exact Below.refl _ _ | refine Below.drew ?_ | refine Below.alloc ?_ (by simp <;> omega) _)); done)))
  case rest =>
    obtain ⟨b4, rfl, M4, BB⟩ := hcut
    have S1 := cell_later BB S0
    have B1 : Below w.heap.size w wc := B0.trans (BB.mono B0.size)
    clear S0 B0 BB Z0
    generalize wc = V at *
    go_wp2_with (go_at_call 91; refine (stretch_make s _ _ _ (Lib.hid rfl) _).mono ?_; rintro e w' ⟨rfl, rfl⟩)
    have MM : LineAt s ⟨V.heap.size + 1 + 1, 0, none⟩ (((V.alloc (.cells #[.string s] 9)).alloc (.cells #[.func (.func 93) #[] #[]] 120)).alloc (.cells #[.func (.func 149) #[] #[.pointer (some ⟨V.heap.size, 0, none⟩), .pointer (some ⟨V.heap.size + 1, 0, none⟩)]] 101)) := by
      refine ⟨⟨V.heap.size, 0, none⟩, ⟨V.heap.size + 1, 0, none⟩, ?_, ?_, ?_⟩ <;> simp [go_sem]
    have BB : Below V.heap.size V (((V.alloc (.cells #[.string s] 9)).alloc (.cells #[.func (.func 93) #[] #[]] 120)).alloc (.cells #[.func (.func 149) #[] #[.pointer (some ⟨V.heap.size, 0, none⟩), .pointer (some ⟨V.heap.size + 1, 0, none⟩)]] 101)) := by
      (repeat (first | exact Below.refl _ _ | refine Below.drew ?_ | refine Below.alloc ?_ (by simp <;> omega) _))
    have S2 := cell_later BB S1
    have N4 := M4.later BB
    have B2 : Below w.heap.size w (((V.alloc (.cells #[.string s] 9)).alloc (.cells #[.func (.func 93) #[] #[]] 120)).alloc (.cells #[.func (.func 149) #[] #[.pointer (some ⟨V.heap.size, 0, none⟩), .pointer (some ⟨V.heap.size + 1, 0, none⟩)]] 101)) := B1.trans (BB.mono B1.size)
    have M5 := MM
    clear S1 B1 M4 BB MM
    have HS : ∃ X : Nat, V.heap.size + 1 + 1 = X := ⟨_, rfl⟩
    obtain ⟨b5, hb5⟩ := HS
    rw [hb5] at M5 ⊢
    clear hb5
    generalize (((V.alloc (.cells #[.string s] 9)).alloc (.cells #[.func (.func 93) #[] #[]] 120)).alloc (.cells #[.func (.func 149) #[] #[.pointer (some ⟨V.heap.size, 0, none⟩), .pointer (some ⟨V.heap.size + 1, 0, none⟩)]] 101)) = V2 at *
    have Z2 : w.heap.size < V2.heap.size := cell_lt S2
    go_cut [6] (fun t wx => NewMask s 6 V2 t wx)
    case first =>
      go_region_with (first
        | (go_at_call 92; refine (oneOf_make _ _).mono ?_; rintro e w' ⟨rfl, rfl⟩)
        | (go_at_call 91; refine (stretch_make s _ _ _ (Lib.hid rfl) _).mono ?_; rintro e w' ⟨rfl, rfl⟩))
      all_goals (go_wp2_with fail; go_meet)
      all_goals (first | (refine ⟨_, rfl, ⟨⟨V2.heap.size + 1, 0, none⟩, ⟨V2.heap.size + 1 + 1, 0, none⟩, ⟨V2.heap.size, 0, none⟩, ?_, ?_, ?_, ?_⟩, ?_⟩ <;> first | (simp [go_sem]; done) | ((repeat (first | exact Below.refl _ _ | refine Below.drew ?_ | refine Below.alloc ?_ (by simp <;> omega) _)); done)) | (refine ⟨_, rfl, ⟨⟨V2.heap.size + 1 + 1, 0, none⟩, ⟨V2.heap.size + 1 + 1 + 1, 0, none⟩, ⟨V2.heap.size, 0, none⟩, ?_, ?_, ?_, ?_⟩, ?_⟩ <;> first | (simp [go_sem]; done) | ((repeat (first | exact Below.refl _ _ | refine Below.drew ?_ | refine Below.alloc ?_ (by simp <;> omega) _)); done)) | (refine ⟨_, rfl, ⟨⟨V2.heap.size + 1 + 1, 0, none⟩, ⟨V2.heap.size + 1 + 1 + 1, 0, none⟩, ⟨V2.heap.size + 1, 0, none⟩, ?_, ?_, ?_, ?_⟩, ?_⟩ <;> first | (simp [go_sem]; done) | ((repeat (first | exact Below.refl _ _ | refine Below.drew ?_ | refine Below.alloc ?_ (by simp <;> omega) _)); done)))
    case rest =>
      obtain ⟨b6, rfl, M6, BB⟩ := hcut
      have S3 := cell_later BB S2
      have O4 := N4.later BB
      have O5 := M5.later BB
      have B3 : Below w.heap.size w wc := B2.trans (BB.mono B2.size)
      clear S2 B2 N4 M5 BB
      generalize wc = V3 at *
      have Z3 : w.heap.size < V3.heap.size := cell_lt S3
      go_wp2_with fail
      go_cut [7] (fun t wx => NewMask s 4 V3 t wx)
      case first =>
        go_region_with (first
          | (go_at_call 92; refine (oneOf_make _ _).mono ?_; rintro e w' ⟨rfl, rfl⟩)
          | (go_at_call 91; refine (stretch_make s _ _ _ (Lib.hid rfl) _).mono ?_; rintro e w' ⟨rfl, rfl⟩))
        all_goals (go_wp2_with fail; go_meet)
        all_goals (first | (refine ⟨_, rfl, ⟨⟨V3.heap.size + 1, 0, none⟩, ⟨V3.heap.size + 1 + 1, 0, none⟩, ⟨V3.heap.size, 0, none⟩, ?_, ?_, ?_, ?_⟩, ?_⟩ <;> first | (simp [go_sem]; done) | ((repeat (first | exact Below.refl _ _ | refine Below.drew ?_ | refine Below.alloc ?_ (by simp <;> omega) _)); done)) | (refine ⟨_, rfl, ⟨⟨V3.heap.size + 1 + 1, 0, none⟩, ⟨V3.heap.size + 1 + 1 + 1, 0, none⟩, ⟨V3.heap.size, 0, none⟩, ?_, ?_, ?_, ?_⟩, ?_⟩ <;> first | (simp [go_sem]; done) | ((repeat (first | exact Below.refl _ _ | refine Below.drew ?_ | refine Below.alloc ?_ (by simp <;> omega) _)); done)) | (refine ⟨_, rfl, ⟨⟨V3.heap.size + 1 + 1, 0, none⟩, ⟨V3.heap.size + 1 + 1 + 1, 0, none⟩, ⟨V3.heap.size + 1, 0, none⟩, ?_, ?_, ?_, ?_⟩, ?_⟩ <;> first | (simp [go_sem]; done) | ((repeat (first | exact Below.refl _ _ | refine Below.drew ?_ | refine Below.alloc ?_ (by simp <;> omega) _)); done)))
      case rest =>
        obtain ⟨b7, rfl, M7, BB⟩ := hcut
        have S4 := cell_later BB S3
        have P4 := O4.later BB
        have P5 := O5.later BB
        have P6 := M6.later BB
        have B4 : Below w.heap.size w wc := B3.trans (BB.mono B3.size)
        clear S3 B3 O4 O5 M6 BB
        go_wp2
        go_ret2
        exact ⟨_, _, _, _, _, rfl, S4, P4, P5, P6, M7, ht.later B4, B4⟩
end Go.Proofs.YtmkehecapjdfdaaGreatDoor

/- Lex answers what the plain function says. -/
namespace Go.Proofs.YtmkehecapjdfdaaGreatDoor
open Go.RowKit

/-- What Lex answers. -/
def LexPost (l : List UInt8) (w : World) (e : Ending) (w' : World) : Prop :=
  ∃ v, e = .returned (.tuple #[v, .int .i64 ((lexS l).2.1 : Nat), .int .i64 ((lexS l).2.2 : Nat)]) ∧ Toks w' w.heap.size v (lexS l).1 ∧ Below w.heap.size w w'

set_option maxHeartbeats 400000 in
theorem lex_long (s : ByteArray) (w : World) (h : 4000 < s.size) (hs : s.size ≤ 9223372036854775807) :
    Calls Tryz.prog 30 #[.string s] w (LexPost s.data.toList w) := by
  have hl : s.data.toList.length = s.size := rfl
  have hx : lexS s.data.toList = ([], 2, 0) := lexS_long (by rw [hl]; exact h)
  have hE : ∀ e w', (e = Ending.returned (.tuple #[.slice none 0 0, .int .i64 2, .int .i64 0]) ∧ w' = w) → LexPost s.data.toList w e w' := by
    rintro e w' ⟨rfl, rfl⟩
    refine ⟨.slice none 0 0, ?_, ?_, Below.refl _ _⟩
    · rw [hx]; rfl
    · rw [hx]; exact World.ownsRow_nil _ _ _ _
  clear hl hx
  refine Calls.mono ?_ hE
  clear hE
  go_enter Tryz.func30, Tryz.ntmps30
  go_wp2
  go_step3
  go_wp2
  rw [Exit.noGoto_ret]
  go_ret3
  exact ⟨rfl, rfl⟩

/-- What holds at every round's head. -/
def LexRel (l : List UInt8) (V : World) (v e a : Value) (wr : World) : Prop :=
  ∃ (k : Nat) (ts : List Tok), k ≤ l.length ∧ a = .int .i64 k ∧ e = .int .i64 0 ∧ Hid (lexAt l k ts) ∧ ts.length ≤ 1500 ∧ Toks wr V.heap.size v ts ∧ Below V.heap.size V wr

theorem lexPost_err {l : List UInt8} {w w' : World} {x k : Nat} {X K : Int} (HX : Hid (lexS l = ([], x, k))) (hX : X = x) (hK : K = k) (hb : Below w.heap.size w w') :
    LexPost l w (.returned (.tuple #[.slice none 0 0, .int .i64 X, .int .i64 K])) w' := by
  subst hX hK
  refine ⟨.slice none 0 0, ?_, ?_, hb⟩
  · rw [HX.out]
  · rw [HX.out]; exact World.ownsRow_nil _ _ _ _
theorem lexPost_ok {l : List UInt8} {w w' : World} {v : Value} {ts : List Tok} (HX : Hid (lexS l = (ts, 0, 0))) (hT : Toks w' w.heap.size v ts) (hb : Below w.heap.size w w') :
    LexPost l w (.returned (.tuple #[v, .int .i64 0, .int .i64 0])) w' := by
  refine ⟨v, ?_, ?_, hb⟩
  · rw [HX.out]; rfl
  · rw [HX.out]; exact hT
theorem tok_new {W w1 : World} {T : TypeId} {b : Nat} (hbk : W.heap.size = b) (hb : Below (W.alloc (.cells #[.int .i64 0, .string { data := #[] }, .int .u64 0, .int .i64 0] T)).heap.size (W.alloc (.cells #[.int .i64 0, .string { data := #[] }, .int .u64 0, .int .i64 0] T)) w1) :
    w1.cell? ⟨b, 0, none⟩ = some (.int .i64 0) ∧ w1.cell? ⟨b, 1, none⟩ = some (.string { data := #[] }) ∧ w1.cell? ⟨b, 2, none⟩ = some (.int .u64 0) ∧ w1.cell? ⟨b, 3, none⟩ = some (.int .i64 0) ∧
    w1.frozen? ⟨b, 0, none⟩ = false ∧ w1.frozen? ⟨b, 1, none⟩ = false ∧ w1.frozen? ⟨b, 2, none⟩ = false ∧ w1.frozen? ⟨b, 3, none⟩ = false := by
  subst hbk
  obtain ⟨hc, hf⟩ := bcell hb
  have hz : W.heap.size < (W.alloc (.cells #[.int .i64 0, .string { data := #[] }, .int .u64 0, .int .i64 0] T)).heap.size := by simp
  refine ⟨?_, ?_, ?_, ?_, ?_, ?_, ?_, ?_⟩
  all_goals (first | rw [hc _ _ hz] | rw [hf _ _ hz])
  all_goals simp [go_sem]
theorem read_ok (s : ByteArray) (k : Nat) (t : List UInt8) (n : Nat) (h0 : 0 < s.size) (hs : s.size ≤ 100000) (h : Hid (readT s.data.toList = ((k, t, n), 0))) (w : World) (ht : Tab w) (he : Errs w) :
    Calls Tryz.prog 54 #[.string s] w fun e w' => e = .returned (.tuple #[.agg #[.int .i64 k, .string ⟨t.toArray⟩, .int .u64 n, .int .i64 0], .int .i64 0]) ∧ Below w.heap.size w w' :=
  read_any s k t n 0 h0 hs h w ht he
theorem tok_set {w1 : World} {b : Nat} {x0 x1 x2 x3 y0 y1 y2 y3 z3 : Value} (c0 : w1.cell? ⟨b, 0, none⟩ = some x0) (c1 : w1.cell? ⟨b, 1, none⟩ = some x1) (c2 : w1.cell? ⟨b, 2, none⟩ = some x2) (c3 : w1.cell? ⟨b, 3, none⟩ = some x3) :
    (((((w1.setCell ⟨b, 0, none⟩ y0).setCell ⟨b, 1, none⟩ y1).setCell ⟨b, 2, none⟩ y2).setCell ⟨b, 3, none⟩ y3).setCell ⟨b, 3, none⟩ z3).cell? ⟨b, 0, none⟩ = some y0 ∧
    (((((w1.setCell ⟨b, 0, none⟩ y0).setCell ⟨b, 1, none⟩ y1).setCell ⟨b, 2, none⟩ y2).setCell ⟨b, 3, none⟩ y3).setCell ⟨b, 3, none⟩ z3).cell? ⟨b, 1, none⟩ = some y1 ∧
    (((((w1.setCell ⟨b, 0, none⟩ y0).setCell ⟨b, 1, none⟩ y1).setCell ⟨b, 2, none⟩ y2).setCell ⟨b, 3, none⟩ y3).setCell ⟨b, 3, none⟩ z3).cell? ⟨b, 2, none⟩ = some y2 ∧
    (((((w1.setCell ⟨b, 0, none⟩ y0).setCell ⟨b, 1, none⟩ y1).setCell ⟨b, 2, none⟩ y2).setCell ⟨b, 3, none⟩ y3).setCell ⟨b, 3, none⟩ z3).cell? ⟨b, 3, none⟩ = some z3 := by
  have e3 : ((((w1.setCell ⟨b, 0, none⟩ y0).setCell ⟨b, 1, none⟩ y1).setCell ⟨b, 2, none⟩ y2).setCell ⟨b, 3, none⟩ y3).cell? ⟨b, 3, none⟩ = some y3 := by simp [go_sem, c3]
  refine ⟨?_, ?_, ?_, ?_⟩
  · simp [go_sem, c0]
  · simp [go_sem, c1]
  · simp [go_sem, c2]
  · simp [go_sem, e3]
theorem extract_mid (s : ByteArray) (a b : Nat) : (s.extract a b).data.toList = (s.data.toList.drop a).take (b - a) := by
  simp [ByteArray.data_extract, Array.toList_extract]

set_option maxRecDepth 100000 in
set_option maxHeartbeats 8000000 in
theorem lex_short (s : ByteArray) (w : World) (h : s.size ≤ 4000) (ht : Tab w) (he : Errs w) :
    Calls Tryz.prog 30 #[.string s] w (LexPost s.data.toList w) := by
  have hl : s.data.toList.length = s.size := rfl
  obtain ⟨i0, hi, hz0, hz1, hz2⟩ := info_parts Tryz.infoTok
  have hG := gapLen_le s.data.toList
  rw [hl] at hG
  go_enter Tryz.func30, Tryz.ntmps30
  go_wp2_with fail
  go_step3
  go_wp2_with fail
  refine (ends_any s _ ht).mono ?_
  rintro e V ⟨gs, gb, gc, tw, tn, rfl, E0, ⟨pb, qb, rb, E1, E2, E3, E4⟩, ⟨pc, qc, E5, E6, E7⟩, ⟨pw, qw, rw_, E8, E9, E10, E11⟩, ⟨pn, qn, rn, E12, E13, E14, E15⟩, htV, hbV⟩
  have hE : EndsIn s V gs gb gc tw tn pb qb rb pc qc pw qw rw_ pn qn rn := ⟨htV, E0, E1, E5, E8, E12, E2, E3, E4, E6, E7, E9, E10, E11, E13, E14, E15⟩
  have heV := he.later hbV
  clear E0 E1 E2 E3 E4 E5 E6 E7 E8 E9 E10 E11 E12 E13 E14 E15 ht he htV
  go_wp2_with fail
  refine (gapEnd_any s 0 _ (Nat.zero_le _) (by omega) hE).mono ?_
  rintro e w0 ⟨rfl, n0, rfl⟩
  have hA : Hid (lexAt s.data.toList (gapLen s.data.toList) []) := Lib.hid (lexAt_start _)
  have hD0 : Below V.heap.size V (V.drewN n0) := Drew.below ⟨n0, rfl⟩
  go_wp2_with fail
  go_step3
  go_wp2_with fail
  go_loopw [7, 8, 9] (fun v e a wr => LexRel s.data.toList V v e a wr) (fun _ _ a _ => s.size - (intOf a).toNat)
  case atStart => exact ⟨gapLen s.data.toList, [], by rw [hl]; exact hG, by simp, rfl, hA, by simp, World.ownsRow_nil _ _ _ _, hD0⟩
  case round =>
    rename_i wr
    obtain ⟨k, ts, hk, rfl, rfl, hL, h15, hT, hD⟩ := hrel
    rw [hl] at hk
    obtain ⟨A, c, rfl⟩ := hT.form
    have hE2 := hE.later hD
    have he2 := heV.later hD
    clear hA hD0 hG
    by_cases hlt : k < s.size
    · obtain ⟨N, hN⟩ : ∃ N, tokLen (s.data.toList.drop k) = N := ⟨_, rfl⟩
      have hN1 : k + N ≤ s.size := by
        have := tokLen_le (s.data.toList.drop k)
        rw [List.length_drop, hl] at this; omega
      have HN := Lib.hid hN
      clear hN
      go_wp2_with fail
      refine (tokenEnd_any s k _ hlt (by omega) hE2).mono ?_
      rintro e w0 ⟨rfl, n1, rfl⟩
      rw [HN.out]
      by_cases hz : N = 0
      · subst hz
        have HX : Hid (lexS s.data.toList = ([], 10, k)) := Lib.hid (lexAt_err hL.out (by omega) (by omega) (by decide) (Or.inl ⟨HN.out, rfl⟩))
        clear hL HN
        go_wp2
        rw [Exit.noGoto_ret]
        go_ret3
        exact lexPost_err HX rfl rfl (hbV.trans ((hD.trans ((Drew.below ⟨n1, rfl⟩).mono hD.size)).mono hbV.size))
      · have hzN : 0 < N := by omega
        by_cases h0 : ts.length = 1500
        · have HX : Hid (lexS s.data.toList = ([], 2, k)) := Lib.hid (lexAt_err hL.out (by omega) (by omega) (by decide) (Or.inr (Or.inl ⟨by rw [HN.out]; omega, h0, rfl⟩)))
          have h0b : ((ts.length : Int) == 1500) = true := by simp [h0]
          have h0c : (ts.length : Int) = 1500 := by omega
          clear hL HN h0 hz
          go_wp2
          rw [Exit.noGoto_ret]
          go_ret3
          exact lexPost_err HX rfl rfl (hbV.trans ((hD.trans ((Drew.below ⟨n1, rfl⟩).mono hD.size)).mono hbV.size))
        · have h0b : ((ts.length : Int) == 1500) = false := by simp; omega
          have hX0 : 0 < (s.extract k (k + N)).size := by simp; omega
          have hX1 : (s.extract k (k + N)).size ≤ 100000 := by simp; omega
          have hXt : (s.extract k (k + N)).data.toList = (s.data.toList.drop k).take N := by rw [extract_mid]; congr 1; omega
          obtain ⟨kd, tx, nm, er, hR⟩ : ∃ kd tx nm er, readT (s.extract k (k + N)).data.toList = ((kd, tx, nm), er) := ⟨_, _, _, _, rfl⟩
          have HR := Lib.hid hR
          have HR2 : Hid (readT ((s.data.toList.drop k).take (tokLen (s.data.toList.drop k))) = ((kd, tx, nm), er)) := Lib.hid (by rw [HN.out, ← hXt]; exact hR)
          have ht2 : Tab ((wr.drewN n1).alloc (.cells #[.int .i64 0, .string { data := #[] }, .int .u64 0, .int .i64 0] 47)) := hE2.tab.later ((Drew.below ⟨n1, rfl⟩).alloc (Nat.le_refl _) _)
          have he3 : Errs ((wr.drewN n1).alloc (.cells #[.int .i64 0, .string { data := #[] }, .int .u64 0, .int .i64 0] 47)) := he2.later ((Drew.below ⟨n1, rfl⟩).alloc (Nat.le_refl _) _)
          clear hR hXt hz
          by_cases her : er = 0
          · subst her
            go_wp2_with fail
            refine (read_ok (s.extract k (k + N)) kd tx nm hX0 hX1 HR _ ht2 he3).mono ?_
            rintro e w1 ⟨rfl, hb1⟩
            obtain ⟨c0, c1, c2, c3, f0, f1, f2, f3⟩ := tok_new (W := wr.drewN n1) (w1 := w1) (b := wr.heap.size) rfl hb1
            have hz1 : wr.heap.size < w1.heap.size := by have hs := hb1.size; simp at hs; omega
            have hB1 : Below wr.heap.size wr w1 := ((Drew.below ⟨n1, rfl⟩).alloc (Nat.le_refl _) _).trans (hb1.mono (by simp))
            clear ht2 he3 hX0 hX1 HR hb1
            go_upto_region 16 with fail
            obtain ⟨d0, d1, d2, d3⟩ := tok_set (y0 := .int .i64 kd) (y1 := .string ⟨tx.toArray⟩) (y2 := .int .u64 nm) (y3 := .int .i64 0) (z3 := .int .i64 k) c0 c1 c2 c3
            have hB2 : Below wr.heap.size wr (((((w1.setCell ⟨wr.heap.size, 0, none⟩ (.int .i64 kd)).setCell ⟨wr.heap.size, 1, none⟩ (.string ⟨tx.toArray⟩)).setCell ⟨wr.heap.size, 2, none⟩ (.int .u64 nm)).setCell ⟨wr.heap.size, 3, none⟩ (.int .i64 0)).setCell ⟨wr.heap.size, 3, none⟩ (.int .i64 k)) := ((((hB1.setCell (Nat.le_refl _) _).setCell (Nat.le_refl _) _).setCell (Nat.le_refl _) _).setCell (Nat.le_refl _) _).setCell (Nat.le_refl _) _
            clear c0 c1 c2 c3 f0 f1 f2 f3 hz1 hB1
            generalize (((((w1.setCell ⟨wr.heap.size, 0, none⟩ (.int .i64 kd)).setCell ⟨wr.heap.size, 1, none⟩ (.string ⟨tx.toArray⟩)).setCell ⟨wr.heap.size, 2, none⟩ (.int .u64 nm)).setCell ⟨wr.heap.size, 3, none⟩ (.int .i64 0)).setCell ⟨wr.heap.size, 3, none⟩ (.int .i64 k)) = W at *
            have hT2 := hT.later hB2
            have hD2 := hD.trans (hB2.mono hD.size)
            have hWs := hB2.size
            have hE3 := hE2.later (hB2)
            go_wp2_with (at_builtin; refine wpList_append_own _ rfl (.tmp 49) (.tmp 51) _ rfl V.heap.size 47 i0 _ 4 40 Tryz.underlying38 hi hz0 hz1 hz2 rfl (by decide) _ ts.length (toksV ts) rfl (World.ownsRow.alloc hT2 _) ⟨W.heap.size, 0, none⟩ 1 1 [.int .i64 kd, .string ⟨tx.toArray⟩, .int .u64 nm, .int .i64 k] rfl rfl ?c1 ?c2 ?c3 ?c4 ?c5 ?_)
            case c1 =>
              intro j u hj
              match j, hj with
              | 0, hj => simp at hj; subst hj; simp [Addr.add]
              | 1, hj => simp at hj; subst hj; simp [Addr.add]
              | 2, hj => simp at hj; subst hj; simp [Addr.add]
              | 3, hj => simp at hj; subst hj; simp [Addr.add]
            case c2 => intro u hu; simp at hu; rcases hu with rfl | rfl | rfl | rfl <;> rfl
            case c3 => unfold maxLen; omega
            case c4 => omega
            case c5 => have := hD2.size; simp; omega
            · intro v' w2 hown' hgrow _
              have hT3 : Toks w2 V.heap.size v' (ts ++ [mkTok (kd, tx, nm) k]) := by
                unfold Toks
                rw [toksV_append, List.length_append]
                exact hown'
              have hD3 : Below V.heap.size V w2 := (hD2.alloc hD2.size _).grown hgrow (by have := hD2.size; simp; omega) (fun g hg => (World.ownsRow.lt hT2 g hg).1)
              have hE4 := hE.later hD3
              have hS : Hid (lexAt s.data.toList (k + N + gapLen (s.data.toList.drop (k + N))) (ts ++ [mkTok (kd, tx, nm) k])) := Lib.hid (by
                have := lexAt_step hL.out (by omega) (by rw [HN.out]; omega) h0 (by rw [HR2.out])
                rw [HN.out] at this
                have e := HR2.out
                rw [HN.out] at e
                rw [e] at this
                exact this)
              obtain ⟨G, hGe⟩ : ∃ G, k + N + gapLen (s.data.toList.drop (k + N)) = G := ⟨_, rfl⟩
              have hG2 : G ≤ s.size := by
                have := gapLen_le (s.data.toList.drop (k + N))
                rw [List.length_drop, hl] at this; omega
              rw [hGe] at hS
              have HGe := Lib.hid hGe
              have hG1 : k < G := by omega
              clear hGe hown' hgrow hT2 hD2 hB2 hL HN HR2 hT hE2 he2 hWs hE3 d0 d1 d2 d3 h0b
              go_wp2_with fail
              refine (gapEnd_any s (k + N) _ hN1 (by omega) hE4).mono ?_
              rintro e w0 ⟨rfl, n2, rfl⟩
              rw [HGe.out]
              clear HGe
              have hT4 : Toks (w2.drewN n2) V.heap.size v' (ts ++ [mkTok (kd, tx, nm) k]) := hT3.later (Drew.below ⟨n2, rfl⟩)
              have hD4 : Below V.heap.size V (w2.drewN n2) := hD3.trans ((Drew.below ⟨n2, rfl⟩).mono hD3.size)
              clear hT3 hD3 hE4 hE heV hD
              go_wp2
              go_roundw
              case rel => exact ⟨G, ts ++ [mkTok (kd, tx, nm) k], by omega, rfl, rfl, hS, by simp; omega, hT4, hD4⟩
              case measure => simp [intOf]; omega
          · have HX : Hid (lexS s.data.toList = ([], er, k)) := Lib.hid (lexAt_err hL.out (by omega) (by omega) her (Or.inr (Or.inr ⟨by rw [HN.out]; omega, h0, by rw [HR2.out]⟩)))
            have hb : ((er : Int) != 0) = true := by simp; omega
            have hb' : ((er : Int) == 0) = false := by simp; omega
            clear hL HN h0 her HR2
            go_wp2_with fail
            refine (read_any (s.extract k (k + N)) kd tx nm er hX0 hX1 HR _ ht2 he3).mono ?_
            rintro e w1 ⟨rfl, hb1⟩
            obtain ⟨c0, c1, c2, c3, f0, f1, f2, f3⟩ := tok_new (W := wr.drewN n1) (w1 := w1) (b := wr.heap.size) rfl hb1
            have hB1 : Below wr.heap.size wr w1 := ((Drew.below ⟨n1, rfl⟩).alloc (Nat.le_refl _) _).trans (hb1.mono (by simp))
            clear ht2 he3 hX0 hX1 HR hb1
            go_wp2
            rw [Exit.noGoto_ret]
            go_ret3
            refine lexPost_err HX rfl rfl (hbV.trans ((hD.trans (Below.mono ?_ hD.size)).mono hbV.size))
            (repeat (first | exact hB1 | refine Below.setCell ?_ (by simp) _))
    · have HX : Hid (lexS s.data.toList = (ts, 0, 0)) := Lib.hid (lexAt_done hL.out (by omega) (by omega))
      clear hL
      go_wp2
      rw [Exit.noGoto_ret]
      go_ret3
      exact lexPost_ok HX (hT.lower hbV.size) (hbV.trans (hD.mono hbV.size))

theorem lex_any (s : ByteArray) (w : World) (hs : s.size ≤ 9223372036854775807) (ht : Tab w) (he : Errs w) :
    Calls Tryz.prog 30 #[.string s] w (LexPost s.data.toList w) := by
  by_cases h : s.size ≤ 4000
  · exact lex_short s w h ht he
  · exact lex_long s w (by omega) hs
end Go.Proofs.YtmkehecapjdfdaaGreatDoor
