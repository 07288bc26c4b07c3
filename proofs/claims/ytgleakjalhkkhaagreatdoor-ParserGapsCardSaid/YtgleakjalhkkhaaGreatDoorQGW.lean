/- Joined texts: PGapW, PGapP. -/
import Derived.Test.YtgleakjalhkkhaaGreatDoorQG1
import Derived.Test.YtgleakjalhkkhaaGreatDoorQV6
import Derived.Test.YtgleakjalhkkhaaGreatDoorQX1
import Derived.Deep.RegionHeld3
import Derived.IntWalk
import Derived.ChangeSlices
import Derived.Test.YtgleakjalhkkhaaGreatDoorQF
import Derived.Test.YtgleakjalhkkhaaGreatDoorCards
import Derived.Stop.Joined
import Derived.ChangeMaps5

/- ParserGaps: the walk. -/
namespace Go.Proofs.YtgleakjalhkkhaaGreatDoor
open Go.RowKit

/-- Bytes of an argument as they can be read. -/
def GRow (w : World) (A : Option Addr) (gs : List Nat) : Prop := ∀ (i : Nat) (h : i < gs.length), ∃ a, A = some a ∧ w.cell? (a.add i) = some (.int .u8 gs[i])
theorem GRow.later {w w' : World} {A : Option Addr} {gs : List Nat} (hb : Below w.heap.size w w') (h : GRow w A gs) : GRow w' A gs := fun i hi => by
  obtain ⟨a, e, hc⟩ := h i hi
  exact ⟨a, e, cell_later hb hc⟩
set_option maxRecDepth 100000 in
set_option maxHeartbeats 3200000 in
theorem gaps_long (s : ByteArray) (A : Option Addr) (n c : Nat) (W : World) (hp : PV W) (hl : (4000 : Int) < s.size) :
    Calls Tryz.prog 5 #[.string s, .slice A n c] W fun e w' => e = .returned (.bool true) ∧ Below W.heap.size W w' := by
  go_enter Tryz.func5, Tryz.ntmps5
  go_wp2_with fail
  refine (head_one _ hp).mono ?_
  rintro e w1 ⟨rfl, B1⟩
  go_wp2
  go_ret
  exact ⟨rfl, B1⟩
set_option maxRecDepth 100000 in
set_option maxHeartbeats 3200000 in
theorem gaps_bad (s : ByteArray) (GA : Option Addr) (n c : Nat) (ts : List Tok) (x k : Nat) (W : World) (hp : PV W) (hl : ¬ (4000 : Int) < s.size) (h : Hid (lexS s.data.toList = (ts, x, k))) (hx : ((x : Int) != 0) = true) :
    Calls Tryz.prog 5 #[.string s, .slice GA n c] W fun e w' => e = .returned (.bool true) ∧ Below W.heap.size W w' := by
  go_enter Tryz.func5, Tryz.ntmps5
  go_wp2_with fail
  refine (head_one _ hp).mono ?_
  rintro e w1 ⟨rfl, B1⟩
  go_wp2_with fail
  refine (lexR_at s ts x k _ (by omega) h).mono ?_
  rintro e w2 ⟨A, c2, rfl, z1, z2, hR, B2⟩
  have B3 := B1.trans (B2.mono B1.size)
  clear B1 B2
  go_wp2
  go_ret
  exact ⟨rfl, B3⟩
/-- A builder's text, read; what else lies in memory stays. -/
theorem bld_string_k (B b : Nat) (l : List UInt8) (w : World) (h : Bld w B b l) :
    Calls Tryz.prog 25 #[.pointer (some ⟨b, 0, none⟩)] w fun e w' => e = .returned (.string ⟨l.toArray⟩) ∧ Below B w w' ∧ Lib.OthersKept 5 (some b) w w' :=
  (Tryz.Builder_String_any_k B b l w h (by have := h.lt; have := h.le; omega)).mono fun _ _ ⟨h1, _, h3, h4⟩ => ⟨h1, h3, h4⟩
theorem own_ok {w w' : World} {b base T sz n : Nat} {v : Value} {xs : List Value} (k : Lib.OthersKept 5 (some b) w w') (hT : T ≠ 5) (hb : b < base) (h : w.ownsRow base T sz v n xs) : w'.ownsRow base T sz v n xs := by
  refine ⟨h.1, ?_⟩
  rcases h.2 with hn | ⟨g, cap, cur, e, hbs, hg, rest⟩
  · exact .inl hn
  · exact .inr ⟨g, cap, cur, e, hbs, k g _ hg (by simp; omega) (fun c fz h => by cases h; exact hT rfl), rest⟩
theorem node_ok {w w' : World} {b B : Nat} {t : T} {kv : Value} (k : Lib.OthersKept 5 (some b) w w') (hb : b < B) (h : nodeAt w (fun g => B ≤ g) t kv) : nodeAt w' (fun g => B ≤ g) t kv :=
  nodeAt_imp' (fun g _ hg hc => ⟨hg, k g _ hc (by simp; omega) (fun c fz h => by injection h with _ h2 _; exact absurd h2 (by decide))⟩) t kv h
theorem node_later {w w' : World} {ok : Nat → Prop} (hb : Below w.heap.size w w') {t : T} {kv : Value} (h : nodeAt w ok t kv) : nodeAt w' ok t kv :=
  nodeAt_imp' (fun g _ hg hc => ⟨hg, (hb.block g (Array.getElem?_eq_some_iff.1 hc).1).trans hc⟩) t kv h
theorem toArr (P : Str) : ({ data := P.toArray } : ByteArray).data.toList = P := by simp
theorem own_len {w : World} {B T sz n : Nat} {v : Value} {xs : List Value} (h : w.ownsRow B T sz v n xs) : n ≤ 9223372036854775807 := by
  rcases h.2 with ⟨_, e⟩ | ⟨g, cap, cur, e, _, hg, hc, hm, _⟩
  · omega
  · unfold maxLen at hm; omega
theorem DT_ne8 : DT ≠ 5 := by decide
theorem ba_refl (b : ByteArray) : (b == b) = true := by show ByteArray.beq b b = true; unfold ByteArray.beq; simp
mutual
theorem sameG_refl : ∀ t : G, sameG t t = true
  | .mk _ _ _ _ _ _ ks => by simp [sameG, sameL_refl ks, ba_refl]
theorem sameL_refl : ∀ l : List G, sameL l l = true
  | [] => rfl
  | t :: r => by simp [sameL, sameG_refl t, sameL_refl r]
end
mutual
theorem bare_strip : ∀ t : T, bareT t = stripT t
  | .mk _ _ _ _ _ _ ks => by simp [bareT, stripT, bareL_strip ks]
theorem bareL_strip : ∀ l : List T, bareL l = stripL l
  | [] => rfl
  | t :: r => by simp [bareL, stripL, bare_strip t, bareL_strip r]
end
theorem gkeep {X W w1 : World} {p q : Nat} {v0 v1 v2 v3 v4 v5 v6 u0 u1 u2 u3 u4 u5 u6 : Value} (hb : Below W.heap.size W w1) (h : W.cell? ⟨p, 0, none⟩ = some v0 ∧ W.cell? ⟨p, 1, none⟩ = some v1 ∧ W.cell? ⟨p, 2, none⟩ = some v2 ∧ W.cell? ⟨p, 3, none⟩ = some v3 ∧ W.cell? ⟨p, 4, none⟩ = some v4 ∧ W.cell? ⟨p, 5, none⟩ = some v5 ∧ W.cell? ⟨p, 6, none⟩ = some v6 ∧ W.cell? ⟨q, 0, none⟩ = some u0 ∧ W.cell? ⟨q, 1, none⟩ = some u1 ∧ W.cell? ⟨q, 2, none⟩ = some u2 ∧ W.cell? ⟨q, 3, none⟩ = some u3 ∧ W.cell? ⟨q, 4, none⟩ = some u4 ∧ W.cell? ⟨q, 5, none⟩ = some u5 ∧ W.cell? ⟨q, 6, none⟩ = some u6 ∧ Below X.heap.size X W) : w1.cell? ⟨p, 0, none⟩ = some v0 ∧ w1.cell? ⟨p, 1, none⟩ = some v1 ∧ w1.cell? ⟨p, 2, none⟩ = some v2 ∧ w1.cell? ⟨p, 3, none⟩ = some v3 ∧ w1.cell? ⟨p, 4, none⟩ = some v4 ∧ w1.cell? ⟨p, 5, none⟩ = some v5 ∧ w1.cell? ⟨p, 6, none⟩ = some v6 ∧ w1.cell? ⟨q, 0, none⟩ = some u0 ∧ w1.cell? ⟨q, 1, none⟩ = some u1 ∧ w1.cell? ⟨q, 2, none⟩ = some u2 ∧ w1.cell? ⟨q, 3, none⟩ = some u3 ∧ w1.cell? ⟨q, 4, none⟩ = some u4 ∧ w1.cell? ⟨q, 5, none⟩ = some u5 ∧ w1.cell? ⟨q, 6, none⟩ = some u6 ∧ Below X.heap.size X w1 :=
  ⟨cell_later hb h.1, cell_later hb h.2.1, cell_later hb h.2.2.1, cell_later hb h.2.2.2.1, cell_later hb h.2.2.2.2.1, cell_later hb h.2.2.2.2.2.1, cell_later hb h.2.2.2.2.2.2.1, cell_later hb h.2.2.2.2.2.2.2.1, cell_later hb h.2.2.2.2.2.2.2.2.1, cell_later hb h.2.2.2.2.2.2.2.2.2.1, cell_later hb h.2.2.2.2.2.2.2.2.2.2.1, cell_later hb h.2.2.2.2.2.2.2.2.2.2.2.1, cell_later hb h.2.2.2.2.2.2.2.2.2.2.2.2.1, cell_later hb h.2.2.2.2.2.2.2.2.2.2.2.2.2.1, h.2.2.2.2.2.2.2.2.2.2.2.2.2.2.trans (hb.mono h.2.2.2.2.2.2.2.2.2.2.2.2.2.2.size)⟩
theorem gdrew {X W : World} {p q : Nat} {v0 v1 v2 v3 v4 v5 v6 u0 u1 u2 u3 u4 u5 u6 : Value} (h : W.cell? ⟨p, 0, none⟩ = some v0 ∧ W.cell? ⟨p, 1, none⟩ = some v1 ∧ W.cell? ⟨p, 2, none⟩ = some v2 ∧ W.cell? ⟨p, 3, none⟩ = some v3 ∧ W.cell? ⟨p, 4, none⟩ = some v4 ∧ W.cell? ⟨p, 5, none⟩ = some v5 ∧ W.cell? ⟨p, 6, none⟩ = some v6 ∧ W.cell? ⟨q, 0, none⟩ = some u0 ∧ W.cell? ⟨q, 1, none⟩ = some u1 ∧ W.cell? ⟨q, 2, none⟩ = some u2 ∧ W.cell? ⟨q, 3, none⟩ = some u3 ∧ W.cell? ⟨q, 4, none⟩ = some u4 ∧ W.cell? ⟨q, 5, none⟩ = some u5 ∧ W.cell? ⟨q, 6, none⟩ = some u6 ∧ Below X.heap.size X W) : W.drew.cell? ⟨p, 0, none⟩ = some v0 ∧ W.drew.cell? ⟨p, 1, none⟩ = some v1 ∧ W.drew.cell? ⟨p, 2, none⟩ = some v2 ∧ W.drew.cell? ⟨p, 3, none⟩ = some v3 ∧ W.drew.cell? ⟨p, 4, none⟩ = some v4 ∧ W.drew.cell? ⟨p, 5, none⟩ = some v5 ∧ W.drew.cell? ⟨p, 6, none⟩ = some v6 ∧ W.drew.cell? ⟨q, 0, none⟩ = some u0 ∧ W.drew.cell? ⟨q, 1, none⟩ = some u1 ∧ W.drew.cell? ⟨q, 2, none⟩ = some u2 ∧ W.drew.cell? ⟨q, 3, none⟩ = some u3 ∧ W.drew.cell? ⟨q, 4, none⟩ = some u4 ∧ W.drew.cell? ⟨q, 5, none⟩ = some u5 ∧ W.drew.cell? ⟨q, 6, none⟩ = some u6 ∧ Below X.heap.size X W.drew := gkeep (Drew.below (a := W) ⟨1, rfl⟩) h
/-- Strip, of a tree that is known from X on. -/
def StripC (X : World) (t : T) (A : Option Addr) (c : Nat) (g : G) : Prop := ∀ w, Below X.heap.size X w → Calls Tryz.prog 18 #[.agg #[Value.int IntKind.i64 t.kind, Value.string { data := t.name.toArray }, Value.string { data := t.part.toArray }, Value.int IntKind.u64 t.num, Value.int IntKind.i64 t.wid, Value.int IntKind.i64 t.at_, Value.slice A t.kids.length c]] w fun e w' => ∃ KA KC, e = .returned (.agg #[Value.int IntKind.i64 g.kind, Value.string g.name, Value.string g.part, Value.int IntKind.u64 g.num, Value.int IntKind.i64 g.wid, Value.int IntKind.i64 g.at_, Value.slice KA g.kids.length KC]) ∧ gAt w' g (.slice KA g.kids.length KC) ∧ Below w.heap.size w w'
theorem stripUse {X : World} {t : T} {A : Option Addr} {c : Nat} {g : G} {p q : Nat} {v0 v1 v2 v3 v4 v5 v6 u0 u1 u2 u3 u4 u5 u6 : Value} (h : Hid (StripC X t A c g)) (w : World) (hb : w.cell? ⟨p, 0, none⟩ = some v0 ∧ w.cell? ⟨p, 1, none⟩ = some v1 ∧ w.cell? ⟨p, 2, none⟩ = some v2 ∧ w.cell? ⟨p, 3, none⟩ = some v3 ∧ w.cell? ⟨p, 4, none⟩ = some v4 ∧ w.cell? ⟨p, 5, none⟩ = some v5 ∧ w.cell? ⟨p, 6, none⟩ = some v6 ∧ w.cell? ⟨q, 0, none⟩ = some u0 ∧ w.cell? ⟨q, 1, none⟩ = some u1 ∧ w.cell? ⟨q, 2, none⟩ = some u2 ∧ w.cell? ⟨q, 3, none⟩ = some u3 ∧ w.cell? ⟨q, 4, none⟩ = some u4 ∧ w.cell? ⟨q, 5, none⟩ = some u5 ∧ w.cell? ⟨q, 6, none⟩ = some u6 ∧ Below X.heap.size X w) : Calls Tryz.prog 18 #[.agg #[Value.int IntKind.i64 t.kind, Value.string { data := t.name.toArray }, Value.string { data := t.part.toArray }, Value.int IntKind.u64 t.num, Value.int IntKind.i64 t.wid, Value.int IntKind.i64 t.at_, Value.slice A t.kids.length c]] w fun e w' => ∃ KA KC, e = .returned (.agg #[Value.int IntKind.i64 g.kind, Value.string g.name, Value.string g.part, Value.int IntKind.u64 g.num, Value.int IntKind.i64 g.wid, Value.int IntKind.i64 g.at_, Value.slice KA g.kids.length KC]) ∧ gAt w' g (.slice KA g.kids.length KC) ∧ Below w.heap.size w w' := h.out w hb.2.2.2.2.2.2.2.2.2.2.2.2.2.2
theorem stripMk (X : World) (t : T) (A : Option Addr) (c : Nat) (g : G) (hg : (stripT t).toG = g) (hh : Hh 22 t) (ht : gAt X t.toG (.slice A t.kids.length c)) : StripC X t A c g := fun w hb => by
  refine (Strip_any t hh.2 (Nat.le_trans hh.1 (by omega)) w A c (gAt_later hb _ _ ht)).mono ?_
  rintro e w' ⟨KA, KC, he, nd, hb2⟩
  subst hg
  have f := toG_f (stripT t)
  have kn := toG_kids (stripT t)
  refine ⟨KA, KC, ?_, ?_, hb2⟩
  · rw [he, f.1, f.2.1, f.2.2.1, f.2.2.2.1, f.2.2.2.2.1, f.2.2.2.2.2, kn]
  · rw [kn]; exact gAt_node _ _ nd
theorem sameUse (g : G) (w : World) (KA LA : Option Addr) (KC LC : Nat) (h1 : gAt w g (.slice KA g.kids.length KC)) (h2 : gAt w g (.slice LA g.kids.length LC)) :
    Calls Tryz.prog 14 #[.agg #[Value.int IntKind.i64 g.kind, Value.string g.name, Value.string g.part, Value.int IntKind.u64 g.num, Value.int IntKind.i64 g.wid, Value.int IntKind.i64 g.at_, Value.slice KA g.kids.length KC], .agg #[Value.int IntKind.i64 g.kind, Value.string g.name, Value.string g.part, Value.int IntKind.u64 g.num, Value.int IntKind.i64 g.wid, Value.int IntKind.i64 g.at_, Value.slice LA g.kids.length LC]] w fun e w' => e = .returned (.bool true) ∧ Below w.heap.size w w' := by
  have h := same_all g g w KA LA KC LC h1 h2
  rw [sameG_refl] at h
  exact h
theorem kinds_at {w : World} {b : Nat} (N : Box w b 9 #[Value.string { data := #[32] }, Value.string { data := #[10] }, Value.string { data := #[9, 32] }, Value.string { data := #[35, 32, 112, 97, 114, 115, 101, 32, 123, 32, 59, 10] }, Value.string { data := #[32, 35, 125, 10] }]) (j : Nat) (hj : j < 5) : w.cell? ⟨b, j, none⟩ = some (.string ⟨(gapK j).toArray⟩) := by
  match j, hj with
  | 0, _ => exact N.cell 0
  | 1, _ => exact N.cell 1
  | 2, _ => exact N.cell 2
  | 3, _ => exact N.cell 3
  | 4, _ => exact N.cell 4
set_option maxRecDepth 100000 in
set_option maxHeartbeats 3200000 in
theorem gaps_ok (s : ByteArray) (GA : Option Addr) (gc : Nat) (gs : List Nat) (ts : List Tok) (W : World) (hp : PV W) (hl : ¬ (4000 : Int) < s.size) (h : Hid (lexS s.data.toList = (ts, 0, 0))) (hG : GRow W GA gs) (h256 : Hid (∀ b ∈ gs, b < 256)) (ht5 : ts.length ≤ 1500) :
    Calls Tryz.prog 5 #[.string s, .slice GA gs.length gc] W fun e w' => e = .returned (.bool true) ∧ Below W.heap.size W w' := by
  go_enter Tryz.func5, Tryz.ntmps5
  go_wp2_with fail
  refine (head_one _ hp).mono ?_
  rintro e w1 ⟨rfl, B1⟩
  go_wp2_with fail
  refine (lexR_at s ts 0 0 _ (by omega) h).mono ?_
  rintro e w2 ⟨A, c2, rfl, z1, z2, hR, B2⟩
  have B3 := B1.trans (B2.mono B1.size)
  clear B1 B2
  go_upto_region 9 with fail
  have N0 := Box.new w2 9 #[Value.string { data := #[32] }, Value.string { data := #[10] }, Value.string { data := #[9, 32] }, Value.string { data := #[35, 32, 112, 97, 114, 115, 101, 32, 123, 32, 59, 10] }, Value.string { data := #[32, 35, 125, 10] }]
  have nb : Below w2.heap.size w2 (w2.alloc (Obj.cells #[Value.string { data := #[32] }, Value.string { data := #[10] }, Value.string { data := #[9, 32] }, Value.string { data := #[35, 32, 112, 97, 114, 115, 101, 32, 123, 32, 59, 10] }, Value.string { data := #[32, 35, 125, 10] }] 9)) := (Below.refl _ _).alloc (Nat.le_refl _) _
  have hsz : w2.heap.size + 1 = (w2.alloc (Obj.cells #[Value.string { data := #[32] }, Value.string { data := #[10] }, Value.string { data := #[9, 32] }, Value.string { data := #[35, 32, 112, 97, 114, 115, 101, 32, 123, 32, 59, 10] }, Value.string { data := #[32, 35, 125, 10] }] 9)).heap.size := by simp
  rw [hsz]
  have hRV := hR.later nb
  have hGV := hG.later (B3.trans (nb.mono B3.size))
  have BV := B3.trans (nb.mono B3.size)
  obtain ⟨V, hV⟩ : ∃ Y, w2.alloc (Obj.cells #[Value.string { data := #[32] }, Value.string { data := #[10] }, Value.string { data := #[9, 32] }, Value.string { data := #[35, 32, 112, 97, 114, 115, 101, 32, 123, 32, 59, 10] }, Value.string { data := #[32, 35, 125, 10] }] 9) = Y := ⟨_, rfl⟩
  rw [hV] at N0 hRV hGV BV hsz ⊢
  clear hV nb hR hG B3
  have hKB := Lib.hid (fun j hj => kinds_at N0 j hj)
  have hkb : w2.heap.size < V.heap.size := by omega
  obtain ⟨kb, hkbe⟩ : ∃ kb, w2.heap.size = kb := ⟨_, rfl⟩
  rw [hkbe] at hKB hkb hsz ⊢
  clear hkbe N0 hsz
  have hB0 := bld_new V
  have hBV : Below V.heap.size V (V.alloc (.cells #[.pointer none, .slice none 0 0] 45)) := (Below.refl _ _).alloc (Nat.le_refl _) _
  have hrd := Lib.hid (lexS_rd h.out)
  have hsize := Lib.hid (gaps_size gs h.out)
  go_wp2_with fail
  go_loopw [36] (fun i wr_ => ∃ k : Nat, k ≤ ts.length ∧ i = .int .i64 k ∧ Bld wr_ V.heap.size V.heap.size (pcB (gPcs gs 0 (ts.take k))) ∧ Below V.heap.size V wr_) (fun i _ => ts.length - (intOf i).toNat)
  case atStart => exact ⟨0, Nat.zero_le _, rfl, by simpa [gPcs, pcB] using hB0, hBV⟩
  case round =>
    obtain ⟨k, hk, rfl, hB, hW⟩ := hrel
    clear hB0 hBV
    by_cases hlt : k < ts.length
    · obtain ⟨g, o, rfl, r0, r1, r2, r3⟩ := hRV.later hW k hlt
      have hn : ts[k].num ≤ M64 := by
        obtain ⟨y, _, hy, _, hy2⟩ := hrd.out _ (List.getElem_mem hlt)
        exact (read_text hy hy2).2.1
      have hText := Lib.hid (text_any ts[k].kind ts[k].text ts[k].num ts[k].off hn)
      obtain ⟨T1, hT1⟩ : ∃ T1 : ByteArray, (⟨(textV (ts[k].kind, ts[k].text, ts[k].num)).toArray⟩ : ByteArray) = T1 := ⟨_, rfl⟩
      obtain ⟨T2, hT2⟩ : ∃ T2 : ByteArray, (⟨(gapAt gs k).toArray⟩ : ByteArray) = T2 := ⟨_, rfl⟩
      have e1 : pcB (gPcs gs 0 (ts.take (k + 1))) = (pcB (gPcs gs 0 (ts.take k)) ++ T1.data.toList) ++ T2.data.toList := by
        rw [gPcs_step gs ts k hlt, ← hT1, ← hT2]; rfl
      rw [hT1] at hText
      have hlen := gPcs_take gs ts 0 (k + 1)
      have hlen2 := hsize.out
      rw [e1, List.length_append, List.length_append] at hlen
      have q1 : T1.data.toList.length = T1.size := rfl
      have q2 : T2.data.toList.length = T2.size := rfl
      have hlen3 : (pcB (gPcs gs 0 (ts.take k))).length + T1.size ≤ 100000000 := by omega
      have hlen4 : (pcB (gPcs gs 0 (ts.take k)) ++ T1.data.toList).length + T2.size ≤ 100000000 := by rw [List.length_append]; omega
      have HE := Lib.hid e1
      have HT2 := Lib.hid hT2
      clear e1 hlen hlen2 hT1 q1 q2 hn hT2
      generalize ts[k].kind = a0 at *
      generalize ts[k].text = a1 at *
      generalize ts[k].num = a2 at *
      generalize ts[k].off = a3 at *
      go_wp2_with fail
      refine (hText.out _).mono ?_
      rintro e w4 ⟨rfl, B4⟩
      have B5 : Below wr.heap.size wr w4 := ((Below.refl _ _).alloc (Nat.le_refl _) _).trans (B4.mono (by simp))
      have hB2 := hB.later B5
      have hW2 := hW.trans (B5.mono hW.size)
      clear hB hW B4 B5 r0 r1 r2 r3 hText
      go_wp2_with fail
      refine (bld_write _ _ _ _ _ hB2 hlen3).mono ?_
      rintro e w5 ⟨rfl, hB3, B6⟩
      have hW3 := hW2.trans B6
      clear hB2 hW2 B6
      by_cases hg : k < gs.length
      · obtain ⟨ga, rfl, hcell⟩ := (hGV.later hW3) k hg
        obtain ⟨j, hj⟩ : ∃ j, gs[k] % 5 = j := ⟨_, rfl⟩
        have hj5 : j < 5 := by omega
        have hT2e : (⟨(gapK j).toArray⟩ : ByteArray) = T2 := by
          rw [← HT2.out]
          unfold gapAt
          rw [List.getElem?_eq_getElem hg]
          simp only [hj]
        have hkc := hKB.out j hj5
        rw [hT2e] at hkc
        have hkc5 : w5.cell? ⟨kb, j, none⟩ = some (.string T2) := cell_later hW3 hkc
        have hmod : ((gs[k] : Nat) : Int).tmod 5 = (j : Int) := by rw [Int.tmod_eq_emod_of_nonneg (by omega)]; omega
        have hgk : (k : Int) < (gs.length : Int) := by omega
        have hj6 : (j : Int) < 5 := by omega
        have hb256 := h256.out _ (List.getElem_mem hg)
        have hb7 : ((gs[k] : Nat) : Int) < 256 := by omega
        have hb8 : 0 ≤ ((gs[k] : Nat) : Int) := by omega
        generalize gs[k] = gb at *
        clear hkc hT2e hj HT2
        go_wp2_with fail
        refine (bld_write _ _ _ _ _ hB3 hlen4).mono ?_
        rintro e w6 ⟨rfl, hB4, B7⟩
        rw [← HE.out] at hB4
        have hW4 := hW3.trans B7
        clear hB3 hW3 B7
        go_wp2
        go_roundw
        case rel => exact ⟨k + 1, by omega, by go_num, hB4, hW4⟩
        case measure => simp [intOf]; omega
      · obtain rfl : T2 = ⟨#[32]⟩ := by
          rw [← HT2.out]
          unfold gapAt
          rw [List.getElem?_eq_none (by omega)]
        have hgk : ¬ (k : Int) < (gs.length : Int) := by omega
        clear HT2
        go_wp2_with fail
        refine (bld_write _ _ _ _ _ hB3 hlen4).mono ?_
        rintro e w6 ⟨rfl, hB4, B7⟩
        rw [← HE.out] at hB4
        have hW4 := hW3.trans B7
        clear hB3 hW3 B7
        go_wp2
        go_roundw
        case rel => exact ⟨k + 1, by omega, by go_num, hB4, hW4⟩
        case measure => simp [intOf]; omega
    · obtain rfl : k = ts.length := by omega
      rw [List.take_length] at hB
      have hgp := Lib.hid (parse_gaps (s := s.data.toList) h.out gs)
      have hsz0 := hsize.out
      obtain ⟨P, hP⟩ : ∃ P, pcB (gPcs gs 0 ts) = P := ⟨_, rfl⟩
      rw [hP] at hB hgp hsz0
      have BW := BV.trans (hW.mono BV.size)
      have hbl := hB.lt
      have hWb := BV.size
      obtain ⟨bb, hbb⟩ : ∃ bb, V.heap.size = bb := ⟨_, rfl⟩
      rw [hbb] at hB hbl hWb ⊢
      clear hP hRV hGV hKB hW hsize hrd
      by_cases hz : 4000 < P.length
      · have hz2 : (4000 : Int) < (P.length : Int) := by omega
        go_wp2_with (go_at_call 24; refine (bld_len _ _ _ _ hB).mono ?_; rintro e w0 ⟨rfl, hw0⟩; rw [hw0]; clear hw0 w0)
        go_ret
        exact ⟨rfl, BW⟩
      · have hz2 : ¬ (4000 : Int) < (P.length : Int) := by omega
        obtain ⟨hte, hde⟩ := hgp.out (by omega)
        clear hgp
        go_wp2_with (go_at_call 24; refine (bld_len _ _ _ _ hB).mono ?_; rintro e w0 ⟨rfl, hw0⟩; rw [hw0]; clear hw0 w0)
        have hh1 := parse_hh s.data.toList (by rw [h.out]; exact ht5)
        have hh2 := parse_hh P (by
          rcases hq : lexS P with ⟨l, x, a⟩
          by_cases hx : x = 0
          · subst hx; exact (lexS_ok hq).2.1
          · rw [(lexS_err hq hx (by omega)).1]; simp)
        refine (parse_at s _ (by omega) (hp.later BW).1 (hp.later BW).2.1).mono ?_
        rintro e w8 ⟨A7, c7, d7, hx, nd1, drow1, nb⟩
        obtain ⟨⟨t1, ds1⟩, hr1⟩ : ∃ r, parseS s.data.toList = r := ⟨_, rfl⟩
        rw [hr1] at hx nd1 drow1 hte hde hh1
        obtain ⟨m, hm⟩ : ∃ m, Hid (ds1.length = m) := ⟨_, Lib.hid rfl⟩
        replace drow1 : w8.ownsRow wr.heap.size DT 2 d7 m (dgV ds1) := by rw [← hm.out]; exact drow1
        have hml := own_len drow1
        obtain ⟨DB, DD, rfl⟩ := ownsRow_form drow1
        replace nd1 : nodeAt w8 (fun g => wr.heap.size ≤ g) t1 (.slice A7 t1.kids.length c7) := nd1
        obtain rfl : e = .returned (.tuple #[.agg #[Value.int IntKind.i64 t1.kind, Value.string { data := t1.name.toArray }, Value.string { data := t1.part.toArray }, Value.int IntKind.u64 t1.num, Value.int IntKind.i64 t1.wid, Value.int IntKind.i64 t1.at_, Value.slice A7 t1.kids.length c7], .slice DB m DD]) := hx
        have B8 := BW.trans (nb.mono BW.size)
        have hB8 := hB.later nb
        have nb2 : Below w8.heap.size w8 (w8.alloc (Obj.cells #[Value.int IntKind.i64 t1.kind, Value.string { data := t1.name.toArray }, Value.string { data := t1.part.toArray }, Value.int IntKind.u64 t1.num, Value.int IntKind.i64 t1.wid, Value.int IntKind.i64 t1.at_, Value.slice A7 t1.kids.length c7] 25)) := (Below.refl _ _).alloc (Nat.le_refl _) _
        have N1 := Box.new w8 25 #[Value.int IntKind.i64 t1.kind, Value.string { data := t1.name.toArray }, Value.string { data := t1.part.toArray }, Value.int IntKind.u64 t1.num, Value.int IntKind.i64 t1.wid, Value.int IntKind.i64 t1.at_, Value.slice A7 t1.kids.length c7]
        have hB9 := hB8.later nb2
        replace nd1 := node_later nb2 nd1
        replace drow1 : (w8.alloc (Obj.cells #[Value.int IntKind.i64 t1.kind, Value.string { data := t1.name.toArray }, Value.string { data := t1.part.toArray }, Value.int IntKind.u64 t1.num, Value.int IntKind.i64 t1.wid, Value.int IntKind.i64 t1.at_, Value.slice A7 t1.kids.length c7] 25)).ownsRow wr.heap.size DT 2 (.slice DB m DD) m (dgV ds1) := drow1.kept (only_of_below nb2 none) (by cases (Value.slice DB m DD).ownBlock <;> simp)
        have B9 := B8.trans (nb2.mono B8.size)
        have hsz9 : w8.heap.size < (w8.alloc (Obj.cells #[Value.int IntKind.i64 t1.kind, Value.string { data := t1.name.toArray }, Value.string { data := t1.part.toArray }, Value.int IntKind.u64 t1.num, Value.int IntKind.i64 t1.wid, Value.int IntKind.i64 t1.at_, Value.slice A7 t1.kids.length c7] 25)).heap.size := by simp
        have hsz8 := nb.size
        go_upto_region 21 with fail
        obtain ⟨X1, hX1⟩ : ∃ Y, w8.alloc (Obj.cells #[Value.int IntKind.i64 t1.kind, Value.string { data := t1.name.toArray }, Value.string { data := t1.part.toArray }, Value.int IntKind.u64 t1.num, Value.int IntKind.i64 t1.wid, Value.int IntKind.i64 t1.at_, Value.slice A7 t1.kids.length c7] 25) = Y := ⟨_, rfl⟩
        rw [hX1] at N1 hB9 nd1 drow1 B9 hsz9 ⊢
        clear hX1 nb nb2 hB hB8 B8 hr1
        go_wp2_with fail
        refine (bld_string_k _ _ _ _ hB9).mono ?_
        rintro e w9 ⟨rfl, C9, K9⟩
        replace nd1 := node_ok K9 hbl nd1
        replace drow1 := own_ok K9 DT_ne8 hbl drow1
        replace N1 : Box w9 w8.heap.size 25 #[Value.int IntKind.i64 t1.kind, Value.string { data := t1.name.toArray }, Value.string { data := t1.part.toArray }, Value.int IntKind.u64 t1.num, Value.int IntKind.i64 t1.wid, Value.int IntKind.i64 t1.at_, Value.slice A7 t1.kids.length c7] := K9 _ _ N1 (by simp; omega) (fun c fz h => by injection h with _ h2 _; exact absurd h2 (by decide))
        have B10 := B9.trans (C9.mono hWb)
        have hsz10 := C9.size
        clear C9 K9 hB9 B9
        go_wp2_with fail
        refine (parse_at ⟨P.toArray⟩ _ (by rw [size_mk]; omega) (hp.later B10).1 (hp.later B10).2.1).mono ?_
        rw [toArr P]
        rintro e w10 ⟨A8, c8, d8, hx, nd2, drow2, nb⟩
        obtain ⟨⟨t2, ds2⟩, hr2⟩ : ∃ r, parseS P = r := ⟨_, rfl⟩
        rw [hr2] at hx nd2 drow2 hte hde hh2
        have hm2 := Lib.hid (show ds2.length = m by rw [← hm.out]; simpa using congrArg List.length hde)
        replace drow2 : w10.ownsRow w9.heap.size DT 2 d8 m (dgV ds2) := by rw [← hm2.out]; exact drow2
        obtain ⟨EB, ED, rfl⟩ := ownsRow_form drow2
        replace nd2 : nodeAt w10 (fun g => w9.heap.size ≤ g) t2 (.slice A8 t2.kids.length c8) := nd2
        obtain rfl : e = .returned (.tuple #[.agg #[Value.int IntKind.i64 t2.kind, Value.string { data := t2.name.toArray }, Value.string { data := t2.part.toArray }, Value.int IntKind.u64 t2.num, Value.int IntKind.i64 t2.wid, Value.int IntKind.i64 t2.at_, Value.slice A8 t2.kids.length c8], .slice EB m ED]) := hx
        have nb2 : Below w10.heap.size w10 (w10.alloc (Obj.cells #[Value.int IntKind.i64 t2.kind, Value.string { data := t2.name.toArray }, Value.string { data := t2.part.toArray }, Value.int IntKind.u64 t2.num, Value.int IntKind.i64 t2.wid, Value.int IntKind.i64 t2.at_, Value.slice A8 t2.kids.length c8] 25)) := (Below.refl _ _).alloc (Nat.le_refl _) _
        have nb3 : Below w9.heap.size w9 (w10.alloc (Obj.cells #[Value.int IntKind.i64 t2.kind, Value.string { data := t2.name.toArray }, Value.string { data := t2.part.toArray }, Value.int IntKind.u64 t2.num, Value.int IntKind.i64 t2.wid, Value.int IntKind.i64 t2.at_, Value.slice A8 t2.kids.length c8] 25)) := nb.trans (nb2.mono nb.size)
        have N2 := Box.new w10 25 #[Value.int IntKind.i64 t2.kind, Value.string { data := t2.name.toArray }, Value.string { data := t2.part.toArray }, Value.int IntKind.u64 t2.num, Value.int IntKind.i64 t2.wid, Value.int IntKind.i64 t2.at_, Value.slice A8 t2.kids.length c8]
        replace N1 := N1.below nb3
        have g1 := gAt_node _ _ (node_later nb3 nd1)
        have g2 := gAt_node _ _ (node_later nb2 nd2)
        have D1 : Dg (w10.alloc (Obj.cells #[Value.int IntKind.i64 t2.kind, Value.string { data := t2.name.toArray }, Value.string { data := t2.part.toArray }, Value.int IntKind.u64 t2.num, Value.int IntKind.i64 t2.wid, Value.int IntKind.i64 t2.at_, Value.slice A8 t2.kids.length c8] 25)) (.slice DB m DD) ds1 := ⟨_, by rw [hm.out]; exact drow1.kept (only_of_below nb3 none) (by cases (Value.slice DB m DD).ownBlock <;> simp)⟩
        have D2 : Dg (w10.alloc (Obj.cells #[Value.int IntKind.i64 t2.kind, Value.string { data := t2.name.toArray }, Value.string { data := t2.part.toArray }, Value.int IntKind.u64 t2.num, Value.int IntKind.i64 t2.wid, Value.int IntKind.i64 t2.at_, Value.slice A8 t2.kids.length c8] 25)) (.slice EB m ED) ds2 := ⟨_, by rw [hm2.out]; exact drow2.kept (only_of_below nb2 none) (by cases (Value.slice EB m ED).ownBlock <;> simp)⟩
        have B11 := B10.trans (nb3.mono B10.size)
        go_upto_region 22 with fail
        obtain ⟨X2, hX2⟩ : ∃ Y, w10.alloc (Obj.cells #[Value.int IntKind.i64 t2.kind, Value.string { data := t2.name.toArray }, Value.string { data := t2.part.toArray }, Value.int IntKind.u64 t2.num, Value.int IntKind.i64 t2.wid, Value.int IntKind.i64 t2.at_, Value.slice A8 t2.kids.length c8] 25) = Y := ⟨_, rfl⟩
        rw [hX2] at N1 N2 g1 g2 D1 D2 B11 ⊢
        clear hX2 nb nb2 nb3 nd1 nd2 drow1 drow2 B10 hr2 hsz9 hsz8 hsz10
        have hdh := Lib.hid hde
        have hth := Lib.hid hte
        clear hde hte
        have D1' : Dg X2 (.slice DB ds1.length DD) ds1 := by rw [hm.out]; exact D1
        have D2' : Dg X2 (.slice EB ds2.length ED) ds2 := by rw [hm2.out]; exact D2
        clear D1 D2
        have hmm : ((m : Int) != (m : Int)) = false := by simp
        go_wp2_with fail
        clear hmm
        go_loopw [5, 82] (fun u i wr_ => ∃ k : Nat, k ≤ m ∧ u = .bool true ∧ i = .int .i64 k ∧ Drew X2 wr_) (fun _ i _ => m - (intOf i).toNat)
        case atStart => exact ⟨0, Nat.zero_le _, rfl, rfl, Drew.refl _⟩
        case round =>
          obtain ⟨k, hk, rfl, rfl, hD⟩ := hrel
          by_cases hlt : k < m
          · have HLT := Lib.hid hlt
            have hk1 : k < ds1.length := by rw [hm.out]; exact hlt
            have hk2 : k < ds2.length := by rw [hm2.out]; exact hlt
            obtain ⟨ga, rfl, _, p0, p1⟩ := (D1'.later hD.below).at_ k hk1
            obtain ⟨gb, rfl, _, q0, q1⟩ := (D2'.later hD.below).at_ k hk2
            have he : ds2[k].1 = ds1[k].1 := by
              have := congrArg (·[k]?) hdh.out
              simpa [hk1, hk2] using this
            rw [he] at q0
            generalize ds1[k].1 = x1 at *
            clear he D1' D2' p1 q1 hk1 hk2
            go_wp2
            go_quiet (fail)
            go_wp2
            go_roundw
            case rel => exact ⟨k + 1, (by have := HLT.out; omega), rfl, by go_num, hD.more _⟩
            case measure => have := HLT.out; simp [intOf]; omega
          · obtain rfl : k = m := by omega
            replace g1 := gAt_later hD.below _ _ g1
            replace g2 := gAt_later hD.below _ _ g2
            have hst := hth.out
            unfold TEq at hst
            rw [bare_strip, bare_strip] at hst
            obtain ⟨g, hgd⟩ : ∃ g, (stripT t1).toG = g := ⟨_, rfl⟩
            have S1 := Lib.hid (stripMk wr t1 A7 c7 g hgd hh1 g1)
            have S2 := Lib.hid (stripMk wr t2 A8 c8 g (by rw [← hst]; exact hgd) hh2 g2)
            have N1' := N1.below hD.below
            have N2' := N2.below hD.below
            have B12 := B11.trans (hD.below.mono B11.size)
            clear hst hgd g1 g2 hth N1 N2 hD B11 D1' D2' hh1 hh2
            go_upto_region 29 with fail
            have S0 : wr.cell? ⟨w8.heap.size, 0, none⟩ = some (Value.int IntKind.i64 t1.kind) ∧ wr.cell? ⟨w8.heap.size, 1, none⟩ = some (Value.string { data := t1.name.toArray }) ∧ wr.cell? ⟨w8.heap.size, 2, none⟩ = some (Value.string { data := t1.part.toArray }) ∧ wr.cell? ⟨w8.heap.size, 3, none⟩ = some (Value.int IntKind.u64 t1.num) ∧ wr.cell? ⟨w8.heap.size, 4, none⟩ = some (Value.int IntKind.i64 t1.wid) ∧ wr.cell? ⟨w8.heap.size, 5, none⟩ = some (Value.int IntKind.i64 t1.at_) ∧ wr.cell? ⟨w8.heap.size, 6, none⟩ = some (Value.slice A7 t1.kids.length c7) ∧ wr.cell? ⟨w10.heap.size, 0, none⟩ = some (Value.int IntKind.i64 t2.kind) ∧ wr.cell? ⟨w10.heap.size, 1, none⟩ = some (Value.string { data := t2.name.toArray }) ∧ wr.cell? ⟨w10.heap.size, 2, none⟩ = some (Value.string { data := t2.part.toArray }) ∧ wr.cell? ⟨w10.heap.size, 3, none⟩ = some (Value.int IntKind.u64 t2.num) ∧ wr.cell? ⟨w10.heap.size, 4, none⟩ = some (Value.int IntKind.i64 t2.wid) ∧ wr.cell? ⟨w10.heap.size, 5, none⟩ = some (Value.int IntKind.i64 t2.at_) ∧ wr.cell? ⟨w10.heap.size, 6, none⟩ = some (Value.slice A8 t2.kids.length c8) ∧ Below wr.heap.size wr wr := ⟨N1'.cell 0, N1'.cell 1, N1'.cell 2, N1'.cell 3, N1'.cell 4, N1'.cell 5, N1'.cell 6, N2'.cell 0, N2'.cell 1, N2'.cell 2, N2'.cell 3, N2'.cell 4, N2'.cell 5, N2'.cell 6, Below.refl _ _⟩
            clear N1' N2'
            go_region_held3 (fun w' => w'.cell? ⟨w8.heap.size, 0, none⟩ = some (Value.int IntKind.i64 t1.kind) ∧ w'.cell? ⟨w8.heap.size, 1, none⟩ = some (Value.string { data := t1.name.toArray }) ∧ w'.cell? ⟨w8.heap.size, 2, none⟩ = some (Value.string { data := t1.part.toArray }) ∧ w'.cell? ⟨w8.heap.size, 3, none⟩ = some (Value.int IntKind.u64 t1.num) ∧ w'.cell? ⟨w8.heap.size, 4, none⟩ = some (Value.int IntKind.i64 t1.wid) ∧ w'.cell? ⟨w8.heap.size, 5, none⟩ = some (Value.int IntKind.i64 t1.at_) ∧ w'.cell? ⟨w8.heap.size, 6, none⟩ = some (Value.slice A7 t1.kids.length c7) ∧ w'.cell? ⟨w10.heap.size, 0, none⟩ = some (Value.int IntKind.i64 t2.kind) ∧ w'.cell? ⟨w10.heap.size, 1, none⟩ = some (Value.string { data := t2.name.toArray }) ∧ w'.cell? ⟨w10.heap.size, 2, none⟩ = some (Value.string { data := t2.part.toArray }) ∧ w'.cell? ⟨w10.heap.size, 3, none⟩ = some (Value.int IntKind.u64 t2.num) ∧ w'.cell? ⟨w10.heap.size, 4, none⟩ = some (Value.int IntKind.i64 t2.wid) ∧ w'.cell? ⟨w10.heap.size, 5, none⟩ = some (Value.int IntKind.i64 t2.at_) ∧ w'.cell? ⟨w10.heap.size, 6, none⟩ = some (Value.slice A8 t2.kids.length c8) ∧ Below wr.heap.size wr w') (with_reducible (first | assumption | exact gdrew ‹_› | exact gdrew (gdrew ‹_›)))
              (first
                | (go_at_call 18; (first | ((with_reducible refine (stripUse S1 _ ‹_›).mono ?_); rintro e w11 ⟨KA, KC, rfl, gk1, hb11⟩; have L11 := gkeep hb11 ‹_›) | ((with_reducible refine (stripUse S2 _ ‹_›).mono ?_); rintro e w12 ⟨LA, LC, rfl, gk2, hb12⟩; have L12 := gkeep hb12 ‹_›; (first | have gk3 := gAt_later hb12 _ _ gk1 | have gk3 := gAt_later hb12 _ _ (gAt_later (Drew.below (a := w11) ⟨1, rfl⟩) _ _ gk1)))))
                | (go_at_call 14; (first | (with_reducible refine (sameUse g _ KA LA KC LC gk3 gk2).mono ?_) | (with_reducible refine (sameUse g _ KA LA KC LC (gAt_later (Drew.below (a := w12) ⟨1, rfl⟩) _ _ gk3) (gAt_later (Drew.below (a := w12) ⟨1, rfl⟩) _ _ gk2)).mono ?_)); (rintro e w13 ⟨rfl, hb13⟩; have L13 := gkeep hb13 ‹_›)))
            have B13 := B12.trans (L13.2.2.2.2.2.2.2.2.2.2.2.2.2.2.mono B12.size)
            go_wp2
            go_ret
            exact ⟨rfl, B13⟩

theorem gaps_any (s : ByteArray) (GA : Option Addr) (gc : Nat) (gs : List Nat) (W : World) (hs : s.size ≤ 9223372036854775807) (hG : GRow W GA gs) (h256 : ∀ b ∈ gs, b < 256) (hp : PV W) :
    Calls Tryz.prog 5 #[.string s, .slice GA gs.length gc] W fun e w' => e = .returned (.bool true) ∧ Below W.heap.size W w' := by
  by_cases hl : 4000 < s.size
  · exact gaps_long s GA gs.length gc W hp (by omega)
  obtain ⟨ts, x, k, h⟩ : ∃ ts x k, lexS s.data.toList = (ts, x, k) := ⟨_, _, _, rfl⟩
  by_cases hx : x = 0
  · subst hx
    obtain ⟨i1, i2, i3, rfl⟩ := lexS_ok h
    exact gaps_ok s GA gc gs ts W hp (by omega) (Lib.hid h) hG (Lib.hid h256) i2
  · exact gaps_bad s GA gs.length gc ts x k W hp (by omega) (Lib.hid h) (by simp; omega)
/-- A slice of bytes among the arguments. -/
theorem bytes_arg {H : Type} {enc : TypeId × Value → H} {W : World} {base : Nat} {sp : Nat → Bool} {held : Bool} {fuel : Nat} {A : Option Addr} {n c : Nat} {x : DataW H × List MemPlace}
    (h : DataW.trod enc Tryz.prog W base sp held fuel 37 (Value.slice A n c).cells.toList = some x) : ∃ gs : List Nat, n = gs.length ∧ GRow W A gs ∧ ∀ b ∈ gs, b < 256 := by
  rcases Go.ChangeShapes.open_ints Tryz.underlying37 Tryz.underlying5 (by kernel_rfl) h with ⟨hc, _⟩ | ⟨a, len, cap, zs, hc, _, hl, hm, hz, hx, hcell, hwz⟩
  · simp [Value.cells] at hc
    obtain ⟨rfl, rfl, rfl⟩ := hc
    exact ⟨[], rfl, fun i hi => absurd hi (by simp), fun b hb => by cases hb⟩
  · simp [Value.cells] at hc
    obtain ⟨rfl, rfl, rfl⟩ := hc
    have hzl : n ≤ zs.length := by rw [hz]; split <;> omega
    have hpos : ∀ z ∈ zs, 0 ≤ z ∧ z < 256 := fun z hz => by
      have := hwz z hz
      simp [Lit.wf, IntKind.min, IntKind.max, IntKind.signed, IntKind.bits] at this
      exact ⟨by omega, by omega⟩
    refine ⟨(zs.take n).map Int.toNat, by simp; omega, fun i hi => ⟨a, rfl, ?_⟩, fun b hb => ?_⟩
    · have hi2 : i < n := by simp at hi; omega
      have hi3 : i < zs.length := by omega
      have h1 := hcell i hi3
      have h2 := (hpos zs[i] (List.getElem_mem hi3)).1
      rw [h1]
      simp only [List.getElem_map, List.getElem_take, List.getD_eq_getElem?_getD, List.getElem?_eq_getElem hi3, Option.getD_some]
      rw [show ((zs[i].toNat : Nat) : Int) = zs[i] by omega]
    · obtain ⟨z, hz, rfl⟩ := List.mem_map.1 hb
      have := hpos z (List.mem_of_mem_take hz)
      omega
end Go.Proofs.YtgleakjalhkkhaaGreatDoor

/- ParserGaps: for every input the statement's function returns true, and the input reads afterwards as it read before; the listed package-level variables start as the program's text lays them (the card ties them to it). No other condition. -/
namespace Go.Proofs.YtgleakjalhkkhaaGreatDoor
open Go.ChangeShapes Go.WideShapes Go.ChangeAt Go.RowKit Go.Joins Go.ChangeMaps

set_option maxRecDepth 100000 in
theorem parserGaps_lifted (os : Os) (started : os.Started) (H : Type) (enc : TypeId × Value → H) :
    ReturnsInHanded {} Tryz.checked os 5 .any (fun w args => (Rows.parserGapsSpec.pre enc Tryz.prog Tryz.f5 [] false w args ∧ laidMetH Tryz.prog laidP w) ∧ sizedMet enc Tryz.prog Tryz.f5 (OpenSpec.ofChange Rows.parserGapsSpec) false w args)
      (Rows.parserGapsSpec.post enc Tryz.prog Tryz.f5 false true false false) := by
  refine returnsInHanded_of_change_and (C := Tryz.checked) (X := fun w _ => laidMetH Tryz.prog laidP w) (fun _ _ _ hh h => h.of_heap hh) Tryz.own started (by kernel_rfl) Tryz.func5
    (ChangeSpec.witness_shaped (enc := enc) (C := Tryz.checked) (os := os) (X := fun w _ => laidMetH Tryz.prog laidP w) false (World.laidAll Tryz.prog os laidP) #[.string ⟨#[]⟩, .slice none 0 0] 8 (World.laidAll_os _ _ _) (World.shaped_of_ZipB (by kernel_rfl) (by kernel_rfl)) (by kernel_rfl) (by kernel_rfl) (by kernel_rfl) (lay_met os _)) ?_
  intro W base args ds gs before hval0 hW _ _ hL0 _
  have hL : laidMet Tryz.prog laidP W := by rw [← MakeChecks.laidMetH_plain _ _ _ (by kernel_rfl)]; exact hL0
  have hval : ∀ (j : Nat) t v, Tryz.f5.params[j]? = some t → args[j]? = some v → Value.okWide Tryz.prog W .any base t v := hval0
  have hW' := hW
  obtain ⟨p, q, hA0, hV, rfl, hfz, hnd⟩ := hW
  have hA : DataW.TrodAll enc Tryz.prog W 0 (fun _ => true) true Tryz.f5.params.toList args.toList ds p := hA0
  rw [Tryz.params5] at hA hval
  obtain ⟨v0, vs0, d0, ds0, p0, q0, hargs, rfl, rfl, h0, r0⟩ := trodAll_cons hA
  obtain ⟨v1, vs1, d1, ds1, p1, q1, rfl, rfl, rfl, h1, r1⟩ := trodAll_cons r0
  obtain ⟨rfl, rfl, rfl⟩ := trodAll_nil r1
  obtain rfl : args = #[v0, v1] := by cases args; simp_all
  obtain ⟨rfl, rfl⟩ := trodVars_none hV
  simp only [List.append_nil] at hW'
  have hlt : ∀ x ∈ p0 ++ (p1), x.block < W.heap.size := fun x hx => by simpa using hW'.lt x hx
  have h0k := h0
  obtain ⟨x0, rfl, rfl, hp0, wx0⟩ := open_string Tryz.underlying9 (hval 0 9 v0 rfl rfl) h0
  have h1k := h1
  obtain ⟨a1, len1, cap1, rfl⟩ := okWide_slice Tryz.underlying37 (hval 1 37 v1 rfl rfl)
  obtain ⟨fuel1, hf1⟩ := h1
  obtain ⟨gs1, rfl, hG1, hb1⟩ := bytes_arg hf1
  clear hA0 hval0
  refine (gaps_any x0 a1 cap1 gs1 W (by unfold maxLen at wx0; omega) (hG1) (hb1) (pv_of_laid hL)).mono fun e W' ⟨he, hB⟩ => ?_
  subst he
  refine ⟨_, rfl, _, _, _, [], p0 ++ (p1 ++ []), [], hW', trodAll_mk1 (shut_bool Tryz.underlying4 _), ?_, rfl, hB.frame _, fun h => by cases h⟩
  exact trodAll_cons_mk (Below.trod Tryz.laidOut (by kernel_rfl) (of_decide_eq_true (by kernel_rfl)) h0k hB (fun x hx => hlt x (by simp [hx]))) (trodAll_cons_mk (Below.trod Tryz.laidOut (by kernel_rfl) (of_decide_eq_true (by kernel_rfl)) h1k hB (fun x hx => hlt x (by simp [hx]))) (trodAll_mk0))

theorem parserGaps_said : Rows.ParserGapsSaid :=
  OpenClaim.holds_of_wide 5 Tryz.f5 rfl rfl rfl rfl rfl rfl rfl ⟨rfl, rfl, rfl, rfl, rfl⟩ rfl rfl rfl rfl rfl (by kernel_rfl) Tryz.func5 (by kernel_rfl)
    (of_decide_eq_true (by kernel_rfl)) (by unfold Func.isWrapper; first | (rw [if_pos (by decide +kernel)]; kernel_rfl) | (rw [if_neg (by decide +kernel)]; exact ⟨rfl, rfl⟩))
    (fun os started H enc _ => parserGaps_lifted os started H enc)

theorem parserGaps_holds : Rows.ParserGapsCardSaid :=
  Claim7.holds_tied_plain_at .later [] [.data, .data, .data, .data, .sentinel, .sentinel, .data, .data, .pinned] true Rows.parserGapsCard.stood.harness true
    parserGaps_said (fun _ h => by cases h) (by kernel_rfl) (fun _ h => by cases h) parserGaps_row_tie rfl ⟨rfl, rfl⟩ (by kernel_rfl) rfl
    (fun f fn hf hfn => by
      obtain rfl : f = 5 := Option.some.inj ((show Tryz.prog.funcNamed "formfinder/formfinderlaw03.ParserGaps" = some 5 by kernel_rfl).symm.trans hf) |>.symm
      obtain rfl : fn = Tryz.f5 := (Option.some.inj (Tryz.func5.symm.trans hfn)).symm
      exact ⟨by kernel_rfl, fun j t ht => by
        rw [Tryz.params5] at ht
        have hm : t ∈ ([9, 37] : List Nat) := by simpa using Array.mem_of_getElem? ht
        have hall : (([9, 37] : List Nat).all fun u => !Tryz.prog.wantsStandIn u) = true := by kernel_rfl
        exact (show Tryz.prog.wantsStandIn t = false by simpa using List.all_eq_true.1 hall t hm)⟩)
    (by kernel_rfl)
#print axioms parserGaps_holds
end Go.Proofs.YtgleakjalhkkhaaGreatDoor
