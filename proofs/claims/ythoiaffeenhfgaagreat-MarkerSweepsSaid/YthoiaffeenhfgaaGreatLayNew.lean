
import Derived.Test.YthoiaffeenhfgaaGreatJ7
namespace Go.Proofs.YthoiaffeenhfgaaGreat.Lay
open Go.RowKit
set_option linter.unusedVariables false
structure KM (w : World) (N : Nat) (L : List Int) (w' : World) : Prop where
  lt : N < w'.heap.size
  le : w.heap.size ≤ N
  c : ∀ i, i < 62 → w'.cell? ⟨N, i, none⟩ = some (.int .i64 (L.getD i 0))
  f : ∀ i, i < 62 → w'.frozen? ⟨N, i, none⟩ = false
  bel : Below w.heap.size w w'
theorem KM.step {w : World} {N : Nat} {L : List Int} {w' w2 : World} (h : KM w N L w') (hb : Below w'.heap.size w' w2) : KM w N L w2 :=
  ⟨Nat.lt_of_lt_of_le h.lt hb.size, h.le, fun i hi => (hb.cell (p := ⟨N, i, none⟩) h.lt).trans (h.c i hi), fun i hi => (hb.frozen (p := ⟨N, i, none⟩) h.lt).trans (h.f i hi), below_then h.bel hb⟩
theorem KM.drew {w : World} {N : Nat} {L : List Int} {w' : World} (h : KM w N L w') : KM w N L w'.drew := h.step ((Below.refl _ _).drew)
theorem KM.alloc {w : World} {N : Nat} {L : List Int} {w' : World} (h : KM w N L w') (o : Obj) : KM w N L (w'.alloc o) := h.step (below_alloc0 (Below.refl _ _) o)
structure KX (w : World) (N : Nat) (L : List Int) (o : Nat) (w' : World) : Prop where
  lt : N < w'.heap.size
  le : w.heap.size ≤ N
  c : ∀ i, i < 62 → (i < o ∨ o + 5 ≤ i) → w'.cell? ⟨N, i, none⟩ = some (.int .i64 (L.getD i 0))
  s : ∀ i, i < 62 → ∃ v, w'.cell? ⟨N, i, none⟩ = some v
  f : ∀ i, i < 62 → w'.frozen? ⟨N, i, none⟩ = false
  bel : Below w.heap.size w w'
theorem KM.x {w : World} {N : Nat} {L : List Int} {w' : World} (h : KM w N L w') (o : Nat) : KX w N L o w' := ⟨h.lt, h.le, fun i hi _ => h.c i hi, fun i hi => ⟨_, h.c i hi⟩, h.f, h.bel⟩
theorem KX.step {w : World} {N o : Nat} {L : List Int} {w' w2 : World} (h : KX w N L o w') (hb : Below w'.heap.size w' w2) : KX w N L o w2 :=
  ⟨Nat.lt_of_lt_of_le h.lt hb.size, h.le, fun i hi hx => (hb.cell (p := ⟨N, i, none⟩) h.lt).trans (h.c i hi hx), fun i hi => by obtain ⟨v, hv⟩ := h.s i hi; exact ⟨v, (hb.cell (p := ⟨N, i, none⟩) h.lt).trans hv⟩, fun i hi => (hb.frozen (p := ⟨N, i, none⟩) h.lt).trans (h.f i hi), below_then h.bel hb⟩
theorem KX.more {X Y : Prop} {w : World} {N o : Nat} {L : List Int} {w' w2 : World} (h : X ∧ Y ∧ KX w N L o w') (hb : Below w'.heap.size w' w2) : KX w N L o w2 := h.2.2.step hb
theorem KX.set {w : World} {N o : Nat} {L : List Int} {w' : World} (h : KX w N L o w') (i : Nat) (x : Value) (hi : i < 62) (h1 : o ≤ i) (h2 : i < o + 5) : KX w N L o (w'.setCell ⟨N, i, none⟩ x) := by
  refine ⟨by simpa using h.lt, h.le, fun j hj hx => ?_, fun j hj => ?_, fun j hj => (World.frozen?_setCell _ _ _ _).trans (h.f j hj), h.bel.setCell h.le _⟩
  · rw [World.cell?_setCell_other _ _ _ _ (by intro hh; injection hh; omega), h.c j hj hx]
  · obtain ⟨v, hv⟩ := h.s j hj
    by_cases e : j = i
    · subst e; exact ⟨_, World.cell?_setCell_same _ _ _ hv⟩
    · exact ⟨v, by rw [World.cell?_setCell_other _ _ _ _ (by intro hh; injection hh; omega), hv]⟩
theorem KX.set5 {w : World} {N o o1 o2 o3 o4 : Nat} {L : List Int} {w' : World} {x0 x1 x2 x3 x4 : Value} (h : KX w N L o w') (ho : o + 5 ≤ 62) (e1 : o1 = o + 1) (e2 : o2 = o + 2) (e3 : o3 = o + 3) (e4 : o4 = o + 4) :
    KX w N L o (((((w'.setCell ⟨N, o, none⟩ x0).setCell ⟨N, o1, none⟩ x1).setCell ⟨N, o2, none⟩ x2).setCell ⟨N, o3, none⟩ x3).setCell ⟨N, o4, none⟩ x4) := by
  subst e1; subst e2; subst e3; subst e4
  exact ((((h.set o x0 (by omega) (by omega) (by omega)).set (o + 1) x1 (by omega) (by omega) (by omega)).set (o + 2) x2 (by omega) (by omega) (by omega)).set (o + 3) x3 (by omega) (by omega) (by omega)).set (o + 4) x4 (by omega) (by omega) (by omega)
theorem put_at {w' : World} {N i : Nat} {x : Value} (h : ∃ v, w'.cell? ⟨N, i, none⟩ = some v) : (w'.setCell ⟨N, i, none⟩ x).cell? ⟨N, i, none⟩ = some x := by
  obtain ⟨v, hv⟩ := h; exact World.cell?_setCell_same _ _ _ hv
theorem put_off {w' : World} {N i j : Nat} {x : Value} (h : j ≠ i) : (w'.setCell ⟨N, i, none⟩ x).cell? ⟨N, j, none⟩ = w'.cell? ⟨N, j, none⟩ := World.cell?_setCell_other _ _ _ _ (by intro hh; injection hh; omega)
theorem put_some {w' : World} {N i j : Nat} {x : Value} (h : ∃ v, w'.cell? ⟨N, j, none⟩ = some v) : ∃ v, (w'.setCell ⟨N, i, none⟩ x).cell? ⟨N, j, none⟩ = some v := by
  by_cases e : j = i
  · subst e; exact ⟨_, put_at h⟩
  · obtain ⟨v, hv⟩ := h; exact ⟨v, by rw [put_off e, hv]⟩
theorem KX.fill {w : World} {N : Nat} {L L' : List Int} {w' : World} {x0 x1 x2 x3 x4 : Int} (o o1 o2 o3 o4 : Nat) (h : KX w N L o w') (ho : o + 5 ≤ 62) (e1 : o1 = o + 1) (e2 : o2 = o + 2) (e3 : o3 = o + 3) (e4 : o4 = o + 4)
    (hl : ∀ i, i < 62 → (i < o ∨ o + 5 ≤ i) → L'.getD i 0 = L.getD i 0) (h0 : L'.getD o 0 = x0) (h1 : L'.getD o1 0 = x1) (h2 : L'.getD o2 0 = x2) (h3 : L'.getD o3 0 = x3) (h4 : L'.getD o4 0 = x4) :
    KM w N L' (((((w'.setCell ⟨N, o, none⟩ (.int .i64 x0)).setCell ⟨N, o1, none⟩ (.int .i64 x1)).setCell ⟨N, o2, none⟩ (.int .i64 x2)).setCell ⟨N, o3, none⟩ (.int .i64 x3)).setCell ⟨N, o4, none⟩ (.int .i64 x4)) := by
  have hx := h.set5 (x0 := .int .i64 x0) (x1 := .int .i64 x1) (x2 := .int .i64 x2) (x3 := .int .i64 x3) (x4 := .int .i64 x4) ho e1 e2 e3 e4
  refine ⟨hx.lt, hx.le, fun i hi => ?_, hx.f, hx.bel⟩
  by_cases e : i < o ∨ o + 5 ≤ i
  · rw [hx.c i hi e, hl i hi e]
  · have s := fun i (hi : i < 62) => h.s i hi
    have : i = o ∨ i = o1 ∨ i = o2 ∨ i = o3 ∨ i = o4 := by omega
    rcases this with rfl | rfl | rfl | rfl | rfl
    · rw [put_off (by omega), put_off (by omega), put_off (by omega), put_off (by omega), put_at (s _ (by omega)), h0]
    · rw [put_off (by omega), put_off (by omega), put_off (by omega), put_at (put_some (s _ (by omega))), h1]
    · rw [put_off (by omega), put_off (by omega), put_at (put_some (put_some (s _ (by omega)))), h2]
    · rw [put_off (by omega), put_at (put_some (put_some (put_some (s _ (by omega))))), h3]
    · rw [put_at (put_some (put_some (put_some (put_some (s _ (by omega))))))  , h4]
theorem KM.start {w w2 : World} (h : Below w.heap.size w w2) (L : List Int) (T : TypeId) (cs : Array Value) (hcs : cs = (L.map (Value.int .i64)).toArray) (hl : L.length = 62) : KM w w2.heap.size L (w2.alloc (.cells cs T)) := by
  refine ⟨by simp, h.size, fun i hi => ?_, fun i hi => World.frozen?_alloc_at _ _ _ _ rfl, below_alloc0 h _⟩
  rw [World.cell?_alloc_at _ _ _ _ rfl, hcs]
  simpa using map_get .i64 L i (by omega)
theorem getD_split (A B : List Int) (C : List Int) (i n : Nat) (h : A.take n = B.take n) (hi : i < n) : A.getD i 0 = B.getD i 0 := by
  have := congrArg (fun l => l.getD i 0) h
  simpa [List.getD, List.getElem?_take, hi] using this
theorem getD_split2 (A B : List Int) (i n : Nat) (h : A.drop n = B.drop n) (hi : n ≤ i) : A.getD i 0 = B.getD i 0 := by
  have := congrArg (fun l => l.getD (i - n) 0) h
  have e : n + (i - n) = i := by omega
  simpa [List.getD, List.getElem?_drop, e] using this
theorem same1 (c : Cfg) (i : Nat) (hi : i < 62) (hx : i < 17 ∨ 22 ≤ i) : ([c.a, c.b, c.c, c.d, c.e, c.mr, c.mu, c.dq, c.ch, c.bf, c.rt, c.sw, 0, 0, 1, 6, 0, 6, 0, c.mu, 1, 0, 0, 0, 0, 0, 0, 0, 0, 0, 0, 0, 0, 0, 0, 0, 0, 0, 0, 0, 0, 0, 0, 0, 0, 0, 0, 0, 0, 0, 0, 0, 0, 0, 0, 0, 0, 0, 0, 0, 0, 0] : List Int).getD i 0 = ([c.a, c.b, c.c, c.d, c.e, c.mr, c.mu, c.dq, c.ch, c.bf, c.rt, c.sw, 0, 0, 1, 6, 0, 0, 0, 0, 0, 0, 0, 0, 0, 0, 0, 0, 0, 0, 0, 0, 0, 0, 0, 0, 0, 0, 0, 0, 0, 0, 0, 0, 0, 0, 0, 0, 0, 0, 0, 0, 0, 0, 0, 0, 0, 0, 0, 0, 0, 0] : List Int).getD i 0 := by
  rcases hx with hx | hx
  · exact getD_split _ _ [] i 17 rfl hx
  · exact getD_split2 _ _ i 22 rfl hx
theorem same2 (c : Cfg) (i : Nat) (hi : i < 62) (hx : i < 22 ∨ 27 ≤ i) : ([c.a, c.b, c.c, c.d, c.e, c.mr, c.mu, c.dq, c.ch, c.bf, c.rt, c.sw, 0, 0, 1, 6, 0, 6, 0, c.mu, 1, 0, at2 c, 0, 5, 1, 0, 0, 0, 0, 0, 0, 0, 0, 0, 0, 0, 0, 0, 0, 0, 0, 0, 0, 0, 0, 0, 0, 0, 0, 0, 0, 0, 0, 0, 0, 0, 0, 0, 0, 0, 0] : List Int).getD i 0 = ([c.a, c.b, c.c, c.d, c.e, c.mr, c.mu, c.dq, c.ch, c.bf, c.rt, c.sw, 0, 0, 1, 6, 0, 6, 0, c.mu, 1, 0, 0, 0, 0, 0, 0, 0, 0, 0, 0, 0, 0, 0, 0, 0, 0, 0, 0, 0, 0, 0, 0, 0, 0, 0, 0, 0, 0, 0, 0, 0, 0, 0, 0, 0, 0, 0, 0, 0, 0, 0] : List Int).getD i 0 := by
  rcases hx with hx | hx
  · exact getD_split _ _ [] i 22 rfl hx
  · exact getD_split2 _ _ i 27 rfl hx
theorem same3 (c : Cfg) (i : Nat) (hi : i < 62) (hx : i < 27 ∨ 32 ≤ i) : ([c.a, c.b, c.c, c.d, c.e, c.mr, c.mu, c.dq, c.ch, c.bf, c.rt, c.sw, 0, 0, 1, 6, 0, 6, 0, c.mu, 1, 0, at2 c, 0, 5, 1, 0, at3 c, 0, c.mr, 2, c.dq, 0, 0, 0, 0, 0, 0, 0, 0, 0, 0, 0, 0, 0, 0, 0, 0, 0, 0, 0, 0, 0, 0, 0, 0, 0, 0, 0, 0, 0, 0] : List Int).getD i 0 = ([c.a, c.b, c.c, c.d, c.e, c.mr, c.mu, c.dq, c.ch, c.bf, c.rt, c.sw, 0, 0, 1, 6, 0, 6, 0, c.mu, 1, 0, at2 c, 0, 5, 1, 0, 0, 0, 0, 0, 0, 0, 0, 0, 0, 0, 0, 0, 0, 0, 0, 0, 0, 0, 0, 0, 0, 0, 0, 0, 0, 0, 0, 0, 0, 0, 0, 0, 0, 0, 0] : List Int).getD i 0 := by
  rcases hx with hx | hx
  · exact getD_split _ _ [] i 27 rfl hx
  · exact getD_split2 _ _ i 32 rfl hx
theorem same4 (c : Cfg) (i : Nat) (hi : i < 62) (hx : i < 32 ∨ 37 ≤ i) : ([c.a, c.b, c.c, c.d, c.e, c.mr, c.mu, c.dq, c.ch, c.bf, c.rt, c.sw, 0, 0, 1, 6, 0, 6, 0, c.mu, 1, 0, at2 c, 0, 5, 1, 0, at3 c, 0, c.mr, 2, c.dq, at4 c, 1, packN c, 2, 4, 0, 0, 0, 0, 0, 0, 0, 0, 0, 0, 0, 0, 0, 0, 0, 0, 0, 0, 0, 0, 0, 0, 0, 0, 0] : List Int).getD i 0 = ([c.a, c.b, c.c, c.d, c.e, c.mr, c.mu, c.dq, c.ch, c.bf, c.rt, c.sw, 0, 0, 1, 6, 0, 6, 0, c.mu, 1, 0, at2 c, 0, 5, 1, 0, at3 c, 0, c.mr, 2, c.dq, 0, 0, 0, 0, 0, 0, 0, 0, 0, 0, 0, 0, 0, 0, 0, 0, 0, 0, 0, 0, 0, 0, 0, 0, 0, 0, 0, 0, 0, 0] : List Int).getD i 0 := by
  rcases hx with hx | hx
  · exact getD_split _ _ [] i 32 rfl hx
  · exact getD_split2 _ _ i 37 rfl hx
theorem same5 (c : Cfg) (i : Nat) (hi : i < 62) (hx : i < 37 ∨ 42 ≤ i) : ([c.a, c.b, c.c, c.d, c.e, c.mr, c.mu, c.dq, c.ch, c.bf, c.rt, c.sw, 0, 0, 1, 6, 0, 6, 0, c.mu, 1, 0, at2 c, 0, 5, 1, 0, at3 c, 0, c.mr, 2, c.dq, at4 c, 1, packN c, 2, 4, at50 c, 1, c.a, 4, 1, 0, 0, 0, 0, 0, 0, 0, 0, 0, 0, 0, 0, 0, 0, 0, 0, 0, 0, 0, 0] : List Int).getD i 0 = ([c.a, c.b, c.c, c.d, c.e, c.mr, c.mu, c.dq, c.ch, c.bf, c.rt, c.sw, 0, 0, 1, 6, 0, 6, 0, c.mu, 1, 0, at2 c, 0, 5, 1, 0, at3 c, 0, c.mr, 2, c.dq, at4 c, 1, packN c, 2, 4, 0, 0, 0, 0, 0, 0, 0, 0, 0, 0, 0, 0, 0, 0, 0, 0, 0, 0, 0, 0, 0, 0, 0, 0, 0] : List Int).getD i 0 := by
  rcases hx with hx | hx
  · exact getD_split _ _ [] i 37 rfl hx
  · exact getD_split2 _ _ i 42 rfl hx
theorem same6 (c : Cfg) (i : Nat) (hi : i < 62) (hx : i < 42 ∨ 47 ≤ i) : ([c.a, c.b, c.c, c.d, c.e, c.mr, c.mu, c.dq, c.ch, c.bf, c.rt, c.sw, 0, 0, 1, 6, 0, 6, 0, c.mu, 1, 0, at2 c, 0, 5, 1, 0, at3 c, 0, c.mr, 2, c.dq, at4 c, 1, packN c, 2, 4, at50 c, 1, c.a, 4, 1, at51 c, 1 + c.a, c.b, 4, 2, 0, 0, 0, 0, 0, 0, 0, 0, 0, 0, 0, 0, 0, 0, 0] : List Int).getD i 0 = ([c.a, c.b, c.c, c.d, c.e, c.mr, c.mu, c.dq, c.ch, c.bf, c.rt, c.sw, 0, 0, 1, 6, 0, 6, 0, c.mu, 1, 0, at2 c, 0, 5, 1, 0, at3 c, 0, c.mr, 2, c.dq, at4 c, 1, packN c, 2, 4, at50 c, 1, c.a, 4, 1, 0, 0, 0, 0, 0, 0, 0, 0, 0, 0, 0, 0, 0, 0, 0, 0, 0, 0, 0, 0] : List Int).getD i 0 := by
  rcases hx with hx | hx
  · exact getD_split _ _ [] i 42 rfl hx
  · exact getD_split2 _ _ i 47 rfl hx
theorem same7 (c : Cfg) (i : Nat) (hi : i < 62) (hx : i < 47 ∨ 52 ≤ i) : ([c.a, c.b, c.c, c.d, c.e, c.mr, c.mu, c.dq, c.ch, c.bf, c.rt, c.sw, 0, 0, 1, 6, 0, 6, 0, c.mu, 1, 0, at2 c, 0, 5, 1, 0, at3 c, 0, c.mr, 2, c.dq, at4 c, 1, packN c, 2, 4, at50 c, 1, c.a, 4, 1, at51 c, 1 + c.a, c.b, 4, 2, at52 c, 1 + c.a + c.b, c.c, 4, 4, 0, 0, 0, 0, 0, 0, 0, 0, 0, 0] : List Int).getD i 0 = ([c.a, c.b, c.c, c.d, c.e, c.mr, c.mu, c.dq, c.ch, c.bf, c.rt, c.sw, 0, 0, 1, 6, 0, 6, 0, c.mu, 1, 0, at2 c, 0, 5, 1, 0, at3 c, 0, c.mr, 2, c.dq, at4 c, 1, packN c, 2, 4, at50 c, 1, c.a, 4, 1, at51 c, 1 + c.a, c.b, 4, 2, 0, 0, 0, 0, 0, 0, 0, 0, 0, 0, 0, 0, 0, 0, 0] : List Int).getD i 0 := by
  rcases hx with hx | hx
  · exact getD_split _ _ [] i 47 rfl hx
  · exact getD_split2 _ _ i 52 rfl hx
theorem same8 (c : Cfg) (i : Nat) (hi : i < 62) (hx : i < 52 ∨ 57 ≤ i) : ([c.a, c.b, c.c, c.d, c.e, c.mr, c.mu, c.dq, c.ch, c.bf, c.rt, c.sw, 0, 0, 1, 6, 0, 6, 0, c.mu, 1, 0, at2 c, 0, 5, 1, 0, at3 c, 0, c.mr, 2, c.dq, at4 c, 1, packN c, 2, 4, at50 c, 1, c.a, 4, 1, at51 c, 1 + c.a, c.b, 4, 2, at52 c, 1 + c.a + c.b, c.c, 4, 4, at53 c, 1 + c.a + c.b + c.c, c.d, 4, 8, 0, 0, 0, 0, 0] : List Int).getD i 0 = ([c.a, c.b, c.c, c.d, c.e, c.mr, c.mu, c.dq, c.ch, c.bf, c.rt, c.sw, 0, 0, 1, 6, 0, 6, 0, c.mu, 1, 0, at2 c, 0, 5, 1, 0, at3 c, 0, c.mr, 2, c.dq, at4 c, 1, packN c, 2, 4, at50 c, 1, c.a, 4, 1, at51 c, 1 + c.a, c.b, 4, 2, at52 c, 1 + c.a + c.b, c.c, 4, 4, 0, 0, 0, 0, 0, 0, 0, 0, 0, 0] : List Int).getD i 0 := by
  rcases hx with hx | hx
  · exact getD_split _ _ [] i 52 rfl hx
  · exact getD_split2 _ _ i 57 rfl hx
theorem same9 (c : Cfg) (i : Nat) (hi : i < 62) (hx : i < 57 ∨ 62 ≤ i) : ([c.a, c.b, c.c, c.d, c.e, c.mr, c.mu, c.dq, c.ch, c.bf, c.rt, c.sw, 0, 0, 1, 6, 0, 6, 0, c.mu, 1, 0, at2 c, 0, 5, 1, 0, at3 c, 0, c.mr, 2, c.dq, at4 c, 1, packN c, 2, 4, at50 c, 1, c.a, 4, 1, at51 c, 1 + c.a, c.b, 4, 2, at52 c, 1 + c.a + c.b, c.c, 4, 4, at53 c, 1 + c.a + c.b + c.c, c.d, 4, 8, at54 c, 1 + c.a + c.b + c.c + c.d, c.e, 4, 16] : List Int).getD i 0 = ([c.a, c.b, c.c, c.d, c.e, c.mr, c.mu, c.dq, c.ch, c.bf, c.rt, c.sw, 0, 0, 1, 6, 0, 6, 0, c.mu, 1, 0, at2 c, 0, 5, 1, 0, at3 c, 0, c.mr, 2, c.dq, at4 c, 1, packN c, 2, 4, at50 c, 1, c.a, 4, 1, at51 c, 1 + c.a, c.b, 4, 2, at52 c, 1 + c.a + c.b, c.c, 4, 4, at53 c, 1 + c.a + c.b + c.c, c.d, 4, 8, 0, 0, 0, 0, 0] : List Int).getD i 0 := by
  rcases hx with hx | hx
  · exact getD_split _ _ [] i 57 rfl hx
  · exact getD_split2 _ _ i 62 rfl hx
structure KRow (R : Nat) (x0 x1 x2 x3 x4 : Int) (w : World) : Prop where
  lt : R < w.heap.size
  c0 : w.cell? ⟨R, 0, none⟩ = some (.int .i64 x0)
  c1 : w.cell? ⟨R, 1, none⟩ = some (.int .i64 x1)
  c2 : w.cell? ⟨R, 2, none⟩ = some (.int .i64 x2)
  c3 : w.cell? ⟨R, 3, none⟩ = some (.int .i64 x3)
  c4 : w.cell? ⟨R, 4, none⟩ = some (.int .i64 x4)
  f0 : w.frozen? ⟨R, 0, none⟩ = false
  f1 : w.frozen? ⟨R, 1, none⟩ = false
  f2 : w.frozen? ⟨R, 2, none⟩ = false
  f3 : w.frozen? ⟨R, 3, none⟩ = false
  f4 : w.frozen? ⟨R, 4, none⟩ = false
theorem KRow.start (x0 x1 x2 x3 x4 : Int) (T : TypeId) (w : World) : KRow w.heap.size x0 x1 x2 x3 x4 (w.alloc (.cells #[.int .i64 x0, .int .i64 x1, .int .i64 x2, .int .i64 x3, .int .i64 x4] T)) := by
  refine ⟨by simp, ?_, ?_, ?_, ?_, ?_, World.frozen?_alloc_at _ _ _ _ rfl, World.frozen?_alloc_at _ _ _ _ rfl, World.frozen?_alloc_at _ _ _ _ rfl, World.frozen?_alloc_at _ _ _ _ rfl, World.frozen?_alloc_at _ _ _ _ rfl⟩
  all_goals (rw [World.cell?_alloc_at _ _ _ _ rfl]; rfl)
theorem KRow.step {R : Nat} {x0 x1 x2 x3 x4 : Int} {w w2 : World} (h : KRow R x0 x1 x2 x3 x4 w) (hb : Below w.heap.size w w2) : KRow R x0 x1 x2 x3 x4 w2 :=
  ⟨Nat.lt_of_lt_of_le h.lt hb.size, (hb.cell (p := ⟨R, 0, none⟩) h.lt).trans h.c0, (hb.cell (p := ⟨R, 1, none⟩) h.lt).trans h.c1, (hb.cell (p := ⟨R, 2, none⟩) h.lt).trans h.c2, (hb.cell (p := ⟨R, 3, none⟩) h.lt).trans h.c3, (hb.cell (p := ⟨R, 4, none⟩) h.lt).trans h.c4,
   (hb.frozen (p := ⟨R, 0, none⟩) h.lt).trans h.f0, (hb.frozen (p := ⟨R, 1, none⟩) h.lt).trans h.f1, (hb.frozen (p := ⟨R, 2, none⟩) h.lt).trans h.f2, (hb.frozen (p := ⟨R, 3, none⟩) h.lt).trans h.f3, (hb.frozen (p := ⟨R, 4, none⟩) h.lt).trans h.f4⟩
theorem KRow.drew {R : Nat} {x0 x1 x2 x3 x4 : Int} {w : World} (h : KRow R x0 x1 x2 x3 x4 w) : KRow R x0 x1 x2 x3 x4 w.drew := h.step ((Below.refl _ _).drew)
theorem cell_far {w : World} {M i N j : Nat} {v : Value} (hn : N ≠ M) : (w.setCell ⟨M, i, none⟩ v).cell? ⟨N, j, none⟩ = w.cell? ⟨N, j, none⟩ := World.cell?_setCell_other _ _ _ _ (by intro hh; injection hh with h1; exact hn h1.symm)
theorem KRow.off {R N i : Nat} {x0 x1 x2 x3 x4 : Int} {w : World} {v : Value} (h : KRow R x0 x1 x2 x3 x4 w) (hn : R ≠ N) : KRow R x0 x1 x2 x3 x4 (w.setCell ⟨N, i, none⟩ v) :=
  ⟨by simpa using h.lt, (cell_far hn).trans h.c0, (cell_far hn).trans h.c1, (cell_far hn).trans h.c2, (cell_far hn).trans h.c3, (cell_far hn).trans h.c4, (World.frozen?_setCell _ _ _ _).trans h.f0, (World.frozen?_setCell _ _ _ _).trans h.f1, (World.frozen?_setCell _ _ _ _).trans h.f2, (World.frozen?_setCell _ _ _ _).trans h.f3, (World.frozen?_setCell _ _ _ _).trans h.f4⟩
theorem KRow.off5 {R N i0 i1 i2 i3 i4 : Nat} {x0 x1 x2 x3 x4 : Int} {w : World} {v0 v1 v2 v3 v4 : Value} (h : KRow R x0 x1 x2 x3 x4 w) (hn : R ≠ N) :
    KRow R x0 x1 x2 x3 x4 (((((w.setCell ⟨N, i0, none⟩ v0).setCell ⟨N, i1, none⟩ v1).setCell ⟨N, i2, none⟩ v2).setCell ⟨N, i3, none⟩ v3).setCell ⟨N, i4, none⟩ v4) := ((((h.off hn).off hn).off hn).off hn).off hn
theorem KM.off {w : World} {N R i : Nat} {L : List Int} {w' : World} {v : Value} (h : KM w N L w') (hn : N ≠ R) (hR : w.heap.size ≤ R) : KM w N L (w'.setCell ⟨R, i, none⟩ v) :=
  ⟨by simpa using h.lt, h.le, fun j hj => (cell_far hn).trans (h.c j hj), fun j hj => (World.frozen?_setCell _ _ _ _).trans (h.f j hj), h.bel.setCell hR _⟩
theorem KM.off5 {w : World} {N R i0 i1 i2 i3 i4 : Nat} {L : List Int} {w' : World} {v0 v1 v2 v3 v4 : Value} (h : KM w N L w') (hn : N ≠ R) (hR : w.heap.size ≤ R) :
    KM w N L (((((w'.setCell ⟨R, i0, none⟩ v0).setCell ⟨R, i1, none⟩ v1).setCell ⟨R, i2, none⟩ v2).setCell ⟨R, i3, none⟩ v3).setCell ⟨R, i4, none⟩ v4) := ((((h.off hn hR).off hn hR).off hn hR).off hn hR).off hn hR
theorem KRow.set5 {R : Nat} {x0 x1 x2 x3 x4 : Int} {w : World} (h : KRow R x0 x1 x2 x3 x4 w) (y0 y1 y2 y3 y4 : Int) :
    KRow R y0 y1 y2 y3 y4 (((((w.setCell ⟨R, 0, none⟩ (.int .i64 y0)).setCell ⟨R, 1, none⟩ (.int .i64 y1)).setCell ⟨R, 2, none⟩ (.int .i64 y2)).setCell ⟨R, 3, none⟩ (.int .i64 y3)).setCell ⟨R, 4, none⟩ (.int .i64 y4)) := by
  refine ⟨by simpa using h.lt, ?_, ?_, ?_, ?_, ?_, ?_, ?_, ?_, ?_, ?_⟩
  · rw [put_off (by omega), put_off (by omega), put_off (by omega), put_off (by omega), put_at ⟨_, h.c0⟩]
  · rw [put_off (by omega), put_off (by omega), put_off (by omega), put_at (put_some ⟨_, h.c1⟩)]
  · rw [put_off (by omega), put_off (by omega), put_at (put_some (put_some ⟨_, h.c2⟩))]
  · rw [put_off (by omega), put_at (put_some (put_some (put_some ⟨_, h.c3⟩)))]
  · rw [put_at (put_some (put_some (put_some (put_some ⟨_, h.c4⟩))))]
  all_goals (simp only [World.frozen?_setCell]; first | exact h.f0 | exact h.f1 | exact h.f2 | exact h.f3 | exact h.f4)
theorem then_is {at_ fr mn wd it : Int} (f m s i x : Int) (h : RowOk at_ fr mn wd it) (hx : endL at_ mn wd it = x) (w : World) : Calls Tryz.prog 42 #[rowV at_ fr mn wd it, .int .i64 f, .int .i64 m, .int .i64 s, .int .i64 i] w fun e w' => e = .returned (rowV x f m s i) ∧ Below w.heap.size w w' := by
  subst hx; exact then_any f m s i h w
set_option maxHeartbeats 4000000 in
set_option maxRecDepth 100000 in
theorem new_yes {c : Cfg} (h : OkC c) (w : World) : Calls Tryz.prog 9 #[cfgV c] w fun r w' => ∃ N, r = .returned (.tuple #[mapP N, .int .i64 0]) ∧ IsMap w' N c ∧ Below w.heap.size w w' := by
  have H := Lib.hid h
  have hk0 := KC.start c 24 w w (Below.refl _ _)
  have HK0 := Lib.hid hk0; clear hk0
  go_enter Tryz.func9, Tryz.ntmps9
  go_wp2_with (first
    | (go_at_call 40; (with_reducible refine (check_yes H.out _).mono ?_); rintro r w1 ⟨rfl, hb1⟩; have hk1 := HK0.out.step hb1; have HK1 := Lib.hid hk1; obtain ⟨klt, q0, q1, q2, q3, q4, q5, q6, q7, q8, q9, q10, q11, qb⟩ := hk1)
    | (go_at_call 41; (with_reducible refine (numbersOf_any c _).mono ?_); rintro r w2 ⟨rfl, hb2⟩; have hk2 := HK1.out.step hb2))
  obtain ⟨W, hW⟩ : ∃ W, W = w2.alloc (.cells #[.int .i64 (c.a), .int .i64 (c.b), .int .i64 (c.c), .int .i64 (c.d), .int .i64 (c.e), .int .i64 (c.mr), .int .i64 (c.mu), .int .i64 (c.dq), .int .i64 (c.ch), .int .i64 (c.bf), .int .i64 (c.rt), .int .i64 (c.sw), .int .i64 (0), .int .i64 (0), .int .i64 (1), .int .i64 (6), .int .i64 (0), .int .i64 (0), .int .i64 (0), .int .i64 (0), .int .i64 (0), .int .i64 (0), .int .i64 (0), .int .i64 (0), .int .i64 (0), .int .i64 (0), .int .i64 (0), .int .i64 (0), .int .i64 (0), .int .i64 (0), .int .i64 (0), .int .i64 (0), .int .i64 (0), .int .i64 (0), .int .i64 (0), .int .i64 (0), .int .i64 (0), .int .i64 (0), .int .i64 (0), .int .i64 (0), .int .i64 (0), .int .i64 (0), .int .i64 (0), .int .i64 (0), .int .i64 (0), .int .i64 (0), .int .i64 (0), .int .i64 (0), .int .i64 (0), .int .i64 (0), .int .i64 (0), .int .i64 (0), .int .i64 (0), .int .i64 (0), .int .i64 (0), .int .i64 (0), .int .i64 (0), .int .i64 (0), .int .i64 (0), .int .i64 (0), .int .i64 (0), .int .i64 (0)] 79) := ⟨_, rfl⟩
  rw [← hW]
  have O12 := Lib.hid (ok12 H.out); have O17 := Lib.hid (ok17 H.out)
  have hk : KM w w2.heap.size [c.a, c.b, c.c, c.d, c.e, c.mr, c.mu, c.dq, c.ch, c.bf, c.rt, c.sw, 0, 0, 1, 6, 0, 0, 0, 0, 0, 0, 0, 0, 0, 0, 0, 0, 0, 0, 0, 0, 0, 0, 0, 0, 0, 0, 0, 0, 0, 0, 0, 0, 0, 0, 0, 0, 0, 0, 0, 0, 0, 0, 0, 0, 0, 0, 0, 0, 0, 0] W := by rw [hW]; exact KM.start hk2.bel _ _ _ rfl rfl
  clear hW hk2 hb2 q0 q1 q2 q3 q4 q5 q6 q7 q8 q9 q10 q11 qb hb1 klt HK1 HK0
  have X2 : endL 0 1 6 0 = 6 := by decide
  have mk1 : ∀ w', KX w w2.heap.size [c.a, c.b, c.c, c.d, c.e, c.mr, c.mu, c.dq, c.ch, c.bf, c.rt, c.sw, 0, 0, 1, 6, 0, 0, 0, 0, 0, 0, 0, 0, 0, 0, 0, 0, 0, 0, 0, 0, 0, 0, 0, 0, 0, 0, 0, 0, 0, 0, 0, 0, 0, 0, 0, 0, 0, 0, 0, 0, 0, 0, 0, 0, 0, 0, 0, 0, 0, 0] 17 w' → (w'.cell? ⟨w2.heap.size, 12, none⟩ = some (.int .i64 (0)) ∧ w'.cell? ⟨w2.heap.size, 13, none⟩ = some (.int .i64 (0)) ∧ w'.cell? ⟨w2.heap.size, 14, none⟩ = some (.int .i64 (1)) ∧ w'.cell? ⟨w2.heap.size, 15, none⟩ = some (.int .i64 (6)) ∧ w'.cell? ⟨w2.heap.size, 16, none⟩ = some (.int .i64 (0)) ∧ w'.cell? ⟨w2.heap.size, 6, none⟩ = some (.int .i64 (c.mu))) ∧ (w'.frozen? ⟨w2.heap.size, 17, none⟩ = false ∧ w'.frozen? ⟨w2.heap.size, 18, none⟩ = false ∧ w'.frozen? ⟨w2.heap.size, 19, none⟩ = false ∧ w'.frozen? ⟨w2.heap.size, 20, none⟩ = false ∧ w'.frozen? ⟨w2.heap.size, 21, none⟩ = false) ∧ KX w w2.heap.size [c.a, c.b, c.c, c.d, c.e, c.mr, c.mu, c.dq, c.ch, c.bf, c.rt, c.sw, 0, 0, 1, 6, 0, 0, 0, 0, 0, 0, 0, 0, 0, 0, 0, 0, 0, 0, 0, 0, 0, 0, 0, 0, 0, 0, 0, 0, 0, 0, 0, 0, 0, 0, 0, 0, 0, 0, 0, 0, 0, 0, 0, 0, 0, 0, 0, 0, 0, 0] 17 w' := fun w' HX => ⟨⟨HX.c 12 (by decide) (by decide), HX.c 13 (by decide) (by decide), HX.c 14 (by decide) (by decide), HX.c 15 (by decide) (by decide), HX.c 16 (by decide) (by decide), HX.c 6 (by decide) (by decide)⟩, ⟨HX.f 17 (by decide), HX.f 18 (by decide), HX.f 19 (by decide), HX.f 20 (by decide), HX.f 21 (by decide)⟩, HX⟩
  have HX0 : KX w w2.heap.size [c.a, c.b, c.c, c.d, c.e, c.mr, c.mu, c.dq, c.ch, c.bf, c.rt, c.sw, 0, 0, 1, 6, 0, 0, 0, 0, 0, 0, 0, 0, 0, 0, 0, 0, 0, 0, 0, 0, 0, 0, 0, 0, 0, 0, 0, 0, 0, 0, 0, 0, 0, 0, 0, 0, 0, 0, 0, 0, 0, 0, 0, 0, 0, 0, 0, 0, 0, 0] 17 W.drew := (KM.x hk 17).step ((Below.refl _ _).drew)
  go_region_held3 (fun w' => (w'.cell? ⟨w2.heap.size, 12, none⟩ = some (.int .i64 (0)) ∧ w'.cell? ⟨w2.heap.size, 13, none⟩ = some (.int .i64 (0)) ∧ w'.cell? ⟨w2.heap.size, 14, none⟩ = some (.int .i64 (1)) ∧ w'.cell? ⟨w2.heap.size, 15, none⟩ = some (.int .i64 (6)) ∧ w'.cell? ⟨w2.heap.size, 16, none⟩ = some (.int .i64 (0)) ∧ w'.cell? ⟨w2.heap.size, 6, none⟩ = some (.int .i64 (c.mu))) ∧ (w'.frozen? ⟨w2.heap.size, 17, none⟩ = false ∧ w'.frozen? ⟨w2.heap.size, 18, none⟩ = false ∧ w'.frozen? ⟨w2.heap.size, 19, none⟩ = false ∧ w'.frozen? ⟨w2.heap.size, 20, none⟩ = false ∧ w'.frozen? ⟨w2.heap.size, 21, none⟩ = false) ∧ KX w w2.heap.size [c.a, c.b, c.c, c.d, c.e, c.mr, c.mu, c.dq, c.ch, c.bf, c.rt, c.sw, 0, 0, 1, 6, 0, 0, 0, 0, 0, 0, 0, 0, 0, 0, 0, 0, 0, 0, 0, 0, 0, 0, 0, 0, 0, 0, 0, 0, 0, 0, 0, 0, 0, 0, 0, 0, 0, 0, 0, 0, 0, 0, 0, 0, 0, 0, 0, 0, 0, 0] 17 w')
    (first | exact mk1 _ HX0 | exact mk1 _ (by assumption) | exact mk1 _ (KX.set5 (And.right (And.right (by assumption))) (by decide) rfl rfl rfl rfl) | fail)
    (first
      | (go_at_call 42; (with_reducible refine (then_is _ _ _ _ _ O12.out X2 _).mono ?_); rintro r w5 ⟨rfl, hb5⟩; have hx1 := KX.more (by assumption) hb5; obtain ⟨v17, s17⟩ := hx1.s 17 (by decide); obtain ⟨v18, s18⟩ := hx1.s 18 (by decide); obtain ⟨v19, s19⟩ := hx1.s 19 (by decide); obtain ⟨v20, s20⟩ := hx1.s 20 (by decide); obtain ⟨v21, s21⟩ := hx1.s 21 (by decide))
      | fail)
  obtain ⟨W2, hW2, hk⟩ : ∃ W', W' = _ ∧ KM w w2.heap.size [c.a, c.b, c.c, c.d, c.e, c.mr, c.mu, c.dq, c.ch, c.bf, c.rt, c.sw, 0, 0, 1, 6, 0, 6, 0, c.mu, 1, 0, 0, 0, 0, 0, 0, 0, 0, 0, 0, 0, 0, 0, 0, 0, 0, 0, 0, 0, 0, 0, 0, 0, 0, 0, 0, 0, 0, 0, 0, 0, 0, 0, 0, 0, 0, 0, 0, 0, 0, 0] W' := ⟨_, rfl, KX.fill (x0 := 6) (x1 := 0) (x2 := c.mu) (x3 := 1) (x4 := 0) 17 18 19 20 21 hx1 (by decide) rfl rfl rfl rfl (fun i hi hx => by exact same1 _ i hi hx) rfl rfl rfl rfl rfl⟩
  rw [← hW2]
  clear hW2
  have c17 : W2.cell? ⟨w2.heap.size, 17, none⟩ = some (.int .i64 (6)) := hk.c 17 (by decide)
  have c18 : W2.cell? ⟨w2.heap.size, 18, none⟩ = some (.int .i64 (0)) := hk.c 18 (by decide)
  have c19 : W2.cell? ⟨w2.heap.size, 19, none⟩ = some (.int .i64 (c.mu)) := hk.c 19 (by decide)
  have c20 : W2.cell? ⟨w2.heap.size, 20, none⟩ = some (.int .i64 (1)) := hk.c 20 (by decide)
  have c21 : W2.cell? ⟨w2.heap.size, 21, none⟩ = some (.int .i64 (0)) := hk.c 21 (by decide)
  have X3 : endL 6 c.mu 1 0 = at2 c := by simp [endL, at2]
  go_wp2_with (first
    | (go_at_call 42; (with_reducible refine (then_is _ _ _ _ _ O17.out X3 _).mono ?_); rintro r w6 ⟨rfl, hbw6⟩; have hx2 := KM.x (hk.step hbw6) 22; obtain ⟨v22, s22⟩ := hx2.s 22 (by decide); obtain ⟨v23, s23⟩ := hx2.s 23 (by decide); obtain ⟨v24, s24⟩ := hx2.s 24 (by decide); obtain ⟨v25, s25⟩ := hx2.s 25 (by decide); obtain ⟨v26, s26⟩ := hx2.s 26 (by decide); have f22 := hx2.f 22 (by decide); have f23 := hx2.f 23 (by decide); have f24 := hx2.f 24 (by decide); have f25 := hx2.f 25 (by decide); have f26 := hx2.f 26 (by decide))
    | fail)
  clear v17 s17 c17 v18 s18 c18 v19 s19 c19 v20 s20 c20 v21 s21 c21
  obtain ⟨W3, hW3, hk⟩ : ∃ W', W' = _ ∧ KM w w2.heap.size [c.a, c.b, c.c, c.d, c.e, c.mr, c.mu, c.dq, c.ch, c.bf, c.rt, c.sw, 0, 0, 1, 6, 0, 6, 0, c.mu, 1, 0, at2 c, 0, 5, 1, 0, 0, 0, 0, 0, 0, 0, 0, 0, 0, 0, 0, 0, 0, 0, 0, 0, 0, 0, 0, 0, 0, 0, 0, 0, 0, 0, 0, 0, 0, 0, 0, 0, 0, 0, 0] W' := ⟨_, rfl, KX.fill (x0 := at2 c) (x1 := 0) (x2 := 5) (x3 := 1) (x4 := 0) 22 23 24 25 26 hx2 (by decide) rfl rfl rfl rfl (fun i hi hx => by exact same2 _ i hi hx) rfl rfl rfl rfl rfl⟩
  rw [← hW3]
  clear hW3
  have X4 : endL (at2 c) 5 1 0 = at3 c := by simp [endL, at2, at3]; omega
  have X5 : endL (at3 c) c.mr 2 c.dq = at4 c := rfl
  have X6 : endL (at4 c) (packN c) 2 4 = at50 c := by simp [endL, at50]
  have O22 := Lib.hid (ok22 H.out); have O27 := Lib.hid (ok27 H.out); have O32 := Lib.hid (ok32 H.out)
  clear mk1
  have mk3 : ∀ w', KX w w2.heap.size [c.a, c.b, c.c, c.d, c.e, c.mr, c.mu, c.dq, c.ch, c.bf, c.rt, c.sw, 0, 0, 1, 6, 0, 6, 0, c.mu, 1, 0, at2 c, 0, 5, 1, 0, 0, 0, 0, 0, 0, 0, 0, 0, 0, 0, 0, 0, 0, 0, 0, 0, 0, 0, 0, 0, 0, 0, 0, 0, 0, 0, 0, 0, 0, 0, 0, 0, 0, 0, 0] 27 w' → (w'.cell? ⟨w2.heap.size, 22, none⟩ = some (.int .i64 (at2 c)) ∧ w'.cell? ⟨w2.heap.size, 23, none⟩ = some (.int .i64 (0)) ∧ w'.cell? ⟨w2.heap.size, 24, none⟩ = some (.int .i64 (5)) ∧ w'.cell? ⟨w2.heap.size, 25, none⟩ = some (.int .i64 (1)) ∧ w'.cell? ⟨w2.heap.size, 26, none⟩ = some (.int .i64 (0)) ∧ w'.cell? ⟨w2.heap.size, 5, none⟩ = some (.int .i64 (c.mr)) ∧ w'.cell? ⟨w2.heap.size, 7, none⟩ = some (.int .i64 (c.dq))) ∧ (w'.frozen? ⟨w2.heap.size, 27, none⟩ = false ∧ w'.frozen? ⟨w2.heap.size, 28, none⟩ = false ∧ w'.frozen? ⟨w2.heap.size, 29, none⟩ = false ∧ w'.frozen? ⟨w2.heap.size, 30, none⟩ = false ∧ w'.frozen? ⟨w2.heap.size, 31, none⟩ = false) ∧ KX w w2.heap.size [c.a, c.b, c.c, c.d, c.e, c.mr, c.mu, c.dq, c.ch, c.bf, c.rt, c.sw, 0, 0, 1, 6, 0, 6, 0, c.mu, 1, 0, at2 c, 0, 5, 1, 0, 0, 0, 0, 0, 0, 0, 0, 0, 0, 0, 0, 0, 0, 0, 0, 0, 0, 0, 0, 0, 0, 0, 0, 0, 0, 0, 0, 0, 0, 0, 0, 0, 0, 0, 0] 27 w' := fun w' HX => ⟨⟨HX.c 22 (by decide) (by decide), HX.c 23 (by decide) (by decide), HX.c 24 (by decide) (by decide), HX.c 25 (by decide) (by decide), HX.c 26 (by decide) (by decide), HX.c 5 (by decide) (by decide), HX.c 7 (by decide) (by decide)⟩, ⟨HX.f 27 (by decide), HX.f 28 (by decide), HX.f 29 (by decide), HX.f 30 (by decide), HX.f 31 (by decide)⟩, HX⟩
  have HX3 : KX w w2.heap.size [c.a, c.b, c.c, c.d, c.e, c.mr, c.mu, c.dq, c.ch, c.bf, c.rt, c.sw, 0, 0, 1, 6, 0, 6, 0, c.mu, 1, 0, at2 c, 0, 5, 1, 0, 0, 0, 0, 0, 0, 0, 0, 0, 0, 0, 0, 0, 0, 0, 0, 0, 0, 0, 0, 0, 0, 0, 0, 0, 0, 0, 0, 0, 0, 0, 0, 0, 0, 0, 0] 27 W3.drew := (KM.x hk 27).step ((Below.refl _ _).drew)
  go_region_held3 (fun w' => (w'.cell? ⟨w2.heap.size, 22, none⟩ = some (.int .i64 (at2 c)) ∧ w'.cell? ⟨w2.heap.size, 23, none⟩ = some (.int .i64 (0)) ∧ w'.cell? ⟨w2.heap.size, 24, none⟩ = some (.int .i64 (5)) ∧ w'.cell? ⟨w2.heap.size, 25, none⟩ = some (.int .i64 (1)) ∧ w'.cell? ⟨w2.heap.size, 26, none⟩ = some (.int .i64 (0)) ∧ w'.cell? ⟨w2.heap.size, 5, none⟩ = some (.int .i64 (c.mr)) ∧ w'.cell? ⟨w2.heap.size, 7, none⟩ = some (.int .i64 (c.dq))) ∧ (w'.frozen? ⟨w2.heap.size, 27, none⟩ = false ∧ w'.frozen? ⟨w2.heap.size, 28, none⟩ = false ∧ w'.frozen? ⟨w2.heap.size, 29, none⟩ = false ∧ w'.frozen? ⟨w2.heap.size, 30, none⟩ = false ∧ w'.frozen? ⟨w2.heap.size, 31, none⟩ = false) ∧ KX w w2.heap.size [c.a, c.b, c.c, c.d, c.e, c.mr, c.mu, c.dq, c.ch, c.bf, c.rt, c.sw, 0, 0, 1, 6, 0, 6, 0, c.mu, 1, 0, at2 c, 0, 5, 1, 0, 0, 0, 0, 0, 0, 0, 0, 0, 0, 0, 0, 0, 0, 0, 0, 0, 0, 0, 0, 0, 0, 0, 0, 0, 0, 0, 0, 0, 0, 0, 0, 0, 0, 0, 0] 27 w')
    (first | exact mk3 _ HX3 | exact mk3 _ (by assumption) | exact mk3 _ (KX.set5 (And.right (And.right (by assumption))) (by decide) rfl rfl rfl rfl) | fail)
    (first
      | (go_at_call 42; (with_reducible refine (then_is _ _ _ _ _ O22.out X4 _).mono ?_); rintro r w7 ⟨rfl, hb7⟩; have hx3 := KX.more (by assumption) hb7; obtain ⟨v27, s27⟩ := hx3.s 27 (by decide); obtain ⟨v28, s28⟩ := hx3.s 28 (by decide); obtain ⟨v29, s29⟩ := hx3.s 29 (by decide); obtain ⟨v30, s30⟩ := hx3.s 30 (by decide); obtain ⟨v31, s31⟩ := hx3.s 31 (by decide))
      | fail)
  obtain ⟨W4, hW4, hk⟩ : ∃ W', W' = _ ∧ KM w w2.heap.size [c.a, c.b, c.c, c.d, c.e, c.mr, c.mu, c.dq, c.ch, c.bf, c.rt, c.sw, 0, 0, 1, 6, 0, 6, 0, c.mu, 1, 0, at2 c, 0, 5, 1, 0, at3 c, 0, c.mr, 2, c.dq, 0, 0, 0, 0, 0, 0, 0, 0, 0, 0, 0, 0, 0, 0, 0, 0, 0, 0, 0, 0, 0, 0, 0, 0, 0, 0, 0, 0, 0, 0] W' := ⟨_, rfl, KX.fill (x0 := at3 c) (x1 := 0) (x2 := c.mr) (x3 := 2) (x4 := c.dq) 27 28 29 30 31 hx3 (by decide) rfl rfl rfl rfl (fun i hi hx => by exact same3 _ i hi hx) rfl rfl rfl rfl rfl⟩
  rw [← hW4]
  clear hW4
  go_wp2_with (fail)
  clear mk3 v27 s27 v28 s28 v29 s29 v30 s30 v31 s31
  have mk4 : ∀ w', KX w w2.heap.size [c.a, c.b, c.c, c.d, c.e, c.mr, c.mu, c.dq, c.ch, c.bf, c.rt, c.sw, 0, 0, 1, 6, 0, 6, 0, c.mu, 1, 0, at2 c, 0, 5, 1, 0, at3 c, 0, c.mr, 2, c.dq, 0, 0, 0, 0, 0, 0, 0, 0, 0, 0, 0, 0, 0, 0, 0, 0, 0, 0, 0, 0, 0, 0, 0, 0, 0, 0, 0, 0, 0, 0] 32 w' → (w'.cell? ⟨w2.heap.size, 27, none⟩ = some (.int .i64 (at3 c)) ∧ w'.cell? ⟨w2.heap.size, 28, none⟩ = some (.int .i64 (0)) ∧ w'.cell? ⟨w2.heap.size, 29, none⟩ = some (.int .i64 (c.mr)) ∧ w'.cell? ⟨w2.heap.size, 30, none⟩ = some (.int .i64 (2)) ∧ w'.cell? ⟨w2.heap.size, 31, none⟩ = some (.int .i64 (c.dq)) ∧ w'.cell? ⟨w2.heap.size, 0, none⟩ = some (.int .i64 (c.a)) ∧ w'.cell? ⟨w2.heap.size, 1, none⟩ = some (.int .i64 (c.b)) ∧ w'.cell? ⟨w2.heap.size, 2, none⟩ = some (.int .i64 (c.c)) ∧ w'.cell? ⟨w2.heap.size, 3, none⟩ = some (.int .i64 (c.d)) ∧ w'.cell? ⟨w2.heap.size, 4, none⟩ = some (.int .i64 (c.e)) ∧ w'.cell? ⟨w2.heap.size, 5, none⟩ = some (.int .i64 (c.mr)) ∧ w'.cell? ⟨w2.heap.size, 6, none⟩ = some (.int .i64 (c.mu)) ∧ w'.cell? ⟨w2.heap.size, 7, none⟩ = some (.int .i64 (c.dq)) ∧ w'.cell? ⟨w2.heap.size, 8, none⟩ = some (.int .i64 (c.ch)) ∧ w'.cell? ⟨w2.heap.size, 9, none⟩ = some (.int .i64 (c.bf)) ∧ w'.cell? ⟨w2.heap.size, 10, none⟩ = some (.int .i64 (c.rt)) ∧ w'.cell? ⟨w2.heap.size, 11, none⟩ = some (.int .i64 (c.sw))) ∧ (w'.frozen? ⟨w2.heap.size, 32, none⟩ = false ∧ w'.frozen? ⟨w2.heap.size, 33, none⟩ = false ∧ w'.frozen? ⟨w2.heap.size, 34, none⟩ = false ∧ w'.frozen? ⟨w2.heap.size, 35, none⟩ = false ∧ w'.frozen? ⟨w2.heap.size, 36, none⟩ = false) ∧ KX w w2.heap.size [c.a, c.b, c.c, c.d, c.e, c.mr, c.mu, c.dq, c.ch, c.bf, c.rt, c.sw, 0, 0, 1, 6, 0, 6, 0, c.mu, 1, 0, at2 c, 0, 5, 1, 0, at3 c, 0, c.mr, 2, c.dq, 0, 0, 0, 0, 0, 0, 0, 0, 0, 0, 0, 0, 0, 0, 0, 0, 0, 0, 0, 0, 0, 0, 0, 0, 0, 0, 0, 0, 0, 0] 32 w' := fun w' HX => ⟨⟨HX.c 27 (by decide) (by decide), HX.c 28 (by decide) (by decide), HX.c 29 (by decide) (by decide), HX.c 30 (by decide) (by decide), HX.c 31 (by decide) (by decide), HX.c 0 (by decide) (by decide), HX.c 1 (by decide) (by decide), HX.c 2 (by decide) (by decide), HX.c 3 (by decide) (by decide), HX.c 4 (by decide) (by decide), HX.c 5 (by decide) (by decide), HX.c 6 (by decide) (by decide), HX.c 7 (by decide) (by decide), HX.c 8 (by decide) (by decide), HX.c 9 (by decide) (by decide), HX.c 10 (by decide) (by decide), HX.c 11 (by decide) (by decide)⟩, ⟨HX.f 32 (by decide), HX.f 33 (by decide), HX.f 34 (by decide), HX.f 35 (by decide), HX.f 36 (by decide)⟩, HX⟩
  have HX4 : KX w w2.heap.size [c.a, c.b, c.c, c.d, c.e, c.mr, c.mu, c.dq, c.ch, c.bf, c.rt, c.sw, 0, 0, 1, 6, 0, 6, 0, c.mu, 1, 0, at2 c, 0, 5, 1, 0, at3 c, 0, c.mr, 2, c.dq, 0, 0, 0, 0, 0, 0, 0, 0, 0, 0, 0, 0, 0, 0, 0, 0, 0, 0, 0, 0, 0, 0, 0, 0, 0, 0, 0, 0, 0, 0] 32 W4.drew := (KM.x hk 32).step ((Below.refl _ _).drew)
  go_region_held3 (fun w' => (w'.cell? ⟨w2.heap.size, 27, none⟩ = some (.int .i64 (at3 c)) ∧ w'.cell? ⟨w2.heap.size, 28, none⟩ = some (.int .i64 (0)) ∧ w'.cell? ⟨w2.heap.size, 29, none⟩ = some (.int .i64 (c.mr)) ∧ w'.cell? ⟨w2.heap.size, 30, none⟩ = some (.int .i64 (2)) ∧ w'.cell? ⟨w2.heap.size, 31, none⟩ = some (.int .i64 (c.dq)) ∧ w'.cell? ⟨w2.heap.size, 0, none⟩ = some (.int .i64 (c.a)) ∧ w'.cell? ⟨w2.heap.size, 1, none⟩ = some (.int .i64 (c.b)) ∧ w'.cell? ⟨w2.heap.size, 2, none⟩ = some (.int .i64 (c.c)) ∧ w'.cell? ⟨w2.heap.size, 3, none⟩ = some (.int .i64 (c.d)) ∧ w'.cell? ⟨w2.heap.size, 4, none⟩ = some (.int .i64 (c.e)) ∧ w'.cell? ⟨w2.heap.size, 5, none⟩ = some (.int .i64 (c.mr)) ∧ w'.cell? ⟨w2.heap.size, 6, none⟩ = some (.int .i64 (c.mu)) ∧ w'.cell? ⟨w2.heap.size, 7, none⟩ = some (.int .i64 (c.dq)) ∧ w'.cell? ⟨w2.heap.size, 8, none⟩ = some (.int .i64 (c.ch)) ∧ w'.cell? ⟨w2.heap.size, 9, none⟩ = some (.int .i64 (c.bf)) ∧ w'.cell? ⟨w2.heap.size, 10, none⟩ = some (.int .i64 (c.rt)) ∧ w'.cell? ⟨w2.heap.size, 11, none⟩ = some (.int .i64 (c.sw))) ∧ (w'.frozen? ⟨w2.heap.size, 32, none⟩ = false ∧ w'.frozen? ⟨w2.heap.size, 33, none⟩ = false ∧ w'.frozen? ⟨w2.heap.size, 34, none⟩ = false ∧ w'.frozen? ⟨w2.heap.size, 35, none⟩ = false ∧ w'.frozen? ⟨w2.heap.size, 36, none⟩ = false) ∧ KX w w2.heap.size [c.a, c.b, c.c, c.d, c.e, c.mr, c.mu, c.dq, c.ch, c.bf, c.rt, c.sw, 0, 0, 1, 6, 0, 6, 0, c.mu, 1, 0, at2 c, 0, 5, 1, 0, at3 c, 0, c.mr, 2, c.dq, 0, 0, 0, 0, 0, 0, 0, 0, 0, 0, 0, 0, 0, 0, 0, 0, 0, 0, 0, 0, 0, 0, 0, 0, 0, 0, 0, 0, 0, 0] 32 w')
    (first | exact mk4 _ HX4 | exact mk4 _ (by assumption) | exact mk4 _ (KX.set5 (And.right (And.right (by assumption))) (by decide) rfl rfl rfl rfl) | fail)
    (first
      | (go_at_call 43; (with_reducible refine (packets_any H.out _).mono ?_); rintro r w8 ⟨rfl, hb8⟩; have hx4 := KX.more (by assumption) hb8)
      | (go_at_call 42; (with_reducible refine (then_is _ _ _ _ _ O27.out X5 _).mono ?_); rintro r w9 ⟨rfl, hb9⟩; have hx5 := KX.more (by assumption) hb9; obtain ⟨v32, s32⟩ := hx5.s 32 (by decide); obtain ⟨v33, s33⟩ := hx5.s 33 (by decide); obtain ⟨v34, s34⟩ := hx5.s 34 (by decide); obtain ⟨v35, s35⟩ := hx5.s 35 (by decide); obtain ⟨v36, s36⟩ := hx5.s 36 (by decide))
      | fail)
  obtain ⟨W5, hW5, hk⟩ : ∃ W', W' = _ ∧ KM w w2.heap.size [c.a, c.b, c.c, c.d, c.e, c.mr, c.mu, c.dq, c.ch, c.bf, c.rt, c.sw, 0, 0, 1, 6, 0, 6, 0, c.mu, 1, 0, at2 c, 0, 5, 1, 0, at3 c, 0, c.mr, 2, c.dq, at4 c, 1, packN c, 2, 4, 0, 0, 0, 0, 0, 0, 0, 0, 0, 0, 0, 0, 0, 0, 0, 0, 0, 0, 0, 0, 0, 0, 0, 0, 0] W' := ⟨_, rfl, KX.fill (x0 := at4 c) (x1 := 1) (x2 := packN c) (x3 := 2) (x4 := 4) 32 33 34 35 36 hx5 (by decide) rfl rfl rfl rfl (fun i hi hx => by exact same4 _ i hi hx) rfl rfl rfl rfl rfl⟩
  rw [← hW5]
  clear hW5
  clear mk4 v32 s32 v33 s33 v34 s34 v35 s35 v36 s36
  have c32 : W5.cell? ⟨w2.heap.size, 32, none⟩ = some (.int .i64 (at4 c)) := hk.c 32 (by decide)
  have c33 : W5.cell? ⟨w2.heap.size, 33, none⟩ = some (.int .i64 (1)) := hk.c 33 (by decide)
  have c34 : W5.cell? ⟨w2.heap.size, 34, none⟩ = some (.int .i64 (packN c)) := hk.c 34 (by decide)
  have c35 : W5.cell? ⟨w2.heap.size, 35, none⟩ = some (.int .i64 (2)) := hk.c 35 (by decide)
  have c36 : W5.cell? ⟨w2.heap.size, 36, none⟩ = some (.int .i64 (4)) := hk.c 36 (by decide)
  have c0 : W5.cell? ⟨w2.heap.size, 0, none⟩ = some (.int .i64 (c.a)) := hk.c 0 (by decide)
  have c1 : W5.cell? ⟨w2.heap.size, 1, none⟩ = some (.int .i64 (c.b)) := hk.c 1 (by decide)
  have c2 : W5.cell? ⟨w2.heap.size, 2, none⟩ = some (.int .i64 (c.c)) := hk.c 2 (by decide)
  have c3 : W5.cell? ⟨w2.heap.size, 3, none⟩ = some (.int .i64 (c.d)) := hk.c 3 (by decide)
  have c4 : W5.cell? ⟨w2.heap.size, 4, none⟩ = some (.int .i64 (c.e)) := hk.c 4 (by decide)
  have hlt5 := hk.lt
  obtain ⟨a0, a1, b0, b1, c0', c1', d0, d1, e0, e1, s0, k0, k1, u0, u1, q0, q1, h0, h1, f0, f1, r0, r1, w0, w1⟩ := h
  go_wp2_with (fail)
  have hne : w2.heap.size ≠ W5.heap.size := by omega
  have hRw : w.heap.size ≤ W5.heap.size := hk.bel.size
  obtain ⟨W6, hW6, hk, hr⟩ : ∃ W', W' = W5.alloc (.cells #[.int .i64 (at4 c), .int .i64 (1), .int .i64 (packN c), .int .i64 (2), .int .i64 (4)] 76) ∧ KM w w2.heap.size [c.a, c.b, c.c, c.d, c.e, c.mr, c.mu, c.dq, c.ch, c.bf, c.rt, c.sw, 0, 0, 1, 6, 0, 6, 0, c.mu, 1, 0, at2 c, 0, 5, 1, 0, at3 c, 0, c.mr, 2, c.dq, at4 c, 1, packN c, 2, 4, 0, 0, 0, 0, 0, 0, 0, 0, 0, 0, 0, 0, 0, 0, 0, 0, 0, 0, 0, 0, 0, 0, 0, 0, 0] W' ∧ KRow W5.heap.size (at4 c) (1) (packN c) (2) (4) W' := ⟨_, rfl, hk.alloc _, KRow.start _ _ _ _ _ _ _⟩
  rw [← hW6]
  clear hW6 c32 c33 c34 c35 c36 c0 c1 c2 c3 c4
  refine wp_loop_rounds 6 ?_
  have Y0 := X6
  have P0 := Lib.hid (ok32 H.out)
  rw [rounds_succ]; go_wp2_with (fail)
  obtain ⟨rl, e0, e1, e2, e3, e4, g0, g1, g2, g3, g4⟩ := hr
  go_still_tail 5, (by kernel_rfl)
  still_call (slots_lit 0 1 rfl _)
  repeat still_step
  refine wpStill_nil ?_
  change wpList _ _ _ _ _ W6.drew
  go_wp2_with (first
    | (go_at_call 42; (with_reducible refine (then_is _ _ _ _ _ P0.out Y0 _).mono ?_); rintro r w20 ⟨rfl, hb20⟩; have hk := hk.drew.step hb20; have hr := (KRow.mk rl e0 e1 e2 e3 e4 g0 g1 g2 g3 g4).drew.step hb20; clear rl e0 e1 e2 e3 e4 g0 g1 g2 g3 g4; obtain ⟨rl, e0, e1, e2, e3, e4, g0, g1, g2, g3, g4⟩ := hr)
    | fail)
  obtain ⟨W7, hW, hk, hr⟩ : ∃ W', W' = _ ∧ KM w w2.heap.size [c.a, c.b, c.c, c.d, c.e, c.mr, c.mu, c.dq, c.ch, c.bf, c.rt, c.sw, 0, 0, 1, 6, 0, 6, 0, c.mu, 1, 0, at2 c, 0, 5, 1, 0, at3 c, 0, c.mr, 2, c.dq, at4 c, 1, packN c, 2, 4, 0, 0, 0, 0, 0, 0, 0, 0, 0, 0, 0, 0, 0, 0, 0, 0, 0, 0, 0, 0, 0, 0, 0, 0, 0] W' ∧ KRow W5.heap.size (at50 c) (1) (c.a) (4) (1) W' := ⟨_, rfl, hk.off5 hne hRw, KRow.set5 (KRow.mk rl e0 e1 e2 e3 e4 g0 g1 g2 g3 g4) (at50 c) (1) (c.a) (4) (1)⟩
  rw [← hW]
  clear hW rl e0 e1 e2 e3 e4 g0 g1 g2 g3 g4
  have hx := KM.x hk 37
  obtain ⟨rl, e0, e1, e2, e3, e4, g0, g1, g2, g3, g4⟩ := hr
  obtain ⟨v37, s37⟩ := hx.s 37 (by decide)
  have f37 := hk.f 37 (by decide)
  obtain ⟨v38, s38⟩ := hx.s 38 (by decide)
  have f38 := hk.f 38 (by decide)
  obtain ⟨v39, s39⟩ := hx.s 39 (by decide)
  have f39 := hk.f 39 (by decide)
  obtain ⟨v40, s40⟩ := hx.s 40 (by decide)
  have f40 := hk.f 40 (by decide)
  obtain ⟨v41, s41⟩ := hx.s 41 (by decide)
  have f41 := hk.f 41 (by decide)
  go_region
  obtain ⟨W8, hW, hk, hr⟩ : ∃ W', W' = World.drew _ ∧ KM w w2.heap.size [c.a, c.b, c.c, c.d, c.e, c.mr, c.mu, c.dq, c.ch, c.bf, c.rt, c.sw, 0, 0, 1, 6, 0, 6, 0, c.mu, 1, 0, at2 c, 0, 5, 1, 0, at3 c, 0, c.mr, 2, c.dq, at4 c, 1, packN c, 2, 4, at50 c, 1, c.a, 4, 1, 0, 0, 0, 0, 0, 0, 0, 0, 0, 0, 0, 0, 0, 0, 0, 0, 0, 0, 0, 0] W' ∧ KRow W5.heap.size (at50 c) (1) (c.a) (4) (1) W' := ⟨_, rfl, (KX.fill (x0 := at50 c) (x1 := 1) (x2 := c.a) (x3 := 4) (x4 := 1) 37 38 39 40 41 hx (by decide) rfl rfl rfl rfl (fun i hi hx => by exact same5 _ i hi hx) rfl rfl rfl rfl rfl).drew, ((KRow.mk rl e0 e1 e2 e3 e4 g0 g1 g2 g3 g4).off5 hne.symm).drew⟩
  rw [← hW]
  clear hW hx rl e0 e1 e2 e3 e4 g0 g1 g2 g3 g4 v37 s37 f37 v38 s38 f38 v39 s39 f39 v40 s40 f40 v41 s41 f41
  go_wp2_with (fail)
  have Y1 : endL (at50 c) c.a 4 1 = at51 c := by simp [endL, at51]
  have P1 := Lib.hid (ok37 H.out)
  rw [rounds_succ]; go_wp2_with (fail)
  obtain ⟨rl, e0, e1, e2, e3, e4, g0, g1, g2, g3, g4⟩ := hr
  go_still_tail 5, (by kernel_rfl)
  still_call (slots_lit 1 2 rfl _)
  repeat still_step
  refine wpStill_nil ?_
  change wpList _ _ _ _ _ W8.drew
  go_wp2_with (first
    | (go_at_call 42; (with_reducible refine (then_is _ _ _ _ _ P1.out Y1 _).mono ?_); rintro r w21 ⟨rfl, hb21⟩; have hk := hk.drew.step hb21; have hr := (KRow.mk rl e0 e1 e2 e3 e4 g0 g1 g2 g3 g4).drew.step hb21; clear rl e0 e1 e2 e3 e4 g0 g1 g2 g3 g4; obtain ⟨rl, e0, e1, e2, e3, e4, g0, g1, g2, g3, g4⟩ := hr)
    | fail)
  obtain ⟨W9, hW, hk, hr⟩ : ∃ W', W' = _ ∧ KM w w2.heap.size [c.a, c.b, c.c, c.d, c.e, c.mr, c.mu, c.dq, c.ch, c.bf, c.rt, c.sw, 0, 0, 1, 6, 0, 6, 0, c.mu, 1, 0, at2 c, 0, 5, 1, 0, at3 c, 0, c.mr, 2, c.dq, at4 c, 1, packN c, 2, 4, at50 c, 1, c.a, 4, 1, 0, 0, 0, 0, 0, 0, 0, 0, 0, 0, 0, 0, 0, 0, 0, 0, 0, 0, 0, 0] W' ∧ KRow W5.heap.size (at51 c) (1 + c.a) (c.b) (4) (2) W' := ⟨_, rfl, hk.off5 hne hRw, KRow.set5 (KRow.mk rl e0 e1 e2 e3 e4 g0 g1 g2 g3 g4) (at51 c) (1 + c.a) (c.b) (4) (2)⟩
  rw [← hW]
  clear hW rl e0 e1 e2 e3 e4 g0 g1 g2 g3 g4
  have hx := KM.x hk 42
  obtain ⟨rl, e0, e1, e2, e3, e4, g0, g1, g2, g3, g4⟩ := hr
  obtain ⟨v42, s42⟩ := hx.s 42 (by decide)
  have f42 := hk.f 42 (by decide)
  obtain ⟨v43, s43⟩ := hx.s 43 (by decide)
  have f43 := hk.f 43 (by decide)
  obtain ⟨v44, s44⟩ := hx.s 44 (by decide)
  have f44 := hk.f 44 (by decide)
  obtain ⟨v45, s45⟩ := hx.s 45 (by decide)
  have f45 := hk.f 45 (by decide)
  obtain ⟨v46, s46⟩ := hx.s 46 (by decide)
  have f46 := hk.f 46 (by decide)
  go_region
  obtain ⟨W10, hW, hk, hr⟩ : ∃ W', W' = World.drew _ ∧ KM w w2.heap.size [c.a, c.b, c.c, c.d, c.e, c.mr, c.mu, c.dq, c.ch, c.bf, c.rt, c.sw, 0, 0, 1, 6, 0, 6, 0, c.mu, 1, 0, at2 c, 0, 5, 1, 0, at3 c, 0, c.mr, 2, c.dq, at4 c, 1, packN c, 2, 4, at50 c, 1, c.a, 4, 1, at51 c, 1 + c.a, c.b, 4, 2, 0, 0, 0, 0, 0, 0, 0, 0, 0, 0, 0, 0, 0, 0, 0] W' ∧ KRow W5.heap.size (at51 c) (1 + c.a) (c.b) (4) (2) W' := ⟨_, rfl, (KX.fill (x0 := at51 c) (x1 := 1 + c.a) (x2 := c.b) (x3 := 4) (x4 := 2) 42 43 44 45 46 hx (by decide) rfl rfl rfl rfl (fun i hi hx => by exact same6 _ i hi hx) rfl rfl rfl rfl rfl).drew, ((KRow.mk rl e0 e1 e2 e3 e4 g0 g1 g2 g3 g4).off5 hne.symm).drew⟩
  rw [← hW]
  clear hW hx rl e0 e1 e2 e3 e4 g0 g1 g2 g3 g4 v42 s42 f42 v43 s43 f43 v44 s44 f44 v45 s45 f45 v46 s46 f46
  go_wp2_with (fail)
  have Y2 : endL (at51 c) c.b 4 2 = at52 c := by simp [endL, at52]
  have P2 := Lib.hid (ok42 H.out)
  rw [rounds_succ]; go_wp2_with (fail)
  obtain ⟨rl, e0, e1, e2, e3, e4, g0, g1, g2, g3, g4⟩ := hr
  go_still_tail 5, (by kernel_rfl)
  still_call (slots_lit 2 4 rfl _)
  repeat still_step
  refine wpStill_nil ?_
  change wpList _ _ _ _ _ W10.drew
  go_wp2_with (first
    | (go_at_call 42; (with_reducible refine (then_is _ _ _ _ _ P2.out Y2 _).mono ?_); rintro r w22 ⟨rfl, hb22⟩; have hk := hk.drew.step hb22; have hr := (KRow.mk rl e0 e1 e2 e3 e4 g0 g1 g2 g3 g4).drew.step hb22; clear rl e0 e1 e2 e3 e4 g0 g1 g2 g3 g4; obtain ⟨rl, e0, e1, e2, e3, e4, g0, g1, g2, g3, g4⟩ := hr)
    | fail)
  obtain ⟨W11, hW, hk, hr⟩ : ∃ W', W' = _ ∧ KM w w2.heap.size [c.a, c.b, c.c, c.d, c.e, c.mr, c.mu, c.dq, c.ch, c.bf, c.rt, c.sw, 0, 0, 1, 6, 0, 6, 0, c.mu, 1, 0, at2 c, 0, 5, 1, 0, at3 c, 0, c.mr, 2, c.dq, at4 c, 1, packN c, 2, 4, at50 c, 1, c.a, 4, 1, at51 c, 1 + c.a, c.b, 4, 2, 0, 0, 0, 0, 0, 0, 0, 0, 0, 0, 0, 0, 0, 0, 0] W' ∧ KRow W5.heap.size (at52 c) (1 + c.a + c.b) (c.c) (4) (4) W' := ⟨_, rfl, hk.off5 hne hRw, KRow.set5 (KRow.mk rl e0 e1 e2 e3 e4 g0 g1 g2 g3 g4) (at52 c) (1 + c.a + c.b) (c.c) (4) (4)⟩
  rw [← hW]
  clear hW rl e0 e1 e2 e3 e4 g0 g1 g2 g3 g4
  have hx := KM.x hk 47
  obtain ⟨rl, e0, e1, e2, e3, e4, g0, g1, g2, g3, g4⟩ := hr
  obtain ⟨v47, s47⟩ := hx.s 47 (by decide)
  have f47 := hk.f 47 (by decide)
  obtain ⟨v48, s48⟩ := hx.s 48 (by decide)
  have f48 := hk.f 48 (by decide)
  obtain ⟨v49, s49⟩ := hx.s 49 (by decide)
  have f49 := hk.f 49 (by decide)
  obtain ⟨v50, s50⟩ := hx.s 50 (by decide)
  have f50 := hk.f 50 (by decide)
  obtain ⟨v51, s51⟩ := hx.s 51 (by decide)
  have f51 := hk.f 51 (by decide)
  go_region
  obtain ⟨W12, hW, hk, hr⟩ : ∃ W', W' = World.drew _ ∧ KM w w2.heap.size [c.a, c.b, c.c, c.d, c.e, c.mr, c.mu, c.dq, c.ch, c.bf, c.rt, c.sw, 0, 0, 1, 6, 0, 6, 0, c.mu, 1, 0, at2 c, 0, 5, 1, 0, at3 c, 0, c.mr, 2, c.dq, at4 c, 1, packN c, 2, 4, at50 c, 1, c.a, 4, 1, at51 c, 1 + c.a, c.b, 4, 2, at52 c, 1 + c.a + c.b, c.c, 4, 4, 0, 0, 0, 0, 0, 0, 0, 0, 0, 0] W' ∧ KRow W5.heap.size (at52 c) (1 + c.a + c.b) (c.c) (4) (4) W' := ⟨_, rfl, (KX.fill (x0 := at52 c) (x1 := 1 + c.a + c.b) (x2 := c.c) (x3 := 4) (x4 := 4) 47 48 49 50 51 hx (by decide) rfl rfl rfl rfl (fun i hi hx => by exact same7 _ i hi hx) rfl rfl rfl rfl rfl).drew, ((KRow.mk rl e0 e1 e2 e3 e4 g0 g1 g2 g3 g4).off5 hne.symm).drew⟩
  rw [← hW]
  clear hW hx rl e0 e1 e2 e3 e4 g0 g1 g2 g3 g4 v47 s47 f47 v48 s48 f48 v49 s49 f49 v50 s50 f50 v51 s51 f51
  go_wp2_with (fail)
  have Y3 : endL (at52 c) c.c 4 4 = at53 c := by simp [endL, at53]
  have P3 := Lib.hid (ok47 H.out)
  rw [rounds_succ]; go_wp2_with (fail)
  obtain ⟨rl, e0, e1, e2, e3, e4, g0, g1, g2, g3, g4⟩ := hr
  go_still_tail 5, (by kernel_rfl)
  still_call (slots_lit 3 8 rfl _)
  repeat still_step
  refine wpStill_nil ?_
  change wpList _ _ _ _ _ W12.drew
  go_wp2_with (first
    | (go_at_call 42; (with_reducible refine (then_is _ _ _ _ _ P3.out Y3 _).mono ?_); rintro r w23 ⟨rfl, hb23⟩; have hk := hk.drew.step hb23; have hr := (KRow.mk rl e0 e1 e2 e3 e4 g0 g1 g2 g3 g4).drew.step hb23; clear rl e0 e1 e2 e3 e4 g0 g1 g2 g3 g4; obtain ⟨rl, e0, e1, e2, e3, e4, g0, g1, g2, g3, g4⟩ := hr)
    | fail)
  obtain ⟨W13, hW, hk, hr⟩ : ∃ W', W' = _ ∧ KM w w2.heap.size [c.a, c.b, c.c, c.d, c.e, c.mr, c.mu, c.dq, c.ch, c.bf, c.rt, c.sw, 0, 0, 1, 6, 0, 6, 0, c.mu, 1, 0, at2 c, 0, 5, 1, 0, at3 c, 0, c.mr, 2, c.dq, at4 c, 1, packN c, 2, 4, at50 c, 1, c.a, 4, 1, at51 c, 1 + c.a, c.b, 4, 2, at52 c, 1 + c.a + c.b, c.c, 4, 4, 0, 0, 0, 0, 0, 0, 0, 0, 0, 0] W' ∧ KRow W5.heap.size (at53 c) (1 + c.a + c.b + c.c) (c.d) (4) (8) W' := ⟨_, rfl, hk.off5 hne hRw, KRow.set5 (KRow.mk rl e0 e1 e2 e3 e4 g0 g1 g2 g3 g4) (at53 c) (1 + c.a + c.b + c.c) (c.d) (4) (8)⟩
  rw [← hW]
  clear hW rl e0 e1 e2 e3 e4 g0 g1 g2 g3 g4
  have hx := KM.x hk 52
  obtain ⟨rl, e0, e1, e2, e3, e4, g0, g1, g2, g3, g4⟩ := hr
  obtain ⟨v52, s52⟩ := hx.s 52 (by decide)
  have f52 := hk.f 52 (by decide)
  obtain ⟨v53, s53⟩ := hx.s 53 (by decide)
  have f53 := hk.f 53 (by decide)
  obtain ⟨v54, s54⟩ := hx.s 54 (by decide)
  have f54 := hk.f 54 (by decide)
  obtain ⟨v55, s55⟩ := hx.s 55 (by decide)
  have f55 := hk.f 55 (by decide)
  obtain ⟨v56, s56⟩ := hx.s 56 (by decide)
  have f56 := hk.f 56 (by decide)
  go_region
  obtain ⟨W14, hW, hk, hr⟩ : ∃ W', W' = World.drew _ ∧ KM w w2.heap.size [c.a, c.b, c.c, c.d, c.e, c.mr, c.mu, c.dq, c.ch, c.bf, c.rt, c.sw, 0, 0, 1, 6, 0, 6, 0, c.mu, 1, 0, at2 c, 0, 5, 1, 0, at3 c, 0, c.mr, 2, c.dq, at4 c, 1, packN c, 2, 4, at50 c, 1, c.a, 4, 1, at51 c, 1 + c.a, c.b, 4, 2, at52 c, 1 + c.a + c.b, c.c, 4, 4, at53 c, 1 + c.a + c.b + c.c, c.d, 4, 8, 0, 0, 0, 0, 0] W' ∧ KRow W5.heap.size (at53 c) (1 + c.a + c.b + c.c) (c.d) (4) (8) W' := ⟨_, rfl, (KX.fill (x0 := at53 c) (x1 := 1 + c.a + c.b + c.c) (x2 := c.d) (x3 := 4) (x4 := 8) 52 53 54 55 56 hx (by decide) rfl rfl rfl rfl (fun i hi hx => by exact same8 _ i hi hx) rfl rfl rfl rfl rfl).drew, ((KRow.mk rl e0 e1 e2 e3 e4 g0 g1 g2 g3 g4).off5 hne.symm).drew⟩
  rw [← hW]
  clear hW hx rl e0 e1 e2 e3 e4 g0 g1 g2 g3 g4 v52 s52 f52 v53 s53 f53 v54 s54 f54 v55 s55 f55 v56 s56 f56
  go_wp2_with (fail)
  have Y4 : endL (at53 c) c.d 4 8 = at54 c := by simp [endL, at54]
  have P4 := Lib.hid (ok52 H.out)
  rw [rounds_succ]; go_wp2_with (fail)
  obtain ⟨rl, e0, e1, e2, e3, e4, g0, g1, g2, g3, g4⟩ := hr
  go_still_tail 5, (by kernel_rfl)
  still_call (slots_lit 4 16 rfl _)
  repeat still_step
  refine wpStill_nil ?_
  change wpList _ _ _ _ _ W14.drew
  go_wp2_with (first
    | (go_at_call 42; (with_reducible refine (then_is _ _ _ _ _ P4.out Y4 _).mono ?_); rintro r w24 ⟨rfl, hb24⟩; have hk := hk.drew.step hb24; have hr := (KRow.mk rl e0 e1 e2 e3 e4 g0 g1 g2 g3 g4).drew.step hb24; clear rl e0 e1 e2 e3 e4 g0 g1 g2 g3 g4; obtain ⟨rl, e0, e1, e2, e3, e4, g0, g1, g2, g3, g4⟩ := hr)
    | fail)
  obtain ⟨W15, hW, hk, hr⟩ : ∃ W', W' = _ ∧ KM w w2.heap.size [c.a, c.b, c.c, c.d, c.e, c.mr, c.mu, c.dq, c.ch, c.bf, c.rt, c.sw, 0, 0, 1, 6, 0, 6, 0, c.mu, 1, 0, at2 c, 0, 5, 1, 0, at3 c, 0, c.mr, 2, c.dq, at4 c, 1, packN c, 2, 4, at50 c, 1, c.a, 4, 1, at51 c, 1 + c.a, c.b, 4, 2, at52 c, 1 + c.a + c.b, c.c, 4, 4, at53 c, 1 + c.a + c.b + c.c, c.d, 4, 8, 0, 0, 0, 0, 0] W' ∧ KRow W5.heap.size (at54 c) (1 + c.a + c.b + c.c + c.d) (c.e) (4) (16) W' := ⟨_, rfl, hk.off5 hne hRw, KRow.set5 (KRow.mk rl e0 e1 e2 e3 e4 g0 g1 g2 g3 g4) (at54 c) (1 + c.a + c.b + c.c + c.d) (c.e) (4) (16)⟩
  rw [← hW]
  clear hW rl e0 e1 e2 e3 e4 g0 g1 g2 g3 g4
  have hx := KM.x hk 57
  obtain ⟨rl, e0, e1, e2, e3, e4, g0, g1, g2, g3, g4⟩ := hr
  obtain ⟨v57, s57⟩ := hx.s 57 (by decide)
  have f57 := hk.f 57 (by decide)
  obtain ⟨v58, s58⟩ := hx.s 58 (by decide)
  have f58 := hk.f 58 (by decide)
  obtain ⟨v59, s59⟩ := hx.s 59 (by decide)
  have f59 := hk.f 59 (by decide)
  obtain ⟨v60, s60⟩ := hx.s 60 (by decide)
  have f60 := hk.f 60 (by decide)
  obtain ⟨v61, s61⟩ := hx.s 61 (by decide)
  have f61 := hk.f 61 (by decide)
  go_region
  obtain ⟨W16, hW, hk, hr⟩ : ∃ W', W' = World.drew _ ∧ KM w w2.heap.size [c.a, c.b, c.c, c.d, c.e, c.mr, c.mu, c.dq, c.ch, c.bf, c.rt, c.sw, 0, 0, 1, 6, 0, 6, 0, c.mu, 1, 0, at2 c, 0, 5, 1, 0, at3 c, 0, c.mr, 2, c.dq, at4 c, 1, packN c, 2, 4, at50 c, 1, c.a, 4, 1, at51 c, 1 + c.a, c.b, 4, 2, at52 c, 1 + c.a + c.b, c.c, 4, 4, at53 c, 1 + c.a + c.b + c.c, c.d, 4, 8, at54 c, 1 + c.a + c.b + c.c + c.d, c.e, 4, 16] W' ∧ KRow W5.heap.size (at54 c) (1 + c.a + c.b + c.c + c.d) (c.e) (4) (16) W' := ⟨_, rfl, (KX.fill (x0 := at54 c) (x1 := 1 + c.a + c.b + c.c + c.d) (x2 := c.e) (x3 := 4) (x4 := 16) 57 58 59 60 61 hx (by decide) rfl rfl rfl rfl (fun i hi hx => by exact same9 _ i hi hx) rfl rfl rfl rfl rfl).drew, ((KRow.mk rl e0 e1 e2 e3 e4 g0 g1 g2 g3 g4).off5 hne.symm).drew⟩
  rw [← hW]
  clear hW hx rl e0 e1 e2 e3 e4 g0 g1 g2 g3 g4 v57 s57 f57 v58 s58 f58 v59 s59 f59 v60 s60 f60 v61 s61 f61
  go_wp2_with (fail)
  rw [rounds_succ]; go_wp2_with (fail)
  go_ret2
  exact ⟨_, rfl, ⟨hk.lt, hk.c⟩, hk.bel⟩
end Go.Proofs.YthoiaffeenhfgaaGreat.Lay
