/- The document's graph: a new one; walked. -/
import Derived.Test.YtjnkcomedcbenaaGWrite
namespace Go.Proofs.Ytjnkcomedcbenaa
open Go.RowKit
set_option linter.unusedVariables false

def Mid (w : World) (M b : Nat) : Prop := w.heap.size + 2 ≤ b ∧ b < M
/-- A graph that is being made: the answer's block, the graph's own, its list of roots so far, the list that each mutator gets, its nodes. -/
structure Ns (w : World) (M : Nat) (wr : World) (v : Value) (vs : List Value) (lv : Value) (lz : List Int) (B : Option Addr) (nn d : Nat) (ns : List (List Int)) (mo : Int) : Prop where
  hM : w.heap.size + 2 ≤ M
  sz : M ≤ wr.heap.size
  bel : Below w.heap.size w wr
  r0 : wr.cell? ⟨w.heap.size, 0, none⟩ = some (.slice none 0 0)
  r1 : wr.cell? ⟨w.heap.size, 1, none⟩ = some (.slice none 0 0)
  r2 : wr.cell? ⟨w.heap.size, 2, none⟩ = some (.int .i64 0)
  f : ∀ j, wr.frozen? ⟨w.heap.size, j, none⟩ = false
  g0 : wr.cell? ⟨w.heap.size + 1, 0, none⟩ = some v
  g1 : wr.cell? ⟨w.heap.size + 1, 1, none⟩ = some (.slice B nn d)
  g2 : wr.cell? ⟨w.heap.size + 1, 2, none⟩ = some (.int .i64 mo)
  fg : ∀ j, wr.frozen? ⟨w.heap.size + 1, j, none⟩ = false
  own : wr.ownsRow M 43 1 v vs.length vs
  lrow : RowV (Mid w M) wr lv lz
  nodes : RowsAt (Mid w M) wr B nn d ns

abbrev nw2 (w : World) (mo : Int) : World := (w.alloc (.cells #[.slice none 0 0, .slice none 0 0, .int .i64 0] 28)).alloc (.cells #[.slice none 0 0, .slice none 0 0, .int .i64 mo] 28)
theorem rowsAt_nil (P : Nat → Prop) (w : World) : RowsAt P w none 0 0 [] := ⟨rfl, Nat.le_refl _, Nat.zero_le _, fun _ => rfl, [], ⟨rfl, fun j h => by simp at h⟩, fun h => by simp at h⟩
section
variable {w wr w' : World} {M : Nat} {v lv : Value} {vs : List Value} {lz : List Int} {B : Option Addr} {nn d : Nat} {ns : List (List Int)} {mo : Int}
theorem Ns.start (w : World) (mo : Int) : Ns w (w.heap.size + 2) (nw2 w mo) (.slice none 0 0) [] (.slice none 0 0) [] none 0 0 [] mo := by
  have hb : Below w.heap.size w (nw2 w mo) := below_alloc0 (below_alloc0 (Below.refl _ _) _) _
  have f1 : ∀ j, (nw2 w mo).frozen? ⟨w.heap.size + 1, j, none⟩ = false := fun j => by
    have := World.frozen?_alloc_new (w.alloc (.cells #[.slice none 0 0, .slice none 0 0, .int .i64 0] 28)) #[.slice none 0 0, .slice none 0 0, .int .i64 mo] 28 j
    rw [show (w.alloc (.cells #[.slice none 0 0, .slice none 0 0, .int .i64 0] 28)).heap.size = w.heap.size + 1 by simp] at this
    exact this
  have f0 : ∀ j, (nw2 w mo).frozen? ⟨w.heap.size, j, none⟩ = false := fun j => by
    rw [World.frozen?_alloc_old _ _ _ (by simp)]
    exact World.frozen?_alloc_new w #[.slice none 0 0, .slice none 0 0, .int .i64 0] 28 j
  refine ⟨Nat.le_refl _, by simp, hb, ?_, ?_, ?_, f0, ?_, ?_, ?_, f1, World.ownsRow_nil _ _ _ _, RowV.nil _ _, rowsAt_nil _ _⟩
  all_goals first
    | (rw [World.cell?_alloc_lt _ _ _ (by simp), World.cell?_alloc_at _ _ _ _ rfl]; rfl)
    | (rw [World.cell?_alloc_at _ _ _ _ (by simp)]; rfl)
theorem Ns.ownV (h : Ns w M wr v vs lv lz B nn d ns mo) : OwnV 43 M wr wr v vs := ⟨h.own, Below.refl _ _⟩
/-- All below M is as it was. -/
theorem Ns.step (h : Ns w M wr v vs lv lz B nn d ns mo) (hb : Below M wr w') (hv : w'.ownsRow M 43 1 v vs.length vs) : Ns w M w' v vs lv lz B nn d ns mo := by
  have hM := h.hM
  have c : ∀ k j, k < M → w'.cell? ⟨k, j, none⟩ = wr.cell? ⟨k, j, none⟩ := fun k j hk => hb.cell (p := ⟨k, j, none⟩) hk
  have f : ∀ k j, k < M → w'.frozen? ⟨k, j, none⟩ = wr.frozen? ⟨k, j, none⟩ := fun k j hk => hb.frozen (p := ⟨k, j, none⟩) hk
  have hk : Kept (Mid w M) wr w' := ⟨hb.size, fun k _ hp => hb.block k hp.2⟩
  exact ⟨hM, Nat.le_trans h.sz hb.size, h.bel.trans (hb.mono (by omega)), (c _ _ (by omega)).trans h.r0, (c _ _ (by omega)).trans h.r1, (c _ _ (by omega)).trans h.r2, fun j => (f _ _ (by omega)).trans (h.f j),
    (c _ _ (by omega)).trans h.g0, (c _ _ (by omega)).trans h.g1, (c _ _ (by omega)).trans h.g2, fun j => (f _ _ (by omega)).trans (h.fg j), hv, h.lrow.kept hk, h.nodes.kept hk⟩
/-- A longer list of roots, stored. -/
theorem Ns.app (h : Ns w M wr v vs lv lz B nn d ns mo) {v2 : Value} {vs2 : List Value} {w2 : World} (hb : Below M wr w2) (ho : w2.ownsRow M 43 1 v2 vs2.length vs2) : Ns w M (w2.setCell ⟨w.heap.size + 1, 0, none⟩ v2) v2 vs2 lv lz B nn d ns mo := by
  have hM := h.hM
  have c : ∀ k j, k < M → w2.cell? ⟨k, j, none⟩ = wr.cell? ⟨k, j, none⟩ := fun k j hk => hb.cell (p := ⟨k, j, none⟩) hk
  have f : ∀ k j, k < M → w2.frozen? ⟨k, j, none⟩ = wr.frozen? ⟨k, j, none⟩ := fun k j hk => hb.frozen (p := ⟨k, j, none⟩) hk
  have hk : Kept (Mid w M) wr (w2.setCell ⟨w.heap.size + 1, 0, none⟩ v2) := (⟨hb.size, fun k _ hp => hb.block k hp.2⟩ : Kept (Mid w M) wr w2).set (fun e => by have := e.1; omega) _ _
  have n : ∀ k j, (k ≠ w.heap.size + 1 ∨ j ≠ 0) → (w2.setCell ⟨w.heap.size + 1, 0, none⟩ v2).cell? ⟨k, j, none⟩ = w2.cell? ⟨k, j, none⟩ := fun k j hne => World.cell?_setCell_other _ _ _ _ (by intro e; injection e with e1 e2; omega)
  exact ⟨hM, Nat.le_trans h.sz (by simpa using hb.size), (h.bel.trans (hb.mono (by omega))).setCell (by simp) _,
    (n _ _ (by omega)).trans ((c _ _ (by omega)).trans h.r0), (n _ _ (by omega)).trans ((c _ _ (by omega)).trans h.r1), (n _ _ (by omega)).trans ((c _ _ (by omega)).trans h.r2), fun j => by rw [World.frozen?_setCell]; exact (f _ _ (by omega)).trans (h.f j),
    World.cell?_setCell_same _ _ _ ((c _ _ (by omega)).trans h.g0), (n _ _ (by omega)).trans ((c _ _ (by omega)).trans h.g1), (n _ _ (by omega)).trans ((c _ _ (by omega)).trans h.g2), fun j => by rw [World.frozen?_setCell]; exact (f _ _ (by omega)).trans (h.fg j),
    ownsRow_setCell_below ho (by show w.heap.size + 1 < M; omega) _, h.lrow.kept hk, h.nodes.kept hk⟩
end

section
variable {w wr w' : World} {M : Nat} {v lv : Value} {vs : List Value} {lz : List Int} {B B0 : Option Addr} {nn d n0 d0 : Nat} {ns ns0 : List (List Int)} {mo : Int}
theorem Mid.up {w : World} {M M2 b : Nat} (h : Mid w M b) (hM : M ≤ M2) : Mid w M2 b := ⟨h.1, Nat.lt_of_lt_of_le h.2 hM⟩
/-- Its nodes, stored. -/
theorem Ns.store (h : Ns w M wr (.slice none 0 0) [] (.slice none 0 0) [] B0 n0 d0 ns0 mo) (hr : RowsAt (w.heap.size + 2 ≤ ·) wr B nn d ns) : Ns w wr.heap.size (wr.setCell ⟨w.heap.size + 1, 1, none⟩ (.slice B nn d)) (.slice none 0 0) [] (.slice none 0 0) [] B nn d ns mo := by
  have hM := h.hM
  have hsz := h.sz
  have n : ∀ k j, (k ≠ w.heap.size + 1 ∨ j ≠ 1) → (wr.setCell ⟨w.heap.size + 1, 1, none⟩ (.slice B nn d)).cell? ⟨k, j, none⟩ = wr.cell? ⟨k, j, none⟩ := fun k j hne => World.cell?_setCell_other _ _ _ _ (by intro e; injection e with e1 e2; omega)
  exact ⟨by omega, by simp, h.bel.setCell (by simp) _, (n _ _ (by omega)).trans h.r0, (n _ _ (by omega)).trans h.r1, (n _ _ (by omega)).trans h.r2, fun j => by rw [World.frozen?_setCell]; exact h.f j,
    (n _ _ (by omega)).trans h.g0, World.cell?_setCell_same _ _ _ h.g1, (n _ _ (by omega)).trans h.g2, fun j => by rw [World.frozen?_setCell]; exact h.fg j, World.ownsRow_nil _ _ _ _, RowV.nil _ _,
    (hr.to (Q := Mid w wr.heap.size) fun b hlt hp => ⟨hp, hlt⟩).kept ((Kept.refl _ _).set (fun e => by have := e.1; omega) _ _)⟩
/-- The list that each gets. -/
theorem Ns.list (h : Ns w M wr (.slice none 0 0) [] (.slice none 0 0) [] B nn d ns mo) : Ns w (wr.heap.size + 1) (wr.alloc (.cells #[.int .i64 1] 3)) (.slice none 0 0) [] (.slice (some ⟨wr.heap.size, 0, none⟩) 1 1) [1] B nn d ns mo := by
  have hM := h.hM
  have hsz := h.sz
  have hb : Below wr.heap.size wr (wr.alloc (.cells #[.int .i64 1] 3)) := below_alloc0 (Below.refl _ _) _
  have h2 := h.step (hb.mono hsz) (World.ownsRow_nil _ _ _ _)
  refine ⟨by omega, by simp, h2.bel, h2.r0, h2.r1, h2.r2, h2.f, h2.g0, h2.g1, h2.g2, h2.fg, World.ownsRow_nil _ _ _ _, ⟨some ⟨wr.heap.size, 0, none⟩, 1, rfl, fun _ => ⟨wr.heap.size, 0, rfl, ⟨by simp, by unfold Mid; omega⟩, fun j hj => ?_⟩, by simp, by unfold maxLen; omega, fun e => by cases e⟩, h2.nodes.to fun b _ hp => hp.up (by omega)⟩
  rw [Nat.zero_add, World.cell?_alloc_at _ _ _ _ rfl]
  match j, hj with
  | 0, _ => rfl
theorem set3_cells {b : Nat} {a0 a1 a2 : Value} (h0 : w'.cell? ⟨b, 0, none⟩ = some a0) (h1 : w'.cell? ⟨b, 1, none⟩ = some a1) (h2 : w'.cell? ⟨b, 2, none⟩ = some a2) (u0 u1 u2 : Value) :
    (((w'.setCell ⟨b, 0, none⟩ u0).setCell ⟨b, 1, none⟩ u1).setCell ⟨b, 2, none⟩ u2).cell? ⟨b, 0, none⟩ = some u0 ∧ (((w'.setCell ⟨b, 0, none⟩ u0).setCell ⟨b, 1, none⟩ u1).setCell ⟨b, 2, none⟩ u2).cell? ⟨b, 1, none⟩ = some u1 ∧ (((w'.setCell ⟨b, 0, none⟩ u0).setCell ⟨b, 1, none⟩ u1).setCell ⟨b, 2, none⟩ u2).cell? ⟨b, 2, none⟩ = some u2 := by
  have n01 : (⟨b, 1, none⟩ : Addr) ≠ ⟨b, 0, none⟩ := by intro e; injection e with _ e; omega
  have n02 : (⟨b, 2, none⟩ : Addr) ≠ ⟨b, 0, none⟩ := by intro e; injection e with _ e; omega
  have n12 : (⟨b, 2, none⟩ : Addr) ≠ ⟨b, 1, none⟩ := by intro e; injection e with _ e; omega
  refine ⟨?_, ?_, ?_⟩
  · rw [World.cell?_setCell_other _ _ _ _ n02, World.cell?_setCell_other _ _ _ _ n01]
    exact World.cell?_setCell_same _ _ _ h0
  · rw [World.cell?_setCell_other _ _ _ _ n12]
    refine World.cell?_setCell_same _ _ _ (u := a1) ?_
    rw [World.cell?_setCell_other _ _ _ _ (Ne.symm n01)]; exact h1
  · refine World.cell?_setCell_same _ _ _ (u := a2) ?_
    rw [World.cell?_setCell_other _ _ _ _ (Ne.symm n12), World.cell?_setCell_other _ _ _ _ (Ne.symm n02)]; exact h2
/-- At the end: the answer. -/
theorem Ns.fin (h : Ns w M wr v vs lv lz B nn d ns mo) (hv : vs = List.replicate vs.length lv) : ∃ A c, v = .slice A vs.length c ∧ GM (w.heap.size ≤ ·) (((wr.setCell ⟨w.heap.size, 0, none⟩ (.slice A vs.length c)).setCell ⟨w.heap.size, 1, none⟩ (.slice B nn d)).setCell ⟨w.heap.size, 2, none⟩ (.int .i64 mo)) A vs.length c B nn d mo ⟨List.replicate vs.length lz, ns, mo⟩ ∧
    Below w.heap.size w (((wr.setCell ⟨w.heap.size, 0, none⟩ (.slice A vs.length c)).setCell ⟨w.heap.size, 1, none⟩ (.slice B nn d)).setCell ⟨w.heap.size, 2, none⟩ (.int .i64 mo)) := by
  have hM := h.hM
  have hrows : RowsV (w.heap.size + 2 ≤ ·) wr vs (List.replicate vs.length lz) := by
    refine ⟨by simp, fun j hj => ?_⟩
    have hj' : j < vs.length := by simpa using hj
    have e1 : vs.getD j undef = lv := by
      have : vs[j]? = (List.replicate vs.length lv)[j]? := by rw [← hv]
      rw [List.getElem?_replicate, if_pos hj'] at this
      rw [List.getD, this]; rfl
    have e2 : row (List.replicate vs.length lz) j = lz := by unfold row; rw [List.getD, List.getElem?_replicate, if_pos hj']; rfl
    rw [e1, e2]
    exact h.lrow.to fun b _ hp => hp.1
  have ho : OwnV 43 M wr wr v vs := ⟨h.own, Below.refl _ _⟩
  obtain ⟨A, c, hv2, hr⟩ := ho.rowsAt hrows (fun b hb => by show w.heap.size + 2 ≤ b; omega)
  rw [List.length_replicate] at hv2 hr
  have hkp : Kept (w.heap.size + 2 ≤ ·) wr (((wr.setCell ⟨w.heap.size, 0, none⟩ (.slice A vs.length c)).setCell ⟨w.heap.size, 1, none⟩ (.slice B nn d)).setCell ⟨w.heap.size, 2, none⟩ (.int .i64 mo)) :=
    (((Kept.refl _ _).set (by omega) _ _).set (by omega) _ _).set (by omega) _ _
  exact ⟨A, c, hv2, ⟨rfl, (hr.kept hkp).to fun b _ hp => Nat.le_trans (Nat.le_add_right _ 2) hp, ((h.nodes.to (Q := (w.heap.size + 2 ≤ ·)) fun b _ hp => hp.1).kept hkp).to fun b _ hp => Nat.le_trans (Nat.le_add_right _ 2) hp⟩, ((h.bel.setCell (Nat.le_refl _) _).setCell (Nat.le_refl _) _).setCell (Nat.le_refl _) _⟩
end
/-- What the loop begins with. -/
def NsAt (w wx : World) (lv : Value) (mo sl : Int) : Prop := ∃ B nn d, Ns w wx.heap.size wx (.slice none 0 0) [] lv (if 0 ≤ sl ∧ 0 < mo then [1] else []) B nn d (if 0 ≤ sl then [List.replicate (min sl.toNat 64) 0] else []) mo

set_option maxHeartbeats 16000000 in
set_option maxRecDepth 100000 in
theorem rnew_any (mu mo sl : Int) (w : World) (h0 : 0 ≤ mo) (h1 : mo ≤ 1000) :
    Calls Try.prog 12 #[.int .i64 mu, .int .i64 mo, .int .i64 sl] w (SomeG (w.heap.size ≤ ·) w (gNew mu mo sl)) := by
  have HST := Lib.hid (Ns.start w mo)
  obtain ⟨W, hW⟩ : ∃ W, W = nw2 w mo := ⟨_, rfl⟩
  have HW : Hid (W = (w.alloc (.cells #[.slice none 0 0, .slice none 0 0, .int .i64 0] 28)).alloc (.cells #[.slice none 0 0, .slice none 0 0, .int .i64 mo] 28)) := Lib.hid hW
  clear hW
  go_enter Try.func12, Try.ntmps12
  go_upto_if 14 with (fail)
  rw [← HW.out]
  go_cut [8] (fun s8 wx => NsAt w wx s8 mo sl)
  case first =>
    rw [HW.out]
    by_cases hs : 0 ≤ sl
    · obtain ⟨k, hk⟩ : ∃ k : Nat, k = min sl.toNat 64 := ⟨_, rfl⟩
      have hk64 : k ≤ 64 := by omega
      have hmk := fun w => make_ints k w (by omega)
      have hmade := fun w => rowV_made w k (by omega)
      obtain ⟨C, hC⟩ : ∃ C, C = ((List.replicate k (0 : Int)).map (Value.int .i64)).toArray := ⟨_, rfl⟩
      rw [← hC] at hmk hmade
      obtain ⟨i0, hi0, hz0, hz1, hz2⟩ := info_parts info43
      -- the append's run, at the world in which the region comes to it
      have hrow := ((hmade (nw2 w mo)).kept (Kept.below (below_alloc0 (Below.refl _ _) (.cells #[.slice (some ⟨w.heap.size + 1 + 1, 0, none⟩) k k] 43)))).kept (Kept.below (Below.refl _ _).drew)
      have hsz2 : (nw2 w mo).heap.size = w.heap.size + 2 := by simp
      obtain ⟨g9, cap9, W9, hrun, hown9, hgr9, hat9, hlt9⟩ := run_append_lies (P := Try.prog) ((((nw2 w mo).alloc (.cells C 3)).alloc (.cells #[.slice (some ⟨w.heap.size + 1 + 1, 0, none⟩) k k] 43)).drew) 26 26 (w.heap.size + 2) 43 i0 _ 1 24 Try.underlying26 hi0 hz0 hz1 hz2 rfl (by decide) (.slice none 0 0) 0 [] (World.ownsRow_nil _ _ _ _) ⟨w.heap.size + 1 + 1 + 1, 0, none⟩ 1 1 [.slice (some ⟨w.heap.size + 1 + 1, 0, none⟩) k k] rfl
        (by
          intro j u hj
          obtain ⟨b, off, e, _, hc⟩ := cells_at ((nw2 w mo).alloc (.cells C 3)) (.slice (some ⟨w.heap.size + 1 + 1, 0, none⟩) k k) 43 (w.heap.size + 1 + 1 + 1) (by simp) (by simp)
          cases e
          have hj' : j < 1 := by
            rcases Nat.lt_or_ge j 1 with h | h
            · exact h
            · rw [List.getElem?_eq_none (by simpa using h)] at hj; cases hj
          have := hc j (by simpa using hj')
          rw [add_off]
          rw [List.getD, hj] at this
          exact this)
        (fun u hu => by rw [List.mem_singleton.1 hu]; rfl) (by decide) (by unfold maxLen; omega) (by omega) (by simp) _ rfl
      have hlim : ¬ 281474976710656 < Builtin.nextslicecap 1 0 * Try.t43.bytes := by decide +kernel
      have hr2 := hrun
      simp [go_sem, hlim] at hr2
      obtain ⟨⟨hg9, hcap9⟩, hX⟩ := hr2
      rw [hcap9] at hX
      have hb59 : Below ((((nw2 w mo).alloc (.cells C 3)).alloc (.cells #[.slice (some ⟨w.heap.size + 1 + 1, 0, none⟩) k k] 43)).drew).heap.size ((((nw2 w mo).alloc (.cells C 3)).alloc (.cells #[.slice (some ⟨w.heap.size + 1 + 1, 0, none⟩) k k] 43)).drew) W9 :=
        (Below.refl _ _).grown hgr9 (Nat.le_refl _) (fun _ h => by cases h)
      have hb29 : Below (w.heap.size + 2) (nw2 w mo) W9 := by
        have h1 : Below (nw2 w mo).heap.size (nw2 w mo) ((((nw2 w mo).alloc (.cells C 3)).alloc (.cells #[.slice (some ⟨w.heap.size + 1 + 1, 0, none⟩) k k] 43)).drew) := (below_alloc0 (below_alloc0 (Below.refl _ _) _) _).drew
        have h2 := below_then h1 hb59
        rwa [hsz2] at h2
      have hns9 := HST.out.step hb29 (World.ownsRow_nil _ _ _ _)
      have hrow9 := hrow.kept (Kept.below (show Below _ _ W9 from hb59))
      rw [hsz2] at hrow9
      have hown : OwnV 43 (w.heap.size + 2) W9 W9 (.slice (some ⟨g9, 0, none⟩) (0 + 1) cap9) [.slice (some ⟨w.heap.size + 1 + 1, 0, none⟩) k k] := ⟨hown9, Below.refl _ _⟩
      obtain ⟨A9, c9, hv9, hrows9⟩ := hown.rowsAt (P := (w.heap.size + 2 ≤ ·)) (ls := [List.replicate k 0]) ⟨rfl, fun j hj => by
        have hj0 : j = 0 := by simpa using hj
        subst hj0
        exact hrow9⟩ (fun b hb => hb)
      cases hv9
      have hfin := hns9.store hrows9
      have hc9 := hns9.g1
      have hf9 := hns9.fg 1
      rw [← hX] at hc9 hf9 hfin
      have HFIN : Hid (∀ Y : World, Y = (((((nw2 w mo).alloc (.cells C 3)).alloc (.cells #[.slice (some ⟨w.heap.size + 1 + 1, 0, none⟩) k k] 43)).alloc (.cells (#[.slice (some ⟨w.heap.size + 1 + 1, 0, none⟩) k k] ++ Builtin.zeroCells #[.slice none 0 0] (cap9 - 1)) 43)).drew.drew).setCell ⟨w.heap.size + 1, 1, none⟩ (.slice (some ⟨g9, 0, none⟩) 1 cap9) → Ns w Y.heap.size Y (.slice none 0 0) [] (.slice none 0 0) [] (some ⟨g9, 0, none⟩) 1 cap9 [List.replicate k 0] mo) :=
        Lib.hid fun Y e => by subst e; rw [World.size_setCell]; exact hfin
      have HLST : Hid (∀ (Y : World) (b : Nat), Y = ((((((nw2 w mo).alloc (.cells C 3)).alloc (.cells #[.slice (some ⟨w.heap.size + 1 + 1, 0, none⟩) k k] 43)).alloc (.cells (#[.slice (some ⟨w.heap.size + 1 + 1, 0, none⟩) k k] ++ Builtin.zeroCells #[.slice none 0 0] (cap9 - 1)) 43)).drew.drew).setCell ⟨w.heap.size + 1, 1, none⟩ (.slice (some ⟨g9, 0, none⟩) 1 cap9)).alloc (.cells #[.int .i64 1] 3) → b = (((((nw2 w mo).alloc (.cells C 3)).alloc (.cells #[.slice (some ⟨w.heap.size + 1 + 1, 0, none⟩) k k] 43)).alloc (.cells (#[.slice (some ⟨w.heap.size + 1 + 1, 0, none⟩) k k] ++ Builtin.zeroCells #[.slice none 0 0] (cap9 - 1)) 43)).drew.drew).heap.size → Ns w Y.heap.size Y (.slice none 0 0) [] (.slice (some ⟨b, 0, none⟩) 1 1) [1] (some ⟨g9, 0, none⟩) 1 cap9 [List.replicate k 0] mo) :=
        Lib.hid fun Y b e eb => by
          have h2 := (HFIN.out _ rfl).list
          subst e; subst eb
          rw [World.size_setCell] at h2
          rw [show ((((((((nw2 w mo).alloc (.cells C 3)).alloc (.cells #[.slice (some ⟨w.heap.size + 1 + 1, 0, none⟩) k k] 43)).alloc (.cells (#[.slice (some ⟨w.heap.size + 1 + 1, 0, none⟩) k k] ++ Builtin.zeroCells #[.slice none 0 0] (cap9 - 1)) 43)).drew.drew).setCell ⟨w.heap.size + 1, 1, none⟩ (.slice (some ⟨g9, 0, none⟩) 1 cap9)).alloc (.cells #[.int .i64 1] 3)).heap.size) = (((((nw2 w mo).alloc (.cells C 3)).alloc (.cells #[.slice (some ⟨w.heap.size + 1 + 1, 0, none⟩) k k] 43)).alloc (.cells (#[.slice (some ⟨w.heap.size + 1 + 1, 0, none⟩) k k] ++ Builtin.zeroCells #[.slice none 0 0] (cap9 - 1)) 43)).drew.drew).heap.size + 1 by simp]
          exact h2
      clear hfin
      have HC9 : Hid (((((nw2 w mo).alloc (.cells C 3)).alloc (.cells #[.slice (some ⟨w.heap.size + 1 + 1, 0, none⟩) k k] 43)).alloc (.cells (#[.slice (some ⟨w.heap.size + 1 + 1, 0, none⟩) k k] ++ Builtin.zeroCells #[.slice none 0 0] (cap9 - 1)) 43)).cell? ⟨w.heap.size + 1, 1, none⟩ = some (.slice none 0 0) ∧
          ((((nw2 w mo).alloc (.cells C 3)).alloc (.cells #[.slice (some ⟨w.heap.size + 1 + 1, 0, none⟩) k k] 43)).alloc (.cells (#[.slice (some ⟨w.heap.size + 1 + 1, 0, none⟩) k k] ++ Builtin.zeroCells #[.slice none 0 0] (cap9 - 1)) 43)).frozen? ⟨w.heap.size + 1, 1, none⟩ = false) := Lib.hid ⟨hc9, hf9⟩
      clear hc9 hf9
      have HSZ : Hid ((if 0 ≤ sl then [List.replicate (min sl.toNat 64) (0 : Int)] else []) = [List.replicate k 0]) := Lib.hid (by rw [if_pos hs, hk])
      have hs1 : sl ≥ 0 := hs
      have HK := Lib.hid hk; have HMK := Lib.hid hmk; have HL := Lib.hid hlim; have HG9 := Lib.hid hg9; have HCP := Lib.hid hcap9
      clear hlim hg9 hcap9 hX hC hmk hmade hrow hrun hown9 hgr9 hat9 hlt9 hb59 hb29 hns9 hrow9 hown hrows9 hk hsz2 hz0 hz1 hz2 hi0
      go_upto_if 17 with (fail)
      rw [← HW.out]
      go_cut [9] (fun s9 wx => s9 = .int .i64 (k : Int) ∧ wx = W)
      case first =>
        by_cases h64 : sl > 64
        · have hk2 : (k : Int) = 64 := by have := HK.out; omega
          have HK2 := Lib.hid hk2
          clear hk2
          go_wp2_with (fail)
          go_meet
          exact ⟨by rw [HK2.out], rfl⟩
        · have hk2 : (k : Int) = sl := by have := HK.out; omega
          have HK2 := Lib.hid hk2
          have h64' : sl ≤ 64 := by omega
          clear hk2 h64
          go_wp2_with (fail)
          go_meet
          exact ⟨by rw [HK2.out], rfl⟩
      case rest =>
        obtain ⟨rfl, rfl⟩ := hcut
        have hmk := HMK.out
        have hlim := HL.out
        have hg9 := HG9.out
        have hcap9 := HCP.out
        obtain ⟨hc9, hf9⟩ := HC9.out
        rw [HW.out]
        go_wp2_with (fail)
        go_region
        clear hmk hlim hg9 hcap9 hc9 hf9
        by_cases hm0 : mo > 0
        · go_wp2_with (fail)
          go_meet
          refine ⟨some ⟨g9, 0, none⟩, 1, cap9, ?_⟩
          rw [if_pos ⟨hs, hm0⟩, HSZ.out]
          exact HLST.out _ _ (by simp [go_sem]) (by simp)
        · have hm1 : mo ≤ 0 := by omega
          go_wp2_with (fail)
          go_meet
          refine ⟨some ⟨g9, 0, none⟩, 1, cap9, ?_⟩
          rw [if_neg (by omega), HSZ.out]
          exact HFIN.out _ (by simp [go_sem])
    · have hs1 : sl < 0 := by omega
      go_wp2_with (fail)
      go_meet
      refine ⟨none, 0, 0, ?_⟩
      rw [if_neg (by omega), if_neg (by omega)]
      have h2 := HST.out
      rw [show w.heap.size + 2 = (nw2 w mo).heap.size by simp] at h2
      exact h2
  case rest =>
    obtain ⟨B, nn, d, hns⟩ := hcut
    obtain ⟨M, hM⟩ : ∃ M, M = wc.heap.size := ⟨_, rfl⟩
    rw [← hM] at hns
    obtain ⟨lz, hlz⟩ : ∃ lz, lz = if 0 ≤ sl ∧ 0 < mo then [(1 : Int)] else [] := ⟨_, rfl⟩
    obtain ⟨ns, hnse⟩ : ∃ ns, ns = if 0 ≤ sl then [List.replicate (min sl.toNat 64) (0 : Int)] else [] := ⟨_, rfl⟩
    rw [← hlz, ← hnse] at hns
    obtain ⟨N, hN⟩ : ∃ N : Nat, N = min mu.toNat 16 := ⟨_, rfl⟩
    have HG : Hid (gNew mu mo sl = ⟨List.replicate N lz, ns, mo⟩) := Lib.hid (by rw [hN, hlz, hnse]; rfl)
    have HN := Lib.hid hN
    obtain ⟨Bl, cl, hu8, -⟩ := hns.lrow
    obtain ⟨ln, hln⟩ : ∃ ln, ln = lz.length := ⟨_, rfl⟩
    rw [← hln] at hu8
    subst hu8
    clear hln
    have HNS := Lib.hid hns
    clear hM hlz hnse hN hns HW HST
    go_wp2_with (fail)
    go_loopw [10] (fun iv wr => ∃ (j : Nat) (v : Value), j ≤ N ∧ iv = .int .i64 (j : Int) ∧ Ns w M wr v (List.replicate j (.slice Bl ln cl)) (.slice Bl ln cl) lz B nn d ns mo) (fun iv _ => N - (intOf iv).toNat)
    case atStart => exact ⟨0, _, Nat.zero_le _, rfl, HNS.out⟩
    case round =>
      clear HNS
      obtain ⟨j, v, hj, rfl, hns⟩ := hrel
      have hN16 : N ≤ 16 := by have := HN.out; omega
      by_cases hlt : j < N
      · have hj1 : (j : Int) < mu := by have := HN.out; omega
        have hj2 : (j : Int) < 16 := by omega
        have hg0 := hns.g0
        have HS := Lib.hid hns
        clear hns
        go_wp2_with (first
          | (at_builtin; refine append_more rfl _ _ 26 43 rfl Try.underlying26 info43 rfl (by decide) M wr v (List.replicate j (.slice Bl ln cl)) (HS.out.ownV.step HS.out.sz (below_alloc0 (Below.refl _ _) _)) HS.out.sz (some ⟨wr.heap.size, 0, none⟩) 1 1 [.slice Bl ln cl] rfl rfl rfl (by rw [List.length_replicate]; omega) (Nat.le_refl _) (fun e => by cases e) (cells_lit _ _ _) (fun z hz => by rw [List.mem_singleton.1 hz]; rfl) ?_
             rintro v2 w2 ho2 -
             have hM := HS.out.hM
             have hgc := (ho2.2.cell (p := ⟨w.heap.size + 1, 0, none⟩) (by show w.heap.size + 1 < M; omega)).trans HS.out.g0
             have hgf := (ho2.2.frozen (p := ⟨w.heap.size + 1, 0, none⟩) (by show w.heap.size + 1 < M; omega)).trans (HS.out.fg 0)
             have hap := HS.out.app ho2.2 ho2.1
             obtain ⟨A2, c2, rfl, -⟩ := ho2.at'
             simp only [List.length_append, List.length_replicate, List.length_singleton] at hap
             have HAP := Lib.hid hap
             clear hM hap ho2)
          | fail)
        clear hg0 hgc hgf
        go_roundw
        case rel => exact ⟨j + 1, _, by omega, by go_num, by rw [List.replicate_succ']; exact HAP.out⟩
        case measure => simp [intOf]; omega
      · obtain rfl : j = N := by omega
        obtain ⟨A, c, hv, hgm, hbel⟩ := hns.fin (by rw [List.length_replicate])
        simp only [List.length_replicate] at hv hgm hbel
        subst hv
        have hg0 := hns.g0
        have hg1 := hns.g1
        have hg2 := hns.g2
        have hr0 := hns.r0
        have hr1 := hns.r1
        have hr2 := hns.r2
        have hf := hns.f
        obtain ⟨e0, e1, e2⟩ := set3_cells hr0 hr1 hr2 (.slice A j c) (.slice B nn d) (.int .i64 mo)
        have HF : Hid (GM (w.heap.size ≤ ·) _ A j c B nn d mo ⟨List.replicate j lz, ns, mo⟩ ∧ Below w.heap.size w _) := Lib.hid ⟨hgm, hbel⟩
        clear hgm hbel hns hlt
        by_cases hmu : (j : Int) < mu
        · have hj16 : j = 16 := by have := HN.out; omega
          have hj2 : ¬ (j : Int) < 16 := by omega
          clear hj16
          go_wp2_with (fail)
          exact bodyPost_ret (v := gV A j c B nn d mo) (by simp [results, Try.results12, go_sem, e0, e1, e2]) rfl ⟨A, j, c, B, nn, d, mo, rfl, by rw [HG.out]; exact HF.out⟩
        · have hmu' : mu ≤ (j : Int) := by omega
          clear hmu
          go_wp2_with (fail)
          exact bodyPost_ret (v := gV A j c B nn d mo) (by simp [results, Try.results12, go_sem, e0, e1, e2]) rfl ⟨A, j, c, B, nn, d, mo, rfl, by rw [HG.out]; exact HF.out⟩
end Go.Proofs.Ytjnkcomedcbenaa
