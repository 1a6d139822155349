/- The document's own map, places and stacks of packets, walked. -/
import Derived.Test.YtbpkcoemehmpbaaGreatJ15
import Derived.Test.YtbpkcoemehmpbaaGreatJ12
import Derived.Test.YtbpkcoemehmpbaaGreatJ16
import Derived.Test.YtbpkcoemehmpbaaGreatLayThings
import Derived.Deep.AppendLies
namespace Go.Proofs.YtbpkcoemehmpbaaGreat
open Go.RowKit
set_option linter.unusedVariables false
open Lay (plcc plc shOf packN nodesN OkC Cfg Norm firstV Rep lenL things)

/-- The document's map of a configuration, by value. -/
abbrev aVal (A : Option Addr) (n cap : Nat) (P : Int) : Value := .agg #[.slice A n cap, .int .i64 P]
structure IsA (w : World) (c : Cfg) (A : Option Addr) (n : Nat) : Prop where
  ln : n = (things (shOf c)).length
  rd : Lay.ReadsT w A (things (shOf c))
  le : n ≤ 10000
theorem IsA.below {w w' : World} {c : Cfg} {A : Option Addr} {n : Nat} (h : IsA w c A n) (hb : Below w.heap.size w w') : IsA w' c A n := ⟨h.ln, h.rd.below hb, h.le⟩

set_option maxHeartbeats 1000000 in
theorem rat_any (c : Cfg) (A : Option Addr) (n cap : Nat) (P k x y : Int) (w : World) (h : IsA w c A n) (hn : Norm ⟨k, x, y⟩) :
    Calls Tryz.prog 44 #[aVal A n cap P, .int .i64 k, .int .i64 x, .int .i64 y] w fun e w' => e = .returned (.int .i64 (plcc c k x y)) ∧ Below w.heap.size w w' := by
  have HA := Lib.hid (h.below (below_alloc0 (Below.refl _ _) (.cells #[.slice A n cap, .int .i64 P] 36)))
  have HN := Lib.hid hn
  have HB := below_alloc0 (Below.refl w.heap.size w) (.cells #[.slice A n cap, .int .i64 P] 36)
  clear h hn
  go_enter Tryz.func44, Tryz.ntmps44
  go_wp2_with (first
    | (go_at_call 81; (with_reducible refine (Lay.place_any (shOf c) A cap n ⟨k, x, y⟩ _ HA.out.ln HA.out.rd HN.out HA.out.le).mono ?_); rintro r w1 ⟨rfl, hb⟩; have HB := below_then HB hb)
    | fail)
  go_ret
  exact ⟨rfl, HB⟩

/-- An append to a row of integers of the call's own at a step of a region that draws its order. -/
theorem step_append_row {k : IntKind} {wr : World} {T : TypeId} {x : Int} {ops : Array Oper} {o : Oper} {a : Act} {K : Act → World → Prop} {Q : Exit → Act → World → Prop} {E : Prop} (hg : o.guard = none) (s c : Operand) (t e : TypeId)
    (ho : o.op = .call { callee := .builtin .append, args := #[s, c], argTypes := #[t, t] }) (ht : Tryz.prog.underlying t = some (.slice e))
    (hi : (Tryz.prog.info? e).map (fun i => (i.zero, i.size, i.bytes)) = some (some (.int k 0), 1, 8))
    (B : Nat) (v : Value) (l : List Int) (hs : a.eval s = v) (hown : wr.ownsRow B e 1 v l.length (l.map (Value.int k))) (hx : a.eval c = .slice (some ⟨wr.heap.size, 0, none⟩) 1 1) (hl : l.length ≤ 100000) (hB : B ≤ wr.heap.size)
    (h : ∀ g cap w', w'.ownsRow B e 1 (.slice (some ⟨g, 0, none⟩) (l.length + 1) cap) (l.length + 1) ((l ++ [x]).map (Value.int k)) → (wr.alloc (.cells #[.int k x] T)).grownBy w' v.ownBlock → (v.ownBlock = some g ∨ wr.heap.size ≤ g) → K (a.put o.dst (.slice (some ⟨g, 0, none⟩) (l.length + 1) cap)) w') :
    if Region.wanted o (yielded ops a.tmps) = true then Oper.wp Tryz.prog o a (wr.alloc (.cells #[.int k x] T)) K Q else E := by
  obtain ⟨i0, hi0, hz0, hz1, hz2⟩ := info_parts hi
  have hn := hown.alloc (.cells #[.int k x] T)
  refine step_append_lies _ hg s c t ho B e i0 _ 1 8 ht hi0 hz0 hz1 hz2 rfl (by decide) v l.length _ hs hn ⟨wr.heap.size, 0, none⟩ 1 1 [.int k x] hx rfl ?_ ?_ (by decide) (by unfold maxLen; omega) (by omega) (by simp; omega) _ rfl ?_
  · intro j u hj
    rw [add_off, World.cell?_alloc_at _ _ _ _ rfl]
    match j, hj with
    | 0, hj => simp at hj; subst hj; rfl
  · intro u hu
    simp at hu
    rcases hu with rfl
    rfl
  · intro g cap w' h1 h2 h3 _
    refine h g cap w' (by simpa using h1) h2 ?_
    rcases h3 with h3 | h3
    · exact .inl h3
    · exact .inr (by rw [h3]; simp)

theorem adr_ne {b b' o o' : Nat} (h : b ≠ b' ∨ o ≠ o') : (⟨b, o, none⟩ : Addr) ≠ ⟨b', o', none⟩ := by
  intro e; injection e with e1 e2; omega
theorem put2_cells {w : World} {k : Nat} {a0 a1 : Value} (h0 : w.cell? ⟨k, 0, none⟩ = some a0) (h1 : w.cell? ⟨k, 1, none⟩ = some a1) (u0 u1 : Value) :
    ((w.setCell ⟨k, 0, none⟩ u0).setCell ⟨k, 1, none⟩ u1).cell? ⟨k, 0, none⟩ = some u0 ∧ ((w.setCell ⟨k, 0, none⟩ u0).setCell ⟨k, 1, none⟩ u1).cell? ⟨k, 1, none⟩ = some u1 := by
  refine ⟨?_, ?_⟩
  · rw [World.cell?_setCell_other _ _ _ _ (adr_ne (.inr (by omega)))]
    exact World.cell?_setCell_same _ _ _ h0
  · refine World.cell?_setCell_same _ _ _ (u := a1) ?_
    rw [World.cell?_setCell_other _ _ _ _ (adr_ne (.inr (by omega)))]; exact h1

/-- A stack that is being made: its box, the map's, the answer's, and its links so far. -/
structure SK (w0 w : World) (G : Nat) (A : Option Addr) (n cap : Nat) (P hd : Int) (v : Value) (zs : List Int) : Prop where
  own : w.ownsRow (G + 1) 3 1 v zs.length (zs.map (Value.int .i64))
  k : w.heap[G]? = some (.cells #[.int .i64 hd, v] 48 (0, 0))
  a : w.heap[w0.heap.size]? = some (.cells #[.slice A n cap, .int .i64 P] 36 (0, 0))
  r : w.heap[w0.heap.size + 1]? = some (.cells #[.int .i64 0, .slice none 0 0] 48 (0, 0))
  lo : w0.heap.size + 1 < G
  bel : Below w0.heap.size w0 w
section
variable {w0 w w' : World} {G n cap : Nat} {A : Option Addr} {P hd : Int} {v : Value} {zs : List Int} {c : Cfg}
theorem SK.lt (h : SK w0 w G A n cap P hd v zs) : G < w.heap.size := (Array.getElem?_eq_some_iff.1 h.k).1
theorem SK.step (h : SK w0 w G A n cap P hd v zs) (hb : Below w.heap.size w w') : SK w0 w' G A n cap P hd v zs := by
  have := h.lt; have := h.lo
  exact ⟨h.own.kept (grown_of_below (row := none) hb) (by cases v.ownBlock <;> simp), (hb.block _ (by omega)).trans h.k, (hb.block _ (by omega)).trans h.a, (hb.block _ (by omega)).trans h.r, h.lo, below_then h.bel hb⟩
theorem SK.drew (h : SK w0 w G A n cap P hd v zs) : SK w0 w.drew G A n cap P hd v zs := h.step (Below.refl _ _).drew
theorem SK.alloc (h : SK w0 w G A n cap P hd v zs) (o : Obj) : SK w0 (w.alloc o) G A n cap P hd v zs := h.step (below_alloc0 (Below.refl _ _) o)
theorem SK.isA (h : SK w0 w G A n cap P hd v zs) (ha : IsA w0 c A n) : IsA w c A n := ha.below h.bel
abbrev SKc (w : World) (w0 : World) (G : Nat) (A : Option Addr) (n cap : Nat) (P : Int) (v : Value) : Prop :=
  w.cell? ⟨G, 1, none⟩ = some v ∧ w.cell? ⟨w0.heap.size, 0, none⟩ = some (.slice A n cap) ∧ w.cell? ⟨w0.heap.size, 1, none⟩ = some (.int .i64 P) ∧ w.frozen? ⟨G, 1, none⟩ = false
theorem SK.cells (h : SK w0 w G A n cap P hd v zs) : SKc w w0 G A n cap P v :=
  ⟨by simp [World.cell?, h.k], by simp [World.cell?, h.a], by simp [World.cell?, h.a], frozen_of_row w G 1 _ _ h.k⟩
/-- Behind an append, its row is new: the box is still as it was. -/
structure SKa (w0 w : World) (G : Nat) (A : Option Addr) (n cap : Nat) (P hd : Int) (v v' : Value) (zs : List Int) : Prop where
  own : w.ownsRow (G + 1) 3 1 v' zs.length (zs.map (Value.int .i64))
  k : w.heap[G]? = some (.cells #[.int .i64 hd, v] 48 (0, 0))
  a : w.heap[w0.heap.size]? = some (.cells #[.slice A n cap, .int .i64 P] 36 (0, 0))
  r : w.heap[w0.heap.size + 1]? = some (.cells #[.int .i64 0, .slice none 0 0] 48 (0, 0))
  lo : w0.heap.size + 1 < G
  bel : Below w0.heap.size w0 w
theorem SKa.cells {v' : Value} (h : SKa w0 w G A n cap P hd v v' zs) : SKc w w0 G A n cap P v :=
  ⟨by simp [World.cell?, h.k], by simp [World.cell?, h.a], by simp [World.cell?, h.a], frozen_of_row w G 1 _ _ h.k⟩
theorem SK.app {x : Int} {T : TypeId} {g cp : Nat} (h : SK w0 w G A n cap P hd v zs) (ho : w'.ownsRow (G + 1) 3 1 (.slice (some ⟨g, 0, none⟩) (zs.length + 1) cp) (zs.length + 1) ((zs ++ [x]).map (Value.int .i64)))
    (hg : (w.alloc (.cells #[.int .i64 x] T)).grownBy w' v.ownBlock) : SKa w0 w' G A n cap P hd v (.slice (some ⟨g, 0, none⟩) (zs.length + 1) cp) (zs ++ [x]) := by
  have hlt := h.lt; have hlo := h.lo
  have h1 := h.step (below_alloc0 (Below.refl _ _) (.cells #[.int .i64 x] T))
  have hb := h1.own.lt
  have key : ∀ k, k ≤ G → (w'.heap[k]? = (w.alloc (.cells #[.int .i64 x] T)).heap[k]?) := fun k hk => hg.block k (by simp; omega) (fun e => by have := hb k e.symm; omega)
  exact ⟨by rw [List.length_append]; exact ho, (key _ (Nat.le_refl _)).trans h1.k, (key _ (by omega)).trans h1.a, (key _ (by omega)).trans h1.r, hlo, h1.bel.grown hg (by simp; have := h.bel.size; omega) (fun b hb' => by have := hb b hb'; omega)⟩
theorem SKa.set {v' : Value} (h : SKa w0 w G A n cap P hd v v' zs) : SK w0 (w.setCell ⟨G, 1, none⟩ v') G A n cap P hd v' zs := by
  have hlo := h.lo
  have hb := h.own.lt
  have g1 : w.grownBy (w.setCell ⟨G, 1, none⟩ v') (some G) := ⟨rfl, rfl, rfl, by simp, fun i hi h1 => heap_setCell_other w ⟨G, 1, none⟩ i _ (fun e => h1 (by rw [e]))⟩
  refine ⟨h.own.kept g1 ?_, ?_, ?_, ?_, hlo, h.bel.setCell (by show w0.heap.size ≤ G; omega) _⟩
  · cases hv : v'.ownBlock with
    | none => exact .inl rfl
    | some b => right; intro e; have := hb b hv; injection e with e; omega
  · rw [heap_setCell_same w G 1 _ 48 _ h.k]; rfl
  · rw [heap_setCell_other _ _ _ _ (show w0.heap.size ≠ G by omega)]; exact h.a
  · rw [heap_setCell_other _ _ _ _ (show w0.heap.size + 1 ≠ G by omega)]; exact h.r
theorem SK.form (h : SK w0 w G A n cap P hd v zs) : ∃ A' cp, v = .slice A' zs.length cp := by
  rcases h.own.2 with ⟨h1, h2⟩ | ⟨g, cp, cur, h1, _⟩
  · exact ⟨none, 0, by rw [h1, h2]⟩
  · exact ⟨_, cp, h1⟩
theorem SK.fin (h : SK w0 w G A n cap P hd v zs) (u0 u1 : Value) : (∀ A' l cp, v = .slice A' l cp → Reads .i64 ((w.setCell ⟨w0.heap.size + 1, 0, none⟩ u0).setCell ⟨w0.heap.size + 1, 1, none⟩ u1) A' zs) ∧ Below w0.heap.size w0 ((w.setCell ⟨w0.heap.size + 1, 0, none⟩ u0).setCell ⟨w0.heap.size + 1, 1, none⟩ u1) := by
  have hlo := h.lo
  have hb := h.own.lt
  have g1 : w.grownBy (w.setCell ⟨w0.heap.size + 1, 0, none⟩ u0) (some (w0.heap.size + 1)) := ⟨rfl, rfl, rfl, by simp, fun i hi h1 => heap_setCell_other w ⟨w0.heap.size + 1, 0, none⟩ i _ (fun e => h1 (by rw [e]))⟩
  have g2 : (w.setCell ⟨w0.heap.size + 1, 0, none⟩ u0).grownBy ((w.setCell ⟨w0.heap.size + 1, 0, none⟩ u0).setCell ⟨w0.heap.size + 1, 1, none⟩ u1) (some (w0.heap.size + 1)) := ⟨rfl, rfl, rfl, by simp, fun i hi h1 => heap_setCell_other _ ⟨w0.heap.size + 1, 1, none⟩ i _ (fun e => h1 (by rw [e]))⟩
  have hne : v.ownBlock = none ∨ v.ownBlock ≠ some (w0.heap.size + 1) := by
    cases hv : v.ownBlock with
    | none => exact .inl rfl
    | some b => right; intro e; have := hb b hv; injection e with e; omega
  have ho := (h.own.kept g1 hne).kept g2 hne
  refine ⟨fun A' l cp e => ?_, (h.bel.setCell (by show w0.heap.size ≤ w0.heap.size + 1; omega) _).setCell (by show w0.heap.size ≤ w0.heap.size + 1; omega) _⟩
  have hO : OwnI .i64 3 (G + 1) _ _ v zs := ⟨ho, Below.refl _ _⟩
  obtain ⟨A2, cp2, hv, hr, _⟩ := hO.reads
  rw [e] at hv; injection hv with h1 h2 h3
  rw [h1]; exact hr
theorem SK.hi (h : SK w0 w G A n cap P hd v zs) (A' : Option Addr) (l cp : Nat) (e : v = .slice A' l cp) (a : Addr) (ha : A' = some a) : w0.heap.size < a.block := by
  have hlo := h.lo
  rcases h.own.2 with ⟨h1, h2⟩ | ⟨g, c', cur, h1, _⟩
  · rw [e] at h1; injection h1 with h1; rw [ha] at h1; cases h1
  · have := h.own.lt g (by rw [h1]; rfl)
    rw [e] at h1; injection h1 with h1; rw [ha] at h1
    have h3 := congrArg Addr.block (Option.some.inj h1)
    have h4 : a.block = g := h3
    omega
theorem SK.start {w1 : World} (hb : Below w0.heap.size (((w0.alloc (.cells #[.slice A n cap, .int .i64 P] 36)).alloc (.cells #[.int .i64 0, .slice none 0 0] 48))) w1)
    (hb2 : Below (w0.heap.size + 2) (((w0.alloc (.cells #[.slice A n cap, .int .i64 P] 36)).alloc (.cells #[.int .i64 0, .slice none 0 0] 48))) w1) :
    SK w0 (w1.alloc (.cells #[.int .i64 hd, .slice none 0 0] 48)) w1.heap.size A n cap P hd (.slice none 0 0) [] := by
  have hs := hb2.size
  simp at hs
  have e0 : w1.heap[w0.heap.size]? = some (.cells #[.slice A n cap, .int .i64 P] 36 (0, 0)) := by
    rw [hb2.block _ (by omega), Go.heap_alloc_old _ _ (by simp)]; exact Go.heap_alloc_new _ _
  have e1 : w1.heap[w0.heap.size + 1]? = some (.cells #[.int .i64 0, .slice none 0 0] 48 (0, 0)) := by
    rw [hb2.block _ (by omega), show w0.heap.size + 1 = (w0.alloc (.cells #[.slice A n cap, .int .i64 P] 36)).heap.size by simp]; exact Go.heap_alloc_new _ _
  have hw : Below w0.heap.size w0 w1 := (below_alloc0 (below_alloc0 (Below.refl _ _) _) _).trans hb
  exact ⟨World.ownsRow_nil _ _ _ _, Go.heap_alloc_new _ _, (Go.heap_alloc_old _ _ (by omega)).trans e0, (Go.heap_alloc_old _ _ (by omega)).trans e1, by omega, below_alloc0 hw _⟩
end

/-- A row of packets' links, the first j. -/
def lnkTo (c : Cfg) (j : Nat) : List Int := (List.range j).map fun (i : Nat) => plcc c 12 ((i : Int) + 1) 0
theorem lnkTo_len (c : Cfg) (j : Nat) : (lnkTo c j).length = j := by simp [lnkTo]
theorem lnkTo_succ (c : Cfg) (j : Nat) : lnkTo c (j + 1) = lnkTo c j ++ [plcc c 12 ((j : Int) + 1) 0] := by simp [lnkTo, List.range_succ]
theorem lnkTo_all (c : Cfg) : lnkTo c (packN c).toNat = lnkL c := rfl

/-- A stack by value; its links' row is new. -/
def SomeKh (hd : Int) (zs : List Int) (w : World) (e : Ending) (w' : World) : Prop := ∃ A n cap, e = .returned (kval hd A n cap) ∧ n = zs.length ∧ Reads .i64 w' A zs ∧ Below w.heap.size w w' ∧ ∀ a, A = some a → w.heap.size < a.block
def SomeK (hd : Int) (zs : List Int) (w : World) (e : Ending) (w' : World) : Prop := ∃ A n cap, e = .returned (kval hd A n cap) ∧ n = zs.length ∧ Reads .i64 w' A zs ∧ Below w.heap.size w w'

end Go.Proofs.YtbpkcoemehmpbaaGreat
