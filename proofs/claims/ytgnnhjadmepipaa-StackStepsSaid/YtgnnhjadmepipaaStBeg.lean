/- The program's machine and the document's, begun side by side. -/
import Derived.Test.YtgnnhjadmepipaaStSl
import Derived.Test.YtgnnhjadmepipaaWalkLaw
namespace Go.Proofs.Ytgnnhjadmepipaa
open Go.RowKit
set_option linter.unusedVariables false
set_option linter.unusedSimpArgs false

/-- A machine of the program, behind its links. -/
structure BM (w wr : World) (Bx Ab M : Nat) (zs : List Int) (m : Sm) : Prop where
  bel : Below w.heap.size w wr
  lk : Lk wr Bx Ab zs
  mm : MM wr M Bx m
  o : w.heap.size ≤ M ∧ Bx < M ∧ Ab < M
/-- And the document's in a box. -/
structure BG (w wr : World) (Bx Ab M X : Nat) (zs : List Int) (A : Option Addr) (n cap : Nat) (m mx : Sm) : Prop where
  bm : BM w wr Bx Ab M zs m
  bx : BxM wr X mx A n cap
  ox : w.heap.size ≤ X ∧ Bx < X ∧ Ab < X ∧ X ≠ M
section
variable {w wr w' : World} {Bx Ab M X : Nat} {zs : List Int} {A : Option Addr} {n cap : Nat} {m mx : Sm}
theorem BM.of_new (hb : Below w.heap.size w wr) (hl : Lk wr Bx Ab zs) (hM : wr.heap.size ≤ M) (hm : MM w' M Bx m) (hb' : Below wr.heap.size wr w') : BM w w' Bx Ab M zs m := by
  have := hl.lt; have := hb.size
  exact ⟨below_step hb hb.size hb', hl.below hb', hm, by omega, by omega, by omega⟩
theorem BM.step (h : BM w wr Bx Ab M zs m) (hb : Below wr.heap.size wr w') : BM w w' Bx Ab M zs m := ⟨below_step h.bel h.bel.size hb, h.lk.below hb, h.mm.below hb, h.o⟩
theorem BG.step (h : BG w wr Bx Ab M X zs A n cap m mx) (hb : Below wr.heap.size wr w') : BG w w' Bx Ab M X zs A n cap m mx := ⟨h.bm.step hb, (hb.block X h.bx.lt).trans h.bx, h.ox⟩
theorem BG.ofX (h : BM w wr Bx Ab M zs m) (mx : Sm) (A : Option Addr) (n cap : Nat) : BG w (wr.alloc (.cells #[.int .i64 mx.kind, .int .i64 mx.pc, .int .i64 mx.k.head, .slice A n cap, .int .u32 mx.item, .int .u64 mx.h, .int .u32 mx.link, .int .i64 mx.tries] 36)) Bx Ab M wr.heap.size zs A n cap m mx := by
  have := h.lk.lt; have := h.mm.lt; have := h.bel.size
  refine ⟨h.step (below_alloc0 (Below.refl _ _) _), ?_, by omega, by omega, by omega, by omega⟩
  show (wr.heap.push _)[wr.heap.size]? = _
  exact Array.getElem?_push_size
/-- Another machine is begun. -/
theorem BG.newM {M' : Nat} {m' : Sm} (h : BG w wr Bx Ab M X zs A n cap m mx) (hM : wr.heap.size ≤ M') (hm : MM w' M' Bx m') (hb : Below wr.heap.size wr w') : BG w w' Bx Ab M' X zs A n cap m' mx := by
  have := h.bm.lk.lt; have := h.bx.lt; have := h.bm.bel.size
  exact ⟨⟨below_step h.bm.bel h.bm.bel.size hb, h.bm.lk.below hb, hm, by omega, by omega, by omega⟩, (hb.block X h.bx.lt).trans h.bx, h.ox.1, h.ox.2.1, h.ox.2.2.1, by omega⟩
theorem BG.putX (h : BG w wr Bx Ab M X zs A n cap m mx) (m' : Sm) :
    BG w (put8 wr X (.int .i64 m'.kind) (.int .i64 m'.pc) (.int .i64 m'.k.head) (.slice A n cap) (.int .u32 m'.item) (.int .u64 m'.h) (.int .u32 m'.link) (.int .i64 m'.tries)) Bx Ab M X zs A n cap m m' := by
  have u := put8_upd wr X (.int .i64 m'.kind) (.int .i64 m'.pc) (.int .i64 m'.k.head) (.slice A n cap) (.int .u32 m'.item) (.int .u64 m'.h) (.int .u32 m'.link) (.int .i64 m'.tries)
  have s := put8_same wr X 36 _ _ _ _ _ _ _ _ h.bx (.int .i64 m'.kind) (.int .i64 m'.pc) (.int .i64 m'.k.head) (.slice A n cap) (.int .u32 m'.item) (.int .u64 m'.h) (.int .u32 m'.link) (.int .i64 m'.tries)
  obtain ⟨o1, o2, o3, o4⟩ := h.ox
  have l := h.bm.lk.lt
  exact ⟨⟨below_upd h.bm.bel (Nat.le_refl _) u o1 o1, h.bm.lk.keep u.size (u.block Bx l.1 (by omega) (by omega)) (u.block Ab l.2 (by omega) (by omega)), (u.block M h.bm.mm.lt (Ne.symm o4) (Ne.symm o4)).trans h.bm.mm, h.bm.o⟩, s, h.ox⟩
theorem BG.cells (h : BG w wr Bx Ab M X zs A n cap m mx) : wr.cell? ⟨X, 0, none⟩ = some (.int .i64 mx.kind) ∧ wr.cell? ⟨X, 1, none⟩ = some (.int .i64 mx.pc) ∧ wr.cell? ⟨X, 2, none⟩ = some (.int .i64 mx.k.head) ∧ wr.cell? ⟨X, 3, none⟩ = some (.slice A n cap) ∧ wr.cell? ⟨X, 4, none⟩ = some (.int .u32 mx.item) ∧ wr.cell? ⟨X, 5, none⟩ = some (.int .u64 mx.h) ∧ wr.cell? ⟨X, 6, none⟩ = some (.int .u32 mx.link) ∧ wr.cell? ⟨X, 7, none⟩ = some (.int .i64 mx.tries) := by
  have b0 := h.bx
  unfold BxM at b0
  refine ⟨?_, ?_, ?_, ?_, ?_, ?_, ?_, ?_⟩ <;> simp [World.cell?, b0]
theorem BG.fro (h : BG w wr Bx Ab M X zs A n cap m mx) (j : Nat) : wr.frozen? ⟨X, j, none⟩ = false := frozen_of_row wr _ j _ _ h.bx
theorem BG.ofPop {zs' : List Int} (h : BM w wr Bx Ab M zs m) (hd : Int) (A : Option Addr) (n cap : Nat) : BG w (wr.alloc (.cells #[.int .i64 2, .int .i64 1, .int .i64 hd, .slice A n cap, .int .u32 0, .int .u64 0, .int .u32 0, .int .i64 0] 36)) Bx Ab M wr.heap.size zs A n cap m (mPop ⟨hd, zs'⟩) := BG.ofX h (mPop ⟨hd, zs'⟩) A n cap
theorem BG.putPush (h : BG w wr Bx Ab M X zs A n cap m mx) (hd x : Int) (zs' : List Int) :
    BG w (put8 wr X (.int .i64 1) (.int .i64 1) (.int .i64 hd) (.slice A n cap) (.int .u32 (itemOf x)) (.int .u64 0) (.int .u32 0) (.int .i64 0)) Bx Ab M X zs A n cap m (mPush ⟨hd, zs'⟩ x) := h.putX (mPush ⟨hd, zs'⟩ x)
/-- The store is made. -/
theorem SL.begin {L : List Int} {R : Option Addr} {a : Ending} (h : BG w wr Bx Ab M X zs A n cap m m) (hR : Reads .u64 w R L) (ww : WW L) (wm : Wm 0 m) (lk : m.k.links = zs) (hn : SomeNew wr L a w') : ∃ S D, a = .returned (ptr S) ∧ SL S D Bx Ab M X w w' zs A n cap m m L L R 0 0 := by
  obtain ⟨S, D, rfl, hS, hD, hs, hb⟩ := hn
  have := h.bm.lk.lt; have := h.bx.lt; have := h.bm.mm.lt; have hz := h.bm.bel.size
  obtain ⟨o1, o2, o3, o4⟩ := h.ox
  obtain ⟨p1, p2, p3⟩ := h.bm.o
  refine ⟨S, D, rfl, ⟨Own.of_new h.bm.bel (Nat.le_refl _) hS hD hs hb, Int.le_refl _, h.bm.lk.below hb, by omega, by omega, ww⟩, h.bm.mm.below hb, ⟨p1, by omega, by omega, by omega, by omega⟩, (hb.block X h.bx.lt).trans h.bx, ⟨o1, by omega, by omega, by omega, by omega⟩, o4, ?_, wm, lk⟩
  have hbw : Below w.heap.size w w' := below_step h.bm.bel h.bm.bel.size hb
  intro h0
  obtain ⟨b, off, e, hl, hc⟩ := hR h0
  exact ⟨b, off, e, Nat.lt_of_lt_of_le hl hbw.size, ⟨by omega, by omega, by omega, by omega⟩, fun j hj => (hbw.cell (p := ⟨b, off + j, none⟩) hl).trans (hc j hj)⟩
end
end Go.Proofs.Ytgnnhjadmepipaa
