/- A machine, a store, and the document's own beside them: what holds while they go on. -/
import Derived.Test.YtgnnhjadmepipaaRefSt
import Derived.Test.YtgnnhjadmepipaaFirstLaw
namespace Go.Proofs.Ytgnnhjadmepipaa
open Go.RowKit
set_option linter.unusedVariables false
set_option linter.unusedSimpArgs false

/-- A store of the call's own, with links; c: how many accesses there were. -/
structure Oc (B S D Bx Ab : Nat) (w0 w : World) (zs L : List Int) (c : Int) : Prop where
  own : Own B S D w0 w L c
  c0 : 0 ≤ c
  lk : Lk w Bx Ab zs
  b1 : Bx ≠ S ∧ Bx ≠ D
  b2 : Ab ≠ S ∧ Ab ≠ D
  ww : WW L
section
variable {B S D Bx Ab M : Nat} {w0 w w' : World} {zs L : List Int} {c t : Int} {m : Sm}
theorem Oc.ok (h : Oc B S D Bx Ab w0 w zs L c) : Ok B S D Bx Ab w0 w zs L c := ⟨⟨c, h.c0, Int.le_refl _, h.own⟩, h.lk, h.b1, h.b2, h.ww⟩
theorem Oc.step (h : Oc B S D Bx Ab w0 w zs L c) (hb : Below w.heap.size w w') : Oc B S D Bx Ab w0 w' zs L c := ⟨h.own.step hb, h.c0, h.lk.below hb, h.b1, h.b2, h.ww⟩
theorem Oc.upd (h : Oc B S D Bx Ab w0 w zs L c) {b : Nat} (u : Upd b b w w') (a : Ap B S D Bx Ab b) : Oc B S D Bx Ab w0 w' zs L c := by
  obtain ⟨a0, a1, a2, a3, a4⟩ := a
  refine ⟨⟨h.own.1, h.own.2.1, h.own.2.2.1, h.own.st.upd u (Ne.symm a1) (Ne.symm a1) (Ne.symm a2) (Ne.symm a2), below_upd h.own.bel h.own.2.2.1 u a0 a0⟩, h.c0, ?_, h.b1, h.b2, h.ww⟩
  exact h.lk.keep u.size (u.block Bx h.lk.lt.1 (Ne.symm a3) (Ne.symm a3)) (u.block Ab h.lk.lt.2 (Ne.symm a4) (Ne.symm a4))
theorem Oc.of_mi (h : Oc B S D Bx Ab w0 w zs L c) (a : Ap B S D Bx Ab M) {L' : List Int} {c' : Int} {m' : Sm} (hz : m'.k.links = zs) (hm : Mi w w' M S D Bx Ab m' L' c') (h0 : 0 ≤ c') (ww : WW L') : Oc B S D Bx Ab w0 w' zs L' c' := by
  have l := hm.lk'
  rw [hz] at l
  exact ⟨⟨h.own.1, h.own.2.1, h.own.2.2.1, hm.st', below_u3 h.own.bel h.own.2.2.1 hm.u' a.1 h.own.1 h.own.2.1⟩, h0, l, h.b1, h.b2, ww⟩
end

/-- The document's machine, in a box. -/
def BxM (w : World) (X : Nat) (m : Sm) (A : Option Addr) (n cap : Nat) : Prop :=
  w.heap[X]? = some (.cells #[.int .i64 m.kind, .int .i64 m.pc, .int .i64 m.k.head, .slice A n cap, .int .u32 m.item, .int .u64 m.h, .int .u32 m.link, .int .i64 m.tries] 36 (0, 0))
theorem BxM.lt {w : World} {X : Nat} {m : Sm} {A : Option Addr} {n cap : Nat} (h : BxM w X m A n cap) : X < w.heap.size := (Array.getElem?_eq_some_iff.1 h).1
/-- Blocks that are nobody's of these. -/
def Fr (M S D X : Nat) (b : Nat) : Prop := b ≠ M ∧ b ≠ S ∧ b ≠ D ∧ b ≠ X

/-- The program's machine m over L; the document's, mx, over LR. -/
structure SL (S D Bx Ab M X : Nat) (w wr : World) (zs : List Int) (A : Option Addr) (n cap : Nat) (m mx : Sm) (L LR : List Int) (R : Option Addr) (c t : Int) : Prop where
  oc : Oc w.heap.size S D Bx Ab w wr zs L c
  mm : MM wr M Bx m
  ap : Ap w.heap.size S D Bx Ab M
  bx : BxM wr X mx A n cap
  ax : Ap w.heap.size S D Bx Ab X
  nx : X ≠ M
  rd : ReadsW (Fr M S D X) wr R LR
  wm : Wm t m
  lk : m.k.links = zs
section
variable {S D Bx Ab M X : Nat} {w wr w' : World} {zs : List Int} {A : Option Addr} {n cap : Nat} {m mx : Sm} {L LR : List Int} {R : Option Addr} {c t : Int}
theorem SL.bel (h : SL S D Bx Ab M X w wr zs A n cap m mx L LR R c t) : Below w.heap.size w wr := h.oc.own.bel
theorem SL.below (h : SL S D Bx Ab M X w wr zs A n cap m mx L LR R c t) (hb : Below wr.heap.size wr w') : SL S D Bx Ab M X w w' zs A n cap m mx L LR R c t :=
  ⟨h.oc.step hb, h.mm.below hb, h.ap, (hb.block X h.bx.lt).trans h.bx, h.ax, h.nx, h.rd.below hb, h.wm, h.lk⟩
theorem SL.far (h : SL S D Bx Ab M X w wr zs A n cap m mx L LR R c t) {b : Nat} (hb : wr.heap.size ≤ b) : Fr M S D X b := by
  have := h.mm.lt; have := h.bx.lt; have := h.oc.own.st.ltS; have := h.oc.own.st.row.lt
  exact ⟨by omega, by omega, by omega, by omega⟩
/-- The program's step. -/
theorem SL.stepM (h : SL S D Bx Ab M X w wr zs A n cap m mx L LR R c t) (hc : c ≤ 900000000) (ht : t ≤ 900000000) :
    Calls Try.prog 16 #[ptr M, ptr S] wr fun e w' => e = .returned (.bool (decide ((sstp L m).2.pc = 0))) ∧ SL S D Bx Ab M X w w' zs A n cap (sstp L m).2 mx (sstp L m).1 LR R (cst m c) (t + 1) := by
  obtain ⟨a0, a1, a2, a3, a4⟩ := h.ap
  have mi := h.mm.mi h.oc.own.st (by rw [h.lk]; exact h.oc.lk) a1 a2 ⟨Ne.symm a3, h.oc.b1.1, h.oc.b1.2⟩ ⟨Ne.symm a4, h.oc.b2.1, h.oc.b2.2⟩
  refine (step_any wr mi h.wm h.oc.ww h.oc.c0 (by omega) (by omega)).mono ?_
  rintro e w1 ⟨rfl, mi'⟩
  have := cst_le m c
  have hc0 := h.oc.c0
  have u := mi'.u'
  refine ⟨rfl, h.oc.of_mi h.ap (by rw [sstp_k]; exact h.lk) mi' (by omega) (h.oc.ww.step h.wm), mi'.mm, h.ap, ?_, h.ax, h.nx, ?_, h.wm.step h.oc.ww, by rw [sstp_k]; exact h.lk⟩
  · exact (u.block X h.bx.lt h.nx h.ax.2.1 h.ax.2.2.1).trans h.bx
  · intro h0
    obtain ⟨b, off, e, hl, hp, hcell⟩ := h.rd h0
    exact ⟨b, off, e, Nat.lt_of_lt_of_le hl u.size, hp, fun j hj => (World.cell?_of_block (w := wr) (a := ⟨b, off + j, none⟩) (u.block b hl hp.1 hp.2.1 hp.2.2.1)).trans (hcell j hj)⟩
/-- The document's step. -/
theorem SL.ref {R' : Option Addr} {L' : List Int} (h : SL S D Bx Ab M X w wr zs A n cap m mx L LR R c t) (hb : Below wr.heap.size wr w') (hr : ReadsW (Fr M S D X) w' R' L') : SL S D Bx Ab M X w w' zs A n cap m mx L L' R' c t :=
  ⟨h.oc.step hb, h.mm.below hb, h.ap, (hb.block X h.bx.lt).trans h.bx, h.ax, h.nx, hr, h.wm, h.lk⟩
/-- Its box is written anew. -/
theorem SL.putX (h : SL S D Bx Ab M X w wr zs A n cap m mx L LR R c t) (m' : Sm) :
    SL S D Bx Ab M X w (put8 wr X (.int .i64 m'.kind) (.int .i64 m'.pc) (.int .i64 m'.k.head) (.slice A n cap) (.int .u32 m'.item) (.int .u64 m'.h) (.int .u32 m'.link) (.int .i64 m'.tries)) zs A n cap m m' L LR R c t := by
  have u := put8_upd wr X (.int .i64 m'.kind) (.int .i64 m'.pc) (.int .i64 m'.k.head) (.slice A n cap) (.int .u32 m'.item) (.int .u64 m'.h) (.int .u32 m'.link) (.int .i64 m'.tries)
  have s := put8_same wr X 36 _ _ _ _ _ _ _ _ h.bx (.int .i64 m'.kind) (.int .i64 m'.pc) (.int .i64 m'.k.head) (.slice A n cap) (.int .u32 m'.item) (.int .u64 m'.h) (.int .u32 m'.link) (.int .i64 m'.tries)
  exact ⟨h.oc.upd u h.ax, (u.block M h.mm.lt (Ne.symm h.nx) (Ne.symm h.nx)).trans h.mm, h.ap, s, h.ax, h.nx, h.rd.upd u fun b hb _ => ⟨hb.2.2.2, hb.2.2.2, hb⟩, h.wm, h.lk⟩
theorem SL.cells (h : SL S D Bx Ab M X w wr zs A n cap m mx L LR R c t) : wr.cell? ⟨X, 0, none⟩ = some (.int .i64 mx.kind) ∧ wr.cell? ⟨X, 1, none⟩ = some (.int .i64 mx.pc) ∧ wr.cell? ⟨X, 2, none⟩ = some (.int .i64 mx.k.head) ∧ wr.cell? ⟨X, 3, none⟩ = some (.slice A n cap) ∧ wr.cell? ⟨X, 4, none⟩ = some (.int .u32 mx.item) ∧ wr.cell? ⟨X, 5, none⟩ = some (.int .u64 mx.h) ∧ wr.cell? ⟨X, 6, none⟩ = some (.int .u32 mx.link) ∧ wr.cell? ⟨X, 7, none⟩ = some (.int .i64 mx.tries) := by
  have b0 := h.bx
  unfold BxM at b0
  refine ⟨?_, ?_, ?_, ?_, ?_, ?_, ?_, ?_⟩ <;> simp [World.cell?, b0]
theorem SL.fro (h : SL S D Bx Ab M X w wr zs A n cap m mx L LR R c t) (j : Nat) : wr.frozen? ⟨X, j, none⟩ = false := frozen_of_row wr _ j _ _ h.bx
/-- Another one changes a word. -/
theorem SL.poke (h : SL S D Bx Ab M X w wr zs A n cap m mx L LR R c t) (p v : Int) (hv : 0 ≤ v ∧ v ≤ 18446744073709551615) (hc : c ≤ 900000000) :
    Calls Try.prog 23 #[ptr S, .int .i64 p, .int .u64 v] wr fun e w' => e = .returned (.tuple #[]) ∧ SL S D Bx Ab M X w w' zs A n cap m mx (ptq L p v) LR R (c + 1) t := by
  have hc0 := h.oc.c0
  refine (put_any p v wr h.oc.own.st hc0 (by omega)).mono ?_
  rintro e w1 ⟨rfl, l⟩
  rw [ptv_eq] at l
  obtain ⟨a0, a1, a2, a3, a4⟩ := h.ap
  obtain ⟨x0, x1, x2, x3, x4⟩ := h.ax
  exact ⟨rfl, ⟨h.oc.own.left l, by omega, h.oc.lk.u3 (M := S) (.of_upd l.2) ⟨h.oc.b1.1, h.oc.b1⟩ ⟨h.oc.b2.1, h.oc.b2⟩, h.oc.b1, h.oc.b2, h.oc.ww.put _ hv⟩, (l.2.block M h.mm.lt a1 a2).trans h.mm, h.ap, (l.2.block X h.bx.lt x1 x2).trans h.bx, h.ax, h.nx, h.rd.upd l.2 fun b hb _ => ⟨hb.2.1, hb.2.2.1, hb⟩, h.wm, h.lk⟩
theorem SL.all (h : SL S D Bx Ab M X w wr zs A n cap m mx L LR R c t) (hl : L.length ≤ 1000000) :
    Calls Try.prog 22 #[ptr S] wr fun a w' => a = .returned (.slice (some ⟨wr.heap.size, 0, none⟩) L.length L.length) ∧ Reads .u64 w' (some ⟨wr.heap.size, 0, none⟩) L ∧ SL S D Bx Ab M X w w' zs A n cap m mx L LR R c t ∧ Below wr.heap.size wr w' := by
  refine (all_any wr h.oc.own.st hl).mono ?_
  rintro a w1 ⟨rfl, hr, hb⟩
  exact ⟨rfl, hr.reads, h.below hb, hb⟩
theorem SL.count (h : SL S D Bx Ab M X w wr zs A n cap m mx L LR R c t) : Calls Try.prog 15 #[ptr S] wr fun a w' => a = .returned (.int .i64 c) ∧ wr = w' := cnt_any wr h.oc.own.st
theorem SL.item (h : SL S D Bx Ab M X w wr zs A n cap m mx L LR R c t) : Calls Try.prog 18 #[ptr M] wr fun a w' => a = .returned (.int .i64 (sItem m)) ∧ wr = w' := item_any wr h.mm h.wm
theorem SL.tries (h : SL S D Bx Ab M X w wr zs A n cap m mx L LR R c t) : Calls Try.prog 20 #[ptr M] wr fun a w' => a = .returned (.int .i64 m.tries) ∧ wr = w' := tries_any wr h.mm
end
end Go.Proofs.Ytgnnhjadmepipaa
