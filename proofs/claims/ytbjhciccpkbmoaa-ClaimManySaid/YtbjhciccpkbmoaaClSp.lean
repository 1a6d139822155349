/- A machine that tries to mark, a store, and the document's own beside them. -/
import Derived.Test.YtbjhciccpkbmoaaClS
import Derived.Test.YtbjhciccpkbmoaaRefCl
import Derived.Test.YtbjhciccpkbmoaaSame
namespace Go.Proofs.Ytbjhciccpkbmoaa
open Go.RowKit
set_option linter.unusedVariables false
set_option linter.unusedSimpArgs false
set_option maxRecDepth 100000
open Lay (plcc plc shOf packN nodesN OkC Cfg Norm firstV Rep lenL things)

/-- A machine of the document, by value. -/
abbrev rcV (V : Int) (m : Cm) : Value := rmV m.pc V m.cy m.k m.won
set_option maxHeartbeats 1000000 in
theorem rnew_cl (V cy : Int) (w : World) : Calls Try.prog 17 #[.int .i64 V, .int .u64 cy] w fun e w' => e = .returned (rmV 1 V cy 0 false) ∧ Below w.heap.size w w' := by
  go_enter Try.func17, Try.ntmps17
  go_wp2
  exact bodyPost_ret (v := rmV 1 V cy 0 false) (by simp [results, Try.results17, go_sem]) rfl ⟨rfl, below_alloc0 (Below.refl _ _) _⟩
theorem rstep_cl {c : Cfg} (Q : Nat → Prop) (A : Option Addr) (n cap : Nat) (P : Int) (R : Option Addr) (n' capR : Nat) (L : List Int) (V : Int) (m : Cm) (w : World)
    (hA : IsA w c A n) (hn : n' = L.length) (hn2 : n' ≤ 1000000) (hR : ReadsW Q w R L) (hQ : ∀ b, w.heap.size ≤ b → Q b) (hp : m.p = plcc c 16 V 0) (h4 : m.pc ≤ 4) (hw : m.pc ≠ 0 → m.won = false) :
    Calls Try.prog 23 #[aVal A n cap P, .slice R n' capR, rcV V m] w (SomeV Q w n' (cstp 1 L m).1 (rcV V (cstp 1 L m).2)) := by
  obtain ⟨pc, p, cy, k, won⟩ := m
  dsimp only at hp h4 hw
  subst hp
  have hp : pc = 0 ∨ pc = 1 ∨ pc = 2 ∨ pc = 3 ∨ pc = 4 := by omega
  rcases hp with rfl | rfl | rfl | rfl | rfl
  · have e : cstp 1 L ⟨0, plcc c 16 V 0, cy, k, won⟩ = (L, ⟨0, plcc c 16 V 0, cy, k, won⟩) := by simp [cstp]
    rw [e]
    exact rs0 (c := c) Q A n cap P R n' capR L V cy k won w hA hn hn2 hR hQ
  · have e : cstp 1 L ⟨1, plcc c 16 V 0, cy, k, won⟩ = (L, if cy ≤ ldc L (plcc c 16 V 0) then ⟨0, plcc c 16 V 0, cy, ldc L (plcc c 16 V 0), won⟩ else ⟨2, plcc c 16 V 0, cy, ldc L (plcc c 16 V 0), won⟩) := by simp [cstp]
    rw [e, ← ldv_eq]
    by_cases hc : cy ≤ ldv L (plcc c 16 V 0)
    · simp only [if_pos hc]
      exact rs1y (c := c) Q A n cap P R n' capR L V cy k won w hA hn hn2 hR hQ hc
    · simp only [if_neg hc]
      exact rs1n (c := c) Q A n cap P R n' capR L V cy k won w hA hn hn2 hR hQ hc
  · have e : cstp 1 L ⟨2, plcc c 16 V 0, cy, k, won⟩ = (adc L 1 1, ⟨3, plcc c 16 V 0, cy, k, won⟩) := by simp [cstp]
    rw [e, ← adv_eq]
    exact rs2 (c := c) Q A n cap P R n' capR L V cy k won w hA hn hn2 hR hQ
  · have hwf := hw (by simp)
    subst hwf
    by_cases hc : (0 ≤ plcc c 16 V 0 ∧ plcc c 16 V 0 < L.length) ∧ L.getD (plcc c 16 V 0).toNat 0 = k
    · have e : cstp 1 L ⟨3, plcc c 16 V 0, cy, k, false⟩ = (ptc L (plcc c 16 V 0) cy, ⟨0, plcc c 16 V 0, cy, k, true⟩) := by
        simp only [cstp]; rw [if_neg (by decide), if_neg (by decide), if_pos trivial, if_pos hc]
      rw [e]
      obtain ⟨e1, e2⟩ := sw_yes (v := cy) hc
      exact rs3y (c := c) Q A n cap P R n' capR L V cy k false w hA hn hn2 hR hQ _ e1 e2
    · have e : cstp 1 L ⟨3, plcc c 16 V 0, cy, k, false⟩ = (L, ⟨4, plcc c 16 V 0, cy, k, false⟩) := by
        simp only [cstp]; rw [if_neg (by decide), if_neg (by decide), if_pos trivial, if_neg hc]
      rw [e]
      obtain ⟨e1, e2⟩ := sw_no (v := cy) hc
      exact rs3n (c := c) Q A n cap P R n' capR L V cy k false w hA hn hn2 hR hQ _ e1 e2
  · have e : cstp 1 L ⟨4, plcc c 16 V 0, cy, k, won⟩ = (adc L 1 18446744073709551615, ⟨0, plcc c 16 V 0, cy, k, won⟩) := by simp [cstp]
    rw [e, ← adv_eq]
    exact rs4 (c := c) Q A n cap P R n' capR L V cy k won w hA hn hn2 hR hQ

theorem row_uf {P Q : Nat → Prop} {G : Nat → Prop} {w w' : World} {A : Option Addr} {zs : List Int} (h : ReadsW P w A zs) (u : UF G w w') (hP : ∀ b, P b → b < w.heap.size → ¬ G b ∧ Q b) : ReadsW Q w' A zs := fun h0 => by
  obtain ⟨b, off, e, hlt, hp, hc⟩ := h h0
  have := hP b hp hlt
  exact ⟨b, off, e, Nat.lt_of_lt_of_le hlt u.size, this.2, fun j hj => (World.cell?_of_block (w := w) (a := ⟨b, off + j, none⟩) (u.block b hlt this.1)).trans (hc j hj)⟩
/-- Blocks that are none of these. -/
def Fr (S D X YB : Nat) (b : Nat) : Prop := b ≠ S ∧ b ≠ D ∧ b ≠ X ∧ b ≠ YB
/-- All of it. -/
structure CP (S D N X YB : Nat) (c : Cfg) (V : Int) (w7 wr : World) (m mx : Cm) (L LR : List Int) (R : Option Addr) (cc : Int) : Prop where
  st : St wr S D L cc
  c0 : 0 ≤ cc
  bel : Below w7.heap.size w7 wr
  mp : Lay.IsMap w7 N c
  ok : OkC c
  lo : w7.heap.size ≤ S ∧ w7.heap.size ≤ D ∧ w7.heap.size ≤ YB ∧ w7.heap.size ≤ X
  ne : YB ≠ S ∧ YB ≠ D ∧ X ≠ S ∧ X ≠ D ∧ X ≠ YB
  cm : CM wr X 1 m
  ym : wr.heap[YB]? = some (.cells #[.int .i64 mx.pc, .int .i64 V, .int .u64 mx.cy, .int .u64 mx.k, .bool mx.won] 46 (0, 0))
  yi : mx.p = plcc c 16 V 0 ∧ mx.pc ≤ 4 ∧ (mx.pc ≠ 0 → mx.won = false)
  rd : ReadsW (Fr S D X YB) wr R LR
section
variable {S D N X YB : Nat} {c : Cfg} {V : Int} {w7 wr w' : World} {m mx : Cm} {L LR : List Int} {R : Option Addr} {cc : Int}
theorem CP.ltY (h : CP S D N X YB c V w7 wr m mx L LR R cc) : YB < wr.heap.size := (Array.getElem?_eq_some_iff.1 h.ym).1
theorem CP.mpw (h : CP S D N X YB c V w7 wr m mx L LR R cc) : Lay.IsMap wr N c := h.mp.below h.bel
theorem CP.below (h : CP S D N X YB c V w7 wr m mx L LR R cc) (hb : Below wr.heap.size wr w') : CP S D N X YB c V w7 w' m mx L LR R cc :=
  ⟨h.st.below hb, h.c0, below_step h.bel h.bel.size hb, h.mp, h.ok, h.lo, h.ne, h.cm.below hb, (hb.block YB h.ltY).trans h.ym, h.yi, h.rd.below hb⟩
theorem CP.far (h : CP S D N X YB c V w7 wr m mx L LR R cc) : ∀ b, wr.heap.size ≤ b → Fr S D X YB b := fun b hb => by
  have := h.st.ltS; have := h.st.row.lt; have := h.ltY; have := h.cm.lt
  exact ⟨by omega, by omega, by omega, by omega⟩
theorem CP.fro (h : CP S D N X YB c V w7 wr m mx L LR R cc) (j : Nat) : wr.frozen? ⟨YB, j, none⟩ = false := frozen_of_row wr _ j _ _ h.ym
theorem CP.cells (h : CP S D N X YB c V w7 wr m mx L LR R cc) : wr.cell? ⟨YB, 0, none⟩ = some (.int .i64 mx.pc) ∧ wr.cell? ⟨YB, 1, none⟩ = some (.int .i64 V) ∧ wr.cell? ⟨YB, 2, none⟩ = some (.int .u64 mx.cy) ∧ wr.cell? ⟨YB, 3, none⟩ = some (.int .u64 mx.k) ∧ wr.cell? ⟨YB, 4, none⟩ = some (.bool mx.won) := row5_cells h.ym
theorem CP.count (h : CP S D N X YB c V w7 wr m mx L LR R cc) : Calls Try.prog 21 #[ptr S] wr fun a w' => a = .returned (.int .i64 cc) ∧ wr = w' := cnt_any wr h.st
theorem CP.won (h : CP S D N X YB c V w7 wr m mx L LR R cc) : Calls Try.prog 24 #[ptr X] wr fun e w' => e = .returned (.bool m.won) ∧ wr = w' := h.cm.won
theorem CP.all (h : CP S D N X YB c V w7 wr m mx L LR R cc) (hl : L.length ≤ 1000000) :
    Calls Try.prog 15 #[ptr S] wr fun a w' => a = .returned (.slice (some ⟨wr.heap.size, 0, none⟩) L.length L.length) ∧ Reads .u64 w' (some ⟨wr.heap.size, 0, none⟩) L ∧ CP S D N X YB c V w7 w' m mx L LR R cc := by
  refine (all_any wr h.st hl).mono ?_
  rintro a w1 ⟨rfl, hr, hb⟩
  exact ⟨rfl, hr.reads, h.below hb⟩
/-- The program's step. -/
theorem CP.stepM (h : CP S D N X YB c V w7 wr m mx L LR R cc) (hc : cc ≤ 800000000) :
    Calls Try.prog 22 #[ptr X, ptr S] wr fun e w' => e = .returned (.bool (decide ((cstp 1 L m).2.pc = 0))) ∧ CP S D N X YB c V w7 w' (cstp 1 L m).2 mx (cstp 1 L m).1 LR R (ccost m cc) := by
  have lo := h.lo
  have ne := h.ne
  have hc0 := h.c0
  refine (cstep_any wr h.cm h.st ⟨ne.2.2.1, ne.2.2.2.1⟩ hc0 (by omega)).mono ?_
  rintro e w1 ⟨rfl, hm, hs, u⟩
  have fr : ∀ b, Fr S D X YB b → b < wr.heap.size → ¬ (b = X ∨ b = S ∨ b = D) ∧ Fr S D X YB b := fun b hb _ => by
    obtain ⟨h1, h2, h3, h4⟩ := hb
    exact ⟨by omega, h1, h2, h3, h4⟩
  refine ⟨rfl, hs, ?_, below_uf h.bel (Nat.le_refl _) u (fun b hb => by omega), h.mp, h.ok, lo, ne, hm, (u.block YB h.ltY (by omega)).trans h.ym, h.yi, row_uf h.rd u fr⟩
  unfold ccost; split <;> omega
/-- Another one changes a word. -/
theorem CP.poke (h : CP S D N X YB c V w7 wr m mx L LR R cc) (p v : Int) (hc : cc ≤ 900000000) :
    Calls Try.prog 19 #[ptr S, .int .i64 p, .int .u64 v] wr fun e w' => e = .returned (.tuple #[]) ∧ CP S D N X YB c V w7 w' m mx (ptc L p v) LR R (cc + 1) := by
  have lo := h.lo
  have ne := h.ne
  have hc0 := h.c0
  refine (put_any p v wr h.st hc0 (by omega)).mono ?_
  rintro e w1 ⟨rfl, l⟩
  rw [ptv_eq] at l
  have u := UF.of_upd l.2
  have fr : ∀ b, Fr S D X YB b → b < wr.heap.size → ¬ (b = S ∨ b = D) ∧ Fr S D X YB b := fun b hb _ => by
    obtain ⟨h1, h2, h3, h4⟩ := hb
    exact ⟨by omega, h1, h2, h3, h4⟩
  exact ⟨rfl, l.1, by omega, below_uf h.bel (Nat.le_refl _) u (fun b hb => by omega), h.mp, h.ok, lo, ne, h.cm.keep (u.block X h.cm.lt (by omega)), (u.block YB h.ltY (by omega)).trans h.ym, h.yi, row_uf h.rd u fr⟩
/-- The document's memory is another one. -/
theorem CP.newR {R' : Option Addr} {L' : List Int} (h : CP S D N X YB c V w7 wr m mx L LR R cc) (hb : Below wr.heap.size wr w') (hr : ReadsW (Fr S D X YB) w' R' L') : CP S D N X YB c V w7 w' m mx L L' R' cc := by
  have h' := h.below hb
  exact ⟨h'.st, h'.c0, h'.bel, h'.mp, h'.ok, h'.lo, h'.ne, h'.cm, h'.ym, h'.yi, hr⟩
/-- The document's machine is laid into its box. -/
theorem CP.putY {m' : Cm} (h : CP S D N X YB c V w7 wr m mx L LR R cc) (yi : m'.p = plcc c 16 V 0 ∧ m'.pc ≤ 4 ∧ (m'.pc ≠ 0 → m'.won = false)) :
    CP S D N X YB c V w7 (put5 wr YB (.int .i64 m'.pc) (.int .i64 V) (.int .u64 m'.cy) (.int .u64 m'.k) (.bool m'.won)) m m' L LR R cc := by
  have u := UF.of_upd (put5_upd wr YB (.int .i64 m'.pc) (.int .i64 V) (.int .u64 m'.cy) (.int .u64 m'.k) (.bool m'.won))
  have s := put5_same wr YB 46 _ _ _ _ _ h.ym (.int .i64 m'.pc) (.int .i64 V) (.int .u64 m'.cy) (.int .u64 m'.k) (.bool m'.won)
  obtain ⟨W, hW⟩ : ∃ W, W = (put5 wr YB (.int .i64 m'.pc) (.int .i64 V) (.int .u64 m'.cy) (.int .u64 m'.k) (.bool m'.won)) := ⟨_, rfl⟩
  rw [← hW] at u s ⊢
  have lo := h.lo
  have ne := h.ne
  have fr : ∀ b, Fr S D X YB b → b < wr.heap.size → ¬ (b = YB ∨ b = YB) ∧ Fr S D X YB b := fun b hb _ => by
    obtain ⟨h1, h2, h3, h4⟩ := hb
    exact ⟨by omega, h1, h2, h3, h4⟩
  exact ⟨St_same h.st (u.block S h.st.ltS (fun e => by omega)) (u.block D h.st.row.lt (fun e => by omega)), h.c0, below_uf h.bel (Nat.le_refl _) u (fun b hb => by omega), h.mp, h.ok, lo, ne, h.cm.keep (u.block X h.cm.lt (by omega)), s, yi, row_uf h.rd u fr⟩
end
/-- All begins: the document's machine is laid into a new box. -/
theorem CP.begin {S D N X : Nat} {c : Cfg} {V cy : Int} {w7 w8 w : World} {L : List Int} {R : Option Addr} {cc : Int} (hs : St w S D L cc) (c0 : 0 ≤ cc) (bel : Below w7.heap.size w7 w) (mp : Lay.IsMap w7 N c) (ok : OkC c) (lo : w7.heap.size ≤ S ∧ w7.heap.size ≤ D ∧ w7.heap.size ≤ X) (ne : X ≠ S ∧ X ≠ D)
    (cm : CM w X 1 (cNew (plcc c 16 V 0) cy)) (rd : ReadsW (fun b => b ≠ S ∧ b ≠ D ∧ b ≠ X) w R L) :
    CP S D N X w.heap.size c V w7 (w.alloc (.cells #[.int .i64 1, .int .i64 V, .int .u64 cy, .int .u64 0, .bool false] 46)) (cNew (plcc c 16 V 0) cy) (cNew (plcc c 16 V 0) cy) L L R cc := by
  have hb := below_alloc0 (Below.refl w.heap.size w) (.cells #[.int .i64 1, .int .i64 V, .int .u64 cy, .int .u64 0, .bool false] 46)
  have u := UF.of_below (F := fun _ => False) hb
  have hS := hs.ltS; have hD := hs.row.lt; have hz := bel.size; have hX := cm.lt
  have fr : ∀ b, (b ≠ S ∧ b ≠ D ∧ b ≠ X) → b < w.heap.size → ¬ False ∧ Fr S D X w.heap.size b := fun b hf hlt => ⟨fun f => f, hf.1, hf.2.1, hf.2.2, by omega⟩
  refine ⟨hs.below hb, c0, below_step bel hz hb, mp, ok, ⟨lo.1, lo.2.1, hz, lo.2.2⟩, ⟨by omega, by omega, ne.1, ne.2, by omega⟩, cm.below hb, Array.getElem?_push_size, ⟨rfl, by simp [cNew], fun _ => rfl⟩, row_uf rd u fr⟩
end Go.Proofs.Ytbjhciccpkbmoaa
