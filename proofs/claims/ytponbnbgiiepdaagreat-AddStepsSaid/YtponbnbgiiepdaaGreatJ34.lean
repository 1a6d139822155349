/- A step of the document's own task that is put somewhere, as the one over words. Where a marker's deque stands, and a task that is put somewhere, begun: the document's own; walked. Two memories held against each other, walked. -/
import Derived.Test.YtponbnbgiiepdaaGreatJ33
import Derived.Test.YtponbnbgiiepdaaGreatJ24
import Derived.Test.YtponbnbgiiepdaaGreatJ20
import Derived.Test.YtponbnbgiiepdaaGreatJ1
namespace Go.Proofs.YtponbnbgiiepdaaGreat
open Go.RowKit
set_option linter.unusedVariables false
set_option linter.unusedSimpArgs false
set_option maxRecDepth 100000
open Lay (plcc plc shOf packN nodesN OkC Cfg Norm firstV Rep lenL things)

/-- It stands for m. -/
def RAm (Q : Nat → Prop) (w : World) (m : Am) (v : Value) : Prop :=
  ∃ (d0 d1 d2 d3 d4 d5 d6 d7 d8 d10 : Int) (d9 : Bool) (p0 p1 p3 p4 p5 p6 p7 p9 p10 p11 p12 : Int) (T : Option Addr) (tn tc : Nat) (LA : Option Addr) (ln lc : Nat),
    v = .agg #[.int .i64 m.pc, .int .u64 m.task, .int .i64 d0, .int .i64 d1, .int .i64 d2, .int .i64 d3, .int .i64 d4, .int .i64 d5, .int .u64 d6, .int .u64 d7, .int .u64 d8, .bool d9, .int .i64 d10, .int .i64 p0, .int .i64 p1, .slice T tn tc, .int .i64 p3, .int .i64 p4, .int .i64 p5, .int .i64 p6, .int .i64 p7, .slice LA ln lc, .int .u32 p9, .int .u64 p10, .int .u32 p11, .int .i64 p12, .bool m.sp] ∧ (m.pc = 1 → Dg.rdOf m.d = .agg #[.int .i64 d0, .int .i64 d1, .int .i64 d2, .int .i64 d3, .int .i64 d4, .int .i64 d5, .int .u64 d6, .int .u64 d7, .int .u64 d8, .bool d9, .int .i64 d10]) ∧ (m.pc = 2 → RPm Q w m.p (.agg #[.int .i64 p0, .int .i64 p1, .slice T tn tc, .int .i64 p3, .int .i64 p4, .int .i64 p5, .int .i64 p6, .int .i64 p7, .slice LA ln lc, .int .u32 p9, .int .u64 p10, .int .u32 p11, .int .i64 p12]))
theorem RAm.below {Q : Nat → Prop} {w w' : World} {m : Am} {v : Value} (h : RAm Q w m v) (hb : Below w.heap.size w w') : RAm Q w' m v := by
  obtain ⟨d0, d1, d2, d3, d4, d5, d6, d7, d8, d10, d9, p0, p1, p3, p4, p5, p6, p7, p9, p10, p11, p12, T, tn, tc, LA, ln, lc, e, h1, h2⟩ := h
  exact ⟨d0, d1, d2, d3, d4, d5, d6, d7, d8, d10, d9, p0, p1, p3, p4, p5, p6, p7, p9, p10, p11, p12, T, tn, tc, LA, ln, lc, e, h1, fun k => (h2 k).below hb⟩
theorem rastep_any {c : Cfg} (hc : OkC c) {t : Int} (Q : Nat → Prop) (A : Option Addr) (n cap : Nat) (R : Option Addr) (n' capR : Nat) (L : List Int) (m : Am) (v : Value) (w : World)
    (hA : IsA w c A n) (hn : n' = L.length) (hn2 : n' ≤ 1000000) (hR : ReadsW Q w R L) (hQ : ∀ b, w.heap.size ≤ b → Q b) (hv : RAm Q w m v) (wm : AW c t m) (ww : WW L) (ht : t ≤ 900000000) :
    Calls Tryz.prog 21 #[aVal A n cap (packN c), .slice R n' capR, v] w (SomeA Q w n' (astp (gOf c) L m).1 (fun w' v => RAm Q w' (astp (gOf c) L m).2 v)) := by
  obtain ⟨d0, d1, d2, d3, d4, d5, d6, d7, d8, d10, d9, p0, p1, p3, p4, p5, p6, p7, p9, p10, p11, p12, T, tn, tc, LA, ln, lc, rfl, hd, hp⟩ := hv
  obtain ⟨pc, tk, d, p, sp⟩ := m
  have far : ∀ w1 : World, w.heap.size + 2 < w1.heap.size → ∀ b, w1.heap.size ≤ b → NotT Q w.heap.size b := fun w1 h b hb => ⟨hQ b (by omega), by omega, by omega⟩
  have h2 : pc ≤ 2 := wm.pc
  have hcase : pc = 0 ∨ pc = 1 ∨ pc = 2 := by omega
  rcases hcase with rfl | rfl | rfl
  · have e : astp (gOf c) L ⟨0, tk, d, p, sp⟩ = (L, ⟨0, tk, d, p, sp⟩) := by simp [astp]
    rw [e]
    refine (ras_0 Q A n cap (packN c) R n' capR L tk _ _ _ _ _ _ _ _ _ _ _ _ _ _ _ _ _ _ _ _ _ _ _ _ _ _ _ _ sp w hR).mono ?_
    rintro r w' ⟨R2, c2, v, rfl, g1, rfl, g2⟩
    exact ⟨R2, c2, _, rfl, g1, ⟨d0, d1, d2, d3, d4, d5, d6, d7, d8, d10, d9, p0, p1, p3, p4, p5, p6, p7, p9, p10, p11, p12, T, tn, tc, LA, ln, lc, rfl, (fun k => by simp at k), (fun k => by simp at k)⟩, g2⟩
  · have dw := wm.d rfl
    have ed := hd rfl
    dsimp only at dw ed
    obtain ⟨L', y, hy⟩ : ∃ L' y, Dg.stp L d = (L', y) := ⟨_, _, rfl⟩
    have HC : ∀ w1, w.heap.size + 2 < w1.heap.size → ReadsW (NotT Q w.heap.size) w1 R L → Calls Tryz.prog 59 #[.slice R n' capR, .agg #[.int .i64 d0, .int .i64 d1, .int .i64 d2, .int .i64 d3, .int .i64 d4, .int .i64 d5, .int .u64 d6, .int .u64 d7, .int .u64 d8, .bool d9, .int .i64 d10]] w1 (Dg.SomeV (NotT Q w.heap.size) w1 n' L' (Dg.rdOf y)) := fun w1 g1 g2 => by
      have h := Dg.rdstep_any (NotT Q w.heap.size) R n' capR L d w1 hn hn2 g2 (far w1 g1) dw.kd dw.pc dw.ok dw.b.1
      rw [hy, ed] at h; exact h
    by_cases hp0 : y.pc = 0
    · by_cases ho : y.out = 2
      · have e : astp (gOf c) L ⟨1, tk, d, p, sp⟩ = (L', ⟨2, tk, y, pPut (gOf c) [tk], true⟩) := by simp [astp, hy, hp0, ho]
        have er : Dg.rdOf y = Dg.rdV 1 0 0 0 0 0 0 0 y.w false 2 := by simp [Dg.rdOf, hp0, ho]
        rw [er] at HC
        rw [e]
        refine (ras_d_full hc Q A n cap R n' capR L L' tk _ _ _ _ _ _ _ _ _ _ _ _ _ _ _ _ _ _ _ _ _ _ _ _ _ _ _ _ sp 1 0 0 0 0 0 0 y.w false w hR hA hQ _ rfl HC).mono ?_
        rintro r w' ⟨R2, c2, v, rfl, g1, ⟨T2, tn2, tc2, LB, lm, ld, rfl, g3⟩, g2⟩
        exact ⟨R2, c2, _, rfl, g1, ⟨_, _, _, _, _, _, _, _, _, _, _, _, _, _, _, _, _, _, _, _, _, _, T2, tn2, tc2, LB, lm, ld, rfl, (fun k => by simp at k), (fun _ => g3)⟩, g2⟩
      · have e : astp (gOf c) L ⟨1, tk, d, p, sp⟩ = (L', ⟨0, tk, y, p, sp⟩) := by simp [astp, hy, hp0, ho]
        have er : Dg.rdOf y = Dg.rdV 1 0 0 0 0 0 0 0 y.w false y.out := by simp [Dg.rdOf, hp0]
        rw [er] at HC
        rw [e]
        refine (ras_d_done Q A n cap (packN c) R n' capR L L' tk y.out _ _ _ _ _ _ _ _ _ _ _ _ _ _ _ _ _ _ _ _ _ _ _ _ _ _ _ _ sp 1 0 0 0 0 0 0 y.w false w hR (by simpa using ho) HC).mono ?_
        rintro r w' ⟨R2, c2, v, rfl, g1, rfl, g2⟩
        exact ⟨R2, c2, _, rfl, g1, ⟨_, _, _, _, _, _, _, _, _, _, _, _, _, _, _, _, _, _, _, _, _, _, T, tn, tc, LA, ln, lc, rfl, (fun k => by simp at k), (fun k => by simp at k)⟩, g2⟩
    · have e : astp (gOf c) L ⟨1, tk, d, p, sp⟩ = (L', ⟨1, tk, y, p, sp⟩) := by simp [astp, hy, hp0]
      have er : Dg.rdOf y = Dg.rdV 1 y.pc y.e.top y.e.bot y.e.ent y.e.room y.b y.t y.w y.won y.out := by simp [Dg.rdOf, hp0]
      rw [er] at HC
      rw [e]
      refine (ras_d_on Q A n cap (packN c) R n' capR L L' tk y.pc y.out _ _ _ _ _ _ _ _ _ _ _ _ _ _ _ _ _ _ _ _ _ _ _ _ _ _ _ _ sp 1 y.e.top y.e.bot y.e.ent y.e.room y.b y.t y.w y.won w hR (by simpa using hp0) HC).mono ?_
      rintro r w' ⟨R2, c2, v, rfl, g1, rfl, g2⟩
      exact ⟨R2, c2, _, rfl, g1, ⟨_, _, _, _, _, _, _, _, _, _, _, _, _, _, _, _, _, _, _, _, _, _, T, tn, tc, LA, ln, lc, rfl, (fun _ => er), (fun k => by simp at k)⟩, g2⟩
  · have pw := wm.p rfl
    have ep := hp rfl
    dsimp only at pw ep
    obtain ⟨L', y, hy⟩ : ∃ L' y, pstp (gOf c) L p = (L', y) := ⟨_, _, rfl⟩
    have HC : ∀ w1, Below w.heap.size w w1 → w.heap.size + 2 < w1.heap.size → ReadsW (NotT Q w.heap.size) w1 R L → Calls Tryz.prog 61 #[aVal A n cap (packN c), .slice R n' capR, .agg #[.int .i64 p0, .int .i64 p1, .slice T tn tc, .int .i64 p3, .int .i64 p4, .int .i64 p5, .int .i64 p6, .int .i64 p7, .slice LA ln lc, .int .u32 p9, .int .u64 p10, .int .u32 p11, .int .i64 p12]] w1 (SomePs (NotT Q w.heap.size) w1 n' L' y) := fun w1 g0 g1 g2 => by
      have h := rpstep_any hc (NotT Q w.heap.size) A n cap R n' capR L p _ w1 (hA.below g0) hn hn2 g2 (far w1 g1) (ep.far g0) pw ww ht
      rw [hy] at h; exact h
    by_cases hp0 : y.pc = 0
    · have e : astp (gOf c) L ⟨2, tk, d, p, sp⟩ = (L', ⟨0, tk, d, y, sp⟩) := by simp [astp, hy, hp0]
      rw [e]
      refine (ras_p_done Q A n cap (packN c) R n' capR L L' tk d0 d1 d2 d3 d4 d5 d6 d7 d8 d10 d9 p0 p1 p3 p4 p5 p6 p7 p9 p10 p11 p12 T tn tc LA ln lc sp y w hR (by simpa using hp0) HC).mono ?_
      rintro r w' ⟨R2, c2, v, rfl, g1, ⟨T2, tn2, tc2, LB, lm, ld, rfl, g3⟩, g2⟩
      exact ⟨R2, c2, _, rfl, g1, ⟨d0, d1, d2, d3, d4, d5, d6, d7, d8, d10, d9, _, _, _, _, _, _, _, _, _, _, _, T2, tn2, tc2, LB, lm, ld, rfl, (fun k => by simp at k), (fun k => by simp at k)⟩, g2⟩
    · have e : astp (gOf c) L ⟨2, tk, d, p, sp⟩ = (L', ⟨2, tk, d, y, sp⟩) := by simp [astp, hy, hp0]
      rw [e]
      refine (ras_p_on Q A n cap (packN c) R n' capR L L' tk d0 d1 d2 d3 d4 d5 d6 d7 d8 d10 d9 p0 p1 p3 p4 p5 p6 p7 p9 p10 p11 p12 T tn tc LA ln lc sp y w hR (by simpa using hp0) HC).mono ?_
      rintro r w' ⟨R2, c2, v, rfl, g1, ⟨T2, tn2, tc2, LB, lm, ld, rfl, g3⟩, g2⟩
      exact ⟨R2, c2, _, rfl, g1, ⟨d0, d1, d2, d3, d4, d5, d6, d7, d8, d10, d9, _, _, _, _, _, _, _, _, _, _, _, T2, tn2, tc2, LB, lm, ld, rfl, (fun k => by simp at k), (fun _ => g3)⟩, g2⟩
end Go.Proofs.YtponbnbgiiepdaaGreat

namespace Go.Proofs.YtponbnbgiiepdaaGreat
open Go.RowKit
set_option linter.unusedVariables false
set_option linter.unusedSimpArgs false
set_option maxRecDepth 100000
open Lay (plcc plc shOf packN nodesN OkC Cfg Norm firstV Rep lenL things)

/-- A marker's ends. -/
structure PE (w w' : World) (A : Option Addr) (n cap : Nat) (P : Int) : Prop where
  bel : Below w.heap.size w w'
  ba : w'.heap[w.heap.size]? = some (.cells #[.slice A n cap, .int .i64 P] 35 (0, 0))
  br : w'.heap[w.heap.size + 1]? = some (.cells #[.int .i64 0, .int .i64 0, .int .i64 0, .int .i64 0] 47 (0, 0))
section
variable {w w' w2 : World} {A : Option Addr} {n cap : Nat} {P : Int}
theorem PE.step (k : PE w w' A n cap P) (hb : Below w'.heap.size w' w2) : PE w w2 A n cap P :=
  ⟨below_step k.bel k.bel.size hb, (hb.block _ (Array.getElem?_eq_some_iff.1 k.ba).1).trans k.ba, (hb.block _ (Array.getElem?_eq_some_iff.1 k.br).1).trans k.br⟩
theorem PE.lt (k : PE w w' A n cap P) : w.heap.size + 1 < w'.heap.size := (Array.getElem?_eq_some_iff.1 k.br).1
theorem PE.cells (k : PE w w' A n cap P) : w'.cell? ⟨w.heap.size, 0, none⟩ = some (.slice A n cap) ∧ w'.cell? ⟨w.heap.size, 1, none⟩ = some (.int .i64 P) := by
  have := k.ba
  constructor <;> simp [World.cell?, this]
theorem PE.res (k : PE w w' A n cap P) : w'.cell? ⟨w.heap.size + 1, 0, none⟩ = some (.int .i64 0) ∧ w'.cell? ⟨w.heap.size + 1, 1, none⟩ = some (.int .i64 0) ∧ w'.cell? ⟨w.heap.size + 1, 2, none⟩ = some (.int .i64 0) ∧ w'.cell? ⟨w.heap.size + 1, 3, none⟩ = some (.int .i64 0) := by
  have := k.br
  refine ⟨?_, ?_, ?_, ?_⟩ <;> simp [World.cell?, this]
theorem PE.fro (k : PE w w' A n cap P) (j : Nat) : w'.frozen? ⟨w.heap.size + 1, j, none⟩ = false := frozen_of_row w' _ j _ _ k.br
theorem PE.new (w : World) (A : Option Addr) (n cap : Nat) (P : Int) : PE w ((w.alloc (.cells #[.slice A n cap, .int .i64 P] 35)).alloc (.cells #[.int .i64 0, .int .i64 0, .int .i64 0, .int .i64 0] 47)) A n cap P := by
  obtain ⟨W, hW⟩ : ∃ W, W = w.alloc (.cells #[.slice A n cap, .int .i64 P] 35) := ⟨_, rfl⟩
  have e1 : W.heap.size = w.heap.size + 1 := by rw [hW]; simp
  have h0 : W.heap[w.heap.size]? = some (.cells #[.slice A n cap, .int .i64 P] 35 (0, 0)) := by
    rw [hW]; exact Go.heap_alloc_new _ _
  have hb0 : Below w.heap.size w W := by rw [hW]; exact below_alloc0 (Below.refl _ _) _
  rw [← hW]
  have h2 : (W.alloc (.cells #[.int .i64 0, .int .i64 0, .int .i64 0, .int .i64 0] 47)).heap[w.heap.size + 1]? = some (.cells #[.int .i64 0, .int .i64 0, .int .i64 0, .int .i64 0] 47 (0, 0)) := by
    rw [← e1]; exact Go.heap_alloc_new _ _
  have hb2 : Below W.heap.size W (W.alloc (.cells #[.int .i64 0, .int .i64 0, .int .i64 0, .int .i64 0] 47)) := below_alloc0 (Below.refl _ _) _
  exact ⟨below_step hb0 hb0.size hb2, (hb2.block _ (by rw [e1]; omega)).trans h0, h2⟩
theorem PE.keep (k : PE w w' A n cap P) {v0 v1 v2 v3 : Value} : (((((w'.setCell ⟨w.heap.size + 1, 0, none⟩ v0).setCell ⟨w.heap.size + 1, 1, none⟩ v1).setCell ⟨w.heap.size + 1, 2, none⟩ v2).setCell ⟨w.heap.size + 1, 3, none⟩ v3).cell? ⟨w.heap.size, 0, none⟩ = some (.slice A n cap) ∧ ((((w'.setCell ⟨w.heap.size + 1, 0, none⟩ v0).setCell ⟨w.heap.size + 1, 1, none⟩ v1).setCell ⟨w.heap.size + 1, 2, none⟩ v2).setCell ⟨w.heap.size + 1, 3, none⟩ v3).cell? ⟨w.heap.size, 1, none⟩ = some (.int .i64 P)) := by
  have k0 := k.cells
  have far : ∀ i, ((((w'.setCell ⟨w.heap.size + 1, 0, none⟩ v0).setCell ⟨w.heap.size + 1, 1, none⟩ v1).setCell ⟨w.heap.size + 1, 2, none⟩ v2).setCell ⟨w.heap.size + 1, 3, none⟩ v3).cell? ⟨w.heap.size, i, none⟩ = w'.cell? ⟨w.heap.size, i, none⟩ := fun i => by
    rw [World.cell?_setCell_other _ _ _ _ (adr_ne (.inl (by omega))), World.cell?_setCell_other _ _ _ _ (adr_ne (.inl (by omega))), World.cell?_setCell_other _ _ _ _ (adr_ne (.inl (by omega))), World.cell?_setCell_other _ _ _ _ (adr_ne (.inl (by omega)))]
  rw [far, far]
  exact k0
theorem PE.bel4 (k : PE w w' A n cap P) {v0 v1 v2 v3 : Value} : Below w.heap.size w ((((w'.setCell ⟨w.heap.size + 1, 0, none⟩ v0).setCell ⟨w.heap.size + 1, 1, none⟩ v1).setCell ⟨w.heap.size + 1, 2, none⟩ v2).setCell ⟨w.heap.size + 1, 3, none⟩ v3) :=
  below_upd (below_upd (below_upd (below_upd k.bel (Nat.le_refl _) (upd_set1 _ (w.heap.size + 1) 0 v0) (by omega) (by omega)) (Nat.le_refl _) (upd_set1 _ (w.heap.size + 1) 1 v1) (by omega) (by omega)) (Nat.le_refl _) (upd_set1 _ (w.heap.size + 1) 2 v2) (by omega) (by omega)) (Nat.le_refl _) (upd_set1 _ (w.heap.size + 1) 3 v3) (by omega) (by omega)
end
set_option maxHeartbeats 8000000 in
theorem rends_any (c : Cfg) (A : Option Addr) (n cap : Nat) (P i rm : Int) (w : World) (h : IsA w c A n) :
    Calls Tryz.prog 28 #[aVal A n cap P, .int .i64 rm, .int .i64 i] w fun e w' => e = .returned (.agg #[.int .i64 (plcc c 8 i 0), .int .i64 (plcc c 9 i 0), .int .i64 (plcc c 10 i 0), .int .i64 rm]) ∧ Below w.heap.size w w' := by
  have hp := PE.new w A n cap P
  have HPD := Lib.hid (hp.step (Below.refl _ _).drew)
  have HA := Lib.hid h
  obtain ⟨a0, a1⟩ := hp.cells
  have HN8 : Hid (Norm ⟨8, i, 0⟩) := Lib.hid (nrm 8 i 0 (by omega) (by omega) (fun h => by omega) (fun _ _ _ => rfl))
  have HN9 : Hid (Norm ⟨9, i, 0⟩) := Lib.hid (nrm 9 i 0 (by omega) (by omega) (fun h => by omega) (fun _ _ _ => rfl))
  have HN10 : Hid (Norm ⟨10, i, 0⟩) := Lib.hid (nrm 10 i 0 (by omega) (by omega) (fun h => by omega) (fun _ _ _ => rfl))
  obtain ⟨x8, h8⟩ : ∃ x, x = plcc c 8 i 0 := ⟨_, rfl⟩
  obtain ⟨x9, h9⟩ : ∃ x, x = plcc c 9 i 0 := ⟨_, rfl⟩
  obtain ⟨x10, h10⟩ : ∃ x, x = plcc c 10 i 0 := ⟨_, rfl⟩
  rw [← h8, ← h9, ← h10]
  have H8 := Lib.hid h8; have H9 := Lib.hid h9; have H10 := Lib.hid h10
  clear h hp h8 h9 h10
  go_enter Tryz.func28, Tryz.ntmps28
  go_wp2_with (fail)
  go_region_held3 (fun w' => w'.cell? ⟨w.heap.size, 0, none⟩ = some (.slice A n cap) ∧ w'.cell? ⟨w.heap.size, 1, none⟩ = some (.int .i64 P))
    (first | (with_reducible exact HP3.out.keep) | (with_reducible exact HP3.out.cells) | (with_reducible exact HP2.out.cells) | (with_reducible exact HP1.out.cells) | (with_reducible exact HPD.out.cells) | go_keep)
    (first
      | (go_at_call 66; (with_reducible refine (rat_any c A n cap P 8 i 0 _ (HA.out.below HPD.out.bel) HN8.out).mono ?_); rintro r w3 ⟨rfl, hb⟩; rw [← H8.out]; have HP1 := Lib.hid (HPD.out.step hb); clear hb)
      | (go_at_call 66; (with_reducible refine (rat_any c A n cap P 9 i 0 _ (HA.out.below HP1.out.bel) HN9.out).mono ?_); rintro r w4 ⟨rfl, hb⟩; rw [← H9.out]; have HP2 := Lib.hid (HP1.out.step hb); clear hb)
      | (go_at_call 66; (with_reducible refine (rat_any c A n cap P 10 i 0 _ (HA.out.below HP2.out.bel) HN10.out).mono ?_); rintro r w5 ⟨rfl, hb⟩; rw [← H10.out]; have HP3 := Lib.hid (HP2.out.step hb); clear hb; obtain ⟨r0, r1, r2, r3⟩ := HP3.out.res; have hfr := HP3.out.fro)
      | fail)
  all_goals
    go_wp2_with (fail)
    exact bodyPost_ret (v := .agg #[.int .i64 x8, .int .i64 x9, .int .i64 x10, .int .i64 rm]) (by simp [results, Tryz.results28, go_sem, r0, r1, r2, r3]) rfl ⟨rfl, HP3.out.bel4⟩
/-- A map's box, a configuration's, and the result's place. -/
structure PN (w w' : World) (A : Option Addr) (n cap : Nat) (P : Int) (c : Cfg) : Prop where
  bel : Below w.heap.size w w'
  ba : w'.heap[w.heap.size]? = some (.cells #[.slice A n cap, .int .i64 P] 35 (0, 0))
  bc : w'.heap[w.heap.size + 1]? = some (.cells #[.int .i64 c.a, .int .i64 c.b, .int .i64 c.c, .int .i64 c.d, .int .i64 c.e, .int .i64 c.mr, .int .i64 c.mu, .int .i64 c.dq, .int .i64 c.ch, .int .i64 c.bf, .int .i64 c.rt, .int .i64 c.sw] 37 (0, 0))
  br : w'.heap[w.heap.size + 1 + 1]? = some (.cells #[.int .i64 0, .int .u64 0, .int .i64 0, .int .i64 0, .int .i64 0, .int .i64 0, .int .i64 0, .int .i64 0, .int .u64 0, .int .u64 0, .int .u64 0, .bool false, .int .i64 0, .int .i64 0, .int .i64 0, .slice none 0 0, .int .i64 0, .int .i64 0, .int .i64 0, .int .i64 0, .int .i64 0, .slice none 0 0, .int .u32 0, .int .u64 0, .int .u32 0, .int .i64 0, .bool false] 59 (0, 0))
section
variable {w w' w2 : World} {A : Option Addr} {n cap : Nat} {P : Int} {c : Cfg}
theorem PN.step (k : PN w w' A n cap P c) (hb : Below w'.heap.size w' w2) : PN w w2 A n cap P c :=
  ⟨below_step k.bel k.bel.size hb, (hb.block _ (Array.getElem?_eq_some_iff.1 k.ba).1).trans k.ba, (hb.block _ (Array.getElem?_eq_some_iff.1 k.bc).1).trans k.bc, (hb.block _ (Array.getElem?_eq_some_iff.1 k.br).1).trans k.br⟩
theorem PN.lt (k : PN w w' A n cap P c) : w.heap.size + 1 + 1 < w'.heap.size := (Array.getElem?_eq_some_iff.1 k.br).1
theorem PN.cells (k : PN w w' A n cap P c) : w'.cell? ⟨w.heap.size, 0, none⟩ = some (.slice A n cap) ∧ w'.cell? ⟨w.heap.size, 1, none⟩ = some (.int .i64 P) ∧ w'.cell? ⟨w.heap.size + 1, 5, none⟩ = some (.int .i64 c.mr) ∧ w'.cell? ⟨w.heap.size + 1, 7, none⟩ = some (.int .i64 c.dq) := by
  have := k.ba
  have := k.bc
  refine ⟨?_, ?_, ?_, ?_⟩ <;> simp [World.cell?, *]
theorem PN.there (k : PN w w' A n cap P c) : w'.there (w.heap.size + 1 + 1) 0 27 := fun j hj => by
  refine ⟨?_, ?_⟩
  · have h := cell_of_row w' (w.heap.size + 1 + 1) (0 + j) _ _ _ k.br
    rw [h, Array.getElem?_eq_getElem (by simp; omega)]; rfl
  · exact frozen_of_row w' _ _ _ _ k.br
theorem PN.fro (k : PN w w' A n cap P c) (j : Nat) : w'.frozen? ⟨w.heap.size + 1 + 1, j, none⟩ = false := frozen_of_row w' _ j _ _ k.br
theorem PN.res (k : PN w w' A n cap P c) : w'.cell? ⟨w.heap.size + 1 + 1, 0, none⟩ = some (.int .i64 0) ∧ w'.cell? ⟨w.heap.size + 1 + 1, 1, none⟩ = some (.int .u64 0) ∧ w'.cell? ⟨w.heap.size + 1 + 1, 2, none⟩ = some (.int .i64 0) ∧ w'.cell? ⟨w.heap.size + 1 + 1, 3, none⟩ = some (.int .i64 0) ∧ w'.cell? ⟨w.heap.size + 1 + 1, 4, none⟩ = some (.int .i64 0) ∧ w'.cell? ⟨w.heap.size + 1 + 1, 5, none⟩ = some (.int .i64 0) ∧ w'.cell? ⟨w.heap.size + 1 + 1, 6, none⟩ = some (.int .i64 0) ∧ w'.cell? ⟨w.heap.size + 1 + 1, 7, none⟩ = some (.int .i64 0) ∧ w'.cell? ⟨w.heap.size + 1 + 1, 8, none⟩ = some (.int .u64 0) ∧ w'.cell? ⟨w.heap.size + 1 + 1, 9, none⟩ = some (.int .u64 0) ∧ w'.cell? ⟨w.heap.size + 1 + 1, 10, none⟩ = some (.int .u64 0) ∧ w'.cell? ⟨w.heap.size + 1 + 1, 11, none⟩ = some (.bool false) ∧ w'.cell? ⟨w.heap.size + 1 + 1, 12, none⟩ = some (.int .i64 0) ∧ w'.cell? ⟨w.heap.size + 1 + 1, 13, none⟩ = some (.int .i64 0) ∧ w'.cell? ⟨w.heap.size + 1 + 1, 14, none⟩ = some (.int .i64 0) ∧ w'.cell? ⟨w.heap.size + 1 + 1, 15, none⟩ = some (.slice none 0 0) ∧ w'.cell? ⟨w.heap.size + 1 + 1, 16, none⟩ = some (.int .i64 0) ∧ w'.cell? ⟨w.heap.size + 1 + 1, 17, none⟩ = some (.int .i64 0) ∧ w'.cell? ⟨w.heap.size + 1 + 1, 18, none⟩ = some (.int .i64 0) ∧ w'.cell? ⟨w.heap.size + 1 + 1, 19, none⟩ = some (.int .i64 0) ∧ w'.cell? ⟨w.heap.size + 1 + 1, 20, none⟩ = some (.int .i64 0) ∧ w'.cell? ⟨w.heap.size + 1 + 1, 21, none⟩ = some (.slice none 0 0) ∧ w'.cell? ⟨w.heap.size + 1 + 1, 22, none⟩ = some (.int .u32 0) ∧ w'.cell? ⟨w.heap.size + 1 + 1, 23, none⟩ = some (.int .u64 0) ∧ w'.cell? ⟨w.heap.size + 1 + 1, 24, none⟩ = some (.int .u32 0) ∧ w'.cell? ⟨w.heap.size + 1 + 1, 25, none⟩ = some (.int .i64 0) ∧ w'.cell? ⟨w.heap.size + 1 + 1, 26, none⟩ = some (.bool false) := row27_cells k.br
theorem PN.put (k : PN w w' A n cap P c) (u0 u1 u2 u3 u4 u5 u6 u7 u8 u9 u10 u11 u12 u13 u14 u15 u16 u17 u18 u19 u20 u21 u22 u23 u24 u25 u26 : Value) : Below w.heap.size w (ad27 w' (w.heap.size + 1 + 1) u0 u1 u2 u3 u4 u5 u6 u7 u8 u9 u10 u11 u12 u13 u14 u15 u16 u17 u18 u19 u20 u21 u22 u23 u24 u25 u26) ∧ (ad27 w' (w.heap.size + 1 + 1) u0 u1 u2 u3 u4 u5 u6 u7 u8 u9 u10 u11 u12 u13 u14 u15 u16 u17 u18 u19 u20 u21 u22 u23 u24 u25 u26).rangeAt (w.heap.size + 1 + 1) 0 [u0, u1, u2, u3, u4, u5, u6, u7, u8, u9, u10, u11, u12, u13, u14, u15, u16, u17, u18, u19, u20, u21, u22, u23, u24, u25, u26] :=
  ⟨below_upd k.bel (Nat.le_refl _) (ad27_upd w' (w.heap.size + 1 + 1) u0 u1 u2 u3 u4 u5 u6 u7 u8 u9 u10 u11 u12 u13 u14 u15 u16 u17 u18 u19 u20 u21 u22 u23 u24 u25 u26) (by omega) (by omega), fun j v hv => by
    rw [cell_of_row _ (w.heap.size + 1 + 1) (0 + j) _ _ _ (ad27_same w' (w.heap.size + 1 + 1) 59 _ _ _ _ _ _ _ _ _ _ _ _ _ _ _ _ _ _ _ _ _ _ _ _ _ _ _ k.br u0 u1 u2 u3 u4 u5 u6 u7 u8 u9 u10 u11 u12 u13 u14 u15 u16 u17 u18 u19 u20 u21 u22 u23 u24 u25 u26), Nat.zero_add, List.getElem?_toArray]; exact hv⟩
theorem PN.new (w : World) (A : Option Addr) (n cap : Nat) (P : Int) (c : Cfg) : PN w (((w.alloc (.cells #[.slice A n cap, .int .i64 P] 35)).alloc (.cells #[.int .i64 c.a, .int .i64 c.b, .int .i64 c.c, .int .i64 c.d, .int .i64 c.e, .int .i64 c.mr, .int .i64 c.mu, .int .i64 c.dq, .int .i64 c.ch, .int .i64 c.bf, .int .i64 c.rt, .int .i64 c.sw] 37)).alloc (.cells #[.int .i64 0, .int .u64 0, .int .i64 0, .int .i64 0, .int .i64 0, .int .i64 0, .int .i64 0, .int .i64 0, .int .u64 0, .int .u64 0, .int .u64 0, .bool false, .int .i64 0, .int .i64 0, .int .i64 0, .slice none 0 0, .int .i64 0, .int .i64 0, .int .i64 0, .int .i64 0, .int .i64 0, .slice none 0 0, .int .u32 0, .int .u64 0, .int .u32 0, .int .i64 0, .bool false] 59)) A n cap P c := by
  obtain ⟨W, hW⟩ : ∃ W, W = w.alloc (.cells #[.slice A n cap, .int .i64 P] 35) := ⟨_, rfl⟩
  have e1 : W.heap.size = w.heap.size + 1 := by rw [hW]; simp
  have h0 : W.heap[w.heap.size]? = some (.cells #[.slice A n cap, .int .i64 P] 35 (0, 0)) := by
    rw [hW]; exact Go.heap_alloc_new _ _
  have hb0 : Below w.heap.size w W := by rw [hW]; exact below_alloc0 (Below.refl _ _) _
  rw [← hW]
  obtain ⟨V, hV⟩ : ∃ V, V = W.alloc (.cells #[.int .i64 c.a, .int .i64 c.b, .int .i64 c.c, .int .i64 c.d, .int .i64 c.e, .int .i64 c.mr, .int .i64 c.mu, .int .i64 c.dq, .int .i64 c.ch, .int .i64 c.bf, .int .i64 c.rt, .int .i64 c.sw] 37) := ⟨_, rfl⟩
  have e2 : V.heap.size = w.heap.size + 2 := by rw [hV]; simp [e1]
  have h1 : V.heap[w.heap.size + 1]? = some (.cells #[.int .i64 c.a, .int .i64 c.b, .int .i64 c.c, .int .i64 c.d, .int .i64 c.e, .int .i64 c.mr, .int .i64 c.mu, .int .i64 c.dq, .int .i64 c.ch, .int .i64 c.bf, .int .i64 c.rt, .int .i64 c.sw] 37 (0, 0)) := by
    rw [hV, ← e1]; exact Go.heap_alloc_new _ _
  have hb1 : Below W.heap.size W V := by rw [hV]; exact below_alloc0 (Below.refl _ _) _
  rw [← hV]
  have h2 : (V.alloc (.cells #[.int .i64 0, .int .u64 0, .int .i64 0, .int .i64 0, .int .i64 0, .int .i64 0, .int .i64 0, .int .i64 0, .int .u64 0, .int .u64 0, .int .u64 0, .bool false, .int .i64 0, .int .i64 0, .int .i64 0, .slice none 0 0, .int .i64 0, .int .i64 0, .int .i64 0, .int .i64 0, .int .i64 0, .slice none 0 0, .int .u32 0, .int .u64 0, .int .u32 0, .int .i64 0, .bool false] 59)).heap[w.heap.size + 1 + 1]? = some (.cells #[.int .i64 0, .int .u64 0, .int .i64 0, .int .i64 0, .int .i64 0, .int .i64 0, .int .i64 0, .int .i64 0, .int .u64 0, .int .u64 0, .int .u64 0, .bool false, .int .i64 0, .int .i64 0, .int .i64 0, .slice none 0 0, .int .i64 0, .int .i64 0, .int .i64 0, .int .i64 0, .int .i64 0, .slice none 0 0, .int .u32 0, .int .u64 0, .int .u32 0, .int .i64 0, .bool false] 59 (0, 0)) := by
    rw [show w.heap.size + 1 + 1 = V.heap.size from e2.symm]; exact Go.heap_alloc_new _ _
  have hb2 : Below V.heap.size V (V.alloc (.cells #[.int .i64 0, .int .u64 0, .int .i64 0, .int .i64 0, .int .i64 0, .int .i64 0, .int .i64 0, .int .i64 0, .int .u64 0, .int .u64 0, .int .u64 0, .bool false, .int .i64 0, .int .i64 0, .int .i64 0, .slice none 0 0, .int .i64 0, .int .i64 0, .int .i64 0, .int .i64 0, .int .i64 0, .slice none 0 0, .int .u32 0, .int .u64 0, .int .u32 0, .int .i64 0, .bool false] 59)) := below_alloc0 (Below.refl _ _) _
  exact ⟨below_step (below_step hb0 hb0.size hb1) (by rw [e2]; omega) hb2, (hb2.block _ (by rw [e2]; omega)).trans ((hb1.block _ (by rw [e1]; omega)).trans h0), (hb2.block _ (by rw [e2]; omega)).trans h1, h2⟩
end
def SomeR (Q : Nat → Prop) (m : Am) (w : World) (e : Ending) (w' : World) : Prop := ∃ v, e = .returned v ∧ RAm Q w' m v ∧ Below w.heap.size w w'
/-- A function's one result: a variable. -/
theorem res1 {P : Program} {fn : Func} {q : Tmp} {ty : TypeId} (h : fn.results = #[.cell q ty]) (tmps : Array Value) (w : World) (c : Value) (a : Addr) (hq : tmps.getD q undef = .pointer (some a)) (hl : (loadVar ty a).run P w = .ok c w) : (results fn tmps).run P w = .ok c w := by
  have hq' : tmps[q]?.getD undef = .pointer (some a) := by simpa using hq
  simp [results, h, hq', asAddr, hl]

set_option maxHeartbeats 16000000 in
theorem ranew_neg (Q : Nat → Prop) (c : Cfg) (A : Option Addr) (n cap : Nat) (P i tk : Int) (w : World) (h : IsA w c A n) (d : Dg.Mc) (p : Pm) (hi : decide (i < 0) = true) :
    Calls Tryz.prog 18 #[aVal A n cap P, Lay.cfgV c, .int .i64 i, .int .u64 tk] w (SomeR Q ⟨0, 0, d, p, false⟩ w) := by
  have hp := PN.new w A n cap P c
  have HP0 := Lib.hid hp
  have HA := Lib.hid h
  obtain ⟨a0, a1, a5, a7⟩ := hp.cells
  clear h
  have hlt0 := hp.lt
  obtain ⟨W1, hW1⟩ : ∃ W1, W1 = (((w.alloc (.cells #[.slice A n cap, .int .i64 P] 35)).alloc (.cells #[.int .i64 c.a, .int .i64 c.b, .int .i64 c.c, .int .i64 c.d, .int .i64 c.e, .int .i64 c.mr, .int .i64 c.mu, .int .i64 c.dq, .int .i64 c.ch, .int .i64 c.bf, .int .i64 c.rt, .int .i64 c.sw] 37)).alloc (.cells #[.int .i64 0, .int .u64 0, .int .i64 0, .int .i64 0, .int .i64 0, .int .i64 0, .int .i64 0, .int .i64 0, .int .u64 0, .int .u64 0, .int .u64 0, .bool false, .int .i64 0, .int .i64 0, .int .i64 0, .slice none 0 0, .int .i64 0, .int .i64 0, .int .i64 0, .int .i64 0, .int .i64 0, .slice none 0 0, .int .u32 0, .int .u64 0, .int .u32 0, .int .i64 0, .bool false] 59)) := ⟨_, rfl⟩
  rw [← hW1] at HP0 a0 a1 a5 a7 hlt0
  have HW1 := Lib.hid hW1
  clear hp hW1
  go_enter Tryz.func18, Tryz.ntmps18
  go_upto_region 2 with (fail)
  rw [← HW1.out]
  clear HW1
  refine wp_region_list ?_
  refine wpList_build rfl 59 _ rfl (by kernel_rfl) ?_; refine wpList_store_mid rfl 59 (.tmp 8) (.tmp 17) rfl (w.heap.size + 1 + 1) 0 #[.int .i64 0, .int .u64 0, .int .i64 0, .int .i64 0, .int .i64 0, .int .i64 0, .int .i64 0, .int .i64 0, .int .u64 0, .int .u64 0, .int .u64 0, .bool false, .int .i64 0, .int .i64 0, .int .i64 0, .slice none 0 0, .int .i64 0, .int .i64 0, .int .i64 0, .int .i64 0, .int .i64 0, .slice none 0 0, .int .u32 0, .int .u64 0, .int .u32 0, .int .i64 0, .bool false] rfl (by kernel_rfl) HP0.out.there (by kernel_rfl) (by simp only [List.all_toArray, List.all_cons, List.all_nil, Value.oneCell', Bool.and_self]) ?_; refine wpList_nil ?_
  rw [set27]
  go_wp2
  obtain ⟨W3, hW3⟩ : ∃ W3, W3 = ad27 W1 (w.heap.size + 1 + 1) (.int .i64 0) (.int .u64 0) (.int .i64 0) (.int .i64 0) (.int .i64 0) (.int .i64 0) (.int .i64 0) (.int .i64 0) (.int .u64 0) (.int .u64 0) (.int .u64 0) (.bool false) (.int .i64 0) (.int .i64 0) (.int .i64 0) (.slice none 0 0) (.int .i64 0) (.int .i64 0) (.int .i64 0) (.int .i64 0) (.int .i64 0) (.slice none 0 0) (.int .u32 0) (.int .u64 0) (.int .u32 0) (.int .i64 0) (.bool false) := ⟨_, rfl⟩
  have hl : (loadVar 59 ⟨w.heap.size + 1 + 1, 0, none⟩).run Tryz.prog W3 = .ok (.agg #[.int .i64 0, .int .u64 0, .int .i64 0, .int .i64 0, .int .i64 0, .int .i64 0, .int .i64 0, .int .i64 0, .int .u64 0, .int .u64 0, .int .u64 0, .bool false, .int .i64 0, .int .i64 0, .int .i64 0, .slice none 0 0, .int .i64 0, .int .i64 0, .int .i64 0, .int .i64 0, .int .i64 0, .slice none 0 0, .int .u32 0, .int .u64 0, .int .u32 0, .int .i64 0, .bool false]) W3 := by
    rw [hW3]; exact run_loadVar_mid _ _ 0 59 _ _ (HP0.out.put (.int .i64 0) (.int .u64 0) (.int .i64 0) (.int .i64 0) (.int .i64 0) (.int .i64 0) (.int .i64 0) (.int .i64 0) (.int .u64 0) (.int .u64 0) (.int .u64 0) (.bool false) (.int .i64 0) (.int .i64 0) (.int .i64 0) (.slice none 0 0) (.int .i64 0) (.int .i64 0) (.int .i64 0) (.int .i64 0) (.int .i64 0) (.slice none 0 0) (.int .u32 0) (.int .u64 0) (.int .u32 0) (.int .i64 0) (.bool false)).2 row59.choose_spec.1 row59.choose_spec.2 (by kernel_rfl)
  have hb3 : Below w.heap.size w W3 := by rw [hW3]; exact (HP0.out.put (.int .i64 0) (.int .u64 0) (.int .i64 0) (.int .i64 0) (.int .i64 0) (.int .i64 0) (.int .i64 0) (.int .i64 0) (.int .u64 0) (.int .u64 0) (.int .u64 0) (.bool false) (.int .i64 0) (.int .i64 0) (.int .i64 0) (.slice none 0 0) (.int .i64 0) (.int .i64 0) (.int .i64 0) (.int .i64 0) (.int .i64 0) (.slice none 0 0) (.int .u32 0) (.int .u64 0) (.int .u32 0) (.int .i64 0) (.bool false)).1
  rw [← hW3]
  clear hW3
  exact bodyPost_ret (v := .agg #[.int .i64 0, .int .u64 0, .int .i64 0, .int .i64 0, .int .i64 0, .int .i64 0, .int .i64 0, .int .i64 0, .int .u64 0, .int .u64 0, .int .u64 0, .bool false, .int .i64 0, .int .i64 0, .int .i64 0, .slice none 0 0, .int .i64 0, .int .i64 0, .int .i64 0, .int .i64 0, .int .i64 0, .slice none 0 0, .int .u32 0, .int .u64 0, .int .u32 0, .int .i64 0, .bool false]) (res1 Tryz.results18 _ W3 _ _ rfl hl) rfl ⟨_, rfl, ⟨_, _, _, _, _, _, _, _, _, _, _, _, _, _, _, _, _, _, _, _, _, _, _, _, _, _, _, _, rfl, (fun k => by simp at k), (fun k => by simp at k)⟩, hb3⟩

set_option maxHeartbeats 16000000 in
theorem ranew_big (Q : Nat → Prop) (c : Cfg) (A : Option Addr) (n cap : Nat) (P i tk : Int) (w : World) (h : IsA w c A n) (d : Dg.Mc) (p : Pm) (hi : decide (i < 0) = false) (hj : decide (c.mr ≤ i) = true) :
    Calls Tryz.prog 18 #[aVal A n cap P, Lay.cfgV c, .int .i64 i, .int .u64 tk] w (SomeR Q ⟨0, 0, d, p, false⟩ w) := by
  have hp := PN.new w A n cap P c
  have HP0 := Lib.hid hp
  have HA := Lib.hid h
  obtain ⟨a0, a1, a5, a7⟩ := hp.cells
  clear h
  have hlt0 := hp.lt
  obtain ⟨W1, hW1⟩ : ∃ W1, W1 = (((w.alloc (.cells #[.slice A n cap, .int .i64 P] 35)).alloc (.cells #[.int .i64 c.a, .int .i64 c.b, .int .i64 c.c, .int .i64 c.d, .int .i64 c.e, .int .i64 c.mr, .int .i64 c.mu, .int .i64 c.dq, .int .i64 c.ch, .int .i64 c.bf, .int .i64 c.rt, .int .i64 c.sw] 37)).alloc (.cells #[.int .i64 0, .int .u64 0, .int .i64 0, .int .i64 0, .int .i64 0, .int .i64 0, .int .i64 0, .int .i64 0, .int .u64 0, .int .u64 0, .int .u64 0, .bool false, .int .i64 0, .int .i64 0, .int .i64 0, .slice none 0 0, .int .i64 0, .int .i64 0, .int .i64 0, .int .i64 0, .int .i64 0, .slice none 0 0, .int .u32 0, .int .u64 0, .int .u32 0, .int .i64 0, .bool false] 59)) := ⟨_, rfl⟩
  rw [← hW1] at HP0 a0 a1 a5 a7 hlt0
  have HW1 := Lib.hid hW1
  clear hp hW1
  go_enter Tryz.func18, Tryz.ntmps18
  go_upto_region 2 with (fail)
  rw [← HW1.out]
  clear HW1
  refine wp_region_list ?_
  refine wpList_build rfl 59 _ rfl (by kernel_rfl) ?_; refine wpList_store_mid rfl 59 (.tmp 8) (.tmp 17) rfl (w.heap.size + 1 + 1) 0 #[.int .i64 0, .int .u64 0, .int .i64 0, .int .i64 0, .int .i64 0, .int .i64 0, .int .i64 0, .int .i64 0, .int .u64 0, .int .u64 0, .int .u64 0, .bool false, .int .i64 0, .int .i64 0, .int .i64 0, .slice none 0 0, .int .i64 0, .int .i64 0, .int .i64 0, .int .i64 0, .int .i64 0, .slice none 0 0, .int .u32 0, .int .u64 0, .int .u32 0, .int .i64 0, .bool false] rfl (by kernel_rfl) HP0.out.there (by kernel_rfl) (by simp only [List.all_toArray, List.all_cons, List.all_nil, Value.oneCell', Bool.and_self]) ?_; refine wpList_nil ?_
  rw [set27]
  go_wp2
  obtain ⟨W3, hW3⟩ : ∃ W3, W3 = ad27 W1 (w.heap.size + 1 + 1) (.int .i64 0) (.int .u64 0) (.int .i64 0) (.int .i64 0) (.int .i64 0) (.int .i64 0) (.int .i64 0) (.int .i64 0) (.int .u64 0) (.int .u64 0) (.int .u64 0) (.bool false) (.int .i64 0) (.int .i64 0) (.int .i64 0) (.slice none 0 0) (.int .i64 0) (.int .i64 0) (.int .i64 0) (.int .i64 0) (.int .i64 0) (.slice none 0 0) (.int .u32 0) (.int .u64 0) (.int .u32 0) (.int .i64 0) (.bool false) := ⟨_, rfl⟩
  have hl : (loadVar 59 ⟨w.heap.size + 1 + 1, 0, none⟩).run Tryz.prog W3 = .ok (.agg #[.int .i64 0, .int .u64 0, .int .i64 0, .int .i64 0, .int .i64 0, .int .i64 0, .int .i64 0, .int .i64 0, .int .u64 0, .int .u64 0, .int .u64 0, .bool false, .int .i64 0, .int .i64 0, .int .i64 0, .slice none 0 0, .int .i64 0, .int .i64 0, .int .i64 0, .int .i64 0, .int .i64 0, .slice none 0 0, .int .u32 0, .int .u64 0, .int .u32 0, .int .i64 0, .bool false]) W3 := by
    rw [hW3]; exact run_loadVar_mid _ _ 0 59 _ _ (HP0.out.put (.int .i64 0) (.int .u64 0) (.int .i64 0) (.int .i64 0) (.int .i64 0) (.int .i64 0) (.int .i64 0) (.int .i64 0) (.int .u64 0) (.int .u64 0) (.int .u64 0) (.bool false) (.int .i64 0) (.int .i64 0) (.int .i64 0) (.slice none 0 0) (.int .i64 0) (.int .i64 0) (.int .i64 0) (.int .i64 0) (.int .i64 0) (.slice none 0 0) (.int .u32 0) (.int .u64 0) (.int .u32 0) (.int .i64 0) (.bool false)).2 row59.choose_spec.1 row59.choose_spec.2 (by kernel_rfl)
  have hb3 : Below w.heap.size w W3 := by rw [hW3]; exact (HP0.out.put (.int .i64 0) (.int .u64 0) (.int .i64 0) (.int .i64 0) (.int .i64 0) (.int .i64 0) (.int .i64 0) (.int .i64 0) (.int .u64 0) (.int .u64 0) (.int .u64 0) (.bool false) (.int .i64 0) (.int .i64 0) (.int .i64 0) (.slice none 0 0) (.int .i64 0) (.int .i64 0) (.int .i64 0) (.int .i64 0) (.int .i64 0) (.slice none 0 0) (.int .u32 0) (.int .u64 0) (.int .u32 0) (.int .i64 0) (.bool false)).1
  rw [← hW3]
  clear hW3
  exact bodyPost_ret (v := .agg #[.int .i64 0, .int .u64 0, .int .i64 0, .int .i64 0, .int .i64 0, .int .i64 0, .int .i64 0, .int .i64 0, .int .u64 0, .int .u64 0, .int .u64 0, .bool false, .int .i64 0, .int .i64 0, .int .i64 0, .slice none 0 0, .int .i64 0, .int .i64 0, .int .i64 0, .int .i64 0, .int .i64 0, .slice none 0 0, .int .u32 0, .int .u64 0, .int .u32 0, .int .i64 0, .bool false]) (res1 Tryz.results18 _ W3 _ _ rfl hl) rfl ⟨_, rfl, ⟨_, _, _, _, _, _, _, _, _, _, _, _, _, _, _, _, _, _, _, _, _, _, _, _, _, _, _, _, rfl, (fun k => by simp at k), (fun k => by simp at k)⟩, hb3⟩

set_option maxHeartbeats 16000000 in
theorem ranew_in (Q : Nat → Prop) (c : Cfg) (A : Option Addr) (n cap : Nat) (P i tk : Int) (w : World) (h : IsA w c A n) (hi : decide (i < 0) = false) (hj : decide (c.mr ≤ i) = false) :
    Calls Tryz.prog 18 #[aVal A n cap P, Lay.cfgV c, .int .i64 i, .int .u64 tk] w (SomeR Q (aNew (eOf c i) tk) w) := by
  have hp := PN.new w A n cap P c
  have HP0 := Lib.hid hp
  have HA := Lib.hid h
  obtain ⟨a0, a1, a5, a7⟩ := hp.cells
  clear h
  have hlt0 := hp.lt
  obtain ⟨W1, hW1⟩ : ∃ W1, W1 = (((w.alloc (.cells #[.slice A n cap, .int .i64 P] 35)).alloc (.cells #[.int .i64 c.a, .int .i64 c.b, .int .i64 c.c, .int .i64 c.d, .int .i64 c.e, .int .i64 c.mr, .int .i64 c.mu, .int .i64 c.dq, .int .i64 c.ch, .int .i64 c.bf, .int .i64 c.rt, .int .i64 c.sw] 37)).alloc (.cells #[.int .i64 0, .int .u64 0, .int .i64 0, .int .i64 0, .int .i64 0, .int .i64 0, .int .i64 0, .int .i64 0, .int .u64 0, .int .u64 0, .int .u64 0, .bool false, .int .i64 0, .int .i64 0, .int .i64 0, .slice none 0 0, .int .i64 0, .int .i64 0, .int .i64 0, .int .i64 0, .int .i64 0, .slice none 0 0, .int .u32 0, .int .u64 0, .int .u32 0, .int .i64 0, .bool false] 59)) := ⟨_, rfl⟩
  rw [← hW1] at HP0 a0 a1 a5 a7 hlt0
  have HW1 := Lib.hid hW1
  clear hp hW1
  go_enter Tryz.func18, Tryz.ntmps18
  have HPU : Hid (∀ w, Calls Tryz.prog 58 #[.agg #[.int .i64 (plcc c 8 i 0), .int .i64 (plcc c 9 i 0), .int .i64 (plcc c 10 i 0), .int .i64 c.dq], .int .u64 tk] w fun a w' => a = .returned (.agg #[.int .i64 1, .int .i64 1, .int .i64 (plcc c 8 i 0), .int .i64 (plcc c 9 i 0), .int .i64 (plcc c 10 i 0), .int .i64 c.dq, .int .u64 0, .int .u64 0, .int .u64 tk, .bool false, .int .i64 0]) ∧ Below w.heap.size w w') := Lib.hid (fun w => Dg.rdpush_any (eOf c i) tk w)
  go_upto_if 16 with (fail)
  rw [← HW1.out]
  clear HW1
  go_wp2_with (first
    | (go_at_call 28; (with_reducible refine (rends_any c A n cap P i c.dq _ (HA.out.below HP0.out.bel)).mono ?_); rintro r w3 ⟨rfl, hb⟩; have HP1 := Lib.hid (HP0.out.step hb); clear hb a0 a1 a5 a7)
    | (go_at_call 58; (with_reducible refine (HPU.out _).mono ?_); rintro r w4 ⟨rfl, hb⟩; have HP2 := Lib.hid (HP1.out.step hb); clear hb; rename_i hKK; refine hKK _ _ ?_; refine wpList_build rfl 59 _ rfl (by kernel_rfl) ?_; refine wpList_store_mid rfl 59 (.tmp 8) (.tmp 26) rfl (w.heap.size + 1 + 1) 0 #[.int .i64 1, .int .u64 tk, .int .i64 1, .int .i64 1, .int .i64 (plcc c 8 i 0), .int .i64 (plcc c 9 i 0), .int .i64 (plcc c 10 i 0), .int .i64 c.dq, .int .u64 0, .int .u64 0, .int .u64 tk, .bool false, .int .i64 0, .int .i64 0, .int .i64 0, .slice none 0 0, .int .i64 0, .int .i64 0, .int .i64 0, .int .i64 0, .int .i64 0, .slice none 0 0, .int .u32 0, .int .u64 0, .int .u32 0, .int .i64 0, .bool false] rfl (by kernel_rfl) HP2.out.there (by kernel_rfl) (by simp only [List.all_toArray, List.all_cons, List.all_nil, Value.oneCell', Bool.and_self]) ?_; refine wpList_nil ?_; rw [set27])
    | fail)
  obtain ⟨W3, hW3⟩ : ∃ W3, W3 = ad27 w4 (w.heap.size + 1 + 1) (.int .i64 1) (.int .u64 tk) (.int .i64 1) (.int .i64 1) (.int .i64 (plcc c 8 i 0)) (.int .i64 (plcc c 9 i 0)) (.int .i64 (plcc c 10 i 0)) (.int .i64 c.dq) (.int .u64 0) (.int .u64 0) (.int .u64 tk) (.bool false) (.int .i64 0) (.int .i64 0) (.int .i64 0) (.slice none 0 0) (.int .i64 0) (.int .i64 0) (.int .i64 0) (.int .i64 0) (.int .i64 0) (.slice none 0 0) (.int .u32 0) (.int .u64 0) (.int .u32 0) (.int .i64 0) (.bool false) := ⟨_, rfl⟩
  have hl : (loadVar 59 ⟨w.heap.size + 1 + 1, 0, none⟩).run Tryz.prog W3 = .ok (.agg #[.int .i64 1, .int .u64 tk, .int .i64 1, .int .i64 1, .int .i64 (plcc c 8 i 0), .int .i64 (plcc c 9 i 0), .int .i64 (plcc c 10 i 0), .int .i64 c.dq, .int .u64 0, .int .u64 0, .int .u64 tk, .bool false, .int .i64 0, .int .i64 0, .int .i64 0, .slice none 0 0, .int .i64 0, .int .i64 0, .int .i64 0, .int .i64 0, .int .i64 0, .slice none 0 0, .int .u32 0, .int .u64 0, .int .u32 0, .int .i64 0, .bool false]) W3 := by
    rw [hW3]; exact run_loadVar_mid _ _ 0 59 _ _ (HP2.out.put (.int .i64 1) (.int .u64 tk) (.int .i64 1) (.int .i64 1) (.int .i64 (plcc c 8 i 0)) (.int .i64 (plcc c 9 i 0)) (.int .i64 (plcc c 10 i 0)) (.int .i64 c.dq) (.int .u64 0) (.int .u64 0) (.int .u64 tk) (.bool false) (.int .i64 0) (.int .i64 0) (.int .i64 0) (.slice none 0 0) (.int .i64 0) (.int .i64 0) (.int .i64 0) (.int .i64 0) (.int .i64 0) (.slice none 0 0) (.int .u32 0) (.int .u64 0) (.int .u32 0) (.int .i64 0) (.bool false)).2 row59.choose_spec.1 row59.choose_spec.2 (by kernel_rfl)
  have hb3 : Below w.heap.size w W3 := by rw [hW3]; exact (HP2.out.put (.int .i64 1) (.int .u64 tk) (.int .i64 1) (.int .i64 1) (.int .i64 (plcc c 8 i 0)) (.int .i64 (plcc c 9 i 0)) (.int .i64 (plcc c 10 i 0)) (.int .i64 c.dq) (.int .u64 0) (.int .u64 0) (.int .u64 tk) (.bool false) (.int .i64 0) (.int .i64 0) (.int .i64 0) (.slice none 0 0) (.int .i64 0) (.int .i64 0) (.int .i64 0) (.int .i64 0) (.int .i64 0) (.slice none 0 0) (.int .u32 0) (.int .u64 0) (.int .u32 0) (.int .i64 0) (.bool false)).1
  rw [← hW3]
  clear hW3
  exact bodyPost_ret (v := .agg #[.int .i64 1, .int .u64 tk, .int .i64 1, .int .i64 1, .int .i64 (plcc c 8 i 0), .int .i64 (plcc c 9 i 0), .int .i64 (plcc c 10 i 0), .int .i64 c.dq, .int .u64 0, .int .u64 0, .int .u64 tk, .bool false, .int .i64 0, .int .i64 0, .int .i64 0, .slice none 0 0, .int .i64 0, .int .i64 0, .int .i64 0, .int .i64 0, .int .i64 0, .slice none 0 0, .int .u32 0, .int .u64 0, .int .u32 0, .int .i64 0, .bool false]) (res1 Tryz.results18 _ W3 _ _ rfl hl) rfl ⟨_, rfl, ⟨_, _, _, _, _, _, _, _, _, _, _, _, _, _, _, _, _, _, _, _, _, _, _, _, _, _, _, _, rfl, (fun _ => rfl), (fun k => by simp [aNew] at k)⟩, hb3⟩
end Go.Proofs.YtponbnbgiiepdaaGreat

namespace Go.Proofs.YtponbnbgiiepdaaGreat
open Go.RowKit
set_option linter.unusedVariables false

def SomeSame (xs ys : List Int) (w : World) (e : Ending) (w' : World) : Prop := ∃ b : Bool, (b = true ↔ xs = ys) ∧ e = .returned (.bool b) ∧ Below w.heap.size w w'

set_option maxHeartbeats 2000000 in
theorem same_any (A A' : Option Addr) (cap cap' n m : Nat) (xs ys : List Int) (w : World) (hn : n = xs.length) (hm : m = ys.length) (h : Reads .u64 w A xs) (h' : Reads .u64 w A' ys) (hb : n ≤ 1000000) (hb' : m ≤ 1000000) :
    Calls Tryz.prog 23 #[.slice A n cap, .slice A' m cap'] w (SomeSame xs ys w) := by
  have HN := Lib.hid hn; clear hn
  have HM := Lib.hid hm; clear hm
  by_cases hnm : n = m
  · subst hnm
    have HR := Lib.hid h; clear h
    have HR' := Lib.hid h'; clear h'
    go_enter Tryz.func23, Tryz.ntmps23
    go_wp2
    go_loopw [5] (fun i wr => ∃ k : Nat, k ≤ n ∧ i = .int .i64 k ∧ (∀ j, j < k → xs.getD j 0 = ys.getD j 0) ∧ Below w.heap.size w wr) (fun i _ => n - (intOf i).toNat)
    case atStart => exact ⟨0, Nat.zero_le _, rfl, fun j h => by omega, Below.refl _ _⟩
    case round =>
      obtain ⟨k, hk, rfl, hs, hbe⟩ := hrel
      have HS := Lib.hid hs; clear hs
      by_cases hlt : k < n
      · obtain ⟨b, off, rfl, hbl, hc⟩ := HR.out (by have := HN.out; omega)
        obtain ⟨b', off', rfl, hbl', hc'⟩ := HR'.out (by have := HM.out; omega)
        have c1 := (hbe.cell (p := ⟨b, off + k, none⟩) hbl).trans (hc k (by have := HN.out; omega))
        have d1 := (hbe.cell (p := ⟨b', off' + k, none⟩) hbl').trans (hc' k (by have := HM.out; omega))
        obtain ⟨p, hp⟩ : ∃ p, p = xs.getD k 0 := ⟨_, rfl⟩
        obtain ⟨q, hq⟩ : ∃ q, q = ys.getD k 0 := ⟨_, rfl⟩
        rw [← hp] at c1
        rw [← hq] at d1
        have HP := Lib.hid hp; clear hp hc
        have HQ := Lib.hid hq; clear hq hc'
        have HB := Lib.hid hbe; clear hbe
        have hk0 : (0 : Int) ≤ (k : Int) := by omega
        have hk1 : (k : Int) < (n : Int) := by omega
        by_cases e : p = q
        · have ht : (p != q) = false := by simp [e]
          have HE := Lib.hid e; clear e
          go_wp2
          go_quiet (fail)
          go_wp2
          go_roundw
          case rel =>
            refine ⟨k + 1, by omega, by go_num, fun j hj => ?_, below_drewN HB.out _⟩
            by_cases e2 : j = k
            · subst e2; rw [← HP.out, ← HQ.out, HE.out]
            · exact HS.out j (by omega)
          case measure => simp [intOf]; omega
        · have ht : (p != q) = true := by simp [e]
          have HE := Lib.hid e; clear e
          go_wp2
          go_quiet (fail)
          go_wp2
          go_ret
          exact ⟨false, ⟨fun h => by simp at h, fun h => absurd (by rw [HP.out, HQ.out, h]) HE.out⟩, rfl, below_drewN HB.out _⟩
      · obtain rfl : k = n := by omega
        go_wp2
        go_ret
        exact ⟨true, ⟨fun _ => ints_ext _ _ (by rw [← HN.out, ← HM.out]) (by rw [← HN.out]; exact HS.out), fun _ => rfl⟩, rfl, hbe⟩
  · have hne : ((n : Int) != (m : Int)) = true := by simp; omega
    have hne2 : (n != m) = true := by simp; omega
    have HE := Lib.hid hnm; clear hnm
    go_enter Tryz.func23, Tryz.ntmps23
    go_wp2
    go_ret
    exact ⟨false, ⟨fun h => by simp at h, fun h => absurd (by rw [HN.out, HM.out, h]) HE.out⟩, rfl, Below.refl _ _⟩

/-- Two that are the same. -/
theorem same_yes (A A' : Option Addr) (cap cap' n m : Nat) (l : List Int) (w : World) (hn : n = l.length) (hm : m = l.length) (h : Reads .u64 w A l) (h' : Reads .u64 w A' l) (hb : n ≤ 1000000) :
    Calls Tryz.prog 23 #[.slice A n cap, .slice A' m cap'] w fun e w' => e = .returned (.bool true) ∧ Below w.heap.size w w' :=
  (same_any A A' cap cap' n m l l w hn hm h h' hb (by omega)).mono fun e w' ⟨b, hbt, he, hw⟩ => ⟨by rw [he, hbt.2 rfl], hw⟩
end Go.Proofs.YtponbnbgiiepdaaGreat
