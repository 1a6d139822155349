/-  -/
import Derived.Test.YthoiaffeenhfgaaGreatJ10
import Derived.Test.YthoiaffeenhfgaaGreatJ5
import Derived.Handy
import Derived.Lib.SliceRun
import Derived.Test.YthoiaffeenhfgaaGreatJ13
import Derived.Test.YthoiaffeenhfgaaGreatJ7
import Derived.Test.YthoiaffeenhfgaaGreatJ4
import Derived.WalkKit
import Derived.ProofKit
import Derived.OpenShut
import Derived.ChangeSlices
import Derived.ChangeOld
import Derived.Below
import Derived.Deep.SlicePairs
import Derived.Test.YthoiaffeenhfgaaGreatJ21
namespace Go.Proofs.YthoiaffeenhfgaaGreat
open Go.RowKit
set_option linter.unusedVariables false
set_option linter.unusedSimpArgs false
open Lay (plcc plc shOf packN nodesN OkC Cfg Norm firstV Rep lenL things)
theorem UF.of_u3 {M S D : Nat} {w w' : World} (h : U3 M S D w w') : UF (fun k => k = M ∨ k = S ∨ k = D) w w' := ⟨h.os, h.tape, h.output, h.size, fun k hk hn => h.block k hk (fun e => hn (.inl e)) (fun e => hn (.inr (.inl e))) (fun e => hn (.inr (.inr e)))⟩
structure PW (c : Cfg) (t : Int) (m : Pm) : Prop where
  kd : m.kind = 1 ∨ m.kind = 2 ∨ m.kind = 3
  pc : m.pc ≤ 4
  one : m.kind ≠ 1 → m.pc = 0 ∨ m.pc = 4
  x1 : m.pc = 1 → Wm t m.x ∧ m.x.k = spK c ∧ m.x.kind = 2 ∧ m.x.pc ≠ 0
  x4 : m.pc = 4 → Wm t m.x ∧ m.x.k.links = lnkL c ∧ m.x.pc ≠ 0
  p : 0 ≤ m.p ∧ m.p ≤ 4294967295
  ts : ∀ z ∈ m.ts, 0 ≤ z ∧ z ≤ 18446744073709551615
  tl : m.ts.length ≤ 4
  j : 0 ≤ m.j ∧ m.j ≤ 4 ∧ (m.pc = 2 → m.j < m.ts.length)
  ne : m.pc = 1 ∨ m.pc = 2 → m.ts ≠ [] ∧ (m.pc = 1 → m.j = 0)
  t0 : 0 ≤ t
theorem PW.mono {c : Cfg} {t u : Int} {m : Pm} (h : PW c t m) (k : t ≤ u) : PW c u m :=
  ⟨h.kd, h.pc, h.one, fun e => ⟨(h.x1 e).1.mono k, (h.x1 e).2⟩, fun e => ⟨(h.x4 e).1.mono k, (h.x4 e).2⟩, h.p, h.ts, h.tl, h.j, h.ne, by have := h.t0; omega⟩
theorem sstp_kd (L : List Int) (m : Sm) : (sstp L m).2.kind = m.kind := by
  unfold sstp swapS
  repeat' (first | rfl | refine ite_ind (P := fun z : List Int × Sm => z.2.kind = m.kind) ?_ ?_)
theorem getD_mem {l : List Int} {j : Int} (h : 0 ≤ j) (h2 : j < l.length) : l.getD j.toNat 0 ∈ l := by
  have : j.toNat < l.length := by omega
  rw [List.getD, List.getElem?_eq_getElem this]; exact List.getElem_mem this
theorem PW.step {c : Cfg} {t : Int} {m : Pm} {L : List Int} (h : PW c t m) (ww : WW L) : PW c (t + 1) (pstp (gOf c) L m).2 ∧ WW (pstp (gOf c) L m).1 := by
  have t0 := h.t0
  have hj := h.j
  unfold pstp
  by_cases p1 : m.pc = 1
  · obtain ⟨wx, kx, kd, px⟩ := h.x1 p1
    have k1 : m.kind = 1 := by
      by_cases e : m.kind = 1
      · exact e
      · rcases h.one e with e2 | e2 <;> omega
    rw [if_pos p1]
    refine ⟨?_, ww.step wx⟩
    have wx' := wx.step ww
    have hk' : (sstp L m.x).2.k = spK c := by rw [sstp_k]; exact kx
    have hne := h.ne (.inl p1)
    by_cases e1 : (sstp L m.x).2.pc = 0
    · rw [if_pos e1]
      by_cases e2 : (sstp L m.x).2.item = 0
      · rw [if_pos e2]
        exact ⟨h.kd, h.pc, h.one, fun _ => ⟨(wm_pop _).mono (by omega), rfl, rfl, by simp [mPop]⟩, fun e => by simp only at e; omega, ⟨by simp, by simp⟩, h.ts, h.tl, ⟨hj.1, hj.2.1, fun e => by simp only at e; omega⟩, h.ne, by omega⟩
      · rw [if_neg e2]
        refine ⟨h.kd, by simp, fun e => absurd k1 e, fun e => by simp at e, fun e => by simp at e, wx'.i, h.ts, h.tl, ⟨hj.1, hj.2.1, fun _ => ?_⟩, fun _ => ⟨hne.1, fun e => by simp at e⟩, by omega⟩
        have := hne.2 p1
        have := List.length_pos_iff.2 hne.1
        simp only
        omega
    · rw [if_neg e1]
      exact ⟨h.kd, h.pc, h.one, fun _ => ⟨wx', hk', by rw [sstp_kd]; exact kd, e1⟩, fun e => by simp only at e; omega, h.p, h.ts, h.tl, ⟨hj.1, hj.2.1, fun e => by simp only at e; omega⟩, h.ne, by omega⟩
  · rw [if_neg p1]
    by_cases p2 : m.pc = 2
    · rw [if_pos p2]
      have k1 : m.kind = 1 := by
        by_cases e : m.kind = 1
        · exact e
        · rcases h.one e with e2 | e2 <;> omega
      have hlt := hj.2.2 p2
      have hl := h.tl
      refine ⟨⟨h.kd, by simp only; split <;> simp, fun e => absurd k1 e, fun e => by simp only at e; split at e <;> simp at e, fun e => by simp only at e; split at e <;> simp at e, h.p, h.ts, h.tl, ⟨by simp only; omega, by simp only; omega, fun e => ?_⟩, fun e => ⟨(h.ne (.inr p2)).1, fun e2 => by simp only at e2; split at e2 <;> simp at e2⟩, by omega⟩, ww.put _ (h.ts _ (getD_mem hj.1 hlt))⟩
      simp only at e ⊢
      split at e
      · simp at e
      · rename_i hne; omega
    · rw [if_neg p2]
      by_cases p3 : m.pc = 3
      · rw [if_pos p3]
        have hl := h.tl
        have k1 : m.kind = 1 := by
          by_cases e : m.kind = 1
          · exact e
          · rcases h.one e with e2 | e2 <;> omega
        refine ⟨⟨h.kd, by simp, fun e => absurd k1 e, fun e => by simp at e, fun _ => ⟨(wm_push _ _).mono (by omega), rfl, by simp [mPush]⟩, h.p, h.ts, h.tl, ⟨hj.1, hj.2.1, fun e => by simp at e⟩, fun e => by simp at e, by omega⟩, ww.put _ (by omega)⟩
      · rw [if_neg p3]
        by_cases p4 : m.pc = 4
        · obtain ⟨wx, kx, px⟩ := h.x4 p4
          rw [if_pos p4]
          refine ⟨?_, ww.step wx⟩
          have wx' := wx.step ww
          by_cases e1 : (sstp L m.x).2.pc = 0
          · rw [if_pos e1]
            exact ⟨h.kd, by simp, fun _ => .inl rfl, fun e => by simp at e, fun e => by simp at e, wx'.i, h.ts, h.tl, ⟨hj.1, hj.2.1, fun e => by simp at e⟩, fun e => by simp at e, by omega⟩
          · rw [if_neg e1]
            exact ⟨h.kd, h.pc, h.one, fun e => absurd e p1, fun _ => ⟨wx', by rw [sstp_k]; exact kx, e1⟩, h.p, h.ts, h.tl, ⟨hj.1, hj.2.1, fun e => absurd e p2⟩, fun e => by rcases e with e | e <;> simp only at e <;> omega, by omega⟩
        · rw [if_neg p4]
          exact ⟨h.mono (by omega), ww⟩
end Go.Proofs.YthoiaffeenhfgaaGreat

namespace Go.Proofs.YthoiaffeenhfgaaGreat
open Go.RowKit
set_option linter.unusedVariables false
set_option linter.unusedSimpArgs false
open Lay (plcc plc shOf packN nodesN OkC Cfg Norm firstV Rep lenL things)
abbrev lnkV (N : Nat) : Value := .func (.func 53) #[Lay.mapP N] #[]
abbrev subV (M : Nat) : Value := .iface 131 (ptr M)
theorem lk_of {c : Cfg} (hc : OkC c) {w : World} {N : Nat} (hm : Lay.IsMap w N c) : Lk w (lnkV N) N (lnkL c) := ⟨c, hc, hm, .inl ⟨rfl, rfl⟩⟩
theorem popSp {c : Cfg} (N : Nat) (w : World) (hl : Lk w (lnkV N) N (lnkL c)) : Calls Tryz.prog 101 #[.int .i64 (plcc c 5 0 0), lnkV N] w (NewM w (lnkV N) (mPop (spK c))) := pop_any (spK c) w hl
theorem popPo {c : Cfg} (N : Nat) (w : World) (hl : Lk w (lnkV N) N (lnkL c)) : Calls Tryz.prog 101 #[.int .i64 (plcc c 4 0 0), lnkV N] w (NewM w (lnkV N) (mPop (poK c))) := pop_any (poK c) w hl
theorem pushSp {c : Cfg} (N : Nat) (x : Int) (w : World) (hl : Lk w (lnkV N) N (lnkL c)) (hx : -9223372036854775808 ≤ x ∧ x ≤ 9223372036854775807) : Calls Tryz.prog 151 #[.int .i64 (plcc c 5 0 0), lnkV N, .int .i64 x] w (NewM w (lnkV N) (mPush (spK c) x)) := push_any (spK c) x w hl hx
theorem pushPo {c : Cfg} (N : Nat) (x : Int) (w : World) (hl : Lk w (lnkV N) N (lnkL c)) (hx : -9223372036854775808 ≤ x ∧ x ≤ 9223372036854775807) : Calls Tryz.prog 151 #[.int .i64 (plcc c 4 0 0), lnkV N, .int .i64 x] w (NewM w (lnkV N) (mPush (poK c) x)) := push_any (poK c) x w hl hx
def Pmem (w : World) (X N : Nat) (T : Value) (pu tk : Int) (ot nx : Value) (pk : Int) : Prop :=
  w.heap[X]? = some (.cells #[Lay.mapP N, T, .int .i64 pu, .int .i64 tk, ot, nx, .int .i64 pk] 117 (0, 0))
structure Pxt (w0 w : World) (X N : Nat) (c : Cfg) (F : Nat → Prop) (T : Value) (pu tk : Int) (ot nx : Value) (pk : Int) : Prop where
  mem : Pmem w X N T pu tk ot nx pk
  mp : Lay.IsMap w N c
  ne : N ≠ X
  fx : F X
  u : UF F w0 w
section
variable {w0 w w' : World} {X N : Nat} {c : Cfg} {F : Nat → Prop} {T : Value} {pu tk : Int} {ot nx : Value} {pk : Int}
theorem Pmem.lt (h : Pmem w X N T pu tk ot nx pk) : X < w.heap.size := (Array.getElem?_eq_some_iff.1 h).1
theorem Pxt.lt (h : Pxt w0 w X N c F T pu tk ot nx pk) : X < w.heap.size := h.mem.lt
theorem Pxt.f (h : Pxt w0 w X N c F T pu tk ot nx pk) (j : Nat) : w.frozen? ⟨X, j, none⟩ = false := frozen_of_row w X j _ _ h.mem
theorem Pxt.c0 (h : Pxt w0 w X N c F T pu tk ot nx pk) : w.cell? ⟨X, 0, none⟩ = some (Lay.mapP N) := by have := h.mem; unfold Pmem at this; simp [World.cell?, this]
theorem Pxt.c1 (h : Pxt w0 w X N c F T pu tk ot nx pk) : w.cell? ⟨X, 1, none⟩ = some T := by have := h.mem; unfold Pmem at this; simp [World.cell?, this]
theorem Pxt.c2 (h : Pxt w0 w X N c F T pu tk ot nx pk) : w.cell? ⟨X, 2, none⟩ = some (.int .i64 pu) := by have := h.mem; unfold Pmem at this; simp [World.cell?, this]
theorem Pxt.c3 (h : Pxt w0 w X N c F T pu tk ot nx pk) : w.cell? ⟨X, 3, none⟩ = some (.int .i64 tk) := by have := h.mem; unfold Pmem at this; simp [World.cell?, this]
theorem Pxt.c4 (h : Pxt w0 w X N c F T pu tk ot nx pk) : w.cell? ⟨X, 4, none⟩ = some ot := by have := h.mem; unfold Pmem at this; simp [World.cell?, this]
theorem Pxt.c5 (h : Pxt w0 w X N c F T pu tk ot nx pk) : w.cell? ⟨X, 5, none⟩ = some nx := by have := h.mem; unfold Pmem at this; simp [World.cell?, this]
theorem Pxt.c6 (h : Pxt w0 w X N c F T pu tk ot nx pk) : w.cell? ⟨X, 6, none⟩ = some (.int .i64 pk) := by have := h.mem; unfold Pmem at this; simp [World.cell?, this]
theorem Pxt.c03 (h : Pxt w0 w X N c F T pu tk ot nx pk) : w.cell? ⟨X, 0, none⟩ = some (Lay.mapP N) ∧ w.cell? ⟨X, 2, none⟩ = some (.int .i64 pu) ∧ w.cell? ⟨X, 3, none⟩ = some (.int .i64 tk) := ⟨h.c0, h.c2, h.c3⟩
theorem Pxt.step (h : Pxt w0 w X N c F T pu tk ot nx pk) (k : Below w.heap.size w w') : Pxt w0 w' X N c F T pu tk ot nx pk :=
  ⟨(k.block X h.lt).trans h.mem, h.mp.below k, h.ne, h.fx, h.u.trans (.of_below (F := F) k) (fun _ x => x) (fun _ _ x => x)⟩
theorem Pxt.drew (h : Pxt w0 w X N c F T pu tk ot nx pk) : Pxt w0 w.drew X N c F T pu tk ot nx pk := h.step (Below.refl _ _).drew
theorem Pxt.uf {G : Nat → Prop} (h : Pxt w0 w X N c F T pu tk ot nx pk) (k : UF G w w') (g1 : ¬ G X) (g2 : ¬ G N) (g3 : ∀ b, b < w0.heap.size → G b → F b) : Pxt w0 w' X N c F T pu tk ot nx pk :=
  ⟨(k.block X h.lt g1).trans h.mem, IsMap_same h.mp k.size (k.block N h.mp.1 g2), h.ne, h.fx, h.u.trans k (fun _ x => x) g3⟩
theorem Pxt.put (h : Pxt w0 w X N c F T pu tk ot nx pk) (i : Nat) (y : Value) {T' : Value} {pu' tk' : Int} {ot' nx' : Value} {pk' : Int}
    (hh : (#[Lay.mapP N, T, .int .i64 pu, .int .i64 tk, ot, nx, .int .i64 pk] : Array Value).setIfInBounds i y = #[Lay.mapP N, T', .int .i64 pu', .int .i64 tk', ot', nx', .int .i64 pk']) :
    Pxt w0 (w.setCell ⟨X, i, none⟩ y) X N c F T' pu' tk' ot' nx' pk' := by
  refine ⟨?_, IsMap_same h.mp (by simp) (heap_setCell_other w ⟨X, i, none⟩ N y h.ne), h.ne, h.fx, h.u.trans (UF.set w X i y) (fun _ x => x) (fun b _ e => e ▸ h.fx)⟩
  unfold Pmem
  rw [heap_setCell_same w X i _ 117 _ h.mem, hh]
theorem Pxt.p2 (h : Pxt w0 w X N c F T pu tk ot nx pk) (y : Int) : Pxt w0 (w.setCell ⟨X, 2, none⟩ (.int .i64 y)) X N c F T y tk ot nx pk := h.put 2 _ rfl
theorem Pxt.p3 (h : Pxt w0 w X N c F T pu tk ot nx pk) (y : Int) : Pxt w0 (w.setCell ⟨X, 3, none⟩ (.int .i64 y)) X N c F T pu y ot nx pk := h.put 3 _ rfl
theorem Pxt.p4 (h : Pxt w0 w X N c F T pu tk ot nx pk) (y : Value) : Pxt w0 (w.setCell ⟨X, 4, none⟩ y) X N c F T pu tk y nx pk := h.put 4 _ rfl
theorem Pxt.p5 (h : Pxt w0 w X N c F T pu tk ot nx pk) (y : Value) : Pxt w0 (w.setCell ⟨X, 5, none⟩ y) X N c F T pu tk ot y pk := h.put 5 _ rfl
theorem Pxt.p6 (h : Pxt w0 w X N c F T pu tk ot nx pk) (y : Int) : Pxt w0 (w.setCell ⟨X, 6, none⟩ (.int .i64 y)) X N c F T pu tk ot nx y := h.put 6 _ rfl
end
structure Pxs (w0 w : World) (X S D N : Nat) (c : Cfg) (F : Nat → Prop) (T : Value) (pu tk : Int) (ot nx : Value) (pk : Int) (L : List Int) (cc : Int) : Prop where
  x : Pxt w0 w X N c F T pu tk ot nx pk
  st : St w S D L cc
  n : X ≠ S ∧ X ≠ D ∧ N ≠ S ∧ N ≠ D
  fs : F S ∧ F D
section
variable {w0 w w' : World} {X S D N : Nat} {c : Cfg} {F : Nat → Prop} {T : Value} {pu tk : Int} {ot nx : Value} {pk : Int} {L : List Int} {cc : Int}
theorem Pxs.step (h : Pxs w0 w X S D N c F T pu tk ot nx pk L cc) (k : Below w.heap.size w w') : Pxs w0 w' X S D N c F T pu tk ot nx pk L cc := ⟨h.x.step k, h.st.below k, h.n, h.fs⟩
theorem Pxs.drew (h : Pxs w0 w X S D N c F T pu tk ot nx pk L cc) : Pxs w0 w.drew X S D N c F T pu tk ot nx pk L cc := h.step (Below.refl _ _).drew
theorem Pxs.left (h : Pxs w0 w X S D N c F T pu tk ot nx pk L cc) {L' : List Int} {c' : Int} (k : Left S D L' c' w w') : Pxs w0 w' X S D N c F T pu tk ot nx pk L' c' :=
  ⟨h.x.uf (.of_upd k.2) (fun e => by have := h.n; omega) (fun e => by have := h.n; omega) (fun b _ e => by rcases e with rfl | rfl; exact h.fs.1; exact h.fs.2), k.1, h.n, h.fs⟩
theorem Pxs.of (h : Pxs w0 w X S D N c F T pu tk ot nx pk L cc) {T' : Value} {pu' tk' : Int} {ot' nx' : Value} {pk' : Int} (i : Nat) (y : Value) (k : Pxt w0 (w.setCell ⟨X, i, none⟩ y) X N c F T' pu' tk' ot' nx' pk') : Pxs w0 (w.setCell ⟨X, i, none⟩ y) X S D N c F T' pu' tk' ot' nx' pk' L cc :=
  ⟨k, St_same h.st (heap_setCell_other w ⟨X, i, none⟩ S y (Ne.symm h.n.1)) (heap_setCell_other w ⟨X, i, none⟩ D y (Ne.symm h.n.2.1)), h.n, h.fs⟩
theorem Pxs.p2 (h : Pxs w0 w X S D N c F T pu tk ot nx pk L cc) (y : Int) : Pxs w0 (w.setCell ⟨X, 2, none⟩ (.int .i64 y)) X S D N c F T y tk ot nx pk L cc := h.of _ _ (h.x.p2 y)
theorem Pxs.p3 (h : Pxs w0 w X S D N c F T pu tk ot nx pk L cc) (y : Int) : Pxs w0 (w.setCell ⟨X, 3, none⟩ (.int .i64 y)) X S D N c F T pu y ot nx pk L cc := h.of _ _ (h.x.p3 y)
theorem Pxs.p5 (h : Pxs w0 w X S D N c F T pu tk ot nx pk L cc) (y : Value) : Pxs w0 (w.setCell ⟨X, 5, none⟩ y) X S D N c F T pu tk ot y pk L cc := h.of _ _ (h.x.p5 y)
theorem Pxs.p6 (h : Pxs w0 w X S D N c F T pu tk ot nx pk L cc) (y : Int) : Pxs w0 (w.setCell ⟨X, 6, none⟩ (.int .i64 y)) X S D N c F T pu tk ot nx y L cc := h.of _ _ (h.x.p6 y)
theorem Pxs.more (h : Pxs w0 w X S D N c F T pu tk ot nx pk L cc) {T' : Value} {pu' tk' : Int} {ot' nx' : Value} {pk' : Int} (k : Pxt w w' X N c (fun b => b = X) T' pu' tk' ot' nx' pk') : Pxs w0 w' X S D N c F T' pu' tk' ot' nx' pk' L cc :=
  ⟨⟨k.mem, k.mp, k.ne, h.x.fx, h.x.u.trans k.u (fun _ x => x) (fun b _ e => e ▸ h.x.fx)⟩, St_same h.st (k.u.block S h.st.ltS (Ne.symm h.n.1)) (k.u.block D h.st.row.lt (Ne.symm h.n.2.1)), h.n, h.fs⟩
theorem Pxs.self (h : Pxs w0 w X S D N c F T pu tk ot nx pk L cc) : Pxt w w X N c (fun b => b = X) T pu tk ot nx pk := ⟨h.x.mem, h.x.mp, h.x.ne, rfl, .refl _ _⟩
theorem sub_step {M : Nat} {m : Sm} {t : Int} (h : Pxs w0 w X S D N c F T pu tk ot nx pk L cc) (hm : MM w M (lnkV N) m) (hl : m.k.links = lnkL c) (hM : M ≠ X ∧ M ≠ S ∧ M ≠ D ∧ M ≠ N) (fM : F M) (hc : OkC c) (wm : Wm t m) (ww : WW L) (h0 : 0 ≤ cc) (h1 : cc ≤ 1000000000) (ht : t ≤ 1000000000) :
    Calls Tryz.prog 209 #[ptr M, ptr S] w fun e w' => e = .returned (.bool (decide ((sstp L m).2.pc = 0))) ∧ Pxs w0 w' X S D N c F T pu tk ot nx pk (sstp L m).1 (cst m cc) ∧ MM w' M (lnkV N) (sstp L m).2 ∧ w.heap.size ≤ w'.heap.size := by
  refine (step_any w (hm.mi h.st (by rw [hl]; exact lk_of hc h.x.mp) hM.2.1 hM.2.2.1 ⟨Ne.symm hM.2.2.2, h.n.2.2.1, h.n.2.2.2⟩) wm ww h0 h1 ht).mono ?_
  rintro e w' ⟨rfl, mi⟩
  have u := UF.of_u3 mi.u'
  exact ⟨rfl, ⟨h.x.uf u (fun e => by have := h.n; omega) (fun e => by have := h.n; omega) (fun b _ e => by rcases e with rfl | rfl | rfl; exact fM; exact h.fs.1; exact h.fs.2), mi.st', h.n, h.fs⟩, mi.mm, mi.u'.size⟩
end
set_option maxHeartbeats 1000000 in
theorem endWith_any {w0 w : World} {X N : Nat} {c : Cfg} {F : Nat → Prop} {T : Value} {pu tk : Int} {ot nx : Value} {pk : Int} (M : Nat) (h : Pxt w0 w X N c F T pu tk ot nx pk) :
    Calls Tryz.prog 150 #[ptr X, subV M] w fun e w' => e = .returned (.tuple #[]) ∧ Pxt w0 w' X N c F T pu tk (subV M) (fnv 168 X) pk := by
  have hmf : ∀ (fn : Fn) (first cap : Array Value) (w : World), (Instr.makeFunc fn first cap).run Tryz.prog w = .ok (.func fn first cap) w := fun _ _ _ _ => rfl
  have h1 := h.p4 (subV M)
  have h2 := h1.p5 (fnv 168 X)
  have q4 := h.c4; have f4 := h.f 4
  have q5 := h1.c5; have f5 := h1.f 5
  have H2 := Lib.hid h2
  clear h h1 h2
  go_enter Tryz.func150, Tryz.ntmps150
  go_wp2
  go_returns
  exact ⟨rfl, H2.out⟩
set_option maxHeartbeats 1000000 in
theorem look_any {w0 w : World} {X N : Nat} {c : Cfg} {F : Nat → Prop} {T : Value} {pu tk : Int} {ot nx : Value} {pk : Int} (hc : OkC c) (h : Pxt w0 w X N c F T pu tk ot nx pk) :
    Calls Tryz.prog 82 #[ptr X] w fun e w' => e = .returned (.tuple #[]) ∧ ∃ M, w.heap.size ≤ M ∧ MM w' M (lnkV N) (mPop (spK c)) ∧ Pxt w0 w' X N c F T pu tk (subV M) (fnv 102 X) pk := by
  have hmf : ∀ (fn : Fn) (first cap : Array Value) (w : World), (Instr.makeFunc fn first cap).run Tryz.prog w = .ok (.func fn first cap) w := fun _ _ _ _ => rfl
  have q0 := h.c0
  have HMD := Lib.hid h.drew; clear h
  have HC := Lib.hid hc; clear hc
  go_enter Tryz.func82, Tryz.ntmps82
  go_wp2
  go_region_held3 (fun w' => w'.cell? ⟨X, 0, none⟩ = some (Lay.mapP N))
    (first | exact HL.out.c0 | exact HQ.out.c0 | exact HN.out.c0 | exact HMD.out.c0 | go_keep)
    (first
      | (go_at_call 52; (with_reducible refine (Lay.spare_m HC.out N _ HMD.out.mp).mono ?_); rintro r w3 ⟨rfl, hb⟩; have HN := Lib.hid (HMD.out.step hb); have HS := Lib.hid hb.size; clear hb)
      | (go_at_call 101; (with_reducible refine (popSp N _ (lk_of HC.out HN.out.mp)).mono ?_); rintro r w4 ⟨M, rfl, hM, hmm, hb⟩; have HQ := Lib.hid (HN.out.step hb); have HMM := Lib.hid hmm; have HLT := Lib.hid hM; clear hb hmm hM; have q4 := HQ.out.c4; have f4 := HQ.out.f 4; have q5 := HQ.out.c5; have f5 := HQ.out.f 5; have HL := Lib.hid (HQ.out.p4 (subV M)))
      | fail)
  all_goals
    have HF := Lib.hid (HL.out.p5 (fnv 102 X))
    have hne : M ≠ X := by have := HN.out.lt; have := HLT.out; omega
    go_wp2
    go_returns
    exact ⟨rfl, M, Nat.le_trans (by simpa using HS.out) HLT.out, (heap_setCell_other _ ⟨X, 5, none⟩ M _ hne).trans ((heap_setCell_other w4 ⟨X, 4, none⟩ M _ hne).trans HMM.out), HF.out⟩
end Go.Proofs.YthoiaffeenhfgaaGreat

namespace Go.Proofs.YthoiaffeenhfgaaGreat
set_option linter.unusedVariables false
open Lay (plcc plc shOf packN nodesN OkC Cfg Norm firstV Rep lenL things stkV)
theorem mark1_norm (D i : Nat) : ∀ t ∈ Lay.mark1 D i, Norm t := by
  intro t ht
  simp only [Lay.mark1, Lay.entries, List.mem_append, List.mem_cons, List.mem_map, List.mem_range, List.not_mem_nil, or_false] at ht
  rcases ht with (rfl | rfl) | ⟨j, _, rfl⟩ <;> exact ⟨by simp, by simp, by simp, by simp⟩
theorem pack1_norm (p : Nat) : ∀ t ∈ Lay.pack1 p, Norm t := by
  intro t ht
  simp only [Lay.pack1, Lay.tasks, List.mem_append, List.mem_cons, List.mem_map, List.mem_range, List.not_mem_nil, or_false] at ht
  rcases ht with (rfl | rfl) | ⟨j, _, rfl⟩ <;> exact ⟨by simp, by simp, by simp, by simp⟩
theorem node1_norm (r : List Nat) (v : Nat) : ∀ t ∈ Lay.node1 r v, Norm t := by
  intro t ht
  simp only [Lay.node1, Lay.slots, List.mem_append, List.mem_cons, List.mem_map, List.mem_range, List.not_mem_nil, or_false] at ht
  rcases ht with (rfl | rfl | rfl | rfl) | ⟨j, _, rfl⟩ <;> exact ⟨by simp, by simp, by simp, by simp⟩
theorem marks_norm (D : Nat) : ∀ n, ∀ t ∈ Lay.marksTo D n, Norm t
  | 0, t, h => by simp [Lay.marksTo] at h
  | n + 1, t, h => by
    rcases List.mem_append.1 (show t ∈ Lay.marksTo D n ++ Lay.mark1 D n from h) with h | h
    · exact marks_norm D n t h
    · exact mark1_norm D n t h
theorem packs_norm : ∀ n, ∀ t ∈ Lay.packsTo n, Norm t
  | 0, t, h => by simp [Lay.packsTo] at h
  | n + 1, t, h => by
    rcases List.mem_append.1 (show t ∈ Lay.packsTo n ++ Lay.pack1 (n + 1) from h) with h | h
    · exact packs_norm n t h
    · exact pack1_norm _ t h
theorem nodes_norm (r : List Nat) : ∀ n, ∀ t ∈ Lay.nodesTo r n, Norm t
  | 0, t, h => by simp [Lay.nodesTo] at h
  | n + 1, t, h => by
    rcases List.mem_append.1 (show t ∈ Lay.nodesTo r n ++ Lay.node1 r (n + 1) from h) with h | h
    · exact nodes_norm r n t h
    · exact node1_norm r _ t h
theorem things_norm (s : Lay.Sh) : ∀ t ∈ things s, Norm t := by
  intro t ht
  simp only [things, Lay.singles, Lay.acks, Lay.heads, List.mem_append, List.mem_map, List.mem_range] at ht
  rcases ht with ((((⟨k, hk, rfl⟩ | ⟨k, hk, rfl⟩) | ⟨k, hk, rfl⟩) | h) | h) | h
  · exact ⟨by simp, by simp; omega, by simp, by simp⟩
  · exact ⟨by simp, by simp, by simp, by simp⟩
  · exact ⟨by simp, by simp, by simp, by simp⟩
  · exact marks_norm _ _ t h
  · exact packs_norm _ t h
  · exact nodes_norm _ _ t h
theorem stkV_bd {V : Lay.Th → Int} {t u : Lay.Th} {kd f l : Int} (h : 0 ≤ V u ∧ V u ≤ 10000) (f0 : 0 ≤ f) (f1 : f ≤ 10000) (l1 : l ≤ 10000) : 0 ≤ stkV V t kd f l u ∧ stkV V t kd f l u ≤ 10000 := by
  unfold stkV
  split
  · exact ⟨f0, f1⟩
  · split
    · omega
    · exact h
theorem firstV_bd {c : Cfg} (hc : OkC c) (u : Lay.Th) : 0 ≤ firstV c u ∧ firstV c u ≤ 10000 := by
  have hb := Lay.bds hc
  have p1 := hb.p1
  have n1 := hb.n1
  have hV : ∀ k : Nat, k ≤ 5 → 0 ≤ Lay.VV c k u ∧ Lay.VV c k u ≤ 10000 := by
    intro k
    induction k with
    | zero =>
      intro _
      show 0 ≤ Lay.baseV c u ∧ Lay.baseV c u ≤ 10000
      unfold Lay.baseV
      have := Lay.slots_bd (Lay.kindV c (nodesN c))
      split
      · omega
      · split <;> omega
    | succ k ih =>
      intro hk
      have h5 := Lay.cls_five hc k (by omega)
      refine stkV_bd (ih (by omega)) (by omega) (by omega) ?_
      have := Lay.imin_le (Lay.rF c k + Lay.rM c k) (nodesN c)
      omega
  exact stkV_bd (hV 5 (by omega)) (by omega) (by omega) (by omega)
theorem first_ww {c : Cfg} (hc : OkC c) {L : List Int} (h : Rep (shOf c) L (firstV c)) : WW L := by
  intro x hx
  obtain ⟨i, hi, rfl⟩ := List.getElem_of_mem hx
  have hl : i < (things (shOf c)).length := by rw [Lay.things_len, ← h.1]; exact hi
  obtain ⟨t, ht⟩ : ∃ t, t = Lay.gt (things (shOf c)) i := ⟨_, rfl⟩
  have hm : t ∈ things (shOf c) := by rw [ht, Lay.gt, List.getD, List.getElem?_eq_getElem hl]; exact List.getElem_mem hl
  have hn := things_norm _ t hm
  have hp := Lay.place_spec hn hl ht.symm
  have e := h.2 t hn (by omega)
  rw [hp] at e
  have e2 : L[i] = firstV c t := by rw [← e]; simp [List.getD, hi]
  rw [e2]
  have := firstV_bd hc t
  omega
end Go.Proofs.YthoiaffeenhfgaaGreat

namespace Go.Proofs.YthoiaffeenhfgaaGreat
open Go.ChangeShapes Go.WideShapes Go.RowKit
section
variable {H : Type} {enc : TypeId × Value → H} {P : Program} {w : World} {base : Nat} {spare : Nat → Bool} {held : Bool}
def IsRow (k : IntKind) (w : World) (a : Option Addr) (len cap : Nat) (zs : List Int) : Prop :=
  (a = none ∧ len = 0 ∧ cap = 0 ∧ zs = []) ∨
  ∃ x, a = some x ∧ len ≤ cap ∧ cap ≤ maxLen ∧ zs.length = cap ∧ (∀ i, i < zs.length → w.cell? (x.add i) = some (.int k (zs.getD i 0))) ∧ ∀ n ∈ zs, (Lit.int k n).wf = true
theorem open_row {t e : TypeId} {k : IntKind} {a : Option Addr} {len cap : Nat} {d : DataW H} {p : List MemPlace} (ht : P.underlying t = some (.slice e)) (he : P.underlying e = some (.int k)) (hce : P.cellsOf e = 1)
    (h : DataW.Trod enc P w 0 (fun _ => true) held t (.slice a len cap) d p) : ∃ zs, IsRow k w a len cap zs := by
  obtain ⟨fuel, hf⟩ := h
  rcases open_ints ht he hce hf with ⟨hcs, _⟩ | ⟨x, l, c, zs, hcs, _, hl, hm, hz, _, hcell, hwz⟩
  · simp [Value.cells] at hcs
    obtain ⟨rfl, rfl, rfl⟩ := hcs
    exact ⟨[], .inl ⟨rfl, rfl, rfl, rfl⟩⟩
  · simp [Value.cells] at hcs
    obtain ⟨rfl, rfl, rfl⟩ := hcs
    exact ⟨zs, .inr ⟨_, rfl, hl, hm, by simpa using hz, hcell, hwz⟩⟩
end
theorem reads_row {k : IntKind} {w : World} {a : Option Addr} {len cap : Nat} {z : List Int} (h : IsRow k w a len cap z) :
    Reads k w a (z.take len) ∧ (z.take len).length = len ∧ len ≤ cap ∧ cap ≤ maxLen ∧ (a = none → cap = 0) ∧ ∀ x ∈ z.take len, (Lit.int k x).wf = true := by
  rcases h with ⟨rfl, rfl, rfl, rfl⟩ | ⟨x, rfl, h1, h2, h3, h4, h5⟩
  · exact ⟨fun h => by simp at h, rfl, Nat.le_refl _, Nat.zero_le _, fun _ => rfl, by simp⟩
  · have hl : (z.take len).length = len := by simp; omega
    refine ⟨fun h0 => ?_, hl, h1, h2, (fun e => by cases e), fun y hy => h5 y (List.mem_of_mem_take hy)⟩
    have c0 := h4 0 (by omega)
    obtain ⟨b, off, sp⟩ := x
    have hs : sp = none := by
      cases sp with
      | none => rfl
      | some s =>
        exfalso
        simp only [Addr.add, if_true] at c0
        unfold World.cell? at c0
        simp only [Option.isSome_some, if_true] at c0
        split at c0 <;> simp at c0
    subst hs
    refine ⟨b, off, rfl, ?_, fun j hj => ?_⟩
    · rw [add_off] at c0
      exact World.block_lt_of_cell? w _ c0
    · have c := h4 j (by omega)
      rw [add_off] at c
      rw [c]
      have hj2 : j < len := by omega
      simp [List.getD, hj2]
end Go.Proofs.YthoiaffeenhfgaaGreat

namespace Go.Proofs.YthoiaffeenhfgaaGreat
open Go.RowKit
set_option linter.unusedVariables false
open Lay (plcc plc shOf packN nodesN OkC Cfg Norm firstV Rep lenL things)
theorem cfg_start (c : Cfg) (w : World) (t : TypeId) : CfgC w.heap.size c (w.alloc (Lay.cfgO c t)) := kc_cells (Lay.KC.start c t w w (Below.refl _ _))
theorem first_any {c : Cfg} (hc : OkC c) (N : Nat) (w : World) (hm : Lay.IsMap w N c) : Calls Tryz.prog 11 #[Lay.mapP N] w fun e w' => ∃ G n L, e = .returned (.slice (some ⟨G, 0, none⟩) n n) ∧ n = L.length ∧ Reads .u64 w' (some ⟨G, 0, none⟩) L ∧ Rep (shOf c) L (firstV c) ∧ Below w.heap.size w w' := by
  refine (Lay.first_m hc N w hm).mono ?_
  rintro e w' ⟨G, n, L, rfl, hn, hl, hcell, hG, hr, hb⟩
  exact ⟨G, n, L, rfl, hl.symm, fun _ => ⟨G, 0, rfl, hG, fun j hj => by rw [Nat.zero_add]; exact hcell j (by omega)⟩, hr, hb⟩
theorem first_len {c : Cfg} (hc : OkC c) {L : List Int} (h : Rep (shOf c) L (firstV c)) : L.length ≤ 10000 := by
  have := h.1; have := Lay.lenL_eq hc; have := (Lay.bds hc).t55'; omega
abbrev wcf (w : World) (c : Cfg) : World := w.alloc (Lay.cfgO c 24)
def Bw (w : World) (c : Cfg) (w' : World) : Prop := Below (w.heap.size + 1) (wcf w c) w'
section
variable {w w' w2 : World} {c : Cfg}
theorem Bw.start (w : World) (c : Cfg) : Bw w c (wcf w c) := Below.refl _ _
theorem Bw.lt (h : Bw w c w') : w.heap.size + 1 ≤ w'.heap.size := by have := h.size; simpa using this
theorem Bw.step (h : Bw w c w') (hb : Below w'.heap.size w' w2) : Bw w c w2 := below_step h h.lt hb
theorem Bw.fin (h : Bw w c w') : Below w.heap.size w w' := (below_alloc0 (Below.refl _ _) _).trans (h.mono (Nat.le_succ _))
theorem Bw.cfg (h : Bw w c w') : CfgC w.heap.size c w' := by
  have h0 := cfg_start c w 24
  obtain ⟨h0, h1, h2, h3, h4, h5, h6, h7, h8, h9, h10, h11⟩ := h0
  have e : ∀ i, w'.cell? ⟨w.heap.size, i, none⟩ = (wcf w c).cell? ⟨w.heap.size, i, none⟩ := fun i => h.cell (p := ⟨w.heap.size, i, none⟩) (Nat.lt_succ_self _)
  exact ⟨(e 0).trans h0, (e 1).trans h1, (e 2).trans h2, (e 3).trans h3, (e 4).trans h4, (e 5).trans h5, (e 6).trans h6, (e 7).trans h7, (e 8).trans h8, (e 9).trans h9, (e 10).trans h10, (e 11).trans h11⟩
theorem Bw.reads {k : IntKind} {A : Option Addr} {zs : List Int} (h : Bw w c w') (r : Reads k w A zs) : Reads k w' A zs := r.below h.fin (Nat.le_refl _)
end
end Go.Proofs.YthoiaffeenhfgaaGreat

namespace Go.Proofs.YthoiaffeenhfgaaGreat
open Go.ChangeShapes Go.WideShapes Go.RowKit
set_option linter.constructorNameAsVariable false
set_option maxRecDepth 100000
abbrev Cfg := Lay.Cfg
abbrev cfgV (c : Cfg) : Value := Lay.cfgV c
theorem open_cfg {H : Type} {enc : TypeId × Value → H} {w : World} {base : Nat} {spare : Nat → Bool} {held : Bool} {r : Reach} {b0 : Nat} {v : Value} {d : DataW H} {p : List MemPlace} (hv : Value.okWide Tryz.prog w r b0 24 v) (h : DataW.Trod enc Tryz.prog w base spare held 24 v d p) : ∃ c : Cfg, v = cfgV c := Lay.open_cfg hv h
end Go.Proofs.YthoiaffeenhfgaaGreat
