
import Derived.Test.YthoiaffeenhfgaaGreatJ9
import Derived.Test.YthoiaffeenhfgaaGreatJ2
import Derived.Test.YthoiaffeenhfgaaGreatJ12
import Derived.Test.YthoiaffeenhfgaaGreatLayAcc
import Derived.Test.YthoiaffeenhfgaaGreatJ10
import Derived.BigQuiet
import Derived.Laws.EntriesVeiled
import Derived.Handy
namespace Go.Proofs.YthoiaffeenhfgaaGreat
open Go.RowKit
set_option linter.unusedVariables false
set_option linter.unusedSimpArgs false
set_option maxRecDepth 100000
open Lay (plcc plc nodesN OkC Cfg kindV partsC)
structure Swc where
  cy : Int
  nx : Value
  se : Int
  pt : Int
  v : Int
  la : Int
  pp : Option Addr
  ek : Int
  ea : Int
abbrev fns (n X : Nat) : Value := .func (.func n) #[ptr X] #[]
def Srow (mp : Option Addr) (z : Swc) : Array Value := #[.pointer mp, .int .u64 z.cy, z.nx, .int .u64 z.se, .int .i64 z.pt, .int .i64 z.v, .int .i64 z.la, .pointer z.pp, .int .i64 z.ek, .int .i64 0, .int .i64 z.ea, .int .i64 0, .int .i64 0]
def Sb (w : World) (X : Nat) (mp : Option Addr) (z : Swc) : Prop := w.heap[X]? = some (.cells (Srow mp z) 139 (0, 0))
section
variable {w w' : World} {X : Nat} {mp : Option Addr} {z : Swc}
theorem Sb.lt (h : Sb w X mp z) : X < w.heap.size := (Array.getElem?_eq_some_iff.1 h).1
theorem Sb.f (h : Sb w X mp z) (j : Nat) : w.frozen? ⟨X, j, none⟩ = false := frozen_of_row w X j _ _ h
theorem Sb.c (h : Sb w X mp z) (j : Nat) : w.cell? ⟨X, j, none⟩ = (Srow mp z)[j]? := cell_of_row w X j _ _ _ h
theorem Sb.c0 (h : Sb w X mp z) : w.cell? ⟨X, 0, none⟩ = some (.pointer mp) := h.c 0
theorem Sb.c1 (h : Sb w X mp z) : w.cell? ⟨X, 1, none⟩ = some (.int .u64 z.cy) := h.c 1
theorem Sb.c2 (h : Sb w X mp z) : w.cell? ⟨X, 2, none⟩ = some z.nx := h.c 2
theorem Sb.c3 (h : Sb w X mp z) : w.cell? ⟨X, 3, none⟩ = some (.int .u64 z.se) := h.c 3
theorem Sb.c4 (h : Sb w X mp z) : w.cell? ⟨X, 4, none⟩ = some (.int .i64 z.pt) := h.c 4
theorem Sb.c5 (h : Sb w X mp z) : w.cell? ⟨X, 5, none⟩ = some (.int .i64 z.v) := h.c 5
theorem Sb.c6 (h : Sb w X mp z) : w.cell? ⟨X, 6, none⟩ = some (.int .i64 z.la) := h.c 6
theorem Sb.c7 (h : Sb w X mp z) : w.cell? ⟨X, 7, none⟩ = some (.pointer z.pp) := h.c 7
theorem Sb.c8 (h : Sb w X mp z) : w.cell? ⟨X, 8, none⟩ = some (.int .i64 z.ek) := h.c 8
theorem Sb.c9 (h : Sb w X mp z) : w.cell? ⟨X, 9, none⟩ = some (.int .i64 0) := h.c 9
theorem Sb.c10 (h : Sb w X mp z) : w.cell? ⟨X, 10, none⟩ = some (.int .i64 z.ea) := h.c 10
theorem Sb.c11 (h : Sb w X mp z) : w.cell? ⟨X, 11, none⟩ = some (.int .i64 0) := h.c 11
theorem Sb.c12 (h : Sb w X mp z) : w.cell? ⟨X, 12, none⟩ = some (.int .i64 0) := h.c 12
theorem Sb.same (h : Sb w X mp z) (k : w'.heap[X]? = w.heap[X]?) : Sb w' X mp z := k.trans h
theorem Sb.step (h : Sb w X mp z) (hb : Below w.heap.size w w') : Sb w' X mp z := (hb.block X h.lt).trans h
theorem Sb.put (h : Sb w X mp z) (j : Nat) (y : Value) {z' : Swc} (hh : (Srow mp z).setIfInBounds j y = Srow mp z') : Sb (w.setCell ⟨X, j, none⟩ y) X mp z' := by
  unfold Sb
  rw [heap_setCell_same w X j _ 139 _ h, hh]
theorem Sb.ev (h : Sb w X mp z) : (w.cell? ⟨X, 8, none⟩ = some (.int .i64 z.ek) ∧ w.cell? ⟨X, 9, none⟩ = some (.int .i64 0) ∧ w.cell? ⟨X, 10, none⟩ = some (.int .i64 z.ea)) ∧ w.cell? ⟨X, 11, none⟩ = some (.int .i64 0) ∧ w.cell? ⟨X, 12, none⟩ = some (.int .i64 0) := ⟨⟨h.c8, h.c9, h.c10⟩, h.c11, h.c12⟩
theorem Sb.evf (h : Sb w X mp z) : (w.frozen? ⟨X, 8, none⟩ = false ∧ w.frozen? ⟨X, 9, none⟩ = false ∧ w.frozen? ⟨X, 10, none⟩ = false) ∧ w.frozen? ⟨X, 11, none⟩ = false ∧ w.frozen? ⟨X, 12, none⟩ = false := ⟨⟨h.f _, h.f _, h.f _⟩, h.f _, h.f _⟩
end
abbrev evS (w : World) (X : Nat) (k a : Int) : World := ((((w.setCell ⟨X, 8, none⟩ (.int .i64 k)).setCell ⟨X, 9, none⟩ (.int .i64 0)).setCell ⟨X, 10, none⟩ (.int .i64 a)).setCell ⟨X, 11, none⟩ (.int .i64 0)).setCell ⟨X, 12, none⟩ (.int .i64 0)
theorem Sb.pev {w : World} {X : Nat} {mp : Option Addr} {z : Swc} (h : Sb w X mp z) (k a : Int) : Sb (evS w X k a) X mp { z with ek := k, ea := a } := by
  have h1 : Sb (w.setCell ⟨X, 8, none⟩ (.int .i64 k)) X mp { z with ek := k } := h.put 8 _ rfl
  have h2 : Sb _ X mp { z with ek := k } := h1.put 9 (.int .i64 0) rfl
  have h3 : Sb _ X mp { z with ek := k, ea := a } := h2.put 10 (.int .i64 a) rfl
  have h4 : Sb _ X mp { z with ek := k, ea := a } := h3.put 11 (.int .i64 0) rfl
  exact h4.put 12 (.int .i64 0) rfl
theorem UF.evS (w : World) (X : Nat) (k a : Int) : UF (fun j => j = X) w (evS w X k a) :=
  ((((UF.set w X 8 _).trans (UF.set _ X 9 _) (fun _ x => x) (fun _ _ x => x)).trans (UF.set _ X 10 _) (fun _ x => x) (fun _ _ x => x)).trans (UF.set _ X 11 _) (fun _ x => x) (fun _ _ x => x)).trans (UF.set _ X 12 _) (fun _ x => x) (fun _ _ x => x)
set_option maxHeartbeats 1000000 in
theorem noneW_any (w : World) : Calls Tryz.prog 235 #[] w fun e w' => e = .returned (.agg #[.int .i64 0, .int .i64 0, .int .i64 0, .int .i64 0, .int .i64 0]) ∧ Below w.heap.size w w' := by
  go_enter Tryz.func235, Tryz.ntmps235
  go_wp2
  exact bodyPost_ret (v := .agg #[.int .i64 0, .int .i64 0, .int .i64 0, .int .i64 0, .int .i64 0]) (by simp [results, Tryz.results235, go_sem]) rfl ⟨rfl, below_alloc0 (Below.refl _ _) _⟩
abbrev evA (k a : Int) : Value := .agg #[.int .i64 k, .int .i64 0, .int .i64 a, .int .i64 0, .int .i64 0]
set_option maxHeartbeats 1000000 in
theorem eventW_any {w : World} {X : Nat} {mp : Option Addr} {z : Swc} (h : Sb w X mp z) : Calls Tryz.prog 233 #[ptr X] w fun e w' => e = .returned (evA z.ek z.ea) ∧ Below w.heap.size w w' := by
  obtain ⟨⟨e0, e1, e2⟩, e3, e4⟩ := (h.step (below_alloc0 (Below.refl w.heap.size w) (.cells #[.int .i64 0, .int .i64 0, .int .i64 0, .int .i64 0, .int .i64 0] 44))).ev
  clear h
  go_enter Tryz.func233, Tryz.ntmps233
  go_wp2
  exact bodyPost_ret (v := evA z.ek z.ea) (by simp [results, Tryz.results233, go_sem]) rfl ⟨rfl, below_alloc0 (Below.refl _ _) _⟩
structure Ss (w0 w : World) (X S D N : Nat) (c : Cfg) (z : Swc) (L : List Int) (cc : Int) : Prop where
  mem : Sb w X (some ⟨N, 0, none⟩) z
  st : St w S D L cc
  mp : Lay.IsMap w N c
  ok : OkC c
  n : X ≠ S ∧ X ≠ D ∧ N ≠ X ∧ N ≠ S ∧ N ≠ D
  u : UF (fun b => b = X ∨ b = S ∨ b = D) w0 w
section
variable {w0 w w' : World} {X S D N : Nat} {c : Cfg} {z : Swc} {L : List Int} {cc : Int}
theorem Ss.step (h : Ss w0 w X S D N c z L cc) (kb : Below w.heap.size w w') : Ss w0 w' X S D N c z L cc :=
  ⟨h.mem.step kb, h.st.below kb, h.mp.below kb, h.ok, h.n, h.u.trans (.of_below (F := fun _ => False) kb) (fun _ x => x) (fun _ _ x => x.elim)⟩
theorem Ss.drew (h : Ss w0 w X S D N c z L cc) : Ss w0 w.drew X S D N c z L cc := h.step (Below.refl _ _).drew
theorem Ss.left (h : Ss w0 w X S D N c z L cc) {L' : List Int} {c' : Int} (kb : Left S D L' c' w w') : Ss w0 w' X S D N c z L' c' :=
  ⟨h.mem.same (kb.2.block X h.mem.lt h.n.1 h.n.2.1), kb.1, IsMap_same h.mp kb.2.size (kb.2.block N h.mp.1 h.n.2.2.2.1 h.n.2.2.2.2), h.ok, h.n, h.u.trans (.of_upd kb.2) (fun _ x => x) (fun _ _ x => .inr x)⟩
theorem Ss.uf (h : Ss w0 w X S D N c z L cc) {z' : Swc} (hz : Sb w' X (some ⟨N, 0, none⟩) z') (u : UF (fun b => b = X) w w') : Ss w0 w' X S D N c z' L cc :=
  ⟨hz, St_same h.st (u.block S h.st.ltS (Ne.symm h.n.1)) (u.block D h.st.row.lt (Ne.symm h.n.2.1)), IsMap_same h.mp u.size (u.block N h.mp.1 h.n.2.2.1), h.ok, h.n, h.u.trans u (fun _ x => x) (fun _ _ e => .inl e)⟩
theorem Ss.put (h : Ss w0 w X S D N c z L cc) (j : Nat) (y : Value) {z' : Swc} (hh : (Srow (some ⟨N, 0, none⟩) z).setIfInBounds j y = Srow (some ⟨N, 0, none⟩) z') : Ss w0 (w.setCell ⟨X, j, none⟩ y) X S D N c z' L cc :=
  h.uf (h.mem.put j y hh) (UF.set w X j y)
theorem Ss.p2 (h : Ss w0 w X S D N c z L cc) (y : Value) : Ss w0 (w.setCell ⟨X, 2, none⟩ y) X S D N c { z with nx := y } L cc := h.put 2 _ rfl
theorem Ss.p3 (h : Ss w0 w X S D N c z L cc) (y : Int) : Ss w0 (w.setCell ⟨X, 3, none⟩ (.int .u64 y)) X S D N c { z with se := y } L cc := h.put 3 _ rfl
theorem Ss.p4 (h : Ss w0 w X S D N c z L cc) (y : Int) : Ss w0 (w.setCell ⟨X, 4, none⟩ (.int .i64 y)) X S D N c { z with pt := y } L cc := h.put 4 _ rfl
theorem Ss.p5 (h : Ss w0 w X S D N c z L cc) (y : Int) : Ss w0 (w.setCell ⟨X, 5, none⟩ (.int .i64 y)) X S D N c { z with v := y } L cc := h.put 5 _ rfl
theorem Ss.p6 (h : Ss w0 w X S D N c z L cc) (y : Int) : Ss w0 (w.setCell ⟨X, 6, none⟩ (.int .i64 y)) X S D N c { z with la := y } L cc := h.put 6 _ rfl
theorem Ss.p7 (h : Ss w0 w X S D N c z L cc) (y : Option Addr) : Ss w0 (w.setCell ⟨X, 7, none⟩ (.pointer y)) X S D N c { z with pp := y } L cc := h.put 7 _ rfl
theorem Ss.pev (h : Ss w0 w X S D N c z L cc) (k a : Int) : Ss w0 (evS w X k a) X S D N c { z with ek := k, ea := a } L cc := h.uf (h.mem.pev k a) (UF.evS w X k a)
theorem Ss.c05 (h : Ss w0 w X S D N c z L cc) : w.cell? ⟨X, 0, none⟩ = some (.pointer (some ⟨N, 0, none⟩)) ∧ w.cell? ⟨X, 5, none⟩ = some (.int .i64 z.v) := ⟨h.mem.c0, h.mem.c5⟩
theorem Ss.c04 (h : Ss w0 w X S D N c z L cc) : w.cell? ⟨X, 0, none⟩ = some (.pointer (some ⟨N, 0, none⟩)) ∧ w.cell? ⟨X, 4, none⟩ = some (.int .i64 z.pt) := ⟨h.mem.c0, h.mem.c4⟩
theorem Ss.c03 (h : Ss w0 w X S D N c z L cc) : w.cell? ⟨X, 0, none⟩ = some (.pointer (some ⟨N, 0, none⟩)) ∧ w.cell? ⟨X, 3, none⟩ = some (.int .u64 z.se) := ⟨h.mem.c0, h.mem.c3⟩
theorem Ss.c051 (h : Ss w0 w X S D N c z L cc) : w.cell? ⟨X, 0, none⟩ = some (.pointer (some ⟨N, 0, none⟩)) ∧ w.cell? ⟨X, 5, none⟩ = some (.int .i64 z.v) ∧ w.cell? ⟨X, 1, none⟩ = some (.int .u64 z.cy) := ⟨h.mem.c0, h.mem.c5, h.mem.c1⟩
def nxS (X : Nat) (v la : Int) : Value := if v ≤ la then fns 164 X else fns 165 X
set_option maxHeartbeats 1000000 in
theorem goOnS (h : Ss w0 w X S D N c z L cc) : Calls Tryz.prog 145 #[ptr X] w fun e w' => e = .returned (.tuple #[]) ∧ Ss w0 w' X S D N c { z with nx := nxS X z.v z.la } L cc := by
  have hmf : ∀ (fn : Fn) (first cap : Array Value) (w : World), (Instr.makeFunc fn first cap).run Tryz.prog w = .ok (.func fn first cap) w := fun _ _ _ _ => rfl
  have H := Lib.hid h
  have r5 := h.mem.c5; have r6 := h.mem.c6
  clear h
  obtain ⟨a, ha⟩ : ∃ a, a = z.v := ⟨_, rfl⟩
  obtain ⟨t, ht⟩ : ∃ t, t = z.la := ⟨_, rfl⟩
  rw [← ha] at r5 ⊢; rw [← ht] at r6 ⊢
  have HA := Lib.hid ha; have HT := Lib.hid ht
  clear ha ht
  unfold nxS
  by_cases hlt : a ≤ t
  · have d : decide (a ≤ t) = true := by simpa using hlt
    rw [if_pos hlt]
    clear hlt
    go_enter Tryz.func145, Tryz.ntmps145
    go_wp2_with (fail)
    go_quiet (fail)
    have H2 := Lib.hid (H.out.step (below_drewN (Below.refl _ _) nq))
    have q2 := H2.out.mem.c2; have f2 := H2.out.mem.f 2
    have H7 := Lib.hid (H2.out.p2 (fns 164 X))
    go_wp2
    go_returns
    refine ⟨rfl, ?_⟩
    have := H7.out; rw [HA.out, HT.out]; exact this
  · have d : decide (a ≤ t) = false := by simpa using hlt
    rw [if_neg hlt]
    clear hlt
    go_enter Tryz.func145, Tryz.ntmps145
    go_wp2_with (fail)
    go_quiet (fail)
    have H2 := Lib.hid (H.out.step (below_drewN (Below.refl _ _) nq))
    have q2 := H2.out.mem.c2; have f2 := H2.out.mem.f 2
    have H7 := Lib.hid (H2.out.p2 (fns 165 X))
    go_wp2
    go_returns
    refine ⟨rfl, ?_⟩
    have := H7.out; rw [HA.out, HT.out]; exact this
set_option maxHeartbeats 1000000 in
theorem passS (h : Ss w0 w X S D N c z L cc) (v0 : 0 ≤ z.v) (v1 : z.v ≤ 1000000) : Calls Tryz.prog 180 #[ptr X] w fun e w' => e = .returned (.tuple #[]) ∧ Ss w0 w' X S D N c { z with v := z.v + 1, nx := nxS X (z.v + 1) z.la } L cc := by
  have r5 := h.mem.c5; have f5 := h.mem.f 5
  have ev : IntKind.i64.wrap (z.v + 1) = z.v + 1 := IntWalk.i64_in _ (by omega)
  have H5 := Lib.hid (h.p5 (z.v + 1))
  clear h
  go_enter Tryz.func180, Tryz.ntmps180
  go_wp2_with (first
    | (go_at_call 145; (with_reducible refine (goOnS H5.out).mono ?_); rintro r w7 ⟨rfl, hk⟩; have H7 := Lib.hid hk; clear hk)
    | fail)
  go_returns
  exact ⟨rfl, H7.out⟩
set_option maxHeartbeats 1000000 in
theorem finS (h : Ss w0 w X S D N c z L cc) : Calls Tryz.prog 127 #[ptr X] w fun e w' => e = .returned (.tuple #[]) ∧ Ss w0 w' X S D N c { z with nx := .nilFunc } L cc := by
  have r2 := h.mem.c2; have f2 := h.mem.f 2
  have H2 := Lib.hid (h.p2 .nilFunc)
  clear h
  go_enter Tryz.func127, Tryz.ntmps127
  go_wp2
  go_returns
  exact ⟨rfl, H2.out⟩
theorem done3 (c : Cfg) : plcc c 3 0 0 = 3 := Lay.single_pos c 3 (by omega) (by omega)
theorem sweep2 (c : Cfg) : plcc c 2 0 0 = 2 := Lay.single_pos c 2 (by omega) (by omega)
set_option maxHeartbeats 2000000 in
theorem countPartS (h : Ss w0 w X S D N c z L cc) (h0 : 0 ≤ cc) (h1 : cc ≤ 1000000000) :
    Calls Tryz.prog 165 #[ptr X, ptr S] w fun e w' => e = .returned (.tuple #[]) ∧ Ss w0 w' X S D N c { z with nx := .nilFunc, ek := 6, ea := z.pt } (adv L 3 1) (cc + 1) := by
  have H := Lib.hid h
  have q0 := h.mem.c0
  clear h
  go_enter Tryz.func165, Tryz.ntmps165
  go_wp2_with (first
    | (go_at_call 36; (with_reducible refine (Lay.done_m H.out.ok N _ H.out.mp).mono ?_); rintro r w1 ⟨rfl, hb⟩; rw [done3]; have H1 := Lib.hid (H.out.step hb); clear hb)
    | (go_at_call 28; (with_reducible refine (add_any _ _ _ H1.out.st h0 h1).mono ?_); rintro r w2 ⟨rfl, hk⟩; have H2 := Lib.hid (H1.out.left hk); clear hk; have q4 := H2.out.mem.c4; obtain ⟨⟨e0, e1, e2⟩, e3, e4⟩ := H2.out.mem.ev; obtain ⟨⟨g0, g1, g2⟩, g3, g4⟩ := H2.out.mem.evf; have H3 := Lib.hid (H2.out.pev 6 z.pt))
    | (go_at_call 127; (with_reducible refine (finS H3.out).mono ?_); rintro r w7 ⟨rfl, hk⟩; have H7 := Lib.hid hk; clear hk)
    | fail)
  go_returns
  exact ⟨rfl, H7.out⟩
end
end Go.Proofs.YthoiaffeenhfgaaGreat
