
import Derived.Test.YthoiaffeenhfgaaGreatJ21
import Derived.Test.YthoiaffeenhfgaaGreatJ5
import Derived.Test.YthoiaffeenhfgaaGreatLayAcc
import Derived.Test.YthoiaffeenhfgaaGreatJ1
import Derived.Test.YthoiaffeenhfgaaGreatJ13
import Derived.BigQuiet
import Derived.Laws.EntriesVeiled
import Derived.Handy
import Derived.Lib.SliceRun
namespace Go.Proofs.YthoiaffeenhfgaaGreat
open Go.RowKit
set_option linter.unusedVariables false
set_option linter.unusedSimpArgs false
set_option maxRecDepth 100000
open Lay (plcc plc nodesN OkC Cfg slotsOf kindV)
structure Zc where
  i : Int
  v : Int
  fr : Int
  cy : Int
  a : Int
  t : Int
  nx : Value
  ch : Int
  cp : Option Addr
  ap : Option Addr
  ek : Int
  ea : Int
  eb : Int
abbrev fnz (n X : Nat) : Value := .func (.func n) #[ptr X] #[]
def Zrow (mp : Option Addr) (z : Zc) : Array Value := #[.pointer mp, .int .i64 z.i, .int .u32 z.v, .int .u32 z.fr, .int .u64 z.cy, .int .i64 z.a, .int .i64 z.t, z.nx, .int .u32 z.ch, .pointer z.cp, .pointer z.ap, .int .i64 z.ek, .int .i64 0, .int .i64 z.ea, .int .i64 z.eb, .int .i64 0]
def Zb (w : World) (X : Nat) (mp : Option Addr) (z : Zc) : Prop := w.heap[X]? = some (.cells (Zrow mp z) 159 (0, 0))
section
variable {w w' : World} {X : Nat} {mp : Option Addr} {z : Zc}
theorem Zb.lt (h : Zb w X mp z) : X < w.heap.size := (Array.getElem?_eq_some_iff.1 h).1
theorem Zb.f (h : Zb w X mp z) (j : Nat) : w.frozen? ⟨X, j, none⟩ = false := frozen_of_row w X j _ _ h
theorem Zb.c (h : Zb w X mp z) (j : Nat) : w.cell? ⟨X, j, none⟩ = (Zrow mp z)[j]? := cell_of_row w X j _ _ _ h
theorem Zb.c0 (h : Zb w X mp z) : w.cell? ⟨X, 0, none⟩ = some (.pointer mp) := h.c 0
theorem Zb.c1 (h : Zb w X mp z) : w.cell? ⟨X, 1, none⟩ = some (.int .i64 z.i) := h.c 1
theorem Zb.c2 (h : Zb w X mp z) : w.cell? ⟨X, 2, none⟩ = some (.int .u32 z.v) := h.c 2
theorem Zb.c3 (h : Zb w X mp z) : w.cell? ⟨X, 3, none⟩ = some (.int .u32 z.fr) := h.c 3
theorem Zb.c4 (h : Zb w X mp z) : w.cell? ⟨X, 4, none⟩ = some (.int .u64 z.cy) := h.c 4
theorem Zb.c5 (h : Zb w X mp z) : w.cell? ⟨X, 5, none⟩ = some (.int .i64 z.a) := h.c 5
theorem Zb.c6 (h : Zb w X mp z) : w.cell? ⟨X, 6, none⟩ = some (.int .i64 z.t) := h.c 6
theorem Zb.c7 (h : Zb w X mp z) : w.cell? ⟨X, 7, none⟩ = some z.nx := h.c 7
theorem Zb.c8 (h : Zb w X mp z) : w.cell? ⟨X, 8, none⟩ = some (.int .u32 z.ch) := h.c 8
theorem Zb.c9 (h : Zb w X mp z) : w.cell? ⟨X, 9, none⟩ = some (.pointer z.cp) := h.c 9
theorem Zb.c10 (h : Zb w X mp z) : w.cell? ⟨X, 10, none⟩ = some (.pointer z.ap) := h.c 10
theorem Zb.c11 (h : Zb w X mp z) : w.cell? ⟨X, 11, none⟩ = some (.int .i64 z.ek) := h.c 11
theorem Zb.c12 (h : Zb w X mp z) : w.cell? ⟨X, 12, none⟩ = some (.int .i64 0) := h.c 12
theorem Zb.c13 (h : Zb w X mp z) : w.cell? ⟨X, 13, none⟩ = some (.int .i64 z.ea) := h.c 13
theorem Zb.c14 (h : Zb w X mp z) : w.cell? ⟨X, 14, none⟩ = some (.int .i64 z.eb) := h.c 14
theorem Zb.c15 (h : Zb w X mp z) : w.cell? ⟨X, 15, none⟩ = some (.int .i64 0) := h.c 15
theorem Zb.same (h : Zb w X mp z) (k : w'.heap[X]? = w.heap[X]?) : Zb w' X mp z := k.trans h
theorem Zb.step (h : Zb w X mp z) (hb : Below w.heap.size w w') : Zb w' X mp z := (hb.block X h.lt).trans h
theorem Zb.put (h : Zb w X mp z) (j : Nat) (y : Value) {z' : Zc} (hh : (Zrow mp z).setIfInBounds j y = Zrow mp z') : Zb (w.setCell ⟨X, j, none⟩ y) X mp z' := by
  unfold Zb
  rw [heap_setCell_same w X j _ 159 _ h, hh]
theorem Zb.ev (h : Zb w X mp z) : (w.cell? ⟨X, 11, none⟩ = some (.int .i64 z.ek) ∧ w.cell? ⟨X, 12, none⟩ = some (.int .i64 0) ∧ w.cell? ⟨X, 13, none⟩ = some (.int .i64 z.ea)) ∧ w.cell? ⟨X, 14, none⟩ = some (.int .i64 z.eb) ∧ w.cell? ⟨X, 15, none⟩ = some (.int .i64 0) := ⟨⟨h.c11, h.c12, h.c13⟩, h.c14, h.c15⟩
theorem Zb.evf (h : Zb w X mp z) : (w.frozen? ⟨X, 11, none⟩ = false ∧ w.frozen? ⟨X, 12, none⟩ = false ∧ w.frozen? ⟨X, 13, none⟩ = false) ∧ w.frozen? ⟨X, 14, none⟩ = false ∧ w.frozen? ⟨X, 15, none⟩ = false := ⟨⟨h.f _, h.f _, h.f _⟩, h.f _, h.f _⟩
end
abbrev evW (w : World) (X : Nat) (k a b : Int) : World := ((((w.setCell ⟨X, 11, none⟩ (.int .i64 k)).setCell ⟨X, 12, none⟩ (.int .i64 0)).setCell ⟨X, 13, none⟩ (.int .i64 a)).setCell ⟨X, 14, none⟩ (.int .i64 b)).setCell ⟨X, 15, none⟩ (.int .i64 0)
theorem Zb.pev {w : World} {X : Nat} {mp : Option Addr} {z : Zc} (h : Zb w X mp z) (k a b : Int) : Zb (evW w X k a b) X mp { z with ek := k, ea := a, eb := b } := by
  have h1 : Zb (w.setCell ⟨X, 11, none⟩ (.int .i64 k)) X mp { z with ek := k } := h.put 11 _ rfl
  have h2 : Zb _ X mp { z with ek := k } := h1.put 12 (.int .i64 0) rfl
  have h3 : Zb _ X mp { z with ek := k, ea := a } := h2.put 13 (.int .i64 a) rfl
  have h4 : Zb _ X mp { z with ek := k, ea := a, eb := b } := h3.put 14 (.int .i64 b) rfl
  exact h4.put 15 (.int .i64 0) rfl
theorem UF.evW (w : World) (X : Nat) (k a b : Int) : UF (fun j => j = X) w (evW w X k a b) :=
  ((((UF.set w X 11 _).trans (UF.set _ X 12 _) (fun _ x => x) (fun _ _ x => x)).trans (UF.set _ X 13 _) (fun _ x => x) (fun _ _ x => x)).trans (UF.set _ X 14 _) (fun _ x => x) (fun _ _ x => x)).trans (UF.set _ X 15 _) (fun _ x => x) (fun _ _ x => x)
set_option maxHeartbeats 1000000 in
theorem none_any (w : World) : Calls Tryz.prog 202 #[] w fun e w' => e = .returned (.agg #[.int .i64 0, .int .i64 0, .int .i64 0, .int .i64 0, .int .i64 0]) ∧ Below w.heap.size w w' := by
  go_enter Tryz.func202, Tryz.ntmps202
  go_wp2
  exact bodyPost_ret (v := .agg #[.int .i64 0, .int .i64 0, .int .i64 0, .int .i64 0, .int .i64 0]) (by simp [results, Tryz.results202, go_sem]) rfl ⟨rfl, below_alloc0 (Below.refl _ _) _⟩
abbrev evV (k a b : Int) : Value := .agg #[.int .i64 k, .int .i64 0, .int .i64 a, .int .i64 b, .int .i64 0]
set_option maxHeartbeats 1000000 in
theorem event_any {w : World} {X : Nat} {mp : Option Addr} {z : Zc} (h : Zb w X mp z) : Calls Tryz.prog 237 #[ptr X] w fun e w' => e = .returned (evV z.ek z.ea z.eb) ∧ Below w.heap.size w w' := by
  obtain ⟨⟨e0, e1, e2⟩, e3, e4⟩ := (h.step (below_alloc0 (Below.refl w.heap.size w) (.cells #[.int .i64 0, .int .i64 0, .int .i64 0, .int .i64 0, .int .i64 0] 44))).ev
  clear h
  go_enter Tryz.func237, Tryz.ntmps237
  go_wp2
  exact bodyPost_ret (v := evV z.ek z.ea z.eb) (by simp [results, Tryz.results237, go_sem]) rfl ⟨rfl, below_alloc0 (Below.refl _ _) _⟩
structure PEz (w w' : World) : Prop where
  bel : Below w.heap.size w w'
  br : w'.heap[w.heap.size]? = some (.cells #[.int .i64 0, .int .i64 0, .int .i64 0, .int .i64 0, .int .i64 0] 44 (0, 0))
section
variable {w w' w2 : World}
theorem PEz.step (k : PEz w w') (hb : Below w'.heap.size w' w2) : PEz w w2 := ⟨below_step k.bel k.bel.size hb, (hb.block _ (Array.getElem?_eq_some_iff.1 k.br).1).trans k.br⟩
theorem PEz.res (k : PEz w w') : w'.cell? ⟨w.heap.size, 0, none⟩ = some (.int .i64 0) ∧ w'.cell? ⟨w.heap.size, 1, none⟩ = some (.int .i64 0) ∧ w'.cell? ⟨w.heap.size, 2, none⟩ = some (.int .i64 0) ∧ w'.cell? ⟨w.heap.size, 3, none⟩ = some (.int .i64 0) ∧ w'.cell? ⟨w.heap.size, 4, none⟩ = some (.int .i64 0) := by
  have := k.br
  refine ⟨?_, ?_, ?_, ?_, ?_⟩ <;> simp [World.cell?, this]
theorem PEz.fro (k : PEz w w') (j : Nat) : w'.frozen? ⟨w.heap.size, j, none⟩ = false := frozen_of_row w' _ j _ _ k.br
theorem PEz.new (w : World) : PEz w (w.alloc (.cells #[.int .i64 0, .int .i64 0, .int .i64 0, .int .i64 0, .int .i64 0] 44)) := ⟨below_alloc0 (Below.refl _ _) _, Go.heap_alloc_new _ _⟩
theorem PEz.bel5 (k : PEz w w') {v0 v1 v2 v3 v4 : Value} : Below w.heap.size w (((((w'.setCell ⟨w.heap.size, 0, none⟩ v0).setCell ⟨w.heap.size, 1, none⟩ v1).setCell ⟨w.heap.size, 2, none⟩ v2).setCell ⟨w.heap.size, 3, none⟩ v3).setCell ⟨w.heap.size, 4, none⟩ v4) :=
  below_uf (below_uf (below_uf (below_uf (below_uf k.bel (Nat.le_refl _) (UF.set _ _ 0 v0) (fun _ e => Nat.le_of_eq e.symm)) (Nat.le_refl _) (UF.set _ _ 1 v1) (fun _ e => Nat.le_of_eq e.symm)) (Nat.le_refl _) (UF.set _ _ 2 v2) (fun _ e => Nat.le_of_eq e.symm)) (Nat.le_refl _) (UF.set _ _ 3 v3) (fun _ e => Nat.le_of_eq e.symm)) (Nat.le_refl _) (UF.set _ _ 4 v4) (fun _ e => Nat.le_of_eq e.symm)
end
structure Zs (w0 w : World) (X S D N : Nat) (c : Cfg) (z : Zc) (L : List Int) (cc : Int) : Prop where
  mem : Zb w X (some ⟨N, 0, none⟩) z
  st : St w S D L cc
  mp : Lay.IsMap w N c
  ok : OkC c
  n : X ≠ S ∧ X ≠ D ∧ N ≠ X ∧ N ≠ S ∧ N ≠ D
  u : UF (fun b => b = X ∨ b = S ∨ b = D) w0 w
section
variable {w0 w w' : World} {X S D N : Nat} {c : Cfg} {z : Zc} {L : List Int} {cc : Int}
theorem Zs.step (h : Zs w0 w X S D N c z L cc) (kb : Below w.heap.size w w') : Zs w0 w' X S D N c z L cc :=
  ⟨h.mem.step kb, h.st.below kb, h.mp.below kb, h.ok, h.n, h.u.trans (.of_below (F := fun _ => False) kb) (fun _ x => x) (fun _ _ x => x.elim)⟩
theorem Zs.drew (h : Zs w0 w X S D N c z L cc) : Zs w0 w.drew X S D N c z L cc := h.step (Below.refl _ _).drew
theorem Zs.left (h : Zs w0 w X S D N c z L cc) {L' : List Int} {c' : Int} (kb : Left S D L' c' w w') : Zs w0 w' X S D N c z L' c' :=
  ⟨h.mem.same (kb.2.block X h.mem.lt h.n.1 h.n.2.1), kb.1, IsMap_same h.mp kb.2.size (kb.2.block N h.mp.1 h.n.2.2.2.1 h.n.2.2.2.2), h.ok, h.n, h.u.trans (.of_upd kb.2) (fun _ x => x) (fun _ _ x => .inr x)⟩
theorem Zs.uf (h : Zs w0 w X S D N c z L cc) {z' : Zc} (hz : Zb w' X (some ⟨N, 0, none⟩) z') (u : UF (fun b => b = X) w w') : Zs w0 w' X S D N c z' L cc :=
  ⟨hz, St_same h.st (u.block S h.st.ltS (Ne.symm h.n.1)) (u.block D h.st.row.lt (Ne.symm h.n.2.1)), IsMap_same h.mp u.size (u.block N h.mp.1 h.n.2.2.1), h.ok, h.n, h.u.trans u (fun _ x => x) (fun _ _ e => .inl e)⟩
theorem Zs.put (h : Zs w0 w X S D N c z L cc) (j : Nat) (y : Value) {z' : Zc} (hh : (Zrow (some ⟨N, 0, none⟩) z).setIfInBounds j y = Zrow (some ⟨N, 0, none⟩) z') : Zs w0 (w.setCell ⟨X, j, none⟩ y) X S D N c z' L cc :=
  h.uf (h.mem.put j y hh) (UF.set w X j y)
theorem Zs.p5 (h : Zs w0 w X S D N c z L cc) (y : Int) : Zs w0 (w.setCell ⟨X, 5, none⟩ (.int .i64 y)) X S D N c { z with a := y } L cc := h.put 5 _ rfl
theorem Zs.p6 (h : Zs w0 w X S D N c z L cc) (y : Int) : Zs w0 (w.setCell ⟨X, 6, none⟩ (.int .i64 y)) X S D N c { z with t := y } L cc := h.put 6 _ rfl
theorem Zs.p7 (h : Zs w0 w X S D N c z L cc) (y : Value) : Zs w0 (w.setCell ⟨X, 7, none⟩ y) X S D N c { z with nx := y } L cc := h.put 7 _ rfl
theorem Zs.p8 (h : Zs w0 w X S D N c z L cc) (y : Int) : Zs w0 (w.setCell ⟨X, 8, none⟩ (.int .u32 y)) X S D N c { z with ch := y } L cc := h.put 8 _ rfl
theorem Zs.p9 (h : Zs w0 w X S D N c z L cc) (y : Option Addr) : Zs w0 (w.setCell ⟨X, 9, none⟩ (.pointer y)) X S D N c { z with cp := y } L cc := h.put 9 _ rfl
theorem Zs.p10 (h : Zs w0 w X S D N c z L cc) (y : Option Addr) : Zs w0 (w.setCell ⟨X, 10, none⟩ (.pointer y)) X S D N c { z with ap := y } L cc := h.put 10 _ rfl
theorem Zs.pev (h : Zs w0 w X S D N c z L cc) (k a b : Int) : Zs w0 (evW w X k a b) X S D N c { z with ek := k, ea := a, eb := b } L cc := h.uf (h.mem.pev k a b) (UF.evW w X k a b)
theorem Zs.c03 (h : Zs w0 w X S D N c z L cc) : w.cell? ⟨X, 0, none⟩ = some (.pointer (some ⟨N, 0, none⟩)) ∧ w.cell? ⟨X, 3, none⟩ = some (.int .u32 z.fr) := ⟨h.mem.c0, h.mem.c3⟩
set_option maxHeartbeats 1000000 in
theorem goOnZ (h : Zs w0 w X S D N c z L cc) : Calls Tryz.prog 163 #[ptr X] w fun e w' => e = .returned (.tuple #[]) ∧ Zs w0 w' X S D N c { z with nx := if z.a < z.t then fnz 178 X else fnz 179 X } L cc := by
  have hmf : ∀ (fn : Fn) (first cap : Array Value) (w : World), (Instr.makeFunc fn first cap).run Tryz.prog w = .ok (.func fn first cap) w := fun _ _ _ _ => rfl
  have H := Lib.hid h
  have r5 := h.mem.c5; have r6 := h.mem.c6
  clear h
  obtain ⟨a, ha⟩ : ∃ a, a = z.a := ⟨_, rfl⟩
  obtain ⟨t, ht⟩ : ∃ t, t = z.t := ⟨_, rfl⟩
  rw [← ha] at r5 ⊢; rw [← ht] at r6 ⊢
  have HA := Lib.hid ha; have HT := Lib.hid ht
  clear ha ht
  by_cases hlt : a < t
  · have d : decide (a < t) = true := by simpa using hlt
    rw [if_pos hlt]
    clear hlt
    go_enter Tryz.func163, Tryz.ntmps163
    go_wp2_with (fail)
    go_quiet (fail)
    have H2 := Lib.hid (H.out.step (below_drewN (Below.refl _ _) nq))
    have q7 := H2.out.mem.c7; have f7 := H2.out.mem.f 7
    have H7 := Lib.hid (H2.out.p7 (fnz 178 X))
    go_wp2
    go_returns
    refine ⟨rfl, ?_⟩
    have := H7.out; rw [HA.out, HT.out]; exact this
  · have d : decide (a < t) = false := by simpa using hlt
    rw [if_neg hlt]
    clear hlt
    go_enter Tryz.func163, Tryz.ntmps163
    go_wp2_with (fail)
    go_quiet (fail)
    have H2 := Lib.hid (H.out.step (below_drewN (Below.refl _ _) nq))
    have q7 := H2.out.mem.c7; have f7 := H2.out.mem.f 7
    have H7 := Lib.hid (H2.out.p7 (fnz 179 X))
    go_wp2
    go_returns
    refine ⟨rfl, ?_⟩
    have := H7.out; rw [HA.out, HT.out]; exact this
@[go_sem] theorem fld_ch (a0 a1 a2 a3 a4 a5 a6 a7 a8 a9 a10 a11 : Int) (w : World) : (Instr.field 24 (.agg #[.int .i64 a0, .int .i64 a1, .int .i64 a2, .int .i64 a3, .int .i64 a4, .int .i64 a5, .int .i64 a6, .int .i64 a7, .int .i64 a8, .int .i64 a9, .int .i64 a10, .int .i64 a11]) 4).run Tryz.prog w = .ok (.int .i64 a8) w := by kernel_rfl
theorem work1 (c : Cfg) : plcc c 1 0 0 = 1 := Lay.single_pos c 1 (by omega) (by omega)
set_option maxHeartbeats 2000000 in
theorem countBackZ (h : Zs w0 w X S D N c z L cc) (h0 : 0 ≤ cc) (h1 : cc ≤ 1000000000) (v0 : 0 ≤ z.v ∧ z.v ≤ 4294967295) (f0 : 0 ≤ z.fr ∧ z.fr ≤ 4294967295) :
    Calls Tryz.prog 179 #[ptr X, ptr S] w fun e w' => e = .returned (.tuple #[]) ∧ Zs w0 w' X S D N c { z with nx := .nilFunc, ek := 4, ea := z.v, eb := z.fr } (adv L 1 18446744073709551615) (cc + 1) := by
  have H := Lib.hid h
  have q0 := h.mem.c0
  have ev : IntKind.i64.wrap z.v = z.v := IntWalk.i64_in _ (by omega)
  have ef : IntKind.i64.wrap z.fr = z.fr := IntWalk.i64_in _ (by omega)
  clear h
  go_enter Tryz.func179, Tryz.ntmps179
  go_wp2_with (first
    | (go_at_call 29; (with_reducible refine (Lay.work_m H.out.ok N _ H.out.mp).mono ?_); rintro r w1 ⟨rfl, hb⟩; rw [work1]; have H1 := Lib.hid (H.out.step hb); clear hb)
    | (go_at_call 28; (with_reducible refine (add_any _ _ _ H1.out.st h0 h1).mono ?_); rintro r w2 ⟨rfl, hk⟩; have H2 := Lib.hid (H1.out.left hk); clear hk; have q2 := H2.out.mem.c2; have q3 := H2.out.mem.c3; obtain ⟨⟨e0, e1, e2⟩, e3, e4⟩ := H2.out.mem.ev; obtain ⟨⟨g0, g1, g2⟩, g3, g4⟩ := H2.out.mem.evf)
    | fail)
  go_region
  have h3 := (H2.out.pev 4 z.v z.fr).drew
  obtain ⟨W, hW⟩ : ∃ W, W = (evW w2 X 4 z.v z.fr).drew := ⟨_, rfl⟩
  rw [← hW] at h3
  unfold evW at hW
  rw [← hW]
  have H3 := Lib.hid h3
  clear hW h3
  have q7 := H3.out.mem.c7; have f7 := H3.out.mem.f 7
  have H7 := Lib.hid (H3.out.p7 .nilFunc)
  clear q2 q3 e0 e1 e2 e3 e4 g0 g1 g2 g3 g4
  go_wp2
  go_returns
  exact ⟨rfl, H7.out⟩
def B2 (w : World) (Y : Nat) (F T : Int) : Prop := w.heap[Y]? = some (.cells #[.int .i64 F, .int .i64 T] 156 (0, 0))
theorem B2.below {w w' : World} {Y : Nat} {F T : Int} (h : B2 w Y F T) (hb : Below w.heap.size w w') : B2 w' Y F T := (hb.block _ (Array.getElem?_eq_some_iff.1 h).1).trans h
theorem B2.new (w : World) (F T : Int) : B2 (w.alloc (.cells #[.int .i64 F, .int .i64 T] 156)) w.heap.size F T := Go.heap_alloc_new _ _
theorem B2.cells {w : World} {Y : Nat} {F T : Int} (h : B2 w Y F T) : (w.cell? ⟨Y, 0, none⟩ = some (.int .i64 F) ∧ w.cell? ⟨Y, 1, none⟩ = some (.int .i64 T)) ∧ w.frozen? ⟨Y, 0, none⟩ = false ∧ w.frozen? ⟨Y, 1, none⟩ = false :=
  ⟨⟨cell_of_row w Y 0 _ _ _ h, cell_of_row w Y 1 _ _ _ h⟩, frozen_of_row w Y 0 _ _ h, frozen_of_row w Y 1 _ _ h⟩
theorem B2.put {w : World} {Y : Nat} {F T : Int} (h : B2 w Y F T) (F' T' : Int) : B2 ((w.setCell ⟨Y, 0, none⟩ (.int .i64 F')).setCell ⟨Y, 1, none⟩ (.int .i64 T')) Y F' T' := by
  have h1 : B2 (w.setCell ⟨Y, 0, none⟩ (.int .i64 F')) Y F' T := by unfold B2; rw [heap_setCell_same w Y 0 _ 156 _ h]; rfl
  unfold B2; rw [heap_setCell_same _ Y 1 _ 156 _ h1]; rfl
theorem Zs.box {w3 : World} {z3 : Zc} {L3 : List Int} {c3 : Int} (h3 : Zs w0 w3 X S D N c z3 L3 c3) (h : Zs w0 w X S D N c z L cc) {Y : Nat} (hY : w3.heap.size ≤ Y) (v0 v1 : Value) : Zs w0 ((w.setCell ⟨Y, 0, none⟩ v0).setCell ⟨Y, 1, none⟩ v1) X S D N c z L cc := by
  have a := h3.mem.lt; have b := h3.st.ltS; have d := h3.st.row.lt; have e := h3.mp.1; have f := h3.u.size
  have u : UF (fun k => k = Y) w ((w.setCell ⟨Y, 0, none⟩ v0).setCell ⟨Y, 1, none⟩ v1) := (UF.set w Y 0 v0).trans (UF.set _ Y 1 v1) (fun _ x => x) (fun _ _ x => x)
  exact ⟨h.mem.same (u.block X h.mem.lt (by omega)), St_same h.st (u.block S h.st.ltS (by omega)) (u.block D h.st.row.lt (by omega)), IsMap_same h.mp u.size (u.block N h.mp.1 (by omega)), h.ok, h.n, h.u.trans u (fun _ x => x) (fun k hk e => by omega)⟩
def nZ (c : Cfg) (L : List Int) (v : Int) : Int := Lay.imin (ldv L (plcc c 14 v 0)) (slotsOf (kindV c v))
set_option maxHeartbeats 8000000 in
theorem seeHeaderZ (h : Zs w0 w X S D N c z L cc) (h0 : 0 ≤ cc) (h1 : cc ≤ 1000000000) (v0 : 0 ≤ z.v ∧ z.v ≤ 4294967295) (f0 : 0 ≤ z.fr ∧ z.fr ≤ 4294967295) (n0 : 0 ≤ nZ c L z.v) (n1 : nZ c L z.v ≤ 1000) (s0 : 0 ≤ slotsOf (kindV c z.v)) (s1 : slotsOf (kindV c z.v) ≤ 1000) :
    Calls Tryz.prog 142 #[ptr X, ptr S] w fun e w' => e = .returned (.tuple #[]) ∧ Zs w0 w' X S D N c { z with a := frZ (nZ c L z.v) z.fr, t := toZ (nZ c L z.v) z.fr c.ch, nx := if toZ (nZ c L z.v) z.fr c.ch < nZ c L z.v then fnz 162 X else if frZ (nZ c L z.v) z.fr < toZ (nZ c L z.v) z.fr c.ch then fnz 178 X else fnz 179 X } L (cc + 1) := by
  have hmf : ∀ (fn : Fn) (first cap : Array Value) (w : World), (Instr.makeFunc fn first cap).run Tryz.prog w = .ok (.func fn first cap) w := fun _ _ _ _ => rfl
  have H := Lib.hid h
  have q2 := h.mem.c2
  have ev : IntKind.i64.wrap z.v = z.v := IntWalk.i64_in _ (by omega)
  have ef : IntKind.i64.wrap z.fr = z.fr := IntWalk.i64_in _ (by omega)
  obtain ⟨hd, hhd⟩ : ∃ x, x = ldv L (plcc c 14 z.v 0) := ⟨_, rfl⟩
  obtain ⟨rm, hrm⟩ : ∃ x, x = slotsOf (kindV c z.v) := ⟨_, rfl⟩
  have en : nZ c L z.v = Lay.imin hd rm := by unfold nZ; rw [hhd, hrm]
  obtain ⟨n, hn⟩ : ∃ x, x = nZ c L z.v := ⟨_, rfl⟩
  have hn2 : Lay.imin hd rm = n := by rw [hn, en]
  have er : IntKind.u64.wrap rm = rm := by rw [IntKind.wrap_u64]; exact Int.emod_eq_of_lt (by omega) (by omega)
  have enw : IntKind.i64.wrap n = n := IntWalk.i64_in _ (by omega)
  rw [← hn] at n0 n1 ⊢
  have HHD := Lib.hid hhd; have HRM := Lib.hid hrm
  have HV : Hid ((Lit.int .i64 z.v).wf = true) := Lib.hid (by simp [Lit.wf, IntKind.min, IntKind.max, IntKind.bits, IntKind.signed]; omega)
  obtain ⟨F, hF⟩ : ∃ F, F = frZ n z.fr := ⟨_, rfl⟩
  obtain ⟨T, hT⟩ : ∃ T, T = toZ n z.fr c.ch := ⟨_, rfl⟩
  obtain ⟨b, hb⟩ : ∃ b, b = decide (T < n) := ⟨_, rfl⟩
  have HFF := Lib.hid hF; have HTT := Lib.hid hT
  rw [← hF, ← hT]
  have HBB : Hid (decide (toZ n z.fr c.ch < n) = b) := Lib.hid (by rw [hb, hT])
  have HB2 := Lib.hid hb
  obtain ⟨nv, hnv⟩ : ∃ nv, nv = (if T < n then fnz 162 X else if F < T then fnz 178 X else fnz 179 X) := ⟨_, rfl⟩
  rw [← hnv]
  have HNV := Lib.hid hnv
  clear hnv
  clear h hhd hrm en hn s0 s1 hF hT hb
  go_enter Tryz.func142, Tryz.ntmps142
  go_wp2_with (fail)
  have HD := Lib.hid H.out.drew
  have q0 := H.out.mem.c0
  go_region_held3 (fun w' => w'.cell? ⟨X, 0, none⟩ = some (.pointer (some ⟨N, 0, none⟩)))
    (first | (with_reducible exact H3.out.mem.c0) | (with_reducible exact H2.out.mem.c0) | (with_reducible exact H1.out.mem.c0) | (with_reducible exact HD.out.mem.c0) | fail)
    (first
      | (go_at_call 48; (with_reducible refine (Lay.header_m HD.out.ok N _ HV.out _ HD.out.mp).mono ?_); rintro r w1 ⟨rfl, hb⟩; have H1 := Lib.hid (HD.out.step hb); clear hb)
      | (go_at_call 25; (with_reducible refine (load_any _ _ H1.out.st h0 h1).mono ?_); rintro r w2 ⟨rfl, hk⟩; rw [← HHD.out]; have H2 := Lib.hid (H1.out.left hk); clear hk)
      | (go_at_call 22; (with_reducible refine (Lay.room_m N z.v _ H2.out.mp).mono ?_); rintro r w3 ⟨rfl, hb⟩; rw [← HRM.out]; have H3 := Lib.hid (H2.out.step hb); clear hb)
      | fail)
  have q0 := H3.out.mem.c0; have q3 := H3.out.mem.c3
  have HX := Lib.hid H3.out.drew
  have HN := Lib.hid (And.intro n0 n1); have HF := Lib.hid f0
  clear q2 hn2 er n0 n1 f0
  go_wp2_with (fail)
  go_cut [6, 7] (fun s t wx => ∃ YB : Nat, s = .pointer (some ⟨YB, 0, none⟩) ∧ t = .bool b ∧ B2 wx YB F T ∧ Zs w0 wx X S D N c z L (cc + 1))
  case first =>
    go_region_held3 (fun w' => w'.cell? ⟨X, 0, none⟩ = some (.pointer (some ⟨N, 0, none⟩)) ∧ w'.cell? ⟨X, 3, none⟩ = some (.int .u32 z.fr))
      (first | (with_reducible exact Zs.c03 (Zs.box H3.out H5.out HY.out _ _)) | (with_reducible exact Zs.c03 (H5.out)) | (with_reducible exact Zs.c03 ((H5.out).step (below_alloc0 (Below.refl _ _) _))) | (with_reducible exact Zs.c03 (H4.out)) | (with_reducible exact Zs.c03 ((H4.out).step (below_alloc0 (Below.refl _ _) _))) | (with_reducible exact Zs.c03 (HX.out)) | (with_reducible exact Zs.c03 ((HX.out).step (below_alloc0 (Below.refl _ _) _))) | (with_reducible exact Zs.c03 ((H3.out.step (below_alloc0 (Below.refl _ _) _).drew))) | go_keep)
      (first
        | (go_at_call 58; (with_reducible refine (Lay.config_m N _ HX.out.mp).mono ?_); rintro r w4 ⟨rfl, hb⟩; have H4 := Lib.hid (HX.out.step hb); have HY := Lib.hid (show w3.heap.size ≤ w4.heap.size from hb.size); clear hb)
        | (go_at_call 58; (with_reducible refine (Lay.config_m N _ (H3.out.step (below_alloc0 (Below.refl _ _) _).drew).mp).mono ?_); rintro r w4 ⟨rfl, hb⟩; have H4 := Lib.hid ((H3.out.step (below_alloc0 (Below.refl _ _) _).drew).step hb); have HQ := Lib.hid (B2.below (B2.below (B2.new _ 0 0) (Below.refl _ _).drew) hb); have HY := Lib.hid (Nat.le_refl w3.heap.size); clear hb)
        | (go_at_call 161; (with_reducible refine (pnext_any n z.fr c.ch b HN.out.1 HN.out.2 HF.out.1 HBB.out _).mono ?_); rintro r w5 ⟨rfl, hb⟩; rw [← HFF.out, ← HTT.out]; first | (have H5 := Lib.hid (H4.out.step hb); have HQ := Lib.hid (HQ.out.below hb); obtain ⟨⟨y0, y1⟩, y2, y3⟩ := HQ.out.cells; clear hb) | (have H5 := Lib.hid (H4.out.step hb); clear hb) | (have H5 := Lib.hid ((H4.out.step (below_alloc0 (Below.refl _ _) _)).step hb); have HQ := Lib.hid ((B2.new _ 0 0).below hb); obtain ⟨⟨y0, y1⟩, y2, y3⟩ := HQ.out.cells; clear hb))
        | fail)
    · go_wp2_with (fail)
      go_meet
      exact ⟨_, rfl, rfl, B2.new _ F T, H5.out.step (below_alloc0 (Below.refl _ _) _)⟩
    · go_wp2_with (fail)
      go_meet
      exact ⟨_, rfl, rfl, HQ.out.put F T, Zs.box H3.out H5.out HY.out _ _⟩
    · go_wp2_with (fail)
      go_meet
      exact ⟨_, rfl, rfl, HQ.out.put F T, Zs.box H3.out H5.out HY.out _ _⟩
  case rest =>
    obtain ⟨YB, rfl, rfl, hy, hz⟩ := hcut
    obtain ⟨⟨y0, y1⟩, _, _⟩ := hy.cells
    have x5 := hz.mem.c5; have f5 := hz.mem.f 5
    have x6 := (hz.p5 F).mem.c6; have f6 := (hz.p5 F).mem.f 6
    have H6 := Lib.hid ((hz.p5 F).p6 T)
    clear hz hy q0 q3
    have HB3 : Hid (b = decide (T < n)) := HB2
    clear HBB HB2
    cases b
    · go_wp2_with (first
        | (go_at_call 163; (with_reducible refine (goOnZ H6.out).mono ?_); rintro r w7 ⟨rfl, hk⟩; have H7 := Lib.hid hk; clear hk)
        | fail)
      go_returns
      have hb : ¬ T < n := by simpa using HB3.out.symm
      have e := HNV.out
      rw [if_neg hb] at e
      rw [e]
      exact ⟨rfl, H7.out⟩
    · have x7 := H6.out.mem.c7; have f7 := H6.out.mem.f 7
      have H7 := Lib.hid (H6.out.p7 (fnz 162 X))
      go_wp2_with (fail)
      go_returns
      have hb : T < n := by simpa using HB3.out.symm
      have e := HNV.out
      rw [if_pos hb] at e
      rw [e]
      exact ⟨rfl, H7.out⟩
end
end Go.Proofs.YthoiaffeenhfgaaGreat
