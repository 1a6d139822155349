/-  -/
import Derived.Test.YtpocihddecemfaaGreatJ24
import Derived.Test.YtpocihddecemfaaGreatJ21
import Derived.Test.YtpocihddecemfaaGreatJ20
import Derived.Test.YtpocihddecemfaaGreatJ18
import Derived.Test.YtpocihddecemfaaGreatJ23
import Derived.IntWalk
namespace Go.Proofs.YtpocihddecemfaaGreat
open Go.RowKit
set_option linter.unusedVariables false
set_option linter.unusedSimpArgs false
set_option linter.unnecessarySimpa false
set_option maxRecDepth 100000
open Lay (plcc plc shOf packN nodesN OkC Cfg Norm firstV Rep lenL things roomsI)
def evRow (V : Array Value) (k a b : Int) : Array Value := ((((V.setIfInBounds 40 (.int .i64 k)).setIfInBounds 41 (.int .i64 0)).setIfInBounds 42 (.int .i64 a)).setIfInBounds 43 (.int .i64 b)).setIfInBounds 44 (.int .i64 0)
theorem evRow_far {V : Array Value} {k a b : Int} {j : Nat} (h : j < 40) : (evRow V k a b)[j]? = V[j]? := by
  unfold evRow
  rw [Array.getElem?_setIfInBounds_ne (by omega), Array.getElem?_setIfInBounds_ne (by omega), Array.getElem?_setIfInBounds_ne (by omega), Array.getElem?_setIfInBounds_ne (by omega), Array.getElem?_setIfInBounds_ne (by omega)]
theorem ZV.ev {Q : Nat → Prop} {w : World} {c : Cfg} {i : Int} {m : Zm} {V : Array Value} (h : ZV Q w c i m V) (k a b : Int) : ZV Q w c i { m with ek := k, ea := a, eb := b } (evRow V k a b) := by
  have hs := h.size
  have f : ∀ j, j < 40 → (evRow V k a b)[j]? = V[j]? := fun j hj => evRow_far hj
  obtain ⟨vc, k0, k1, k2, k3, k4, k5⟩ := h.cm
  obtain ⟨D, hd, hv, hj⟩ := h.d
  refine ⟨by simp [evRow, hs], ?_, (f 0 (by decide)).trans h.c0, (f 1 (by decide)).trans h.c1, (f 2 (by decide)).trans h.c2, (f 3 (by decide)).trans h.c3, (f 4 (by decide)).trans h.c4, (f 5 (by decide)).trans h.c5, (f 6 (by decide)).trans h.c6, (f 7 (by decide)).trans h.c7,
    ⟨vc, k0, (f 8 (by decide)).trans k1, (f 9 (by decide)).trans k2, (f 10 (by decide)).trans k3, (f 11 (by decide)).trans k4, (f 12 (by decide)).trans k5⟩, ⟨D, hd, hv, fun j hj2 => (f (13 + j) (by omega)).trans (hj j hj2)⟩, ?_, ?_, ?_, ?_, ?_⟩
  · exact one_put (one_put (one_put (one_put (one_put h.one 40 rfl) 41 rfl) 42 rfl) 43 rfl) 44 rfl
  all_goals unfold evRow
  · rw [Array.getElem?_setIfInBounds_ne (by decide), Array.getElem?_setIfInBounds_ne (by decide), Array.getElem?_setIfInBounds_ne (by decide), Array.getElem?_setIfInBounds_ne (by decide), Array.getElem?_setIfInBounds_self, if_pos (by omega)]
  · rw [Array.getElem?_setIfInBounds_ne (by decide), Array.getElem?_setIfInBounds_ne (by decide), Array.getElem?_setIfInBounds_ne (by decide), Array.getElem?_setIfInBounds_self, if_pos (by simp [hs])]
  · rw [Array.getElem?_setIfInBounds_ne (by decide), Array.getElem?_setIfInBounds_ne (by decide), Array.getElem?_setIfInBounds_self, if_pos (by simp [hs])]
  · rw [Array.getElem?_setIfInBounds_ne (by decide), Array.getElem?_setIfInBounds_self, if_pos (by simp [hs])]
  · rw [Array.getElem?_setIfInBounds_self, if_pos (by simp [hs])]
theorem ZC.ev {w w' : World} {A : Option Addr} {n cap : Nat} {P : Int} {c : Cfg} {B R : Nat} {V : Array Value} (h : ZC w w' A n cap P c B R V) (k a b : Int) :
    ZC w (((((w'.setCell ⟨B, 40, none⟩ (.int .i64 k)).setCell ⟨B, 41, none⟩ (.int .i64 0)).setCell ⟨B, 42, none⟩ (.int .i64 a)).setCell ⟨B, 43, none⟩ (.int .i64 b)).setCell ⟨B, 44, none⟩ (.int .i64 0)) A n cap P c B R (evRow V k a b) :=
  ((((h.put 40 _).put 41 _).put 42 _).put 43 _).put 44 _
end Go.Proofs.YtpocihddecemfaaGreat

namespace Go.Proofs.YtpocihddecemfaaGreat
open Go.RowKit
set_option linter.unusedVariables false
set_option linter.unusedSimpArgs false
set_option linter.unnecessarySimpa false
set_option maxRecDepth 100000
open Lay (plcc plc shOf packN nodesN OkC Cfg Norm firstV Rep lenL things roomsI)
def NotZ (Q : Nat → Prop) (B T b : Nat) : Prop := Q b ∧ b ≠ B ∧ b ≠ T
def SomeZ (Q : Nat → Prop) (w : World) (n' : Nat) (c : Cfg) (i : Int) (L : List Int) (m : Zm) (e : Ending) (w' : World) : Prop :=
  ∃ R cap V, e = .returned (.tuple #[.slice R n' cap, .agg V]) ∧ ReadsW Q w' R L ∧ ZV Q w' c i m V ∧ Below w.heap.size w w'
section
variable {P Q : Nat → Prop} {w w' : World} {c : Cfg} {i : Int} {m : Zm} {V : Array Value} {A : Option Addr} {n cap : Nat} {p : Int} {B T : Nat} {R : Option Addr} {L : List Int}
theorem ZV.uf {F : Nat → Prop} (h : ZV P w c i m V) (u : UF F w w') (hP : ∀ b, P b → b < w.heap.size → ¬ F b ∧ Q b) : ZV Q w' c i m V := by
  obtain ⟨D, hd, hv, hj⟩ := h.d
  exact ⟨h.size, h.one, h.c0, h.c1, h.c2, h.c3, h.c4, h.c5, h.c6, h.c7, h.cm, ⟨D, hd.uf u hP, hv, hj⟩, h.e0, h.e1, h.e2, h.e3, h.e4⟩
theorem ZV.notZ (h : ZV Q w c i m V) (hB : w.heap.size ≤ B) (hT : w.heap.size ≤ T) : ZV (NotZ Q B T) w c i m V :=
  h.uf (UF.refl (fun _ => False) _) (fun b hb hl => ⟨fun f => f, hb, by omega, by omega⟩)
theorem ReadsW.notZ (h : ReadsW Q w R L) (hB : w.heap.size ≤ B) (hT : w.heap.size ≤ T) : ReadsW (NotZ Q B T) w R L := fun h0 => by
  obtain ⟨b, off, e, hb, hp, hc⟩ := h h0
  exact ⟨b, off, e, hb, ⟨hp, by omega, by omega⟩, hc⟩
theorem ZC.out (h : ZC w w' A n cap p c B T V) (hr : ReadsW (NotZ Q B T) w' R L) (hv : ZV (NotZ Q B T) w' c i m V) :
    (loadVar 64 ⟨T, 0, none⟩).run Tryz.prog (w'.setCells T 0 V.toList) = .ok (.agg V) (w'.setCells T 0 V.toList) ∧ ReadsW Q (w'.setCells T 0 V.toList) R L ∧ ZV Q (w'.setCells T 0 V.toList) c i m V ∧ Below w.heap.size w (w'.setCells T 0 V.toList) := by
  obtain ⟨hb, hl⟩ := h.z.fin hv.size
  obtain ⟨g, u⟩ := row_all (U := V) h.z.br (by rw [hv.size]; rfl)
  exact ⟨hl, hr.upd u fun b hb _ => ⟨hb.2.2, hb.2.2, hb.1⟩, hv.uf (UF.of_upd u) fun b hb _ => ⟨fun e => by rcases e with e | e <;> exact hb.2.2 e, hb.1⟩, hb⟩
end
theorem wpList_loadD {ops : Array Oper} {rest : List Oper} {op : Oper} {a : Act} {w : World} {Q : Exit → Act → World → Prop} (hgd : op.guard = none) (x : Operand) (ho : op.op = .load 60 x) (B : Nat) (V D : Array Value)
    (hx : a.eval x = .pointer (some ⟨B, 13, none⟩)) (hb : w.heap[B]? = some (.cells V 64 (0, 0))) (hd : ∀ j, j < 27 → V[13 + j]? = D[j]?) (hs : D.size = 27)
    (h : wpList Tryz.prog ops Q rest (a.put op.dst (.agg D)) w) : wpList Tryz.prog ops Q (op :: rest) a w := by
  refine wpList_load_mid hgd 60 x ho B 13 hx D.toList _ (rng_sub 13 hb (fun j hj => hd j (by omega))) row59.choose_spec.1 row59.choose_spec.2 (by rw [show D.toList.length = 27 from by simpa using hs]; kernel_rfl) ?_
  simpa using h
theorem wpList_storeD {ops : Array Oper} {rest : List Oper} {op : Oper} {a : Act} {w : World} {Q : Exit → Act → World → Prop} (hgd : op.guard = none) (x y : Operand) (ho : op.op = .store 60 x y) (B : Nat) (V D : Array Value)
    (hx : a.eval x = .pointer (some ⟨B, 13, none⟩)) (hy : a.eval y = .agg D) (hb : w.heap[B]? = some (.cells V 64 (0, 0))) (hv : V.size = 45) (hd : Ok27 D)
    (h : wpList Tryz.prog ops Q rest (a.put op.dst undef) (setDw w B D)) : wpList Tryz.prog ops Q (op :: rest) a w :=
  wpList_store_mid hgd 60 x y ho B 13 D hx hy (by rw [hd.1]; exact there_sub 13 27 hb (by omega)) (by rw [hd.1]; kernel_rfl) hd.2 h
theorem wpList_newD {ops : Array Oper} {rest : List Oper} {op : Oper} {a : Act} {w w' : World} {Q : Exit → Act → World → Prop} (hgd : op.guard = none) (x y : Operand) (ho : op.op = .store 60 x y) (D : Array Value) (hd : Ok27 D)
    (hw : w' = w.alloc (.cells zero27 60)) (hx : a.eval x = .pointer (some ⟨w.heap.size, 0, none⟩)) (hy : a.eval y = .agg D)
    (h : wpList Tryz.prog ops Q rest (a.put op.dst undef) (new27w w D)) : wpList Tryz.prog ops Q (op :: rest) a w' := by
  subst hw
  exact wpList_store_mid hgd 60 x y ho w.heap.size 0 D hx hy (by rw [hd.1]; exact there27 (Go.heap_alloc_new w (.cells zero27 60)) rfl) (by rw [hd.1]; kernel_rfl) hd.2 h
structure ZS (Q : Nat → Prop) (w : World) (A : Option Addr) (n cap : Nat) (p : Int) (c : Cfg) (B T : Nat) (i : Int) (w' : World) (R : Option Addr) (L : List Int) (m : Zm) (V : Array Value) : Prop where
  z : ZC w w' A n cap p c B T V
  r : ReadsW (NotZ Q B T) w' R L
  v : ZV (NotZ Q B T) w' c i m V
theorem upd_cl (w : World) (B k : Nat) (v : Value) : Upd B B w (w.setCell ⟨B, k, none⟩ v) := ⟨rfl, rfl, rfl, by simp, fun j hj h1 _ => heap_setCell_other w ⟨B, k, none⟩ j v h1⟩
section
variable {Q : Nat → Prop} {w w' w2 : World} {c : Cfg} {i : Int} {m m' : Zm} {V V' U : Array Value} {A : Option Addr} {n cap : Nat} {p : Int} {B T : Nat} {R R' : Option Addr} {L L' : List Int}
theorem ReadsW.inB (h : ReadsW (NotZ Q B T) w' R L) (u : Upd B B w' w2) : ReadsW (NotZ Q B T) w2 R L := h.upd u fun b hb _ => ⟨hb.2.1, hb.2.1, hb⟩
theorem ZV.inB (h : ZV (NotZ Q B T) w' c i m V) (u : Upd B B w' w2) : ZV (NotZ Q B T) w2 c i m V := h.uf (UF.of_upd u) fun b hb _ => ⟨fun e => by rcases e with e | e <;> exact hb.2.1 e, hb⟩
theorem ZS.step (h : ZS Q w A n cap p c B T i w' R L m V) (hb : Below w'.heap.size w' w2) : ZS Q w A n cap p c B T i w2 R L m V := ⟨h.z.step hb, h.r.below hb, h.v.below hb⟩
theorem ZS.row (h : ZS Q w A n cap p c B T i w' R L m V) (hr : ReadsW (NotZ Q B T) w' R' L') : ZS Q w A n cap p c B T i w' R' L' m V := ⟨h.z, hr, h.v⟩
theorem ZS.far (h : ZS Q w A n cap p c B T i w' R L m V) (hQ : ∀ b, w.heap.size ≤ b → Q b) : ∀ b, w'.heap.size ≤ b → NotZ Q B T b := fun b hb => by
  have h1 := (Array.getElem?_eq_some_iff.1 h.z.z.bm).1
  have h2 := (Array.getElem?_eq_some_iff.1 h.z.z.br).1
  have h3 := h.z.z.bel.size
  exact ⟨hQ b (by omega), by omega, by omega⟩
theorem ZS.put (h : ZS Q w A n cap p c B T i w' R L m V) (k : Nat) (x : Value) (hv : ∀ W, ZV (NotZ Q B T) W c i m V → ZV (NotZ Q B T) W c i m' (V.setIfInBounds k x)) : ZS Q w A n cap p c B T i (w'.setCell ⟨B, k, none⟩ x) R L m' (V.setIfInBounds k x) :=
  ⟨h.z.put k x, h.r.inB (upd_cl ..), hv _ (h.v.inB (upd_cl ..))⟩
theorem ZS.pc (h : ZS Q w A n cap p c B T i w' R L m V) (x : Nat) : ZS Q w A n cap p c B T i (w'.setCell ⟨B, 0, none⟩ (.int .i64 x)) R L { m with pc := x } (V.setIfInBounds 0 (.int .i64 x)) := h.put 0 _ fun _ hv => hv.pc x
theorem ZS.at_ (h : ZS Q w A n cap p c B T i w' R L m V) (x : Int) : ZS Q w A n cap p c B T i (w'.setCell ⟨B, 5, none⟩ (.int .i64 x)) R L { m with at' := x } (V.setIfInBounds 5 (.int .i64 x)) := h.put 5 _ fun _ hv => hv.at_ x
theorem ZS.w_ (h : ZS Q w A n cap p c B T i w' R L m V) (x : Int) : ZS Q w A n cap p c B T i (w'.setCell ⟨B, 7, none⟩ (.int .i64 x)) R L { m with w := x } (V.setIfInBounds 7 (.int .i64 x)) := h.put 7 _ fun _ hv => hv.w_ x
def evWz (w : World) (B : Nat) (k a b : Int) : World := ((((w.setCell ⟨B, 40, none⟩ (.int .i64 k)).setCell ⟨B, 41, none⟩ (.int .i64 0)).setCell ⟨B, 42, none⟩ (.int .i64 a)).setCell ⟨B, 43, none⟩ (.int .i64 b)).setCell ⟨B, 44, none⟩ (.int .i64 0)
theorem evWz_upd (w : World) (B : Nat) (k a b : Int) : Upd B B w (evWz w B k a b) :=
  ((((upd_cl w B 40 (.int .i64 k)).trans (upd_cl _ B 41 (.int .i64 0))).trans (upd_cl _ B 42 (.int .i64 a))).trans (upd_cl _ B 43 (.int .i64 b))).trans (upd_cl _ B 44 (.int .i64 0))
theorem ZS.ev (h : ZS Q w A n cap p c B T i w' R L m V) (k a b : Int) : ZS Q w A n cap p c B T i (evWz w' B k a b) R L { m with ek := k, ea := a, eb := b } (evRow V k a b) :=
  ⟨h.z.ev k a b, h.r.inB (evWz_upd ..), (h.v.inB (evWz_upd ..)).ev k a b⟩
def clRow (V : Array Value) (pc v cy k : Int) (won : Bool) : Array Value := ((((V.setIfInBounds 8 (.int .i64 pc)).setIfInBounds 9 (.int .i64 v)).setIfInBounds 10 (.int .u64 cy)).setIfInBounds 11 (.int .u64 k)).setIfInBounds 12 (.bool won)
def clWz (w : World) (B : Nat) (pc v cy k : Int) (won : Bool) : World := ((((w.setCell ⟨B, 8, none⟩ (.int .i64 pc)).setCell ⟨B, 9, none⟩ (.int .i64 v)).setCell ⟨B, 10, none⟩ (.int .u64 cy)).setCell ⟨B, 11, none⟩ (.int .u64 k)).setCell ⟨B, 12, none⟩ (.bool won)
theorem clWz_upd (w : World) (B : Nat) (pc v cy k : Int) (won : Bool) : Upd B B w (clWz w B pc v cy k won) :=
  ((((upd_cl w B 8 (.int .i64 pc)).trans (upd_cl _ B 9 (.int .i64 v))).trans (upd_cl _ B 10 (.int .u64 cy))).trans (upd_cl _ B 11 (.int .u64 k))).trans (upd_cl _ B 12 (.bool won))
theorem ZV.cl (h : ZV Q w c i m V) (d : Cm) (v : Int) (hd : d.p = plcc c 16 v 0) : ZV Q w c i { m with c := d } (clRow V d.pc v d.cy d.k d.won) := by
  have hs := h.size
  have f : ∀ j, j < 8 ∨ 12 < j → (clRow V d.pc v d.cy d.k d.won)[j]? = V[j]? := fun j hj => by
    unfold clRow
    rw [Array.getElem?_setIfInBounds_ne (by omega), Array.getElem?_setIfInBounds_ne (by omega), Array.getElem?_setIfInBounds_ne (by omega), Array.getElem?_setIfInBounds_ne (by omega), Array.getElem?_setIfInBounds_ne (by omega)]
  obtain ⟨D, hd2, hv, hj⟩ := h.d
  refine ⟨by simp [clRow, hs], ?_, (f 0 (by decide)).trans h.c0, (f 1 (by decide)).trans h.c1, (f 2 (by decide)).trans h.c2, (f 3 (by decide)).trans h.c3, (f 4 (by decide)).trans h.c4, (f 5 (by decide)).trans h.c5, (f 6 (by decide)).trans h.c6, (f 7 (by decide)).trans h.c7,
    ⟨v, hd, ?_, ?_, ?_, ?_, ?_⟩, ⟨D, hd2, hv, fun j hj2 => (f (13 + j) (by omega)).trans (hj j hj2)⟩, (f 40 (by decide)).trans h.e0, (f 41 (by decide)).trans h.e1, (f 42 (by decide)).trans h.e2, (f 43 (by decide)).trans h.e3, (f 44 (by decide)).trans h.e4⟩
  · exact one_put (one_put (one_put (one_put (one_put h.one 8 rfl) 9 rfl) 10 rfl) 11 rfl) 12 rfl
  all_goals unfold clRow
  · rw [Array.getElem?_setIfInBounds_ne (by decide), Array.getElem?_setIfInBounds_ne (by decide), Array.getElem?_setIfInBounds_ne (by decide), Array.getElem?_setIfInBounds_ne (by decide), Array.getElem?_setIfInBounds_self, if_pos (by omega)]
  · rw [Array.getElem?_setIfInBounds_ne (by decide), Array.getElem?_setIfInBounds_ne (by decide), Array.getElem?_setIfInBounds_ne (by decide), Array.getElem?_setIfInBounds_self, if_pos (by simp [hs])]
  · rw [Array.getElem?_setIfInBounds_ne (by decide), Array.getElem?_setIfInBounds_ne (by decide), Array.getElem?_setIfInBounds_self, if_pos (by simp [hs])]
  · rw [Array.getElem?_setIfInBounds_ne (by decide), Array.getElem?_setIfInBounds_self, if_pos (by simp [hs])]
  · rw [Array.getElem?_setIfInBounds_self, if_pos (by simp [hs])]
theorem ZS.cl (h : ZS Q w A n cap p c B T i w' R L m V) (d : Cm) (v : Int) (hd : d.p = plcc c 16 v 0) : ZS Q w A n cap p c B T i (clWz w' B d.pc v d.cy d.k d.won) R L { m with c := d } (clRow V d.pc v d.cy d.k d.won) :=
  ⟨((((h.z.put 8 _).put 9 _).put 10 _).put 11 _).put 12 _, h.r.inB (clWz_upd ..), (h.v.inB (clWz_upd ..)).cl d v hd⟩
theorem ZS.all (h : ZS Q w A n cap p c B T i w' R L m V) (hv : ZV (NotZ Q B T) w' c i m' U) : ZS Q w A n cap p c B T i (w'.setCells B 0 U.toList) R L m' U := by
  have hs : V.size = U.size := h.v.size.trans hv.size.symm
  have u := (row_all (U := U) h.z.z.bm hs).2
  exact ⟨h.z.set hs.symm, h.r.inB u, hv.inB u⟩
theorem ZS.dd {D : Array Value} {d : Am} (h : ZS Q w A n cap p c B T i w' R L m V) (hd : RAm (NotZ Q B T) w' d (.agg D)) (hv : V27 d D) : ZS Q w A n cap p c B T i (setDw w' B D) R L { m with d := d } (splice V 13 D) := by
  have hs := hv.size; have hS := h.v.size
  have u : Upd B B w' (setDw w' B D) := (row_stretch (U := D) 13 h.z.z.bm (by omega)).2
  exact ⟨h.z.stretch 13 (by omega), h.r.inB u, (h.v.give hd hv).inB u⟩
theorem ZS.out (h : ZS Q w A n cap p c B T i w' R L m V) : (loadVar 64 ⟨T, 0, none⟩).run Tryz.prog (w'.setCells T 0 V.toList) = .ok (.agg V) (w'.setCells T 0 V.toList) ∧ ReadsW Q (w'.setCells T 0 V.toList) R L ∧ ZV Q (w'.setCells T 0 V.toList) c i m V ∧ Below w.heap.size w (w'.setCells T 0 V.toList) := h.z.out h.r h.v
theorem ZS.outV (h : ZS Q w A n cap p c B T i w' R L m V) (hv : ZV (NotZ Q B T) w' c i m' U) : (loadVar 64 ⟨T, 0, none⟩).run Tryz.prog (w'.setCells T 0 U.toList) = .ok (.agg U) (w'.setCells T 0 U.toList) ∧ ReadsW Q (w'.setCells T 0 U.toList) R L ∧ ZV Q (w'.setCells T 0 U.toList) c i m' U ∧ Below w.heap.size w (w'.setCells T 0 U.toList) := by
  have hs : V.size = U.size := h.v.size.trans hv.size.symm
  obtain ⟨g, u⟩ := row_all (U := U) h.z.z.br (by rw [hv.size]; rfl)
  have lo := h.z.z.b
  exact ⟨loadZ g hv.size, h.r.upd u fun b hb _ => ⟨hb.2.2, hb.2.2, hb.1⟩, hv.uf (UF.of_upd u) fun b hb _ => ⟨fun e => by rcases e with e | e <;> exact hb.2.2 e, hb.1⟩, below_uf h.z.z.bel (Nat.le_refl _) (UF.of_upd u) (fun k e => by rcases e with rfl | rfl <;> omega)⟩
theorem ZS.rest (h : ZS Q w A n cap p c B T i w' R L m V) : ZS Q w A n cap p c B T i (w'.setCells B 0 (V.setIfInBounds 0 (.int .i64 (zrest m).pc)).toList) R L (zrest m) (V.setIfInBounds 0 (.int .i64 (zrest m).pc)) := h.all (h.v.pc (zrest m).pc)
theorem ZS.evc (h : ZS Q w A n cap p c B T i w' R L m V) : w'.cell? ⟨B, 40, none⟩ = some (.int .i64 m.ek) ∧ w'.cell? ⟨B, 41, none⟩ = some (.int .i64 0) ∧ w'.cell? ⟨B, 42, none⟩ = some (.int .i64 m.ea) ∧ w'.cell? ⟨B, 43, none⟩ = some (.int .i64 m.eb) ∧ w'.cell? ⟨B, 44, none⟩ = some (.int .i64 0) := ⟨h.z.cell 40 h.v.e0, h.z.cell 41 h.v.e1, h.z.cell 42 h.v.e2, h.z.cell 43 h.v.e3, h.z.cell 44 h.v.e4⟩
theorem ZS.clc (h : ZS Q w A n cap p c B T i w' R L m V) : ∃ vc : Int, m.c.p = plcc c 16 vc 0 ∧ w'.cell? ⟨B, 8, none⟩ = some (.int .i64 m.c.pc) ∧ w'.cell? ⟨B, 9, none⟩ = some (.int .i64 vc) ∧ w'.cell? ⟨B, 10, none⟩ = some (.int .u64 m.c.cy) ∧ w'.cell? ⟨B, 11, none⟩ = some (.int .u64 m.c.k) ∧ w'.cell? ⟨B, 12, none⟩ = some (.bool m.c.won) := by
  obtain ⟨vc, k0, k1, k2, k3, k4, k5⟩ := h.v.cm
  exact ⟨vc, k0, h.z.cell 8 k1, h.z.cell 9 k2, h.z.cell 10 k3, h.z.cell 11 k4, h.z.cell 12 k5⟩
end
theorem cstp_p (wk : Int) (L : List Int) (m : Cm) : (cstp wk L m).2.p = m.p := by
  unfold cstp
  repeat' (first | rfl | split)
end Go.Proofs.YtpocihddecemfaaGreat

namespace Go.Proofs.YtpocihddecemfaaGreat
open Go.RowKit
set_option linter.unusedVariables false
set_option linter.unusedSimpArgs false
set_option linter.unnecessarySimpa false
set_option maxRecDepth 100000
open Lay (plcc plc shOf packN nodesN OkC Cfg Norm firstV Rep lenL things roomsI)
set_option maxHeartbeats 16000000 in
theorem rzs_6 {c : Cfg} (hc : OkC c) {t : Int} (Q : Nat → Prop) (A : Option Addr) (n cap : Nat) (R : Option Addr) (n' capR : Nat) (L : List Int) (i : Int) (m : Zm) (V : Array Value) (w : World) (hA : IsA w c A n) (hn : n' = L.length) (hn2 : n' ≤ 1000000) (hR : ReadsW Q w R L) (hQ : ∀ b, w.heap.size ≤ b → Q b) (h : ZV Q w c i m V) (hi : decide (i < 0) = false) (hj : decide (c.mr ≤ i) = false) (zw : ZW c t m) (ww : WW L) (ht : t ≤ 900000000) (hp : m.pc = 6) :
    Calls Tryz.prog 18 #[aVal A n cap (packN c), Lay.cfgV c, .slice R n' capR, .agg V] w (SomeZ Q w n' c i (zstp (zgOf c) (gOf c) (aNew (eOf c i)) L m).1 (zstp (zgOf c) (gOf c) (aNew (eOf c i)) L m).2) := by
  have hz := ZC.new w A n cap (packN c) c V
  obtain ⟨W0, hW0⟩ : ∃ W0, W0 = ((((w.alloc (.cells #[.slice A n cap, .int .i64 (packN c)] 36)).alloc (.cells #[.int .i64 c.a, .int .i64 c.b, .int .i64 c.c, .int .i64 c.d, .int .i64 c.e, .int .i64 c.mr, .int .i64 c.mu, .int .i64 c.dq, .int .i64 c.ch, .int .i64 c.bf, .int .i64 c.rt, .int .i64 c.sw] 38)).alloc (.cells V 64)).alloc (.cells #[.int .i64 0, .int .i64 0, .int .i64 0, .int .i64 0, .int .u64 0, .int .i64 0, .int .i64 0, .int .i64 0, .int .i64 0, .int .i64 0, .int .u64 0, .int .u64 0, .bool false, .int .i64 0, .int .u64 0, .int .i64 0, .int .i64 0, .int .i64 0, .int .i64 0, .int .i64 0, .int .i64 0, .int .u64 0, .int .u64 0, .int .u64 0, .bool false, .int .i64 0, .int .i64 0, .int .i64 0, .slice none 0 0, .int .i64 0, .int .i64 0, .int .i64 0, .int .i64 0, .int .i64 0, .slice none 0 0, .int .u32 0, .int .u64 0, .int .u32 0, .int .i64 0, .bool false, .int .i64 0, .int .i64 0, .int .i64 0, .int .i64 0, .int .i64 0] 64)) := ⟨_, rfl⟩
  rw [← hW0] at hz
  obtain ⟨LZ, mZ, hZ⟩ : ∃ LZ mZ, zstp (zgOf c) (gOf c) (aNew (eOf c i)) L m = (LZ, mZ) := ⟨_, _, rfl⟩
  rw [hZ]
  have HLZ := Lib.hid hZ
  have HZ0 := Lib.hid hz; have HW0 := Lib.hid hW0; have HA := Lib.hid hA; have HN := Lib.hid hn; have HN2 := Lib.hid hn2; have HR := Lib.hid hR; have HV := Lib.hid h; have HWW := Lib.hid ww; have HQ := Lib.hid hQ; have HI := Lib.hid (And.intro hi hj); have HZW := Lib.hid zw; have HPC := Lib.hid hp
  clear hz hW0 hA hn hn2 hR h ww hQ hi hj zw hp hZ
  go_enter Tryz.func18, Tryz.ntmps18
  go_upto_region 1 with (fail)
  rw [← HW0.out]
  obtain ⟨B, hB⟩ : ∃ B, B = w.heap.size + 1 + 1 := ⟨_, rfl⟩
  obtain ⟨T, hT⟩ : ∃ T, T = w.heap.size + 1 + 1 + 1 := ⟨_, rfl⟩
  have hz0 := HZ0.out
  rw [← hT, ← hB] at hz0
  rw [← hT, ← hB]
  have HLT := Lib.hid (show w.heap.size ≤ B ∧ w.heap.size ≤ T by omega)
  have hs0 : ZS Q w A n cap (packN c) c B T i W0 R L m V := ⟨hz0, (HR.out.notZ HLT.out.1 HLT.out.2).below hz0.z.bel, (HV.out.notZ HLT.out.1 HLT.out.2).below hz0.z.bel⟩
  have hfr := hs0.z.fro
  obtain ⟨y0, y1, y2, y3, y4⟩ := hs0.evc
  clear HZ0 hB hT HW0 hz0
  go_upto_region 2 with (fail)
  have hs1 := hs0.ev 0 0 0
  unfold evWz at hs1
  obtain ⟨W1, hW1⟩ : ∃ W1, W1 = (((((W0.setCell ⟨B, 40, none⟩ (.int .i64 0)).setCell ⟨B, 41, none⟩ (.int .i64 0)).setCell ⟨B, 42, none⟩ (.int .i64 0)).setCell ⟨B, 43, none⟩ (.int .i64 0)).setCell ⟨B, 44, none⟩ (.int .i64 0)) := ⟨_, rfl⟩
  rw [← hW1] at hs1
  rw [← hW1]
  obtain ⟨m0, hm0⟩ : ∃ m0 : Zm, m0 = { m with ek := 0, ea := 0, eb := 0 } := ⟨_, rfl⟩
  rw [← hm0] at hs1
  have HM0 := Lib.hid hm0
  obtain ⟨V0, hV0⟩ : ∃ V0, V0 = evRow V 0 0 0 := ⟨_, rfl⟩
  rw [← hV0] at hs1
  have x0 := hs1.z.cell 0 hs1.v.c0
  rw [show m0.pc = 6 by rw [hm0]; exact HPC.out] at x0
  have HS1 := Lib.hid hs1
  have HZW0 : Hid (ZW c t m0) := Lib.hid (by rw [hm0]; exact HZW.out.ev 0 0 0)
  have HA1 := Lib.hid (HA.out.below hs1.z.z.bel)
  have HP0 : Hid (m0.pc = 6) := Lib.hid (by rw [hm0]; exact HPC.out)
  clear y0 y1 y2 y3 y4 hfr hs0 hs1 hW1 hV0 hm0 W0 HV
  have HE : Hid (LZ = adv L 1 18446744073709551615 ∧ mZ = { m0 with ek := 4, ea := m0.v, eb := m0.fr, pc := 0 }) := Lib.hid (by
    have e : zstp (zgOf c) (gOf c) (aNew (eOf c i)) L m = (adv L 1 18446744073709551615, { m0 with ek := 4, ea := m0.v, eb := m0.fr, pc := 0 }) := by
      rw [HM0.out, adv_eq]; simp only [zstp]; rw [if_neg (by rw [HPC.out]; decide), if_neg (by rw [HPC.out]; decide), if_neg (by rw [HPC.out]; decide), if_neg (by rw [HPC.out]; decide), if_neg (by rw [HPC.out]; decide), if_pos HPC.out]; rfl
    have := HLZ.out.symm.trans e
    simpa using this)
  have HF1 := Lib.hid (HS1.out.far HQ.out)
  obtain ⟨mv, hmv⟩ : ∃ x, x = m0.v := ⟨_, rfl⟩
  obtain ⟨mf, hmf⟩ : ∃ x, x = m0.fr := ⟨_, rfl⟩
  have HMV := Lib.hid hmv; have HMF := Lib.hid hmf
  clear hmv hmf
  go_upto_region 37 with (first
    | (go_at_call 49; (with_reducible refine (radd_any (NotZ Q B T) R n' capR L 1 18446744073709551615 _ HN.out HN2.out HS1.out.r HF1.out).mono ?_); rintro r w2 ⟨R2, cap2, rfl, hx, hb⟩; have HS2 := Lib.hid ((HS1.out.step hb).row hx); clear hb hx)
    | fail)
  have x2 := HS2.out.z.cell 2 HS2.out.v.c2
  have x3 := HS2.out.z.cell 3 HS2.out.v.c3
  rw [← HMV.out] at x2
  rw [← HMF.out] at x3
  have hfr := HS2.out.z.fro
  obtain ⟨y0, y1, y2, y3, y4⟩ := HS2.out.evc
  clear x0
  go_upto_region 38 with (fail)
  have hs3 := HS2.out.ev 4 mv mf
  unfold evWz at hs3
  obtain ⟨W3, hW3⟩ : ∃ W3, W3 = (((((w2.setCell ⟨B, 40, none⟩ (.int .i64 4)).setCell ⟨B, 41, none⟩ (.int .i64 0)).setCell ⟨B, 42, none⟩ (.int .i64 mv)).setCell ⟨B, 43, none⟩ (.int .i64 mf)).setCell ⟨B, 44, none⟩ (.int .i64 0)) := ⟨_, rfl⟩
  rw [← hW3] at hs3
  rw [← hW3]
  obtain ⟨V3, hV3⟩ : ∃ V3, V3 = evRow V0 4 mv mf := ⟨_, rfl⟩
  rw [← hV3] at hs3
  clear hW3 hV3
  clear x2 x3 hfr y0 y1 y2 y3 y4
  have x0 := hs3.z.cell 0 hs3.v.c0
  have hfr := hs3.z.fro
  have HS3 := Lib.hid hs3
  clear hs3
  go_upto_region 39 with (fail)
  obtain ⟨V4, hV4⟩ : ∃ V4, V4 = V3.setIfInBounds 0 (.int .i64 ((0 : Nat) : Int)) := ⟨_, rfl⟩
  have hs4 : ZS Q w A n cap (packN c) c B T i (W3.setCell ⟨B, 0, none⟩ (.int .i64 0)) R2 (adv L 1 18446744073709551615) { m0 with ek := 4, ea := mv, eb := mf, pc := 0 } V4 := by rw [hV4]; exact HS3.out.pc 0
  obtain ⟨W4, hW4⟩ : ∃ W4, W4 = W3.setCell ⟨B, 0, none⟩ (.int .i64 0) := ⟨_, rfl⟩
  rw [← hW4] at hs4
  rw [← hW4]
  have HS4 := Lib.hid hs4
  clear hV4 hW4 x0 hfr hs4
  have HK5 := Lib.hid (HS4.out.step (Below.refl _ _).drew)
  refine wp_region_any (by kernel_rfl) ?_
  change wpAny _ _ _ _ 4 _ _ (World.drew _)
  refine wpAny_take (i := 0) (v := .slice R2 n' cap2) rfl (by kernel_rfl) (by kernel_rfl) (by kernel_rfl) (fun _ _ _ h => h) (Or.inl ⟨by rfl, fun w => by exact BigFrame.run_move (.tmp 17) rfl w⟩) ?_
  refine wpAny_take (i := 2) (v := .slice R2 n' cap2) rfl (by kernel_rfl) (by kernel_rfl) (by kernel_rfl) (fun _ _ _ h => h) (Or.inl ⟨by rfl, fun w => by exact BigFrame.run_assign (.tmp 163) rfl w⟩) ?_
  refine wpAny_ready (rs := [1]) (by kernel_rfl) (by decide) (AllReady.cons rfl (fun K' hK => ?_) AllReady.nil)
  rw [if_pos (by rfl)]
  refine wp_load_mid 64 (.tmp 7) rfl B 0 rfl _ _ (rng_all HK5.out.z.z.bm) row64.choose_spec.1 row64.choose_spec.2 (by rw [show V4.toList.length = 45 from by simpa using HS4.out.v.size]; kernel_rfl) (hK _ _ ?_)
  refine wpAny_ready (rs := [3]) (by kernel_rfl) (by decide) (AllReady.cons rfl (fun K' hK => ?_) AllReady.nil)
  rw [if_pos (by rfl)]
  refine wp_store_mid 64 (.tmp 9) (.tmp 164) rfl T 0 V4 rfl rfl (there_sub 0 _ HK5.out.z.z.br (by rw [HS4.out.v.size]; decide)) (by rw [HS4.out.v.size]; kernel_rfl) HS4.out.v.one (hK _ _ ?_)
  refine wpAny_done (by kernel_rfl) ?_ _
  obtain ⟨hl, hr, hv, hb⟩ := HK5.out.out
  go_wp2
  exact bodyPost_ret (v := .tuple #[.slice R2 n' cap2, .agg V4]) (res2 Tryz.results18 _ _ _ _ _ rfl rfl hl) rfl ⟨R2, cap2, V4, rfl, by rw [HE.out.1]; exact hr, by rw [HE.out.2]; rw [HMV.out, HMF.out] at hv; exact hv, hb⟩
end Go.Proofs.YtpocihddecemfaaGreat
