/- Packets' machines in memory: what they hold, and each of their steps, walked. All tasks in the pool, walked. -/
import Derived.Test.YtponbnbgiiepdaaGreatJ15
import Derived.Handy
import Derived.Lib.SliceRun
import Derived.Test.YtponbnbgiiepdaaGreatJ21
import Derived.Test.YtponbnbgiiepdaaGreatJ22
namespace Go.Proofs.YtponbnbgiiepdaaGreat
open Go.RowKit
set_option linter.unusedVariables false
set_option linter.unusedSimpArgs false
open Lay (plcc plc shOf packN nodesN OkC Cfg Norm firstV Rep lenL things)

abbrev lnkV (N : Nat) : Value := .func (.func 55) #[Lay.mapP N] #[]
abbrev subV (M : Nat) : Value := .iface 169 (ptr M)
theorem lk_of {c : Cfg} (hc : OkC c) {w : World} {N : Nat} (hm : Lay.IsMap w N c) : Lk w (lnkV N) N (lnkL c) := ⟨c, hc, hm, .inl ⟨rfl, rfl⟩⟩

theorem popSp {c : Cfg} (N : Nat) (w : World) (hl : Lk w (lnkV N) N (lnkL c)) : Calls Tryz.prog 134 #[.int .i64 (plcc c 5 0 0), lnkV N] w (NewM w (lnkV N) (mPop (spK c))) := pop_any (spK c) w hl
theorem popPo {c : Cfg} (N : Nat) (w : World) (hl : Lk w (lnkV N) N (lnkL c)) : Calls Tryz.prog 134 #[.int .i64 (plcc c 4 0 0), lnkV N] w (NewM w (lnkV N) (mPop (poK c))) := pop_any (poK c) w hl
theorem pushSp {c : Cfg} (N : Nat) (x : Int) (w : World) (hl : Lk w (lnkV N) N (lnkL c)) (hx : -9223372036854775808 ≤ x ∧ x ≤ 9223372036854775807) : Calls Tryz.prog 153 #[.int .i64 (plcc c 5 0 0), lnkV N, .int .i64 x] w (NewM w (lnkV N) (mPush (spK c) x)) := push_any (spK c) x w hl hx
theorem pushPo {c : Cfg} (N : Nat) (x : Int) (w : World) (hl : Lk w (lnkV N) N (lnkL c)) (hx : -9223372036854775808 ≤ x ∧ x ≤ 9223372036854775807) : Calls Tryz.prog 153 #[.int .i64 (plcc c 4 0 0), lnkV N, .int .i64 x] w (NewM w (lnkV N) (mPush (poK c) x)) := push_any (poK c) x w hl hx

/-- A machine's block. -/
def Pmem (w : World) (X N : Nat) (T : Value) (pu tk : Int) (ot nx : Value) (pk : Int) : Prop :=
  w.heap[X]? = some (.cells #[Lay.mapP N, T, .int .i64 pu, .int .i64 tk, ot, nx, .int .i64 pk] 164 (0, 0))
/-- A machine and its map. -/
structure Pxt (w0 w : World) (X N : Nat) (c : Cfg) (F : Nat → Prop) (T : Value) (pu tk : Int) (ot nx : Value) (pk : Int) : Prop where
  mem : Pmem w X N T pu tk ot nx pk
  mp : Lay.IsMap w N c
  ne : N ≠ X
  fx : F X
  u : UF F w0 w
section
variable {w0 w w' : World} {X N : Nat} {c : Cfg} {F : Nat → Prop} {T : Value} {pu tk : Int} {ot nx : Value} {pk : Int}
theorem Pmem.lt (h : Pmem w X N T pu tk ot nx pk) : X < w.heap.size := (Array.getElem?_eq_some_iff.1 h).1
theorem Pmem.keep (h : Pmem w X N T pu tk ot nx pk) (hb : w'.heap[X]? = w.heap[X]?) : Pmem w' X N T pu tk ot nx pk := hb.trans h
theorem Pxt.lt (h : Pxt w0 w X N c F T pu tk ot nx pk) : X < w.heap.size := h.mem.lt
theorem Pxt.f (h : Pxt w0 w X N c F T pu tk ot nx pk) (j : Nat) : w.frozen? ⟨X, j, none⟩ = false := frozen_of_row w X j _ _ h.mem
theorem Pxt.c0 (h : Pxt w0 w X N c F T pu tk ot nx pk) : w.cell? ⟨X, 0, none⟩ = some (Lay.mapP N) := by have := h.mem; unfold Pmem at this; simp [World.cell?, this]
theorem Pxt.c1 (h : Pxt w0 w X N c F T pu tk ot nx pk) : w.cell? ⟨X, 1, none⟩ = some T := by have := h.mem; unfold Pmem at this; simp [World.cell?, this]
theorem Pxt.c2 (h : Pxt w0 w X N c F T pu tk ot nx pk) : w.cell? ⟨X, 2, none⟩ = some (.int .i64 pu) := by have := h.mem; unfold Pmem at this; simp [World.cell?, this]
theorem Pxt.c3 (h : Pxt w0 w X N c F T pu tk ot nx pk) : w.cell? ⟨X, 3, none⟩ = some (.int .i64 tk) := by have := h.mem; unfold Pmem at this; simp [World.cell?, this]
theorem Pxt.c4 (h : Pxt w0 w X N c F T pu tk ot nx pk) : w.cell? ⟨X, 4, none⟩ = some ot := by have := h.mem; unfold Pmem at this; simp [World.cell?, this]
theorem Pxt.c5 (h : Pxt w0 w X N c F T pu tk ot nx pk) : w.cell? ⟨X, 5, none⟩ = some nx := by have := h.mem; unfold Pmem at this; simp [World.cell?, this]
theorem Pxt.c6 (h : Pxt w0 w X N c F T pu tk ot nx pk) : w.cell? ⟨X, 6, none⟩ = some (.int .i64 pk) := by have := h.mem; unfold Pmem at this; simp [World.cell?, this]
theorem Pxt.cs (h : Pxt w0 w X N c F T pu tk ot nx pk) : w.cell? ⟨X, 0, none⟩ = some (Lay.mapP N) ∧ w.cell? ⟨X, 1, none⟩ = some T ∧ w.cell? ⟨X, 2, none⟩ = some (.int .i64 pu) ∧ w.cell? ⟨X, 3, none⟩ = some (.int .i64 tk) := ⟨h.c0, h.c1, h.c2, h.c3⟩
theorem Pxt.c03 (h : Pxt w0 w X N c F T pu tk ot nx pk) : w.cell? ⟨X, 0, none⟩ = some (Lay.mapP N) ∧ w.cell? ⟨X, 2, none⟩ = some (.int .i64 pu) ∧ w.cell? ⟨X, 3, none⟩ = some (.int .i64 tk) := ⟨h.c0, h.c2, h.c3⟩
theorem Pxt.step (h : Pxt w0 w X N c F T pu tk ot nx pk) (k : Below w.heap.size w w') : Pxt w0 w' X N c F T pu tk ot nx pk :=
  ⟨(k.block X h.lt).trans h.mem, h.mp.below k, h.ne, h.fx, h.u.trans (.of_below (F := F) k) (fun _ x => x) (fun _ _ x => x)⟩
theorem Pxt.drew (h : Pxt w0 w X N c F T pu tk ot nx pk) : Pxt w0 w.drew X N c F T pu tk ot nx pk := h.step (Below.refl _ _).drew
theorem Pxt.uf {G : Nat → Prop} (h : Pxt w0 w X N c F T pu tk ot nx pk) (k : UF G w w') (g1 : ¬ G X) (g2 : ¬ G N) (g3 : ∀ b, b < w0.heap.size → G b → F b) : Pxt w0 w' X N c F T pu tk ot nx pk :=
  ⟨(k.block X h.lt g1).trans h.mem, IsMap_same h.mp k.size (k.block N h.mp.1 g2), h.ne, h.fx, h.u.trans k (fun _ x => x) g3⟩
theorem Pxt.put (h : Pxt w0 w X N c F T pu tk ot nx pk) (i : Nat) (y : Value) {T' : Value} {pu' tk' : Int} {ot' nx' : Value} {pk' : Int}
    (hh : (#[Lay.mapP N, T, .int .i64 pu, .int .i64 tk, ot, nx, .int .i64 pk] : Array Value).setIfInBounds i y = #[Lay.mapP N, T', .int .i64 pu', .int .i64 tk', ot', nx', .int .i64 pk']) :
    Pxt w0 (w.setCell ⟨X, i, none⟩ y) X N c F T' pu' tk' ot' nx' pk' := by
  refine ⟨?_, IsMap_same h.mp (by simp) (heap_setCell_other w ⟨X, i, none⟩ N y h.ne), h.ne, h.fx, h.u.trans (UF.set w X i y) (fun _ x => x) (fun b _ e => e ▸ h.fx)⟩
  unfold Pmem
  rw [heap_setCell_same w X i _ 164 _ h.mem, hh]
theorem Pxt.p2 (h : Pxt w0 w X N c F T pu tk ot nx pk) (y : Int) : Pxt w0 (w.setCell ⟨X, 2, none⟩ (.int .i64 y)) X N c F T y tk ot nx pk := h.put 2 _ rfl
theorem Pxt.p3 (h : Pxt w0 w X N c F T pu tk ot nx pk) (y : Int) : Pxt w0 (w.setCell ⟨X, 3, none⟩ (.int .i64 y)) X N c F T pu y ot nx pk := h.put 3 _ rfl
theorem Pxt.p4 (h : Pxt w0 w X N c F T pu tk ot nx pk) (y : Value) : Pxt w0 (w.setCell ⟨X, 4, none⟩ y) X N c F T pu tk y nx pk := h.put 4 _ rfl
theorem Pxt.p5 (h : Pxt w0 w X N c F T pu tk ot nx pk) (y : Value) : Pxt w0 (w.setCell ⟨X, 5, none⟩ y) X N c F T pu tk ot y pk := h.put 5 _ rfl
theorem Pxt.p6 (h : Pxt w0 w X N c F T pu tk ot nx pk) (y : Int) : Pxt w0 (w.setCell ⟨X, 6, none⟩ (.int .i64 y)) X N c F T pu tk ot nx y := h.put 6 _ rfl
end

/-- A machine, its map and a store, apart. -/
structure Pxs (w0 w : World) (X S D N : Nat) (c : Cfg) (F : Nat → Prop) (T : Value) (pu tk : Int) (ot nx : Value) (pk : Int) (L : List Int) (cc : Int) : Prop where
  x : Pxt w0 w X N c F T pu tk ot nx pk
  st : St w S D L cc
  n : X ≠ S ∧ X ≠ D ∧ N ≠ S ∧ N ≠ D
  fs : F S ∧ F D
section
variable {w0 w w' : World} {X S D N : Nat} {c : Cfg} {F : Nat → Prop} {T : Value} {pu tk : Int} {ot nx : Value} {pk : Int} {L : List Int} {cc : Int}
theorem Pxs.step (h : Pxs w0 w X S D N c F T pu tk ot nx pk L cc) (k : Below w.heap.size w w') : Pxs w0 w' X S D N c F T pu tk ot nx pk L cc := ⟨h.x.step k, h.st.below k, h.n, h.fs⟩
theorem Pxs.drew (h : Pxs w0 w X S D N c F T pu tk ot nx pk L cc) : Pxs w0 w.drew X S D N c F T pu tk ot nx pk L cc := h.step (Below.refl _ _).drew
theorem Pxs.left (h : Pxs w0 w X S D N c F T pu tk ot nx pk L cc) {L' : List Int} {c' : Int} (k : Left S D L' c' w w') : Pxs w0 w' X S D N c F T pu tk ot nx pk L' c' :=
  ⟨h.x.uf (.of_upd k.2) (fun e => by have := h.n; omega) (fun e => by have := h.n; omega) (fun b _ e => by rcases e with rfl | rfl; exact h.fs.1; exact h.fs.2), k.1, h.n, h.fs⟩
theorem Pxs.of (h : Pxs w0 w X S D N c F T pu tk ot nx pk L cc) {T' : Value} {pu' tk' : Int} {ot' nx' : Value} {pk' : Int} (i : Nat) (y : Value) (k : Pxt w0 (w.setCell ⟨X, i, none⟩ y) X N c F T' pu' tk' ot' nx' pk') : Pxs w0 (w.setCell ⟨X, i, none⟩ y) X S D N c F T' pu' tk' ot' nx' pk' L cc :=
  ⟨k, St_same h.st (heap_setCell_other w ⟨X, i, none⟩ S y (Ne.symm h.n.1)) (heap_setCell_other w ⟨X, i, none⟩ D y (Ne.symm h.n.2.1)), h.n, h.fs⟩
theorem Pxs.p2 (h : Pxs w0 w X S D N c F T pu tk ot nx pk L cc) (y : Int) : Pxs w0 (w.setCell ⟨X, 2, none⟩ (.int .i64 y)) X S D N c F T y tk ot nx pk L cc := h.of _ _ (h.x.p2 y)
theorem Pxs.p3 (h : Pxs w0 w X S D N c F T pu tk ot nx pk L cc) (y : Int) : Pxs w0 (w.setCell ⟨X, 3, none⟩ (.int .i64 y)) X S D N c F T pu y ot nx pk L cc := h.of _ _ (h.x.p3 y)
theorem Pxs.p5 (h : Pxs w0 w X S D N c F T pu tk ot nx pk L cc) (y : Value) : Pxs w0 (w.setCell ⟨X, 5, none⟩ y) X S D N c F T pu tk ot y pk L cc := h.of _ _ (h.x.p5 y)
theorem Pxs.p6 (h : Pxs w0 w X S D N c F T pu tk ot nx pk L cc) (y : Int) : Pxs w0 (w.setCell ⟨X, 6, none⟩ (.int .i64 y)) X S D N c F T pu tk ot nx y L cc := h.of _ _ (h.x.p6 y)
/-- What only changes the machine's block and makes new ones. -/
theorem Pxs.more (h : Pxs w0 w X S D N c F T pu tk ot nx pk L cc) {T' : Value} {pu' tk' : Int} {ot' nx' : Value} {pk' : Int} (k : Pxt w w' X N c (fun b => b = X) T' pu' tk' ot' nx' pk') : Pxs w0 w' X S D N c F T' pu' tk' ot' nx' pk' L cc :=
  ⟨⟨k.mem, k.mp, k.ne, h.x.fx, h.x.u.trans k.u (fun _ x => x) (fun b _ e => e ▸ h.x.fx)⟩, St_same h.st (k.u.block S h.st.ltS (Ne.symm h.n.1)) (k.u.block D h.st.row.lt (Ne.symm h.n.2.1)), h.n, h.fs⟩
theorem Pxs.self (h : Pxs w0 w X S D N c F T pu tk ot nx pk L cc) : Pxt w w X N c (fun b => b = X) T pu tk ot nx pk := ⟨h.x.mem, h.x.mp, h.x.ne, rfl, .refl _ _⟩
/-- A step of the machine that it has. -/
theorem sub_step {M : Nat} {m : Sm} {t : Int} (h : Pxs w0 w X S D N c F T pu tk ot nx pk L cc) (hm : MM w M (lnkV N) m) (hl : m.k.links = lnkL c) (hM : M ≠ X ∧ M ≠ S ∧ M ≠ D ∧ M ≠ N) (fM : F M) (hc : OkC c) (wm : Wm t m) (ww : WW L) (h0 : 0 ≤ cc) (h1 : cc ≤ 1000000000) (ht : t ≤ 1000000000) :
    Calls Tryz.prog 178 #[ptr M, ptr S] w fun e w' => e = .returned (.bool (decide ((sstp L m).2.pc = 0))) ∧ Pxs w0 w' X S D N c F T pu tk ot nx pk (sstp L m).1 (cst m cc) ∧ MM w' M (lnkV N) (sstp L m).2 ∧ w.heap.size ≤ w'.heap.size := by
  refine (step_any w (hm.mi h.st (by rw [hl]; exact lk_of hc h.x.mp) hM.2.1 hM.2.2.1 ⟨Ne.symm hM.2.2.2, h.n.2.2.1, h.n.2.2.2⟩) wm ww h0 h1 ht).mono ?_
  rintro e w' ⟨rfl, mi⟩
  have u := UF.of_u3 mi.u'
  exact ⟨rfl, ⟨h.x.uf u (fun e => by have := h.n; omega) (fun e => by have := h.n; omega) (fun b _ e => by rcases e with rfl | rfl | rfl; exact fM; exact h.fs.1; exact h.fs.2), mi.st', h.n, h.fs⟩, mi.mm, mi.u'.size⟩
end

set_option maxHeartbeats 1000000 in
theorem endWith_any {w0 w : World} {X N : Nat} {c : Cfg} {F : Nat → Prop} {T : Value} {pu tk : Int} {ot nx : Value} {pk : Int} (M : Nat) (h : Pxt w0 w X N c F T pu tk ot nx pk) :
    Calls Tryz.prog 152 #[ptr X, subV M] w fun e w' => e = .returned (.tuple #[]) ∧ Pxt w0 w' X N c F T pu tk (subV M) (fnv 155 X) pk := by
  have hmf : ∀ (fn : Fn) (first cap : Array Value) (w : World), (Instr.makeFunc fn first cap).run Tryz.prog w = .ok (.func fn first cap) w := fun _ _ _ _ => rfl
  have h1 := h.p4 (subV M)
  have h2 := h1.p5 (fnv 155 X)
  have q4 := h.c4; have f4 := h.f 4
  have q5 := h1.c5; have f5 := h1.f 5
  have H2 := Lib.hid h2
  clear h h1 h2
  go_enter Tryz.func152, Tryz.ntmps152
  go_wp2
  go_returns
  exact ⟨rfl, H2.out⟩

set_option maxHeartbeats 1000000 in
theorem look_any {w0 w : World} {X N : Nat} {c : Cfg} {F : Nat → Prop} {T : Value} {pu tk : Int} {ot nx : Value} {pk : Int} (hc : OkC c) (h : Pxt w0 w X N c F T pu tk ot nx pk) :
    Calls Tryz.prog 124 #[ptr X] w fun e w' => e = .returned (.tuple #[]) ∧ ∃ M, w.heap.size ≤ M ∧ MM w' M (lnkV N) (mPop (spK c)) ∧ Pxt w0 w' X N c F T pu tk (subV M) (fnv 135 X) pk := by
  have hmf : ∀ (fn : Fn) (first cap : Array Value) (w : World), (Instr.makeFunc fn first cap).run Tryz.prog w = .ok (.func fn first cap) w := fun _ _ _ _ => rfl
  have q0 := h.c0
  have HMD := Lib.hid h.drew; clear h
  have HC := Lib.hid hc; clear hc
  go_enter Tryz.func124, Tryz.ntmps124
  go_wp2
  go_region_held3 (fun w' => w'.cell? ⟨X, 0, none⟩ = some (Lay.mapP N))
    (first | exact HL.out.c0 | exact HQ.out.c0 | exact HN.out.c0 | exact HMD.out.c0 | go_keep)
    (first
      | (go_at_call 54; (with_reducible refine (Lay.spare_m HC.out N _ HMD.out.mp).mono ?_); rintro r w3 ⟨rfl, hb⟩; have HN := Lib.hid (HMD.out.step hb); have HS := Lib.hid hb.size; clear hb)
      | (go_at_call 134; (with_reducible refine (popSp N _ (lk_of HC.out HN.out.mp)).mono ?_); rintro r w4 ⟨M, rfl, hM, hmm, hb⟩; have HQ := Lib.hid (HN.out.step hb); have HMM := Lib.hid hmm; have HLT := Lib.hid hM; clear hb hmm hM; have q4 := HQ.out.c4; have f4 := HQ.out.f 4; have q5 := HQ.out.c5; have f5 := HQ.out.f 5; have HL := Lib.hid (HQ.out.p4 (subV M)))
      | fail)
  all_goals
    have HF := Lib.hid (HL.out.p5 (fnv 135 X))
    have hne : M ≠ X := by have := HN.out.lt; have := HLT.out; omega
    go_wp2
    go_returns
    exact ⟨rfl, M, Nat.le_trans (by simpa using HS.out) HLT.out, (heap_setCell_other _ ⟨X, 5, none⟩ M _ hne).trans ((heap_setCell_other w4 ⟨X, 4, none⟩ M _ hne).trans HMM.out), HF.out⟩
end Go.Proofs.YtponbnbgiiepdaaGreat

namespace Go.Proofs.YtponbnbgiiepdaaGreat
open Go.RowKit
set_option linter.unusedVariables false
set_option linter.unusedSimpArgs false
open Lay (plcc plc shOf packN nodesN OkC Cfg Norm firstV Rep lenL things)

theorem elU : ElT 41 25 (.int .u64 0) 8 := ⟨Tryz.underlying41, by kernel_rfl, rfl, by decide⟩
def ints (k : IntKind) (l : List Int) : List Value := l.map (Value.int k)
/-- The walk's row, the store, the map, and what has been told. -/
structure HS (S D N bq off : Nat) (Q : List Int) (c : Cfg) (w0 wr : World) (L : List Int) (k : Int) (v : Value) (l : List Int) : Prop where
  po : PO w0.heap.size S D N c w0 wr L k
  q : 0 < Q.length → bq < wr.heap.size ∧ bq ≠ S ∧ bq ≠ D ∧ w0.heap.size ≤ bq
  qc : ∀ j, j < Q.length → wr.cell? ⟨bq, off + j, none⟩ = some (.int .i64 (Q.getD j 0))
  o : ∃ o, QVO 25 o wr v (ints .u64 l) ∧ ∀ b, o = some b → w0.heap.size ≤ b ∧ b ≠ S ∧ b ≠ D ∧ b ≠ N ∧ (0 < Q.length → b ≠ bq)
section
variable {S D N bq off : Nat} {Q : List Int} {c : Cfg} {w0 wr w' : World} {L : List Int} {k : Int} {v : Value} {l : List Int}
theorem HS.step (h : HS S D N bq off Q c w0 wr L k v l) (hb : Below wr.heap.size wr w') : HS S D N bq off Q c w0 w' L k v l := by
  obtain ⟨o, ho, ha⟩ := h.o
  exact ⟨h.po.step hb, fun h0 => ⟨Nat.lt_of_lt_of_le (h.q h0).1 hb.size, (h.q h0).2⟩, fun j hj => (hb.cell (p := ⟨bq, off + j, none⟩) (h.q (by omega)).1).trans (h.qc j hj), o, ho.below hb, ha⟩
theorem HS.len (h : HS S D N bq off Q c w0 wr L k v l) : ∃ A c2, v = .slice A l.length c2 := by
  obtain ⟨o, ho, _⟩ := h.o
  obtain ⟨A, c2, h⟩ := ho.len
  exact ⟨A, c2, by rw [h]; unfold ints; rw [List.length_map]⟩
theorem HS.more (h : HS S D N bq off Q c w0 wr L k v l) {k' : Int} (hk : k ≤ k') : HS S D N bq off Q c w0 wr L k' v l := ⟨h.po.more hk, h.q, h.qc, h.o⟩
theorem HS.drew (h : HS S D N bq off Q c w0 wr L k v l) : HS S D N bq off Q c w0 wr.drew L k v l := h.step (Below.refl _ _).drew
/-- A load. -/
theorem HS.load (h : HS S D N bq off Q c w0 wr L k v l) (hk : k ≤ 900000000) (a : Int) : Calls Tryz.prog 34 #[ptr S, .int .i64 a] wr fun e w' => e = .returned (.int .u64 (ldq L a)) ∧ HS S D N bq off Q c w0 w' L (k + 1) v l := by
  obtain ⟨cc, h0, h1, hs⟩ := h.po.st
  refine (load_any a wr hs h0 (by omega)).mono ?_
  rintro e w1 ⟨rfl, hl⟩
  obtain ⟨hs', u⟩ := hl
  have hlt := h.po.lt
  have hB := h.po.lo
  have bl : ∀ b, b < wr.heap.size → b ≠ S → b ≠ D → w1.heap[b]? = wr.heap[b]? := fun b hb h1 h2 => u.block b hb h1 h2
  obtain ⟨o, ho, ha⟩ := h.o
  refine ⟨by rw [ldv_eq], ⟨⟨cc + 1, by omega, by omega, hs'⟩, IsMap_same h.po.mp u.size (bl N hlt.2.2 h.po.ns.1 h.po.ns.2), h.po.ok, h.po.ns, h.po.lo, h.po.ww, below_uf h.po.bel (Nat.le_refl _) (UF.of_upd u) (fun b hb => by rcases hb with rfl | rfl; exact hB.1; exact hB.2.1)⟩, fun h0 => ⟨Nat.lt_of_lt_of_le (h.q h0).1 u.size, (h.q h0).2⟩, fun j hj => (World.cell?_of_block (w := wr) (a := ⟨bq, off + j, none⟩) (bl bq (h.q (by omega)).1 (h.q (by omega)).2.1 (h.q (by omega)).2.2.1)).trans (h.qc j hj), o, ho.same fun b e => bl b (ho.lt b e) (ha b e).2.1 (ha b e).2.2.1, ha⟩
/-- An append. -/
theorem HS.grew {v' : Value} {x : Int} {o : Option Nat} (h : HS S D N bq off Q c w0 wr L k v l) (ha : ∀ b, o = some b → w0.heap.size ≤ b ∧ b ≠ S ∧ b ≠ D ∧ b ≠ N ∧ (0 < Q.length → b ≠ bq)) (g : GrewV 25 o wr w' v' (ints .u64 l ++ [.int .u64 x])) : HS S D N bq off Q c w0 w' L k v' (l ++ [x]) := by
  obtain ⟨b, hb, hq, u⟩ := g
  have hlt := h.po.lt
  have hB := h.po.lo
  have hs := h.po.bel.size
  have f : w0.heap.size ≤ b ∧ b ≠ S ∧ b ≠ D ∧ b ≠ N ∧ (0 < Q.length → b ≠ bq) := by
    rcases hb with hb | hb
    · exact ha b hb
    · exact ⟨by omega, by omega, by omega, by omega, fun h0 => by have := (h.q h0).1; omega⟩
  obtain ⟨cc, h0, h1, hst⟩ := h.po.st
  have bl : ∀ k, k < wr.heap.size → k ≠ b → w'.heap[k]? = wr.heap[k]? := fun k hk h1 => u.block k hk h1 h1
  refine ⟨⟨⟨cc, h0, h1, St_same hst (bl S hlt.1 (Ne.symm f.2.1)) (bl D hlt.2.1 (Ne.symm f.2.2.1))⟩, IsMap_same h.po.mp u.size (bl N hlt.2.2 (Ne.symm f.2.2.2.1)), h.po.ok, h.po.ns, h.po.lo, h.po.ww, below_uf h.po.bel (Nat.le_refl _) (UF.of_upd u) (fun k hk => by rcases hk with rfl | rfl <;> exact f.1)⟩, fun h0 => ⟨Nat.lt_of_lt_of_le (h.q h0).1 u.size, (h.q h0).2⟩, fun j hj => (World.cell?_of_block (w := wr) (a := ⟨bq, off + j, none⟩) (bl bq (h.q (by omega)).1 (Ne.symm (f.2.2.2.2 (by omega))))).trans (h.qc j hj), some b, ?_, fun b' e => by cases e; exact f⟩
  show QV _ b w' v' _
  unfold ints at hq ⊢
  rw [List.map_append]; exact hq
end

theorem new_cell (w : World) (v : Value) (T : TypeId) : (w.alloc (.cells #[v] T)).cell? ⟨w.heap.size, 0, none⟩ = some v := by
  have h : (w.alloc (.cells #[v] T)).heap[w.heap.size]? = some (.cells #[v] T (0, 0)) := Array.getElem?_push_size
  simp only [World.cell?, h]; rfl
theorem walkPo (M : Option Addr) (m capM N : Nat) (c : Cfg) (L : List Int) (w : World) (hn : m = L.length) (hr : Reads .u64 w M L) (ww : WW L) (hl : Lk w (lnkV N) N (lnkL c)) (hp : packN c ≤ 1000) :
    Calls Tryz.prog 67 #[.slice M m capM, .int .i64 (plcc c 4 0 0), lnkV N, .int .i64 (packN c)] w fun e w' => ∃ v, e = .returned v ∧ OwnI .i64 3 w.heap.size w w' v (walkQ L (poK c) (packN c).toNat (plcc c 4 0 0)) := walk_any M m capM N (lnkV N) L (poK c) (packN c) w hn hr ww hl hp
theorem imin_cnt {n : Int} (h : 0 ≤ n) : Lay.imin n 4 = ((cnt4 n : Nat) : Int) := by unfold Lay.imin cnt4; split <;> split <;> omega

set_option maxRecDepth 100000 in
set_option maxHeartbeats 8000000 in
theorem held_pk2 {c : Cfg} (hc : OkC c) (N : Nat) (M : Option Addr) (m capM : Nat) (L : List Int) (w : World) (hm : Lay.IsMap w N c) (hn : m = L.length) (hr : Reads .u64 w M L) (ww : WW L) (hl : m ≤ 100000) :
    Calls Tryz.prog 30 #[Lay.mapP N, .slice M m capM] w fun e w' => ∃ A k cap, e = .returned (.slice A k cap) ∧ k = (heldL c L).length ∧ (0 < (heldL c L).length → ∃ b off, A = some ⟨b, off, none⟩ ∧ w.heap.size ≤ b ∧ b < w'.heap.size ∧ ∀ j, j < (heldL c L).length → w'.cell? ⟨b, off + j, none⟩ = some (.int .u64 ((heldL c L).getD j 0))) ∧ Below w.heap.size w w' := by
  have hmf : ∀ (fn : Fn) (first cap : Array Value) (w : World), (Instr.makeFunc fn first cap).run Tryz.prog w = .ok (.func fn first cap) w := fun _ _ _ _ => rfl
  have HC := Lib.hid hc; have HM := Lib.hid hm; have HN := Lib.hid hn; have HR := Lib.hid hr; have HW := Lib.hid ww; have HLL := Lib.hid hl
  have hpb := (Lay.bds hc).p1
  have HPB := Lib.hid hpb
  clear hc hm hn hr ww hl hpb
  obtain ⟨Q, hQ⟩ : ∃ Q, Q = walkQ L (poK c) (packN c).toNat (plcc c 4 0 0) := ⟨_, rfl⟩
  have HQQ := Lib.hid hQ
  have hql : Q.length ≤ 1000 := by have := walkQ_len L (poK c) (packN c).toNat (plcc c 4 0 0); rw [← hQ] at this; have := HPB.out; omega
  have hqr : ∀ q ∈ Q, 0 ≤ q ∧ q ≤ 4294967295 := by rw [hQ]; exact walkQ_rng _ _ _ _
  have HQR := Lib.hid hqr
  obtain ⟨nq, hnq⟩ : ∃ nq, nq = Q.length := ⟨_, rfl⟩
  have HNQ := Lib.hid hnq
  rw [← hnq] at hql
  clear hQ hqr hnq
  go_enter Tryz.func30, Tryz.ntmps30
  go_wp2_with (first
    | (go_at_call 13; (with_reducible refine (new_any M m capM L _ HN.out HR.out (by have := HLL.out; omega)).mono ?_); rintro e w5 ⟨S, D, rfl, hS, hD, hs, hb⟩; have HB := Lib.hid hb; have HM2 := Lib.hid (HM.out.below hb); have HR2 := Lib.hid (Reads.below HR.out hb (Nat.le_refl _)); have HST := Lib.hid hs; have HSS := Lib.hid (And.intro hS hD); clear hb hs hS hD)
    | (go_at_call 68; (with_reducible refine (Lay.pool_m HC.out N _ HM2.out).mono ?_); rintro r w3 ⟨rfl, hb⟩; have HM3 := Lib.hid (HM2.out.below hb); have HB3 := Lib.hid hb; clear hb)
    | (go_at_call 29; (with_reducible refine (Lay.packets_m N _ HM3.out).mono ?_); rintro r w3 ⟨rfl, hb⟩; have HB4 := Lib.hid hb; clear hb)
    | (go_at_call 67; (with_reducible refine (walkPo M m capM N c L _ HN.out (HR2.out.below (HB3.out.trans (HB4.out.mono HB3.out.size)) (Nat.le_refl _)) HW.out (lk_of HC.out (HM3.out.below HB4.out)) HPB.out).mono ?_); rintro r w6 ⟨v, rfl, hO⟩; rw [← HQQ.out] at hO; obtain ⟨Wp, wc, hv, hrow⟩ := hO.blk; rw [← HNQ.out] at hv; subst hv; have HO := Lib.hid hO; have HRW := Lib.hid hrow; clear hO hrow)
    | fail)
  have ho := HO.out
  have hrow := HRW.out
  have hb56 : Below w5.heap.size w5 w6 := (HB3.out.trans (HB4.out.mono HB3.out.size)).trans (ho.2.mono (Nat.le_trans HB3.out.size HB4.out.size))
  have hnq := HNQ.out
  have hsz5 : S < w5.heap.size ∧ D < w5.heap.size ∧ N < w5.heap.size := ⟨HST.out.ltS, HST.out.row.lt, HM2.out.1⟩
  obtain ⟨bq, off, hbq⟩ : ∃ bq off, 0 < Q.length → (Wp = some ⟨bq, off, none⟩ ∧ w5.heap.size ≤ bq ∧ bq < w6.heap.size ∧ ∀ j, j < Q.length → w6.cell? ⟨bq, off + j, none⟩ = some (.int .i64 (Q.getD j 0))) := by
    by_cases h0 : 0 < Q.length
    · obtain ⟨b, off, h1, h2, h3, h4⟩ := hrow h0
      exact ⟨b, off, fun _ => ⟨h1, Nat.le_trans (Nat.le_trans HB3.out.size HB4.out.size) h2, h3, h4⟩⟩
    · exact ⟨0, 0, fun h => absurd h h0⟩
  have hs0 : HS S D N bq off Q c w w6 L 0 (.slice none 0 0) [] := by
    have hss := HSS.out
    have hms := HM.out.1
    have hbs := HB.out.size
    exact ⟨⟨⟨0, Int.le_refl _, Int.le_refl _, HST.out.below hb56⟩, HM2.out.below hb56, HC.out, ⟨by omega, by omega⟩, ⟨by omega, by omega, Nat.le_refl _⟩, HW.out, below_step HB.out HB.out.size hb56⟩, fun h0 => by have := hbq h0; omega, fun j hj => (hbq (by omega)).2.2.2 j hj, none, ⟨rfl, rfl⟩, fun b e => by cases e⟩
  have HROW : Hid (0 < nq → Wp = some ⟨bq, off, none⟩) := Lib.hid fun h0 => (hbq (by omega)).1
  have HS0 := Lib.hid hs0
  clear hnq hbq hs0 hrow hb56 hsz5 ho
  go_loopw [6, 21] (fun o i wr => ∃ (k : Nat) (v : Value), k ≤ nq ∧ i = .int .i64 (k : Int) ∧ o = v ∧ HS S D N bq off Q c w wr L (5 * k) v (heldT c L (Q.take k))) (fun _ i _ => nq - (intOf i).toNat)
  case atStart => exact ⟨0, _, Nat.zero_le _, rfl, rfl, by simpa [heldT] using HS0.out⟩
  case round =>
    obtain ⟨k, v, hk, rfl, rfl, hsn⟩ := hrel
    by_cases hlt : k < nq
    · have hkQ : k < Q.length := by have := HNQ.out; omega
      obtain rfl := HROW.out (by omega)
      have cq := hsn.qc k hkQ
      obtain ⟨p, hp⟩ : ∃ p, p = Q.getD k 0 := ⟨_, rfl⟩
      have hpm : p ∈ Q := by rw [hp, List.getD, List.getElem?_eq_getElem hkQ]; exact List.getElem_mem hkQ
      obtain ⟨p0, p1⟩ := HQR.out p hpm
      have HT := Lib.hid (heldT_succ c L Q k hkQ)
      rw [← hp] at cq HT
      have HWF : Hid ((Lit.int .i64 p).wf = true) := Lib.hid (Lay.wf_i64 (by omega) (by omega))
      obtain ⟨nn, hnn⟩ : ∃ nn, nn = ldq L (plcc c 11 p 0) := ⟨_, rfl⟩
      have HNN := Lib.hid hnn
      have hnr := HW.out.ldq (plcc c 11 p 0)
      rw [← hnn] at hnr HT
      obtain ⟨ct, hct⟩ : ∃ ct, ct = cnt4 nn := ⟨_, rfl⟩
      have hmin := imin_cnt hnr.1
      have hct4 := cnt4_le nn
      rw [← hct] at hmin hct4 HT
      have hlen := heldT_len c L (Q.take k)
      have hlen2 : (heldT c L (Q.take k)).length ≤ 4000 := by simp at hlen; omega
      have HLN := Lib.hid hlen2
      have hk0 : (0 : Int) ≤ (k : Int) := by omega
      have hk1 : (k : Int) < (nq : Int) := by omega
      have HSN := Lib.hid hsn
      have HHP := Lib.hid hp
      clear hlen hlen2 hsn hp hpm hnn hct hnr
      go_wp2_with (first
        | (go_at_call 69; (with_reducible refine (Lay.many_m HC.out N p HWF.out _ HSN.out.po.mp).mono ?_); rintro r w7 ⟨rfl, hb⟩; have HSN2 := Lib.hid (HSN.out.step hb); clear hb)
        | (go_at_call 34; (with_reducible refine (HSN2.out.load (by omega) _).mono ?_); rintro r w8 ⟨rfl, hx⟩; rw [← HNN.out]; have HSN3 := Lib.hid hx; clear hx)
        | fail)
      obtain ⟨wo, hwo⟩ : ∃ wo : World, wo = wr := ⟨_, rfl⟩
      go_loopw [6, 31] (fun o j wz => ∃ (i : Nat) (v : Value), i ≤ ct ∧ j = .int .u64 (i : Int) ∧ o = v ∧ HS S D N bq off Q c w wz L (5 * k + 1 + i) v (heldT c L (Q.take k) ++ pkT c L p i)) (fun _ j _ => ct - (intOf j).toNat)
      case atStart => exact ⟨0, _, Nat.zero_le _, rfl, rfl, by simpa [pkT] using HSN3.out⟩
      case round =>
        obtain ⟨i, v, hi, rfl, rfl, hsn⟩ := hrel
        have ew : IntKind.i64.wrap (i : Int) = (i : Int) := by rw [IntKind.wrap_i64]; omega
        by_cases hlt2 : i < ct
        · have d3 : (i : Int) < (ct : Int) := by omega
          have hl5 : (ints .u64 (heldT c L (Q.take k) ++ pkT c L p i)).length ≤ 100000 := by have := HLN.out; unfold ints; rw [List.length_map, List.length_append, pkT_len]; omega
          have HL5 := Lib.hid hl5
          have HSU := Lib.hid (pkT_succ c L p i)
          obtain ⟨x, hx⟩ : ∃ x, x = ldq L (plcc c 13 p (i : Int)) := ⟨_, rfl⟩
          have HX := Lib.hid hx
          have hxr := HW.out.ldq (plcc c 13 p (i : Int))
          rw [← hx] at hxr
          have HI : Hid ((Lit.int .i64 (i : Int)).wf = true) := Lib.hid (Lay.wf_i64 (by omega) (by omega))
          obtain ⟨A2, c2, hv2⟩ := hsn.len
          obtain ⟨C, hC⟩ : ∃ C, C = (heldT c L (Q.take k) ++ pkT c L p i).length := ⟨_, rfl⟩
          rw [← hC] at hv2
          subst hv2
          have HCC := Lib.hid hC
          clear hC
          have HSM := Lib.hid hsn
          clear hsn hl5 hx
          go_wp2_with (first
            | (go_at_call 70; (with_reducible refine (Lay.task_m HC.out N p _ HWF.out _ HSM.out.po.mp).mono ?_); rintro r w7 ⟨rfl, hb⟩; have HSM2 := Lib.hid (HSM.out.step hb); clear hb)
            | (go_at_call 34; (with_reducible refine (HSM2.out.load (by omega) _).mono ?_); rintro r w8 ⟨rfl, hx⟩; rw [← HX.out]; have HSM3 := Lib.hid (hx.step (below_alloc0 (Below.refl _ _) (.cells #[.int .u64 x] 25))); clear hx)
            | (at_builtin; obtain ⟨oo, ho, ha⟩ := HSM3.out.o; refine append_v (o' := oo) rfl _ _ elU rfl ho (new_cell _ _ _) rfl HL5.out rfl rfl ?_; intro v' w9 hg; have hs9 := HSM3.out.grew ha hg; obtain ⟨A9, c9, hv9⟩ := hs9.len; rw [List.length_append, ← HCC.out] at hv9; subst hv9; have HS9 := Lib.hid hs9; clear hg ho ha hs9)
            | fail)
          go_roundw
          case rel => exact ⟨i + 1, _, by omega, by go_num, rfl, by rw [HSU.out, ← HX.out, ← List.append_assoc]; exact HS9.out.more (by omega)⟩
          case measure => simp [intOf]; omega
        · obtain rfl : i = ct := by omega
          have HSM := Lib.hid hsn
          have HT2 := Lib.hid HT.out.symm
          clear hsn
          go_wp2_with (fail)
          go_roundw
          case rel => exact ⟨k + 1, _, by omega, by go_num, rfl, by rw [← HT2.out]; exact HSM.out.more (by omega)⟩
          case measure => simp [intOf]; omega
    · obtain rfl : k = nq := by omega
      obtain ⟨A2, c2, hv2⟩ := hsn.len
      subst hv2
      have e : heldT c L (Q.take k) = heldL c L := by
        have := HNQ.out
        rw [this, List.take_length, HQQ.out]; rfl
      rw [e] at hsn
      have HSM := Lib.hid hsn
      clear hsn
      go_wp2_with (fail)
      go_ret
      obtain ⟨o, ho, hal⟩ := HSM.out.o
      refine ⟨_, _, _, rfl, by rw [e], fun h0 => ?_, HSM.out.po.bel⟩
      have h0' : 0 < (ints .u64 (heldL c L)).length := by unfold ints; rw [List.length_map]; exact h0
      obtain ⟨b, ho', hq⟩ := ho.has h0'
      obtain ⟨off', cap', hv, _, _, hcell⟩ := hq.cell
      injection hv with e1 e2 e3
      refine ⟨b, off', e1, (hal b ho').1, hq.lt, fun j hj => ?_⟩
      rw [hcell j (by unfold ints; rw [List.length_map]; exact hj)]
      simp [ints, List.getD, List.getElem?_map, List.getElem?_eq_getElem hj]
theorem held_pk {c : Cfg} (hc : OkC c) (N : Nat) (M : Option Addr) (m capM : Nat) (L : List Int) (w : World) (hm : Lay.IsMap w N c) (hn : m = L.length) (hr : Reads .u64 w M L) (ww : WW L) (hl : m ≤ 100000) :
    Calls Tryz.prog 30 #[Lay.mapP N, .slice M m capM] w fun e w' => ∃ A k cap, e = .returned (.slice A k cap) ∧ k = (heldL c L).length ∧ Reads .u64 w' A (heldL c L) ∧ Below w.heap.size w w' :=
  (held_pk2 hc N M m capM L w hm hn hr ww hl).mono fun _ _ ⟨A, k, cap, h1, h2, h3, h4⟩ => ⟨A, k, cap, h1, h2, fun h0 => by obtain ⟨b, off, e, _, e2, e3⟩ := h3 h0; exact ⟨b, off, e, e2, e3⟩, h4⟩
end Go.Proofs.YtponbnbgiiepdaaGreat
