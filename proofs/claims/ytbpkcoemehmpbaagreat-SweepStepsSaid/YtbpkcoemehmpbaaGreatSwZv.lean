/- The document's own part that is swept: its machine as a row, and its small parts; walked. -/
import Derived.Test.YtbpkcoemehmpbaaGreatJ7
import Derived.Test.YtbpkcoemehmpbaaGreatSwK
import Derived.Test.YtbpkcoemehmpbaaGreatRefPk
import Derived.Test.YtbpkcoemehmpbaaGreatRefSt
import Derived.Test.YtbpkcoemehmpbaaGreatJ9
import Derived.Test.YtbpkcoemehmpbaaGreatJ18
import Derived.IntWalk
namespace Go.Proofs.YtbpkcoemehmpbaaGreat
open Go.RowKit
set_option linter.unusedVariables false
set_option linter.unusedSimpArgs false
set_option linter.unnecessarySimpa false
set_option maxRecDepth 100000
open Lay (plcc plc shOf packN nodesN OkC Cfg Norm firstV Rep lenL things partsC roomsI)

/-- A function's two results: a slot, a variable. -/
theorem res2 {P : Program} {fn : Func} {p q : Tmp} {ty : TypeId} (h : fn.results = #[.tmp p, .cell q ty]) (tmps : Array Value) (w : World) (v c : Value) (a : Addr) (hp : tmps.getD p undef = v) (hq : tmps.getD q undef = .pointer (some a)) (hl : (loadVar ty a).run P w = .ok c w) : (results fn tmps).run P w = .ok (.tuple #[v, c]) w := by
  have hq' : tmps[q]?.getD undef = .pointer (some a) := by simpa using hq
  have hp' : tmps[p]?.getD undef = v := by simpa using hp
  simp [results, h, hp', hq', asAddr, hl]
/-- A function's one result: a variable. -/
theorem res1 {P : Program} {fn : Func} {q : Tmp} {ty : TypeId} (h : fn.results = #[.cell q ty]) (tmps : Array Value) (w : World) (c : Value) (a : Addr) (hq : tmps.getD q undef = .pointer (some a)) (hl : (loadVar ty a).run P w = .ok c w) : (results fn tmps).run P w = .ok c w := by
  have hq' : tmps[q]?.getD undef = .pointer (some a) := by simpa using hq
  simp [results, h, hq', asAddr, hl]
theorem row_uf2 {P Q : Nat → Prop} {F : Nat → Prop} {w w' : World} {A : Option Addr} {zs : List Int} (h : ReadsW P w A zs) (u : UF F w w') (hP : ∀ b, P b → b < w.heap.size → ¬ F b ∧ Q b) : ReadsW Q w' A zs := fun h0 => by
  obtain ⟨b, off, e, hlt, hp, hc⟩ := h h0
  have := hP b hp hlt
  exact ⟨b, off, e, Nat.lt_of_lt_of_le hlt u.size, this.2, fun j hj => (World.cell?_of_block (w := w) (a := ⟨b, off + j, none⟩) (u.block b hlt this.1)).trans (hc j hj)⟩

/-- A row of integers in a block of this kind. -/
def ReadsI (P : Nat → Prop) (w : World) (A : Option Addr) (zs : List Int) : Prop :=
  0 < zs.length → ∃ b off, A = some ⟨b, off, none⟩ ∧ b < w.heap.size ∧ P b ∧ ∀ j, j < zs.length → w.cell? ⟨b, off + j, none⟩ = some (.int .i64 (zs.getD j 0))
theorem ReadsI.reads {P : Nat → Prop} {w : World} {A : Option Addr} {zs : List Int} (h : ReadsI P w A zs) : Reads .i64 w A zs := fun h0 => by
  obtain ⟨b, off, e, hlt, _, hc⟩ := h h0
  exact ⟨b, off, e, hlt, hc⟩
theorem ReadsI.uf {P Q : Nat → Prop} {F : Nat → Prop} {w w' : World} {A : Option Addr} {zs : List Int} (h : ReadsI P w A zs) (u : UF F w w') (hP : ∀ b, P b → b < w.heap.size → ¬ F b ∧ Q b) : ReadsI Q w' A zs := fun h0 => by
  obtain ⟨b, off, e, hlt, hp, hc⟩ := h h0
  have := hP b hp hlt
  exact ⟨b, off, e, Nat.lt_of_lt_of_le hlt u.size, this.2, fun j hj => (World.cell?_of_block (w := w) (a := ⟨b, off + j, none⟩) (u.block b hlt this.1)).trans (hc j hj)⟩
theorem Reads.toI {P : Nat → Prop} {w : World} {A : Option Addr} {zs : List Int} (h : Reads .i64 w A zs) (hP : ∀ a, A = some a → P a.block) : ReadsI P w A zs := fun h0 => by
  obtain ⟨b, off, e, hlt, hc⟩ := h h0
  exact ⟨b, off, e, hlt, hP _ e, hc⟩

/-- A machine's cells. -/
def Vz (m : Wn) (A : Option Addr) (n cap : Nat) : Array Value := #[.int .i64 m.pc, .int .u64 m.cy, .int .u64 m.w, .int .i64 m.part, .int .i64 m.v, .int .i64 m.last, .int .i64 m.x.kind, .int .i64 m.x.pc, .int .i64 m.x.k.head, .slice A n cap, .int .u32 m.x.item, .int .u64 m.x.h, .int .u32 m.x.link, .int .i64 m.x.tries, .int .i64 m.ek, .int .i64 0, .int .i64 m.ea, .int .i64 0, .int .i64 0]
/-- A value that stands for a machine. -/
structure ZV (Q : Nat → Prop) (w : World) (m : Wn) (V : Array Value) : Prop where
  ex : ∃ (A : Option Addr) (n cap : Nat), V = Vz m A n cap ∧ n = m.x.k.links.length ∧ n ≤ 1000000 ∧ ReadsI Q w A m.x.k.links
section
variable {Q : Nat → Prop} {w w' : World} {m : Wn} {V : Array Value}
theorem ZV.size (h : ZV Q w m V) : V.size = 19 := by obtain ⟨A, n, cap, rfl, _⟩ := h.ex; rfl
theorem ZV.one (h : ZV Q w m V) : V.all (·.oneCell') = true := by obtain ⟨A, n, cap, rfl, _⟩ := h.ex; simp only [Vz, List.all_toArray, List.all_cons, List.all_nil, Value.oneCell', Bool.and_self]
theorem ZV.c0 (h : ZV Q w m V) : V[0]? = some (.int .i64 m.pc) := by obtain ⟨A, n, cap, rfl, _⟩ := h.ex; rfl
theorem ZV.c1 (h : ZV Q w m V) : V[1]? = some (.int .u64 m.cy) := by obtain ⟨A, n, cap, rfl, _⟩ := h.ex; rfl
theorem ZV.c2 (h : ZV Q w m V) : V[2]? = some (.int .u64 m.w) := by obtain ⟨A, n, cap, rfl, _⟩ := h.ex; rfl
theorem ZV.c3 (h : ZV Q w m V) : V[3]? = some (.int .i64 m.part) := by obtain ⟨A, n, cap, rfl, _⟩ := h.ex; rfl
theorem ZV.c4 (h : ZV Q w m V) : V[4]? = some (.int .i64 m.v) := by obtain ⟨A, n, cap, rfl, _⟩ := h.ex; rfl
theorem ZV.c5 (h : ZV Q w m V) : V[5]? = some (.int .i64 m.last) := by obtain ⟨A, n, cap, rfl, _⟩ := h.ex; rfl
theorem ZV.e0 (h : ZV Q w m V) : V[14]? = some (.int .i64 m.ek) := by obtain ⟨A, n, cap, rfl, _⟩ := h.ex; rfl
theorem ZV.e1 (h : ZV Q w m V) : V[15]? = some (.int .i64 0) := by obtain ⟨A, n, cap, rfl, _⟩ := h.ex; rfl
theorem ZV.e2 (h : ZV Q w m V) : V[16]? = some (.int .i64 m.ea) := by obtain ⟨A, n, cap, rfl, _⟩ := h.ex; rfl
theorem ZV.e3 (h : ZV Q w m V) : V[17]? = some (.int .i64 0) := by obtain ⟨A, n, cap, rfl, _⟩ := h.ex; rfl
theorem ZV.e4 (h : ZV Q w m V) : V[18]? = some (.int .i64 0) := by obtain ⟨A, n, cap, rfl, _⟩ := h.ex; rfl
theorem ZV.uf {Q' : Nat → Prop} {F : Nat → Prop} (h : ZV Q w m V) (u : UF F w w') (hP : ∀ b, Q b → b < w.heap.size → ¬ F b ∧ Q' b) : ZV Q' w' m V := by
  obtain ⟨A, n, cap, e, a, b, r⟩ := h.ex
  exact ⟨A, n, cap, e, a, b, r.uf u hP⟩
theorem ZV.below (h : ZV Q w m V) (hb : Below w.heap.size w w') : ZV Q w' m V := h.uf (UF.of_below (F := fun _ => False) hb) (fun b hb _ => ⟨fun f => f, hb⟩)
theorem ZV.pc (h : ZV Q w m V) (p : Nat) : ZV Q w { m with pc := p } (V.setIfInBounds 0 (.int .i64 p)) := by
  obtain ⟨A, n, cap, rfl, a⟩ := h.ex; exact ⟨A, n, cap, rfl, a⟩
theorem ZV.w_ (h : ZV Q w m V) (x : Int) : ZV Q w { m with w := x } (V.setIfInBounds 2 (.int .u64 x)) := by
  obtain ⟨A, n, cap, rfl, a⟩ := h.ex; exact ⟨A, n, cap, rfl, a⟩
theorem ZV.part (h : ZV Q w m V) (x : Int) : ZV Q w { m with part := x } (V.setIfInBounds 3 (.int .i64 x)) := by
  obtain ⟨A, n, cap, rfl, a⟩ := h.ex; exact ⟨A, n, cap, rfl, a⟩
theorem ZV.v_ (h : ZV Q w m V) (x : Int) : ZV Q w { m with v := x } (V.setIfInBounds 4 (.int .i64 x)) := by
  obtain ⟨A, n, cap, rfl, a⟩ := h.ex; exact ⟨A, n, cap, rfl, a⟩
theorem ZV.last_ (h : ZV Q w m V) (x : Int) : ZV Q w { m with last := x } (V.setIfInBounds 5 (.int .i64 x)) := by
  obtain ⟨A, n, cap, rfl, a⟩ := h.ex; exact ⟨A, n, cap, rfl, a⟩
/-- Another event. -/
def evRow (V : Array Value) (k a : Int) : Array Value := ((((V.setIfInBounds 14 (.int .i64 k)).setIfInBounds 15 (.int .i64 0)).setIfInBounds 16 (.int .i64 a)).setIfInBounds 17 (.int .i64 0)).setIfInBounds 18 (.int .i64 0)
theorem ZV.ev (h : ZV Q w m V) (k a : Int) : ZV Q w { m with ek := k, ea := a } (evRow V k a) := by
  obtain ⟨A, n, cap, rfl, b⟩ := h.ex; exact ⟨A, n, cap, rfl, b⟩
end
/-- The row of a machine that has come to a node. -/
def goRow (V : Array Value) (m : Wn) (v : Int) : Array Value := if v ≤ m.last then ((V.setIfInBounds 4 (.int .i64 v)).setIfInBounds 0 (.int .i64 7)).setIfInBounds 0 (.int .i64 3) else (V.setIfInBounds 4 (.int .i64 v)).setIfInBounds 0 (.int .i64 7)
theorem ZV.go {Q : Nat → Prop} {w : World} {m : Wn} {V : Array Value} (h : ZV Q w m V) (v : Int) : ZV Q w (wgo m v) (goRow V m v) := by
  unfold goRow wgo
  by_cases e : v ≤ m.last
  · rw [if_pos e, if_pos e]; exact ((h.v_ v).pc 7).pc 3
  · rw [if_neg e, if_neg e]; exact (h.v_ v).pc 7
theorem on_any {Q : Nat → Prop} {w0 w : World} {m : Wn} {V : Array Value} (v : Int) (h : ZV Q w0 m V) :
    Calls Tryz.prog 45 #[.agg V, .int .i64 v] w fun e w' => e = .returned (.agg (goRow V m v)) ∧ Below w.heap.size w w' := by
  have key : ∀ V1, V1 = goRow V m v → ∀ W, ZB w W w.heap.size (w.heap.size + 1) V1 → Ending.returned (.agg V1) = .returned (.agg (goRow V m v)) ∧ Below w.heap.size w (W.setCells (w.heap.size + 1) 0 V1.toList) := by
    rintro V1 rfl W hz
    exact ⟨rfl, (hz.fin (h.go v).size).1⟩
  have HG := h.go v
  have c5 := h.c5
  have HZ := Lib.hid (ZB.two w V)
  obtain ⟨y, hy⟩ : ∃ y, y = m.last := ⟨_, rfl⟩
  rw [← hy] at c5
  have HS := Lib.hid h.size
  have HK := Lib.hid key
  have HC5 := Lib.hid c5
  obtain ⟨W, hW⟩ : ∃ W, W = ((w.alloc (.cells V 55)).alloc (.cells #[.int .i64 0, .int .u64 0, .int .u64 0, .int .i64 0, .int .i64 0, .int .i64 0, .int .i64 0, .int .i64 0, .int .i64 0, .slice none 0 0, .int .u32 0, .int .u64 0, .int .u32 0, .int .i64 0, .int .i64 0, .int .i64 0, .int .i64 0, .int .i64 0, .int .i64 0] 55)) := ⟨_, rfl⟩
  rw [← hW] at HZ
  have HW := Lib.hid hW
  have HC0 := Lib.hid h.c0; have HC4 := Lib.hid h.c4
  clear key hW c5 h
  by_cases hlt : v ≤ y
  · have hg : goRow V m v = ((V.setIfInBounds 4 (.int .i64 v)).setIfInBounds 0 (.int .i64 7)).setIfInBounds 0 (.int .i64 3) := by unfold goRow; rw [if_pos (by omega)]
    obtain ⟨V1, hV1⟩ : ∃ V1, V1 = goRow V m v := ⟨_, rfl⟩
    have HE := Lib.hid (HK.out V1 hV1)
    have HV1 := Lib.hid (hV1.trans hg)
    rw [← hV1] at HG
    have HS1 := Lib.hid (And.intro HG.size HG.one)
    have d1 : decide (v ≤ y) = true := by simpa using hlt
    clear hV1 HG hg hy hlt
    go_enter Tryz.func45, Tryz.ntmps45
    go_upto_region 1 with (fail)
    rw [← HW.out]
    have y0 := (row_get HZ.out.bm 0).trans HC0.out
    have y4 := (row_get HZ.out.bm 4).trans HC4.out
    have y5 := (row_get HZ.out.bm 5).trans HC5.out
    have f0 := fun k => row_fro HZ.out.bm k
    go_upto_region 5 with (fail)
    have hz2 := ((HZ.out.put 4 (.int .i64 v)).put 0 (.int .i64 7)).put 0 (.int .i64 3)
    rw [← HV1.out] at hz2
    obtain ⟨W2, hW2⟩ : ∃ W2, W2 = (((W.setCell ⟨w.heap.size, 4, none⟩ (.int .i64 v)).setCell ⟨w.heap.size, 0, none⟩ (.int .i64 7)).setCell ⟨w.heap.size, 0, none⟩ (.int .i64 3)) := ⟨_, rfl⟩
    rw [← hW2] at hz2 ⊢
    have HZ2 := Lib.hid hz2
    clear hz2 hW2 y0 y4 y5 f0
    go_wp2_with (first
      | (refine wpList_loadZ rfl (.tmp 2) rfl w.heap.size V1 rfl HZ2.out.bm HS1.out.1 ?_)
      | (refine wpList_storeZ rfl (.tmp 4) (.tmp 13) rfl (w.heap.size + 1) zero19 V1 rfl rfl HZ2.out.br rfl HS1.out.1 HS1.out.2 ?_)
      | fail)
    exact bodyPost_ret (v := .agg V1) (res1 Tryz.results45 _ _ _ _ rfl (HZ2.out.fin HS1.out.1).2) rfl (HE.out _ HZ2.out)
  · have hg : goRow V m v = (V.setIfInBounds 4 (.int .i64 v)).setIfInBounds 0 (.int .i64 7) := by unfold goRow; rw [if_neg (by omega)]
    obtain ⟨V1, hV1⟩ : ∃ V1, V1 = goRow V m v := ⟨_, rfl⟩
    have HE := Lib.hid (HK.out V1 hV1)
    have HV1 := Lib.hid (hV1.trans hg)
    rw [← hV1] at HG
    have HS1 := Lib.hid (And.intro HG.size HG.one)
    have d1 : decide (v ≤ y) = false := by simpa using hlt
    clear hV1 HG hg hy hlt
    go_enter Tryz.func45, Tryz.ntmps45
    go_upto_region 1 with (fail)
    rw [← HW.out]
    have y0 := (row_get HZ.out.bm 0).trans HC0.out
    have y4 := (row_get HZ.out.bm 4).trans HC4.out
    have y5 := (row_get HZ.out.bm 5).trans HC5.out
    have f0 := fun k => row_fro HZ.out.bm k
    go_upto_region 5 with (fail)
    have hz2 := (HZ.out.put 4 (.int .i64 v)).put 0 (.int .i64 7)
    rw [← HV1.out] at hz2
    obtain ⟨W2, hW2⟩ : ∃ W2, W2 = ((W.setCell ⟨w.heap.size, 4, none⟩ (.int .i64 v)).setCell ⟨w.heap.size, 0, none⟩ (.int .i64 7)) := ⟨_, rfl⟩
    rw [← hW2] at hz2 ⊢
    have HZ2 := Lib.hid hz2
    clear hz2 hW2 y0 y4 y5 f0
    go_wp2_with (first
      | (refine wpList_loadZ rfl (.tmp 2) rfl w.heap.size V1 rfl HZ2.out.bm HS1.out.1 ?_)
      | (refine wpList_storeZ rfl (.tmp 4) (.tmp 13) rfl (w.heap.size + 1) zero19 V1 rfl rfl HZ2.out.br rfl HS1.out.1 HS1.out.2 ?_)
      | fail)
    exact bodyPost_ret (v := .agg V1) (res1 Tryz.results45 _ _ _ _ rfl (HZ2.out.fin HS1.out.1).2) rfl (HE.out _ HZ2.out)

/-- A new machine. -/
theorem znew_is (Q : Nat → Prop) (w : World) (cy : Int) : ZV Q w (wNew cy) (Vz (wNew cy) none 0 0) := ⟨none, 0, 0, rfl, rfl, by decide, fun h0 => absurd h0 (Nat.lt_irrefl 0)⟩
set_option maxHeartbeats 8000000 in
theorem rnew_any (Q : Nat → Prop) (cy : Int) (w : World) :
    Calls Tryz.prog 12 #[.int .u64 cy] w fun e w' => ∃ V, e = .returned (.agg V) ∧ ZV Q w' (wNew cy) V ∧ Below w.heap.size w w' := by
  obtain ⟨W0, hW0⟩ : ∃ W0, W0 = w.alloc (.cells #[.int .i64 0, .int .u64 0, .int .u64 0, .int .i64 0, .int .i64 0, .int .i64 0, .int .i64 0, .int .i64 0, .int .i64 0, .slice none 0 0, .int .u32 0, .int .u64 0, .int .u32 0, .int .i64 0, .int .i64 0, .int .i64 0, .int .i64 0, .int .i64 0, .int .i64 0] 55) := ⟨_, rfl⟩
  have hb0 : Below w.heap.size w W0 := by rw [hW0]; exact below_alloc0 (Below.refl _ _) _
  have hr0 : W0.heap[w.heap.size]? = some (.cells zero19 55 (0, 0)) := by rw [hW0]; exact Go.heap_alloc_new _ _
  have HR := Lib.hid hr0; have HW := Lib.hid hW0
  obtain ⟨V0, hV0⟩ : ∃ V0, V0 = Vz (wNew cy) none 0 0 := ⟨_, rfl⟩
  have hzv : ∀ w', ZV Q w' (wNew cy) V0 := fun w' => by rw [hV0]; exact znew_is Q w' cy
  have HV0 := Lib.hid hV0
  have HVS := Lib.hid (And.intro (hzv w).size (hzv w).one)
  have HL : Hid ((∃ V, Ending.returned (.agg V0) = .returned (.agg V) ∧ ZV Q (W0.setCells w.heap.size 0 V0.toList) (wNew cy) V ∧ Below w.heap.size w (W0.setCells w.heap.size 0 V0.toList)) ∧ (loadVar 55 ⟨w.heap.size, 0, none⟩).run Tryz.prog (W0.setCells w.heap.size 0 V0.toList) = .ok (.agg V0) (W0.setCells w.heap.size 0 V0.toList)) := Lib.hid (by
    have hz := row_all (U := V0) hr0 (by rw [(hzv w).size]; rfl)
    exact ⟨⟨V0, rfl, hzv _, below_uf hb0 (Nat.le_refl _) (UF.of_upd hz.2) (fun k e => by rcases e with rfl | rfl <;> exact Nat.le_refl _)⟩, loadZ hz.1 (hzv w).size⟩)
  clear hb0 hr0 hW0 hV0 hzv
  go_enter Tryz.func12, Tryz.ntmps12
  go_upto_region 1 with (fail)
  rw [← HW.out]
  clear HW
  go_wp2_with (first
    | (refine wpList_storeZ rfl (.tmp 2) (.tmp 4) rfl w.heap.size zero19 V0 rfl (by rw [HV0.out]; rfl) HR.out rfl HVS.out.1 HVS.out.2 ?_)
    | fail)
  exact bodyPost_ret (v := .agg V0) (res1 Tryz.results12 _ _ _ _ rfl HL.out.2) rfl HL.out.1

set_option maxHeartbeats 8000000 in
theorem rparts_any {c : Cfg} (hc : OkC c) (w : World) :
    Calls Tryz.prog 79 #[Lay.cfgV c] w fun e w' => e = .returned (.int .i64 (partsC c)) ∧ Below w.heap.size w w' := by
  have hk0 := Lay.KC.start c 38 w w (Below.refl _ _)
  have hnn := Lay.ks_len hc
  have hb := Lay.bds hc
  have n0 := hb.n0; have n1 := hb.n1
  have hp : partsC c = (nodesN c + c.sw - 1) / c.sw := by
    have s1 : 1 ≤ c.sw := by
      obtain ⟨a0, a1, b0, b1, c0, c1, d0, d1, e0, e1, s0, k0, k1, u0, u1, q0, q1, h0, h1, f0, f1, r0, r1, w0, w1⟩ := hc
      omega
    unfold Lay.partsC Lay.piecesOf; rw [if_neg (by omega)]
  have hsw : 1 ≤ c.sw ∧ c.sw ≤ 1000 := by
    obtain ⟨a0, a1, b0, b1, c0, c1, d0, d1, e0, e1, s0, k0, k1, u0, u1, q0, q1, h0, h1, f0, f1, r0, r1, w0, w1⟩ := hc
    omega
  have hpb := (Lay.parts_bd' hc)
  have hp1 : 0 ≤ partsC c ∧ partsC c ≤ 60 := ⟨hpb.1, hpb.2.1⟩
  have HL : Hid (((roomsI c).length : Int) = nodesN c) := Lib.hid (by rw [Lay.rooms_len]; exact hnn)
  have HK0 := Lib.hid hk0
  obtain ⟨P, hP⟩ : ∃ P, P = partsC c := ⟨_, rfl⟩
  obtain ⟨sw, hs⟩ : ∃ sw, sw = c.sw := ⟨_, rfl⟩
  have HS := Lib.hid hs
  obtain ⟨nr, hnr⟩ : ∃ nr, nr = (roomsI c).length := ⟨_, rfl⟩
  have hn : (nr : Int) = nodesN c := by rw [hnr]; exact HL.out
  rw [← hP, ← hn, ← hs] at hp
  rw [← hP] at hp1 ⊢
  rw [← hs] at hsw
  rw [← hn] at n0 n1
  have HNN := Lib.hid hnr
  have ew1 : IntKind.i64.wrap ((nr : Int) + sw) = (nr : Int) + sw := IntWalk.i64_in _ (by omega)
  have ew2 : IntKind.i64.wrap ((nr : Int) + sw - 1) = (nr : Int) + sw - 1 := IntWalk.i64_in _ (by omega)
  have ew3 : IntKind.i64.wrap P = P := IntWalk.i64_in _ (by omega)
  have hq : ((nr : Int) + sw - 1).tdiv sw = P := by rw [hp, Int.tdiv_eq_ediv_of_nonneg (by omega)]
  have hd : ¬ sw = 0 := by omega
  clear hk0 hnn hb hpb hP hs hn hp hnr
  go_enter Tryz.func79, Tryz.ntmps79
  go_wp2_with (first
    | (go_at_call 70; go_loud ((with_reducible refine (Lay.rooms_any c _).mono ?_); rintro r w2 ⟨v, rfl, ho⟩; have hkc := HK0.out.step ho.2; obtain ⟨klt, q0, q1, q2, q3, q4, q5, q6, q7, q8, q9, q10, q11, qb⟩ := hkc; rw [← HS.out] at q11; obtain ⟨A, cap, rfl, _⟩ := ho.reads; rw [← HNN.out]; have HB := Lib.hid ho.2; clear ho))
    | fail)
  go_ret
  exact ⟨rfl, below_then (below_alloc0 (Below.refl _ _) _) HB.out⟩
end Go.Proofs.YtbpkcoemehmpbaaGreat
