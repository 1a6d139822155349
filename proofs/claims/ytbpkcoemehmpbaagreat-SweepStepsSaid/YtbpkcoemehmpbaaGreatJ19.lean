/- The document's own part that is swept: its step's boxes. A step of the document's own part that is swept (the stack within); walked. -/
import Derived.Test.YtbpkcoemehmpbaaGreatSwTl
import Derived.Test.YtbpkcoemehmpbaaGreatSwHd
import Derived.IntWalk
namespace Go.Proofs.YtbpkcoemehmpbaaGreat
open Go.RowKit
set_option linter.unusedVariables false
set_option linter.unusedSimpArgs false
set_option linter.unnecessarySimpa false
set_option maxRecDepth 100000
open Lay (plcc plc shOf packN nodesN OkC Cfg Norm firstV Rep lenL things partsC roomsI)

/-- The boxes of the map, of the configuration, of the machine and of the result. -/
structure ZC (w w' : World) (A : Option Addr) (n cap : Nat) (P : Int) (c : Cfg) (B R : Nat) (V : Array Value) : Prop where
  z : ZB w w' B R V
  lo : w.heap.size + 1 < B ∧ w.heap.size + 1 < R
  ba : w'.heap[w.heap.size]? = some (.cells #[.slice A n cap, .int .i64 P] 36 (0, 0))
  bc : w'.heap[w.heap.size + 1]? = some (.cells #[.int .i64 c.a, .int .i64 c.b, .int .i64 c.c, .int .i64 c.d, .int .i64 c.e, .int .i64 c.mr, .int .i64 c.mu, .int .i64 c.dq, .int .i64 c.ch, .int .i64 c.bf, .int .i64 c.rt, .int .i64 c.sw] 38 (0, 0))
section
variable {w w' w2 : World} {A : Option Addr} {n cap : Nat} {P : Int} {c : Cfg} {B R : Nat} {V U : Array Value}
theorem ZC.step (h : ZC w w' A n cap P c B R V) (hb : Below w'.heap.size w' w2) : ZC w w2 A n cap P c B R V :=
  ⟨h.z.step hb, h.lo, (hb.block _ (Array.getElem?_eq_some_iff.1 h.ba).1).trans h.ba, (hb.block _ (Array.getElem?_eq_some_iff.1 h.bc).1).trans h.bc⟩
theorem ZC.put (h : ZC w w' A n cap P c B R V) (k : Nat) (v : Value) : ZC w (w'.setCell ⟨B, k, none⟩ v) A n cap P c B R (V.setIfInBounds k v) := by
  have u := (row_put h.z.bm k v).2
  have lo := h.lo
  exact ⟨h.z.put k v, h.lo, (u.block _ (Array.getElem?_eq_some_iff.1 h.ba).1 (by omega) (by omega)).trans h.ba, (u.block _ (Array.getElem?_eq_some_iff.1 h.bc).1 (by omega) (by omega)).trans h.bc⟩
theorem ZC.set (h : ZC w w' A n cap P c B R V) (hu : U.size = V.size) : ZC w (w'.setCells B 0 U.toList) A n cap P c B R U := by
  have u := (row_all (U := U) h.z.bm hu.symm).2
  have lo := h.lo
  exact ⟨h.z.set hu, h.lo, (u.block _ (Array.getElem?_eq_some_iff.1 h.ba).1 (by omega) (by omega)).trans h.ba, (u.block _ (Array.getElem?_eq_some_iff.1 h.bc).1 (by omega) (by omega)).trans h.bc⟩
theorem ZC.stretch (h : ZC w w' A n cap P c B R V) (k : Nat) (hk : k + U.size ≤ V.size) : ZC w (w'.setCells B k U.toList) A n cap P c B R (splice V k U) := by
  have u := (row_stretch (U := U) k h.z.bm hk).2
  have lo := h.lo
  exact ⟨h.z.stretch k hk, h.lo, (u.block _ (Array.getElem?_eq_some_iff.1 h.ba).1 (by omega) (by omega)).trans h.ba, (u.block _ (Array.getElem?_eq_some_iff.1 h.bc).1 (by omega) (by omega)).trans h.bc⟩
theorem ZC.acells (h : ZC w w' A n cap P c B R V) : w'.cell? ⟨w.heap.size, 0, none⟩ = some (.slice A n cap) ∧ w'.cell? ⟨w.heap.size, 1, none⟩ = some (.int .i64 P) :=
  ⟨cell_of_row _ _ _ _ _ _ h.ba, cell_of_row _ _ _ _ _ _ h.ba⟩
theorem ZC.ccells (h : ZC w w' A n cap P c B R V) : CfgC (w.heap.size + 1) c w' := by
  refine ⟨?_, ?_, ?_, ?_, ?_, ?_, ?_, ?_, ?_, ?_, ?_, ?_⟩ <;> exact cell_of_row _ _ _ _ _ _ h.bc
theorem ZC.cell (h : ZC w w' A n cap P c B R V) (k : Nat) {v : Value} (hv : V[k]? = some v) : w'.cell? ⟨B, k, none⟩ = some v := (row_get h.z.bm k).trans hv
theorem ZC.fro (h : ZC w w' A n cap P c B R V) (k : Nat) : w'.frozen? ⟨B, k, none⟩ = false := row_fro h.z.bm k
theorem ZC.new (w : World) (A : Option Addr) (n cap : Nat) (P : Int) (c : Cfg) (V : Array Value) :
    ZC w ((((w.alloc (.cells #[.slice A n cap, .int .i64 P] 36)).alloc (.cells #[.int .i64 c.a, .int .i64 c.b, .int .i64 c.c, .int .i64 c.d, .int .i64 c.e, .int .i64 c.mr, .int .i64 c.mu, .int .i64 c.dq, .int .i64 c.ch, .int .i64 c.bf, .int .i64 c.rt, .int .i64 c.sw] 38)).alloc (.cells V 55)).alloc (.cells #[.int .i64 0, .int .u64 0, .int .u64 0, .int .i64 0, .int .i64 0, .int .i64 0, .int .i64 0, .int .i64 0, .int .i64 0, .slice none 0 0, .int .u32 0, .int .u64 0, .int .u32 0, .int .i64 0, .int .i64 0, .int .i64 0, .int .i64 0, .int .i64 0, .int .i64 0] 55)) A n cap P c (w.heap.size + 1 + 1) (w.heap.size + 1 + 1 + 1) V := by
  obtain ⟨W1, h1⟩ : ∃ W1, W1 = w.alloc (.cells #[.slice A n cap, .int .i64 P] 36) := ⟨_, rfl⟩
  have b1 : Below w.heap.size w W1 := by rw [h1]; exact below_alloc0 (Below.refl _ _) _
  have g1 : W1.heap[w.heap.size]? = some (.cells #[.slice A n cap, .int .i64 P] 36 (0, 0)) := by rw [h1]; exact Go.heap_alloc_new _ _
  have s1 : W1.heap.size = w.heap.size + 1 := by rw [h1]; simp
  rw [← h1]
  obtain ⟨W2, h2⟩ : ∃ W2, W2 = W1.alloc (.cells #[.int .i64 c.a, .int .i64 c.b, .int .i64 c.c, .int .i64 c.d, .int .i64 c.e, .int .i64 c.mr, .int .i64 c.mu, .int .i64 c.dq, .int .i64 c.ch, .int .i64 c.bf, .int .i64 c.rt, .int .i64 c.sw] 38) := ⟨_, rfl⟩
  have b2 : Below W1.heap.size W1 W2 := by rw [h2]; exact below_alloc0 (Below.refl _ _) _
  have g2 : W2.heap[w.heap.size + 1]? = some (.cells #[.int .i64 c.a, .int .i64 c.b, .int .i64 c.c, .int .i64 c.d, .int .i64 c.e, .int .i64 c.mr, .int .i64 c.mu, .int .i64 c.dq, .int .i64 c.ch, .int .i64 c.bf, .int .i64 c.rt, .int .i64 c.sw] 38 (0, 0)) := by rw [← s1, h2]; exact Go.heap_alloc_new _ _
  have s2 : W2.heap.size = w.heap.size + 1 + 1 := by rw [h2]; simp [s1]
  rw [← h2]
  have hz := ZB.two W2 V
  have hb := hz.bel
  rw [s2] at hz
  refine ⟨⟨below_step (below_step b1 (by omega) b2) (by omega) hb, ⟨by omega, by omega, by omega⟩, hz.bm, hz.br⟩, ⟨by omega, by omega⟩, ?_, ?_⟩
  · exact (hb.block _ (by omega)).trans ((b2.block _ (by omega)).trans g1)
  · exact (hb.block _ (by omega)).trans g2
end
/-- The boxes, the words' row, the machine. -/
structure ZS (Q : Nat → Prop) (w : World) (A : Option Addr) (n cap : Nat) (p : Int) (c : Cfg) (B T : Nat) (w' : World) (R : Option Addr) (L : List Int) (m : Wn) (V : Array Value) : Prop where
  z : ZC w w' A n cap p c B T V
  r : ReadsW (NotZ Q B T) w' R L
  v : ZV (NotZ Q B T) w' m V
section
variable {Q : Nat → Prop} {w w' w2 : World} {c : Cfg} {m m' : Wn} {V V' U : Array Value} {A : Option Addr} {n cap : Nat} {p : Int} {B T : Nat} {R R' : Option Addr} {L L' : List Int}
theorem ZS.step (h : ZS Q w A n cap p c B T w' R L m V) (hb : Below w'.heap.size w' w2) : ZS Q w A n cap p c B T w2 R L m V := ⟨h.z.step hb, h.r.below hb, h.v.below hb⟩
theorem ZS.row (h : ZS Q w A n cap p c B T w' R L m V) (hr : ReadsW (NotZ Q B T) w' R' L') : ZS Q w A n cap p c B T w' R' L' m V := ⟨h.z, hr, h.v⟩
theorem ZS.far (h : ZS Q w A n cap p c B T w' R L m V) (hQ : ∀ b, w.heap.size ≤ b → Q b) : ∀ b, w'.heap.size ≤ b → NotZ Q B T b := fun b hb => by
  have h1 := (Array.getElem?_eq_some_iff.1 h.z.z.bm).1
  have h2 := (Array.getElem?_eq_some_iff.1 h.z.z.br).1
  have h3 := h.z.z.bel.size
  exact ⟨hQ b (by omega), by omega, by omega⟩
theorem ZS.put (h : ZS Q w A n cap p c B T w' R L m V) (k : Nat) (x : Value) (hv : ∀ W, ZV (NotZ Q B T) W m V → ZV (NotZ Q B T) W m' (V.setIfInBounds k x)) : ZS Q w A n cap p c B T (w'.setCell ⟨B, k, none⟩ x) R L m' (V.setIfInBounds k x) :=
  ⟨h.z.put k x, h.r.inB (upd_one ..), hv _ (h.v.inB (upd_one ..))⟩
theorem ZS.pc (h : ZS Q w A n cap p c B T w' R L m V) (x : Nat) : ZS Q w A n cap p c B T (w'.setCell ⟨B, 0, none⟩ (.int .i64 x)) R L { m with pc := x } (V.setIfInBounds 0 (.int .i64 x)) := h.put 0 _ fun _ hv => hv.pc x
def evWz (w : World) (B : Nat) (k a : Int) : World := ((((w.setCell ⟨B, 14, none⟩ (.int .i64 k)).setCell ⟨B, 15, none⟩ (.int .i64 0)).setCell ⟨B, 16, none⟩ (.int .i64 a)).setCell ⟨B, 17, none⟩ (.int .i64 0)).setCell ⟨B, 18, none⟩ (.int .i64 0)
theorem evWz_upd (w : World) (B : Nat) (k a : Int) : Upd B B w (evWz w B k a) :=
  ((((upd_one w B 14 (.int .i64 k)).trans (upd_one _ B 15 (.int .i64 0))).trans (upd_one _ B 16 (.int .i64 a))).trans (upd_one _ B 17 (.int .i64 0))).trans (upd_one _ B 18 (.int .i64 0))
theorem ZC.ev (h : ZC w w' A n cap p c B T V) (k a : Int) : ZC w (evWz w' B k a) A n cap p c B T (evRow V k a) := ((((h.put 14 _).put 15 _).put 16 _).put 17 _).put 18 _
theorem ZS.ev (h : ZS Q w A n cap p c B T w' R L m V) (k a : Int) : ZS Q w A n cap p c B T (evWz w' B k a) R L { m with ek := k, ea := a } (evRow V k a) :=
  ⟨h.z.ev k a, h.r.inB (evWz_upd ..), (h.v.inB (evWz_upd ..)).ev k a⟩
theorem ZS.all (h : ZS Q w A n cap p c B T w' R L m V) (hv : ZV (NotZ Q B T) w' m' U) : ZS Q w A n cap p c B T (w'.setCells B 0 U.toList) R L m' U := by
  have hs : V.size = U.size := h.v.size.trans hv.size.symm
  have u := (row_all (U := U) h.z.z.bm hs).2
  exact ⟨h.z.set hs.symm, h.r.inB u, hv.inB u⟩
theorem ZS.outV (h : ZS Q w A n cap p c B T w' R L m V) (hv : ZV (NotZ Q B T) w' m' U) : (loadVar 55 ⟨T, 0, none⟩).run Tryz.prog (w'.setCells T 0 U.toList) = .ok (.agg U) (w'.setCells T 0 U.toList) ∧ ReadsW Q (w'.setCells T 0 U.toList) R L ∧ ZV Q (w'.setCells T 0 U.toList) m' U ∧ Below w.heap.size w (w'.setCells T 0 U.toList) := by
  have hs : V.size = U.size := h.v.size.trans hv.size.symm
  obtain ⟨g, u⟩ := row_all (U := U) h.z.z.br (by rw [hv.size]; rfl)
  have lo := h.z.z.b
  exact ⟨loadZ g hv.size, h.r.inT u, hv.inT u, below_uf h.z.z.bel (Nat.le_refl _) (UF.of_upd u) (fun k e => by rcases e with rfl | rfl <;> omega)⟩
theorem ZS.out (h : ZS Q w A n cap p c B T w' R L m V) : (loadVar 55 ⟨T, 0, none⟩).run Tryz.prog (w'.setCells T 0 V.toList) = .ok (.agg V) (w'.setCells T 0 V.toList) ∧ ReadsW Q (w'.setCells T 0 V.toList) R L ∧ ZV Q (w'.setCells T 0 V.toList) m V ∧ Below w.heap.size w (w'.setCells T 0 V.toList) := h.outV h.v
theorem ZS.evc (h : ZS Q w A n cap p c B T w' R L m V) : w'.cell? ⟨B, 14, none⟩ = some (.int .i64 m.ek) ∧ w'.cell? ⟨B, 15, none⟩ = some (.int .i64 0) ∧ w'.cell? ⟨B, 16, none⟩ = some (.int .i64 m.ea) ∧ w'.cell? ⟨B, 17, none⟩ = some (.int .i64 0) ∧ w'.cell? ⟨B, 18, none⟩ = some (.int .i64 0) := ⟨h.z.cell 14 h.v.e0, h.z.cell 15 h.v.e1, h.z.cell 16 h.v.e2, h.z.cell 17 h.v.e3, h.z.cell 18 h.v.e4⟩
theorem ZS.begin (hz : ZC w w' A n cap p c B T V) (hr : ReadsW Q w R L) (hv : ZV Q w m V) : ZS Q w A n cap p c B T w' R L m V :=
  ⟨hz, (hr.notZ hz.z.b.1 hz.z.b.2.1).below hz.z.bel, (hv.notZ hz.z.b.1 hz.z.b.2.1).below hz.z.bel⟩
end
end Go.Proofs.YtbpkcoemehmpbaaGreat

namespace Go.Proofs.YtbpkcoemehmpbaaGreat
open Go.RowKit
set_option linter.unusedVariables false
set_option linter.unusedSimpArgs false
set_option linter.unnecessarySimpa false
set_option maxRecDepth 100000
open Lay (plcc plc shOf packN nodesN OkC Cfg Norm firstV Rep lenL things partsC roomsI)
/-- Another machine of the stack. -/
def pxRow (V : Array Value) (x : Sm) (A : Option Addr) (n cap : Nat) : Array Value := (((((((V.setIfInBounds 6 (.int .i64 x.kind)).setIfInBounds 7 (.int .i64 x.pc)).setIfInBounds 8 (.int .i64 x.k.head)).setIfInBounds 9 (.slice A n cap)).setIfInBounds 10 (.int .u32 x.item)).setIfInBounds 11 (.int .u64 x.h)).setIfInBounds 12 (.int .u32 x.link)).setIfInBounds 13 (.int .i64 x.tries)
def pxW (w : World) (B : Nat) (x : Sm) (A : Option Addr) (n cap : Nat) : World := (((((((w.setCell ⟨B, 6, none⟩ (.int .i64 x.kind)).setCell ⟨B, 7, none⟩ (.int .i64 x.pc)).setCell ⟨B, 8, none⟩ (.int .i64 x.k.head)).setCell ⟨B, 9, none⟩ (.slice A n cap)).setCell ⟨B, 10, none⟩ (.int .u32 x.item)).setCell ⟨B, 11, none⟩ (.int .u64 x.h)).setCell ⟨B, 12, none⟩ (.int .u32 x.link)).setCell ⟨B, 13, none⟩ (.int .i64 x.tries)
theorem pxW_upd (w : World) (B : Nat) (x : Sm) (A : Option Addr) (n cap : Nat) : Upd B B w (pxW w B x A n cap) :=
  (((((((upd_one w B 6 (.int .i64 x.kind)).trans (upd_one _ B 7 (.int .i64 x.pc))).trans (upd_one _ B 8 (.int .i64 x.k.head))).trans (upd_one _ B 9 (.slice A n cap))).trans (upd_one _ B 10 (.int .u32 x.item))).trans (upd_one _ B 11 (.int .u64 x.h))).trans (upd_one _ B 12 (.int .u32 x.link))).trans (upd_one _ B 13 (.int .i64 x.tries))
theorem ZV.px {Q : Nat → Prop} {w : World} {m : Wn} {V : Array Value} (h : ZV Q w m V) {x : Sm} {A : Option Addr} {n : Nat} (cap : Nat) (hn : n = x.k.links.length) (hl : n ≤ 1000000) (hr : ReadsI Q w A x.k.links) : ZV Q w { m with x := x } (pxRow V x A n cap) := by
  obtain ⟨A', n', cap', rfl, _⟩ := h.ex
  exact ⟨A, n, cap, by kernel_rfl, hn, hl, hr⟩
theorem ZS.px {Q : Nat → Prop} {w w' : World} {A : Option Addr} {n cap : Nat} {p : Int} {c : Cfg} {B T : Nat} {R : Option Addr} {L : List Int} {m : Wn} {V : Array Value} (h : ZS Q w A n cap p c B T w' R L m V) {x : Sm} {A2 : Option Addr} {n2 : Nat} (cap2 : Nat) (hn : n2 = x.k.links.length) (hl : n2 ≤ 1000000) (hr : ReadsI (NotZ Q B T) w' A2 x.k.links) :
    ZS Q w A n cap p c B T (pxW w' B x A2 n2 cap2) R L { m with x := x } (pxRow V x A2 n2 cap2) := by
  have u := pxW_upd w' B x A2 n2 cap2
  exact ⟨(((((((h.z.put 6 _).put 7 _).put 8 _).put 9 _).put 10 _).put 11 _).put 12 _).put 13 _, h.r.inB u, (h.v.inB u).px cap2 hn hl (hr.uf (UF.of_upd u) fun b hb _ => ⟨fun e => by rcases e with e | e <;> exact hb.2.1 e, hb⟩)⟩
theorem ZS.xc {Q : Nat → Prop} {w w' : World} {A : Option Addr} {n cap : Nat} {p : Int} {c : Cfg} {B T : Nat} {R : Option Addr} {L : List Int} {m : Wn} {V : Array Value} (h : ZS Q w A n cap p c B T w' R L m V) :
    ∃ (A2 : Option Addr) (n2 cap2 : Nat), (n2 = m.x.k.links.length ∧ n2 ≤ 1000000 ∧ ReadsI (NotZ Q B T) w' A2 m.x.k.links) ∧ w'.cell? ⟨B, 6, none⟩ = some (.int .i64 m.x.kind) ∧ w'.cell? ⟨B, 7, none⟩ = some (.int .i64 m.x.pc) ∧ w'.cell? ⟨B, 8, none⟩ = some (.int .i64 m.x.k.head) ∧ w'.cell? ⟨B, 9, none⟩ = some (.slice A2 n2 cap2) ∧ w'.cell? ⟨B, 10, none⟩ = some (.int .u32 m.x.item) ∧ w'.cell? ⟨B, 11, none⟩ = some (.int .u64 m.x.h) ∧ w'.cell? ⟨B, 12, none⟩ = some (.int .u32 m.x.link) ∧ w'.cell? ⟨B, 13, none⟩ = some (.int .i64 m.x.tries) := by
  obtain ⟨A2, n2, cap2, hV, hr⟩ := h.v.ex
  refine ⟨A2, n2, cap2, hr, ?_, ?_, ?_, ?_, ?_, ?_, ?_, ?_⟩
  all_goals refine h.z.cell _ ?_
  all_goals rw [hV]; rfl
theorem sstp_links (L : List Int) (x : Sm) : (sstp L x).2.k = x.k := by
  unfold sstp swapS
  repeat' (first | rfl | split)
end Go.Proofs.YtbpkcoemehmpbaaGreat
