/- Packets one at a time: what stands in memory. -/
import Derived.Test.YtbpfkhpnfkbacaaJ22
import Derived.Test.YtbpfkhpnfkbacaaJ5
namespace Go.Proofs.Ytbpfkhpnfkbacaa
open Go.RowKit
set_option linter.unusedVariables false
set_option linter.unusedSimpArgs false
open Lay (plcc plc shOf packN nodesN OkC Cfg Norm firstV Rep lenL things)

theorem elI : ElT 55 3 (.int .i64 0) 8 := ⟨Try.underlying55, by kernel_rfl, rfl, by decide⟩
theorem elR : ElT 54 25 (.slice none 0 0) 24 := ⟨Try.underlying54, by kernel_rfl, rfl, by decide⟩
/-- A list of tasks: its block, and what it has. -/
abbrev Rw := Nat × List Int
def rowV (x : Rw) : Value := .slice (some ⟨x.1, 0, none⟩) x.2.length 4
/-- Is a block apart from these? -/
def Ap4 (B S D N b : Nat) : Prop := B ≤ b ∧ b ≠ S ∧ b ≠ D ∧ b ≠ N
structure AS (B S D N : Nat) (c : Cfg) (w0 wr : World) (L : List Int) (k : Int) (o1 o2 : Option Nat) (vl vo : Value) (rows : List Rw) (out : List Int) : Prop where
  po : PO B S D N c w0 wr L k
  l : QVO 25 o1 wr vl (rows.map rowV)
  o : QVO 3 o2 wr vo (ints .i64 out)
  a1 : ∀ b, o1 = some b → Ap4 B S D N b ∧ o2 ≠ some b
  a2 : ∀ b, o2 = some b → Ap4 B S D N b
  r : ∀ x ∈ rows, Ap4 B S D N x.1 ∧ o1 ≠ some x.1 ∧ o2 ≠ some x.1 ∧ x.1 < wr.heap.size ∧ ∀ j, j < x.2.length → wr.cell? ⟨x.1, j, none⟩ = some (.int .u64 (x.2.getD j 0))
section
variable {B S D N : Nat} {c : Cfg} {w0 wr w' : World} {L L' : List Int} {k k' : Int} {o1 o2 : Option Nat} {vl vo : Value} {rows : List Rw} {out : List Int}
theorem AS.uf {F : Nat → Prop} (h : AS B S D N c w0 wr L k o1 o2 vl vo rows out) (po : PO B S D N c w0 w' L' k') (u : UF F wr w') (hF : ∀ b, b < wr.heap.size → F b → b = S ∨ b = D) : AS B S D N c w0 w' L' k' o1 o2 vl vo rows out := by
  have bl : ∀ b, b < wr.heap.size → Ap4 B S D N b → w'.heap[b]? = wr.heap[b]? := fun b hb ha => u.block b hb (fun f => by have := hF b hb f; have := ha.2; omega)
  refine ⟨po, h.l.same fun b e => bl b (h.l.lt b e) (h.a1 b e).1, h.o.same fun b e => bl b (h.o.lt b e) (h.a2 b e), h.a1, h.a2, fun x hx => ?_⟩
  obtain ⟨r1, r2, r3, r4, r5⟩ := h.r x hx
  exact ⟨r1, r2, r3, Nat.lt_of_lt_of_le r4 u.size, fun j hj => (World.cell?_of_block (w := wr) (a := ⟨x.1, j, none⟩) (bl x.1 r4 r1)).trans (r5 j hj)⟩
theorem AS.step (h : AS B S D N c w0 wr L k o1 o2 vl vo rows out) (hb : Below wr.heap.size wr w') : AS B S D N c w0 w' L k o1 o2 vl vo rows out :=
  h.uf (F := fun _ => False) (h.po.step hb) (.of_below hb) (fun _ _ f => f.elim)
theorem AS.more (h : AS B S D N c w0 wr L k o1 o2 vl vo rows out) (hk : k ≤ k') : AS B S D N c w0 wr L k' o1 o2 vl vo rows out := ⟨h.po.more hk, h.l, h.o, h.a1, h.a2, h.r⟩
theorem AS.llen (h : AS B S D N c w0 wr L k o1 o2 vl vo rows out) : ∃ A cap, vl = .slice A rows.length cap := by
  obtain ⟨A, cap, e⟩ := h.l.len; exact ⟨A, cap, by rw [e, List.length_map]⟩
theorem AS.olen (h : AS B S D N c w0 wr L k o1 o2 vl vo rows out) : ∃ A cap, vo = .slice A out.length cap := by
  obtain ⟨A, cap, e⟩ := h.o.len; exact ⟨A, cap, by rw [e]; unfold ints; rw [List.length_map]⟩
theorem ap_new (h : PO B S D N c w0 wr L k) {b : Nat} (hb : wr.heap.size ≤ b) : Ap4 B S D N b := by
  have := h.lt; have := h.lo; have := h.bel.size
  exact ⟨by omega, by omega, by omega, by omega⟩
/-- Another block of its own changes. -/
theorem PO.upd {b : Nat} (h : PO B S D N c w0 wr L k) (u : Upd b b wr w') (ha : Ap4 B S D N b) : PO B S D N c w0 w' L k :=
  h.uf (F := fun x => x = b) ⟨u.os, u.tape, u.output, u.size, fun x hx hn => u.block x hx hn hn⟩ (fun e => ha.2.1 e.symm) (fun e => ha.2.2.1 e.symm) (fun e => ha.2.2.2 e.symm) (fun x e => e ▸ ha.1)
/-- A list of tasks comes behind. -/
theorem AS.pushRow {v' : Value} {bt : Nat} {ts : List Int} (h : AS B S D N c w0 wr L k o1 o2 vl vo rows out) (g : GrewV 25 o1 wr w' v' (rows.map rowV ++ [rowV (bt, ts)])) (ht : Ap4 B S D N bt ∧ o1 ≠ some bt ∧ o2 ≠ some bt ∧ bt < wr.heap.size ∧ ∀ j, j < ts.length → wr.cell? ⟨bt, j, none⟩ = some (.int .u64 (ts.getD j 0))) :
    ∃ o1', AS B S D N c w0 w' L k o1' o2 v' vo (rows ++ [(bt, ts)]) out := by
  obtain ⟨b, hb, hq, u⟩ := g
  have ha : Ap4 B S D N b ∧ o2 ≠ some b := by
    rcases hb with hb | hb
    · exact h.a1 b hb
    · exact ⟨ap_new h.po hb, fun e => by have := h.o.lt b e; omega⟩
  have hbr : ∀ x : Rw, x.1 < wr.heap.size → o1 ≠ some x.1 → x.1 ≠ b := fun x hx hn e => by
    rcases hb with hb | hb
    · exact hn (by rw [hb, e])
    · omega
  have keep : ∀ x : Rw, x.1 < wr.heap.size → x.1 ≠ b → (∀ j, j < x.2.length → wr.cell? ⟨x.1, j, none⟩ = some (.int .u64 (x.2.getD j 0))) → ∀ j, j < x.2.length → w'.cell? ⟨x.1, j, none⟩ = some (.int .u64 (x.2.getD j 0)) := fun x hx hn hc j hj =>
    (World.cell?_of_block (w := wr) (a := ⟨x.1, j, none⟩) (u.block x.1 hx hn hn)).trans (hc j hj)
  refine ⟨some b, h.po.upd u ha.1, ?_, h.o.same fun x e => u.block x (h.o.lt x e) (fun e2 => ha.2 (e2 ▸ e)) (fun e2 => ha.2 (e2 ▸ e)), fun x e => by cases e; exact ha, h.a2, fun x hx => ?_⟩
  · show QV _ b w' v' _
    rw [List.map_append]; exact hq
  · rcases List.mem_append.1 hx with hx | hx
    · obtain ⟨r1, r2, r3, r4, r5⟩ := h.r x hx
      have hn := hbr x r4 r2
      exact ⟨r1, fun e => hn (by cases e; rfl), r3, Nat.lt_of_lt_of_le r4 u.size, keep x r4 hn r5⟩
    · obtain rfl : x = (bt, ts) := by simpa using hx
      obtain ⟨r1, r2, r3, r4, r5⟩ := ht
      have hn := hbr (bt, ts) r4 r2
      exact ⟨r1, fun e => hn (by cases e; rfl), r3, Nat.lt_of_lt_of_le r4 u.size, keep (bt, ts) r4 hn r5⟩
/-- The last list of tasks. -/
theorem AS.lastRow (h : AS B S D N c w0 wr L k o1 o2 vl vo rows out) (h0 : 0 < rows.length) : ∃ b off cap R bt ts, rows = R ++ [(bt, ts)] ∧ vl = .slice (some ⟨b, off, none⟩) (R.length + 1) cap ∧ R.length + 1 ≤ cap ∧
    ∀ w2 L2 k2 o3 v3 out2, AS B S D N c w0 w2 L2 k2 o1 o3 vl v3 rows out2 → w2.cell? ⟨b, off + R.length, none⟩ = some (rowV (bt, ts)) ∧ AS B S D N c w0 w2 L2 k2 o1 o3 (.slice (some ⟨b, off, none⟩) R.length cap) v3 R out2 := by
  obtain ⟨b, ho, hq⟩ := h.l.has (by rw [List.length_map]; exact h0)
  obtain ⟨off, cap, hv, hc1, hc2, hcell, hi, _⟩ := hq.init (by rw [List.length_map]; exact h0)
  obtain ⟨R, x, hR⟩ : ∃ R x, rows = R ++ [x] := ⟨rows.dropLast, rows.getLast (List.length_pos_iff.1 h0), (List.dropLast_concat_getLast _).symm⟩
  obtain ⟨bt, ts⟩ := x
  subst hR
  have hl : (List.map rowV (R ++ [(bt, ts)])).length = R.length + 1 := by simp
  rw [hl] at hv hc1
  refine ⟨b, off, cap, R, bt, ts, rfl, hv, hc1, fun w2 L2 k2 o3 v3 out2 h2 => ?_⟩
  obtain ⟨b', ho', hq'⟩ := h2.l.has (by rw [hl]; omega)
  obtain ⟨off', cap', hv', _, _, hcell', hi', _⟩ := hq'.init (by rw [hl]; omega)
  rw [hl] at hv' hi'
  rw [hv] at hv'
  injection hv' with e1 e2 e3
  injection e1 with e1
  injection e1 with e4 e5
  subst e3 e4 e5
  refine ⟨?_, h2.po, ?_, h2.o, h2.a1, h2.a2, fun x hx => h2.r x (by simp [hx])⟩
  · have := hcell' R.length (by rw [hl]; omega)
    rw [this]; simp [List.getD]
  · subst ho'
    show QV _ b w2 _ _
    have e : (List.map rowV (R ++ [(bt, ts)])).dropLast = R.map rowV := by simp
    rw [e] at hi'
    exact hi'
/-- A packet comes behind. -/
theorem AS.pushOut {v' : Value} {p : Int} (h : AS B S D N c w0 wr L k o1 o2 vl vo rows out) (g : GrewV 3 o2 wr w' v' (ints .i64 out ++ [.int .i64 p])) :
    ∃ o2', AS B S D N c w0 w' L k o1 o2' vl v' rows (out ++ [p]) := by
  obtain ⟨b, hb, hq, u⟩ := g
  have ha : Ap4 B S D N b ∧ o1 ≠ some b := by
    rcases hb with hb | hb
    · exact ⟨h.a2 b hb, fun e => (h.a1 b e).2 hb⟩
    · exact ⟨ap_new h.po hb, fun e => by have := h.l.lt b e; omega⟩
  have hbr : ∀ x : Rw, x.1 < wr.heap.size → o2 ≠ some x.1 → x.1 ≠ b := fun x hx hn e => by
    rcases hb with hb | hb
    · exact hn (by rw [hb, e])
    · omega
  refine ⟨some b, h.po.upd u ha.1, h.l.same fun x e => u.block x (h.l.lt x e) (fun e2 => ha.2 (e2 ▸ e)) (fun e2 => ha.2 (e2 ▸ e)), ?_, fun x e => ⟨(h.a1 x e).1, fun e2 => ha.2 (by cases e2; exact e)⟩, fun x e => by cases e; exact ha.1, fun x hx => ?_⟩
  · show QV _ b w' v' _
    unfold ints at hq ⊢
    rw [List.map_append]; exact hq
  · obtain ⟨r1, r2, r3, r4, r5⟩ := h.r x hx
    have hn := hbr x r4 r3
    exact ⟨r1, r2, fun e => hn (by cases e; rfl), Nat.lt_of_lt_of_le r4 u.size, fun j hj => (World.cell?_of_block (w := wr) (a := ⟨x.1, j, none⟩) (u.block x.1 r4 hn hn)).trans (r5 j hj)⟩
/-- The first packet. -/
theorem AS.firstOut {p : Int} {R : List Int} (h : AS B S D N c w0 wr L k o1 o2 vl vo rows (p :: R)) : ∃ b off cap, vo = .slice (some ⟨b, off, none⟩) (R.length + 1) cap ∧ R.length + 1 ≤ cap ∧ wr.cell? ⟨b, off, none⟩ = some (.int .i64 p) ∧ Ap4 B S D N b ∧ b < wr.heap.size ∧
    ∀ w2 L2 k2, AS B S D N c w0 w2 L2 k2 o1 o2 vl vo rows (p :: R) → AS B S D N c w0 w2 L2 k2 o1 o2 vl (.slice (some ⟨b, if cap = 1 then off else off + 1, none⟩) R.length (cap - 1)) rows R := by
  obtain ⟨b, ho, hq⟩ := h.o.has (by simp [ints])
  obtain ⟨off, cap, hv, hc1, hc2, hcell, _, _⟩ := hq.init (by simp [ints])
  have hl : (ints .i64 (p :: R)).length = R.length + 1 := by simp [ints]
  rw [hl] at hv hc1
  refine ⟨b, off, cap, hv, hc1, ?_, h.a2 b ho, hq.lt, fun w2 L2 k2 h2 => ?_⟩
  · have := hcell 0 (by rw [hl]; omega)
    simpa [ints] using this
  · obtain ⟨b', ho', hq'⟩ := h2.o.has (by simp [ints])
    obtain ⟨off', cap', hv', _, _, _, _, ht⟩ := hq'.init (by simp [ints])
    rw [hl] at hv' ht
    rw [hv] at hv'
    injection hv' with e1 e2 e3
    injection e1 with e1
    injection e1 with e4 e5
    subst e3 e4 e5
    refine ⟨h2.po, h2.l, ?_, h2.a1, h2.a2, h2.r⟩
    subst ho'
    show QV _ b w2 _ _
    have e : (ints .i64 (p :: R)).tail = ints .i64 R := rfl
    rw [e] at ht
    exact ht
theorem PA.later {n : Nat} {g : Pg} {L : List Int} {i j : Int} {l : List (List Int)} {out : List Int} (h : PA n g L i l out) (hij : i ≤ j) : PA n g L j l out := by
  obtain ⟨Ts, Qs, Tp, Qp, G, Hs, Hp, t1, t2, p1, hct⟩ := h
  exact ⟨Ts, Qs, Tp, Qp, G, Hs, Hp, by omega, by omega, p1, hct⟩
theorem AS.load (h : AS B S D N c w0 wr L k o1 o2 vl vo rows out) (a : Int) (hk : k ≤ 900000000) : Calls Try.prog 24 #[ptr S, .int .i64 a] wr fun e w' => e = .returned (.int .u64 (ldq L a)) ∧ AS B S D N c w0 w' L (k + 1) o1 o2 vl vo rows out :=
  (load_po h.po a hk).mono fun _ _ ⟨h1, h2, h3⟩ => ⟨h1, h.uf h2 h3 (fun _ _ x => x)⟩
theorem AS.cellOut {b off n cap : Nat} {p : Int} {R : List Int} (h : AS B S D N c w0 wr L k o1 o2 vl (.slice (some ⟨b, off, none⟩) n cap) rows (p :: R)) (_ : n = n) : wr.cell? ⟨b, off, none⟩ = some (.int .i64 p) := by
  obtain ⟨b', off', cap', hv, _, hc, _⟩ := h.firstOut
  injection hv with e1 e2 e3
  injection e1 with e1
  injection e1 with e4 e5
  subst e4 e5
  exact hc
end
end Go.Proofs.Ytbpfkhpnfkbacaa
