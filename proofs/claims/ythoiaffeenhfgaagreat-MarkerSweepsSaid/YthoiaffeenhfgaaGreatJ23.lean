/-  -/
import Derived.Test.YthoiaffeenhfgaaGreatJ14
import Derived.Test.YthoiaffeenhfgaaGreatJ5
import Derived.ArgAppend
import Derived.Laws.Slices
import Derived.Test.YthoiaffeenhfgaaGreatJ19
import Derived.Test.YthoiaffeenhfgaaGreatJ10
import Derived.Test.YthoiaffeenhfgaaGreatSwN
import Derived.Test.YthoiaffeenhfgaaGreatJ2
namespace Go.Proofs.YthoiaffeenhfgaaGreat
open Go.RowKit
set_option linter.unusedVariables false
set_option linter.unusedSimpArgs false
open Lay (plcc plc shOf packN nodesN OkC Cfg Norm firstV Rep lenL things)
structure PO (B S D N : Nat) (c : Cfg) (w0 w : World) (L : List Int) (k : Int) : Prop where
  st : ∃ cc, 0 ≤ cc ∧ cc ≤ k ∧ St w S D L cc
  mp : Lay.IsMap w N c
  ok : OkC c
  ns : N ≠ S ∧ N ≠ D
  lo : B ≤ S ∧ B ≤ D ∧ B ≤ w0.heap.size
  ww : WW L
  bel : Below B w0 w
section
variable {B S D N : Nat} {c : Cfg} {w0 w w' : World} {L : List Int} {k t : Int} {X lo : Nat} {m : Pm}
theorem PO.lt (h : PO B S D N c w0 w L k) : S < w.heap.size ∧ D < w.heap.size ∧ N < w.heap.size := by
  obtain ⟨cc, _, _, hs⟩ := h.st; exact ⟨hs.ltS, hs.row.lt, h.mp.1⟩
theorem PO.step (h : PO B S D N c w0 w L k) (hb : Below w.heap.size w w') : PO B S D N c w0 w' L k := by
  obtain ⟨cc, h0, h1, hs⟩ := h.st
  exact ⟨⟨cc, h0, h1, hs.below hb⟩, h.mp.below hb, h.ok, h.ns, h.lo, h.ww, below_step h.bel (Nat.le_trans h.lo.2.2 h.bel.size) hb⟩
theorem PO.more (h : PO B S D N c w0 w L k) {k' : Int} (hk : k ≤ k') : PO B S D N c w0 w L k' := by
  obtain ⟨cc, h0, h1, hs⟩ := h.st
  exact ⟨⟨cc, h0, by omega, hs⟩, h.mp, h.ok, h.ns, h.lo, h.ww, h.bel⟩
theorem PO.uf {F : Nat → Prop} (h : PO B S D N c w0 w L k) (u : UF F w w') (f1 : ¬ F S) (f2 : ¬ F D) (f3 : ¬ F N) (fB : ∀ b, F b → B ≤ b) : PO B S D N c w0 w' L k := by
  obtain ⟨cc, h0, h1, hs⟩ := h.st
  have hl := h.lt
  exact ⟨⟨cc, h0, h1, St_same hs (u.block S hl.1 f1) (u.block D hl.2.1 f2)⟩, IsMap_same h.mp u.size (u.block N hl.2.2 f3), h.ok, h.ns, h.lo, h.ww, below_uf h.bel h.lo.2.2 u fB⟩
end
end Go.Proofs.YthoiaffeenhfgaaGreat

namespace Go.Proofs.YthoiaffeenhfgaaGreat
open Go.RowKit
set_option linter.unusedVariables false
set_option linter.unusedSimpArgs false
structure ElT (t e : TypeId) (z : Value) (by' : Nat) : Prop where
  u : Tryz.prog.underlying t = some (.slice e)
  i : (Tryz.prog.info? e).map (fun i => (i.zero, i.size, i.bytes)) = some (some z, 1, by')
  z : z.cells.size = 1
  b : by' ≤ 64
def QV (e : TypeId) (b : Nat) (w : World) (v : Value) (Q : List Value) : Prop :=
  ∃ off cap cur, v = .slice (some ⟨b, off, none⟩) Q.length cap ∧ w.heap[b]? = some (.cells cur e (0, 0)) ∧ off + cap ≤ cur.size ∧ Q.length ≤ cap ∧ cap ≤ maxLen ∧ ∀ j, j < Q.length → cur[off + j]? = some (Q.getD j undef)
def QVO (e : TypeId) (o : Option Nat) (w : World) (v : Value) (Q : List Value) : Prop :=
  match o with
  | none => v = .slice none 0 0 ∧ Q = []
  | some b => QV e b w v Q
section
variable {e t : TypeId} {b : Nat} {o : Option Nat} {w w' : World} {v : Value} {Q : List Value}
theorem QV.lt (h : QV e b w v Q) : b < w.heap.size := by obtain ⟨_, _, _, _, h, _⟩ := h; exact (Array.getElem?_eq_some_iff.1 h).1
theorem QV.same (h : QV e b w v Q) (k : w'.heap[b]? = w.heap[b]?) : QV e b w' v Q := by
  obtain ⟨off, cap, cur, h1, h2, h3⟩ := h
  exact ⟨off, cap, cur, h1, k.trans h2, h3⟩
theorem QVO.same (h : QVO e o w v Q) (k : ∀ b, o = some b → w'.heap[b]? = w.heap[b]?) : QVO e o w' v Q := by
  cases o with
  | none => exact h
  | some b => exact QV.same h (k b rfl)
theorem QVO.lt (h : QVO e o w v Q) : ∀ b, o = some b → b < w.heap.size := by
  intro b e; subst e; exact QV.lt h
theorem QVO.below (h : QVO e o w v Q) (hb : Below w.heap.size w w') : QVO e o w' v Q := h.same fun b e => hb.block b (h.lt b e)
theorem QV.cell (h : QV e b w v Q) : ∃ off cap, v = .slice (some ⟨b, off, none⟩) Q.length cap ∧ Q.length ≤ cap ∧ cap ≤ maxLen ∧ ∀ j, j < Q.length → w.cell? ⟨b, off + j, none⟩ = some (Q.getD j undef) := by
  obtain ⟨off, cap, cur, h1, h3, h4, h5, h6, h7⟩ := h
  refine ⟨off, cap, h1, h5, h6, fun j hj => ?_⟩
  simp only [World.cell?, h3]
  simpa using h7 j hj
theorem QVO.has (h : QVO e o w v Q) (hQ : 0 < Q.length) : ∃ b, o = some b ∧ QV e b w v Q := by
  cases o with
  | none => obtain ⟨_, rfl⟩ := h; simp at hQ
  | some b => exact ⟨b, rfl, h⟩
theorem qv_of_own {B n : Nat} (h : w'.ownsRow B e 1 v n Q) (hn : n = Q.length) (h0 : 0 < n) : ∃ b, B ≤ b ∧ QV e b w' v Q := by
  obtain ⟨hl, ⟨rfl, h⟩ | ⟨g, cap, cur, rfl, hg, hh, hc, hm, hs, ht⟩⟩ := h
  · omega
  · subst hn
    refine ⟨g, hg, 0, cap, cur, rfl, hh, by omega, hc, hm, fun j hj => ?_⟩
    have e : (cur.toList.take (Q.length * 1))[j]? = Q[j]? := congrArg (fun l => l[j]?) ht
    rw [List.getElem?_take, if_pos (by omega), List.getElem?_eq_getElem hj] at e
    simpa [List.getD, List.getElem?_eq_getElem hj] using e
theorem setCells_one (w : World) (b o : Nat) (v : Value) : w.setCells b o [v] = w.setCell ⟨b, o, none⟩ v := rfl
def GrewV (e : TypeId) (o : Option Nat) (w w' : World) (v' : Value) (Q : List Value) : Prop := ∃ b, (o = some b ∨ w.heap.size ≤ b) ∧ QV e b w' v' Q ∧ Upd b b w w'
theorem run_append_v {x : Nat} {z y : Value} {by' : Nat} (E : ElT t e z by') (ty : TypeId) (h : QVO e o w v Q) (hx : w.cell? ⟨x, 0, none⟩ = some y) (hy : y.oneCell' = true) (hq : Q.length ≤ 100000) :
    ∃ v' w', (Builtin.append_ #[t, t] ty #[v, .slice (some ⟨x, 0, none⟩) 1 1]).run Tryz.prog w = .ok v' w' ∧ GrewV e o w w' v' (Q ++ [y]) := by
  obtain ⟨i0, hi0, hz0, hz1, hz2⟩ := info_parts E.i
  have hby := E.b
  have hnews : ∀ (j : Nat) (u : Value), ([y] : List Value)[j]? = some u → w.cell? ((⟨x, 0, none⟩ : Addr).add j) = some u := by
    intro j u hj
    match j, hj with
    | 0, hj =>
      simp at hj
      subst hj
      rw [add_off]; exact hx
  have h1 : ∀ u ∈ ([y] : List Value), u.oneCell' = true := by
    intro u hu; rw [List.mem_singleton.1 hu]; exact hy
  have fin : ∀ v' w', w'.ownsRow w.heap.size e 1 v' (Q.length + 1) (Q ++ [y]) → w.grownBy w' none → GrewV e o w w' v' (Q ++ [y]) := by
    intro v' w' ho hg
    obtain ⟨b, hb, hqb⟩ := qv_of_own (n := Q.length + 1) (Q := Q ++ [y]) ho (by simp) (by omega)
    exact ⟨b, .inr hb, hqb, hg.os, hg.tape, hg.output, hg.size, fun k hk _ _ => hg.block k hk (by simp)⟩
  have hmul : (Q.length + 1) * by' ≤ 140737488355328 := by have := Nat.mul_le_mul (show Q.length + 1 ≤ 100001 by omega) hby; omega
  cases o with
  | none =>
    obtain ⟨rfl, rfl⟩ := h
    obtain ⟨v', w', hr, ho, hg, -⟩ := run_append_own (P := Tryz.prog) w w.heap.size t ty e i0 _ 1 by' E.u hi0 hz0 hz1 hz2 E.z (by decide) (.slice none 0 0) 0 [] (World.ownsRow_nil _ _ _ _) ⟨x, 0, none⟩ 1 1 [y] rfl hnews h1 (by unfold maxLen; omega) (by simpa using hmul) (Nat.le_refl _)
    exact ⟨v', w', hr, fin v' w' ho hg⟩
  | some b =>
    obtain ⟨off, cap, cur, rfl, hh, hoc, hqc, hcm, hcell⟩ := h
    have olds : ∀ (j : Nat) (u : Value), Q[j]? = some u → w.cell? ((⟨b, off, none⟩ : Addr).add j) = some u := by
      intro j u hj
      rcases Nat.lt_or_ge j Q.length with hj' | hj'
      · rw [add_off]
        simp only [World.cell?, hh]
        have := hcell j hj'
        rw [List.getD, hj] at this; simpa using this
      · rw [List.getElem?_eq_none hj'] at hj; cases hj
    by_cases hroom : Q.length + 1 ≤ cap
    · have hlt : off + Q.length < cur.size := by omega
      have hr := run_append_room_cells (P := Tryz.prog) w t ty e i0 E.u hi0 b off Q.length cap ⟨x, 0, none⟩ 1 1 [y] (by rw [hz1]; rfl) hnews h1 hroom (fun j hj => by
        have : j = 0 := by simp at hj; omega
        subst this
        simp only [World.cell?, hh, hz1]
        simp [hlt]) (fun j hj => frozen_of_row w b _ _ _ hh)
      rw [hz1, Nat.mul_one, setCells_one] at hr
      refine ⟨_, _, hr, b, .inl rfl, ⟨off, cap, cur.setIfInBounds (off + Q.length) y, by simp, heap_setCell_same w b _ _ e _ hh, by simpa using hoc, by simp; omega, hcm, fun j hj => ?_⟩, rfl, rfl, rfl, by simp, fun k hk h1 _ => heap_setCell_other w ⟨b, off + Q.length, none⟩ k _ h1⟩
      simp at hj
      by_cases hj2 : j = Q.length
      · subst hj2
        simp [List.getD, hlt]
      · have hj3 : j < Q.length := by omega
        rw [Array.getElem?_setIfInBounds_ne (by omega), hcell j hj3]
        simp [List.getD, List.getElem?_append_left hj3]
    · obtain ⟨v', w', hr, ho, hg⟩ := run_append_arg_grows (P := Tryz.prog) w t ty e i0 _ 1 by' E.u hi0 hz0 hz1 hz2 E.z (by decide) ⟨b, off, none⟩ Q.length cap Q (by simp) olds ⟨x, 0, none⟩ 1 1 [y] rfl hnews (by omega) (by unfold maxLen; omega) hmul
      exact ⟨v', w', hr, fin v' w' ho hg⟩
theorem append_v {x : Nat} {o' : Option Nat} {ops : Array Oper} {rest : List Oper} {o : Oper} {a : Act} {R : Exit → Act → World → Prop} (hg : o.guard = none) (s y : Operand) {z u : Value} {by' : Nat} (E : ElT t e z by')
    (ho : o.op = .call { callee := .builtin .append, args := #[s, y], argTypes := #[t, t] }) (h : QVO e o' w v Q) (hx : w.cell? ⟨x, 0, none⟩ = some u) (hu : u.oneCell' = true) (hq : Q.length ≤ 100000)
    (hs : a.eval s = v) (hy : a.eval y = .slice (some ⟨x, 0, none⟩) 1 1)
    (k : ∀ v' w', GrewV e o' w w' v' (Q ++ [u]) → wpList Tryz.prog ops R rest (a.put o.dst v') w') : wpList Tryz.prog ops R (o :: rest) a w := by
  refine wpList_plain hg fun K hK => ?_
  obtain ⟨v', w', hr, h3⟩ := run_append_v E o.type h hx hu hq
  unfold Oper.wp execOp
  simp only [ho, resolve, invoke, builtin, Sem.run_bind, Sem.run_pure, Result.andThen_ok, List.map_toArray, List.map_cons, List.map_nil, hs, hy, hr]
  exact hK _ _ (k v' w' h3)
end
end Go.Proofs.YthoiaffeenhfgaaGreat

namespace Go.Proofs.YthoiaffeenhfgaaGreat
open Go.RowKit
set_option linter.unusedVariables false
set_option linter.unusedSimpArgs false
open Lay (plcc plc shOf packN nodesN OkC Cfg Norm firstV Rep lenL things)
def ints (k : IntKind) (l : List Int) : List Value := l.map (Value.int k)
structure HS (S D N bq off : Nat) (Q : List Int) (c : Cfg) (w0 wr : World) (L : List Int) (k : Int) (v : Value) (l : List Int) : Prop where
  po : PO w0.heap.size S D N c w0 wr L k
  q : 0 < Q.length → bq < wr.heap.size ∧ bq ≠ S ∧ bq ≠ D ∧ w0.heap.size ≤ bq
  qc : ∀ j, j < Q.length → wr.cell? ⟨bq, off + j, none⟩ = some (.int .i64 (Q.getD j 0))
  o : ∃ o, QVO 39 o wr v (ints .u64 l) ∧ ∀ b, o = some b → w0.heap.size ≤ b ∧ b ≠ S ∧ b ≠ D ∧ b ≠ N ∧ (0 < Q.length → b ≠ bq)
section
variable {S D N bq off : Nat} {Q : List Int} {c : Cfg} {w0 wr w' : World} {L : List Int} {k : Int} {v : Value} {l : List Int}
end
theorem new_cell (w : World) (v : Value) (T : TypeId) : (w.alloc (.cells #[v] T)).cell? ⟨w.heap.size, 0, none⟩ = some v := by
  have h : (w.alloc (.cells #[v] T)).heap[w.heap.size]? = some (.cells #[v] T (0, 0)) := Array.getElem?_push_size
  simp only [World.cell?, h]; rfl
end Go.Proofs.YthoiaffeenhfgaaGreat

namespace Go.Proofs.YthoiaffeenhfgaaGreat
open Go.RowKit
set_option linter.unusedVariables false
set_option linter.unusedSimpArgs false
open Lay (plcc plc shOf packN nodesN OkC Cfg Norm firstV Rep lenL things)
section
variable {B S D N : Nat} {c : Cfg} {w0 w w' : World} {L : List Int} {k t : Int} {X lo : Nat} {m : Pm}
def PKX (lo : Nat) (w : World) (X S D : Nat) (c : Cfg) (N : Nat) (m : Pm) : Prop := ∃ O Dp, PKM w X O Dp c N m ∧ (∀ b, O b → lo ≤ b) ∧ ¬ Dp S ∧ ¬ Dp D
theorem PKX.of_new {E : Nat → Prop} {e : Ending} (h : PO B S D N c w0 w L k) (hn : NewP w c N E m e w') (e1 : ¬ E S) (e2 : ¬ E D) : ∃ X, e = .returned (ptr X) ∧ PKX w.heap.size w' X S D c N m ∧ PO B S D N c w0 w' L k ∧ Below w.heap.size w w' := by
  obtain ⟨X, O, Dp, rfl, hp, ho, hd, hb⟩ := hn
  have hl := h.lt
  exact ⟨X, rfl, ⟨O, Dp, hp, ho, fun d => by rcases hd S d with x | x; omega; exact e1 x, fun d => by rcases hd D d with x | x; omega; exact e2 x⟩, h.step hb, hb⟩
theorem step_po (h : PO B S D N c w0 w L k) (hx : PKX lo w X S D c N m) (hlo : S < lo ∧ D < lo ∧ N < lo ∧ B ≤ lo ∧ lo ≤ w.heap.size) (wm : PW c t m) (hk : k ≤ 800000000) (ht : t ≤ 800000000) :
    Calls Tryz.prog 60 #[ptr X, ptr S] w fun e w' => e = .returned (.bool (decide ((pstp (gOf c) L m).2.pc = 0))) ∧ PO B S D N c w0 w' (pstp (gOf c) L m).1 (k + 1) ∧ PKX lo w' X S D c N (pstp (gOf c) L m).2 ∧
      UF (fun b => b = S ∨ b = D ∨ lo ≤ b) w w' := by
  obtain ⟨cc, h0, h1, hs⟩ := h.st
  obtain ⟨O, Dp, hp, ho, hS, hD⟩ := hx
  have hl := h.lt
  have hB := h.lo
  refine (step_pk h.ok hp hs h.mp hS hD (fun hh => by have := ho N hh; omega) h.ns.1 h.ns.2 wm h.ww h0 (by omega) (by omega)).mono ?_
  rintro e w' ⟨rfl, ⟨O', D', hp', ho', hd'⟩, hs', u⟩
  have u2 : UF (fun b => b = S ∨ b = D ∨ lo ≤ b) w w' := u.mono fun b _ hb => by
    rcases hb with hb | hb | hb
    · exact .inl hb
    · exact .inr (.inl hb)
    · exact .inr (.inr (ho b hb))
  refine ⟨rfl, ⟨⟨pcost m cc, ?_, ?_, hs'⟩, IsMap_same h.mp u2.size (u2.block N hl.2.2 (by have := h.ns; omega)), h.ok, h.ns, h.lo, (wm.step h.ww).2, below_uf h.bel h.lo.2.2 u2 (fun b hb => by omega)⟩, ⟨O', D', hp', fun b hb => ?_, fun hh => ?_, fun hh => ?_⟩, u2⟩
  · unfold pcost; split <;> omega
  · unfold pcost; split <;> omega
  · rcases ho' b hb with x | x
    · exact ho b x
    · omega
  · rcases hd' S hh with x | x
    · exact hS x
    · omega
  · rcases hd' D hh with x | x
    · exact hD x
    · omega
end
attribute [local irreducible] pruns
end Go.Proofs.YthoiaffeenhfgaaGreat

namespace Go.Proofs.YthoiaffeenhfgaaGreat
open Go.RowKit
set_option linter.unusedVariables false
set_option linter.unusedSimpArgs false
set_option maxRecDepth 100000
open Lay (plcc plc nodesN OkC Cfg kindV partsC)
section
variable {w0 w w' : World} {X S D N M : Nat} {c : Cfg} {z : Swc} {L : List Int} {cc : Int}
set_option maxHeartbeats 2000000 in
theorem sstep_raw {mp : Option Addr} {f : Nat} (h : Sb w X mp z) (hnx : z.nx = fns f X) (hen : ∀ a w, (callFunc f a).run Tryz.prog w = .ok (.enter f a) w) (b : Bool) (Q : World → Prop)
    (HN : ∀ w1, Sb w1 X mp { z with ek := 0, ea := 0 } → UF (fun k => k = X) w w1 → Calls Tryz.prog f #[ptr X, ptr S] w1 fun e w' => e = .returned (.tuple #[]) ∧ Q w')
    (hQ : ∀ w', Q w' → (b = true ∧ w'.cell? ⟨X, 2, none⟩ = some .nilFunc) ∨ (b = false ∧ ∃ f', w'.cell? ⟨X, 2, none⟩ = some (fns f' X))) :
    Calls Tryz.prog 234 #[ptr X, ptr S] w fun e w' => e = .returned (.bool b) ∧ Q w' := by
  have HB := Lib.hid h
  have HNX := Lib.hid hnx
  clear hnx
  cases b
  · have HNN := Lib.hid HN; have HQ := Lib.hid hQ; clear HN hQ h
    go_enter Tryz.func234, Tryz.ntmps234
    go_upto_region 4 with (first
      | (go_at_call 235; (with_reducible refine (noneW_any _).mono ?_); rintro r w2 ⟨rfl, hb⟩; have H2 := Lib.hid (HB.out.step hb); have HS2 := Lib.hid hb; clear hb; obtain ⟨⟨e0, e1, e2⟩, e3, e4⟩ := H2.out.ev; obtain ⟨⟨g0, g1, g2⟩, g3, g4⟩ := H2.out.evf)
      | fail)
    have h3 := H2.out.pev 0 0
    obtain ⟨W, hW⟩ : ∃ W, W = evS w2 X 0 0 := ⟨_, rfl⟩
    rw [← hW] at h3
    have HU : Hid (UF (fun k => k = X) w W) := Lib.hid (by rw [hW]; exact (UF.of_below HS2.out).trans (UF.evS w2 X 0 0) (fun _ x => x) (fun _ _ x => x))
    unfold evS at hW
    rw [← hW]
    have H3 := Lib.hid h3
    clear hW h3 e0 e1 e2 e3 e4 g0 g1 g2 g3 g4
    have c2 := H3.out.c2
    rw [show Swc.nx { z with ek := 0, ea := 0 } = fns f X from HNX.out] at c2
    go_wp2_with (first
      | ((with_reducible refine (HNN.out _ H3.out HU.out).mono ?_); rintro r w1 ⟨rfl, hk⟩; have HK := Lib.hid hk; obtain ⟨f', d4⟩ : ∃ f', w1.cell? ⟨X, 2, none⟩ = some (fns f' X) := (by rcases HQ.out w1 hk with ⟨h, _⟩ | ⟨_, h⟩; cases h; exact h); clear hk)
      | fail)
    go_ret
    exact ⟨rfl, HK.out⟩
  · have HNN := Lib.hid HN; have HQ := Lib.hid hQ; clear HN hQ h
    go_enter Tryz.func234, Tryz.ntmps234
    go_upto_region 4 with (first
      | (go_at_call 235; (with_reducible refine (noneW_any _).mono ?_); rintro r w2 ⟨rfl, hb⟩; have H2 := Lib.hid (HB.out.step hb); have HS2 := Lib.hid hb; clear hb; obtain ⟨⟨e0, e1, e2⟩, e3, e4⟩ := H2.out.ev; obtain ⟨⟨g0, g1, g2⟩, g3, g4⟩ := H2.out.evf)
      | fail)
    have h3 := H2.out.pev 0 0
    obtain ⟨W, hW⟩ : ∃ W, W = evS w2 X 0 0 := ⟨_, rfl⟩
    rw [← hW] at h3
    have HU : Hid (UF (fun k => k = X) w W) := Lib.hid (by rw [hW]; exact (UF.of_below HS2.out).trans (UF.evS w2 X 0 0) (fun _ x => x) (fun _ _ x => x))
    unfold evS at hW
    rw [← hW]
    have H3 := Lib.hid h3
    clear hW h3 e0 e1 e2 e3 e4 g0 g1 g2 g3 g4
    have c2 := H3.out.c2
    rw [show Swc.nx { z with ek := 0, ea := 0 } = fns f X from HNX.out] at c2
    go_wp2_with (first
      | ((with_reducible refine (HNN.out _ H3.out HU.out).mono ?_); rintro r w1 ⟨rfl, hk⟩; have HK := Lib.hid hk; have d4 : w1.cell? ⟨X, 2, none⟩ = some .nilFunc := (by rcases HQ.out w1 hk with ⟨_, h⟩ | ⟨h, _⟩; exact h; cases h); clear hk)
      | fail)
    go_ret
    exact ⟨rfl, HK.out⟩
set_option maxHeartbeats 2000000 in
theorem sstep_off {mp : Option Addr} (v : Value) (h : Sb w X mp z) (hnx : z.nx = .nilFunc) :
    Calls Tryz.prog 234 #[ptr X, v] w fun e w' => e = .returned (.bool true) ∧ Sb w' X mp { z with ek := 0, ea := 0 } ∧ UF (fun k => k = X) w w' := by
  have HB := Lib.hid h
  have HNX := Lib.hid hnx
  clear hnx h
  go_enter Tryz.func234, Tryz.ntmps234
  go_upto_region 4 with (first
    | (go_at_call 235; (with_reducible refine (noneW_any _).mono ?_); rintro r w2 ⟨rfl, hb⟩; have H2 := Lib.hid (HB.out.step hb); have HS2 := Lib.hid hb; clear hb; obtain ⟨⟨e0, e1, e2⟩, e3, e4⟩ := H2.out.ev; obtain ⟨⟨g0, g1, g2⟩, g3, g4⟩ := H2.out.evf)
    | fail)
  have h3 := H2.out.pev 0 0
  obtain ⟨W, hW⟩ : ∃ W, W = evS w2 X 0 0 := ⟨_, rfl⟩
  rw [← hW] at h3
  have HU : Hid (UF (fun k => k = X) w W) := Lib.hid (by rw [hW]; exact (UF.of_below HS2.out).trans (UF.evS w2 X 0 0) (fun _ x => x) (fun _ _ x => x))
  unfold evS at hW
  rw [← hW]
  have H3 := Lib.hid h3
  clear hW h3 e0 e1 e2 e3 e4 g0 g1 g2 g3 g4
  have c2 := H3.out.c2
  rw [show Swc.nx { z with ek := 0, ea := 0 } = .nilFunc from HNX.out] at c2
  go_wp2_with (fail)
  go_ret
  exact ⟨rfl, H3.out, HU.out⟩
abbrev sc0 (cy : Int) (nx : Value) : Swc := ⟨cy, nx, 0, -1, 0, 0, none, 0, 0⟩
set_option maxHeartbeats 2000000 in
theorem newS_map (mN : Nat) (cy : Int) (w : World) :
    Calls Tryz.prog 100 #[.pointer (some ⟨mN, 0, none⟩), .int .u64 cy] w fun e w' => ∃ X, e = .returned (ptr X) ∧ w.heap.size ≤ X ∧ Sb w' X (some ⟨mN, 0, none⟩) (sc0 cy (fns 114 X)) ∧ Below w.heap.size w w' := by
  have hmf : ∀ (fn : Fn) (first cap : Array Value) (w : World), (Instr.makeFunc fn first cap).run Tryz.prog w = .ok (.func fn first cap) w := fun _ _ _ _ => rfl
  go_enter Tryz.func100, Tryz.ntmps100
  go_wp2
  go_ret
  exact ⟨w.heap.size, rfl, Nat.le_refl _, Go.heap_alloc_new _ _, below_alloc0 (Below.refl _ _) _⟩
end
def nxW (X : Nat) : Nat → Value
  | 1 => fns 114 X
  | 2 => fns 128 X
  | 3 => fns 164 X
  | 4 => fns 181 X
  | 5 => fns 193 X
  | 6 => fns 203 X
  | 7 => fns 165 X
  | _ => .nilFunc
abbrev swOf (m : Wn) (nx : Value) (pp : Option Addr) : Swc := ⟨m.cy, nx, m.w, m.part, m.v, m.last, pp, m.ek, m.ea⟩
def WKM (w : World) (X : Nat) (O Dp : Nat → Prop) (N : Nat) (m : Wn) : Prop :=
  X ≠ N ∧ O X ∧ (∀ k, O k → Dp k) ∧ (∀ k, Dp k → k < w.heap.size) ∧ m.pc ≤ 7 ∧ ∃ pp, Sb w X (some ⟨N, 0, none⟩) (swOf m (nxW X m.pc) pp) ∧
    (m.pc = 6 → ∃ M, pp = some ⟨M, 0, none⟩ ∧ MM w M (lvN N) m.x ∧ O M ∧ M ≠ X ∧ M ≠ N)
section
variable {w w' : World} {X N : Nat} {O Dp : Nat → Prop} {m : Wn}
theorem WKM.ins (h : WKM w X O Dp N m) : O X ∧ (∀ k, O k → Dp k) ∧ ∀ k, Dp k → k < w.heap.size := ⟨h.2.1, h.2.2.1, h.2.2.2.1⟩
theorem WKM.lt (h : WKM w X O Dp N m) : X < w.heap.size := h.ins.2.2 X (h.ins.2.1 X h.ins.1)
theorem WKM.keep (h : WKM w X O Dp N m) (hs : w.heap.size ≤ w'.heap.size) (hb : ∀ k, Dp k → w'.heap[k]? = w.heap[k]?) : WKM w' X O Dp N m := by
  obtain ⟨h1, h2, h3, h4, hp, pp, h5, h6⟩ := h
  refine ⟨h1, h2, h3, fun k hk => Nat.lt_of_lt_of_le (h4 k hk) hs, hp, pp, h5.same (hb X (h3 X h2)), fun e => ?_⟩
  obtain ⟨M, a, b, d, f, g⟩ := h6 e
  exact ⟨M, a, (hb M (h3 M d)).trans b, d, f, g⟩
theorem nxW_cases (X : Nat) {p : Nat} (h : p ≤ 7) : (p = 0 ∧ nxW X p = .nilFunc) ∨ (p ≠ 0 ∧ ∃ f, nxW X p = fns f X) := by
  have : p = 0 ∨ p = 1 ∨ p = 2 ∨ p = 3 ∨ p = 4 ∨ p = 5 ∨ p = 6 ∨ p = 7 := by omega
  rcases this with rfl | rfl | rfl | rfl | rfl | rfl | rfl | rfl
  · exact .inl ⟨rfl, rfl⟩
  all_goals exact .inr ⟨by simp, _, rfl⟩
theorem WKM.nx (h : WKM w X O Dp N m) : (decide (m.pc = 0) = true ∧ w.cell? ⟨X, 2, none⟩ = some .nilFunc) ∨ (decide (m.pc = 0) = false ∧ ∃ f, w.cell? ⟨X, 2, none⟩ = some (fns f X)) := by
  obtain ⟨h1, h2, h3, h4, hp, pp, h5, h6⟩ := h
  have c2 := h5.c2
  rcases nxW_cases X hp with ⟨a, b⟩ | ⟨a, f, b⟩
  · exact .inl ⟨by simpa using a, by rw [c2]; exact congrArg some b⟩
  · exact .inr ⟨by simpa using a, f, by rw [c2]; exact congrArg some b⟩
theorem WKM.event (h : WKM w X O Dp N m) : Calls Tryz.prog 233 #[ptr X] w fun a w' => a = .returned (evA m.ek m.ea) ∧ Below w.heap.size w w' := by
  obtain ⟨h1, h2, h3, h4, hp, pp, h5, h6⟩ := h
  exact eventW_any h5
end
structure WKW (c : Cfg) (t : Int) (m : Wn) : Prop where
  cy : 0 ≤ m.cy ∧ m.cy ≤ 18446744073709551615
  w : 0 ≤ m.w ∧ m.w ≤ 18446744073709551615
  pc : m.pc ≤ 7
  p2 : m.pc = 2 → low m.w < partsC c
  v : 3 ≤ m.pc → m.pc ≤ 6 → 1 ≤ m.v ∧ m.v ≤ m.last
  la : m.last ≤ nodesN c
  x : m.pc = 6 → Wm t m.x ∧ m.x.pc ≠ 0 ∧ m.x.k.links = nxtL c
  t0 : 0 ≤ t
theorem WKW.mono {c : Cfg} {t u : Int} {m : Wn} (h : WKW c t m) (k : t ≤ u) : WKW c u m := ⟨h.cy, h.w, h.pc, h.p2, h.v, h.la, fun e => ⟨(h.x e).1.mono k, (h.x e).2⟩, by have := h.t0; omega⟩
theorem parts_is {c : Cfg} (hc : OkC c) : (wOf c).parts = partsC c := by
  have h0 := (Lay.bds hc).n0; have h1 := hc.w0
  unfold Wg.parts partsC Lay.piecesOf
  rw [if_neg (by omega)]
  rfl
theorem wwin {L : List Int} (h : WW L) (a : Int) : 0 ≤ ldq L a ∧ ldq L a ≤ 18446744073709551615 := h.ldq a
theorem WKW.go {c : Cfg} {t : Int} {m m0 : Wn} {v : Int} (h : WKW c t m) (h1 : 1 ≤ v) (e1 : m0.cy = m.cy) (e2 : m0.w = m.w) (e3 : m0.last ≤ nodesN c) : WKW c t (wgo m0 v) := by
  have hpc : (wgo m0 v).pc = if v ≤ m0.last then 3 else 7 := rfl
  refine ⟨by show 0 ≤ m0.cy ∧ m0.cy ≤ _; rw [e1]; exact h.cy, by show 0 ≤ m0.w ∧ m0.w ≤ _; rw [e2]; exact h.w, by rw [hpc]; split <;> omega, fun e => ?_, fun a b => ?_, e3, fun e => ?_, h.t0⟩
  · rw [hpc] at e; split at e <;> omega
  · rw [hpc] at a b
    by_cases x : v ≤ m0.last
    · exact ⟨h1, x⟩
    · rw [if_neg x] at b; omega
  · rw [hpc] at e; split at e <;> omega
theorem part_last {c : Cfg} (hc : OkC c) (j : Int) : wmin ((j + 1) * c.sw) (nodesN c) ≤ nodesN c := by unfold wmin; split <;> omega
theorem WKW.step {c : Cfg} {t : Int} {m : Wn} {L : List Int} (hc : OkC c) (h : WKW c t m) (ww : WW L) : WKW c (t + 1) (wstp (wOf c) L m).2 ∧ WW (wstp (wOf c) L m).1 := by
  have hm := h.mono (u := t + 1) (by omega)
  have hpc := h.pc
  have hn0 := (Lay.bds hc).n0; have hn1 := (Lay.bds hc).n1
  have hp : m.pc = 0 ∨ m.pc = 1 ∨ m.pc = 2 ∨ m.pc = 3 ∨ m.pc = 4 ∨ m.pc = 5 ∨ m.pc = 6 ∨ m.pc = 7 := by omega
  have hq : ∀ p : Nat, p ≠ 2 → (3 ≤ p → p ≤ 5 ∧ 1 ≤ m.v ∧ m.v ≤ m.last) → p ≤ 7 → ∀ W : Int, 0 ≤ W ∧ W ≤ 18446744073709551615 → WKW c (t + 1) { wq m with pc := p, w := W } := fun p h2 h3 h7 W hW =>
    ⟨hm.cy, hW, h7, fun e => absurd e h2, fun a b => (h3 a).2, hm.la, fun e => by have := h3 (by show 3 ≤ p; have : p = 6 := e; omega); have : p = 6 := e; omega, hm.t0⟩
  rcases hp with p | p | p | p | p | p | p | p
  · have e : wstp (wOf c) L m = (L, wq m) := by simp [wstp, p]
    rw [e]
    exact ⟨⟨hm.cy, hm.w, hm.pc, hm.p2, hm.v, hm.la, hm.x, hm.t0⟩, ww⟩
  · have e : wstp (wOf c) L m = (L, { wq m with w := ldq L (wOf c).sw, pc := if hiw (ldq L (wOf c).sw) = m.cy % 4294967296 ∧ low (ldq L (wOf c).sw) < (wOf c).parts then 2 else 0 }) := by simp [wstp, p]
    rw [e]
    refine ⟨?_, ww⟩
    refine ⟨hm.cy, wwin ww _, by show (if _ then 2 else 0) ≤ 7; split <;> omega, fun e2 => ?_, fun a _ => ?_, hm.la, fun e2 => ?_, hm.t0⟩
    · have e2 : (if hiw (ldq L (wOf c).sw) = m.cy % 4294967296 ∧ low (ldq L (wOf c).sw) < (wOf c).parts then 2 else 0) = 2 := e2
      split at e2
      · rename_i x; rw [← parts_is hc]; exact x.2
      · omega
    · have a : 3 ≤ (if hiw (ldq L (wOf c).sw) = m.cy % 4294967296 ∧ low (ldq L (wOf c).sw) < (wOf c).parts then 2 else 0) := a
      split at a <;> omega
    · have e2 : (if hiw (ldq L (wOf c).sw) = m.cy % 4294967296 ∧ low (ldq L (wOf c).sw) < (wOf c).parts then 2 else 0) = 6 := e2
      split at e2 <;> omega
  · have hl := h.p2 p
    have hb := (Lay.parts_bd' hc).2.1
    have hw := h.w
    have l0 : 0 ≤ low m.w := by unfold low; omega
    by_cases hx : (0 ≤ (wOf c).sw ∧ (wOf c).sw < L.length) ∧ L.getD (wOf c).sw.toNat 0 = m.w
    · have e : wstp (wOf c) L m = (ptq L (wOf c).sw (m.w + 1), wgo { wq m with part := low m.w, last := wmin ((low m.w + 1) * (wOf c).per) (wOf c).n } (low m.w * (wOf c).per + 1)) := by unfold wstp; rw [if_neg (by omega), if_pos p, if_pos hx]
      rw [e]
      refine ⟨hm.go ?_ rfl rfl (part_last hc _), ww.put _ ?_⟩
      · have : 0 ≤ low m.w * c.sw := Int.mul_nonneg l0 (by have := hc.w0; omega)
        show 1 ≤ low m.w * c.sw + 1
        omega
      · unfold low at hl l0; omega
    · have e : wstp (wOf c) L m = (L, { wq m with pc := 0 }) := by unfold wstp; rw [if_neg (by omega), if_pos p, if_neg hx]
      rw [e]
      exact ⟨hq 0 (by omega) (by omega) (by omega) m.w h.w, ww⟩
  · have e : wstp (wOf c) L m = (L, if ldq L ((wOf c).st m.v) = 1 then { wq m with pc := 4 } else wgo (wq m) (m.v + 1)) := by simp [wstp, p]
    have hv := h.v (by omega) (by omega)
    rw [e]
    refine ⟨?_, ww⟩
    by_cases hx : ldq L ((wOf c).st m.v) = 1
    · simp only [if_pos hx]; exact hq 4 (by omega) (fun _ => ⟨by omega, hv⟩) (by omega) m.w h.w
    · simp only [if_neg hx]; exact hm.go (by omega) rfl rfl h.la
  · have e : wstp (wOf c) L m = (L, if ldq L ((wOf c).ma m.v) < m.cy then { wq m with pc := 5 } else wgo (wq m) (m.v + 1)) := by simp [wstp, p]
    have hv := h.v (by omega) (by omega)
    rw [e]
    refine ⟨?_, ww⟩
    by_cases hx : ldq L ((wOf c).ma m.v) < m.cy
    · simp only [if_pos hx]; exact hq 5 (by omega) (fun _ => ⟨by omega, hv⟩) (by omega) m.w h.w
    · simp only [if_neg hx]; exact hm.go (by omega) rfl rfl h.la
  · have e : wstp (wOf c) L m = (ptq L ((wOf c).st m.v) 0, { m with ek := 5, ea := m.v, x := mPush ((wOf c).hk ((wOf c).cl m.v)) m.v, pc := 6 }) := by simp [wstp, p]
    have hv := h.v (by omega) (by omega)
    rw [e]
    exact ⟨⟨hm.cy, hm.w, by simp, by simp, fun _ _ => hv, hm.la, fun _ => ⟨(wm_push _ _).mono (by have := h.t0; omega), by simp [mPush], rfl⟩, hm.t0⟩, ww.put _ (by omega)⟩
  · have hv := h.v (by omega) (by omega)
    obtain ⟨hx1, hx2, hx3⟩ := h.x p
    have e : wstp (wOf c) L m = ((sstp L m.x).1, if (sstp L m.x).2.pc = 0 then wgo { wq m with x := (sstp L m.x).2 } (m.v + 1) else { wq m with x := (sstp L m.x).2 }) := by simp [wstp, p]
    rw [e]
    refine ⟨?_, ww.step hx1⟩
    by_cases hz : (sstp L m.x).2.pc = 0
    · simp only [if_pos hz]; exact hm.go (by omega) rfl rfl h.la
    · simp only [if_neg hz]
      exact ⟨hm.cy, hm.w, hm.pc, fun e => by have e : m.pc = 2 := e; omega, fun _ _ => hv, hm.la, fun _ => ⟨hx1.step ww, hz, by show (sstp L m.x).2.k.links = _; rw [sstp_k]; exact hx3⟩, hm.t0⟩
  · have e : wstp (wOf c) L m = (ptq L (wOf c).dn ((ldq L (wOf c).dn + 1) % 18446744073709551616), { m with ek := 6, ea := m.part, pc := 0 }) := by simp [wstp, p]
    rw [e]
    exact ⟨⟨hm.cy, hm.w, by simp, by simp, fun a => by simp at a, hm.la, fun e => by simp at e, hm.t0⟩, ww.put _ (by omega)⟩
end Go.Proofs.YthoiaffeenhfgaaGreat
