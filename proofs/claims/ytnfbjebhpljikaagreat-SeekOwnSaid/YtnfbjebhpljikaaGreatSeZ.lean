/- Tasks that are found alone: the store, the deque and the pool, machine by machine; walked. -/
import Derived.Test.YtnfbjebhpljikaaGreatSeAw
import Derived.Test.YtnfbjebhpljikaaGreatJ21
namespace Go.Proofs.YtnfbjebhpljikaaGreat
open Go.RowKit
set_option linter.unusedVariables false
set_option linter.unusedSimpArgs false
set_option maxRecDepth 100000
open Lay (plcc plc shOf packN nodesN OkC Cfg Norm firstV Rep lenL things)

theorem ine_inq {c : Cfg} (hc : OkC c) {i : Int} (h0 : 0 ≤ i) (h1 : i < c.mr) (q : Int) (h : InE (dqn c) (eOf c i) q) : ¬ InQ (pkn c) (gOf c) q := fun h' => by
  obtain ⟨p, k, x, hk, nk, e⟩ := ine_thing hc h0 h1 h
  have no : ∀ k' a' b', Norm ⟨k', a', b'⟩ → k' ≠ 8 → k' ≠ 9 → k' ≠ 10 → q ≠ plcc c k' a' b' := fun k' a' b' n' n1 n2 n3 e' => by
    have := one_place nk n' (e ▸ p) (e.symm.trans e')
    omega
  rcases h' with h' | h' | ⟨y, _, h' | h' | ⟨j, _, _, h'⟩⟩
  · exact no 5 0 0 (nrm 5 0 0 (by omega) (by omega) (fun _ => rfl) (fun _ _ _ => rfl)) (by omega) (by omega) (by omega) h'
  · exact no 4 0 0 (nrm 4 0 0 (by omega) (by omega) (fun _ => rfl) (fun _ _ _ => rfl)) (by omega) (by omega) (by omega) h'
  · have h2 : q = atOf (lnkL c) y := h'
    rw [lnk_at hc] at h2
    exact no 12 y 0 (nrm 12 y 0 (by omega) (by omega) (fun h => by omega) (fun _ _ _ => rfl)) (by omega) (by omega) (by omega) h2
  · exact no 11 y 0 (nrm 11 y 0 (by omega) (by omega) (fun h => by omega) (fun _ _ _ => rfl)) (by omega) (by omega) (by omega) h'
  · exact no 13 y j (nrm 13 y j (by omega) (by omega) (fun h => by omega) (fun _ h _ => absurd rfl h)) (by omega) (by omega) (by omega) h'
/-- The store, one marker's deque and the pool, nobody on the way. -/
structure SZ (B S D N : Nat) (c : Cfg) (w0 w : World) (L : List Int) (k : Int) (me i : Int) (Qp : List Int) (l : List (List Int)) (out Q : List Int) : Prop where
  po : PO B S D N c w0 w L k
  sq : SQ (pkn c) (dqn c) (gOf c) (eOf c me) L i Qp l out Q
/-- A packet was taken. -/
structure SC (B S D N : Nat) (c : Cfg) (w0 w : World) (L : List Int) (k : Int) (me i : Int) (p : Int) (ts Q : List Int) : Prop where
  po : PO B S D N c w0 w L k
  sq : SQ (pkn c) (dqn c) (gOf c) (eOf c me) L i [] [] [p] Q
  ct : Cont (gOf c) L p ts
  hp : 1 ≤ p ∧ p ≤ pkn c
section
variable {B S D N X lo : Nat} {c : Cfg} {w0 w w' w1 wr : World} {L : List Int} {k me i p draw : Int} {Qp out Q ts : List Int} {l : List (List Int)}
theorem SZ.below (h : SZ B S D N c w0 w L k me i Qp l out Q) (hb : Below w.heap.size w w') : SZ B S D N c w0 w' L k me i Qp l out Q := ⟨h.po.step hb, h.sq⟩
theorem SC.below (h : SC B S D N c w0 w L k me i p ts Q) (hb : Below w.heap.size w w') : SC B S D N c w0 w' L k me i p ts Q := ⟨h.po.step hb, h.sq, h.ct, h.hp⟩
theorem SZ.first (hp : PO B S D N c w0 w L k) (hr : Rep (shOf c) L (firstV c)) (h0 : 0 ≤ me) (h1 : me < c.mr) : SZ B S D N c w0 w L k me 0 [] [] [] [] := by
  obtain ⟨Hs, Hp⟩ := stk_first hp.ok hr
  have G : Gp (pkn c) L.length (gOf c) := by rw [hr.1]; exact gp_of hp.ok
  exact ⟨hp, SQ.begin G Hs Hp (dq_first hp.ok hr h0 h1) (fun q hq => ine_inq hp.ok h0 h1 q hq)⟩
theorem PO.los (h : PO B S D N c w0 w L k) (hb : w.heap.size ≤ w1.heap.size) : S < w.heap.size ∧ D < w.heap.size ∧ N < w.heap.size ∧ B ≤ w.heap.size ∧ w.heap.size ≤ w1.heap.size :=
  ⟨h.lt.1, h.lt.2.1, h.lt.2.2, Nat.le_trans h.lo.2.2 h.bel.size, hb⟩
/-- A packet was put. -/
theorem SZ.put (h : SZ B S D N c w0 w L k me i [] [] [] []) (hi : i + 1 < 1000) (h1 : ts ≠ []) (h4 : ts.length ≤ 4) (hwd : ∀ z ∈ ts, 0 ≤ z ∧ z ≤ 18446744073709551615) (hn : 0 < pkn c) (hr : PRn B S D N c w0 w1 wr lo X L (pPut (gOf c) ts) 14 k) :
    ∃ L' m', SZ B S D N c w0 wr L' (k + 14) me (i + 1) [m'.p] [ts] [] [] ∧ PKX lo wr X S D c N m' ∧ PW c (0 + ((14 : Nat) : Int)) m' ∧ pPacket m' = m'.p ∧ (1 ≤ m'.p ∧ m'.p ≤ pkn c) := by
  obtain ⟨a, b, q⟩ := h.sq.put hi h1 h4 (by simpa using hn)
  exact ⟨_, _, ⟨hr.po, q⟩, hr.mm, (pw_runs 14 h.po.ww (pw_put c ts hwd)).2, by unfold pPacket; rw [if_neg (by rw [a]; omega)], b⟩
/-- Other machines' blocks, and the store's, change. -/
theorem PKX.uf {lo2 : Nat} {m : Pm} (h : PKX lo w X S D c N m) (u : UF (fun b => b = S ∨ b = D ∨ lo2 ≤ b) w w') (hl : w.heap.size ≤ lo2) : PKX lo w' X S D c N m := by
  obtain ⟨O, Dp, hp, ho, hS, hD⟩ := h
  refine ⟨O, Dp, hp.keep u.size (fun k hk => ?_), ho, hS, hD⟩
  have := hp.ins.2.2 k hk
  exact u.block k this (by rintro (e | e | e); exact hS (e ▸ hk); exact hD (e ▸ hk); omega)
theorem SKX.uf {lo2 : Nat} {m : Km} (h : SKX lo w X S D c N m) (u : UF (fun b => b = S ∨ b = D ∨ lo2 ≤ b) w w') (hl : w.heap.size ≤ lo2) : SKX lo w' X S D c N m := by
  obtain ⟨O, Dp, hp, ho, hS, hD⟩ := h
  refine ⟨O, Dp, hp.keep u.size (fun k hk => ?_), ho, hS, hD⟩
  have := hp.ins.2.2 k hk
  exact u.block k this (by rintro (e | e | e); exact hS (e ▸ hk); exact hD (e ▸ hk); omega)
/-- The tasks in a row that has just been made. -/
theorem reads_4 {k : Nat} (w : World) (T : TypeId) (hk : k ≤ 4) : Reads .u64 (w.alloc (.cells #[.int .u64 70, .int .u64 71, .int .u64 72, .int .u64 73] T)) (some ⟨w.heap.size, 0, none⟩) (([70, 71, 72, 73] : List Int).take k) := fun _ => by
  refine ⟨_, _, rfl, by simp, fun j hj => ?_⟩
  rw [World.cell?_alloc_at _ _ _ _ rfl]
  rw [List.length_take] at hj
  have hj' : j < k := by omega
  have e : (([70, 71, 72, 73] : List Int).take k).getD j 0 = ([70, 71, 72, 73] : List Int).getD j 0 := by simp [List.getD, List.getElem?_take, hj']
  rw [e]
  have : j = 0 ∨ j = 1 ∨ j = 2 ∨ j = 3 := by simp at hj; omega
  rcases this with rfl | rfl | rfl | rfl <;> rfl
/-- One was found in the pool. -/
theorem SZ.pool (h : SZ B S D N c w0 w L k me i [p] [ts] [] []) (hi : i + 2 < 1000) (h1 : ts ≠ []) (hr : SRn B S D N c w0 w1 wr lo X L (kNew (eOf c me) me ⟨0, 0, 0⟩ draw) 40 k) :
    ∃ L' m', SC B S D N c w0 wr L' (k + 40) me (i + 2) p ts [] ∧ SKX lo wr X S D c N m' ∧ m'.task = ts.getD 0 0 ∧ m'.found = true ∧ m'.bag = ⟨p, 1, ts.length⟩ := by
  obtain ⟨L', d, y, e, q, ct, hp⟩ := h.sq.pool (ev := eOf c) (all := c.mr) (me := me) (draw := draw) h1 hi
  obtain ⟨po, mm, u⟩ := hr
  have e' : krs c 40 L (kNew (eOf c me) me ⟨0, 0, 0⟩ draw) = _ := e
  rw [e'] at po mm
  exact ⟨_, _, ⟨po, q, ct, hp⟩, mm, rfl, rfl, rfl⟩
/-- In its deque. -/
theorem SC.own {x : Int} {b : Bg} (h : SC B S D N c w0 w L k me i p ts (Q ++ [x])) (hi : i + 1 < 1000) (hb : 0 ≤ b.t ∧ b.t ≤ 4 ∧ 0 ≤ b.n ∧ b.n ≤ 4) (hr : SRn B S D N c w0 w1 wr lo X L (kNew (eOf c me) me b draw) 40 k) :
    ∃ L' m', SC B S D N c w0 wr L' (k + 40) me (i + 1) p ts Q ∧ SKX lo wr X S D c N m' ∧ m'.task = x ∧ m'.found = true ∧ m'.bag = b := by
  obtain ⟨L', d, e, q, f⟩ := h.sq.own (ev := eOf c) (all := c.mr) (me := me) (draw := draw) (b := b) hi hb
  obtain ⟨po, mm, u⟩ := hr
  have e' : krs c 40 L (kNew (eOf c me) me b draw) = _ := e
  rw [e'] at po mm
  exact ⟨_, _, ⟨po, q, h.sq.kept h.ct h.hp f, h.hp⟩, mm, rfl, rfl, rfl⟩
/-- In its bag. -/
theorem SC.bag {a : Nat} (h : SC B S D N c w0 w L k me i p ts []) (hi : i + 1 < 1000) (ha : a < ts.length) (hr : SRn B S D N c w0 w1 wr lo X L (kNew (eOf c me) me ⟨p, a, ts.length⟩ draw) 40 k) :
    ∃ L' m', SC B S D N c w0 wr L' (k + 40) me (i + 1) p ts [] ∧ SKX lo wr X S D c N m' ∧ m'.task = ts.getD a 0 ∧ m'.found = true ∧ m'.bag = ⟨p, (a : Int) + 1, ts.length⟩ := by
  obtain ⟨L', d, e, q, f⟩ := h.sq.bag (ev := eOf c) (all := c.mr) (me := me) (draw := draw) h.ct h.hp ha hi
  obtain ⟨po, mm, u⟩ := hr
  have e' : krs c 40 L (kNew (eOf c me) me ⟨p, a, ts.length⟩ draw) = _ := e
  rw [e'] at po mm
  exact ⟨_, _, ⟨po, q, h.sq.kept h.ct h.hp f, h.hp⟩, mm, rfl, rfl, rfl⟩
/-- A machine that puts one is begun. -/
theorem SC.newA (h : SC B S D N c w0 w L k me i p ts Q) (t : Int) (hi : (Lit.int .i64 me).wf = true) (h0 : 0 ≤ me) (h1 : me < c.mr) :
    Calls Tryz.prog 19 #[Lay.mapP N, .int .i64 me, .int .u64 t] w fun e w' => ∃ X, e = .returned (ptr X) ∧ AKX w.heap.size w' X S D c N (aNew (eOf c me) t) ∧ SC B S D N c w0 w' L k me i p ts Q ∧ Below w.heap.size w w' := by
  refine (newA_yes h.po.ok N me t hi w h.po.mp h0 h1).mono ?_
  rintro e w' hn
  obtain ⟨X, rfl, hx, hp, hb⟩ := AKX.of_new h.po hn
  exact ⟨X, rfl, hx, h.below hb, hb⟩
/-- A box beside. -/
theorem B3.uf {lo2 Y : Nat} {a b d : Int} (h : B3 w Y a b d) (u : UF (fun b => b = S ∨ b = D ∨ lo2 ≤ b) w w') (n1 : Y ≠ S) (n2 : Y ≠ D) (hl : w.heap.size ≤ lo2) : B3 w' Y a b d :=
  (u.block Y h.lt (by have := h.lt; rintro (e | e | e); exact n1 e; exact n2 e; omega)).trans h
theorem B3.put {Y : Nat} {a b d : Int} (h : B3 w Y a b d) (x y z : Int) : B3 (((w.setCell ⟨Y, 0, none⟩ (.int .i64 x)).setCell ⟨Y, 1, none⟩ (.int .i64 y)).setCell ⟨Y, 2, none⟩ (.int .i64 z)) Y x y z := by
  have h1 : B3 (w.setCell ⟨Y, 0, none⟩ (.int .i64 x)) Y x b d := by unfold B3; rw [heap_setCell_same w Y 0 _ 44 _ h]; rfl
  have h2 : B3 ((w.setCell ⟨Y, 0, none⟩ (.int .i64 x)).setCell ⟨Y, 1, none⟩ (.int .i64 y)) Y x y d := by unfold B3; rw [heap_setCell_same _ Y 1 _ 44 _ h1]; rfl
  unfold B3; rw [heap_setCell_same _ Y 2 _ 44 _ h2]; rfl
/-- A box is written. -/
theorem SC.box {Y : Nat} (h : SC B S D N c w0 w L k me i p ts Q) (hY : B ≤ Y) (n1 : Y ≠ S) (n2 : Y ≠ D) (n3 : Y ≠ N) (x y z : Value) : SC B S D N c w0 (((w.setCell ⟨Y, 0, none⟩ x).setCell ⟨Y, 1, none⟩ y).setCell ⟨Y, 2, none⟩ z) L k me i p ts Q :=
  ⟨h.po.uf (uf_set3 (X := Y) x y z) (fun e => n1 e.symm) (fun e => n2 e.symm) (fun e => n3 e.symm) (fun b e => e ▸ hY), h.sq, h.ct, h.hp⟩
theorem Kb.box {Y : Nat} {i draw b0 b1 b2 t : Int} {nx dv pv : Value} {fd : Bool} (h : Kb w X N i draw b0 b1 b2 nx dv pv t fd) (hn : X ≠ Y) (x y z : Value) : Kb (((w.setCell ⟨Y, 0, none⟩ x).setCell ⟨Y, 1, none⟩ y).setCell ⟨Y, 2, none⟩ z) X N i draw b0 b1 b2 nx dv pv t fd :=
  h.same ((uf_set3 (X := Y) x y z).block X h.lt hn)
/-- One is put into its deque. -/
theorem SC.add {x : Int} (h : SC B S D N c w0 w L k me i p ts Q) (hi : i + 1 < 1000) (hf : Q.length < dqn c) (hr : ARn B S D N c w0 w1 wr lo X L (aNew (eOf c me) x) 14 k) :
    ∃ L', SC B S D N c w0 wr L' (k + 14) me (i + 1) p ts (Q ++ [x]) := by
  obtain ⟨q, f⟩ := h.sq.add hi x hf
  exact ⟨_, ⟨hr.po, q, h.sq.kept h.ct h.hp f, h.hp⟩⟩
end
/-- Numbers from one on. -/
def tsK (k : Nat) : List Int := ([70, 71, 72, 73] : List Int).take k
theorem tsK_len {k : Nat} (h : k ≤ 4) : (tsK k).length = k := by unfold tsK; rw [List.length_take]; simp; omega
theorem tsK_at {k a : Nat} (h : a < k) (h4 : k ≤ 4) : (tsK k).getD a 0 = 70 + (a : Int) := by
  have e : (tsK k).getD a 0 = ([70, 71, 72, 73] : List Int).getD a 0 := by
    unfold tsK; simp [List.getD, List.getElem?_take, h]
  rw [e]
  have : a = 0 ∨ a = 1 ∨ a = 2 ∨ a = 3 := by omega
  rcases this with rfl | rfl | rfl | rfl <;> rfl
theorem tsK_wd (k : Nat) : ∀ z ∈ tsK k, 0 ≤ z ∧ z ≤ 18446744073709551615 := fun z hz => by
  have := List.mem_of_mem_take hz
  simp at this
  rcases this with rfl | rfl | rfl | rfl <;> decide
/-- What is in the deque. -/
def own10 (j : Nat) : List Int := (List.range j).map fun (q : Nat) => (q : Int) + 10
theorem own10_suc (j : Nat) : own10 (j + 1) = own10 j ++ [(j : Int) + 10] := by unfold own10; rw [List.range_succ, List.map_append]; rfl
theorem own10_len (j : Nat) : (own10 j).length = j := by simp [own10]
end Go.Proofs.YtnfbjebhpljikaaGreat
