/- Two markers' machines: how all begins, and what is looked at in the end. -/
import Derived.Test.YtponbnbgiiepdaaGreatAdOm
import Derived.Test.YtponbnbgiiepdaaGreatAdAw
import Derived.Laws.CopyOwn
namespace Go.Proofs.YtponbnbgiiepdaaGreat
open Go.RowKit
set_option linter.unusedVariables false
set_option linter.unusedSimpArgs false
set_option maxRecDepth 100000
open Lay (plcc plc shOf packN nodesN OkC Cfg Norm firstV Rep lenL things)

theorem infoA : (Tryz.prog.info? 44).map (fun i => (i.zero, i.size, i.bytes)) = some (some (.pointer none), 1, 8) := by kernel_rfl
theorem infoJ : (Tryz.prog.info? 3).map (fun i => (i.zero, i.size, i.bytes)) = some (some (.int .i64 0), 1, 8) := by kernel_rfl
theorem made_all (x : Value) (hx : x.cells = #[x]) (n : Nat) : madeCells x.cells n = (List.replicate n x).toArray := by
  apply Array.ext'
  apply List.ext_getElem?
  intro j
  rw [hx]
  by_cases hj : j < n
  · simp [madeCells, hj, Nat.mod_one]
  · simp [madeCells, hj]
theorem make_ptrs2 (w : World) : (Instr.makeSlice 83 (.int .i64 2) (.int .i64 2)).run Tryz.prog w = .ok (.slice (some ⟨w.heap.size, 0, none⟩) 2 2) (w.alloc (.cells #[.pointer none, .pointer none] 44)) := by
  obtain ⟨i0, hi, hz0, hz1, hz2⟩ := info_parts infoA
  have := run_make w 83 44 i0 (.pointer none) Tryz.underlying83 hi hz0 .i64 .i64 2 2 (by omega) (Int.le_refl _) (by rw [hz2]; omega) (by omega)
  rw [made_all _ rfl] at this
  simpa [hz1, List.replicate] using this
theorem make_ints40 (w : World) : (Instr.makeSlice 50 (.int .i64 40) (.int .i64 40)).run Tryz.prog w = .ok (.slice (some ⟨w.heap.size, 0, none⟩) 40 40) (w.alloc (.cells (ints .i64 (List.replicate 40 0)).toArray 3)) := by
  obtain ⟨i0, hi, hz0, hz1, hz2⟩ := info_parts infoJ
  have := run_make w 50 3 i0 (.int .i64 0) Tryz.underlying50 hi hz0 .i64 .i64 40 40 (by omega) (Int.le_refl _) (by rw [hz2]; omega) (by omega)
  rw [made_all _ rfl] at this
  have e : ints .i64 (List.replicate 40 0) = List.replicate 40 (.int .i64 0) := by unfold ints; rw [List.map_replicate]
  rw [e]
  simpa [hz1] using this
def qa (S D N M : Nat) : Ca := ⟨S, D, N, M + 1, M⟩
def va (L : List Int) (many : Nat) : Va := ⟨L, fun _ => aNone 0, fun _ => 0, fun _ _ => False, fun _ _ => False, fun _ => false, fun _ => .pointer none, fun _ => (many : Int)⟩
theorem aw_none (c : Cfg) {k : Int} (h : 0 ≤ k) : AW c k (aNone 0) := ⟨by simp [aNone], fun e => by simp [aNone] at e, by simp [aNone], fun e => by simp [aNone] at e, h⟩
theorem HA.first {S D N : Nat} {c : Cfg} {B : Nat} {w0 w5 : World} {L : List Int} {len many : Nat} (h : PO B S D N c w0 w5 L 0) (hrep : Rep (shOf c) L (firstV c)) (hlen : len ≤ 300) (hmr : 2 ≤ c.mr) (h5 : many ≤ 5) :
    HA (qa S D N w5.heap.size) c B w0 ((w5.alloc (.cells #[.int .i64 (many : Int), .int .i64 (many : Int)] 3)).alloc (.cells #[.pointer none, .pointer none] 44)) len 0 many 0 (va L many) := by
  have hlt := h.lt
  have hB := h.lo.2.2
  have hbs := h.bel.size
  obtain ⟨M, hM⟩ : ∃ M, w5.heap.size = M := ⟨_, rfl⟩
  rw [hM]
  obtain ⟨W, hW⟩ : ∃ W, W = w5.alloc (.cells #[.int .i64 (many : Int), .int .i64 (many : Int)] 3) := ⟨_, rfl⟩
  have e1 : W.heap.size = M + 1 := by rw [hW, ← hM]; simp
  have l0 : W.heap[M]? = some (.cells #[.int .i64 (many : Int), .int .i64 (many : Int)] 3 (0, 0)) := by rw [hW, ← hM]; exact Go.heap_alloc_new _ _
  have b0 : Below w5.heap.size w5 W := by rw [hW]; exact below_alloc0 (Below.refl _ _) _
  rw [← hW]
  clear hW
  obtain ⟨W2, hW2⟩ : ∃ W2, W2 = W.alloc (.cells #[.pointer none, .pointer none] 44) := ⟨_, rfl⟩
  have l1 : W2.heap[M + 1]? = some (.cells #[.pointer none, .pointer none] 44 (0, 0)) := by rw [hW2, ← e1]; exact Go.heap_alloc_new _ _
  have b1 : Below W.heap.size W W2 := by rw [hW2]; exact below_alloc0 (Below.refl _ _) _
  rw [← hW2]
  clear hW2
  have p0 : W2.heap[M]? = some (.cells #[.int .i64 (many : Int), .int .i64 (many : Int)] 3 (0, 0)) := (b1.block M (by omega)).trans l0
  refine ⟨⟨(show PO B S D N c w0 W2 L (4 * ((0 : Nat) : Int)) from by simpa using (h.step b0).step b1), l1, p0, ⟨⟨by simp only [qa]; omega, by simp only [qa]; omega⟩, by simp only [qa]; omega, by simp only [qa]; omega⟩, (fun j hj hl => by cases hl), (fun j hj => aw_none c (by omega)), (fun j hj hl => by cases hl), (fun i j hi hj hij hl => by cases hl)⟩,
    PF.first h.ok hrep hmr h5 (aNone 0) rfl, (fun j hj => ⟨rfl, rfl, show (0 : Int) ≤ (many : Int) by omega⟩), ⟨by simp only [va]; omega, Int.le_refl _⟩, h5, ⟨by omega, hlen⟩, first_len h.ok hrep, hmr⟩

/-- The store, a row that grows, and the row of what was seen. -/
structure EQ (q : Ca) (c : Cfg) (B : Nat) (w0 wr : World) (kk : Int) (L : List Int) (o : Option Nat) (v : Value) (Hl : List Int) (SE : Nat) (se : List Int) : Prop where
  po : PO B q.S q.D q.N c w0 wr L kk
  row : QVO 25 o wr v (ints .u64 Hl)
  ro : ∀ b, o = some b → B ≤ b ∧ b ≠ q.S ∧ b ≠ q.D ∧ b ≠ q.N ∧ b ≠ SE
  se : wr.heap[SE]? = some (.cells (ints .i64 se).toArray 3 (0, 0))
  sf : B ≤ SE ∧ SE ≠ q.S ∧ SE ≠ q.D ∧ SE ≠ q.N
section
variable {q : Ca} {c : Cfg} {B : Nat} {w0 wr w' : World} {kk : Int} {L : List Int} {o : Option Nat} {v v' : Value} {Hl : List Int} {SE : Nat} {se : List Int}
theorem EQ.ltS (h : EQ q c B w0 wr kk L o v Hl SE se) : SE < wr.heap.size := (Array.getElem?_eq_some_iff.1 h.se).1
theorem EQ.below (h : EQ q c B w0 wr kk L o v Hl SE se) (hb : Below wr.heap.size wr w') : EQ q c B w0 w' kk L o v Hl SE se :=
  ⟨h.po.step hb, h.row.below hb, h.ro, (hb.block _ h.ltS).trans h.se, h.sf⟩
theorem EQ.load (h : EQ q c B w0 wr kk L o v Hl SE se) (a : Int) (hk : kk ≤ 900000000) : Calls Tryz.prog 34 #[ptr q.S, .int .i64 a] wr fun e w' => e = .returned (.int .u64 (ldq L a)) ∧ EQ q c B w0 w' (kk + 1) L o v Hl SE se :=
  (load_po h.po a hk).mono fun _ w' ⟨h1, h2, u⟩ =>
    ⟨h1, h2, h.row.same (fun b e => u.block b (h.row.lt b e) (fun x => by have := h.ro b e; rcases x with x | x; exact this.2.1 x; exact this.2.2.1 x)), h.ro, (u.block _ h.ltS (fun x => by have := h.sf; rcases x with x | x; exact this.2.1 x; exact this.2.2.1 x)).trans h.se, h.sf⟩
theorem EQ.grew {x : Int} (h : EQ q c B w0 wr kk L o v Hl SE se) (g : GrewV 25 o wr w' v' (ints .u64 Hl ++ [.int .u64 x])) : ∃ o', EQ q c B w0 w' kk L o' v' (Hl ++ [x]) SE se := by
  obtain ⟨b, hb, hq, u⟩ := g
  have hl := h.po.lt
  have hs := h.ltS
  have hz := h.po.bel.size
  have hB := h.po.lo.2.2
  have ha : B ≤ b ∧ b ≠ q.S ∧ b ≠ q.D ∧ b ≠ q.N ∧ b ≠ SE := by
    rcases hb with e | e
    · exact h.ro b e
    · exact ⟨by omega, by omega, by omega, by omega, by omega⟩
  have uf : UF (fun k => k = b ∨ k = b) wr w' := UF.of_upd u
  refine ⟨some b, h.po.uf uf (fun e => by rcases e with e | e <;> exact ha.2.1 e.symm) (fun e => by rcases e with e | e <;> exact ha.2.2.1 e.symm) (fun e => by rcases e with e | e <;> exact ha.2.2.2.1 e.symm) (fun k e => by rcases e with rfl | rfl <;> exact ha.1), ?_, fun b' e => by cases e; exact ha, (u.block SE hs (Ne.symm ha.2.2.2.2) (Ne.symm ha.2.2.2.2)).trans h.se, h.sf⟩
  show QV 25 b w' v' _
  have e : ints .u64 (Hl ++ [x]) = ints .u64 Hl ++ [.int .u64 x] := by unfold ints; rw [List.map_append]; rfl
  rw [e]; exact hq
theorem EQ.len (h : EQ q c B w0 wr kk L o v Hl SE se) : ∃ A c, v = .slice A Hl.length c := by
  obtain ⟨A, c', e⟩ := h.row.len
  refine ⟨A, c', ?_⟩
  rw [e]; unfold ints; rw [List.length_map]
theorem EQ.cell (h : EQ q c B w0 wr kk L o v Hl SE se) (h0 : 0 < Hl.length) : ∃ b off cap, v = .slice (some ⟨b, off, none⟩) Hl.length cap ∧ ∀ j, j < Hl.length → wr.cell? ⟨b, off + j, none⟩ = some (.int .u64 (Hl.getD j 0)) := by
  obtain ⟨b, e, hq⟩ := h.row.has (by unfold ints; rw [List.length_map]; exact h0)
  obtain ⟨off, cap, hv, _, _, hc⟩ := hq.cell
  refine ⟨b, off, cap, by rw [hv]; unfold ints; rw [List.length_map], fun j hj => ?_⟩
  rw [hc j (by unfold ints; rw [List.length_map]; exact hj)]
  simp [ints, List.getD, List.getElem?_map, List.getElem?_eq_getElem hj]
theorem EQ.seen (h : EQ q c B w0 wr kk L o v Hl SE se) (t : Nat) (ht : t < se.length) : wr.cell? ⟨SE, t, none⟩ = some (.int .i64 (se.getD t 0)) ∧ wr.frozen? ⟨SE, t, none⟩ = false := by
  refine ⟨?_, frozen_of_row wr SE t _ _ h.se⟩
  simp only [World.cell?, h.se]
  simp [ints, List.getD, List.getElem?_eq_getElem ht]
theorem EQ.set (h : EQ q c B w0 wr kk L o v Hl SE se) (t : Nat) (y : Int) : EQ q c B w0 (wr.setCell ⟨SE, t, none⟩ (.int .i64 y)) kk L o v Hl SE (se.set t y) := by
  have ot : ∀ b, b ≠ SE → (wr.setCell ⟨SE, t, none⟩ (.int .i64 y)).heap[b]? = wr.heap[b]? := fun b hb => heap_setCell_other wr ⟨SE, t, none⟩ b _ hb
  refine ⟨h.po.uf (UF.set wr SE t _) (fun e => h.sf.2.1 e.symm) (fun e => h.sf.2.2.1 e.symm) (fun e => h.sf.2.2.2 e.symm) (fun k e => e ▸ h.sf.1), h.row.same (fun b e => ot b (h.ro b e).2.2.2.2), h.ro, ?_, h.sf⟩
  rw [heap_setCell_same wr SE t _ 3 _ h.se]
  unfold ints
  rw [List.map_set]; simp
end
/-! Counting. -/
theorem seen_put {n : Nat} {se S : List Int} {tN v : Nat} (hl : se.length = n) (h : ∀ t, t < n → se.getD t 0 = (S.count (t : Int) : Int)) (hv : v = S.count (tN : Int)) (ht : tN < n) : ∀ t, t < n → (se.set tN ((v : Int) + 1)).getD t 0 = ((S ++ [(tN : Int)]).count (t : Int) : Int) := fun t h4 => by
  rw [List.count_append]
  by_cases e : t = tN
  · subst e
    have : (se.set t ((v : Int) + 1)).getD t 0 = (v : Int) + 1 := by simp [List.getD, hl, ht]
    rw [this, hv]; simp
  · have e1 : (se.set tN ((v : Int) + 1)).getD t 0 = se.getD t 0 := by simp [List.getD, List.getElem?_set, Ne.symm e]
    have e2 : List.count (t : Int) [(tN : Int)] = 0 := List.count_eq_zero.2 (by simp; omega)
    rw [e1, h t h4, e2]; simp
def cntTo (M : List Int) : Nat → Nat
  | 0 => 0
  | t + 1 => cntTo M t + M.count (t : Int)
theorem cntTo_nil : ∀ t, cntTo [] t = 0
  | 0 => rfl
  | t + 1 => by simp [cntTo, cntTo_nil t]
theorem cntTo_cons (x : Int) (M : List Int) : ∀ t : Nat, cntTo (x :: M) t = cntTo M t + (if 0 ≤ x ∧ x < (t : Int) then 1 else 0)
  | 0 => by
    rw [if_neg (by omega)]; rfl
  | t + 1 => by
    have ih := cntTo_cons x M t
    show cntTo (x :: M) t + (x :: M).count (t : Int) = cntTo M t + M.count (t : Int) + _
    rw [ih, List.count_cons]
    by_cases h1 : x = (t : Int)
    · rw [if_neg (show ¬ (0 ≤ x ∧ x < (t : Int)) by omega), if_pos (show 0 ≤ x ∧ x < ((t + 1 : Nat) : Int) by omega), if_pos (by simpa using h1)]; omega
    · rw [if_neg (show ¬ (x == (t : Int)) = true by simpa using h1)]
      by_cases h3 : 0 ≤ x ∧ x < (t : Int)
      · rw [if_pos h3, if_pos (by omega)]; omega
      · rw [if_neg h3, if_neg (by omega)]; omega
theorem cntTo_all {n : Nat} : ∀ (M : List Int), (∀ x ∈ M, 0 ≤ x ∧ x < (n : Int)) → cntTo M n = M.length
  | [], _ => cntTo_nil n
  | x :: M, h => by
    rw [cntTo_cons, if_pos (h x (by simp)), cntTo_all M fun y hy => h y (by simp [hy])]; rfl
theorem cntTo_le {n : Nat} (M : List Int) (h : ∀ x ∈ M, 0 ≤ x ∧ x < (n : Int)) : ∀ t, t ≤ n → cntTo M t ≤ M.length := by
  intro t ht
  rw [← cntTo_all M h]
  obtain ⟨d, rfl⟩ : ∃ d, n = t + d := ⟨n - t, by omega⟩
  clear h ht
  induction d with
  | zero => exact Nat.le_refl _
  | succ d ih => exact Nat.le_trans ih (by show cntTo M (t + d) ≤ cntTo M (t + d) + _; omega)
/-- The pool's tasks, and those of the first deques. -/
def HQs (H : List Int) (Qs : Nat → List Int) : Nat → List Int
  | 0 => H
  | k + 1 => HQs H Qs k ++ Qs k
theorem AEnd.all {c : Cfg} {es : Nat → Dg.En} {L : List Int} {p : Int} {H : List Int} {Qs : Nat → List Int} (h : AEnd c es L p H Qs) (hp : p ≤ 10) :
    (∀ x ∈ HQs H Qs 2, 2 ≤ x ∧ x < 40) ∧ (HQs H Qs 2).Nodup ∧ ((HQs H Qs 2).length : Int) = p := by
  obtain ⟨A, hb, pm⟩ := h.perm
  have e : HQs H Qs 2 = H ++ (Qs 0 ++ Qs 1) := by simp [HQs]
  rw [e]
  refine ⟨fun x hx => ?_, pm.nodup_iff.2 hb.nd, by rw [pm.length_eq]; exact hb.len⟩
  have := hb.rg x (pm.mem_iff.1 hx)
  omega
end Go.Proofs.YtponbnbgiiepdaaGreat
