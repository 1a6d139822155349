/- The program's graph, one of the call's own: its operations as contracts that hand it on; the document's example; walked. -/
import Derived.Test.YtjnkcomedcbenaaGPlay
namespace Go.Proofs.Ytjnkcomedcbenaa
open Go.RowKit
set_option linter.unusedVariables false

/-- What an operation leaves: the graph, of the call's own still; and all other blocks as they were. -/
def SomeOwn (w0 : World) (S : Nat) (T F : Nat → Prop) (g' : Gr) (r : Value) (w : World) (e : Ending) (w' : World) : Prop :=
  ∃ T' F', e = .returned r ∧ GOwn w0 w' S T' F' g' ∧ UpdF F w w' ∧ (∀ k, F' k → F k ∨ w.heap.size ≤ k) ∧ ∀ k, T' k → T k ∨ w.heap.size ≤ k
section
variable {w0 w : World} {S : Nat} {T F : Nat → Prop} {g g' : Gr}
theorem own_of {r r' : Value} {e : Ending} {w' : World} (h : GOwn w0 w S T F g) (hk : Ok g') (hmo : g'.most ≤ 1000) (hr : r = r') (hop : SomeOp S T F g' r w e w') : SomeOwn w0 S T F g' r' w e w' := by
  obtain ⟨T', F', he, hg, hu, hT, hF⟩ := hop
  exact ⟨T', F', by rw [he, hr], h.op hg hu hF hk hmo, hu, hF, hT⟩
theorem alloc_q (h : GOwn w0 w S T F g) (hnn : g.nodes.length ≤ 1000) (m n : Int) {y : Int} {b : Bool} (e : gAlloc g m n = (g', y, b)) : Calls Try.prog 29 #[ptr S, .int .i64 m, .int .i64 n] w (SomeOwn w0 S T F g' (.tuple #[.int .i64 y, .bool b]) w) := by
  have hk := ok_alloc h.ok m n
  have hn := (play_near g ⟨0, m, 0, n, 0⟩).2.2.2
  rw [show gPlay g ⟨0, m, 0, n, 0⟩ = gAlloc g m n from rfl] at hn
  rw [e] at hk hn
  refine (alloc_p h.gp h.ok h.mo hnn m n).mono fun e' w' hop => ?_
  rw [e] at hop
  exact own_of h hk (by have := h.mo; simp only at hn; omega) rfl hop
theorem write_q (h : GOwn w0 w S T F g) (hnn : g.nodes.length ≤ 1000) (m a i b : Int) {x : Bool} (e : gWrite g m a i b = (g', x)) : Calls Try.prog 26 #[ptr S, .int .i64 m, .int .i64 a, .int .i64 i, .int .i64 b] w (SomeOwn w0 S T F g' (.bool x) w) := by
  have hk := ok_write h.ok m a i b
  have hn := (play_near g ⟨2, m, a, i, b⟩).2.2.2
  rw [show gPlay g ⟨2, m, a, i, b⟩ = ((gWrite g m a i b).1, 0, (gWrite g m a i b).2) from rfl] at hn
  rw [e] at hk hn
  refine (write_p h.gp h.ok h.mo hnn m a i b).mono fun e' w' hop => ?_
  rw [e] at hop
  exact own_of h hk (by have := h.mo; simp only at hn; omega) rfl hop
theorem read_q (h : GOwn w0 w S T F g) (hnn : g.nodes.length ≤ 1000) (m a i : Int) {y : Int} {b : Bool} (e : gRead g m a i = (g', y, b)) : Calls Try.prog 27 #[ptr S, .int .i64 m, .int .i64 a, .int .i64 i] w (SomeOwn w0 S T F g' (.tuple #[.int .i64 y, .bool b]) w) := by
  have hk := ok_read h.ok m a i
  have hn := (play_near g ⟨1, m, a, i, 0⟩).2.2.2
  rw [show gPlay g ⟨1, m, a, i, 0⟩ = gRead g m a i from rfl] at hn
  rw [e] at hk hn
  refine (read_p h.gp h.ok h.mo hnn m a i).mono fun e' w' hop => ?_
  rw [e] at hop
  exact own_of h hk (by have := h.mo; simp only at hn; omega) rfl hop
theorem pop_q (h : GOwn w0 w S T F g) (hnn : g.nodes.length ≤ 1000) (m : Int) {x : Bool} (e : gPop g m = (g', x)) : Calls Try.prog 25 #[ptr S, .int .i64 m] w (SomeOwn w0 S T F g' (.bool x) w) := by
  have hk := ok_pop h.ok m
  have hn := (play_near g ⟨3, m, 0, 0, 0⟩).2.2.2
  rw [show gPlay g ⟨3, m, 0, 0, 0⟩ = ((gPop g m).1, 0, (gPop g m).2) from rfl] at hn
  rw [e] at hk hn
  refine (pop_p h.gp h.ok h.mo hnn m).mono fun e' w' hop => ?_
  rw [e] at hop
  exact own_of h hk (by have := h.mo; simp only at hn; omega) rfl hop
theorem dup_q (h : GOwn w0 w S T F g) (hnn : g.nodes.length ≤ 1000) (m a : Int) {x : Bool} (e : gDup g m a = (g', x)) : Calls Try.prog 28 #[ptr S, .int .i64 m, .int .i64 a] w (SomeOwn w0 S T F g' (.bool x) w) := by
  have hk := ok_dup h.ok m a
  have hn := (play_near g ⟨4, m, a, 0, 0⟩).2.2.2
  rw [show gPlay g ⟨4, m, a, 0, 0⟩ = ((gDup g m a).1, 0, (gDup g m a).2) from rfl] at hn
  rw [e] at hk hn
  refine (dup_p h.gp h.ok h.mo hnn m a).mono fun e' w' hop => ?_
  rw [e] at hop
  exact own_of h hk (by have := h.mo; simp only at hn; omega) rfl hop
theorem play_q (h : GOwn w0 w S T F g) (hnn : g.nodes.length ≤ 1000) (x : Op5) {y : Int} {b : Bool} (e : gPlay g x = (g', y, b)) : Calls Try.prog 13 #[ptr S, opV x] w (SomeOwn w0 S T F g' (.tuple #[.int .i64 y, .bool b]) w) := by
  have hk := ok_play h.ok x
  have hn := (play_near g x).2.2.2
  rw [e] at hk hn
  refine (play_p h.gp h.ok h.mo hnn x).mono fun e' w' hop => ?_
  rw [e] at hop
  exact own_of h hk (by have := h.mo; simp only at hn; omega) rfl hop
/-- A new one. -/
def SomeOwnNew (w0 : World) (g : Gr) (w : World) (e : Ending) (w' : World) : Prop :=
  ∃ S T F, e = .returned (ptr S) ∧ GOwn w0 w' S T F g ∧ Below w.heap.size w w' ∧ ∀ k, T k → w.heap.size ≤ k
theorem new_q (hb : Below w0.heap.size w0 w) (mu mo sl : Int) (h0 : 0 ≤ mo) (h1 : mo ≤ 1000) : Calls Try.prog 11 #[.int .i64 mu, .int .i64 mo, .int .i64 sl] w (SomeOwnNew w0 (gNew mu mo sl) w) := by
  refine (new_p mu mo sl w h1).mono fun e w' ⟨S, T, F, he, hg, hb', hT⟩ => ?_
  rw [show max mo 0 = mo by omega] at hg
  exact ⟨S, T, F, he, GOwn.of_new hb hg hb' hT (ok_new mu mo sl h0) h1, hb', hT⟩
end

/-! The document's example. -/
def ex0 : Gr := ⟨[[]], [], 4⟩
def ex1 : Gr := ⟨[[1]], [[0]], 4⟩
def ex2 : Gr := ⟨[[1, 2]], [[0], []], 4⟩
def ex3 : Gr := ⟨[[1, 2]], [[2], []], 4⟩
def ex4 : Gr := ⟨[[1]], [[2], []], 4⟩
def ex5 : Gr := ⟨[[]], [[2], []], 4⟩
theorem ex_reach : reachL ex4 = [1, 2] := by
  have r1 : Rch ex4 1 := Rch.root (g := ex4) 0 0 (by decide) (by decide) (by decide)
  have r2 : Rch ex4 2 := Rch.slot (g := ex4) 1 0 r1 (by decide) (by decide)
  have e1 : rchB ex4 (((0 : Nat) : Int) + 1) = true := rchB_iff.2 r1
  have e2 : rchB ex4 (((1 : Nat) : Int) + 1) = true := rchB_iff.2 r2
  show reachTo ex4 2 = _
  rw [reach_succ, reach_succ, if_pos e2, if_pos e1]; rfl
theorem no_rch {g : Gr} (h : ∀ m a, m < g.roots.length → a < (row g.roots m).length → num (row g.roots m) a ≤ 0) (v : Int) : ¬ Rch g v := fun hr => by
  induction hr with
  | root m a hm ha h0 => have := h m a hm ha; omega
  | slot u i hu hi h0 ih => exact ih
theorem no_reach {g : Gr} (h : ∀ m a, m < g.roots.length → a < (row g.roots m).length → num (row g.roots m) a ≤ 0) : reachL g = [] := by
  apply List.eq_nil_iff_forall_not_mem.2
  intro v hv
  exact no_rch h v (mem_reachTo.1 hv).1
theorem ex_none : reachL ex5 = [] := no_reach fun m a hm ha => by
  have : m = 0 := by simpa [ex5] using hm
  subst this
  simp [ex5, row] at ha

theorem row_lit2 (w : World) (x y : Int) : RowV Any (w.alloc (.cells #[.int .i64 x, .int .i64 y] 3)) (.slice (some ⟨w.heap.size, 0, none⟩) 2 2) [x, y] :=
  ⟨some ⟨w.heap.size, 0, none⟩, 2, rfl, fun _ => ⟨w.heap.size, 0, rfl, ⟨by simp, trivial⟩, fun j hj => by
    rw [Nat.zero_add, World.cell?_alloc_at _ _ _ _ rfl]
    match j, hj with
    | 0, _ => rfl
    | 1, _ => rfl⟩, Nat.le_refl _, by unfold maxLen; omega, fun e => by cases e⟩
theorem row_lit1 (w : World) (x : Int) : RowV Any (w.alloc (.cells #[.int .i64 x] 3)) (.slice (some ⟨w.heap.size, 0, none⟩) 1 1) [x] :=
  ⟨some ⟨w.heap.size, 0, none⟩, 1, rfl, fun _ => ⟨w.heap.size, 0, rfl, ⟨by simp, trivial⟩, fun j hj => by
    rw [Nat.zero_add, World.cell?_alloc_at _ _ _ _ rfl]
    match j, hj with
    | 0, _ => rfl⟩, Nat.le_refl _, by unfold maxLen; omega, fun e => by cases e⟩

theorem a1 : gAlloc ex0 0 1 = (ex1, 1, true) := rfl
theorem a2 : gAlloc ex1 0 0 = (ex2, 2, true) := rfl
theorem a3 : gWrite ex2 0 0 0 1 = (ex3, true) := rfl
theorem a4 : gPop ex3 0 = (ex4, true) := rfl
theorem a5 : gPop ex4 0 = (ex5, true) := rfl
theorem n0 : ex0.nodes.length ≤ 1000 := by decide
theorem n1 : ex1.nodes.length ≤ 1000 := by decide
theorem n2 : ex2.nodes.length ≤ 1000 := by decide
theorem n3 : ex3.nodes.length ≤ 1000 := by decide
theorem n4 : ex4.nodes.length ≤ 1000 := by decide
theorem n5 : ex5.nodes.length ≤ 1000 := by decide

set_option maxHeartbeats 4000000 in
theorem awake_any (w : World) : Calls Try.prog 10 #[] w fun e w' => e = .returned (.bool true) ∧ Below w.heap.size w w' := by
  go_enter Try.func10, Try.ntmps10
  go_wp2_with (first
    | (go_at_call 11; (with_reducible refine (new_q (Below.refl w.heap.size w) 1 4 (-1) (by decide) (by decide)).mono ?_); rintro r w1 ⟨S, T, F, rfl, hg, -⟩; have HK : Hid (GOwn w w1 S T F ex0) := Lib.hid hg; clear hg)
    | (go_at_call 29; (with_reducible refine (alloc_q (g' := ex1) HK.out n0 0 1 a1).mono ?_); rintro r w2 ⟨T2, F2, rfl, hg, -⟩; have HK := Lib.hid hg; clear hg)
    | (go_at_call 29; (with_reducible refine (alloc_q (g' := ex2) HK.out n1 0 0 a2).mono ?_); rintro r w3 ⟨T3, F3, rfl, hg, -⟩; have HK := Lib.hid hg; clear hg)
    | (go_at_call 26; (with_reducible refine (write_q (g' := ex3) HK.out n2 0 0 0 1 a3).mono ?_); rintro r w4 ⟨T4, F4, rfl, hg, -⟩; have HK := Lib.hid hg; clear hg)
    | (go_at_call 25; (with_reducible refine (pop_q (g' := ex4) HK.out n3 0 a4).mono ?_); rintro r w5 ⟨T5, F5, rfl, hg, -⟩; have HK := Lib.hid hg; clear hg)
    | (go_at_call 21; (with_reducible refine (reach_p HK.out.gp HK.out.ok HK.out.mo n4).mono ?_); rintro r w6 ⟨v6, rfl, hr6, hb⟩; rw [ex_reach] at hr6; have HV := Lib.hid hr6; have HK4 := Lib.hid (HK.out.step hb); clear hr6 hb)
    | (go_at_call 25; (with_reducible refine (pop_q (g' := ex5) HK4.out n4 0 a5).mono ?_); rintro r w7 ⟨T7, F7, rfl, hg, hu, hF⟩; have HV := Lib.hid (HV.out.kept (hu.kept fun k h => h)); have HK := Lib.hid hg; clear hg hu hF)
    | (go_at_call 20; (with_reducible refine (same_yes v6 _ [1, 2] _ (HV.out.kept (Kept.below (below_alloc0 (Below.refl _ _) _))) (row_lit2 _ 1 2) (by decide)).mono ?_); rintro r w8 ⟨rfl, hb⟩; have HK := Lib.hid ((HK.out.step (below_alloc0 (Below.refl _ _) _)).step hb); clear hb)
    | (go_at_call 21; (with_reducible refine (reach_p HK.out.gp HK.out.ok HK.out.mo n5).mono ?_); rintro r w9 ⟨v9, rfl, hr9, hb⟩; rw [ex_none] at hr9; obtain ⟨A9, c9, rfl, -⟩ := hr9; have HK := Lib.hid (HK.out.step hb); clear hb)
    | (go_at_call 19; (with_reducible refine (nodes_p HK.out.gp HK.out.ok HK.out.mo n5).mono ?_); rintro r w10 ⟨rfl, hb⟩; have HK := Lib.hid (HK.out.step hb); clear hb)
    | (go_at_call 24; (with_reducible refine (slots_p HK.out.gp HK.out.ok HK.out.mo n5 1 (by decide) (by decide)).mono ?_); rintro r w11 ⟨v11, rfl, hr11, hb⟩; have HS : Hid (RowV _ w11 v11 [2]) := Lib.hid hr11; have HK := Lib.hid (HK.out.step hb); clear hr11 hb)
    | (go_at_call 20; (with_reducible refine (same_yes v11 _ [2] _ (HS.out.kept (Kept.below (below_alloc0 (Below.refl _ _) _))) (row_lit1 _ 2) (by decide)).mono ?_); rintro r w12 ⟨rfl, hb⟩; have HK := Lib.hid ((HK.out.step (below_alloc0 (Below.refl _ _) _)).step hb); clear hb)
    | fail)
  go_ret
  exact ⟨rfl, HK.out.bel⟩
end Go.Proofs.Ytjnkcomedcbenaa
