/- The document's example, walked. -/
import Derived.Test.YtjnenpflpckimaaRun
namespace Go.Proofs.Ytjnenpflpckimaa
open Go.RowKit
set_option linter.unusedVariables false
set_option linter.unusedSimpArgs false

theorem reads_lit4 (w : World) (x y z u : Int) : Reads .u64 (w.alloc (.cells #[.int .u64 x, .int .u64 y, .int .u64 z, .int .u64 u] 29)) (some ⟨w.heap.size, 0, none⟩) [x, y, z, u] := fun _ =>
  ⟨w.heap.size, 0, rfl, by simp, fun j hj => by
    rw [Nat.zero_add, World.cell?_alloc_at _ _ _ _ rfl]
    match j, hj with
    | 0, _ => rfl
    | 1, _ => rfl
    | 2, _ => rfl
    | 3, _ => rfl⟩
theorem box_new (w : World) (cs : Array Value) (t : TypeId) : (w.alloc (.cells cs t)).heap[w.heap.size]? = some (.cells cs t (0, 0)) := by
  show (w.heap.push _)[w.heap.size]? = _
  exact Array.getElem?_push_size
theorem box_kept {w w' : World} {E : Nat} {o : Obj} (h : w.heap[E]? = some o) (hb : Below w.heap.size w w') : w'.heap[E]? = some o := (hb.block E (Array.getElem?_eq_some_iff.1 h).1).trans h

abbrev e2 : En := ⟨0, 1, 2, 2⟩
/-- A machine that goes on, of these words; i steps are done. -/
structure Go1 (B S D E M : Nat) (w0 w : World) (L : List Int) (m : Mc) (k : Int) : Prop where
  ok : Ok B S D E w0 w e2 L k
  mm : MM w M m
  s : S < M
  d : D < M
  ws : Ws L m
theorem go1_step {B S D E M : Nat} {w0 w : World} {L : List Int} {m : Mc} {k : Int} (h : Go1 B S D E M w0 w L m k) (hk : k ≤ 900000000) (L' : List Int) (m' : Mc) (he : stp L m = (L', m')) (b : Bool) (hb : decide (m'.pc = 0) = b) :
    Calls Try.prog 14 #[ptr M, ptr S] w fun a w' => a = .returned (.bool b) ∧ Go1 B S D E M w0 w' L' m' (k + 1) := by
  refine (step_ok h.ok h.mm h.s h.d h.ws hk).mono ?_
  have hw := h.ws.stp
  rw [he] at hw ⊢
  rintro a w1 ⟨rfl, h1, h2, h3⟩
  exact ⟨by rw [← hb], h1, h2, h.s, h.d, hw⟩
theorem Go1.of_new {B S D E M : Nat} {w0 w w' : World} {L : List Int} {m : Mc} {k : Int} (h : Ok B S D E w0 w e2 L k) (hM : w.heap.size ≤ M) (hm : MM w' M m) (hb : Below w.heap.size w w') (ws : Ws L m) : Go1 B S D E M w0 w' L m k :=
  ⟨h.step hb, hm, (h.new hM).1, (h.new hM).2, ws⟩
theorem Go1.res {B S D E M : Nat} {w0 w w' : World} {L : List Int} {m : Mc} {k : Int} (h : Go1 B S D E M w0 w L m k) (hb : Below w.heap.size w w') : Go1 B S D E M w0 w' L m k := ⟨h.ok.step hb, h.mm.below hb, h.s, h.d, h.ws⟩

theorem reads_box4 (w : World) (o : Obj) (x y z u : Int) : Reads .u64 ((w.alloc o).alloc (.cells #[.int .u64 x, .int .u64 y, .int .u64 z, .int .u64 u] 29)) (some ⟨w.heap.size + 1, 0, none⟩) [x, y, z, u] := by
  have h := reads_lit4 (w.alloc o) x y z u
  have e : (w.alloc o).heap.size = w.heap.size + 1 := by simp
  rwa [e] at h
theorem Ok.cells2 {B S D E : Nat} {w0 w : World} {L : List Int} {k : Int} (h : Ok B S D E w0 w e2 L k) : w.cell? ⟨E, 0, none⟩ = some (.int .i64 0) ∧ w.cell? ⟨E, 1, none⟩ = some (.int .i64 1) ∧ w.cell? ⟨E, 2, none⟩ = some (.int .i64 2) ∧ w.cell? ⟨E, 3, none⟩ = some (.int .i64 2) := h.cells
theorem nn_lit (L : List Int) (h : L.all (fun x => decide (0 ≤ x)) = true) : NN L := fun x hx => by
  have := List.all_eq_true.1 h x hx
  simpa using this
/-- Three machines, one behind the other; the ones that are finished stay. -/
theorem MM.go1 {B S D E M K : Nat} {w0 w w' : World} {L : List Int} {m j : Mc} {k : Int} (h : MM w M m) (g : Go1 B S D E K w0 w L j k) (hMK : M < K) (hM : S < M) (hD : D < M) (u : U3 K S D w w') : MM w' M m := h.u3 u (by omega) (by omega) (by omega)
/-- What came of the ones that are finished. -/
structure Past (M : Nat) (m : Mc) (S D K : Nat) (w : World) : Prop where
  mm : MM w M m
  s : S < M
  d : D < M
  k : M < K
theorem Past.u {M S D K : Nat} {m : Mc} {w w' : World} (h : Past M m S D K w) (u : U3 K S D w w') : Past M m S D K w' := ⟨h.mm.u3 u (by have := h.k; omega) (by have := h.s; omega) (by have := h.d; omega), h.s, h.d, h.k⟩
theorem Past.step {M S D K : Nat} {m : Mc} {w w' : World} (h : Past M m S D K w) (hb : Below w.heap.size w w') : Past M m S D K w' := ⟨h.mm.below hb, h.s, h.d, h.k⟩
theorem Past.next {M S D K K' : Nat} {m : Mc} {w w' : World} (h : Past M m S D K w) (hb : Below w.heap.size w w') (hK : w.heap.size ≤ K') : Past M m S D K' w' := ⟨h.mm.below hb, h.s, h.d, by have := h.mm.lt; omega⟩
theorem Go1.past {B S D E M K : Nat} {w0 w w' : World} {L : List Int} {m : Mc} {k : Int} (h : Go1 B S D E M w0 w L m k) (hb : Below w.heap.size w w') (hK : w.heap.size ≤ K) : Past M m S D K w' := ⟨h.mm.below hb, h.s, h.d, by have := h.mm.lt; omega⟩
theorem go1_u {B S D E M : Nat} {w0 w : World} {L : List Int} {m : Mc} {k : Int} (h : Go1 B S D E M w0 w L m k) (hk : k ≤ 900000000) (L' : List Int) (m' : Mc) (he : stp L m = (L', m')) (b : Bool) (hb : decide (m'.pc = 0) = b) :
    Calls Try.prog 14 #[ptr M, ptr S] w fun a w' => a = .returned (.bool b) ∧ Go1 B S D E M w0 w' L' m' (k + 1) ∧ U3 M S D w w' := by
  refine (step_ok h.ok h.mm h.s h.d h.ws hk).mono ?_
  have hw := h.ws.stp
  rw [he] at hw ⊢
  rintro a w1 ⟨rfl, h1, h2, h3⟩
  exact ⟨by rw [← hb], ⟨h1, h2, h.s, h.d, hw⟩, h3⟩

set_option maxHeartbeats 8000000 in
theorem awake_any (w : World) : Calls Try.prog 8 #[] w fun a w' => a = .returned (.bool true) ∧ Below w.heap.size w w' := by
  have eo : EnOk e2 := ⟨by decide, by decide, by decide⟩
  have Pa0 := Lib.hid (show stp [0, 0, 0, 0] ⟨1, 1, e2, 0, 0, 7, false, 0⟩ = ([0, 0, 0, 0], ⟨1, 2, e2, 0, 0, 7, false, 0⟩) from rfl)
  have Pa1 := Lib.hid (show stp [0, 0, 0, 0] ⟨1, 2, e2, 0, 0, 7, false, 0⟩ = ([0, 0, 0, 0], ⟨1, 3, e2, 0, 0, 7, false, 0⟩) from rfl)
  have Pa2 := Lib.hid (show stp [0, 0, 0, 0] ⟨1, 3, e2, 0, 0, 7, false, 0⟩ = ([0, 0, 7, 0], ⟨1, 4, e2, 0, 0, 7, false, 0⟩) from rfl)
  have Pa3 := Lib.hid (show stp [0, 0, 7, 0] ⟨1, 4, e2, 0, 0, 7, false, 0⟩ = ([0, 1, 7, 0], ⟨1, 0, e2, 0, 0, 0, false, 1⟩) from rfl)
  have Pb0 := Lib.hid (show stp [0, 1, 7, 0] ⟨3, 1, e2, 0, 0, 0, false, 0⟩ = ([0, 1, 7, 0], ⟨3, 2, e2, 0, 0, 0, false, 0⟩) from rfl)
  have Pb1 := Lib.hid (show stp [0, 1, 7, 0] ⟨3, 2, e2, 0, 0, 0, false, 0⟩ = ([0, 1, 7, 0], ⟨3, 3, e2, 1, 0, 0, false, 0⟩) from rfl)
  have Pb2 := Lib.hid (show stp [0, 1, 7, 0] ⟨3, 3, e2, 1, 0, 0, false, 0⟩ = ([0, 1, 7, 0], ⟨3, 4, e2, 1, 0, 7, false, 0⟩) from rfl)
  have Pb3 := Lib.hid (show stp [0, 1, 7, 0] ⟨3, 4, e2, 1, 0, 7, false, 0⟩ = ([1, 1, 7, 0], ⟨3, 0, e2, 1, 0, 7, false, 1⟩) from rfl)
  have Pc0 := Lib.hid (show stp [1, 1, 7, 0] ⟨2, 1, e2, 0, 0, 0, false, 0⟩ = ([1, 1, 7, 0], ⟨2, 2, e2, 0, 0, 0, false, 0⟩) from rfl)
  have Pc1 := Lib.hid (show stp [1, 1, 7, 0] ⟨2, 2, e2, 0, 0, 0, false, 0⟩ = ([1, 0, 7, 0], ⟨2, 3, e2, 0, 0, 0, false, 0⟩) from rfl)
  have Pc2 := Lib.hid (show stp [1, 0, 7, 0] ⟨2, 3, e2, 0, 0, 0, false, 0⟩ = ([1, 0, 7, 0], ⟨2, 7, e2, 0, 1, 0, false, 0⟩) from rfl)
  have Pc3 := Lib.hid (show stp [1, 0, 7, 0] ⟨2, 7, e2, 0, 1, 0, false, 0⟩ = ([1, 1, 7, 0], ⟨2, 0, e2, 0, 1, 0, false, 3⟩) from rfl)
  have W1 := Lib.hid (show Ws [0, 0, 0, 0] (mPush e2 7) from ws_push (nn_lit _ rfl) eo (by decide))
  have W2 := Lib.hid (show Ws [0, 1, 7, 0] (mSteal e2) from ws_steal (nn_lit _ rfl) eo)
  have W3 := Lib.hid (show Ws [1, 1, 7, 0] (mPop e2) from ws_pop (nn_lit _ rfl) eo)
  have hx := box_new w #[.int .i64 0, .int .i64 1, .int .i64 2, .int .i64 2] 25
  have hr := reads_box4 w (.cells #[.int .i64 0, .int .i64 1, .int .i64 2, .int .i64 2] 25) 0 0 0 0
  have HX := Lib.hid (box_kept hx (below_al _ (.cells #[.int .u64 0, .int .u64 0, .int .u64 0, .int .u64 0] 29)))
  have HR := Lib.hid hr
  have HB := Lib.hid (below_alloc0 (below_al w (.cells #[.int .i64 0, .int .i64 1, .int .i64 2, .int .i64 2] 25)) (.cells #[.int .u64 0, .int .u64 0, .int .u64 0, .int .u64 0] 29))
  clear hx hr
  go_enter Try.func8, Try.ntmps8
  go_wp2_with (first
    | (go_at_call 9; (with_reducible refine (new_any _ 4 4 [0, 0, 0, 0] _ rfl HR.out (by decide)).mono ?_); intro a w1 hk; have hz : ∃ S D, a = .returned (ptr S) ∧ Ok w.heap.size S D w.heap.size w w1 e2 [0, 0, 0, 0] 0 := Ok.start (e := e2) HB.out (Nat.le_refl _) HX.out hk; clear hk; obtain ⟨S, D, rfl, hk⟩ := hz; have HK := Lib.hid hk; obtain ⟨x0, x1, x2, x3⟩ := hk.cells2; clear hk)
    | (go_at_call 11; (with_reducible refine (push_any e2 7 _).mono ?_); intro a w2 hk; obtain ⟨M, rfl, hM, hm, hb⟩ := hk; have HA := Lib.hid (Go1.of_new (m := ⟨1, 1, e2, 0, 0, 7, false, 0⟩) HK.out hM hm hb W1.out); clear hM hm hb)
    | fail)
  refine wp_loop_rounds 4 ?_
  iterate 4
    rw [rounds_succ]
    go_wp2_with (first
      | (go_at_call 14; (with_reducible refine (go1_u HA.out (by decide) [0, 0, 0, 0] ⟨1, 2, e2, 0, 0, 7, false, 0⟩ Pa0.out false rfl).mono ?_); rintro a w3 ⟨rfl, hg, hu⟩; have HA := Lib.hid hg; clear hg hu)
      | (go_at_call 14; (with_reducible refine (go1_u HA.out (by decide) [0, 0, 0, 0] ⟨1, 3, e2, 0, 0, 7, false, 0⟩ Pa1.out false rfl).mono ?_); rintro a w3 ⟨rfl, hg, hu⟩; have HA := Lib.hid hg; clear hg hu)
      | (go_at_call 14; (with_reducible refine (go1_u HA.out (by decide) [0, 0, 7, 0] ⟨1, 4, e2, 0, 0, 7, false, 0⟩ Pa2.out false rfl).mono ?_); rintro a w3 ⟨rfl, hg, hu⟩; have HA := Lib.hid hg; clear hg hu)
      | (go_at_call 14; (with_reducible refine (go1_u HA.out (by decide) [0, 1, 7, 0] ⟨1, 0, e2, 0, 0, 0, false, 1⟩ Pa3.out true rfl).mono ?_); rintro a w3 ⟨rfl, hg, hu⟩; have HA := Lib.hid hg; clear hg hu; obtain ⟨x0, x1, x2, x3⟩ := HA.out.ok.cells2)
      | (go_at_call 13; (with_reducible refine (steal_any e2 _).mono ?_); intro a w2 hk; obtain ⟨M2, rfl, hM, hm, hb⟩ := hk; have HB := Lib.hid (Go1.of_new (m := ⟨3, 1, e2, 0, 0, 0, false, 0⟩) HA.out.ok hM hm hb W2.out); have HPA := Lib.hid (HA.out.past hb hM); clear hM hm hb)
      | fail)
  refine wp_loop_rounds 4 ?_
  iterate 4
    rw [rounds_succ]
    go_wp2_with (first
      | (go_at_call 14; (with_reducible refine (go1_u HB.out (by decide) [0, 1, 7, 0] ⟨3, 2, e2, 0, 0, 0, false, 0⟩ Pb0.out false rfl).mono ?_); rintro a w3 ⟨rfl, hg, hu⟩; have HPA := Lib.hid (HPA.out.u hu); have HB := Lib.hid hg; clear hg hu)
      | (go_at_call 14; (with_reducible refine (go1_u HB.out (by decide) [0, 1, 7, 0] ⟨3, 3, e2, 1, 0, 0, false, 0⟩ Pb1.out false rfl).mono ?_); rintro a w3 ⟨rfl, hg, hu⟩; have HPA := Lib.hid (HPA.out.u hu); have HB := Lib.hid hg; clear hg hu)
      | (go_at_call 14; (with_reducible refine (go1_u HB.out (by decide) [0, 1, 7, 0] ⟨3, 4, e2, 1, 0, 7, false, 0⟩ Pb2.out false rfl).mono ?_); rintro a w3 ⟨rfl, hg, hu⟩; have HPA := Lib.hid (HPA.out.u hu); have HB := Lib.hid hg; clear hg hu)
      | (go_at_call 14; (with_reducible refine (go1_u HB.out (by decide) [1, 1, 7, 0] ⟨3, 0, e2, 1, 0, 7, false, 1⟩ Pb3.out true rfl).mono ?_); rintro a w3 ⟨rfl, hg, hu⟩; have HPA := Lib.hid (HPA.out.u hu); have HB := Lib.hid hg; clear hg hu; obtain ⟨x0, x1, x2, x3⟩ := HB.out.ok.cells2)
      | (go_at_call 12; (with_reducible refine (pop_any e2 _).mono ?_); intro a w2 hk; obtain ⟨M3, rfl, hM, hm, hb⟩ := hk; have HC := Lib.hid (Go1.of_new (m := ⟨2, 1, e2, 0, 0, 0, false, 0⟩) HB.out.ok hM hm hb W3.out); have HPB := Lib.hid (HB.out.past hb hM); have HPA := Lib.hid (HPA.out.next hb hM); clear hM hm hb)
      | fail)
  refine wp_loop_rounds 4 ?_
  iterate 4
    rw [rounds_succ]
    go_wp2_with (first
      | (go_at_call 14; (with_reducible refine (go1_u HC.out (by decide) [1, 1, 7, 0] ⟨2, 2, e2, 0, 0, 0, false, 0⟩ Pc0.out false rfl).mono ?_); rintro a w3 ⟨rfl, hg, hu⟩; have HPA := Lib.hid (HPA.out.u hu); have HPB := Lib.hid (HPB.out.u hu); have HC := Lib.hid hg; clear hg hu)
      | (go_at_call 14; (with_reducible refine (go1_u HC.out (by decide) [1, 0, 7, 0] ⟨2, 3, e2, 0, 0, 0, false, 0⟩ Pc1.out false rfl).mono ?_); rintro a w3 ⟨rfl, hg, hu⟩; have HPA := Lib.hid (HPA.out.u hu); have HPB := Lib.hid (HPB.out.u hu); have HC := Lib.hid hg; clear hg hu)
      | (go_at_call 14; (with_reducible refine (go1_u HC.out (by decide) [1, 0, 7, 0] ⟨2, 7, e2, 0, 1, 0, false, 0⟩ Pc2.out false rfl).mono ?_); rintro a w3 ⟨rfl, hg, hu⟩; have HPA := Lib.hid (HPA.out.u hu); have HPB := Lib.hid (HPB.out.u hu); have HC := Lib.hid hg; clear hg hu)
      | (go_at_call 14; (with_reducible refine (go1_u HC.out (by decide) [1, 1, 7, 0] ⟨2, 0, e2, 0, 1, 0, false, 3⟩ Pc3.out true rfl).mono ?_); rintro a w3 ⟨rfl, hg, hu⟩; have HPA := Lib.hid (HPA.out.u hu); have HPB := Lib.hid (HPB.out.u hu); have HC := Lib.hid hg; clear hg hu; obtain ⟨x0, x1, x2, x3⟩ := HC.out.ok.cells2)
      | (go_at_call 15; (with_reducible refine (res_any _ HPA.out.mm).mono ?_); rintro a w4 ⟨rfl, hb⟩; have HPB := Lib.hid (HPB.out.step hb); have HC := Lib.hid (HC.out.res hb); clear hb)
      | (go_at_call 15; (with_reducible refine (res_any _ HPB.out.mm).mono ?_); rintro a w4 ⟨rfl, hb⟩; have HC := Lib.hid (HC.out.res hb); clear hb)
      | (go_at_call 15; (with_reducible refine (res_any _ HC.out.mm).mono ?_); rintro a w4 ⟨rfl, hb⟩; have HC := Lib.hid (HC.out.res hb); clear hb)
      | fail)
  go_ret
  exact ⟨rfl, HC.out.ok.bel⟩
end Go.Proofs.Ytjnenpflpckimaa
