/- A map that there isn't, and a machine that is new; walked. -/
import Derived.Test.YtbjhciccpkbmoaaClM
import Derived.Test.YtbjhciccpkbmoaaLayListsPure
import Derived.Laws.StructEq
namespace Go.Proofs.Ytbjhciccpkbmoaa
open Go.RowKit
set_option linter.unusedVariables false
set_option linter.unusedSimpArgs false
open Lay (plcc plc shOf OkC wordL kindOf)

/-- A map of nothing. -/
def Map0 (w : World) (M : Nat) : Prop := ∀ i, i < 62 → w.cell? ⟨M, i, none⟩ = some (.int .i64 0)
theorem laid0_nil (w : World) : Calls Try.prog 57 #[.pointer none] w fun e w' => ∃ M, e = .returned (Lay.mapP M) ∧ Map0 w' M ∧ Below w.heap.size w w' := by
  go_enter Try.func57, Try.ntmps57
  go_wp2
  go_ret
  refine ⟨_, rfl, fun i hi => ?_, (Below.refl _ _).alloc (Nat.le_refl _) _⟩
  rw [World.cell?_alloc_at _ _ _ _ rfl]
  have e : ∀ i, i < 62 → (Array.replicate 62 (Value.int .i64 0))[i]? = some (.int .i64 0) := fun i hi => by simp [hi]
  exact e i hi
theorem ok0r : Lay.RowOk 0 0 0 0 0 := ⟨by decide, by decide, by decide, by decide, by decide, by decide, by decide, by decide, by decide, by decide⟩
theorem kind0 (v : Int) : kindOf 0 0 0 0 0 v = -1 := by
  unfold kindOf
  rw [Lay.many_is ⟨by decide, by decide⟩]
  omega
theorem word0 (v j : Int) : wordL 0 0 0 0 0 v j = -1 := by unfold wordL; rw [if_neg (by omega)]
theorem word0_any (v j : Int) (hi : (Lit.int .i64 v).wf = true) (hj : 0 ≤ j ∧ j ≤ 1000) (w : World) : Calls Try.prog 51 #[Lay.rowV 0 0 0 0 0, .int .i64 v, .int .i64 j] w fun e w' => e = .returned (.int .i64 (-1)) ∧ Below w.heap.size w w' := by
  have h := Lay.word_any v j ok0r hi hj w
  rw [word0] at h; exact h
theorem class0_any (v : Int) (w : World) : Calls Try.prog 75 #[.agg #[.int .i64 0, .int .i64 0, .int .i64 0, .int .i64 0, .int .i64 0], .int .i64 v] w fun r w' => r = .returned (.int .i64 (-1)) ∧ Below w.heap.size w w' := by
  have h := Lay.class_any 0 0 0 0 0 v w
  rw [kind0] at h; exact h
theorem classN_any (v : Int) (w : World) : Calls Try.prog 65 #[.pointer none, .int .i64 v] w fun e w' => e = .returned (.int .i64 (-1)) ∧ Below w.heap.size w w' := by
  go_enter Try.func65, Try.ntmps65
  go_wp2_with (first
    | (go_at_call 57; (with_reducible refine (laid0_nil _).mono ?_); rintro r w1 ⟨M, rfl, hm, hb⟩; have r0 := hm 0 (by decide); have r1 := hm 1 (by decide); have r2 := hm 2 (by decide); have r3 := hm 3 (by decide); have r4 := hm 4 (by decide); clear hm)
    | (go_at_call 75; (with_reducible refine (class0_any _ _).mono ?_); rintro r w2 ⟨rfl, hb2⟩)
    | fail)
  go_ret
  exact ⟨rfl, below_then hb hb2⟩
theorem workN_any (w : World) : Calls Try.prog 27 #[.pointer none] w fun e w' => e = .returned (.int .i64 (-1)) ∧ Below w.heap.size w w' := by
  go_enter Try.func27, Try.ntmps27
  go_wp2_with (first
    | (go_at_call 57; (with_reducible refine (laid0_nil _).mono ?_); rintro r w1 ⟨M, rfl, hm, hb⟩; have r0 := hm 12 (by decide); have r1 := hm 13 (by decide); have r2 := hm 14 (by decide); have r3 := hm 15 (by decide); have r4 := hm 16 (by decide); clear hm)
    | (go_at_call 51; (with_reducible refine (word0_any _ _ (by decide) (by decide) _).mono ?_); rintro r w2 ⟨rfl, hb2⟩)
    | fail)
  go_ret
  exact ⟨rfl, below_then hb hb2⟩
theorem rowN_any (v : Int) (w : World) : Calls Try.prog 50 #[.pointer none, .int .i64 v] w fun e w' => e = .returned (Lay.rowV 0 0 0 0 0) ∧ Below w.heap.size w w' := by
  have HB := Below.refl w.heap.size w
  go_enter Try.func50, Try.ntmps50
  go_wp2_with (first
    | (go_at_call 65; (with_reducible refine (classN_any _ _).mono ?_); rintro r w1 ⟨rfl, hb1⟩; obtain ⟨hcc, hff⟩ := Lay.bcell hb1)
    | fail)
  have HB1 := below_step (below_alloc0 HB _) (by simp) hb1
  have hz := hb1.size
  refine bodyPost_ret (v := Lay.rowV 0 0 0 0 0) (by simp [results, Try.results50, go_sem, hcc]) rfl ⟨rfl, ?_⟩
  go_grown
theorem markN_any (v : Int) (hv : (Lit.int .i64 v).wf = true) (w : World) : Calls Try.prog 18 #[.pointer none, .int .i64 v] w fun e w' => e = .returned (.int .i64 (-1)) ∧ Below w.heap.size w w' := by
  have HV := Lib.hid hv; clear hv
  go_enter Try.func18, Try.ntmps18
  go_wp2_with (first
    | (go_at_call 50; (with_reducible refine (rowN_any _ _).mono ?_); rintro r w1 ⟨rfl, hb⟩)
    | (go_at_call 51; (with_reducible refine (word0_any _ _ HV.out (by decide) _).mono ?_); rintro r w2 ⟨rfl, hb2⟩)
    | fail)
  go_ret
  exact ⟨rfl, below_then hb hb2⟩

set_option maxHeartbeats 1000000 in
theorem nowhere_any (w : World) : Calls Try.prog 48 #[] w fun e w' => e = .returned (.agg #[.int .i64 (-1), .int .i64 (-1)]) ∧ Below w.heap.size w w' := by
  go_enter Try.func48, Try.ntmps48
  go_wp2
  exact bodyPost_ret (v := .agg #[.int .i64 (-1), .int .i64 (-1)]) (by simp [results, Try.results48, go_sem]) rfl ⟨rfl, below_alloc0 (Below.refl _ _) _⟩

/-- A new machine's block, told in later worlds. -/
def Nb (w w' : World) (X : Nat) (wk p cy : Int) (nx : Value) : Prop := Cb w' X wk p cy nx 0 false ∧ w.heap.size ≤ X ∧ Below w.heap.size w w'
section
variable {w w' w2 : World} {X : Nat} {wk p cy : Int} {nx : Value}
theorem Nb.start {w0 : World} (hb : Below w.heap.size w w0) : Nb w (w0.alloc (.cells #[.int .i64 wk, .int .i64 p, .int .u64 cy, nx, .int .u64 0, .bool false] 89)) w0.heap.size wk p cy nx :=
  ⟨Go.heap_alloc_new _ _, hb.size, below_alloc0 hb _⟩
theorem Nb.step (h : Nb w w' X wk p cy nx) (hb : Below w'.heap.size w' w2) : Nb w w2 X wk p cy nx := ⟨(hb.block X h.1.lt).trans h.1, h.2.1, below_then h.2.2 hb⟩
theorem Nb.drew (h : Nb w w' X wk p cy nx) : Nb w w'.drew X wk p cy nx := h.step (Below.refl _ _).drew
theorem Nb.cc (h : Nb w w' X wk p cy nx) : w'.cell? ⟨X, 0, none⟩ = some (.int .i64 wk) ∧ w'.cell? ⟨X, 1, none⟩ = some (.int .i64 p) := ⟨h.1.c0, h.1.c1⟩
theorem Nb.p3 (h : Nb w w' X wk p cy nx) (y : Value) : Nb w (w'.setCell ⟨X, 3, none⟩ y) X wk p cy y := ⟨h.1.put 3 _ rfl, h.2.1, h.2.2.setCell h.2.1 _⟩
end
set_option maxHeartbeats 4000000 in
theorem newm_any {c : Lay.Cfg} (hc : OkC c) (N : Nat) (v cy : Int) (hv : (Lit.int .i64 v).wf = true) (w : World) (hm : Lay.IsMap w N c) :
    Calls Try.prog 16 #[Lay.mapP N, .int .i64 v, .int .u64 cy] w fun e w' => ∃ X, e = .returned (ptr X) ∧ Nb w w' X (plcc c 1 0 0) (plcc c 16 v 0) cy (fnc 49 X) := by
  have hmf : ∀ (fn : Fn) (first cap : Array Value) (w : World), (Instr.makeFunc fn first cap).run Try.prog w = .ok (.func fn first cap) w := fun _ _ _ _ => rfl
  have HC := Lib.hid hc; have HM := Lib.hid hm; have HV := Lib.hid hv
  have e1 : plcc c 1 0 0 = 1 := Lay.single_pos c 1 (by omega) (by omega)
  rw [e1]
  obtain ⟨p, hp⟩ : ∃ p, p = plcc c 16 v 0 := ⟨_, rfl⟩
  rw [← hp]
  have HP := Lib.hid hp
  clear hc hm hv e1 hp
  go_enter Try.func16, Try.ntmps16
  go_wp2_with (first
    | (go_at_call 27; (with_reducible refine (Lay.work_m HC.out N _ HM.out).mono ?_); rintro r w1 ⟨rfl, hb⟩; rw [show plcc c 1 0 0 = 1 from Lay.single_pos c 1 (by omega) (by omega)]; have HB1 := Lib.hid hb; have HM1 := Lib.hid (HM.out.below hb); clear hb)
    | (go_at_call 18; (with_reducible refine (Lay.mark_m HC.out N _ HV.out _ HM1.out).mono ?_); rintro r w2 ⟨rfl, hb⟩; rw [← HP.out]; have HNB := Lib.hid (Nb.start (wk := 1) (p := p) (cy := cy) (nx := .nilFunc) (below_then HB1.out hb)); clear hb)
    | fail)
  obtain ⟨X, hX⟩ : ∃ X, X = w2.heap.size := ⟨_, rfl⟩
  rw [← hX] at HNB ⊢
  obtain ⟨W, hW⟩ : ∃ W, W = w2.alloc (Obj.cells #[.int .i64 1, .int .i64 p, .int .u64 cy, .nilFunc, .int .u64 0, .bool false] 89) := ⟨_, rfl⟩
  rw [← hW] at HNB ⊢
  clear hX hW HB1
  have HND := Lib.hid HNB.out.drew
  obtain ⟨r0, r1⟩ := HNB.out.cc
  go_region_held3 (fun w' => w'.cell? ⟨X, 0, none⟩ = some (.int .i64 1) ∧ w'.cell? ⟨X, 1, none⟩ = some (.int .i64 p))
    (first | exact H1.out.cc | exact HND.out.cc | go_keep)
    (first
      | (go_at_call 48; (with_reducible refine (nowhere_any _).mono ?_); rintro r w3 ⟨rfl, hb⟩; have H1 := Lib.hid (HND.out.step hb); clear hb)
      | fail)
  have q3 := H1.out.1.c3; have f3 := H1.out.1.f 3
  have H2 := Lib.hid (H1.out.p3 (fnc 49 X))
  go_wp2
  go_ret
  exact ⟨_, rfl, H2.out⟩
set_option maxHeartbeats 4000000 in
theorem newN_any (v cy : Int) (hv : (Lit.int .i64 v).wf = true) (w : World) :
    Calls Try.prog 16 #[.pointer none, .int .i64 v, .int .u64 cy] w fun e w' => ∃ X, e = .returned (ptr X) ∧ Nb w w' X (-1) (-1) cy .nilFunc := by
  have HV := Lib.hid hv
  clear hv
  go_enter Try.func16, Try.ntmps16
  go_wp2_with (first
    | (go_at_call 27; (with_reducible refine (workN_any _).mono ?_); rintro r w1 ⟨rfl, hb⟩; have HB1 := Lib.hid hb; clear hb)
    | (go_at_call 18; (with_reducible refine (markN_any _ HV.out _).mono ?_); rintro r w2 ⟨rfl, hb⟩; have HNB := Lib.hid (Nb.start (wk := -1) (p := -1) (cy := cy) (nx := .nilFunc) (below_then HB1.out hb)); clear hb)
    | fail)
  obtain ⟨X, hX⟩ : ∃ X, X = w2.heap.size := ⟨_, rfl⟩
  rw [← hX] at HNB ⊢
  obtain ⟨W, hW⟩ : ∃ W, W = w2.alloc (Obj.cells #[.int .i64 (-1), .int .i64 (-1), .int .u64 cy, .nilFunc, .int .u64 0, .bool false] 89) := ⟨_, rfl⟩
  rw [← hW] at HNB ⊢
  clear hX hW HB1
  have HND := Lib.hid HNB.out.drew
  obtain ⟨r0, r1⟩ := HNB.out.cc
  go_region_held3 (fun w' => w'.cell? ⟨X, 0, none⟩ = some (.int .i64 (-1)) ∧ w'.cell? ⟨X, 1, none⟩ = some (.int .i64 (-1)))
    (first | exact H1.out.cc | exact HND.out.cc | go_keep)
    (first
      | (go_at_call 48; (with_reducible refine (nowhere_any _).mono ?_); rintro r w3 ⟨rfl, hb⟩; have H1 := Lib.hid (HND.out.step hb); clear hb)
      | fail)
  go_wp2
  go_ret
  exact ⟨_, rfl, H1.out⟩
end Go.Proofs.Ytbjhciccpkbmoaa
