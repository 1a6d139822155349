/- A machine that puts a task somewhere: its block, and each of its functions; walked. A machine that puts a task somewhere: its steps, walked. A machine that puts a task somewhere stands for one over words: a step is that one's. -/
import Derived.Test.YtpocihddecemfaaGreatJ15
import Derived.Test.YtpocihddecemfaaGreatJ16
import Derived.Test.YtpocihddecemfaaGreatJ19
namespace Go.Proofs.YtpocihddecemfaaGreat
open Go.RowKit
set_option linter.unusedVariables false
set_option linter.unusedSimpArgs false
set_option maxRecDepth 100000
open Lay (plcc plc shOf packN nodesN OkC Cfg Norm firstV Rep lenL things)

/-- A machine's block. -/
def Ab (w : World) (X N : Nat) (t : Int) (nx ps pt : Value) : Prop :=
  w.heap[X]? = some (.cells #[Lay.mapP N, .int .u64 t, nx, ps, pt] 176 (0, 0))
section
variable {w w' : World} {X N : Nat} {t : Int} {nx ps pt : Value}
theorem Ab.lt (h : Ab w X N t nx ps pt) : X < w.heap.size := (Array.getElem?_eq_some_iff.1 h).1
theorem Ab.f (h : Ab w X N t nx ps pt) (j : Nat) : w.frozen? ⟨X, j, none⟩ = false := frozen_of_row w X j _ _ h
theorem Ab.c0 (h : Ab w X N t nx ps pt) : w.cell? ⟨X, 0, none⟩ = some (Lay.mapP N) := by have := h; unfold Ab at this; simp [World.cell?, this]
theorem Ab.c1 (h : Ab w X N t nx ps pt) : w.cell? ⟨X, 1, none⟩ = some (.int .u64 t) := by have := h; unfold Ab at this; simp [World.cell?, this]
theorem Ab.c2 (h : Ab w X N t nx ps pt) : w.cell? ⟨X, 2, none⟩ = some nx := by have := h; unfold Ab at this; simp [World.cell?, this]
theorem Ab.c3 (h : Ab w X N t nx ps pt) : w.cell? ⟨X, 3, none⟩ = some ps := by have := h; unfold Ab at this; simp [World.cell?, this]
theorem Ab.c4 (h : Ab w X N t nx ps pt) : w.cell? ⟨X, 4, none⟩ = some pt := by have := h; unfold Ab at this; simp [World.cell?, this]
theorem Ab.c01 (h : Ab w X N t nx ps pt) : w.cell? ⟨X, 0, none⟩ = some (Lay.mapP N) ∧ w.cell? ⟨X, 1, none⟩ = some (.int .u64 t) := ⟨h.c0, h.c1⟩
theorem Ab.same (h : Ab w X N t nx ps pt) (k : w'.heap[X]? = w.heap[X]?) : Ab w' X N t nx ps pt := k.trans h
theorem Ab.step (h : Ab w X N t nx ps pt) (hb : Below w.heap.size w w') : Ab w' X N t nx ps pt := (hb.block X h.lt).trans h
theorem Ab.put (h : Ab w X N t nx ps pt) (i : Nat) (y : Value) {nx' ps' pt' : Value}
    (hh : (#[Lay.mapP N, .int .u64 t, nx, ps, pt] : Array Value).setIfInBounds i y = #[Lay.mapP N, .int .u64 t, nx', ps', pt']) : Ab (w.setCell ⟨X, i, none⟩ y) X N t nx' ps' pt' := by
  unfold Ab
  rw [heap_setCell_same w X i _ 176 _ h, hh]
theorem Ab.p2 (h : Ab w X N t nx ps pt) (y : Value) : Ab (w.setCell ⟨X, 2, none⟩ y) X N t y ps pt := h.put 2 _ rfl
theorem Ab.p3 (h : Ab w X N t nx ps pt) (y : Value) : Ab (w.setCell ⟨X, 3, none⟩ y) X N t nx y pt := h.put 3 _ rfl
theorem Ab.p4 (h : Ab w X N t nx ps pt) (y : Value) : Ab (w.setCell ⟨X, 4, none⟩ y) X N t nx ps y := h.put 4 _ rfl
end

set_option maxHeartbeats 1000000 in
theorem afin_any {w : World} {X N : Nat} {t : Int} {nx ps pt : Value} (h : Ab w X N t nx ps pt) :
    Calls Tryz.prog 145 #[ptr X] w fun e w' => e = .returned (.tuple #[]) ∧ Ab w' X N t .nilFunc ps pt ∧ UF (fun b => b = X) w w' := by
  have q2 := h.c2; have f2 := h.f 2
  have H2 := Lib.hid (h.p2 .nilFunc)
  clear h
  go_enter Tryz.func145, Tryz.ntmps145
  go_wp2
  go_returns
  exact ⟨rfl, H2.out, UF.set _ _ _ _⟩

set_option maxHeartbeats 1000000 in
theorem res_nil (w : World) : Calls Tryz.prog 150 #[.pointer none] w fun a w' => a = .returned (.tuple #[.int .i64 0, .int .u64 0]) ∧ Below w.heap.size w w' := by
  go_enter Tryz.func150, Tryz.ntmps150
  go_wp2
  go_ret2
  exact ⟨rfl, Below.refl _ _⟩
set_option maxHeartbeats 1000000 in
theorem spilled_nil (w : World) : Calls Tryz.prog 144 #[.pointer none] w fun a w' => a = .returned (.bool false) ∧ Below w.heap.size w w' := by
  go_enter Tryz.func144, Tryz.ntmps144
  go_wp2
  go_ret
  exact ⟨rfl, Below.refl _ _⟩
set_option maxHeartbeats 1000000 in
theorem spilled_raw {w : World} {X N : Nat} {t : Int} {nx ps pt : Value} (h : Ab w X N t nx ps pt) (r x : Int)
    (HR : ∀ w1, Below w.heap.size w w1 → Calls Tryz.prog 150 #[ps] w1 fun a w' => a = .returned (.tuple #[.int .i64 r, .int .u64 x]) ∧ Below w1.heap.size w1 w') :
    Calls Tryz.prog 144 #[ptr X] w fun a w' => a = .returned (.bool (decide (r = 2))) ∧ Below w.heap.size w w' := by
  have q3 := h.c3
  have HRR := Lib.hid HR
  clear h HR
  have HB0 := Lib.hid (Below.refl w.heap.size w)
  go_enter Tryz.func144, Tryz.ntmps144
  go_wp2_with (first
    | (go_at_call 150; (with_reducible refine (HRR.out _ HB0.out).mono ?_); rintro a w1 ⟨rfl, hb⟩; have HB1 := Lib.hid hb; clear hb)
    | fail)
  go_ret
  refine ⟨?_, HB1.out⟩
  by_cases hr : r = 2 <;> simp [hr]
theorem spilled_m {w : World} {X N M : Nat} {t : Int} {nx pt : Value} {d : Dg.Mc} (h : Ab w X N t nx (ptr M) pt) (hm : Dg.MM w M d) :
    Calls Tryz.prog 144 #[ptr X] w fun a w' => a = .returned (.bool (decide (Dg.rOf d = 2))) ∧ Below w.heap.size w w' :=
  spilled_raw h (Dg.rOf d) (Dg.xOf d) (fun w1 hb => Dg.res_any w1 (hm.below hb))
theorem spilled_no {w : World} {X N : Nat} {t : Int} {nx pt : Value} (h : Ab w X N t nx (.pointer none) pt) :
    Calls Tryz.prog 144 #[ptr X] w fun a w' => a = .returned (.bool false) ∧ Below w.heap.size w w' :=
  (spilled_raw h 0 0 (fun w1 _ => res_nil w1)).mono fun _ _ h => ⟨h.1, h.2⟩

/-- Where a marker's deque stands. -/
abbrev enC (c : Cfg) (i : Int) : Value := Dg.enV (eOf c i)
/-- Where the answer is laid. -/
structure PR (w w' : World) : Prop where
  bel : Below w.heap.size w w'
  br : w'.heap[w.heap.size]? = some (.cells #[.int .i64 0, .int .i64 0, .int .i64 0, .int .i64 0] 177 (0, 0))
section
variable {w w' w2 : World}
theorem PR.step (k : PR w w') (hb : Below w'.heap.size w' w2) : PR w w2 := ⟨below_step k.bel k.bel.size hb, (hb.block _ (Array.getElem?_eq_some_iff.1 k.br).1).trans k.br⟩
theorem PR.res (k : PR w w') : w'.cell? ⟨w.heap.size, 0, none⟩ = some (.int .i64 0) ∧ w'.cell? ⟨w.heap.size, 1, none⟩ = some (.int .i64 0) ∧ w'.cell? ⟨w.heap.size, 2, none⟩ = some (.int .i64 0) ∧ w'.cell? ⟨w.heap.size, 3, none⟩ = some (.int .i64 0) := by
  have := k.br
  refine ⟨?_, ?_, ?_, ?_⟩ <;> simp [World.cell?, this]
theorem PR.fro (k : PR w w') (j : Nat) : w'.frozen? ⟨w.heap.size, j, none⟩ = false := frozen_of_row w' _ j _ _ k.br
theorem PR.new (w : World) : PR w (w.alloc (.cells #[.int .i64 0, .int .i64 0, .int .i64 0, .int .i64 0] 177)) := ⟨below_alloc0 (Below.refl _ _) _, Go.heap_alloc_new _ _⟩
theorem PR.bel4 (k : PR w w') {v0 v1 v2 v3 : Value} : Below w.heap.size w ((((w'.setCell ⟨w.heap.size, 0, none⟩ v0).setCell ⟨w.heap.size, 1, none⟩ v1).setCell ⟨w.heap.size, 2, none⟩ v2).setCell ⟨w.heap.size, 3, none⟩ v3) :=
  below_uf (below_uf (below_uf (below_uf k.bel (Nat.le_refl _) (UF.set _ _ 0 v0) (fun _ e => Nat.le_of_eq e.symm)) (Nat.le_refl _) (UF.set _ _ 1 v1) (fun _ e => Nat.le_of_eq e.symm)) (Nat.le_refl _) (UF.set _ _ 2 v2) (fun _ e => Nat.le_of_eq e.symm)) (Nat.le_refl _) (UF.set _ _ 3 v3) (fun _ e => Nat.le_of_eq e.symm)
end
@[go_sem] theorem fld_dq (a0 a1 a2 a3 a4 a5 a6 a7 a8 a9 a10 a11 : Int) (w : World) : (Instr.field 24 (.agg #[.int .i64 a0, .int .i64 a1, .int .i64 a2, .int .i64 a3, .int .i64 a4, .int .i64 a5, .int .i64 a6, .int .i64 a7, .int .i64 a8, .int .i64 a9, .int .i64 a10, .int .i64 a11]) 3).run Tryz.prog w = .ok (.int .i64 a7) w := by kernel_rfl
set_option maxHeartbeats 4000000 in
theorem ends_any {c : Cfg} (hc : OkC c) (N : Nat) (i : Int) (hi : (Lit.int .i64 i).wf = true) (w : World) (hm : Lay.IsMap w N c) :
    Calls Tryz.prog 125 #[Lay.mapP N, .int .i64 i] w fun e w' => e = .returned (enC c i) ∧ Below w.heap.size w w' := by
  have HP0 := Lib.hid (PR.new w)
  have HM := Lib.hid hm
  have HC := Lib.hid hc
  have HI := Lib.hid hi
  obtain ⟨x8, h8⟩ : ∃ x, x = plcc c 8 i 0 := ⟨_, rfl⟩
  obtain ⟨x9, h9⟩ : ∃ x, x = plcc c 9 i 0 := ⟨_, rfl⟩
  obtain ⟨x10, h10⟩ : ∃ x, x = plcc c 10 i 0 := ⟨_, rfl⟩
  have ee : enC c i = .agg #[.int .i64 x8, .int .i64 x9, .int .i64 x10, .int .i64 c.dq] := by rw [h8, h9, h10]; rfl
  rw [ee]
  have H8 := Lib.hid h8; have H9 := Lib.hid h9; have H10 := Lib.hid h10
  clear hm hc hi h8 h9 h10 ee
  go_enter Tryz.func125, Tryz.ntmps125
  go_wp2_with (first
    | (go_at_call 133; (with_reducible refine (Lay.top_m HC.out N i HI.out _ (HM.out.below HP0.out.bel)).mono ?_); rintro r w1 ⟨rfl, hb⟩; rw [← H8.out]; have HP1 := Lib.hid (HP0.out.step hb); clear hb)
    | (go_at_call 33; (with_reducible refine (Lay.bottom_m HC.out N i HI.out _ (HM.out.below HP1.out.bel)).mono ?_); rintro r w2 ⟨rfl, hb⟩; rw [← H9.out]; have HP2 := Lib.hid (HP1.out.step hb); clear hb)
    | (go_at_call 134; (with_reducible refine (Lay.entry_m HC.out N i 0 HI.out _ (HM.out.below HP2.out.bel)).mono ?_); rintro r w3 ⟨rfl, hb⟩; rw [← H10.out]; have HP3 := Lib.hid (HP2.out.step hb); clear hb)
    | (go_at_call 81; (with_reducible refine (Lay.config_m N _ (HM.out.below HP3.out.bel)).mono ?_); rintro r w4 ⟨rfl, hb⟩; have HP4 := Lib.hid (HP3.out.step hb); clear hb; obtain ⟨r0, r1, r2, r3⟩ := HP4.out.res; have hfr := HP4.out.fro)
    | fail)
  exact bodyPost_ret (v := .agg #[.int .i64 x8, .int .i64 x9, .int .i64 x10, .int .i64 c.dq]) (by simp [results, Tryz.results125, go_sem, r0, r1, r2, r3]) rfl ⟨rfl, HP4.out.bel4⟩

/-! There is no map. -/
theorem laid_none (w : World) : Calls Tryz.prog 62 #[.pointer none] w fun e w' => ∃ M, e = .returned (Lay.mapP M) ∧ (w'.cell? ⟨M, 27, none⟩ = some (.int .i64 0) ∧ w'.cell? ⟨M, 28, none⟩ = some (.int .i64 0) ∧ w'.cell? ⟨M, 29, none⟩ = some (.int .i64 0) ∧ w'.cell? ⟨M, 30, none⟩ = some (.int .i64 0) ∧ w'.cell? ⟨M, 31, none⟩ = some (.int .i64 0)) ∧ Below w.heap.size w w' := by
  go_enter Tryz.func62, Tryz.ntmps62
  go_wp2
  go_ret
  refine ⟨_, rfl, ?_, (Below.refl _ _).alloc (Nat.le_refl _) _⟩
  refine ⟨?_, ?_, ?_, ?_, ?_⟩
  all_goals (rw [World.cell?_alloc_at _ _ _ _ rfl]; rfl)
theorem row0 : Lay.RowOk 0 0 0 0 0 := by constructor <;> decide
theorem word_no (i j : Int) : Lay.wordL 0 0 0 0 0 i j = -1 := by unfold Lay.wordL; rw [if_neg (by omega)]
theorem item_no (i j : Int) : Lay.itemL 0 0 0 0 0 i j = -1 := by unfold Lay.itemL; rw [if_neg (by omega)]
set_option maxHeartbeats 1000000 in
theorem top_none (i : Int) (hi : (Lit.int .i64 i).wf = true) (w : World) : Calls Tryz.prog 133 #[.pointer none, .int .i64 i] w fun e w' => e = .returned (.int .i64 (-1)) ∧ Below w.heap.size w w' := by
  have HI := Lib.hid hi; clear hi
  go_enter Tryz.func133, Tryz.ntmps133
  go_wp2_with (first
    | (go_at_call 62; (with_reducible refine (laid_none _).mono ?_); rintro r w1 ⟨M, rfl, ⟨r0, r1, r2, r3, r4⟩, hb⟩; have HB := Lib.hid hb; clear hb)
    | (go_at_call 60; (with_reducible refine (Lay.word_any _ _ row0 HI.out (by decide) _).mono ?_); rintro r w2 ⟨rfl, hb1⟩; rw [word_no])
    | fail)
  go_ret
  exact ⟨rfl, below_step HB.out HB.out.size hb1⟩
set_option maxHeartbeats 1000000 in
theorem bottom_none (i : Int) (hi : (Lit.int .i64 i).wf = true) (w : World) : Calls Tryz.prog 33 #[.pointer none, .int .i64 i] w fun e w' => e = .returned (.int .i64 (-1)) ∧ Below w.heap.size w w' := by
  have HI := Lib.hid hi; clear hi
  go_enter Tryz.func33, Tryz.ntmps33
  go_wp2_with (first
    | (go_at_call 62; (with_reducible refine (laid_none _).mono ?_); rintro r w1 ⟨M, rfl, ⟨r0, r1, r2, r3, r4⟩, hb⟩; have HB := Lib.hid hb; clear hb)
    | (go_at_call 60; (with_reducible refine (Lay.word_any _ _ row0 HI.out (by decide) _).mono ?_); rintro r w2 ⟨rfl, hb1⟩; rw [word_no])
    | fail)
  go_ret
  exact ⟨rfl, below_step HB.out HB.out.size hb1⟩
set_option maxHeartbeats 1000000 in
theorem entry_none (i : Int) (hi : (Lit.int .i64 i).wf = true) (w : World) : Calls Tryz.prog 134 #[.pointer none, .int .i64 i, .int .i64 0] w fun e w' => e = .returned (.int .i64 (-1)) ∧ Below w.heap.size w w' := by
  have HI := Lib.hid hi; clear hi
  go_enter Tryz.func134, Tryz.ntmps134
  go_wp2_with (first
    | (go_at_call 62; (with_reducible refine (laid_none _).mono ?_); rintro r w1 ⟨M, rfl, ⟨r0, r1, r2, r3, r4⟩, hb⟩; have HB := Lib.hid hb; clear hb)
    | (go_at_call 64; (with_reducible refine (Lay.item_any _ _ row0 HI.out _).mono ?_); rintro r w2 ⟨rfl, hb1⟩; rw [item_no])
    | fail)
  go_ret
  exact ⟨rfl, below_step HB.out HB.out.size hb1⟩
set_option maxHeartbeats 4000000 in
theorem ends_none (i : Int) (hi : (Lit.int .i64 i).wf = true) (w : World) :
    Calls Tryz.prog 125 #[.pointer none, .int .i64 i] w fun e w' => e = .returned (.agg #[.int .i64 (-1), .int .i64 (-1), .int .i64 (-1), .int .i64 0]) ∧ Below w.heap.size w w' := by
  have HP0 := Lib.hid (PR.new w)
  have HI := Lib.hid hi
  clear hi
  go_enter Tryz.func125, Tryz.ntmps125
  go_wp2_with (first
    | (go_at_call 133; (with_reducible refine (top_none i HI.out _).mono ?_); rintro r w1 ⟨rfl, hb⟩; have HP1 := Lib.hid (HP0.out.step hb); clear hb)
    | (go_at_call 33; (with_reducible refine (bottom_none i HI.out _).mono ?_); rintro r w2 ⟨rfl, hb⟩; have HP2 := Lib.hid (HP1.out.step hb); clear hb)
    | (go_at_call 134; (with_reducible refine (entry_none i HI.out _).mono ?_); rintro r w3 ⟨rfl, hb⟩; have HP3 := Lib.hid (HP2.out.step hb); clear hb)
    | (go_at_call 81; (with_reducible refine (Lay.config_nil _).mono ?_); rintro r w4 ⟨rfl, hb⟩; have HP4 := Lib.hid (HP3.out.step hb); clear hb; obtain ⟨r0, r1, r2, r3⟩ := HP4.out.res; have hfr := HP4.out.fro)
    | fail)
  exact bodyPost_ret (v := .agg #[.int .i64 (-1), .int .i64 (-1), .int .i64 (-1), .int .i64 0]) (by simp [results, Tryz.results125, go_sem, r0, r1, r2, r3]) rfl ⟨rfl, HP4.out.bel4⟩

/-! How it begins. -/
theorem dmm_same {w w' : World} {M : Nat} {d : Dg.Mc} (h : Dg.MM w M d) (k : w'.heap[M]? = w.heap[M]?) : Dg.MM w' M d := by
  obtain ⟨t, b, v, h, e⟩ := h
  exact ⟨t, b, v, k.trans h, e⟩
set_option maxHeartbeats 4000000 in
theorem new_yes {c : Cfg} (hc : OkC c) (N : Nat) (i t : Int) (hi : (Lit.int .i64 i).wf = true) (w : World) (hm : Lay.IsMap w N c) (h : 0 ≤ plcc c 8 i 0) :
    Calls Tryz.prog 115 #[Lay.mapP N, .int .i64 i, .int .u64 t] w fun e w' => ∃ X M, e = .returned (ptr X) ∧ w.heap.size ≤ X ∧ w.heap.size ≤ M ∧ M ≠ X ∧ Ab w' X N t (fnv 127 X) (ptr M) (.pointer none) ∧ Dg.MM w' M (Dg.mPush (eOf c i) t) ∧ Below w.heap.size w w' := by
  have hmf : ∀ (fn : Fn) (first cap : Array Value) (w : World), (Instr.makeFunc fn first cap).run Tryz.prog w = .ok (.func fn first cap) w := fun _ _ _ _ => rfl
  have ha : Ab (w.alloc (.cells #[Lay.mapP N, .int .u64 t, .nilFunc, .pointer none, .pointer none] 176)) w.heap.size N t .nilFunc (.pointer none) (.pointer none) := Go.heap_alloc_new _ _
  have HA0 := Lib.hid ha
  have HB0 := Lib.hid (below_alloc0 (Below.refl w.heap.size w) (.cells #[Lay.mapP N, .int .u64 t, .nilFunc, .pointer none, .pointer none] 176))
  have HM := Lib.hid hm
  have HC := Lib.hid hc
  have HI := Lib.hid hi
  obtain ⟨e, he⟩ : ∃ e, e = eOf c i := ⟨_, rfl⟩
  obtain ⟨e0, e1, e2, e3⟩ := e
  have ee : enC c i = .agg #[.int .i64 e0, .int .i64 e1, .int .i64 e2, .int .i64 e3] := by unfold enC; rw [← he]
  have d1 : decide (e0 < 0) = false := by
    have : e0 = plcc c 8 i 0 := congrArg Dg.En.top he
    rw [this]; simpa using h
  rw [← he]
  have HE := Lib.hid ee
  clear hm hc hi he ee ha h
  go_enter Tryz.func115, Tryz.ntmps115
  go_wp2_with (first
    | (go_at_call 125; (with_reducible refine (ends_any HC.out N i HI.out _ (HM.out.below HB0.out)).mono ?_); rintro r w1 ⟨rfl, hb⟩; rw [HE.out]; have HA1 := Lib.hid (HA0.out.step hb); have HB1 := Lib.hid (below_step HB0.out HB0.out.size hb); clear hb)
    | (go_at_call 126; (with_reducible refine (Dg.push_any ⟨e0, e1, e2, e3⟩ t _).mono ?_); rintro r w2 ⟨M, rfl, hM, hmm, hb⟩; have HA2 := Lib.hid ((HA1.out.step (below_alloc0 (Below.refl _ _) _)).step hb); have HB2 := Lib.hid (below_step (below_alloc0 HB1.out _) (by simp; exact Nat.le_succ_of_le HB1.out.size) hb); have HMM := Lib.hid hmm; have HLT := Lib.hid hM; clear hb hmm hM; have q3 := HA2.out.c3; have f3 := HA2.out.f 3; have HA3 := Lib.hid (HA2.out.p3 (ptr M)); have q2 := HA3.out.c2; have f2 := HA3.out.f 2; have HA4 := Lib.hid (HA3.out.p2 (fnv 127 w.heap.size)))
    | fail)
  go_ret
  have hl := HLT.out
  have hs := HB1.out.size
  have ha := HA1.out.lt
  simp at hl
  have hne : M ≠ w.heap.size := by omega
  exact ⟨w.heap.size, M, rfl, Nat.le_refl _, by omega, hne, HA4.out, dmm_same (dmm_same HMM.out (heap_setCell_other w2 ⟨w.heap.size, 3, none⟩ M _ hne)) (heap_setCell_other _ ⟨w.heap.size, 2, none⟩ M _ hne), below_uf (below_uf HB2.out (Nat.le_refl _) (UF.set _ _ 3 _) (fun _ e => Nat.le_of_eq e.symm)) (Nat.le_refl _) (UF.set _ _ 2 _) (fun _ e => Nat.le_of_eq e.symm)⟩
/-- For a marker that there isn't. -/
theorem new_raw (mp : Option Addr) (v1 v2 v3 e0 i t : Int) (w : World) (h : e0 < 0)
    (HE : ∀ w1, Below w.heap.size w w1 → Calls Tryz.prog 125 #[.pointer mp, .int .i64 i] w1 fun e w' => e = .returned (.agg #[.int .i64 e0, .int .i64 v1, .int .i64 v2, .int .i64 v3]) ∧ Below w1.heap.size w1 w') :
    Calls Tryz.prog 115 #[.pointer mp, .int .i64 i, .int .u64 t] w fun e w' => ∃ X, e = .returned (ptr X) ∧ w.heap.size ≤ X ∧ w'.heap[X]? = some (.cells #[.pointer mp, .int .u64 t, .nilFunc, .pointer none, .pointer none] 176 (0, 0)) ∧ Below w.heap.size w w' := by
  have hmf : ∀ (fn : Fn) (first cap : Array Value) (w : World), (Instr.makeFunc fn first cap).run Tryz.prog w = .ok (.func fn first cap) w := fun _ _ _ _ => rfl
  have ha : (w.alloc (.cells #[.pointer mp, .int .u64 t, .nilFunc, .pointer none, .pointer none] 176)).heap[w.heap.size]? = some (.cells #[.pointer mp, .int .u64 t, .nilFunc, .pointer none, .pointer none] 176 (0, 0)) := Go.heap_alloc_new _ _
  have HA0 := Lib.hid ha
  have HB0 := Lib.hid (below_alloc0 (Below.refl w.heap.size w) (.cells #[.pointer mp, .int .u64 t, .nilFunc, .pointer none, .pointer none] 176))
  have HEE := Lib.hid HE
  have d1 : decide (e0 < 0) = true := by simpa using h
  clear HE ha h
  go_enter Tryz.func115, Tryz.ntmps115
  go_wp2_with (first
    | (go_at_call 125; (with_reducible refine (HEE.out _ HB0.out).mono ?_); rintro r w1 ⟨rfl, hb⟩; have HA1 := Lib.hid ((hb.block _ (Array.getElem?_eq_some_iff.1 HA0.out).1).trans HA0.out); have HB1 := Lib.hid (below_step HB0.out HB0.out.size hb); clear hb)
    | fail)
  go_ret
  exact ⟨w.heap.size, rfl, Nat.le_refl _, ((below_alloc0 (Below.refl _ _) _).block _ (Array.getElem?_eq_some_iff.1 HA1.out).1).trans HA1.out, below_alloc0 HB1.out _⟩
theorem new_no {c : Cfg} (hc : OkC c) (N : Nat) (i t : Int) (hi : (Lit.int .i64 i).wf = true) (w : World) (hm : Lay.IsMap w N c) (h : plcc c 8 i 0 < 0) :
    Calls Tryz.prog 115 #[Lay.mapP N, .int .i64 i, .int .u64 t] w fun e w' => ∃ X, e = .returned (ptr X) ∧ w.heap.size ≤ X ∧ Ab w' X N t .nilFunc (.pointer none) (.pointer none) ∧ Below w.heap.size w w' :=
  new_raw (some ⟨N, 0, none⟩) (plcc c 9 i 0) (plcc c 10 i 0) c.dq (plcc c 8 i 0) i t w h (fun w1 hb => ends_any hc N i hi w1 (hm.below hb))
theorem new_nil (i t : Int) (hi : (Lit.int .i64 i).wf = true) (w : World) :
    Calls Tryz.prog 115 #[.pointer none, .int .i64 i, .int .u64 t] w fun e w' => ∃ X, e = .returned (ptr X) ∧ w.heap.size ≤ X ∧ w'.heap[X]? = some (.cells #[.pointer none, .int .u64 t, .nilFunc, .pointer none, .pointer none] 176 (0, 0)) ∧ Below w.heap.size w w' :=
  new_raw none (-1) (-1) 0 (-1) i t w (by decide) (fun w1 _ => ends_none i hi w1)

/-! Behind the deque's last step. -/
set_option maxHeartbeats 2000000 in
theorem pushed_done {w : World} {X N M : Nat} {t : Int} {nx pt : Value} {d : Dg.Mc} (h : Ab w X N t nx (ptr M) pt) (hm : Dg.MM w M d) (hr : Dg.rOf d ≠ 2) :
    Calls Tryz.prog 139 #[ptr X] w fun e w' => e = .returned (.tuple #[]) ∧ Ab w' X N t .nilFunc (ptr M) pt ∧ UF (fun b => b = X) w w' := by
  have HA := Lib.hid h; have HMM := Lib.hid hm
  have d1 : decide (Dg.rOf d = 2) = false := by simpa using hr
  clear h hm hr
  go_enter Tryz.func139, Tryz.ntmps139
  go_wp2_with (first
    | (go_at_call 144; (with_reducible refine (spilled_m HA.out HMM.out).mono ?_); rintro r w1 ⟨rfl, hb⟩; rw [d1]; have HA1 := Lib.hid (HA.out.step hb); have HB := Lib.hid hb; clear hb)
    | (go_at_call 145; (with_reducible refine (afin_any HA1.out).mono ?_); rintro r w2 ⟨rfl, hk, hu⟩; have HA2 := Lib.hid hk; have HU := Lib.hid hu; clear hk hu)
    | fail)
  go_returns
  exact ⟨rfl, HA2.out, (UF.of_below HB.out).trans HU.out (fun _ x => x) (fun _ _ x => x)⟩
theorem reads_1 {b : Nat} (x : Int) (T : TypeId) (w : World) (hb : b = w.heap.size) : Reads .u64 (w.alloc (.cells #[.int .u64 x] T)) (some ⟨b, 0, none⟩) [x] := fun _ => by
  subst hb
  refine ⟨_, _, rfl, by simp, fun j hj => ?_⟩
  rw [World.cell?_alloc_at _ _ _ _ rfl]
  match j, hj with
  | 0, _ => rfl
theorem reads_1d {b : Nat} (x : Int) (T : TypeId) (w : World) (hb : b = w.heap.size) : Reads .u64 (w.alloc (.cells #[.int .u64 x] T)).drew (some ⟨b, 0, none⟩) [x] := reads_1 x T w hb
theorem at_new {w w' : World} {b k : Nat} (hb : b = w.heap.size) (h : w'.heap.size ≤ k ∨ AtB (some ⟨b, 0, none⟩) k) (hs : w.heap.size ≤ w'.heap.size) : w.heap.size ≤ k := by
  rcases h with h | ⟨off, e⟩
  · omega
  · injection e with e; injection e with e1; omega
set_option maxHeartbeats 8000000 in
theorem pushed_full {c : Cfg} (hc : OkC c) {w : World} {X N M : Nat} {t : Int} {nx pt : Value} {d : Dg.Mc} (h : Ab w X N t nx (ptr M) pt) (hm : Dg.MM w M d) (hmp : Lay.IsMap w N c) (hr : Dg.rOf d = 2) (ht : 0 ≤ t ∧ t ≤ 18446744073709551615) :
    Calls Tryz.prog 139 #[ptr X] w fun e w' => e = .returned (.tuple #[]) ∧ ∃ X2 O2 D2, PKM w' X2 O2 D2 c N (pPut (gOf c) [t]) ∧ (∀ k, O2 k → w.heap.size ≤ k) ∧ (∀ k, D2 k → w.heap.size ≤ k) ∧ Ab w' X N t (fnv 147 X) (ptr M) (ptr X2) ∧ UF (fun b => b = X) w w' := by
  have hmf : ∀ (fn : Fn) (first cap : Array Value) (w : World), (Instr.makeFunc fn first cap).run Tryz.prog w = .ok (.func fn first cap) w := fun _ _ _ _ => rfl
  have HA := Lib.hid h; have HMM := Lib.hid hm; have HMP := Lib.hid hmp; have HC := Lib.hid hc
  have HTW : Hid (∀ z ∈ [t], 0 ≤ z ∧ z ≤ 18446744073709551615) := Lib.hid (by simpa using ht)
  have d1 : decide (Dg.rOf d = 2) = true := by simpa using hr
  clear h hm hr hmp hc ht
  go_enter Tryz.func139, Tryz.ntmps139
  go_wp2_with (first
    | (go_at_call 144; (with_reducible refine (spilled_m HA.out HMM.out).mono ?_); rintro r w1 ⟨rfl, hb⟩; rw [d1]; have HA1 := Lib.hid (HA.out.step hb); have HB := Lib.hid hb; have HM1 := Lib.hid (HMP.out.below hb); obtain ⟨q0, q1⟩ := (HA.out.step hb).c01; clear hb)
    | fail)
  go_region_held3 (fun w' => w'.cell? ⟨X, 0, none⟩ = some (Lay.mapP N) ∧ w'.cell? ⟨X, 1, none⟩ = some (.int .u64 t))
    (first | (with_reducible exact HA3.out.c01) | (with_reducible exact HA2.out.c01) | (with_reducible exact (HA1.out.step (below_alloc0 (Below.refl _ _) _).drew).c01) | (with_reducible exact (HA1.out.step (below_alloc0 (Below.refl _ _) _)).c01) | (with_reducible exact HA1.out.c01) | go_keep)
    (first
      | (go_at_call 146; (with_reducible refine (put_pk HC.out N _ 1 1 [t] _ (HM1.out.below (below_alloc0 (Below.refl _ _) _).drew) rfl (reads_1d _ _ _ (by simp)) HTW.out (by decide) (by decide)).mono ?_); rintro r w2 ⟨X2, O2, D2, rfl, hp, ho, hd, hb⟩; have HA2 := Lib.hid ((HA1.out.step (below_alloc0 (Below.refl _ _) _).drew).step hb); have HB2 := Lib.hid (below_step (below_alloc0 (Below.refl _ _) _).drew (by simp) hb); have HP := Lib.hid hp; have HO := Lib.hid ho; have HD := Lib.hid hd; clear hb hp ho hd; have q4 := HA2.out.c4; have f4 := HA2.out.f 4; have HA3 := Lib.hid (HA2.out.p4 (ptr X2)))
      | fail)
  all_goals
    have q2 := HA3.out.c2
    have f2 := HA3.out.f 2
    have HA4 := Lib.hid (HA3.out.p2 (fnv 147 X))
    have hlt := HA1.out.lt
    have hsz := HB.out.size
    have hX : X < w.heap.size := HA.out.lt
    have hD : ∀ k, D2 k → w1.heap.size ≤ k := fun k hk => by
      rcases HD.out k hk with h | ⟨off, e⟩
      · have h' : (w1.heap.push _).size ≤ k := h
        simp at h'; omega
      · injection e with e; injection e with e1; omega
    have hO : ∀ k, O2 k → w1.heap.size ≤ k := fun k hk => by
      have h' : (w1.heap.push _).size ≤ k := HO.out k hk
      simp at h'; omega
    have HDD := Lib.hid hD; have HOO := Lib.hid hO
    clear hD hO
    go_wp2
    go_returns
    refine ⟨rfl, X2, O2, D2, ?_, fun k hk => Nat.le_trans hsz (HOO.out k hk), fun k hk => Nat.le_trans hsz (HDD.out k hk), HA4.out, ?_⟩
    · exact HP.out.keep (by simp) fun k hk => by
        have hne : k ≠ X := by have := HDD.out k hk; omega
        exact (heap_setCell_other _ ⟨X, 2, none⟩ k _ hne).trans (heap_setCell_other w2 ⟨X, 4, none⟩ k _ hne)
    · have u0 : UF (fun b => b = X) w w2 := (UF.of_below HB.out).trans (UF.of_below (F := fun b => b = X) HB2.out) (fun _ x => x) (fun _ _ x => x)
      exact (u0.trans (UF.set w2 X 4 (ptr X2)) (fun _ x => x) (fun _ _ x => x)).trans (UF.set _ X 2 _) (fun _ x => x) (fun _ _ x => x)
end Go.Proofs.YtpocihddecemfaaGreat

namespace Go.Proofs.YtpocihddecemfaaGreat
open Go.RowKit
set_option linter.unusedVariables false
set_option linter.unusedSimpArgs false
set_option maxRecDepth 100000
open Lay (plcc plc shOf packN nodesN OkC Cfg Norm firstV Rep lenL things)

set_option maxHeartbeats 2000000 in
theorem goOn_d (w : World) (X M S : Nat) (b : Bool) (Q R : World → Prop)
    (HS : Calls Tryz.prog 138 #[ptr M, ptr S] w fun e w' => e = .returned (.bool b) ∧ Q w')
    (HT : b = true → ∀ w1, Q w1 → Calls Tryz.prog 139 #[ptr X] w1 fun e w' => e = .returned (.tuple #[]) ∧ R w')
    (HF : b = false → ∀ w1, Q w1 → R w1) :
    Calls Tryz.prog 137 #[.func (.func 138) #[] #[], ptr M, ptr S, fnv 139 X] w fun e w' => e = .returned (.tuple #[]) ∧ R w' := by
  cases b
  · have HSS := Lib.hid HS; have HFF := Lib.hid (HF rfl)
    clear HS HT HF
    go_enter Tryz.func137, Tryz.ntmps137
    go_wp2_with (first
      | (go_at_call 138; (with_reducible refine HSS.out.mono ?_); rintro r w1 ⟨rfl, hq⟩; have HR := Lib.hid (HFF.out w1 hq); clear hq)
      | fail)
    go_returns
    exact ⟨rfl, HR.out⟩
  · have HSS := Lib.hid HS; have HTT := Lib.hid (HT rfl)
    clear HS HT HF
    go_enter Tryz.func137, Tryz.ntmps137
    go_wp2_with (first
      | (go_at_call 138; (with_reducible refine HSS.out.mono ?_); rintro r w1 ⟨rfl, hq⟩; have HQ := Lib.hid hq; clear hq)
      | (go_at_call 139; (with_reducible refine (HTT.out _ HQ.out).mono ?_); rintro r w2 ⟨rfl, hr⟩; have HR := Lib.hid hr; clear hr)
      | fail)
    go_returns
    exact ⟨rfl, HR.out⟩
set_option maxHeartbeats 2000000 in
theorem goOn_p (w : World) (X M S : Nat) (b : Bool) (Q R : World → Prop)
    (HS : Calls Tryz.prog 154 #[ptr M, ptr S] w fun e w' => e = .returned (.bool b) ∧ Q w')
    (HT : b = true → ∀ w1, Q w1 → Calls Tryz.prog 145 #[ptr X] w1 fun e w' => e = .returned (.tuple #[]) ∧ R w')
    (HF : b = false → ∀ w1, Q w1 → R w1) :
    Calls Tryz.prog 153 #[.func (.func 154) #[] #[], ptr M, ptr S, fnv 145 X] w fun e w' => e = .returned (.tuple #[]) ∧ R w' := by
  cases b
  · have HSS := Lib.hid HS; have HFF := Lib.hid (HF rfl)
    clear HS HT HF
    go_enter Tryz.func153, Tryz.ntmps153
    go_wp2_with (first
      | (go_at_call 154; (with_reducible refine HSS.out.mono ?_); rintro r w1 ⟨rfl, hq⟩; have HR := Lib.hid (HFF.out w1 hq); clear hq)
      | fail)
    go_returns
    exact ⟨rfl, HR.out⟩
  · have HSS := Lib.hid HS; have HTT := Lib.hid (HT rfl)
    clear HS HT HF
    go_enter Tryz.func153, Tryz.ntmps153
    go_wp2_with (first
      | (go_at_call 154; (with_reducible refine HSS.out.mono ?_); rintro r w1 ⟨rfl, hq⟩; have HQ := Lib.hid hq; clear hq)
      | (go_at_call 145; (with_reducible refine (HTT.out _ HQ.out).mono ?_); rintro r w2 ⟨rfl, hr⟩; have HR := Lib.hid hr; clear hr)
      | fail)
    go_returns
    exact ⟨rfl, HR.out⟩
set_option maxHeartbeats 2000000 in
theorem pushTask_raw {w : World} {X N M S : Nat} {t : Int} {nx pt : Value} (h : Ab w X N t nx (ptr M) pt) (b : Bool) (Q R : World → Prop)
    (HS : Calls Tryz.prog 138 #[ptr M, ptr S] w fun e w' => e = .returned (.bool b) ∧ Q w')
    (HT : b = true → ∀ w1, Q w1 → Calls Tryz.prog 139 #[ptr X] w1 fun e w' => e = .returned (.tuple #[]) ∧ R w')
    (HF : b = false → ∀ w1, Q w1 → R w1) :
    Calls Tryz.prog 127 #[ptr X, ptr S] w fun e w' => e = .returned (.tuple #[]) ∧ R w' := by
  have hmf : ∀ (fn : Fn) (first cap : Array Value) (w : World), (Instr.makeFunc fn first cap).run Tryz.prog w = .ok (.func fn first cap) w := fun _ _ _ _ => rfl
  have HG := Lib.hid (goOn_d w X M S b Q R HS HT HF)
  have q3 := h.c3
  clear HS HT HF h
  go_enter Tryz.func127, Tryz.ntmps127
  go_wp2_with (first
    | (go_at_call 137; (with_reducible refine HG.out.mono ?_); rintro r w1 ⟨rfl, hr⟩; have HR := Lib.hid hr; clear hr)
    | fail)
  go_returns
  exact ⟨rfl, HR.out⟩
set_option maxHeartbeats 2000000 in
theorem putTask_raw {w : World} {X N M S : Nat} {t : Int} {nx ps : Value} (h : Ab w X N t nx ps (ptr M)) (b : Bool) (Q R : World → Prop)
    (HS : Calls Tryz.prog 154 #[ptr M, ptr S] w fun e w' => e = .returned (.bool b) ∧ Q w')
    (HT : b = true → ∀ w1, Q w1 → Calls Tryz.prog 145 #[ptr X] w1 fun e w' => e = .returned (.tuple #[]) ∧ R w')
    (HF : b = false → ∀ w1, Q w1 → R w1) :
    Calls Tryz.prog 147 #[ptr X, ptr S] w fun e w' => e = .returned (.tuple #[]) ∧ R w' := by
  have hmf : ∀ (fn : Fn) (first cap : Array Value) (w : World), (Instr.makeFunc fn first cap).run Tryz.prog w = .ok (.func fn first cap) w := fun _ _ _ _ => rfl
  have HG := Lib.hid (goOn_p w X M S b Q R HS HT HF)
  have q4 := h.c4
  clear HS HT HF h
  go_enter Tryz.func147, Tryz.ntmps147
  go_wp2_with (first
    | (go_at_call 153; (with_reducible refine HG.out.mono ?_); rintro r w1 ⟨rfl, hr⟩; have HR := Lib.hid hr; clear hr)
    | fail)
  go_returns
  exact ⟨rfl, HR.out⟩

set_option maxHeartbeats 1000000 in
theorem astep_raw (w : World) (X S f : Nat) (c2 : w.cell? ⟨X, 2, none⟩ = some (fnv f X)) (hen : ∀ a w, (callFunc f a).run Tryz.prog w = .ok (.enter f a) w) (b : Bool) (Q : World → Prop)
    (HN : Calls Tryz.prog f #[ptr X, ptr S] w fun e w' => e = .returned (.tuple #[]) ∧ Q w') (hQ : ∀ w', Q w' → (b = true ∧ w'.cell? ⟨X, 2, none⟩ = some .nilFunc) ∨ (b = false ∧ ∃ f', w'.cell? ⟨X, 2, none⟩ = some (fnv f' X))) :
    Calls Tryz.prog 128 #[ptr X, ptr S] w fun e w' => e = .returned (.bool b) ∧ Q w' := by
  cases b
  · have HNN := Lib.hid HN; have HQ := Lib.hid hQ; clear HN hQ
    go_enter Tryz.func128, Tryz.ntmps128
    go_wp2_with (first
      | ((with_reducible refine HNN.out.mono ?_); rintro r w1 ⟨rfl, hk⟩; have HK := Lib.hid hk; obtain ⟨f', d4⟩ : ∃ f', w1.cell? ⟨X, 2, none⟩ = some (fnv f' X) := (by rcases HQ.out w1 hk with ⟨h, _⟩ | ⟨_, h⟩; cases h; exact h); clear hk)
      | fail)
    go_ret
    exact ⟨rfl, HK.out⟩
  · have HNN := Lib.hid HN; have HQ := Lib.hid hQ; clear HN hQ
    go_enter Tryz.func128, Tryz.ntmps128
    go_wp2_with (first
      | ((with_reducible refine HNN.out.mono ?_); rintro r w1 ⟨rfl, hk⟩; have HK := Lib.hid hk; have d4 : w1.cell? ⟨X, 2, none⟩ = some .nilFunc := (by rcases HQ.out w1 hk with ⟨_, h⟩ | ⟨h, _⟩; exact h; cases h); clear hk)
      | fail)
    go_ret
    exact ⟨rfl, HK.out⟩
set_option maxHeartbeats 1000000 in
theorem astep_off (w : World) (X : Nat) (v : Value) (c2 : w.cell? ⟨X, 2, none⟩ = some .nilFunc) :
    Calls Tryz.prog 128 #[ptr X, v] w fun e w' => e = .returned (.bool true) ∧ w = w' := by
  go_enter Tryz.func128, Tryz.ntmps128
  go_wp2
  go_ret
  exact ⟨rfl, rfl⟩
set_option maxHeartbeats 1000000 in
theorem step_niladd (v : Value) (w : World) : Calls Tryz.prog 128 #[.pointer none, v] w fun e w' => e = .returned (.bool true) ∧ w = w' := by
  go_enter Tryz.func128, Tryz.ntmps128
  go_wp2
  go_ret
  exact ⟨rfl, rfl⟩
end Go.Proofs.YtpocihddecemfaaGreat

namespace Go.Proofs.YtpocihddecemfaaGreat
open Go.RowKit
set_option linter.unusedVariables false
set_option linter.unusedSimpArgs false
set_option maxRecDepth 100000
open Lay (plcc plc shOf packN nodesN OkC Cfg Norm firstV Rep lenL things)

/-- A machine at X that stands for m: it changes blocks of O, and hangs on those of Dp. -/
def AKM (w : World) (X : Nat) (O Dp : Nat → Prop) (c : Cfg) (N : Nat) (m : Am) : Prop :=
  X ≠ N ∧ O X ∧ (∀ k, O k → Dp k) ∧ (∀ k, Dp k → k < w.heap.size) ∧ ∃ nx ps pt, Ab w X N m.task nx ps pt ∧
    ((m.pc = 0 ∧ nx = .nilFunc ∧ ps = .pointer none ∧ m.sp = false) ∨
     ∃ M, ps = ptr M ∧ Dg.MM w M m.d ∧ O M ∧ M ≠ X ∧ M ≠ N ∧ m.sp = decide (Dg.rOf m.d = 2) ∧
      ((m.pc = 0 ∧ nx = .nilFunc) ∨ (m.pc = 1 ∧ nx = fnv 127 X ∧ m.d.pc ≠ 0) ∨
       (m.pc = 2 ∧ nx = fnv 147 X ∧ m.p.pc ≠ 0 ∧ ∃ X2 O2 D2, pt = ptr X2 ∧ PKM w X2 O2 D2 c N m.p ∧ (∀ k, O2 k → O k) ∧ (∀ k, D2 k → Dp k) ∧ ¬ D2 X ∧ ¬ D2 M)))
section
variable {w w' : World} {X N : Nat} {O Dp : Nat → Prop} {c : Cfg} {m : Am}
theorem AKM.ins (h : AKM w X O Dp c N m) : O X ∧ (∀ k, O k → Dp k) ∧ ∀ k, Dp k → k < w.heap.size := ⟨h.2.1, h.2.2.1, h.2.2.2.1⟩
theorem AKM.lt (h : AKM w X O Dp c N m) : X < w.heap.size := h.ins.2.2 X (h.ins.2.1 X h.ins.1)
theorem AKM.keep (h : AKM w X O Dp c N m) (hs : w.heap.size ≤ w'.heap.size) (hb : ∀ k, Dp k → w'.heap[k]? = w.heap[k]?) : AKM w' X O Dp c N m := by
  obtain ⟨h1, h2, h3, h4, nx, ps, pt, h5, h6⟩ := h
  refine ⟨h1, h2, h3, fun k hk => Nat.lt_of_lt_of_le (h4 k hk) hs, nx, ps, pt, h5.same (hb X (h3 X h2)), ?_⟩
  rcases h6 with h6 | ⟨M, e, hm, oM, n1, n2, hsp, h7⟩
  · exact .inl h6
  · refine .inr ⟨M, e, dmm_same hm (hb M (h3 M oM)), oM, n1, n2, hsp, ?_⟩
    rcases h7 with h7 | h7 | ⟨a, b, b2, X2, O2, D2, d, hp, f, g, i, j⟩
    · exact .inl h7
    · exact .inr (.inl h7)
    · exact .inr (.inr ⟨a, b, b2, X2, O2, D2, d, hp.keep hs (fun k hk => hb k (g k hk)), f, g, i, j⟩)
theorem AKM.below (h : AKM w X O Dp c N m) (hb : Below w.heap.size w w') : AKM w' X O Dp c N m := h.keep hb.size fun k hk => hb.block k (h.ins.2.2 k hk)
/-- What is next. -/
theorem AKM.nx (h : AKM w X O Dp c N m) : (m.pc = 0 ∧ w.cell? ⟨X, 2, none⟩ = some .nilFunc) ∨ (m.pc ≠ 0 ∧ ∃ f, w.cell? ⟨X, 2, none⟩ = some (fnv f X)) := by
  obtain ⟨h1, h2, h3, h4, nx, ps, pt, h5, h6⟩ := h
  rcases h6 with ⟨a, rfl, _⟩ | ⟨M, e, hm, oM, n1, n2, hsp, ⟨a, rfl⟩ | ⟨a, rfl, _⟩ | ⟨a, rfl, _⟩⟩
  · exact .inl ⟨a, h5.c2⟩
  · exact .inl ⟨a, h5.c2⟩
  · exact .inr ⟨by omega, _, h5.c2⟩
  · exact .inr ⟨by omega, _, h5.c2⟩
theorem AKM.spilled (h : AKM w X O Dp c N m) : Calls Tryz.prog 144 #[ptr X] w fun a w' => a = .returned (.bool m.sp) ∧ Below w.heap.size w w' := by
  obtain ⟨h1, h2, h3, h4, nx, ps, pt, h5, h6⟩ := h
  rcases h6 with ⟨_, _, rfl, e⟩ | ⟨M, rfl, hm, _, _, _, e, _⟩
  · rw [e]; exact spilled_no h5
  · rw [e]; exact spilled_m h5 hm
end
def acost (m : Am) (cc : Int) : Int := if m.pc = 0 then cc else cc + 1
/-- Behind a step: a machine, the store, what else may have changed. -/
def ABehind (w : World) (S D : Nat) (c : Cfg) (N X : Nat) (O Dp : Nat → Prop) (L : List Int) (cc : Int) (m : Am) (w' : World) : Prop :=
  (∃ O' D', AKM w' X O' D' c N m ∧ (∀ k, O' k → O k ∨ w.heap.size ≤ k) ∧ (∀ k, D' k → Dp k ∨ w.heap.size ≤ k)) ∧ St w' S D L cc ∧ UF (fun k => k = S ∨ k = D ∨ O k) w w'
section
variable {w : World} {X S D N : Nat} {c : Cfg} {O Dp : Nat → Prop} {m : Am} {L : List Int} {cc t : Int}
set_option maxHeartbeats 1000000 in
theorem step_ak (hc : OkC c) (h : AKM w X O Dp c N m) (hs : St w S D L cc) (hm : Lay.IsMap w N c) (a1 : ¬ Dp S) (a2 : ¬ Dp D) (a3 : ¬ O N) (a4 : N ≠ S) (a5 : N ≠ D)
    (wm : AW c t m) (ww : WW L) (h0 : 0 ≤ cc) (h1 : cc ≤ 900000000) (ht : t ≤ 900000000) :
    Calls Tryz.prog 128 #[ptr X, ptr S] w fun e w' => e = .returned (.bool (decide ((astp (gOf c) L m).2.pc = 0))) ∧ ABehind w S D c N X O Dp (astp (gOf c) L m).1 (acost m cc) (astp (gOf c) L m).2 w' := by
  obtain ⟨g1, g2, g3, g4, nx, ps, pt, h5, h6⟩ := id h
  have hX := h.lt
  have dX : Dp X := g3 X g2
  have nS : X ≠ S := fun e => a1 (e ▸ dX)
  have nD : X ≠ D := fun e => a2 (e ▸ dX)
  have off : m.pc = 0 → nx = .nilFunc → Calls Tryz.prog 128 #[ptr X, ptr S] w fun e w' => e = .returned (.bool (decide ((astp (gOf c) L m).2.pc = 0))) ∧ ABehind w S D c N X O Dp (astp (gOf c) L m).1 (acost m cc) (astp (gOf c) L m).2 w' := fun p0 en => by
    have e : astp (gOf c) L m = (L, m) := by simp [astp, p0]
    rw [e]
    subst en
    refine (astep_off w X (ptr S) h5.c2).mono ?_
    rintro e w' ⟨rfl, rfl⟩
    refine ⟨by simp [p0], ⟨O, Dp, h, fun k hk => .inl hk, fun k hk => .inl hk⟩, ?_, .refl _ _⟩
    unfold acost; rw [if_pos p0]; exact hs
  rcases h6 with ⟨p0, en, _⟩ | ⟨M, rfl, hmm, oM, nMX, nMN, hsp, ⟨p0, en⟩ | ⟨p1, rfl, hd⟩ | ⟨p2, rfl, hpp, X2, O2, D2, rfl, hp, sO, sD, nDX, nDM⟩⟩
  · exact off p0 en
  · exact off p0 en
  · -- the deque
    have dM : Dp M := g3 M oM
    have mS : M ≠ S := fun e => a1 (e ▸ dM)
    have mD : M ≠ D := fun e => a2 (e ▸ dM)
    have dw := wm.d p1
    have ws : Dg.Wf m.d := ⟨by first | exact .inl dw.kd | exact dw.kd, dw.ok, dw.b.1, dw.t⟩
    have hstp := Dg.step_any w (hmm.mi hs mS mD) ws h0 (by omega)
    have ec : Dg.cst m.d cc = cc + 1 := by unfold Dg.cst; rw [if_neg hd]
    have ea : acost m cc = cc + 1 := by unfold acost; rw [if_neg (by omega)]
    have hr0 : Dg.rOf m.d = 0 := by unfold Dg.rOf; rw [if_neg hd]
    have hsf : m.sp = false := by rw [hsp, hr0]; decide
    rw [ec] at hstp
    have ea1 : (astp (gOf c) L m).1 = (Dg.stp L m.d).1 := by simp [astp, p1]
    have ea2 : (astp (gOf c) L m).2 = if (Dg.stp L m.d).2.pc = 0 then (if (Dg.stp L m.d).2.out = 2 then { m with d := (Dg.stp L m.d).2, pc := 2, sp := true, p := pPut (gOf c) [m.task] } else { m with d := (Dg.stp L m.d).2, pc := 0 }) else { m with d := (Dg.stp L m.d).2 } := by simp [astp, p1]
    rw [ea, ea1, ea2]
    generalize Dg.stp L m.d = z at hstp ⊢
    obtain ⟨L', d'⟩ := z
    dsimp only at hstp ⊢
    have ab1 : ∀ w1, Dg.Mi w w1 M S D d' L' (cc + 1) → Ab w1 X N m.task (fnv 127 X) (ptr M) pt := fun w1 hk => h5.same (hk.u.block X hX (Ne.symm nMX) nS nD)
    have uf1 : ∀ w1, Dg.Mi w w1 M S D d' L' (cc + 1) → UF (fun k => k = S ∨ k = D ∨ O k) w w1 := fun w1 hk => (UF.of_u3 hk.u).mono fun b _ e => by
      rcases e with rfl | rfl | rfl
      · exact .inr (.inr oM)
      · exact .inl rfl
      · exact .inr (.inl rfl)
    have goal : ∀ m' : Am, (∀ w1, Dg.Mi w w1 M S D d' L' (cc + 1) → d'.pc = 0 → Calls Tryz.prog 139 #[ptr X] w1 fun e w' => e = .returned (.tuple #[]) ∧ ABehind w S D c N X O Dp L' (cc + 1) m' w') →
        (∀ w1, Dg.Mi w w1 M S D d' L' (cc + 1) → d'.pc ≠ 0 → ABehind w S D c N X O Dp L' (cc + 1) m' w1) →
        Calls Tryz.prog 128 #[ptr X, ptr S] w fun e w' => e = .returned (.bool (decide (m'.pc = 0))) ∧ ABehind w S D c N X O Dp L' (cc + 1) m' w' := fun m' hT hF => by
      refine astep_raw w X S 127 h5.c2 (fun a w => by simp [go_sem]) (decide (m'.pc = 0)) _ ?_ ?_
      · refine pushTask_raw h5 (decide (d'.pc = 0)) (fun w1 => Dg.Mi w w1 M S D d' L' (cc + 1)) _ hstp (fun e w1 hk => hT w1 hk (by simpa using e)) (fun e w1 hk => hF w1 hk (by simpa using e))
      · rintro w' ⟨⟨O', D', hk, _⟩, _⟩
        rcases hk.nx with ⟨a, b⟩ | ⟨a, b⟩
        · exact .inl ⟨by simpa using a, b⟩
        · exact .inr ⟨by simpa using a, b⟩
    refine goal _ (fun w1 hk hp0 => ?_) (fun w1 hk hp0 => ?_)
    · have hl1 := hk.u.size
      have hm1 := hk.mm
      by_cases ho : d'.out = 2
      · rw [if_pos hp0, if_pos ho]
        have hr : Dg.rOf d' = 2 := by unfold Dg.rOf; rw [if_pos hp0]; exact ho
        have hmp1 : Lay.IsMap w1 N c := IsMap_same hm hl1 ((UF.of_u3 hk.u).block N hm.1 (fun e => by rcases e with e | e | e; exact nMN e.symm; exact a4 e; exact a5 e))
        refine (pushed_full hc (ab1 w1 hk) hm1 hmp1 hr wm.tk).mono ?_
        rintro e w2 ⟨rfl, X2, O2, D2, hp, lo, ld, hab, u⟩
        have hs2 := u.size
        refine ⟨rfl, ⟨fun k => O k ∨ O2 k, fun k => Dp k ∨ D2 k, ⟨g1, .inl g2, fun k hk => hk.imp (g3 k) (hp.ins.2.1 k), fun k hk => ?_, _, _, _, hab, .inr ⟨M, rfl, dmm_same hm1 (u.block M hm1.lt nMX), .inl oM, nMX, nMN, by simp [hr], .inr (.inr ⟨rfl, rfl, by simp [pPut], X2, O2, D2, rfl, hp, fun k hk => .inr hk, fun k hk => .inr hk, fun hk => ?_, fun hk => ?_⟩)⟩⟩, fun k hk => ?_, fun k hk => ?_⟩, ?_, ?_⟩
        · rcases hk with hk | hk
          · have := g4 k hk; omega
          · exact hp.ins.2.2 k hk
        · have := ld X hk; omega
        · have := ld M hk; have := hmm.lt; omega
        · rcases hk with hk | hk
          · exact .inl hk
          · have := lo k hk; exact .inr (by omega)
        · rcases hk with hk | hk
          · exact .inl hk
          · have := ld k hk; exact .inr (by omega)
        · exact St_same hk.st (u.block S hk.st.ltS (Ne.symm nS)) (u.block D hk.st.row.lt (Ne.symm nD))
        · exact (uf1 w1 hk).trans u (fun _ x => x) (fun b _ e => by subst e; exact .inr (.inr g2))
      · rw [if_pos hp0, if_neg ho]
        have hr : Dg.rOf d' ≠ 2 := by unfold Dg.rOf; rw [if_pos hp0]; exact ho
        refine (pushed_done (ab1 w1 hk) hm1 hr).mono ?_
        rintro e w2 ⟨rfl, hab, u⟩
        have hs2 := u.size
        refine ⟨rfl, ⟨O, Dp, ⟨g1, g2, g3, fun k hk => by have := g4 k hk; omega, _, _, _, hab, .inr ⟨M, rfl, dmm_same hm1 (u.block M hm1.lt nMX), oM, nMX, nMN, by simp [hr, hsf], .inl ⟨rfl, rfl⟩⟩⟩, fun k hk => .inl hk, fun k hk => .inl hk⟩, ?_, ?_⟩
        · exact St_same hk.st (u.block S hk.st.ltS (Ne.symm nS)) (u.block D hk.st.row.lt (Ne.symm nD))
        · exact (uf1 w1 hk).trans u (fun _ x => x) (fun b _ e => by subst e; exact .inr (.inr g2))
    · rw [if_neg hp0]
      have hl1 := hk.u.size
      have hr : Dg.rOf d' = 0 := by unfold Dg.rOf; rw [if_neg hp0]
      exact ⟨⟨O, Dp, ⟨g1, g2, g3, fun k hk => by have := g4 k hk; omega, _, _, _, ab1 w1 hk, .inr ⟨M, rfl, hk.mm, oM, nMX, nMN, by simp [hr, hsf], .inr (.inl ⟨p1, rfl, hp0⟩)⟩⟩, fun k hk => .inl hk, fun k hk => .inl hk⟩, hk.st, uf1 w1 hk⟩
  · -- the packet
    have hstp := step_pk hc hp hs hm (fun e => a1 (sD _ e)) (fun e => a2 (sD _ e)) (fun e => a3 (sO _ e)) a4 a5 (wm.p p2) ww h0 h1 ht
    have ec : pcost m.p cc = cc + 1 := by unfold pcost; rw [if_neg hpp]
    have ea : acost m cc = cc + 1 := by unfold acost; rw [if_neg (by omega)]
    rw [ec] at hstp
    have dM : Dp M := g3 M oM
    have mS : M ≠ S := fun e => a1 (e ▸ dM)
    have mD : M ≠ D := fun e => a2 (e ▸ dM)
    have ea1 : (astp (gOf c) L m).1 = (pstp (gOf c) L m.p).1 := by simp [astp, p2]
    have ea2 : (astp (gOf c) L m).2 = if (pstp (gOf c) L m.p).2.pc = 0 then { m with p := (pstp (gOf c) L m.p).2, pc := 0 } else { m with p := (pstp (gOf c) L m.p).2 } := by simp [astp, p2]
    rw [ea, ea1, ea2]
    generalize pstp (gOf c) L m.p = z at hstp ⊢
    obtain ⟨L', p'⟩ := z
    dsimp only at hstp ⊢
    have O2X : ¬ O2 X := fun e => nDX (hp.ins.2.1 _ e)
    have O2M : ¬ O2 M := fun e => nDM (hp.ins.2.1 _ e)
    have fro : ∀ (w1 : World) (k : Nat), UF (fun k => k = S ∨ k = D ∨ O2 k) w w1 → k < w.heap.size → k ≠ S → k ≠ D → ¬ O2 k → w1.heap[k]? = w.heap[k]? := fun w1 k u hk e1 e2 e3 => u.block k hk (fun e => by rcases e with e | e | e; exact e1 e; exact e2 e; exact e3 e)
    obtain ⟨Q, hQ⟩ : ∃ Q : World → Prop, Q = fun w' => (∃ O' D', PKM w' X2 O' D' c N p' ∧ (∀ k, O' k → O2 k ∨ w.heap.size ≤ k) ∧ (∀ k, D' k → D2 k ∨ w.heap.size ≤ k)) ∧ St w' S D L' (cc + 1) ∧ UF (fun k => k = S ∨ k = D ∨ O2 k) w w' := ⟨_, rfl⟩
    have hstp' : Calls Tryz.prog 154 #[ptr X2, ptr S] w fun e w' => e = .returned (.bool (decide (p'.pc = 0))) ∧ Q w' := by rw [hQ]; exact hstp
    have goal : ∀ m' : Am, (∀ w1, Q w1 → p'.pc = 0 → Calls Tryz.prog 145 #[ptr X] w1 fun e w' => e = .returned (.tuple #[]) ∧ ABehind w S D c N X O Dp L' (cc + 1) m' w') →
        (∀ w1, Q w1 → p'.pc ≠ 0 → ABehind w S D c N X O Dp L' (cc + 1) m' w1) →
        Calls Tryz.prog 128 #[ptr X, ptr S] w fun e w' => e = .returned (.bool (decide (m'.pc = 0))) ∧ ABehind w S D c N X O Dp L' (cc + 1) m' w' := fun m' hT hF => by
      refine astep_raw w X S 147 h5.c2 (fun a w => by simp [go_sem]) (decide (m'.pc = 0)) _ ?_ ?_
      · refine putTask_raw h5 (decide (p'.pc = 0)) Q _ hstp' (fun e w1 hk => hT w1 hk (by simpa using e)) (fun e w1 hk => hF w1 hk (by simpa using e))
      · rintro w' ⟨⟨O', D', hk, _⟩, _⟩
        rcases hk.nx with ⟨a, b⟩ | ⟨a, b⟩
        · exact .inl ⟨by simpa using a, b⟩
        · exact .inr ⟨by simpa using a, b⟩
    subst hQ
    refine goal _ ?_ ?_
    · rintro w1 ⟨⟨O', D', hk, ho, hd⟩, hst, u⟩ hp0
      rw [if_pos hp0]
      have hl1 := u.size
      refine (afin_any (h5.same (fro w1 X u hX nS nD O2X))).mono ?_
      rintro e w2 ⟨rfl, hab, u2⟩
      have hs2 := u2.size
      refine ⟨rfl, ⟨O, Dp, ⟨g1, g2, g3, fun k hk => by have := g4 k hk; omega, _, _, _, hab, .inr ⟨M, rfl, dmm_same (dmm_same hmm (fro w1 M u hmm.lt mS mD O2M)) (u2.block M (by have := hmm.lt; omega) nMX), oM, nMX, nMN, hsp, .inl ⟨rfl, rfl⟩⟩⟩, fun k hk => .inl hk, fun k hk => .inl hk⟩, ?_, ?_⟩
      · exact St_same hst (u2.block S hst.ltS (Ne.symm nS)) (u2.block D hst.row.lt (Ne.symm nD))
      · exact (u.mono (H := fun k => k = S ∨ k = D ∨ O k) (fun b _ e => by rcases e with e | e | e; exact .inl e; exact .inr (.inl e); exact .inr (.inr (sO b e)))).trans u2 (fun _ x => x) (fun b _ e => by subst e; exact .inr (.inr g2))
    · rintro w1 ⟨⟨O', D', hk, ho, hd⟩, hst, u⟩ hp0
      rw [if_neg hp0]
      have hl1 := u.size
      refine ⟨⟨fun k => O k ∨ O' k, fun k => Dp k ∨ D' k, ⟨g1, .inl g2, fun k h => h.imp (g3 k) (hk.ins.2.1 k), fun k h => ?_, _, _, _, h5.same (fro w1 X u hX nS nD O2X), .inr ⟨M, rfl, dmm_same hmm (fro w1 M u hmm.lt mS mD O2M), .inl oM, nMX, nMN, hsp, .inr (.inr ⟨p2, rfl, hp0, X2, O', D', rfl, hk, fun k h => .inr h, fun k h => .inr h, fun h => ?_, fun h => ?_⟩)⟩⟩, fun k h => ?_, fun k h => ?_⟩, hst, ?_⟩
      · rcases h with h | h
        · have := g4 k h; omega
        · exact hk.ins.2.2 k h
      · rcases hd X h with h | h
        · exact nDX h
        · omega
      · rcases hd M h with h | h
        · exact nDM h
        · have := hmm.lt; omega
      · rcases h with h | h
        · exact .inl h
        · exact (ho k h).imp (sO k) id
      · rcases h with h | h
        · exact .inl h
        · exact (hd k h).imp (sD k) id
      · exact u.mono fun b _ e => by rcases e with e | e | e; exact .inl e; exact .inr (.inl e); exact .inr (.inr (sO b e))
/-- A machine in new memory. -/
def NewA (w : World) (c : Cfg) (N : Nat) (m : Am) (e : Ending) (w' : World) : Prop :=
  ∃ X O Dp, e = .returned (ptr X) ∧ AKM w' X O Dp c N m ∧ (∀ k, Dp k → w.heap.size ≤ k) ∧ Below w.heap.size w w'
/-- A machine that does nothing. -/
def aNone (t : Int) : Am := ⟨0, t, Dg.mPush ⟨0, 0, 0, 0⟩ 0, pnone, false⟩
theorem top_neg {i : Int} (hc : OkC c) (h : i < 0 ∨ c.mr ≤ i) : plcc c 8 i 0 < 0 := by
  rw [← Lay.plc_top hc i, Lay.wordL, if_neg (by omega)]; decide
theorem top_pos {i : Int} (hc : OkC c) (h0 : 0 ≤ i) (h1 : i < c.mr) : 0 ≤ plcc c 8 i 0 := by
  rw [top_is hc h0 h1]; exact mk_pos hc h0
theorem newA_yes (hc : OkC c) (N : Nat) (i t : Int) (hi : (Lit.int .i64 i).wf = true) (w : World) (hm : Lay.IsMap w N c) (h0 : 0 ≤ i) (h1 : i < c.mr) :
    Calls Tryz.prog 115 #[Lay.mapP N, .int .i64 i, .int .u64 t] w (NewA w c N (aNew (eOf c i) t)) := by
  refine (new_yes hc N i t hi w hm (top_pos hc h0 h1)).mono ?_
  rintro e w' ⟨X, M, rfl, hX, hM, hne, hab, hmm, hb⟩
  have hN := hm.1
  refine ⟨X, fun k => k = X ∨ k = M, fun k => k = X ∨ k = M, rfl, ⟨by omega, .inl rfl, fun k h => h, fun k h => ?_, _, _, _, hab, .inr ⟨M, rfl, hmm, .inr rfl, hne, by omega, rfl, .inr (.inl ⟨rfl, rfl, by simp [aNew, Dg.mPush]⟩)⟩⟩, fun k h => ?_, hb⟩
  · rcases h with rfl | rfl
    · exact hab.lt
    · exact hmm.lt
  · rcases h with rfl | rfl
    · exact hX
    · exact hM
theorem newA_no (hc : OkC c) (N : Nat) (i t : Int) (hi : (Lit.int .i64 i).wf = true) (w : World) (hm : Lay.IsMap w N c) (h : i < 0 ∨ c.mr ≤ i) :
    Calls Tryz.prog 115 #[Lay.mapP N, .int .i64 i, .int .u64 t] w (NewA w c N (aNone t)) := by
  refine (new_no hc N i t hi w hm (top_neg hc h)).mono ?_
  rintro e w' ⟨X, rfl, hX, hab, hb⟩
  have hN := hm.1
  exact ⟨X, fun k => k = X, fun k => k = X, rfl, ⟨by omega, rfl, fun k h => h, fun k h => by subst h; exact hab.lt, _, _, _, hab, .inl ⟨rfl, rfl, rfl, rfl⟩⟩, fun k h => by subst h; exact hX, hb⟩
end
end Go.Proofs.YtpocihddecemfaaGreat
