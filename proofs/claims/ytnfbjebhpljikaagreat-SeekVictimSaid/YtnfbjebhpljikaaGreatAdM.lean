/- A machine that puts a task somewhere: its block, and each of its functions; walked. -/
import Derived.Test.YtnfbjebhpljikaaGreatPkD
import Derived.Test.YtnfbjebhpljikaaGreatJ17
import Derived.Test.YtnfbjebhpljikaaGreatJ21
namespace Go.Proofs.YtnfbjebhpljikaaGreat
open Go.RowKit
set_option linter.unusedVariables false
set_option linter.unusedSimpArgs false
set_option maxRecDepth 100000
open Lay (plcc plc shOf packN nodesN OkC Cfg Norm firstV Rep lenL things)

/-- A machine's block. -/
def Ab (w : World) (X N : Nat) (t : Int) (nx ps pt : Value) : Prop :=
  w.heap[X]? = some (.cells #[Lay.mapP N, .int .u64 t, nx, ps, pt] 84 (0, 0))
section
variable {w w' : World} {X N : Nat} {t : Int} {nx ps pt : Value}
theorem Ab.lt (h : Ab w X N t nx ps pt) : X < w.heap.size := (Array.getElem?_eq_some_iff.1 h).1
theorem Ab.f (h : Ab w X N t nx ps pt) (j : Nat) : w.frozen? ⟨X, j, none⟩ = false := frozen_of_row w X j _ _ h
theorem Ab.c0 (h : Ab w X N t nx ps pt) : w.cell? ⟨X, 0, none⟩ = some (Lay.mapP N) := by have := h; unfold Ab at this; simp [World.cell?, this]
theorem Ab.c1 (h : Ab w X N t nx ps pt) : w.cell? ⟨X, 1, none⟩ = some (.int .u64 t) := by have := h; unfold Ab at this; simp [World.cell?, this]
theorem Ab.c2 (h : Ab w X N t nx ps pt) : w.cell? ⟨X, 2, none⟩ = some nx := by have := h; unfold Ab at this; simp [World.cell?, this]
theorem Ab.c3 (h : Ab w X N t nx ps pt) : w.cell? ⟨X, 3, none⟩ = some ps := by have := h; unfold Ab at this; simp [World.cell?, this]
theorem Ab.c4 (h : Ab w X N t nx ps pt) : w.cell? ⟨X, 4, none⟩ = some pt := by have := h; unfold Ab at this; simp [World.cell?, this]
theorem Ab.c01 (h : Ab w X N t nx ps pt) : w.cell? ⟨X, 0, none⟩ = some (Lay.mapP N) ∧ w.cell? ⟨X, 1, none⟩ = some (.int .u64 t) := ⟨h.c0, h.c1⟩
theorem Ab.same (h : Ab w X N t nx ps pt) (k : w'.heap[X]? = w.heap[X]?) : Ab w' X N t nx ps pt := k.trans h
theorem Ab.step (h : Ab w X N t nx ps pt) (hb : Below w.heap.size w w') : Ab w' X N t nx ps pt := (hb.block X h.lt).trans h
theorem Ab.put (h : Ab w X N t nx ps pt) (i : Nat) (y : Value) {nx' ps' pt' : Value}
    (hh : (#[Lay.mapP N, .int .u64 t, nx, ps, pt] : Array Value).setIfInBounds i y = #[Lay.mapP N, .int .u64 t, nx', ps', pt']) : Ab (w.setCell ⟨X, i, none⟩ y) X N t nx' ps' pt' := by
  unfold Ab
  rw [heap_setCell_same w X i _ 84 _ h, hh]
theorem Ab.p2 (h : Ab w X N t nx ps pt) (y : Value) : Ab (w.setCell ⟨X, 2, none⟩ y) X N t y ps pt := h.put 2 _ rfl
theorem Ab.p3 (h : Ab w X N t nx ps pt) (y : Value) : Ab (w.setCell ⟨X, 3, none⟩ y) X N t nx y pt := h.put 3 _ rfl
theorem Ab.p4 (h : Ab w X N t nx ps pt) (y : Value) : Ab (w.setCell ⟨X, 4, none⟩ y) X N t nx ps y := h.put 4 _ rfl
end

set_option maxHeartbeats 1000000 in
theorem afin_any {w : World} {X N : Nat} {t : Int} {nx ps pt : Value} (h : Ab w X N t nx ps pt) :
    Calls Tryz.prog 91 #[ptr X] w fun e w' => e = .returned (.tuple #[]) ∧ Ab w' X N t .nilFunc ps pt ∧ UF (fun b => b = X) w w' := by
  have q2 := h.c2; have f2 := h.f 2
  have H2 := Lib.hid (h.p2 .nilFunc)
  clear h
  go_enter Tryz.func91, Tryz.ntmps91
  go_wp2
  go_returns
  exact ⟨rfl, H2.out, UF.set _ _ _ _⟩

set_option maxHeartbeats 1000000 in
theorem res_nil (w : World) : Calls Tryz.prog 71 #[.pointer none] w fun a w' => a = .returned (.tuple #[.int .i64 0, .int .u64 0]) ∧ Below w.heap.size w w' := by
  go_enter Tryz.func71, Tryz.ntmps71
  go_wp2
  go_ret2
  exact ⟨rfl, Below.refl _ _⟩
set_option maxHeartbeats 1000000 in
theorem spilled_nil (w : World) : Calls Tryz.prog 90 #[.pointer none] w fun a w' => a = .returned (.bool false) ∧ Below w.heap.size w w' := by
  go_enter Tryz.func90, Tryz.ntmps90
  go_wp2
  go_ret
  exact ⟨rfl, Below.refl _ _⟩
set_option maxHeartbeats 1000000 in
theorem spilled_raw {w : World} {X N : Nat} {t : Int} {nx ps pt : Value} (h : Ab w X N t nx ps pt) (r x : Int)
    (HR : ∀ w1, Below w.heap.size w w1 → Calls Tryz.prog 71 #[ps] w1 fun a w' => a = .returned (.tuple #[.int .i64 r, .int .u64 x]) ∧ Below w1.heap.size w1 w') :
    Calls Tryz.prog 90 #[ptr X] w fun a w' => a = .returned (.bool (decide (r = 2))) ∧ Below w.heap.size w w' := by
  have q3 := h.c3
  have HRR := Lib.hid HR
  clear h HR
  have HB0 := Lib.hid (Below.refl w.heap.size w)
  go_enter Tryz.func90, Tryz.ntmps90
  go_wp2_with (first
    | (go_at_call 71; (with_reducible refine (HRR.out _ HB0.out).mono ?_); rintro a w1 ⟨rfl, hb⟩; have HB1 := Lib.hid hb; clear hb)
    | fail)
  go_ret
  refine ⟨?_, HB1.out⟩
  by_cases hr : r = 2 <;> simp [hr]
theorem spilled_m {w : World} {X N M : Nat} {t : Int} {nx pt : Value} {d : Dg.Mc} (h : Ab w X N t nx (ptr M) pt) (hm : Dg.MM w M d) :
    Calls Tryz.prog 90 #[ptr X] w fun a w' => a = .returned (.bool (decide (Dg.rOf d = 2))) ∧ Below w.heap.size w w' :=
  spilled_raw h (Dg.rOf d) (Dg.xOf d) (fun w1 hb => Dg.res_any w1 (hm.below hb))
theorem spilled_no {w : World} {X N : Nat} {t : Int} {nx pt : Value} (h : Ab w X N t nx (.pointer none) pt) :
    Calls Tryz.prog 90 #[ptr X] w fun a w' => a = .returned (.bool false) ∧ Below w.heap.size w w' :=
  (spilled_raw h 0 0 (fun w1 _ => res_nil w1)).mono fun _ _ h => ⟨h.1, h.2⟩

/-- Where a marker's deque stands. -/
abbrev enC (c : Cfg) (i : Int) : Value := Dg.enV (eOf c i)
/-- Where the answer is laid. -/
structure PR (w w' : World) : Prop where
  bel : Below w.heap.size w w'
  br : w'.heap[w.heap.size]? = some (.cells #[.int .i64 0, .int .i64 0, .int .i64 0, .int .i64 0] 80 (0, 0))
section
variable {w w' w2 : World}
theorem PR.step (k : PR w w') (hb : Below w'.heap.size w' w2) : PR w w2 := ⟨below_step k.bel k.bel.size hb, (hb.block _ (Array.getElem?_eq_some_iff.1 k.br).1).trans k.br⟩
theorem PR.res (k : PR w w') : w'.cell? ⟨w.heap.size, 0, none⟩ = some (.int .i64 0) ∧ w'.cell? ⟨w.heap.size, 1, none⟩ = some (.int .i64 0) ∧ w'.cell? ⟨w.heap.size, 2, none⟩ = some (.int .i64 0) ∧ w'.cell? ⟨w.heap.size, 3, none⟩ = some (.int .i64 0) := by
  have := k.br
  refine ⟨?_, ?_, ?_, ?_⟩ <;> simp [World.cell?, this]
theorem PR.fro (k : PR w w') (j : Nat) : w'.frozen? ⟨w.heap.size, j, none⟩ = false := frozen_of_row w' _ j _ _ k.br
theorem PR.new (w : World) : PR w (w.alloc (.cells #[.int .i64 0, .int .i64 0, .int .i64 0, .int .i64 0] 80)) := ⟨below_alloc0 (Below.refl _ _) _, Go.heap_alloc_new _ _⟩
theorem PR.bel4 (k : PR w w') {v0 v1 v2 v3 : Value} : Below w.heap.size w ((((w'.setCell ⟨w.heap.size, 0, none⟩ v0).setCell ⟨w.heap.size, 1, none⟩ v1).setCell ⟨w.heap.size, 2, none⟩ v2).setCell ⟨w.heap.size, 3, none⟩ v3) :=
  below_uf (below_uf (below_uf (below_uf k.bel (Nat.le_refl _) (UF.set _ _ 0 v0) (fun _ e => Nat.le_of_eq e.symm)) (Nat.le_refl _) (UF.set _ _ 1 v1) (fun _ e => Nat.le_of_eq e.symm)) (Nat.le_refl _) (UF.set _ _ 2 v2) (fun _ e => Nat.le_of_eq e.symm)) (Nat.le_refl _) (UF.set _ _ 3 v3) (fun _ e => Nat.le_of_eq e.symm)
end
@[go_sem] theorem fld_dq (a0 a1 a2 a3 a4 a5 a6 a7 a8 a9 a10 a11 : Int) (w : World) : (Instr.field 27 (.agg #[.int .i64 a0, .int .i64 a1, .int .i64 a2, .int .i64 a3, .int .i64 a4, .int .i64 a5, .int .i64 a6, .int .i64 a7, .int .i64 a8, .int .i64 a9, .int .i64 a10, .int .i64 a11]) 3).run Tryz.prog w = .ok (.int .i64 a7) w := by kernel_rfl
set_option maxHeartbeats 4000000 in
theorem ends_any {c : Cfg} (hc : OkC c) (N : Nat) (i : Int) (hi : (Lit.int .i64 i).wf = true) (w : World) (hm : Lay.IsMap w N c) :
    Calls Tryz.prog 43 #[Lay.mapP N, .int .i64 i] w fun e w' => e = .returned (enC c i) ∧ Below w.heap.size w w' := by
  have HP0 := Lib.hid (PR.new w)
  have HM := Lib.hid hm
  have HC := Lib.hid hc
  have HI := Lib.hid hi
  obtain ⟨x8, h8⟩ : ∃ x, x = plcc c 8 i 0 := ⟨_, rfl⟩
  obtain ⟨x9, h9⟩ : ∃ x, x = plcc c 9 i 0 := ⟨_, rfl⟩
  obtain ⟨x10, h10⟩ : ∃ x, x = plcc c 10 i 0 := ⟨_, rfl⟩
  have ee : enC c i = .agg #[.int .i64 x8, .int .i64 x9, .int .i64 x10, .int .i64 c.dq] := by rw [h8, h9, h10]; rfl
  rw [ee]
  have H8 := Lib.hid h8; have H9 := Lib.hid h9; have H10 := Lib.hid h10
  clear hm hc hi h8 h9 h10 ee
  go_enter Tryz.func43, Tryz.ntmps43
  go_wp2_with (first
    | (go_at_call 63; (with_reducible refine (Lay.top_m HC.out N i HI.out _ (HM.out.below HP0.out.bel)).mono ?_); rintro r w1 ⟨rfl, hb⟩; rw [← H8.out]; have HP1 := Lib.hid (HP0.out.step hb); clear hb)
    | (go_at_call 64; (with_reducible refine (Lay.bottom_m HC.out N i HI.out _ (HM.out.below HP1.out.bel)).mono ?_); rintro r w2 ⟨rfl, hb⟩; rw [← H9.out]; have HP2 := Lib.hid (HP1.out.step hb); clear hb)
    | (go_at_call 65; (with_reducible refine (Lay.entry_m HC.out N i 0 HI.out _ (HM.out.below HP2.out.bel)).mono ?_); rintro r w3 ⟨rfl, hb⟩; rw [← H10.out]; have HP3 := Lib.hid (HP2.out.step hb); clear hb)
    | (go_at_call 66; (with_reducible refine (Lay.config_m N _ (HM.out.below HP3.out.bel)).mono ?_); rintro r w4 ⟨rfl, hb⟩; have HP4 := Lib.hid (HP3.out.step hb); clear hb; obtain ⟨r0, r1, r2, r3⟩ := HP4.out.res; have hfr := HP4.out.fro)
    | fail)
  exact bodyPost_ret (v := .agg #[.int .i64 x8, .int .i64 x9, .int .i64 x10, .int .i64 c.dq]) (by simp [results, Tryz.results43, go_sem, r0, r1, r2, r3]) rfl ⟨rfl, HP4.out.bel4⟩

/-! There is no map. -/
theorem laid_none (w : World) : Calls Tryz.prog 55 #[.pointer none] w fun e w' => ∃ M, e = .returned (Lay.mapP M) ∧ (w'.cell? ⟨M, 27, none⟩ = some (.int .i64 0) ∧ w'.cell? ⟨M, 28, none⟩ = some (.int .i64 0) ∧ w'.cell? ⟨M, 29, none⟩ = some (.int .i64 0) ∧ w'.cell? ⟨M, 30, none⟩ = some (.int .i64 0) ∧ w'.cell? ⟨M, 31, none⟩ = some (.int .i64 0)) ∧ Below w.heap.size w w' := by
  go_enter Tryz.func55, Tryz.ntmps55
  go_wp2
  go_ret
  refine ⟨_, rfl, ?_, (Below.refl _ _).alloc (Nat.le_refl _) _⟩
  refine ⟨?_, ?_, ?_, ?_, ?_⟩
  all_goals (rw [World.cell?_alloc_at _ _ _ _ rfl]; rfl)
theorem row0 : Lay.RowOk 0 0 0 0 0 := by constructor <;> decide
theorem word_no (i j : Int) : Lay.wordL 0 0 0 0 0 i j = -1 := by unfold Lay.wordL; rw [if_neg (by omega)]
theorem item_no (i j : Int) : Lay.itemL 0 0 0 0 0 i j = -1 := by unfold Lay.itemL; rw [if_neg (by omega)]
set_option maxHeartbeats 1000000 in
theorem top_none (i : Int) (hi : (Lit.int .i64 i).wf = true) (w : World) : Calls Tryz.prog 63 #[.pointer none, .int .i64 i] w fun e w' => e = .returned (.int .i64 (-1)) ∧ Below w.heap.size w w' := by
  have HI := Lib.hid hi; clear hi
  go_enter Tryz.func63, Tryz.ntmps63
  go_wp2_with (first
    | (go_at_call 55; (with_reducible refine (laid_none _).mono ?_); rintro r w1 ⟨M, rfl, ⟨r0, r1, r2, r3, r4⟩, hb⟩; have HB := Lib.hid hb; clear hb)
    | (go_at_call 58; (with_reducible refine (Lay.word_any _ _ row0 HI.out (by decide) _).mono ?_); rintro r w2 ⟨rfl, hb1⟩; rw [word_no])
    | fail)
  go_ret
  exact ⟨rfl, below_step HB.out HB.out.size hb1⟩
set_option maxHeartbeats 1000000 in
theorem bottom_none (i : Int) (hi : (Lit.int .i64 i).wf = true) (w : World) : Calls Tryz.prog 64 #[.pointer none, .int .i64 i] w fun e w' => e = .returned (.int .i64 (-1)) ∧ Below w.heap.size w w' := by
  have HI := Lib.hid hi; clear hi
  go_enter Tryz.func64, Tryz.ntmps64
  go_wp2_with (first
    | (go_at_call 55; (with_reducible refine (laid_none _).mono ?_); rintro r w1 ⟨M, rfl, ⟨r0, r1, r2, r3, r4⟩, hb⟩; have HB := Lib.hid hb; clear hb)
    | (go_at_call 58; (with_reducible refine (Lay.word_any _ _ row0 HI.out (by decide) _).mono ?_); rintro r w2 ⟨rfl, hb1⟩; rw [word_no])
    | fail)
  go_ret
  exact ⟨rfl, below_step HB.out HB.out.size hb1⟩
set_option maxHeartbeats 1000000 in
theorem entry_none (i : Int) (hi : (Lit.int .i64 i).wf = true) (w : World) : Calls Tryz.prog 65 #[.pointer none, .int .i64 i, .int .i64 0] w fun e w' => e = .returned (.int .i64 (-1)) ∧ Below w.heap.size w w' := by
  have HI := Lib.hid hi; clear hi
  go_enter Tryz.func65, Tryz.ntmps65
  go_wp2_with (first
    | (go_at_call 55; (with_reducible refine (laid_none _).mono ?_); rintro r w1 ⟨M, rfl, ⟨r0, r1, r2, r3, r4⟩, hb⟩; have HB := Lib.hid hb; clear hb)
    | (go_at_call 82; (with_reducible refine (Lay.item_any _ _ row0 HI.out _).mono ?_); rintro r w2 ⟨rfl, hb1⟩; rw [item_no])
    | fail)
  go_ret
  exact ⟨rfl, below_step HB.out HB.out.size hb1⟩
set_option maxHeartbeats 4000000 in
theorem ends_none (i : Int) (hi : (Lit.int .i64 i).wf = true) (w : World) :
    Calls Tryz.prog 43 #[.pointer none, .int .i64 i] w fun e w' => e = .returned (.agg #[.int .i64 (-1), .int .i64 (-1), .int .i64 (-1), .int .i64 0]) ∧ Below w.heap.size w w' := by
  have HP0 := Lib.hid (PR.new w)
  have HI := Lib.hid hi
  clear hi
  go_enter Tryz.func43, Tryz.ntmps43
  go_wp2_with (first
    | (go_at_call 63; (with_reducible refine (top_none i HI.out _).mono ?_); rintro r w1 ⟨rfl, hb⟩; have HP1 := Lib.hid (HP0.out.step hb); clear hb)
    | (go_at_call 64; (with_reducible refine (bottom_none i HI.out _).mono ?_); rintro r w2 ⟨rfl, hb⟩; have HP2 := Lib.hid (HP1.out.step hb); clear hb)
    | (go_at_call 65; (with_reducible refine (entry_none i HI.out _).mono ?_); rintro r w3 ⟨rfl, hb⟩; have HP3 := Lib.hid (HP2.out.step hb); clear hb)
    | (go_at_call 66; (with_reducible refine (Lay.config_nil _).mono ?_); rintro r w4 ⟨rfl, hb⟩; have HP4 := Lib.hid (HP3.out.step hb); clear hb; obtain ⟨r0, r1, r2, r3⟩ := HP4.out.res; have hfr := HP4.out.fro)
    | fail)
  exact bodyPost_ret (v := .agg #[.int .i64 (-1), .int .i64 (-1), .int .i64 (-1), .int .i64 0]) (by simp [results, Tryz.results43, go_sem, r0, r1, r2, r3]) rfl ⟨rfl, HP4.out.bel4⟩

/-! How it begins. -/
theorem dmm_same {w w' : World} {M : Nat} {d : Dg.Mc} (h : Dg.MM w M d) (k : w'.heap[M]? = w.heap[M]?) : Dg.MM w' M d := by
  obtain ⟨t, b, v, h, e⟩ := h
  exact ⟨t, b, v, k.trans h, e⟩
set_option maxHeartbeats 4000000 in
theorem new_yes {c : Cfg} (hc : OkC c) (N : Nat) (i t : Int) (hi : (Lit.int .i64 i).wf = true) (w : World) (hm : Lay.IsMap w N c) (h : 0 ≤ plcc c 8 i 0) :
    Calls Tryz.prog 19 #[Lay.mapP N, .int .i64 i, .int .u64 t] w fun e w' => ∃ X M, e = .returned (ptr X) ∧ w.heap.size ≤ X ∧ w.heap.size ≤ M ∧ M ≠ X ∧ Ab w' X N t (fnv 49 X) (ptr M) (.pointer none) ∧ Dg.MM w' M (Dg.mPush (eOf c i) t) ∧ Below w.heap.size w w' := by
  have hmf : ∀ (fn : Fn) (first cap : Array Value) (w : World), (Instr.makeFunc fn first cap).run Tryz.prog w = .ok (.func fn first cap) w := fun _ _ _ _ => rfl
  have ha : Ab (w.alloc (.cells #[Lay.mapP N, .int .u64 t, .nilFunc, .pointer none, .pointer none] 84)) w.heap.size N t .nilFunc (.pointer none) (.pointer none) := Go.heap_alloc_new _ _
  have HA0 := Lib.hid ha
  have HB0 := Lib.hid (below_alloc0 (Below.refl w.heap.size w) (.cells #[Lay.mapP N, .int .u64 t, .nilFunc, .pointer none, .pointer none] 84))
  have HM := Lib.hid hm
  have HC := Lib.hid hc
  have HI := Lib.hid hi
  obtain ⟨e, he⟩ : ∃ e, e = eOf c i := ⟨_, rfl⟩
  obtain ⟨e0, e1, e2, e3⟩ := e
  have ee : enC c i = .agg #[.int .i64 e0, .int .i64 e1, .int .i64 e2, .int .i64 e3] := by unfold enC; rw [← he]
  have d1 : decide (e0 < 0) = false := by
    have : e0 = plcc c 8 i 0 := congrArg Dg.En.top he
    rw [this]; simpa using h
  rw [← he]
  have HE := Lib.hid ee
  clear hm hc hi he ee ha h
  go_enter Tryz.func19, Tryz.ntmps19
  go_wp2_with (first
    | (go_at_call 43; (with_reducible refine (ends_any HC.out N i HI.out _ (HM.out.below HB0.out)).mono ?_); rintro r w1 ⟨rfl, hb⟩; rw [HE.out]; have HA1 := Lib.hid (HA0.out.step hb); have HB1 := Lib.hid (below_step HB0.out HB0.out.size hb); clear hb)
    | (go_at_call 48; (with_reducible refine (Dg.push_any ⟨e0, e1, e2, e3⟩ t _).mono ?_); rintro r w2 ⟨M, rfl, hM, hmm, hb⟩; have HA2 := Lib.hid ((HA1.out.step (below_alloc0 (Below.refl _ _) _)).step hb); have HB2 := Lib.hid (below_step (below_alloc0 HB1.out _) (by simp; exact Nat.le_succ_of_le HB1.out.size) hb); have HMM := Lib.hid hmm; have HLT := Lib.hid hM; clear hb hmm hM; have q3 := HA2.out.c3; have f3 := HA2.out.f 3; have HA3 := Lib.hid (HA2.out.p3 (ptr M)); have q2 := HA3.out.c2; have f2 := HA3.out.f 2; have HA4 := Lib.hid (HA3.out.p2 (fnv 49 w.heap.size)))
    | fail)
  go_ret
  have hl := HLT.out
  have hs := HB1.out.size
  have ha := HA1.out.lt
  simp at hl
  have hne : M ≠ w.heap.size := by omega
  exact ⟨w.heap.size, M, rfl, Nat.le_refl _, by omega, hne, HA4.out, dmm_same (dmm_same HMM.out (heap_setCell_other w2 ⟨w.heap.size, 3, none⟩ M _ hne)) (heap_setCell_other _ ⟨w.heap.size, 2, none⟩ M _ hne), below_uf (below_uf HB2.out (Nat.le_refl _) (UF.set _ _ 3 _) (fun _ e => Nat.le_of_eq e.symm)) (Nat.le_refl _) (UF.set _ _ 2 _) (fun _ e => Nat.le_of_eq e.symm)⟩
/-- For a marker that there isn't. -/
theorem new_raw (mp : Option Addr) (v1 v2 v3 e0 i t : Int) (w : World) (h : e0 < 0)
    (HE : ∀ w1, Below w.heap.size w w1 → Calls Tryz.prog 43 #[.pointer mp, .int .i64 i] w1 fun e w' => e = .returned (.agg #[.int .i64 e0, .int .i64 v1, .int .i64 v2, .int .i64 v3]) ∧ Below w1.heap.size w1 w') :
    Calls Tryz.prog 19 #[.pointer mp, .int .i64 i, .int .u64 t] w fun e w' => ∃ X, e = .returned (ptr X) ∧ w.heap.size ≤ X ∧ w'.heap[X]? = some (.cells #[.pointer mp, .int .u64 t, .nilFunc, .pointer none, .pointer none] 84 (0, 0)) ∧ Below w.heap.size w w' := by
  have hmf : ∀ (fn : Fn) (first cap : Array Value) (w : World), (Instr.makeFunc fn first cap).run Tryz.prog w = .ok (.func fn first cap) w := fun _ _ _ _ => rfl
  have ha : (w.alloc (.cells #[.pointer mp, .int .u64 t, .nilFunc, .pointer none, .pointer none] 84)).heap[w.heap.size]? = some (.cells #[.pointer mp, .int .u64 t, .nilFunc, .pointer none, .pointer none] 84 (0, 0)) := Go.heap_alloc_new _ _
  have HA0 := Lib.hid ha
  have HB0 := Lib.hid (below_alloc0 (Below.refl w.heap.size w) (.cells #[.pointer mp, .int .u64 t, .nilFunc, .pointer none, .pointer none] 84))
  have HEE := Lib.hid HE
  have d1 : decide (e0 < 0) = true := by simpa using h
  clear HE ha h
  go_enter Tryz.func19, Tryz.ntmps19
  go_wp2_with (first
    | (go_at_call 43; (with_reducible refine (HEE.out _ HB0.out).mono ?_); rintro r w1 ⟨rfl, hb⟩; have HA1 := Lib.hid ((hb.block _ (Array.getElem?_eq_some_iff.1 HA0.out).1).trans HA0.out); have HB1 := Lib.hid (below_step HB0.out HB0.out.size hb); clear hb)
    | fail)
  go_ret
  exact ⟨w.heap.size, rfl, Nat.le_refl _, ((below_alloc0 (Below.refl _ _) _).block _ (Array.getElem?_eq_some_iff.1 HA1.out).1).trans HA1.out, below_alloc0 HB1.out _⟩
theorem new_no {c : Cfg} (hc : OkC c) (N : Nat) (i t : Int) (hi : (Lit.int .i64 i).wf = true) (w : World) (hm : Lay.IsMap w N c) (h : plcc c 8 i 0 < 0) :
    Calls Tryz.prog 19 #[Lay.mapP N, .int .i64 i, .int .u64 t] w fun e w' => ∃ X, e = .returned (ptr X) ∧ w.heap.size ≤ X ∧ Ab w' X N t .nilFunc (.pointer none) (.pointer none) ∧ Below w.heap.size w w' :=
  new_raw (some ⟨N, 0, none⟩) (plcc c 9 i 0) (plcc c 10 i 0) c.dq (plcc c 8 i 0) i t w h (fun w1 hb => ends_any hc N i hi w1 (hm.below hb))
theorem new_nil (i t : Int) (hi : (Lit.int .i64 i).wf = true) (w : World) :
    Calls Tryz.prog 19 #[.pointer none, .int .i64 i, .int .u64 t] w fun e w' => ∃ X, e = .returned (ptr X) ∧ w.heap.size ≤ X ∧ w'.heap[X]? = some (.cells #[.pointer none, .int .u64 t, .nilFunc, .pointer none, .pointer none] 84 (0, 0)) ∧ Below w.heap.size w w' :=
  new_raw none (-1) (-1) 0 (-1) i t w (by decide) (fun w1 _ => ends_none i hi w1)

/-! Behind the deque's last step. -/
set_option maxHeartbeats 2000000 in
theorem pushed_done {w : World} {X N M : Nat} {t : Int} {nx pt : Value} {d : Dg.Mc} (h : Ab w X N t nx (ptr M) pt) (hm : Dg.MM w M d) (hr : Dg.rOf d ≠ 2) :
    Calls Tryz.prog 76 #[ptr X] w fun e w' => e = .returned (.tuple #[]) ∧ Ab w' X N t .nilFunc (ptr M) pt ∧ UF (fun b => b = X) w w' := by
  have HA := Lib.hid h; have HMM := Lib.hid hm
  have d1 : decide (Dg.rOf d = 2) = false := by simpa using hr
  clear h hm hr
  go_enter Tryz.func76, Tryz.ntmps76
  go_wp2_with (first
    | (go_at_call 90; (with_reducible refine (spilled_m HA.out HMM.out).mono ?_); rintro r w1 ⟨rfl, hb⟩; rw [d1]; have HA1 := Lib.hid (HA.out.step hb); have HB := Lib.hid hb; clear hb)
    | (go_at_call 91; (with_reducible refine (afin_any HA1.out).mono ?_); rintro r w2 ⟨rfl, hk, hu⟩; have HA2 := Lib.hid hk; have HU := Lib.hid hu; clear hk hu)
    | fail)
  go_returns
  exact ⟨rfl, HA2.out, (UF.of_below HB.out).trans HU.out (fun _ x => x) (fun _ _ x => x)⟩
theorem reads_1 {b : Nat} (x : Int) (T : TypeId) (w : World) (hb : b = w.heap.size) : Reads .u64 (w.alloc (.cells #[.int .u64 x] T)) (some ⟨b, 0, none⟩) [x] := fun _ => by
  subst hb
  refine ⟨_, _, rfl, by simp, fun j hj => ?_⟩
  rw [World.cell?_alloc_at _ _ _ _ rfl]
  match j, hj with
  | 0, _ => rfl
theorem reads_1d {b : Nat} (x : Int) (T : TypeId) (w : World) (hb : b = w.heap.size) : Reads .u64 (w.alloc (.cells #[.int .u64 x] T)).drew (some ⟨b, 0, none⟩) [x] := reads_1 x T w hb
theorem at_new {w w' : World} {b k : Nat} (hb : b = w.heap.size) (h : w'.heap.size ≤ k ∨ AtB (some ⟨b, 0, none⟩) k) (hs : w.heap.size ≤ w'.heap.size) : w.heap.size ≤ k := by
  rcases h with h | ⟨off, e⟩
  · omega
  · injection e with e; injection e with e1; omega
set_option maxHeartbeats 8000000 in
theorem pushed_full {c : Cfg} (hc : OkC c) {w : World} {X N M : Nat} {t : Int} {nx pt : Value} {d : Dg.Mc} (h : Ab w X N t nx (ptr M) pt) (hm : Dg.MM w M d) (hmp : Lay.IsMap w N c) (hr : Dg.rOf d = 2) (ht : 0 ≤ t ∧ t ≤ 18446744073709551615) :
    Calls Tryz.prog 76 #[ptr X] w fun e w' => e = .returned (.tuple #[]) ∧ ∃ X2 O2 D2, PKM w' X2 O2 D2 c N (pPut (gOf c) [t]) ∧ (∀ k, O2 k → w.heap.size ≤ k) ∧ (∀ k, D2 k → w.heap.size ≤ k) ∧ Ab w' X N t (fnv 92 X) (ptr M) (ptr X2) ∧ UF (fun b => b = X) w w' := by
  have hmf : ∀ (fn : Fn) (first cap : Array Value) (w : World), (Instr.makeFunc fn first cap).run Tryz.prog w = .ok (.func fn first cap) w := fun _ _ _ _ => rfl
  have HA := Lib.hid h; have HMM := Lib.hid hm; have HMP := Lib.hid hmp; have HC := Lib.hid hc
  have HTW : Hid (∀ z ∈ [t], 0 ≤ z ∧ z ≤ 18446744073709551615) := Lib.hid (by simpa using ht)
  have d1 : decide (Dg.rOf d = 2) = true := by simpa using hr
  clear h hm hr hmp hc ht
  go_enter Tryz.func76, Tryz.ntmps76
  go_wp2_with (first
    | (go_at_call 90; (with_reducible refine (spilled_m HA.out HMM.out).mono ?_); rintro r w1 ⟨rfl, hb⟩; rw [d1]; have HA1 := Lib.hid (HA.out.step hb); have HB := Lib.hid hb; have HM1 := Lib.hid (HMP.out.below hb); obtain ⟨q0, q1⟩ := (HA.out.step hb).c01; clear hb)
    | fail)
  go_region_held3 (fun w' => w'.cell? ⟨X, 0, none⟩ = some (Lay.mapP N) ∧ w'.cell? ⟨X, 1, none⟩ = some (.int .u64 t))
    (first | (with_reducible exact HA3.out.c01) | (with_reducible exact HA2.out.c01) | (with_reducible exact (HA1.out.step (below_alloc0 (Below.refl _ _) _).drew).c01) | (with_reducible exact (HA1.out.step (below_alloc0 (Below.refl _ _) _)).c01) | (with_reducible exact HA1.out.c01) | go_keep)
    (first
      | (go_at_call 12; (with_reducible refine (put_pk HC.out N _ 1 1 [t] _ (HM1.out.below (below_alloc0 (Below.refl _ _) _).drew) rfl (reads_1d _ _ _ (by simp)) HTW.out (by decide) (by decide)).mono ?_); rintro r w2 ⟨X2, O2, D2, rfl, hp, ho, hd, hb⟩; have HA2 := Lib.hid ((HA1.out.step (below_alloc0 (Below.refl _ _) _).drew).step hb); have HB2 := Lib.hid (below_step (below_alloc0 (Below.refl _ _) _).drew (by simp) hb); have HP := Lib.hid hp; have HO := Lib.hid ho; have HD := Lib.hid hd; clear hb hp ho hd; have q4 := HA2.out.c4; have f4 := HA2.out.f 4; have HA3 := Lib.hid (HA2.out.p4 (ptr X2)))
      | fail)
  all_goals
    have q2 := HA3.out.c2
    have f2 := HA3.out.f 2
    have HA4 := Lib.hid (HA3.out.p2 (fnv 92 X))
    have hlt := HA1.out.lt
    have hsz := HB.out.size
    have hX : X < w.heap.size := HA.out.lt
    have hD : ∀ k, D2 k → w1.heap.size ≤ k := fun k hk => by
      rcases HD.out k hk with h | ⟨off, e⟩
      · have h' : (w1.heap.push _).size ≤ k := h
        simp at h'; omega
      · injection e with e; injection e with e1; omega
    have hO : ∀ k, O2 k → w1.heap.size ≤ k := fun k hk => by
      have h' : (w1.heap.push _).size ≤ k := HO.out k hk
      simp at h'; omega
    have HDD := Lib.hid hD; have HOO := Lib.hid hO
    clear hD hO
    go_wp2
    go_returns
    refine ⟨rfl, X2, O2, D2, ?_, fun k hk => Nat.le_trans hsz (HOO.out k hk), fun k hk => Nat.le_trans hsz (HDD.out k hk), HA4.out, ?_⟩
    · exact HP.out.keep (by simp) fun k hk => by
        have hne : k ≠ X := by have := HDD.out k hk; omega
        exact (heap_setCell_other _ ⟨X, 2, none⟩ k _ hne).trans (heap_setCell_other w2 ⟨X, 4, none⟩ k _ hne)
    · have u0 : UF (fun b => b = X) w w2 := (UF.of_below HB.out).trans (UF.of_below (F := fun b => b = X) HB2.out) (fun _ x => x) (fun _ _ x => x)
      exact (u0.trans (UF.set w2 X 4 (ptr X2)) (fun _ x => x) (fun _ _ x => x)).trans (UF.set _ X 2 _) (fun _ x => x) (fun _ _ x => x)
end Go.Proofs.YtnfbjebhpljikaaGreat
