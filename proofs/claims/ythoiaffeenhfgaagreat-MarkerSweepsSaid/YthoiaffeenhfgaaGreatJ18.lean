/-  -/
import Derived.Test.YthoiaffeenhfgaaGreatPkD
import Derived.Test.YthoiaffeenhfgaaGreatJ11
import Derived.Test.YthoiaffeenhfgaaGreatJ27
import Derived.Test.YthoiaffeenhfgaaGreatJ19
namespace Go.Proofs.YthoiaffeenhfgaaGreat
open Go.RowKit
set_option linter.unusedVariables false
set_option linter.unusedSimpArgs false
set_option maxRecDepth 100000
open Lay (plcc plc shOf packN nodesN OkC Cfg Norm firstV Rep lenL things)
def Ab (w : World) (X N : Nat) (t : Int) (nx ps pt : Value) : Prop :=
  w.heap[X]? = some (.cells #[Lay.mapP N, .int .u64 t, nx, ps, pt] 107 (0, 0))
section
variable {w w' : World} {X N : Nat} {t : Int} {nx ps pt : Value}
theorem Ab.lt (h : Ab w X N t nx ps pt) : X < w.heap.size := (Array.getElem?_eq_some_iff.1 h).1
theorem Ab.f (h : Ab w X N t nx ps pt) (j : Nat) : w.frozen? ⟨X, j, none⟩ = false := frozen_of_row w X j _ _ h
theorem Ab.c0 (h : Ab w X N t nx ps pt) : w.cell? ⟨X, 0, none⟩ = some (Lay.mapP N) := by have := h; unfold Ab at this; simp [World.cell?, this]
theorem Ab.c1 (h : Ab w X N t nx ps pt) : w.cell? ⟨X, 1, none⟩ = some (.int .u64 t) := by have := h; unfold Ab at this; simp [World.cell?, this]
theorem Ab.c2 (h : Ab w X N t nx ps pt) : w.cell? ⟨X, 2, none⟩ = some nx := by have := h; unfold Ab at this; simp [World.cell?, this]
theorem Ab.c3 (h : Ab w X N t nx ps pt) : w.cell? ⟨X, 3, none⟩ = some ps := by have := h; unfold Ab at this; simp [World.cell?, this]
theorem Ab.c4 (h : Ab w X N t nx ps pt) : w.cell? ⟨X, 4, none⟩ = some pt := by have := h; unfold Ab at this; simp [World.cell?, this]
theorem Ab.c01 (h : Ab w X N t nx ps pt) : w.cell? ⟨X, 0, none⟩ = some (Lay.mapP N) ∧ w.cell? ⟨X, 1, none⟩ = some (.int .u64 t) := ⟨h.c0, h.c1⟩
theorem Ab.same (h : Ab w X N t nx ps pt) (k : w'.heap[X]? = w.heap[X]?) : Ab w' X N t nx ps pt := k.trans h
theorem Ab.step (h : Ab w X N t nx ps pt) (hb : Below w.heap.size w w') : Ab w' X N t nx ps pt := (hb.block X h.lt).trans h
theorem Ab.put (h : Ab w X N t nx ps pt) (i : Nat) (y : Value) {nx' ps' pt' : Value}
    (hh : (#[Lay.mapP N, .int .u64 t, nx, ps, pt] : Array Value).setIfInBounds i y = #[Lay.mapP N, .int .u64 t, nx', ps', pt']) : Ab (w.setCell ⟨X, i, none⟩ y) X N t nx' ps' pt' := by
  unfold Ab
  rw [heap_setCell_same w X i _ 107 _ h, hh]
theorem Ab.p2 (h : Ab w X N t nx ps pt) (y : Value) : Ab (w.setCell ⟨X, 2, none⟩ y) X N t y ps pt := h.put 2 _ rfl
theorem Ab.p3 (h : Ab w X N t nx ps pt) (y : Value) : Ab (w.setCell ⟨X, 3, none⟩ y) X N t nx y pt := h.put 3 _ rfl
theorem Ab.p4 (h : Ab w X N t nx ps pt) (y : Value) : Ab (w.setCell ⟨X, 4, none⟩ y) X N t nx ps y := h.put 4 _ rfl
end
set_option maxHeartbeats 1000000 in
theorem afin_any {w : World} {X N : Nat} {t : Int} {nx ps pt : Value} (h : Ab w X N t nx ps pt) :
    Calls Tryz.prog 105 #[ptr X] w fun e w' => e = .returned (.tuple #[]) ∧ Ab w' X N t .nilFunc ps pt ∧ UF (fun b => b = X) w w' := by
  have q2 := h.c2; have f2 := h.f 2
  have H2 := Lib.hid (h.p2 .nilFunc)
  clear h
  go_enter Tryz.func105, Tryz.ntmps105
  go_wp2
  go_returns
  exact ⟨rfl, H2.out, UF.set _ _ _ _⟩
set_option maxHeartbeats 1000000 in
theorem spilled_raw {w : World} {X N : Nat} {t : Int} {nx ps pt : Value} (h : Ab w X N t nx ps pt) (r x : Int)
    (HR : ∀ w1, Below w.heap.size w w1 → Calls Tryz.prog 118 #[ps] w1 fun a w' => a = .returned (.tuple #[.int .i64 r, .int .u64 x]) ∧ Below w1.heap.size w1 w') :
    Calls Tryz.prog 104 #[ptr X] w fun a w' => a = .returned (.bool (decide (r = 2))) ∧ Below w.heap.size w w' := by
  have q3 := h.c3
  have HRR := Lib.hid HR
  clear h HR
  have HB0 := Lib.hid (Below.refl w.heap.size w)
  go_enter Tryz.func104, Tryz.ntmps104
  go_wp2_with (first
    | (go_at_call 118; (with_reducible refine (HRR.out _ HB0.out).mono ?_); rintro a w1 ⟨rfl, hb⟩; have HB1 := Lib.hid hb; clear hb)
    | fail)
  go_ret
  refine ⟨?_, HB1.out⟩
  by_cases hr : r = 2 <;> simp [hr]
theorem spilled_m {w : World} {X N M : Nat} {t : Int} {nx pt : Value} {d : Dg.Mc} (h : Ab w X N t nx (ptr M) pt) (hm : Dg.MM w M d) :
    Calls Tryz.prog 104 #[ptr X] w fun a w' => a = .returned (.bool (decide (Dg.rOf d = 2))) ∧ Below w.heap.size w w' :=
  spilled_raw h (Dg.rOf d) (Dg.xOf d) (fun w1 hb => Dg.res_any w1 (hm.below hb))
abbrev enC (c : Cfg) (i : Int) : Value := Dg.enV (eOf c i)
structure PR (w w' : World) : Prop where
  bel : Below w.heap.size w w'
  br : w'.heap[w.heap.size]? = some (.cells #[.int .i64 0, .int .i64 0, .int .i64 0, .int .i64 0] 109 (0, 0))
section
variable {w w' w2 : World}
theorem PR.step (k : PR w w') (hb : Below w'.heap.size w' w2) : PR w w2 := ⟨below_step k.bel k.bel.size hb, (hb.block _ (Array.getElem?_eq_some_iff.1 k.br).1).trans k.br⟩
theorem PR.res (k : PR w w') : w'.cell? ⟨w.heap.size, 0, none⟩ = some (.int .i64 0) ∧ w'.cell? ⟨w.heap.size, 1, none⟩ = some (.int .i64 0) ∧ w'.cell? ⟨w.heap.size, 2, none⟩ = some (.int .i64 0) ∧ w'.cell? ⟨w.heap.size, 3, none⟩ = some (.int .i64 0) := by
  have := k.br
  refine ⟨?_, ?_, ?_, ?_⟩ <;> simp [World.cell?, this]
theorem PR.fro (k : PR w w') (j : Nat) : w'.frozen? ⟨w.heap.size, j, none⟩ = false := frozen_of_row w' _ j _ _ k.br
theorem PR.new (w : World) : PR w (w.alloc (.cells #[.int .i64 0, .int .i64 0, .int .i64 0, .int .i64 0] 109)) := ⟨below_alloc0 (Below.refl _ _) _, Go.heap_alloc_new _ _⟩
theorem PR.bel4 (k : PR w w') {v0 v1 v2 v3 : Value} : Below w.heap.size w ((((w'.setCell ⟨w.heap.size, 0, none⟩ v0).setCell ⟨w.heap.size, 1, none⟩ v1).setCell ⟨w.heap.size, 2, none⟩ v2).setCell ⟨w.heap.size, 3, none⟩ v3) :=
  below_uf (below_uf (below_uf (below_uf k.bel (Nat.le_refl _) (UF.set _ _ 0 v0) (fun _ e => Nat.le_of_eq e.symm)) (Nat.le_refl _) (UF.set _ _ 1 v1) (fun _ e => Nat.le_of_eq e.symm)) (Nat.le_refl _) (UF.set _ _ 2 v2) (fun _ e => Nat.le_of_eq e.symm)) (Nat.le_refl _) (UF.set _ _ 3 v3) (fun _ e => Nat.le_of_eq e.symm)
end
@[go_sem] theorem fld_dq (a0 a1 a2 a3 a4 a5 a6 a7 a8 a9 a10 a11 : Int) (w : World) : (Instr.field 24 (.agg #[.int .i64 a0, .int .i64 a1, .int .i64 a2, .int .i64 a3, .int .i64 a4, .int .i64 a5, .int .i64 a6, .int .i64 a7, .int .i64 a8, .int .i64 a9, .int .i64 a10, .int .i64 a11]) 3).run Tryz.prog w = .ok (.int .i64 a7) w := by kernel_rfl
set_option maxHeartbeats 4000000 in
theorem ends_any {c : Cfg} (hc : OkC c) (N : Nat) (i : Int) (hi : (Lit.int .i64 i).wf = true) (w : World) (hm : Lay.IsMap w N c) :
    Calls Tryz.prog 72 #[Lay.mapP N, .int .i64 i] w fun e w' => e = .returned (enC c i) ∧ Below w.heap.size w w' := by
  have HP0 := Lib.hid (PR.new w)
  have HM := Lib.hid hm
  have HC := Lib.hid hc
  have HI := Lib.hid hi
  obtain ⟨x8, h8⟩ : ∃ x, x = plcc c 8 i 0 := ⟨_, rfl⟩
  obtain ⟨x9, h9⟩ : ∃ x, x = plcc c 9 i 0 := ⟨_, rfl⟩
  obtain ⟨x10, h10⟩ : ∃ x, x = plcc c 10 i 0 := ⟨_, rfl⟩
  have ee : enC c i = .agg #[.int .i64 x8, .int .i64 x9, .int .i64 x10, .int .i64 c.dq] := by rw [h8, h9, h10]; rfl
  rw [ee]
  have H8 := Lib.hid h8; have H9 := Lib.hid h9; have H10 := Lib.hid h10
  clear hm hc hi h8 h9 h10 ee
  go_enter Tryz.func72, Tryz.ntmps72
  go_wp2_with (first
    | (go_at_call 55; (with_reducible refine (Lay.top_m HC.out N i HI.out _ (HM.out.below HP0.out.bel)).mono ?_); rintro r w1 ⟨rfl, hb⟩; rw [← H8.out]; have HP1 := Lib.hid (HP0.out.step hb); clear hb)
    | (go_at_call 88; (with_reducible refine (Lay.bottom_m HC.out N i HI.out _ (HM.out.below HP1.out.bel)).mono ?_); rintro r w2 ⟨rfl, hb⟩; rw [← H9.out]; have HP2 := Lib.hid (HP1.out.step hb); clear hb)
    | (go_at_call 89; (with_reducible refine (Lay.entry_m HC.out N i 0 HI.out _ (HM.out.below HP2.out.bel)).mono ?_); rintro r w3 ⟨rfl, hb⟩; rw [← H10.out]; have HP3 := Lib.hid (HP2.out.step hb); clear hb)
    | (go_at_call 58; (with_reducible refine (Lay.config_m N _ (HM.out.below HP3.out.bel)).mono ?_); rintro r w4 ⟨rfl, hb⟩; have HP4 := Lib.hid (HP3.out.step hb); clear hb; obtain ⟨r0, r1, r2, r3⟩ := HP4.out.res; have hfr := HP4.out.fro)
    | fail)
  exact bodyPost_ret (v := .agg #[.int .i64 x8, .int .i64 x9, .int .i64 x10, .int .i64 c.dq]) (by simp [results, Tryz.results72, go_sem, r0, r1, r2, r3]) rfl ⟨rfl, HP4.out.bel4⟩
theorem dmm_same {w w' : World} {M : Nat} {d : Dg.Mc} (h : Dg.MM w M d) (k : w'.heap[M]? = w.heap[M]?) : Dg.MM w' M d := by
  obtain ⟨t, b, v, h, e⟩ := h
  exact ⟨t, b, v, k.trans h, e⟩
set_option maxHeartbeats 4000000 in
theorem new_yes {c : Cfg} (hc : OkC c) (N : Nat) (i t : Int) (hi : (Lit.int .i64 i).wf = true) (w : World) (hm : Lay.IsMap w N c) (h : 0 ≤ plcc c 8 i 0) :
    Calls Tryz.prog 30 #[Lay.mapP N, .int .i64 i, .int .u64 t] w fun e w' => ∃ X M, e = .returned (ptr X) ∧ w.heap.size ≤ X ∧ w.heap.size ≤ M ∧ M ≠ X ∧ Ab w' X N t (fnv 74 X) (ptr M) (.pointer none) ∧ Dg.MM w' M (Dg.mPush (eOf c i) t) ∧ Below w.heap.size w w' := by
  have hmf : ∀ (fn : Fn) (first cap : Array Value) (w : World), (Instr.makeFunc fn first cap).run Tryz.prog w = .ok (.func fn first cap) w := fun _ _ _ _ => rfl
  have ha : Ab (w.alloc (.cells #[Lay.mapP N, .int .u64 t, .nilFunc, .pointer none, .pointer none] 107)) w.heap.size N t .nilFunc (.pointer none) (.pointer none) := Go.heap_alloc_new _ _
  have HA0 := Lib.hid ha
  have HB0 := Lib.hid (below_alloc0 (Below.refl w.heap.size w) (.cells #[Lay.mapP N, .int .u64 t, .nilFunc, .pointer none, .pointer none] 107))
  have HM := Lib.hid hm
  have HC := Lib.hid hc
  have HI := Lib.hid hi
  obtain ⟨e, he⟩ : ∃ e, e = eOf c i := ⟨_, rfl⟩
  obtain ⟨e0, e1, e2, e3⟩ := e
  have ee : enC c i = .agg #[.int .i64 e0, .int .i64 e1, .int .i64 e2, .int .i64 e3] := by unfold enC; rw [← he]
  have d1 : decide (e0 < 0) = false := by
    have : e0 = plcc c 8 i 0 := congrArg Dg.En.top he
    rw [this]; simpa using h
  rw [← he]
  have HE := Lib.hid ee
  clear hm hc hi he ee ha h
  go_enter Tryz.func30, Tryz.ntmps30
  go_wp2_with (first
    | (go_at_call 72; (with_reducible refine (ends_any HC.out N i HI.out _ (HM.out.below HB0.out)).mono ?_); rintro r w1 ⟨rfl, hb⟩; rw [HE.out]; have HA1 := Lib.hid (HA0.out.step hb); have HB1 := Lib.hid (below_step HB0.out HB0.out.size hb); clear hb)
    | (go_at_call 73; (with_reducible refine (Dg.push_any ⟨e0, e1, e2, e3⟩ t _).mono ?_); rintro r w2 ⟨M, rfl, hM, hmm, hb⟩; have HA2 := Lib.hid ((HA1.out.step (below_alloc0 (Below.refl _ _) _)).step hb); have HB2 := Lib.hid (below_step (below_alloc0 HB1.out _) (by simp; exact Nat.le_succ_of_le HB1.out.size) hb); have HMM := Lib.hid hmm; have HLT := Lib.hid hM; clear hb hmm hM; have q3 := HA2.out.c3; have f3 := HA2.out.f 3; have HA3 := Lib.hid (HA2.out.p3 (ptr M)); have q2 := HA3.out.c2; have f2 := HA3.out.f 2; have HA4 := Lib.hid (HA3.out.p2 (fnv 74 w.heap.size)))
    | fail)
  go_ret
  have hl := HLT.out
  have hs := HB1.out.size
  have ha := HA1.out.lt
  simp at hl
  have hne : M ≠ w.heap.size := by omega
  exact ⟨w.heap.size, M, rfl, Nat.le_refl _, by omega, hne, HA4.out, dmm_same (dmm_same HMM.out (heap_setCell_other w2 ⟨w.heap.size, 3, none⟩ M _ hne)) (heap_setCell_other _ ⟨w.heap.size, 2, none⟩ M _ hne), below_uf (below_uf HB2.out (Nat.le_refl _) (UF.set _ _ 3 _) (fun _ e => Nat.le_of_eq e.symm)) (Nat.le_refl _) (UF.set _ _ 2 _) (fun _ e => Nat.le_of_eq e.symm)⟩
set_option maxHeartbeats 2000000 in
theorem pushed_done {w : World} {X N M : Nat} {t : Int} {nx pt : Value} {d : Dg.Mc} (h : Ab w X N t nx (ptr M) pt) (hm : Dg.MM w M d) (hr : Dg.rOf d ≠ 2) :
    Calls Tryz.prog 94 #[ptr X] w fun e w' => e = .returned (.tuple #[]) ∧ Ab w' X N t .nilFunc (ptr M) pt ∧ UF (fun b => b = X) w w' := by
  have HA := Lib.hid h; have HMM := Lib.hid hm
  have d1 : decide (Dg.rOf d = 2) = false := by simpa using hr
  clear h hm hr
  go_enter Tryz.func94, Tryz.ntmps94
  go_wp2_with (first
    | (go_at_call 104; (with_reducible refine (spilled_m HA.out HMM.out).mono ?_); rintro r w1 ⟨rfl, hb⟩; rw [d1]; have HA1 := Lib.hid (HA.out.step hb); have HB := Lib.hid hb; clear hb)
    | (go_at_call 105; (with_reducible refine (afin_any HA1.out).mono ?_); rintro r w2 ⟨rfl, hk, hu⟩; have HA2 := Lib.hid hk; have HU := Lib.hid hu; clear hk hu)
    | fail)
  go_returns
  exact ⟨rfl, HA2.out, (UF.of_below HB.out).trans HU.out (fun _ x => x) (fun _ _ x => x)⟩
theorem reads_1 {b : Nat} (x : Int) (T : TypeId) (w : World) (hb : b = w.heap.size) : Reads .u64 (w.alloc (.cells #[.int .u64 x] T)) (some ⟨b, 0, none⟩) [x] := fun _ => by
  subst hb
  refine ⟨_, _, rfl, by simp, fun j hj => ?_⟩
  rw [World.cell?_alloc_at _ _ _ _ rfl]
  match j, hj with
  | 0, _ => rfl
theorem reads_1d {b : Nat} (x : Int) (T : TypeId) (w : World) (hb : b = w.heap.size) : Reads .u64 (w.alloc (.cells #[.int .u64 x] T)).drew (some ⟨b, 0, none⟩) [x] := reads_1 x T w hb
set_option maxHeartbeats 8000000 in
theorem pushed_full {c : Cfg} (hc : OkC c) {w : World} {X N M : Nat} {t : Int} {nx pt : Value} {d : Dg.Mc} (h : Ab w X N t nx (ptr M) pt) (hm : Dg.MM w M d) (hmp : Lay.IsMap w N c) (hr : Dg.rOf d = 2) (ht : 0 ≤ t ∧ t ≤ 18446744073709551615) :
    Calls Tryz.prog 94 #[ptr X] w fun e w' => e = .returned (.tuple #[]) ∧ ∃ X2 O2 D2, PKM w' X2 O2 D2 c N (pPut (gOf c) [t]) ∧ (∀ k, O2 k → w.heap.size ≤ k) ∧ (∀ k, D2 k → w.heap.size ≤ k) ∧ Ab w' X N t (fnv 106 X) (ptr M) (ptr X2) ∧ UF (fun b => b = X) w w' := by
  have hmf : ∀ (fn : Fn) (first cap : Array Value) (w : World), (Instr.makeFunc fn first cap).run Tryz.prog w = .ok (.func fn first cap) w := fun _ _ _ _ => rfl
  have HA := Lib.hid h; have HMM := Lib.hid hm; have HMP := Lib.hid hmp; have HC := Lib.hid hc
  have HTW : Hid (∀ z ∈ [t], 0 ≤ z ∧ z ≤ 18446744073709551615) := Lib.hid (by simpa using ht)
  have d1 : decide (Dg.rOf d = 2) = true := by simpa using hr
  clear h hm hr hmp hc ht
  go_enter Tryz.func94, Tryz.ntmps94
  go_wp2_with (first
    | (go_at_call 104; (with_reducible refine (spilled_m HA.out HMM.out).mono ?_); rintro r w1 ⟨rfl, hb⟩; rw [d1]; have HA1 := Lib.hid (HA.out.step hb); have HB := Lib.hid hb; have HM1 := Lib.hid (HMP.out.below hb); obtain ⟨q0, q1⟩ := (HA.out.step hb).c01; clear hb)
    | fail)
  go_region_held3 (fun w' => w'.cell? ⟨X, 0, none⟩ = some (Lay.mapP N) ∧ w'.cell? ⟨X, 1, none⟩ = some (.int .u64 t))
    (first | (with_reducible exact HA3.out.c01) | (with_reducible exact HA2.out.c01) | (with_reducible exact (HA1.out.step (below_alloc0 (Below.refl _ _) _).drew).c01) | (with_reducible exact (HA1.out.step (below_alloc0 (Below.refl _ _) _)).c01) | (with_reducible exact HA1.out.c01) | go_keep)
    (first
      | (go_at_call 59; (with_reducible refine (put_pk HC.out N _ 1 1 [t] _ (HM1.out.below (below_alloc0 (Below.refl _ _) _).drew) rfl (reads_1d _ _ _ (by simp)) HTW.out (by decide) (by decide)).mono ?_); rintro r w2 ⟨X2, O2, D2, rfl, hp, ho, hd, hb⟩; have HA2 := Lib.hid ((HA1.out.step (below_alloc0 (Below.refl _ _) _).drew).step hb); have HB2 := Lib.hid (below_step (below_alloc0 (Below.refl _ _) _).drew (by simp) hb); have HP := Lib.hid hp; have HO := Lib.hid ho; have HD := Lib.hid hd; clear hb hp ho hd; have q4 := HA2.out.c4; have f4 := HA2.out.f 4; have HA3 := Lib.hid (HA2.out.p4 (ptr X2)))
      | fail)
  all_goals
    have q2 := HA3.out.c2
    have f2 := HA3.out.f 2
    have HA4 := Lib.hid (HA3.out.p2 (fnv 106 X))
    have hlt := HA1.out.lt
    have hsz := HB.out.size
    have hX : X < w.heap.size := HA.out.lt
    have hD : ∀ k, D2 k → w1.heap.size ≤ k := fun k hk => by
      rcases HD.out k hk with h | ⟨off, e⟩
      · have h' : (w1.heap.push _).size ≤ k := h
        simp at h'; omega
      · injection e with e; injection e with e1; omega
    have hO : ∀ k, O2 k → w1.heap.size ≤ k := fun k hk => by
      have h' : (w1.heap.push _).size ≤ k := HO.out k hk
      simp at h'; omega
    have HDD := Lib.hid hD; have HOO := Lib.hid hO
    clear hD hO
    go_wp2
    go_returns
    refine ⟨rfl, X2, O2, D2, ?_, fun k hk => Nat.le_trans hsz (HOO.out k hk), fun k hk => Nat.le_trans hsz (HDD.out k hk), HA4.out, ?_⟩
    · exact HP.out.keep (by simp) fun k hk => by
        have hne : k ≠ X := by have := HDD.out k hk; omega
        exact (heap_setCell_other _ ⟨X, 2, none⟩ k _ hne).trans (heap_setCell_other w2 ⟨X, 4, none⟩ k _ hne)
    · have u0 : UF (fun b => b = X) w w2 := (UF.of_below HB.out).trans (UF.of_below (F := fun b => b = X) HB2.out) (fun _ x => x) (fun _ _ x => x)
      exact (u0.trans (UF.set w2 X 4 (ptr X2)) (fun _ x => x) (fun _ _ x => x)).trans (UF.set _ X 2 _) (fun _ x => x) (fun _ _ x => x)
end Go.Proofs.YthoiaffeenhfgaaGreat

namespace Go.Proofs.YthoiaffeenhfgaaGreat
open Go.RowKit
set_option linter.unusedVariables false
set_option linter.unusedSimpArgs false
set_option maxRecDepth 100000
open Lay (plcc plc shOf packN nodesN OkC Cfg Norm firstV Rep lenL things)
set_option maxHeartbeats 2000000 in
theorem goOn_d (w : World) (X M S : Nat) (b : Bool) (Q R : World → Prop)
    (HS : Calls Tryz.prog 93 #[ptr M, ptr S] w fun e w' => e = .returned (.bool b) ∧ Q w')
    (HT : b = true → ∀ w1, Q w1 → Calls Tryz.prog 94 #[ptr X] w1 fun e w' => e = .returned (.tuple #[]) ∧ R w')
    (HF : b = false → ∀ w1, Q w1 → R w1) :
    Calls Tryz.prog 92 #[.func (.func 93) #[] #[], ptr M, ptr S, fnv 94 X] w fun e w' => e = .returned (.tuple #[]) ∧ R w' := by
  cases b
  · have HSS := Lib.hid HS; have HFF := Lib.hid (HF rfl)
    clear HS HT HF
    go_enter Tryz.func92, Tryz.ntmps92
    go_wp2_with (first
      | (go_at_call 93; (with_reducible refine HSS.out.mono ?_); rintro r w1 ⟨rfl, hq⟩; have HR := Lib.hid (HFF.out w1 hq); clear hq)
      | fail)
    go_returns
    exact ⟨rfl, HR.out⟩
  · have HSS := Lib.hid HS; have HTT := Lib.hid (HT rfl)
    clear HS HT HF
    go_enter Tryz.func92, Tryz.ntmps92
    go_wp2_with (first
      | (go_at_call 93; (with_reducible refine HSS.out.mono ?_); rintro r w1 ⟨rfl, hq⟩; have HQ := Lib.hid hq; clear hq)
      | (go_at_call 94; (with_reducible refine (HTT.out _ HQ.out).mono ?_); rintro r w2 ⟨rfl, hr⟩; have HR := Lib.hid hr; clear hr)
      | fail)
    go_returns
    exact ⟨rfl, HR.out⟩
set_option maxHeartbeats 2000000 in
theorem goOn_p (w : World) (X M S : Nat) (b : Bool) (Q R : World → Prop)
    (HS : Calls Tryz.prog 60 #[ptr M, ptr S] w fun e w' => e = .returned (.bool b) ∧ Q w')
    (HT : b = true → ∀ w1, Q w1 → Calls Tryz.prog 105 #[ptr X] w1 fun e w' => e = .returned (.tuple #[]) ∧ R w')
    (HF : b = false → ∀ w1, Q w1 → R w1) :
    Calls Tryz.prog 119 #[.func (.func 60) #[] #[], ptr M, ptr S, fnv 105 X] w fun e w' => e = .returned (.tuple #[]) ∧ R w' := by
  cases b
  · have HSS := Lib.hid HS; have HFF := Lib.hid (HF rfl)
    clear HS HT HF
    go_enter Tryz.func119, Tryz.ntmps119
    go_wp2_with (first
      | (go_at_call 60; (with_reducible refine HSS.out.mono ?_); rintro r w1 ⟨rfl, hq⟩; have HR := Lib.hid (HFF.out w1 hq); clear hq)
      | fail)
    go_returns
    exact ⟨rfl, HR.out⟩
  · have HSS := Lib.hid HS; have HTT := Lib.hid (HT rfl)
    clear HS HT HF
    go_enter Tryz.func119, Tryz.ntmps119
    go_wp2_with (first
      | (go_at_call 60; (with_reducible refine HSS.out.mono ?_); rintro r w1 ⟨rfl, hq⟩; have HQ := Lib.hid hq; clear hq)
      | (go_at_call 105; (with_reducible refine (HTT.out _ HQ.out).mono ?_); rintro r w2 ⟨rfl, hr⟩; have HR := Lib.hid hr; clear hr)
      | fail)
    go_returns
    exact ⟨rfl, HR.out⟩
set_option maxHeartbeats 2000000 in
theorem pushTask_raw {w : World} {X N M S : Nat} {t : Int} {nx pt : Value} (h : Ab w X N t nx (ptr M) pt) (b : Bool) (Q R : World → Prop)
    (HS : Calls Tryz.prog 93 #[ptr M, ptr S] w fun e w' => e = .returned (.bool b) ∧ Q w')
    (HT : b = true → ∀ w1, Q w1 → Calls Tryz.prog 94 #[ptr X] w1 fun e w' => e = .returned (.tuple #[]) ∧ R w')
    (HF : b = false → ∀ w1, Q w1 → R w1) :
    Calls Tryz.prog 74 #[ptr X, ptr S] w fun e w' => e = .returned (.tuple #[]) ∧ R w' := by
  have hmf : ∀ (fn : Fn) (first cap : Array Value) (w : World), (Instr.makeFunc fn first cap).run Tryz.prog w = .ok (.func fn first cap) w := fun _ _ _ _ => rfl
  have HG := Lib.hid (goOn_d w X M S b Q R HS HT HF)
  have q3 := h.c3
  clear HS HT HF h
  go_enter Tryz.func74, Tryz.ntmps74
  go_wp2_with (first
    | (go_at_call 92; (with_reducible refine HG.out.mono ?_); rintro r w1 ⟨rfl, hr⟩; have HR := Lib.hid hr; clear hr)
    | fail)
  go_returns
  exact ⟨rfl, HR.out⟩
set_option maxHeartbeats 2000000 in
theorem putTask_raw {w : World} {X N M S : Nat} {t : Int} {nx ps : Value} (h : Ab w X N t nx ps (ptr M)) (b : Bool) (Q R : World → Prop)
    (HS : Calls Tryz.prog 60 #[ptr M, ptr S] w fun e w' => e = .returned (.bool b) ∧ Q w')
    (HT : b = true → ∀ w1, Q w1 → Calls Tryz.prog 105 #[ptr X] w1 fun e w' => e = .returned (.tuple #[]) ∧ R w')
    (HF : b = false → ∀ w1, Q w1 → R w1) :
    Calls Tryz.prog 106 #[ptr X, ptr S] w fun e w' => e = .returned (.tuple #[]) ∧ R w' := by
  have hmf : ∀ (fn : Fn) (first cap : Array Value) (w : World), (Instr.makeFunc fn first cap).run Tryz.prog w = .ok (.func fn first cap) w := fun _ _ _ _ => rfl
  have HG := Lib.hid (goOn_p w X M S b Q R HS HT HF)
  have q4 := h.c4
  clear HS HT HF h
  go_enter Tryz.func106, Tryz.ntmps106
  go_wp2_with (first
    | (go_at_call 119; (with_reducible refine HG.out.mono ?_); rintro r w1 ⟨rfl, hr⟩; have HR := Lib.hid hr; clear hr)
    | fail)
  go_returns
  exact ⟨rfl, HR.out⟩
set_option maxHeartbeats 1000000 in
theorem astep_raw (w : World) (X S f : Nat) (c2 : w.cell? ⟨X, 2, none⟩ = some (fnv f X)) (hen : ∀ a w, (callFunc f a).run Tryz.prog w = .ok (.enter f a) w) (b : Bool) (Q : World → Prop)
    (HN : Calls Tryz.prog f #[ptr X, ptr S] w fun e w' => e = .returned (.tuple #[]) ∧ Q w') (hQ : ∀ w', Q w' → (b = true ∧ w'.cell? ⟨X, 2, none⟩ = some .nilFunc) ∨ (b = false ∧ ∃ f', w'.cell? ⟨X, 2, none⟩ = some (fnv f' X))) :
    Calls Tryz.prog 32 #[ptr X, ptr S] w fun e w' => e = .returned (.bool b) ∧ Q w' := by
  cases b
  · have HNN := Lib.hid HN; have HQ := Lib.hid hQ; clear HN hQ
    go_enter Tryz.func32, Tryz.ntmps32
    go_wp2_with (first
      | ((with_reducible refine HNN.out.mono ?_); rintro r w1 ⟨rfl, hk⟩; have HK := Lib.hid hk; obtain ⟨f', d4⟩ : ∃ f', w1.cell? ⟨X, 2, none⟩ = some (fnv f' X) := (by rcases HQ.out w1 hk with ⟨h, _⟩ | ⟨_, h⟩; cases h; exact h); clear hk)
      | fail)
    go_ret
    exact ⟨rfl, HK.out⟩
  · have HNN := Lib.hid HN; have HQ := Lib.hid hQ; clear HN hQ
    go_enter Tryz.func32, Tryz.ntmps32
    go_wp2_with (first
      | ((with_reducible refine HNN.out.mono ?_); rintro r w1 ⟨rfl, hk⟩; have HK := Lib.hid hk; have d4 : w1.cell? ⟨X, 2, none⟩ = some .nilFunc := (by rcases HQ.out w1 hk with ⟨_, h⟩ | ⟨h, _⟩; exact h; cases h); clear hk)
      | fail)
    go_ret
    exact ⟨rfl, HK.out⟩
set_option maxHeartbeats 1000000 in
theorem astep_off (w : World) (X : Nat) (v : Value) (c2 : w.cell? ⟨X, 2, none⟩ = some .nilFunc) :
    Calls Tryz.prog 32 #[ptr X, v] w fun e w' => e = .returned (.bool true) ∧ w = w' := by
  go_enter Tryz.func32, Tryz.ntmps32
  go_wp2
  go_ret
  exact ⟨rfl, rfl⟩
end Go.Proofs.YthoiaffeenhfgaaGreat
