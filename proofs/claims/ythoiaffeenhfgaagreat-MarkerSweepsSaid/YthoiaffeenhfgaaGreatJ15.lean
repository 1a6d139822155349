/-  -/
import Derived.Test.YthoiaffeenhfgaaGreatJ14
import Derived.BigQuiet
import Derived.Test.YthoiaffeenhfgaaGreatJ10
namespace Go.Proofs.YthoiaffeenhfgaaGreat
open Go.RowKit
set_option linter.unusedVariables false
set_option linter.unusedSimpArgs false
open Lay (plcc plc shOf packN nodesN OkC Cfg Norm firstV Rep lenL things)
variable {w0 : World} {X S D N M : Nat} {c : Cfg} {F : Nat → Prop} {T : Value} {pu tk : Int} {ot nx : Value} {pk : Int} {L L1 : List Int} {cc t : Int} {m m1 : Sm}
theorem Pxs.cell4 {w : World} (h : Pxs w0 w X S D N c F T pu tk ot nx pk L cc) : w.cell? ⟨X, 4, none⟩ = some ot := h.x.c4
set_option maxHeartbeats 1000000 in
theorem take_on (w : World) (h : Pxs w0 w X S D N c F T pu tk (subV M) nx pk L cc) (hm : MM w M (lnkV N) m) (hl : m.k.links = lnkL c) (hM : M ≠ X ∧ M ≠ S ∧ M ≠ D ∧ M ≠ N) (fM : F M) (hc : OkC c) (wm : Wm t m) (ww : WW L) (h0 : 0 ≤ cc) (h1 : cc ≤ 1000000000) (ht : t ≤ 1000000000)
    (he : sstp L m = (L1, m1)) (hp : m1.pc ≠ 0) :
    Calls Tryz.prog 102 #[ptr X, ptr S] w fun e w' => e = .returned (.tuple #[]) ∧ Pxs w0 w' X S D N c F T pu tk (subV M) nx pk L1 (cst m cc) ∧ MM w' M (lnkV N) m1 := by
  have q4 := h.cell4
  have HS := Lib.hid (sub_step h hm hl hM fM hc wm ww h0 h1 ht)
  rw [he] at HS
  have e1 : decide (m1.pc = 0) = false := by simpa using hp
  simp only [e1] at HS
  clear h hm hl hM fM hc wm ww he hp e1
  go_enter Tryz.func102, Tryz.ntmps102
  go_wp2_with (first
    | (go_at_call 209; (with_reducible refine HS.out.mono ?_); rintro r w1 ⟨rfl, hx, hmm, hz⟩; have HX := Lib.hid hx; have HM := Lib.hid hmm; have HZ := Lib.hid hz; clear hx hmm hz)
    | fail)
  go_returns
  exact ⟨rfl, HX.out, HM.out⟩
set_option maxHeartbeats 2000000 in
theorem take_got (w : World) (h : Pxs w0 w X S D N c F T pu tk (subV M) nx pk L cc) (hm : MM w M (lnkV N) m) (hl : m.k.links = lnkL c) (hM : M ≠ X ∧ M ≠ S ∧ M ≠ D ∧ M ≠ N) (fM : F M) (hc : OkC c) (wm : Wm t m) (ww : WW L) (h0 : 0 ≤ cc) (h1 : cc ≤ 1000000000) (ht : t ≤ 1000000000)
    (he : sstp L m = (L1, m1)) (hp : m1.pc = 0) (hi : m1.item ≠ 0) :
    Calls Tryz.prog 102 #[ptr X, ptr S] w fun e w' => e = .returned (.tuple #[]) ∧ Pxs w0 w' X S D N c F T pu m1.item (subV M) (fnv 116 X) pk L1 (cst m cc) := by
  have hmf : ∀ (fn : Fn) (first cap : Array Value) (w : World), (Instr.makeFunc fn first cap).run Tryz.prog w = .ok (.func fn first cap) w := fun _ _ _ _ => rfl
  have q4 := h.cell4
  have wm1 := wm.step ww
  have HS := Lib.hid (sub_step h hm hl hM fM hc wm ww h0 h1 ht)
  rw [he] at HS wm1
  have e1 : decide (m1.pc = 0) = true := by simpa using hp
  simp only [e1] at HS
  have e2 : sItem m1 = m1.item := by unfold sItem; rw [if_pos hp]
  have HWM := Lib.hid wm1
  have hi0 := wm1.i
  obtain ⟨y, hy⟩ : ∃ y, y = m1.item := ⟨_, rfl⟩
  rw [← hy] at e2 hi hi0 ⊢
  have E2 := Lib.hid e2
  obtain ⟨y0, y1⟩ := hi0
  have hib : (y == 0) = false := by simpa using hi
  clear h hm hl hM fM hc wm ww he hp e1 e2 wm1 hy
  go_enter Tryz.func102, Tryz.ntmps102
  go_wp2_with (first
    | (go_at_call 209; (with_reducible refine HS.out.mono ?_); rintro r w1 ⟨rfl, hx, hmm, hz⟩; have HX := Lib.hid hx; have HM := Lib.hid hmm; have HZ := Lib.hid hz; clear hx hmm hz; have p4 := HX.out.cell4)
    | (go_at_call 236; (with_reducible refine (item_any _ HM.out HWM.out).mono ?_); rintro r w2 ⟨rfl, hw⟩; cases hw; rw [E2.out]; have p3 := HX.out.x.c3; have f3 := HX.out.x.f 3; have p5 := HX.out.x.c5; have f5 := HX.out.x.f 5; have HF := Lib.hid ((HX.out.p3 y).p5 (fnv 116 X)))
    | fail)
  go_returns
  exact ⟨rfl, HF.out⟩
set_option maxHeartbeats 2000000 in
theorem take_again (w : World) (h : Pxs w0 w X S D N c F T pu tk (subV M) nx pk L cc) (hm : MM w M (lnkV N) m) (hl : m.k.links = lnkL c) (hM : M ≠ X ∧ M ≠ S ∧ M ≠ D ∧ M ≠ N) (fM : F M) (hc : OkC c) (wm : Wm t m) (ww : WW L) (h0 : 0 ≤ cc) (h1 : cc ≤ 1000000000) (ht : t ≤ 1000000000)
    (he : sstp L m = (L1, m1)) (hp : m1.pc = 0) (hi : m1.item = 0) :
    Calls Tryz.prog 102 #[ptr X, ptr S] w fun e w' => e = .returned (.tuple #[]) ∧ ∃ M', w.heap.size ≤ M' ∧ MM w' M' (lnkV N) (mPop (spK c)) ∧ Pxs w0 w' X S D N c F T pu 0 (subV M') (fnv 102 X) pk L1 (cst m cc) := by
  have q4 := h.cell4
  have wm1 := wm.step ww
  have HS := Lib.hid (sub_step h hm hl hM fM hc wm ww h0 h1 ht)
  have HU := Lib.hid h
  rw [he] at HS wm1
  have e1 : decide (m1.pc = 0) = true := by simpa using hp
  simp only [e1] at HS
  have e2 : sItem m1 = 0 := by unfold sItem; rw [if_pos hp, hi]
  have HWM := Lib.hid wm1
  have E2 := Lib.hid e2
  have HC := Lib.hid hc
  have HSZ := Lib.hid (Nat.le_refl w.heap.size)
  clear h hm hl hM fM hc wm ww he hp e1 e2 wm1 hi
  go_enter Tryz.func102, Tryz.ntmps102
  go_wp2_with (first
    | (go_at_call 209; (with_reducible refine HS.out.mono ?_); rintro r w1 ⟨rfl, hx, hmm, hz⟩; have HX := Lib.hid hx; have HM := Lib.hid hmm; have HZ := Lib.hid hz; clear hx hmm hz; have p4 := HX.out.cell4)
    | (go_at_call 236; (with_reducible refine (item_any _ HM.out HWM.out).mono ?_); rintro r w2 ⟨rfl, hw⟩; cases hw; rw [E2.out]; have p3 := HX.out.x.c3; have f3 := HX.out.x.f 3; have HF := Lib.hid (HX.out.p3 0))
    | (go_at_call 82; (with_reducible refine (look_any HC.out HF.out.self).mono ?_); rintro r w3 ⟨rfl, M', hM', hmm, hx⟩; have HR := Lib.hid (HF.out.more hx); have HMM := Lib.hid hmm; have HLT := Lib.hid hM'; clear hx hmm hM')
    | fail)
  go_returns
  exact ⟨rfl, M', Nat.le_trans HZ.out (by simpa using HLT.out), HMM.out, HR.out⟩
set_option maxHeartbeats 2000000 in
theorem end_on (w : World) (h : Pxs w0 w X S D N c F T pu tk (subV M) nx pk L cc) (hm : MM w M (lnkV N) m) (hl : m.k.links = lnkL c) (hM : M ≠ X ∧ M ≠ S ∧ M ≠ D ∧ M ≠ N) (fM : F M) (hc : OkC c) (wm : Wm t m) (ww : WW L) (h0 : 0 ≤ cc) (h1 : cc ≤ 1000000000) (ht : t ≤ 1000000000)
    (he : sstp L m = (L1, m1)) (hp : m1.pc ≠ 0) :
    Calls Tryz.prog 168 #[ptr X, ptr S] w fun e w' => e = .returned (.tuple #[]) ∧ Pxs w0 w' X S D N c F T pu tk (subV M) nx pk L1 (cst m cc) ∧ MM w' M (lnkV N) m1 := by
  have q4 := h.cell4
  have HS := Lib.hid (sub_step h hm hl hM fM hc wm ww h0 h1 ht)
  rw [he] at HS
  have e1 : decide (m1.pc = 0) = false := by simpa using hp
  simp only [e1] at HS
  clear h hm hl hM fM hc wm ww he hp e1
  go_enter Tryz.func168, Tryz.ntmps168
  go_wp2_with (first
    | (go_at_call 209; (with_reducible refine HS.out.mono ?_); rintro r w1 ⟨rfl, hx, hmm, hz⟩; have HX := Lib.hid hx; have HM := Lib.hid hmm; clear hx hmm hz)
    | fail)
  go_returns
  exact ⟨rfl, HX.out, HM.out⟩
set_option maxHeartbeats 2000000 in
theorem end_done (w : World) (h : Pxs w0 w X S D N c F T pu tk (subV M) nx pk L cc) (hm : MM w M (lnkV N) m) (hl : m.k.links = lnkL c) (hM : M ≠ X ∧ M ≠ S ∧ M ≠ D ∧ M ≠ N) (fM : F M) (hc : OkC c) (wm : Wm t m) (ww : WW L) (h0 : 0 ≤ cc) (h1 : cc ≤ 1000000000) (ht : t ≤ 1000000000)
    (he : sstp L m = (L1, m1)) (hp : m1.pc = 0) :
    Calls Tryz.prog 168 #[ptr X, ptr S] w fun e w' => e = .returned (.tuple #[]) ∧ Pxs w0 w' X S D N c F T pu tk (subV M) .nilFunc m1.item L1 (cst m cc) := by
  have q4 := h.cell4
  have wm1 := wm.step ww
  have HS := Lib.hid (sub_step h hm hl hM fM hc wm ww h0 h1 ht)
  rw [he] at HS wm1
  have e1 : decide (m1.pc = 0) = true := by simpa using hp
  simp only [e1] at HS
  have e2 : sItem m1 = m1.item := by unfold sItem; rw [if_pos hp]
  have HWM := Lib.hid wm1
  obtain ⟨y, hy⟩ : ∃ y, y = m1.item := ⟨_, rfl⟩
  rw [← hy] at e2 ⊢
  have E2 := Lib.hid e2
  clear h hm hl hM fM hc wm ww he hp e1 e2 wm1 hy
  go_enter Tryz.func168, Tryz.ntmps168
  go_wp2_with (first
    | (go_at_call 209; (with_reducible refine HS.out.mono ?_); rintro r w1 ⟨rfl, hx, hmm, hz⟩; have HX := Lib.hid hx; have HM := Lib.hid hmm; clear hx hmm hz; have p4 := HX.out.cell4)
    | (go_at_call 236; (with_reducible refine (item_any _ HM.out HWM.out).mono ?_); rintro r w2 ⟨rfl, hw⟩; cases hw; rw [E2.out]; have p5 := HX.out.x.c5; have f5 := HX.out.x.f 5; have p6 := HX.out.x.c6; have f6 := HX.out.x.f 6; have HF := Lib.hid ((HX.out.p5 .nilFunc).p6 y))
    | fail)
  go_returns
  exact ⟨rfl, HF.out⟩
theorem Pxs.cs5 {w w1 : World} {b off n cap k : Nat} {v : Int} (h : Pxs w w1 X S D N c F (.slice (some ⟨b, off, none⟩) n cap) pu tk ot nx pk L cc) (hb : b < w.heap.size) (hP : ¬ F b) (hv : w.cell? ⟨b, off + k, none⟩ = some (.int .u64 v)) :
    w1.cell? ⟨X, 0, none⟩ = some (Lay.mapP N) ∧ w1.cell? ⟨X, 1, none⟩ = some (.slice (some ⟨b, off, none⟩) n cap) ∧ w1.cell? ⟨X, 2, none⟩ = some (.int .i64 pu) ∧ w1.cell? ⟨X, 3, none⟩ = some (.int .i64 tk) ∧ w1.cell? ⟨b, off + k, none⟩ = some (.int .u64 v) :=
  ⟨h.x.c0, h.x.c1, h.x.c2, h.x.c3, (World.cell?_of_block (w := w) (a := ⟨b, off + k, none⟩) (h.x.u.block b hb hP)).trans hv⟩
set_option maxHeartbeats 4000000 in
theorem putTask_any (w : World) {b off n cap k : Nat} {v : Int} (h : Pxs w w X S D N c F (.slice (some ⟨b, off, none⟩) n cap) (k : Int) tk ot (fnv 116 X) pk L cc) (hb : b < w.heap.size) (hP : ¬ F b) (hv : w.cell? ⟨b, off + k, none⟩ = some (.int .u64 v)) (hk : k < n) (hn : n ≤ 4)
    (hc : OkC c) (h0 : 0 ≤ cc) (h1 : cc ≤ 1000000000) (ht : (Lit.int .i64 tk).wf = true) :
    Calls Tryz.prog 116 #[ptr X, ptr S] w fun e w' => e = .returned (.tuple #[]) ∧ Pxs w w' X S D N c F (.slice (some ⟨b, off, none⟩) n cap) ((k : Int) + 1) tk ot (fnv (if k + 1 = n then 133 else 116) X) pk (ptv L (plcc c 13 tk k) v) (cc + 1) := by
  have hmf : ∀ (fn : Fn) (first cap : Array Value) (w : World), (Instr.makeFunc fn first cap).run Tryz.prog w = .ok (.func fn first cap) w := fun _ _ _ _ => rfl
  have HCS := Lib.hid (fun (w1 : World) {nx' : Value} {L' : List Int} {c' : Int} (h' : Pxs w w1 X S D N c F (.slice (some ⟨b, off, none⟩) n cap) (k : Int) tk ot nx' pk L' c') => h'.cs5 hb hP hv)
  obtain ⟨q0, q1, q2, q3, q5⟩ := h.cs5 hb hP hv
  have HMD := Lib.hid h.drew; clear h hb hP hv
  have HC := Lib.hid hc; clear hc
  have HT := Lib.hid ht; clear ht
  obtain ⟨f, hf⟩ : ∃ f, f = if k + 1 = n then 133 else 116 := ⟨_, rfl⟩
  rw [← hf]
  go_enter Tryz.func116, Tryz.ntmps116
  go_wp2
  go_region_held3 (fun w' => w'.cell? ⟨X, 0, none⟩ = some (Lay.mapP N) ∧ w'.cell? ⟨X, 1, none⟩ = some (.slice (some ⟨b, off, none⟩) n cap) ∧ w'.cell? ⟨X, 2, none⟩ = some (.int .i64 (k : Int)) ∧ w'.cell? ⟨X, 3, none⟩ = some (.int .i64 tk) ∧ w'.cell? ⟨b, off + k, none⟩ = some (.int .u64 v))
    (first | exact HCS.out _ HQ.out | exact HCS.out _ HN.out | exact HCS.out _ HMD.out | go_keep)
    (first
      | (go_at_call 132; (with_reducible refine (Lay.task_m HC.out N _ _ HT.out _ HMD.out.x.mp).mono ?_); rintro r w3 ⟨rfl, hb⟩; have HN := Lib.hid (HMD.out.step hb); clear hb)
      | (go_at_call 23; (with_reducible refine (put_any _ _ _ HN.out.st h0 h1).mono ?_); rintro r w4 ⟨rfl, hk⟩; have HQ := Lib.hid (HN.out.left hk); clear hk)
      | fail)
  have p2 := HQ.out.x.c2; have g2 := HQ.out.x.f 2
  have HR := Lib.hid (HQ.out.p2 ((k : Int) + 1))
  have r1 := HR.out.x.c1; have r2 := HR.out.x.c2
  by_cases hkn : k + 1 = n
  · have d1 : ((k : Int) + 1 == (n : Int)) = true := by simp; omega
    rw [if_pos hkn] at hf
    subst hf
    go_wp2
    go_quiet (fail)
    have HS := Lib.hid (HR.out.step (below_drewN (Below.refl _ _) nq))
    have s5 := HS.out.x.c5; have g5 := HS.out.x.f 5
    have HF := Lib.hid (HS.out.p5 (fnv 133 X))
    go_wp2
    go_returns
    exact ⟨rfl, HF.out⟩
  · have d1 : ((k : Int) + 1 == (n : Int)) = false := by simp; omega
    rw [if_neg hkn] at hf
    subst hf
    go_wp2
    go_quiet (fail)
    have HF := Lib.hid (HR.out.step (below_drewN (Below.refl _ _) nq))
    go_wp2
    go_returns
    exact ⟨rfl, HF.out⟩
end Go.Proofs.YthoiaffeenhfgaaGreat

namespace Go.Proofs.YthoiaffeenhfgaaGreat
open Go.RowKit
set_option linter.unusedVariables false
set_option linter.unusedSimpArgs false
open Lay (plcc plc shOf packN nodesN OkC Cfg Norm firstV Rep lenL things)
variable {w0 : World} {X S D N M : Nat} {c : Cfg} {F : Nat → Prop} {T : Value} {pu tk : Int} {ot nx : Value} {pk : Int} {L L1 : List Int} {cc t : Int} {m m1 : Sm}
theorem Pxs.c03 {w w1 : World} (h : Pxs w w1 X S D N c F T pu tk ot nx pk L cc) : w1.cell? ⟨X, 0, none⟩ = some (Lay.mapP N) ∧ w1.cell? ⟨X, 2, none⟩ = some (.int .i64 pu) ∧ w1.cell? ⟨X, 3, none⟩ = some (.int .i64 tk) := h.x.c03
set_option maxHeartbeats 4000000 in
theorem putMany_any (w : World) (h : Pxs w w X S D N c F T pu tk ot nx pk L cc)
    (hc : OkC c) (h0 : 0 ≤ cc) (h1 : cc ≤ 1000000000) (ht : (Lit.int .i64 tk).wf = true) (p0 : 0 ≤ pu) (p1 : pu ≤ 4) :
    Calls Tryz.prog 133 #[ptr X, ptr S] w fun e w' => e = .returned (.tuple #[]) ∧ ∃ M', w.heap.size ≤ M' ∧ MM w' M' (lnkV N) (mPush (poK c) tk) ∧ Pxs w w' X S D N c F T pu tk (subV M') (fnv 168 X) pk (ptv L (plcc c 11 tk 0) pu) (cc + 1) := by
  have hmf : ∀ (fn : Fn) (first cap : Array Value) (w : World), (Instr.makeFunc fn first cap).run Tryz.prog w = .ok (.func fn first cap) w := fun _ _ _ _ => rfl
  obtain ⟨q0, q2, q3⟩ := h.c03
  have HMD := Lib.hid h.drew; clear h
  have HC := Lib.hid hc; clear hc
  have HT := Lib.hid ht
  have htk : -9223372036854775808 ≤ tk ∧ tk ≤ 9223372036854775807 := by
    simp [Lit.wf, IntKind.min, IntKind.max, IntKind.bits, IntKind.signed] at ht; omega
  have HTK := Lib.hid htk
  clear ht htk
  have ew : IntKind.u64.wrap pu = pu := by rw [IntKind.wrap_u64]; omega
  go_enter Tryz.func133, Tryz.ntmps133
  go_wp2
  go_region_held3 (fun w' => w'.cell? ⟨X, 0, none⟩ = some (Lay.mapP N) ∧ w'.cell? ⟨X, 2, none⟩ = some (.int .i64 pu) ∧ w'.cell? ⟨X, 3, none⟩ = some (.int .i64 tk))
    (first | exact HQ.out.c03 | exact HN.out.c03 | exact HMD.out.c03 | go_keep)
    (first
      | (go_at_call 149; (with_reducible refine (Lay.many_m HC.out N _ HT.out _ HMD.out.x.mp).mono ?_); rintro r w3 ⟨rfl, hb⟩; have HN := Lib.hid (HMD.out.step hb); clear hb)
      | (go_at_call 23; (with_reducible refine (put_any _ _ _ HN.out.st h0 h1).mono ?_); rintro r w4 ⟨rfl, hk⟩; have HQ := Lib.hid (HN.out.left hk); clear hk)
      | fail)
  have HMD2 := Lib.hid HQ.out.drew
  obtain ⟨r0, r2, r3⟩ := HQ.out.c03
  go_wp2
  go_region_held3 (fun w' => w'.cell? ⟨X, 0, none⟩ = some (Lay.mapP N) ∧ w'.cell? ⟨X, 2, none⟩ = some (.int .i64 pu) ∧ w'.cell? ⟨X, 3, none⟩ = some (.int .i64 tk))
    (first | exact HF.out.c03 | exact HQ2.out.c03 | exact HN2.out.c03 | exact HMD2.out.c03 | go_keep)
    (first
      | (go_at_call 152; (with_reducible refine (Lay.pool_m HC.out N _ HMD2.out.x.mp).mono ?_); rintro r w3 ⟨rfl, hb⟩; have HN2 := Lib.hid (HMD2.out.step hb); clear hb)
      | (go_at_call 151; (with_reducible refine (pushPo N _ _ (lk_of HC.out HN2.out.x.mp) HTK.out).mono ?_); rintro r w4 ⟨M, rfl, hM, hmm, hb⟩; have HQ2 := Lib.hid (HN2.out.step hb); have HMM := Lib.hid hmm; have HLT := Lib.hid hM; clear hb hmm hM)
      | (go_at_call 150; (with_reducible refine (endWith_any M HQ2.out.self).mono ?_); rintro r w5 ⟨rfl, hx⟩; have HF := Lib.hid (HQ2.out.more hx); have HU := Lib.hid hx.u; clear hx)
      | fail)
  all_goals
    have hx := HN2.out.x.lt
    have hl := HLT.out
    have hu := HN2.out.x.u.size
    have hne : M ≠ X := by omega
    go_returns
    exact ⟨rfl, M, by omega, (HU.out.block M HMM.out.lt hne).trans HMM.out, HF.out⟩
end Go.Proofs.YthoiaffeenhfgaaGreat

namespace Go.Proofs.YthoiaffeenhfgaaGreat
open Go.RowKit
set_option linter.unusedVariables false
set_option linter.unusedSimpArgs false
open Lay (plcc plc shOf packN nodesN OkC Cfg Norm firstV Rep lenL things)
theorem own_startU (w : World) (T : TypeId) : OwnI .u64 T w.heap.size w (w.alloc (.cells #[] T)) (.slice (some ⟨w.heap.size, 0, none⟩) 0 0) [] :=
  ⟨World.ownsRow_made w #[] 0 (Nat.le_refl _) (Nat.zero_le _) (by simp), below_alloc0 (Below.refl _ _) _⟩
theorem qnilU : ∀ (w : World) (a : Option Addr) (n c n' c' : Nat), (binOp .eql 33 (.slice a n c) (.slice none n' c')).run Tryz.prog w = .ok (.bool a.isNone) w := fun w a n c n' c' => Lib.run_eql_slice_nil w _ _ a n c n' c' Tryz.underlying33
theorem infoU : (Tryz.prog.info? 39).map (fun i => (i.zero, i.size, i.bytes)) = some (some (.int .u64 0), 1, 8) := by kernel_rfl
def NewU (zs : List Int) (w : World) (e : Ending) (w' : World) : Prop := ∃ v, e = .returned v ∧ OwnI .u64 39 w.heap.size w w' v zs
set_option maxRecDepth 100000 in
set_option maxHeartbeats 1600000 in
theorem clone_any (A : Option Addr) (n cap : Nat) (zs : List Int) (w : World) (hn : n = zs.length) (hr : Reads .u64 w A zs) (hl : n ≤ 1000) : Calls Tryz.prog 81 #[.slice A n cap] w (NewU zs w) := by
  cases A with
  | none =>
    have hz : zs = [] := by
      cases zs with
      | nil => rfl
      | cons a r => obtain ⟨b, off, e, _⟩ := hr (by simp); cases e
    subst hz
    clear hr
    have q := qnilU
    go_enter Tryz.func81, Tryz.ntmps81
    go_wp2
    go_ret
    exact ⟨_, rfl, OwnI.nil (Below.refl _ _)⟩
  | some a =>
    have HC : Hid (∀ j u, (zs.map (Value.int .u64))[j]? = some u → (w.alloc (.cells #[] 39)).cell? (a.add j) = some u) := Lib.hid fun j u hj => by
      have hlt : j < zs.length := by
        rcases Nat.lt_or_ge j zs.length with h | h
        · exact h
        · rw [List.getElem?_eq_none (by simpa using h)] at hj; cases hj
      obtain ⟨b, off, e, hb, hc⟩ := hr (by omega)
      cases e
      rw [map_get .u64 zs j hlt] at hj; cases hj
      rw [add_off]
      exact ((below_alloc0 (Below.refl _ _) (.cells #[] 39)).cell (p := ⟨b, off + j, none⟩) hb).trans (hc j hlt)
    have HN := Lib.hid hn; have HL := Lib.hid hl
    have HS := Lib.hid (own_startU w 39)
    clear hr hn hl
    have q := qnilU
    go_enter Tryz.func81, Tryz.ntmps81
    go_wp2_with (first
      | (at_builtin; obtain ⟨i0, hi0, hz0, hz1, hz2⟩ := info_parts infoU; refine wpList_append_own _ rfl _ _ 33 rfl w.heap.size 39 i0 _ 1 8 Tryz.underlying33 hi0 hz0 hz1 hz2 rfl (by decide) _ 0 [] rfl HS.out.1 a n cap (zs.map (Value.int .u64)) rfl (by rw [HN.out]; simp) HC.out (fun u hu => by obtain ⟨x, _, rfl⟩ := List.mem_map.1 hu; rfl) (by have := HL.out; unfold maxLen; omega) (by have := HL.out; omega) (by simp) ?_
         intro v' w1 h1 h2 _
         have HO : Hid (OwnI .u64 39 w.heap.size w w1 v' zs) := Lib.hid ⟨by simpa [HN.out] using h1, HS.out.2.grown h2 (by simp) (fun b hb => (HS.out.1.lt b hb).1)⟩
         clear h1 h2)
      | fail)
    go_ret
    exact ⟨_, rfl, HO.out⟩
set_option maxRecDepth 100000 in
theorem slice_front (A : Option Addr) (n cap k : Nat) (hc : k ≤ cap) (w : World) : (Instr.slice 33 (.slice A n cap) none (some (.int .i64 (k : Int))) none).run Tryz.prog w = .ok (.slice A k cap) w := by
  have e := run_slice_h (P := Tryz.prog) w 33 A n cap Tryz.underlying33 .i64 (k : Int) (by omega) (by omega)
  rw [e]
  cases A with
  | none => simp [sliced, go_sem]
  | some a => simp [sliced, go_sem, Addr.add]
end Go.Proofs.YthoiaffeenhfgaaGreat
