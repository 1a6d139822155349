/-  -/
import Derived.Test.YthoiaffeenhfgaaGreatScM
import Derived.Test.YthoiaffeenhfgaaGreatJ24
import Derived.Test.YthoiaffeenhfgaaGreatJ13
namespace Go.Proofs.YthoiaffeenhfgaaGreat
open Go.RowKit
set_option linter.unusedVariables false
set_option linter.unusedSimpArgs false
set_option maxRecDepth 100000
open Lay (plcc plc nodesN OkC Cfg slotsOf kindV)
section
variable {w0 w w' : World} {X S D N : Nat} {c : Cfg} {z : Zc} {L : List Int} {cc : Int}
theorem Zs.c01 (h : Zs w0 w X S D N c z L cc) : w.cell? ⟨X, 0, none⟩ = some (.pointer (some ⟨N, 0, none⟩)) ∧ w.cell? ⟨X, 1, none⟩ = some (.int .i64 z.i) := ⟨h.mem.c0, h.mem.c1⟩
theorem Zs.c04 (h : Zs w0 w X S D N c z L cc) : w.cell? ⟨X, 0, none⟩ = some (.pointer (some ⟨N, 0, none⟩)) ∧ w.cell? ⟨X, 4, none⟩ = some (.int .u64 z.cy) := ⟨h.mem.c0, h.mem.c4⟩
set_option maxHeartbeats 4000000 in
theorem putZ (h : Zs w0 w X S D N c z L cc) (v x : Int) (i0 : 0 ≤ z.i) (i1 : z.i < c.mr) (v0 : 0 ≤ v ∧ v ≤ 4294967295) (x0 : 0 ≤ x ∧ x ≤ 4294967295) :
    Calls Tryz.prog 177 #[ptr X, .int .u32 v, .int .i64 x] w fun e w' => e = .returned (.tuple #[]) ∧ ∃ X2 O2 D2, AKM w' X2 O2 D2 c N (aNew (eOf c z.i) (v * 4294967296 + x)) ∧ (∀ k, D2 k → w.heap.size ≤ k) ∧ Zs w0 w' X S D N c { z with ap := some ⟨X2, 0, none⟩, nx := fnz 190 X } L cc := by
  have hmf : ∀ (fn : Fn) (first cap : Array Value) (w : World), (Instr.makeFunc fn first cap).run Tryz.prog w = .ok (.func fn first cap) w := fun _ _ _ _ => rfl
  have H := Lib.hid h
  have hmr : c.mr ≤ 4 := h.ok.k1
  have HI : Hid ((Lit.int .i64 z.i).wf = true) := Lib.hid (by simp [Lit.wf, IntKind.min, IntKind.max, IntKind.bits, IntKind.signed]; omega)
  have HI2 := Lib.hid (And.intro i0 i1)
  have ex : IntKind.u32.wrap x = x := by rw [IntKind.wrap_u32]; exact Int.emod_eq_of_lt (by omega) (by omega)
  have HXY := Lib.hid (And.intro v0 x0)
  obtain ⟨tk, htk⟩ : ∃ tk, tk = v * 4294967296 + x := ⟨_, rfl⟩
  rw [← htk]
  have HTK := Lib.hid htk
  have HD := Lib.hid h.drew
  obtain ⟨q0, q1⟩ := h.c01
  clear h i0 i1 v0 x0 hmr htk
  go_enter Tryz.func177, Tryz.ntmps177
  go_wp2_with (fail)
  go_region_held3 (fun w' => w'.cell? ⟨X, 0, none⟩ = some (.pointer (some ⟨N, 0, none⟩)) ∧ w'.cell? ⟨X, 1, none⟩ = some (.int .i64 z.i))
    (first | (with_reducible exact H3.out.c01) | (with_reducible exact H2.out.c01) | (with_reducible exact H1.out.c01) | (with_reducible exact HD.out.c01) | fail)
    (first
      | (go_at_call 31; (with_reducible refine (pair_any v x HXY.out.1.1 HXY.out.1.2 HXY.out.2.1 HXY.out.2.2 _).mono ?_); rintro r w1 ⟨rfl, hb⟩; rw [← HTK.out]; have H1 := Lib.hid (HD.out.step hb); have HZ := Lib.hid (show w.heap.size ≤ w1.heap.size from hb.size); clear hb)
      | (go_at_call 30; (with_reducible refine (newA_yes H1.out.ok N z.i tk HI.out _ H1.out.mp HI2.out.1 HI2.out.2).mono ?_); rintro r w2 ⟨X2, O2, D2, rfl, hk, hd, hb⟩; have H2 := Lib.hid (H1.out.step hb); have HK := Lib.hid hk; have HDD := Lib.hid hd; have HLT := Lib.hid (show X < w1.heap.size from H1.out.mem.lt); clear hb hk hd; have q10 := H2.out.mem.c10; have f10 := H2.out.mem.f 10; have H3 := Lib.hid (H2.out.p10 (some ⟨X2, 0, none⟩)))
      | fail)
  have q7 := H3.out.mem.c7; have f7 := H3.out.mem.f 7
  have H4 := Lib.hid (H3.out.p7 (fnz 190 X))
  go_wp2
  go_returns
  refine ⟨rfl, X2, O2, D2, HK.out.keep (by simp) (fun k hk => ?_), fun k hk => Nat.le_trans HZ.out (HDD.out k hk), H4.out⟩
  have hne : k ≠ X := by have := HDD.out k hk; have := HLT.out; omega
  exact (heap_setCell_other _ ⟨X, 7, none⟩ k _ hne).trans (heap_setCell_other w2 ⟨X, 10, none⟩ k _ hne)
set_option maxHeartbeats 4000000 in
theorem countFurtherZ (h : Zs w0 w X S D N c z L cc) (h0 : 0 ≤ cc) (h1 : cc ≤ 1000000000) (i0 : 0 ≤ z.i) (i1 : z.i < c.mr) (v0 : 0 ≤ z.v ∧ z.v ≤ 4294967295) (t0 : 0 ≤ z.t ∧ z.t ≤ 4294967295) :
    Calls Tryz.prog 162 #[ptr X, ptr S] w fun e w' => e = .returned (.tuple #[]) ∧ ∃ X2 O2 D2, AKM w' X2 O2 D2 c N (aNew (eOf c z.i) (z.v * 4294967296 + z.t)) ∧ (∀ k, D2 k → w.heap.size ≤ k) ∧ Zs w0 w' X S D N c { z with ap := some ⟨X2, 0, none⟩, nx := fnz 190 X, ek := 2, ea := z.v, eb := z.t } (adv L 1 1) (cc + 1) := by
  have H := Lib.hid h
  have q0 := h.mem.c0
  have ev : IntKind.i64.wrap z.v = z.v := IntWalk.i64_in _ (by omega)
  have HI := Lib.hid (And.intro i0 i1); have HVT := Lib.hid (And.intro v0 t0)
  clear h i0 i1 v0 t0
  go_enter Tryz.func162, Tryz.ntmps162
  go_wp2_with (first
    | (go_at_call 29; (with_reducible refine (Lay.work_m H.out.ok N _ H.out.mp).mono ?_); rintro r w1 ⟨rfl, hb⟩; rw [work1]; have H1 := Lib.hid (H.out.step hb); have HS1 := Lib.hid hb.size; clear hb)
    | (go_at_call 28; (with_reducible refine (add_any _ _ _ H1.out.st h0 h1).mono ?_); rintro r w2 ⟨rfl, hk⟩; have H2 := Lib.hid (H1.out.left hk); have HS2 := Lib.hid (Nat.le_trans HS1.out hk.2.size); clear hk; have q2 := H2.out.mem.c2; have q6 := H2.out.mem.c6; obtain ⟨⟨e0, e1, e2⟩, e3, e4⟩ := H2.out.mem.ev; obtain ⟨⟨g0, g1, g2⟩, g3, g4⟩ := H2.out.mem.evf)
    | fail)
  go_region
  have h3 := (H2.out.pev 2 z.v z.t).drew
  obtain ⟨W, hW⟩ : ∃ W, W = (evW w2 X 2 z.v z.t).drew := ⟨_, rfl⟩
  rw [← hW] at h3
  have HS3 : Hid (w.heap.size ≤ W.heap.size) := Lib.hid (by rw [hW]; exact Nat.le_trans HS2.out (UF.evW w2 X 2 z.v z.t).size)
  unfold evW at hW
  rw [← hW]
  have H3 := Lib.hid h3
  clear hW h3 q2 q6 e0 e1 e2 e3 e4 g0 g1 g2 g3 g4
  have r2 := H3.out.mem.c2; have r6 := H3.out.mem.c6
  have HD := Lib.hid H3.out.drew
  go_wp2_with (fail)
  go_region_held3 (fun w' => w'.cell? ⟨X, 2, none⟩ = some (.int .u32 z.v) ∧ w'.cell? ⟨X, 6, none⟩ = some (.int .i64 z.t))
    (first | (with_reducible exact ⟨H4.out.mem.c2, H4.out.mem.c6⟩) | (with_reducible exact ⟨HD.out.mem.c2, HD.out.mem.c6⟩) | fail)
    (first
      | (go_at_call 177; (with_reducible refine (putZ HD.out z.v z.t HI.out.1 HI.out.2 HVT.out.1 HVT.out.2).mono ?_); rintro r w4 ⟨rfl, X2, O2, D2, hk, hd, hz⟩; have HK := Lib.hid hk; have HDD := Lib.hid hd; have H4 := Lib.hid hz; clear hk hd hz)
      | fail)
  go_wp2
  go_returns
  exact ⟨rfl, X2, O2, D2, HK.out, fun k hk => Nat.le_trans HS3.out (HDD.out k hk), H4.out⟩
set_option maxHeartbeats 8000000 in
theorem seeSlotNoZ (h : Zs w0 w X S D N c z L cc) (h0 : 0 ≤ cc) (h1 : cc ≤ 1000000000) (v0 : 0 ≤ z.v ∧ z.v ≤ 4294967295) (a0 : 0 ≤ z.a ∧ z.a ≤ 1000) (nb : 0 ≤ nodesN c ∧ nodesN c ≤ 60) (hxx : ldv L (plcc c 18 z.v z.a) < 1 ∨ nodesN c < ldv L (plcc c 18 z.v z.a)) :
    Calls Tryz.prog 178 #[ptr X, ptr S] w fun e w' => e = .returned (.tuple #[]) ∧ Zs w0 w' X S D N c { z with ek := 3, ea := z.v, eb := z.a, a := z.a + 1, nx := if z.a + 1 < z.t then fnz 178 X else fnz 179 X } L (cc + 1) := by
  have hmf : ∀ (fn : Fn) (first cap : Array Value) (w : World), (Instr.makeFunc fn first cap).run Tryz.prog w = .ok (.func fn first cap) w := fun _ _ _ _ => rfl
  have H := Lib.hid h
  obtain ⟨r2, r5⟩ : w.cell? ⟨X, 2, none⟩ = some (.int .u32 z.v) ∧ w.cell? ⟨X, 5, none⟩ = some (.int .i64 z.a) := ⟨h.mem.c2, h.mem.c5⟩
  have ev : IntKind.i64.wrap z.v = z.v := IntWalk.i64_in _ (by omega)
  have ea : IntKind.i64.wrap (z.a + 1) = z.a + 1 := IntWalk.i64_in _ (by omega)
  have HV : Hid ((Lit.int .i64 z.v).wf = true) := Lib.hid (by simp [Lit.wf, IntKind.min, IntKind.max, IntKind.bits, IntKind.signed]; omega)
  obtain ⟨x, hx⟩ : ∃ x, x = ldv L (plcc c 18 z.v z.a) := ⟨_, rfl⟩
  obtain ⟨nn, hnn⟩ : ∃ x, x = nodesN c := ⟨_, rfl⟩
  have enn : IntKind.u64.wrap nn = nn := by rw [IntKind.wrap_u64, hnn]; exact Int.emod_eq_of_lt (by omega) (by omega)
  rw [← hx] at hxx
  rw [← hnn] at hxx
  have HX := Lib.hid hx; have HN := Lib.hid hnn
  obtain ⟨nv, hnv⟩ : ∃ nv, nv = (if z.a + 1 < z.t then fnz 178 X else fnz 179 X) := ⟨_, rfl⟩
  rw [← hnv]
  have HNV := Lib.hid hnv
  clear h hx hnn v0 a0 nb hnv
  by_cases hx1 : x < 1
  · have d1 : decide (x < 1) = true := by simpa using hx1
    clear hxx hx1
    go_enter Tryz.func178, Tryz.ntmps178
    go_wp2_with (fail)
    go_quiet (fail)
    have HD := Lib.hid (H.out.step (below_drewN (Below.refl _ _) nq))
    have r0 := HD.out.mem.c0
    go_wp2_with (first
      | (go_at_call 24; (with_reducible refine (Lay.slot_m HD.out.ok N _ _ HV.out _ HD.out.mp).mono ?_); rintro r w1 ⟨rfl, hb⟩; have H1 := Lib.hid (HD.out.step hb); clear hb)
      | (go_at_call 25; (with_reducible refine (load_any _ _ H1.out.st h0 h1).mono ?_); rintro r w2 ⟨rfl, hk⟩; rw [← HX.out]; have H2 := Lib.hid (H1.out.left hk); clear hk; obtain ⟨⟨e0, e1, e2⟩, e3, e4⟩ := H2.out.mem.ev; obtain ⟨⟨g0, g1, g2⟩, g3, g4⟩ := H2.out.mem.evf; have HE := Lib.hid (H2.out.pev 3 z.v z.a); have s5 : (evW w2 X 3 z.v z.a).cell? ⟨X, 5, none⟩ = some (.int .i64 z.a) := HE.out.mem.c5; have t5 := HE.out.mem.f 5; have H3 := Lib.hid (HE.out.p5 (z.a + 1)); have r00 := H3.out.mem.c0)
      | (go_at_call 163; (with_reducible refine (goOnZ H3.out).mono ?_); rintro r w7 ⟨rfl, hk⟩; have H7 := Lib.hid hk; clear hk)
      | fail)
    go_returns
    have e := HNV.out
    refine ⟨rfl, ?_⟩
    rw [e]; exact H7.out
  · have d1 : decide (x < 1) = false := by simpa using hx1
    have d2 : decide (x > nn) = true := by simp; omega
    clear hxx hx1
    go_enter Tryz.func178, Tryz.ntmps178
    go_wp2_with (fail)
    go_quiet (fail)
    have HD := Lib.hid (H.out.step (below_drewN (Below.refl _ _) nq))
    have r0 := HD.out.mem.c0
    go_wp2_with (first
      | (go_at_call 24; (with_reducible refine (Lay.slot_m HD.out.ok N _ _ HV.out _ HD.out.mp).mono ?_); rintro r w1 ⟨rfl, hb⟩; have H1 := Lib.hid (HD.out.step hb); clear hb)
      | (go_at_call 25; (with_reducible refine (load_any _ _ H1.out.st h0 h1).mono ?_); rintro r w2 ⟨rfl, hk⟩; rw [← HX.out]; have H2 := Lib.hid (H1.out.left hk); clear hk; obtain ⟨⟨e0, e1, e2⟩, e3, e4⟩ := H2.out.mem.ev; obtain ⟨⟨g0, g1, g2⟩, g3, g4⟩ := H2.out.mem.evf; have HE := Lib.hid (H2.out.pev 3 z.v z.a); have s5 : (evW w2 X 3 z.v z.a).cell? ⟨X, 5, none⟩ = some (.int .i64 z.a) := HE.out.mem.c5; have t5 := HE.out.mem.f 5; have H3 := Lib.hid (HE.out.p5 (z.a + 1)); have r00 := H3.out.mem.c0)
      | (go_at_call 21; (with_reducible refine (Lay.nodes_m H3.out.ok N _ H3.out.mp).mono ?_); rintro r w6 ⟨rfl, hb⟩; rw [← HN.out]; have H6 := Lib.hid (H3.out.step hb); clear hb)
      | (go_at_call 163; (with_reducible refine (goOnZ H6.out).mono ?_); rintro r w7 ⟨rfl, hk⟩; have H7 := Lib.hid hk; clear hk)
      | fail)
    go_returns
    have e := HNV.out
    refine ⟨rfl, ?_⟩
    rw [e]; exact H7.out
set_option maxHeartbeats 8000000 in
theorem seeSlotYesZ (h : Zs w w X S D N c z L cc) (h0 : 0 ≤ cc) (h1 : cc ≤ 1000000000) (v0 : 0 ≤ z.v ∧ z.v ≤ 4294967295) (a0 : 0 ≤ z.a ∧ z.a ≤ 1000) (nb : 0 ≤ nodesN c ∧ nodesN c ≤ 60) (hxx : 1 ≤ ldv L (plcc c 18 z.v z.a) ∧ ldv L (plcc c 18 z.v z.a) ≤ nodesN c) :
    Calls Tryz.prog 178 #[ptr X, ptr S] w fun e w' => e = .returned (.tuple #[]) ∧ ∃ X2, CM w' X2 1 (cNew (plcc c 16 (ldv L (plcc c 18 z.v z.a)) 0) z.cy) ∧ w.heap.size ≤ X2 ∧
      Zs w w' X S D N c { z with ek := 3, ea := z.v, eb := z.a, a := z.a + 1, ch := ldv L (plcc c 18 z.v z.a), cp := some ⟨X2, 0, none⟩, nx := fnz 192 X } L (cc + 1) := by
  have hmf : ∀ (fn : Fn) (first cap : Array Value) (w : World), (Instr.makeFunc fn first cap).run Tryz.prog w = .ok (.func fn first cap) w := fun _ _ _ _ => rfl
  have H := Lib.hid h
  obtain ⟨r2, r5⟩ : w.cell? ⟨X, 2, none⟩ = some (.int .u32 z.v) ∧ w.cell? ⟨X, 5, none⟩ = some (.int .i64 z.a) := ⟨h.mem.c2, h.mem.c5⟩
  have ev : IntKind.i64.wrap z.v = z.v := IntWalk.i64_in _ (by omega)
  have ea : IntKind.i64.wrap (z.a + 1) = z.a + 1 := IntWalk.i64_in _ (by omega)
  have HV : Hid ((Lit.int .i64 z.v).wf = true) := Lib.hid (by simp [Lit.wf, IntKind.min, IntKind.max, IntKind.bits, IntKind.signed]; omega)
  obtain ⟨x, hx⟩ : ∃ x, x = ldv L (plcc c 18 z.v z.a) := ⟨_, rfl⟩
  obtain ⟨nn, hnn⟩ : ∃ x, x = nodesN c := ⟨_, rfl⟩
  have enn : IntKind.u64.wrap nn = nn := by rw [IntKind.wrap_u64, hnn]; exact Int.emod_eq_of_lt (by omega) (by omega)
  rw [← hx] at hxx ⊢
  rw [← hnn] at hxx
  have HX := Lib.hid hx; have HN := Lib.hid hnn
  have d1 : decide (x < 1) = false := by simp; omega
  have d2 : decide (x > nn) = false := by simp; omega
  have x32 : IntKind.u32.wrap x = x := by rw [IntKind.wrap_u32]; exact Int.emod_eq_of_lt (by omega) (by omega)
  have x64 : IntKind.i64.wrap x = x := IntWalk.i64_in _ (by omega)
  have HXW : Hid ((Lit.int .i64 x).wf = true) := Lib.hid (by simp [Lit.wf, IntKind.min, IntKind.max, IntKind.bits, IntKind.signed]; omega)
  clear h hx hnn v0 a0 nb hxx
  go_enter Tryz.func178, Tryz.ntmps178
  go_wp2_with (fail)
  go_quiet (fail)
  have HD := Lib.hid (H.out.step (below_drewN (Below.refl _ _) nq))
  have r0 := HD.out.mem.c0
  go_wp2_with (first
    | (go_at_call 24; (with_reducible refine (Lay.slot_m HD.out.ok N _ _ HV.out _ HD.out.mp).mono ?_); rintro r w1 ⟨rfl, hb⟩; have H1 := Lib.hid (HD.out.step hb); clear hb)
    | (go_at_call 25; (with_reducible refine (load_any _ _ H1.out.st h0 h1).mono ?_); rintro r w2 ⟨rfl, hk⟩; rw [← HX.out]; have H2 := Lib.hid (H1.out.left hk); clear hk; obtain ⟨⟨e0, e1, e2⟩, e3, e4⟩ := H2.out.mem.ev; obtain ⟨⟨g0, g1, g2⟩, g3, g4⟩ := H2.out.mem.evf; have HE := Lib.hid (H2.out.pev 3 z.v z.a); have s5 : (evW w2 X 3 z.v z.a).cell? ⟨X, 5, none⟩ = some (.int .i64 z.a) := HE.out.mem.c5; have t5 := HE.out.mem.f 5; have H3 := Lib.hid (HE.out.p5 (z.a + 1)); have r00 := H3.out.mem.c0)
    | (go_at_call 21; (with_reducible refine (Lay.nodes_m H3.out.ok N _ H3.out.mp).mono ?_); rintro r w6 ⟨rfl, hb⟩; rw [← HN.out]; have H6 := Lib.hid (H3.out.step hb); clear hb; have r8 := H6.out.mem.c8; have f8 := H6.out.mem.f 8; have H8 := Lib.hid (H6.out.p8 x); have s0 := H8.out.mem.c0; have s4 := H8.out.mem.c4)
    | fail)
  have HD8 := Lib.hid H8.out.drew
  go_region_held3 (fun w' => w'.cell? ⟨X, 0, none⟩ = some (.pointer (some ⟨N, 0, none⟩)) ∧ w'.cell? ⟨X, 4, none⟩ = some (.int .u64 z.cy))
    (first | (with_reducible exact H11.out.c04) | (with_reducible exact H10.out.c04) | (with_reducible exact HD8.out.c04) | fail)
    (first
      | (go_at_call 191; (with_reducible refine (newm_any HD8.out.ok N x z.cy HXW.out _ HD8.out.mp).mono ?_); rintro r w9 ⟨X2, rfl, hn⟩; have H10 := Lib.hid (HD8.out.step hn.2.2); have HNB := Lib.hid hn; have HLT := Lib.hid HD8.out.mem.lt; clear hn; have q9 := H10.out.mem.c9; have f9 := H10.out.mem.f 9; have H11 := Lib.hid (H10.out.p9 (some ⟨X2, 0, none⟩)))
      | fail)
  have q7 := H11.out.mem.c7; have f7 := H11.out.mem.f 7
  have H12 := Lib.hid (H11.out.p7 (fnz 192 X))
  go_wp2
  go_returns
  have hn := HNB.out
  rw [work1] at hn
  have hlt := HLT.out
  have hne : X2 ≠ X := by have := hn.2.1; omega
  refine ⟨rfl, X2, (CM.new hn).keep ?_, Nat.le_trans HD8.out.u.size hn.2.1, H12.out⟩
  exact (heap_setCell_other _ ⟨X, 7, none⟩ X2 _ hne).trans (heap_setCell_other w9 ⟨X, 9, none⟩ X2 _ hne)
set_option maxHeartbeats 1000000 in
theorem marked_yes {M : Nat} (h : Zb w X (some ⟨N, 0, none⟩) z) (hp : z.cp = some ⟨M, 0, none⟩) (c0 : 0 ≤ z.ch ∧ z.ch ≤ 4294967295) (c5 : w.cell? ⟨M, 5, none⟩ = some (.bool true)) :
    Calls Tryz.prog 201 #[ptr X] w fun e w' => e = .returned (evV 1 z.ch 0) ∧ Below w.heap.size w w' := by
  have ec : IntKind.i64.wrap z.ch = z.ch := IntWalk.i64_in _ (by omega)
  have hM : M < w.heap.size := by
    by_cases hh : M < w.heap.size
    · exact hh
    · simp [World.cell?, Array.getElem?_eq_none (by omega : w.heap.size ≤ M)] at c5
  have HP0 := Lib.hid (PEz.new w)
  have q9 := (h.step HP0.out.bel).c9
  have q8 := (h.step HP0.out.bel).c8
  rw [hp] at q9
  have q5 : (w.alloc (.cells #[.int .i64 0, .int .i64 0, .int .i64 0, .int .i64 0, .int .i64 0] 44)).cell? ⟨M, 5, none⟩ = some (.bool true) := (HP0.out.bel.cell (p := ⟨M, 5, none⟩) hM).trans c5
  clear h hp c0 c5
  go_enter Tryz.func201, Tryz.ntmps201
  go_wp2_with (first
    | (go_at_call 208; (with_reducible refine (won_raw _ M true q5).mono ?_); rintro r w1 ⟨rfl, hw⟩; cases hw)
    | fail)
  exact bodyPost_ret (v := evV 1 z.ch 0) (by simp [results, Tryz.results201, go_sem]) rfl ⟨rfl, below_alloc0 (Below.refl _ _) _⟩
set_option maxHeartbeats 1000000 in
theorem marked_no {M : Nat} (h : Zb w X (some ⟨N, 0, none⟩) z) (hp : z.cp = some ⟨M, 0, none⟩) (c5 : w.cell? ⟨M, 5, none⟩ = some (.bool false)) :
    Calls Tryz.prog 201 #[ptr X] w fun e w' => e = .returned (evV 0 0 0) ∧ Below w.heap.size w w' := by
  have hM : M < w.heap.size := by
    by_cases hh : M < w.heap.size
    · exact hh
    · simp [World.cell?, Array.getElem?_eq_none (by omega : w.heap.size ≤ M)] at c5
  have HP0 := Lib.hid (PEz.new w)
  have q9 := (h.step HP0.out.bel).c9
  rw [hp] at q9
  have q5 : (w.alloc (.cells #[.int .i64 0, .int .i64 0, .int .i64 0, .int .i64 0, .int .i64 0] 44)).cell? ⟨M, 5, none⟩ = some (.bool false) := (HP0.out.bel.cell (p := ⟨M, 5, none⟩) hM).trans c5
  clear h hp c5
  go_enter Tryz.func201, Tryz.ntmps201
  go_wp2_with (first
    | (go_at_call 208; (with_reducible refine (won_raw _ M false q5).mono ?_); rintro r w1 ⟨rfl, hw⟩; cases hw)
    | (go_at_call 202; (with_reducible refine (none_any _).mono ?_); rintro r w1 ⟨rfl, hb⟩; have HP1 := Lib.hid (HP0.out.step hb); clear hb; obtain ⟨r0, r1, r2, r3, r4⟩ := HP1.out.res; have hfr := HP1.out.fro)
    | fail)
  exact bodyPost_ret (v := evV 0 0 0) (by simp [results, Tryz.results201, go_sem, r0, r1, r2, r3, r4]) rfl ⟨rfl, HP1.out.bel5⟩
end
end Go.Proofs.YthoiaffeenhfgaaGreat

namespace Go.Proofs.YthoiaffeenhfgaaGreat
open Go.RowKit
set_option linter.unusedVariables false
set_option linter.unusedSimpArgs false
set_option maxRecDepth 100000
open Lay (plcc plc nodesN OkC Cfg slotsOf kindV)
section
variable {w0 w w' : World} {X S D N M : Nat} {c : Cfg} {z : Zc} {L : List Int} {cc : Int}
set_option maxHeartbeats 1000000 in
theorem mark_on (h : Zb w X (some ⟨N, 0, none⟩) z) (hp : z.cp = some ⟨M, 0, none⟩) (Q : World → Prop)
    (HS : Calls Tryz.prog 200 #[ptr M, ptr S] w fun e w' => e = .returned (.bool false) ∧ Q w') :
    Calls Tryz.prog 192 #[ptr X, ptr S] w fun e w' => e = .returned (.tuple #[]) ∧ Q w' := by
  have q9 := h.c9
  rw [hp] at q9
  have HH := Lib.hid HS
  clear h hp HS
  go_enter Tryz.func192, Tryz.ntmps192
  go_wp2_with (first
    | (go_at_call 200; (with_reducible refine HH.out.mono ?_); rintro r w1 ⟨rfl, hq⟩; have HQ := Lib.hid hq; clear hq)
    | fail)
  go_returns
  exact ⟨rfl, HQ.out⟩
set_option maxHeartbeats 4000000 in
theorem mark_lost (h : Zb w X (some ⟨N, 0, none⟩) z) (hp : z.cp = some ⟨M, 0, none⟩) (Q : World → Prop)
    (HS : Calls Tryz.prog 200 #[ptr M, ptr S] w fun e w' => e = .returned (.bool true) ∧ Q w')
    (HQ : ∀ w1, Q w1 → Zs w1 w1 X S D N c z L cc ∧ w1.cell? ⟨M, 5, none⟩ = some (.bool false)) :
    Calls Tryz.prog 192 #[ptr X, ptr S] w fun e w' => e = .returned (.tuple #[]) ∧ ∃ w1, Q w1 ∧ Zs w1 w' X S D N c { z with ek := 0, ea := 0, eb := 0, nx := if z.a < z.t then fnz 178 X else fnz 179 X } L cc := by
  have q9 := h.c9
  rw [hp] at q9
  have HH := Lib.hid HS; have HQQ := Lib.hid HQ; have HP := Lib.hid hp
  obtain ⟨nv, hnv⟩ : ∃ nv, nv = (if z.a < z.t then fnz 178 X else fnz 179 X) := ⟨_, rfl⟩
  rw [← hnv]
  have HNV := Lib.hid hnv
  clear h hp HS HQ hnv
  go_enter Tryz.func192, Tryz.ntmps192
  go_wp2_with (first
    | (go_at_call 200; (with_reducible refine HH.out.mono ?_); rintro r w1 ⟨rfl, hq⟩; have HQ := Lib.hid hq; have H1 := Lib.hid (HQQ.out w1 hq).1; have HW := Lib.hid (HQQ.out w1 hq).2; clear hq)
    | (go_at_call 201; (with_reducible refine (marked_no H1.out.mem HP.out HW.out).mono ?_); rintro r w2 ⟨rfl, hb⟩; have H2 := Lib.hid (H1.out.step hb); clear hb; obtain ⟨⟨e0, e1, e2⟩, e3, e4⟩ := H2.out.mem.ev; obtain ⟨⟨g0, g1, g2⟩, g3, g4⟩ := H2.out.mem.evf)
    | fail)
  have h3 := H2.out.pev 0 0 0
  obtain ⟨W, hW⟩ : ∃ W, W = evW w2 X 0 0 0 := ⟨_, rfl⟩
  rw [← hW] at h3
  unfold evW at hW
  rw [← hW]
  have H3 := Lib.hid h3
  clear hW h3 e0 e1 e2 e3 e4 g0 g1 g2 g3 g4
  have HD := Lib.hid H3.out.drew
  obtain ⟨⟨e0, e1, e2⟩, e3, e4⟩ := H3.out.mem.ev
  go_region_held3 (fun w' => (w'.cell? ⟨X, 11, none⟩ = some (.int .i64 0) ∧ w'.cell? ⟨X, 12, none⟩ = some (.int .i64 0) ∧ w'.cell? ⟨X, 13, none⟩ = some (.int .i64 0)) ∧ w'.cell? ⟨X, 14, none⟩ = some (.int .i64 0) ∧ w'.cell? ⟨X, 15, none⟩ = some (.int .i64 0))
    (first | (with_reducible exact H4.out.mem.ev) | (with_reducible exact HD.out.mem.ev) | fail)
    (first
      | (go_at_call 202; (with_reducible refine (none_any _).mono ?_); rintro r w4 ⟨rfl, hb⟩; have H4 := Lib.hid (HD.out.step hb); clear hb)
      | fail)
  go_wp2_with (first
    | (go_at_call 163; (with_reducible refine (goOnZ H4.out).mono ?_); rintro r w7 ⟨rfl, hk⟩; have H7 := Lib.hid hk; clear hk)
    | fail)
  go_returns
  have e := HNV.out
  refine ⟨rfl, w1, HQ.out, ?_⟩
  rw [e]; exact H7.out
set_option maxHeartbeats 4000000 in
theorem mark_won (h : Zb w X (some ⟨N, 0, none⟩) z) (hp : z.cp = some ⟨M, 0, none⟩) (c0 : 0 ≤ z.ch ∧ z.ch ≤ 4294967295) (i0 : 0 ≤ z.i) (i1 : z.i < c.mr) (Q : World → Prop)
    (HS : Calls Tryz.prog 200 #[ptr M, ptr S] w fun e w' => e = .returned (.bool true) ∧ Q w')
    (HQ : ∀ w1, Q w1 → Zs w1 w1 X S D N c z L cc ∧ w1.cell? ⟨M, 5, none⟩ = some (.bool true)) :
    Calls Tryz.prog 192 #[ptr X, ptr S] w fun e w' => e = .returned (.tuple #[]) ∧ ∃ w1, Q w1 ∧ ∃ X2 O2 D2, AKM w' X2 O2 D2 c N (aNew (eOf c z.i) (z.ch * 4294967296)) ∧ (∀ k, D2 k → w1.heap.size ≤ k) ∧
      Zs w1 w' X S D N c { z with ek := 1, ea := z.ch, eb := 0, ap := some ⟨X2, 0, none⟩, nx := fnz 190 X } L cc := by
  have q9 := h.c9
  rw [hp] at q9
  have HH := Lib.hid HS; have HQQ := Lib.hid HQ; have HP := Lib.hid hp; have HC := Lib.hid c0; have HI := Lib.hid (And.intro i0 i1)
  clear h hp HS HQ c0 i0 i1
  go_enter Tryz.func192, Tryz.ntmps192
  go_wp2_with (first
    | (go_at_call 200; (with_reducible refine HH.out.mono ?_); rintro r w1 ⟨rfl, hq⟩; have HQ := Lib.hid hq; have H1 := Lib.hid (HQQ.out w1 hq).1; have HW := Lib.hid (HQQ.out w1 hq).2; clear hq)
    | (go_at_call 201; (with_reducible refine (marked_yes H1.out.mem HP.out HC.out HW.out).mono ?_); rintro r w2 ⟨rfl, hb⟩; have H2 := Lib.hid (H1.out.step hb); clear hb; obtain ⟨⟨e0, e1, e2⟩, e3, e4⟩ := H2.out.mem.ev; obtain ⟨⟨g0, g1, g2⟩, g3, g4⟩ := H2.out.mem.evf)
    | fail)
  have h3 := H2.out.pev 1 z.ch 0
  obtain ⟨W, hW⟩ : ∃ W, W = evW w2 X 1 z.ch 0 := ⟨_, rfl⟩
  rw [← hW] at h3
  unfold evW at hW
  rw [← hW]
  have H3 := Lib.hid h3
  clear hW h3 e0 e1 e2 e3 e4 g0 g1 g2 g3 g4
  have HD := Lib.hid H3.out.drew
  obtain ⟨⟨e0, e1, e2⟩, e3, e4⟩ := H3.out.mem.ev
  go_region_held3 (fun w' => (w'.cell? ⟨X, 11, none⟩ = some (.int .i64 1) ∧ w'.cell? ⟨X, 12, none⟩ = some (.int .i64 0) ∧ w'.cell? ⟨X, 13, none⟩ = some (.int .i64 z.ch)) ∧ w'.cell? ⟨X, 14, none⟩ = some (.int .i64 0) ∧ w'.cell? ⟨X, 15, none⟩ = some (.int .i64 0))
    (first | (with_reducible exact H4.out.mem.ev) | (with_reducible exact HD.out.mem.ev) | fail)
    (first
      | (go_at_call 202; (with_reducible refine (none_any _).mono ?_); rintro r w4 ⟨rfl, hb⟩; have H4 := Lib.hid (HD.out.step hb); clear hb)
      | fail)
  have r8 := H4.out.mem.c8
  have HSZ := Lib.hid H4.out.u.size
  go_wp2_with (first
    | (go_at_call 177; (with_reducible refine (putZ H4.out z.ch 0 HI.out.1 HI.out.2 HC.out ⟨Int.le_refl _, by decide⟩).mono ?_); rintro r w7 ⟨rfl, X2, O2, D2, hk, hd, hz⟩; have HK := Lib.hid hk; have HDD := Lib.hid hd; have H7 := Lib.hid hz; clear hk hd hz)
    | fail)
  go_returns
  refine ⟨rfl, w1, HQ.out, X2, O2, D2, ?_, fun k hk => Nat.le_trans HSZ.out (HDD.out k hk), H7.out⟩
  have := HK.out; rwa [Int.add_zero] at this
set_option maxHeartbeats 1000000 in
theorem putOn_on (h : Zb w X (some ⟨N, 0, none⟩) z) (hp : z.ap = some ⟨M, 0, none⟩) (Q : World → Prop)
    (HS : Calls Tryz.prog 32 #[ptr M, ptr S] w fun e w' => e = .returned (.bool false) ∧ Q w') :
    Calls Tryz.prog 190 #[ptr X, ptr S] w fun e w' => e = .returned (.tuple #[]) ∧ Q w' := by
  have q9 := h.c10
  rw [hp] at q9
  have HH := Lib.hid HS
  clear h hp HS
  go_enter Tryz.func190, Tryz.ntmps190
  go_wp2_with (first
    | (go_at_call 32; (with_reducible refine HH.out.mono ?_); rintro r w1 ⟨rfl, hq⟩; have HQ := Lib.hid hq; clear hq)
    | fail)
  go_returns
  exact ⟨rfl, HQ.out⟩
set_option maxHeartbeats 1000000 in
theorem putOn_end (h : Zb w X (some ⟨N, 0, none⟩) z) (hp : z.ap = some ⟨M, 0, none⟩) (Q : World → Prop)
    (HS : Calls Tryz.prog 32 #[ptr M, ptr S] w fun e w' => e = .returned (.bool true) ∧ Q w')
    (HQ : ∀ w1, Q w1 → Zs w1 w1 X S D N c z L cc) :
    Calls Tryz.prog 190 #[ptr X, ptr S] w fun e w' => e = .returned (.tuple #[]) ∧ ∃ w1, Q w1 ∧ Zs w1 w' X S D N c { z with nx := if z.a < z.t then fnz 178 X else fnz 179 X } L cc := by
  have q9 := h.c10
  rw [hp] at q9
  have HH := Lib.hid HS; have HQQ := Lib.hid HQ
  obtain ⟨nv, hnv⟩ : ∃ nv, nv = (if z.a < z.t then fnz 178 X else fnz 179 X) := ⟨_, rfl⟩
  rw [← hnv]
  have HNV := Lib.hid hnv
  clear h hp HS HQ hnv
  go_enter Tryz.func190, Tryz.ntmps190
  go_wp2_with (first
    | (go_at_call 32; (with_reducible refine HH.out.mono ?_); rintro r w1 ⟨rfl, hq⟩; have HQ := Lib.hid hq; have H1 := Lib.hid (HQQ.out w1 hq); clear hq)
    | (go_at_call 163; (with_reducible refine (goOnZ H1.out).mono ?_); rintro r w7 ⟨rfl, hk⟩; have H7 := Lib.hid hk; clear hk)
    | fail)
  go_returns
  have e := HNV.out
  refine ⟨rfl, w1, HQ.out, ?_⟩
  rw [e]; exact H7.out
set_option maxHeartbeats 2000000 in
theorem zstep_raw {mp : Option Addr} {f : Nat} (h : Zb w X mp z) (hnx : z.nx = fnz f X) (hen : ∀ a w, (callFunc f a).run Tryz.prog w = .ok (.enter f a) w) (b : Bool) (Q : World → Prop)
    (HN : ∀ w1, Zb w1 X mp { z with ek := 0, ea := 0, eb := 0 } → UF (fun k => k = X) w w1 → Calls Tryz.prog f #[ptr X, ptr S] w1 fun e w' => e = .returned (.tuple #[]) ∧ Q w')
    (hQ : ∀ w', Q w' → (b = true ∧ w'.cell? ⟨X, 7, none⟩ = some .nilFunc) ∨ (b = false ∧ ∃ f', w'.cell? ⟨X, 7, none⟩ = some (fnz f' X))) :
    Calls Tryz.prog 238 #[ptr X, ptr S] w fun e w' => e = .returned (.bool b) ∧ Q w' := by
  have HB := Lib.hid h
  have HNX := Lib.hid hnx
  clear hnx
  cases b
  · have HNN := Lib.hid HN; have HQ := Lib.hid hQ; clear HN hQ h
    go_enter Tryz.func238, Tryz.ntmps238
    go_upto_region 4 with (first
      | (go_at_call 202; (with_reducible refine (none_any _).mono ?_); rintro r w2 ⟨rfl, hb⟩; have H2 := Lib.hid (HB.out.step hb); have HS2 := Lib.hid hb; clear hb; obtain ⟨⟨e0, e1, e2⟩, e3, e4⟩ := H2.out.ev; obtain ⟨⟨g0, g1, g2⟩, g3, g4⟩ := H2.out.evf)
      | fail)
    have h3 := H2.out.pev 0 0 0
    obtain ⟨W, hW⟩ : ∃ W, W = evW w2 X 0 0 0 := ⟨_, rfl⟩
    rw [← hW] at h3
    have HU : Hid (UF (fun k => k = X) w W) := Lib.hid (by rw [hW]; exact (UF.of_below HS2.out).trans (UF.evW w2 X 0 0 0) (fun _ x => x) (fun _ _ x => x))
    unfold evW at hW
    rw [← hW]
    have H3 := Lib.hid h3
    clear hW h3 e0 e1 e2 e3 e4 g0 g1 g2 g3 g4
    have c7 := H3.out.c7
    rw [show Zc.nx { z with ek := 0, ea := 0, eb := 0 } = fnz f X from HNX.out] at c7
    go_wp2_with (first
      | ((with_reducible refine (HNN.out _ H3.out HU.out).mono ?_); rintro r w1 ⟨rfl, hk⟩; have HK := Lib.hid hk; obtain ⟨f', d4⟩ : ∃ f', w1.cell? ⟨X, 7, none⟩ = some (fnz f' X) := (by rcases HQ.out w1 hk with ⟨h, _⟩ | ⟨_, h⟩; cases h; exact h); clear hk)
      | fail)
    go_ret
    exact ⟨rfl, HK.out⟩
  · have HNN := Lib.hid HN; have HQ := Lib.hid hQ; clear HN hQ h
    go_enter Tryz.func238, Tryz.ntmps238
    go_upto_region 4 with (first
      | (go_at_call 202; (with_reducible refine (none_any _).mono ?_); rintro r w2 ⟨rfl, hb⟩; have H2 := Lib.hid (HB.out.step hb); have HS2 := Lib.hid hb; clear hb; obtain ⟨⟨e0, e1, e2⟩, e3, e4⟩ := H2.out.ev; obtain ⟨⟨g0, g1, g2⟩, g3, g4⟩ := H2.out.evf)
      | fail)
    have h3 := H2.out.pev 0 0 0
    obtain ⟨W, hW⟩ : ∃ W, W = evW w2 X 0 0 0 := ⟨_, rfl⟩
    rw [← hW] at h3
    have HU : Hid (UF (fun k => k = X) w W) := Lib.hid (by rw [hW]; exact (UF.of_below HS2.out).trans (UF.evW w2 X 0 0 0) (fun _ x => x) (fun _ _ x => x))
    unfold evW at hW
    rw [← hW]
    have H3 := Lib.hid h3
    clear hW h3 e0 e1 e2 e3 e4 g0 g1 g2 g3 g4
    have c7 := H3.out.c7
    rw [show Zc.nx { z with ek := 0, ea := 0, eb := 0 } = fnz f X from HNX.out] at c7
    go_wp2_with (first
      | ((with_reducible refine (HNN.out _ H3.out HU.out).mono ?_); rintro r w1 ⟨rfl, hk⟩; have HK := Lib.hid hk; have d4 : w1.cell? ⟨X, 7, none⟩ = some .nilFunc := (by rcases HQ.out w1 hk with ⟨_, h⟩ | ⟨h, _⟩; exact h; cases h); clear hk)
      | fail)
    go_ret
    exact ⟨rfl, HK.out⟩
set_option maxHeartbeats 2000000 in
theorem zstep_off {mp : Option Addr} (v : Value) (h : Zb w X mp z) (hnx : z.nx = .nilFunc) :
    Calls Tryz.prog 238 #[ptr X, v] w fun e w' => e = .returned (.bool true) ∧ Zb w' X mp { z with ek := 0, ea := 0, eb := 0 } ∧ UF (fun k => k = X) w w' := by
  have HB := Lib.hid h
  have HNX := Lib.hid hnx
  clear hnx h
  go_enter Tryz.func238, Tryz.ntmps238
  go_upto_region 4 with (first
    | (go_at_call 202; (with_reducible refine (none_any _).mono ?_); rintro r w2 ⟨rfl, hb⟩; have H2 := Lib.hid (HB.out.step hb); have HS2 := Lib.hid hb; clear hb; obtain ⟨⟨e0, e1, e2⟩, e3, e4⟩ := H2.out.ev; obtain ⟨⟨g0, g1, g2⟩, g3, g4⟩ := H2.out.evf)
    | fail)
  have h3 := H2.out.pev 0 0 0
  obtain ⟨W, hW⟩ : ∃ W, W = evW w2 X 0 0 0 := ⟨_, rfl⟩
  rw [← hW] at h3
  have HU : Hid (UF (fun k => k = X) w W) := Lib.hid (by rw [hW]; exact (UF.of_below HS2.out).trans (UF.evW w2 X 0 0 0) (fun _ x => x) (fun _ _ x => x))
  unfold evW at hW
  rw [← hW]
  have H3 := Lib.hid h3
  clear hW h3 e0 e1 e2 e3 e4 g0 g1 g2 g3 g4
  have c7 := H3.out.c7
  rw [show Zc.nx { z with ek := 0, ea := 0, eb := 0 } = .nilFunc from HNX.out] at c7
  go_wp2_with (fail)
  go_ret
  exact ⟨rfl, H3.out, HU.out⟩
abbrev zc0 (i v fr cy : Int) (nx : Value) : Zc := ⟨i, v, fr, cy, 0, 0, nx, 0, none, none, 0, 0, 0⟩
set_option maxHeartbeats 2000000 in
theorem newZ_map (mN : Nat) (i tk cy : Int) (h0 : 0 ≤ tk) (h1 : tk ≤ 18446744073709551615) (w : World) :
    Calls Tryz.prog 125 #[.pointer (some ⟨mN, 0, none⟩), .int .i64 i, .int .u64 tk, .int .u64 cy] w fun e w' => ∃ X, e = .returned (ptr X) ∧ w.heap.size ≤ X ∧ Zb w' X (some ⟨mN, 0, none⟩) (zc0 i (tk / 4294967296) (tk % 4294967296) cy (fnz 142 X)) ∧ Below w.heap.size w w' := by
  have hmf : ∀ (fn : Fn) (first cap : Array Value) (w : World), (Instr.makeFunc fn first cap).run Tryz.prog w = .ok (.func fn first cap) w := fun _ _ _ _ => rfl
  have HT := Lib.hid (And.intro h0 h1)
  obtain ⟨v, hv⟩ : ∃ v, v = tk / 4294967296 := ⟨_, rfl⟩
  obtain ⟨fr, hf⟩ : ∃ v, v = tk % 4294967296 := ⟨_, rfl⟩
  rw [← hv, ← hf]
  have HV := Lib.hid hv; have HF := Lib.hid hf
  clear h0 h1 hv hf
  go_enter Tryz.func125, Tryz.ntmps125
  go_wp2_with (first
    | (go_at_call 126; (with_reducible refine (split_any tk HT.out.1 HT.out.2 _).mono ?_); rintro r w1 ⟨rfl, hb⟩; rw [← HV.out, ← HF.out]; have HB := Lib.hid hb; clear hb)
    | fail)
  go_ret
  exact ⟨w1.heap.size, rfl, HB.out.size, Go.heap_alloc_new _ _, below_alloc0 HB.out _⟩
end
end Go.Proofs.YthoiaffeenhfgaaGreat
