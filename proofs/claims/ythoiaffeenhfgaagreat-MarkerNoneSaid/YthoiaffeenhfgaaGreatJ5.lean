/-  -/
import Derived.Test.YthoiaffeenhfgaaGreatJ4
import Derived.ProofKit
import Derived.OpenShut
import Derived.ChangeOld
import Derived.Test.YthoiaffeenhfgaaGreatJ1
import Derived.WalkKit
import Derived.ChangeSlices
import Derived.Below
namespace Go.Proofs.YthoiaffeenhfgaaGreat.Lay
open Go.RowKit
set_option linter.unusedVariables false
structure Cfg where
  a : Int
  b : Int
  c : Int
  d : Int
  e : Int
  mr : Int
  mu : Int
  dq : Int
  ch : Int
  bf : Int
  rt : Int
  sw : Int
abbrev cfgV (c : Cfg) : Value := .agg #[.int .i64 c.a, .int .i64 c.b, .int .i64 c.c, .int .i64 c.d, .int .i64 c.e, .int .i64 c.mr, .int .i64 c.mu, .int .i64 c.dq, .int .i64 c.ch, .int .i64 c.bf, .int .i64 c.rt, .int .i64 c.sw]
abbrev cfgO (c : Cfg) (t : TypeId) : Obj := .cells #[.int .i64 c.a, .int .i64 c.b, .int .i64 c.c, .int .i64 c.d, .int .i64 c.e, .int .i64 c.mr, .int .i64 c.mu, .int .i64 c.dq, .int .i64 c.ch, .int .i64 c.bf, .int .i64 c.rt, .int .i64 c.sw] t
def nodesN (c : Cfg) : Int := c.a + c.b + c.c + c.d + c.e
structure OkC (c : Cfg) : Prop where
  a0 : 0 ≤ c.a
  a1 : c.a ≤ 12
  b0 : 0 ≤ c.b
  b1 : c.b ≤ 12
  c0 : 0 ≤ c.c
  c1 : c.c ≤ 12
  d0 : 0 ≤ c.d
  d1 : c.d ≤ 12
  e0 : 0 ≤ c.e
  e1 : c.e ≤ 12
  s0 : c.a + c.b + c.c + c.d + c.e ≠ 0
  k0 : 1 ≤ c.mr
  k1 : c.mr ≤ 4
  u0 : 1 ≤ c.mu
  u1 : c.mu ≤ 4
  q0 : 2 ≤ c.dq
  q1 : c.dq ≤ 8
  h0 : 1 ≤ c.ch
  h1 : c.ch ≤ 16
  f0 : 1 ≤ c.bf
  f1 : c.bf ≤ 4
  r0 : 1 ≤ c.rt
  r1 : c.rt ≤ 8
  w0 : 1 ≤ c.sw
  w1 : c.sw ≤ 16
theorem nodes_ok {c : Cfg} (h : OkC c) (w : World) : Calls Tryz.prog 64 #[.agg #[.int .i64 c.a, .int .i64 c.b, .int .i64 c.c, .int .i64 c.d, .int .i64 c.e]] w fun r w' => r = .returned (.int .i64 (nodesN c)) ∧ Below w.heap.size w w' :=
  (nodes_any _ _ _ _ _ w).mono fun _ _ ⟨he, hb⟩ => ⟨by rw [he, many_is ⟨h.a0, h.a1⟩, many_is ⟨h.b0, h.b1⟩, many_is ⟨h.c0, h.c1⟩, many_is ⟨h.d0, h.d1⟩, many_is ⟨h.e0, h.e1⟩]; rfl, hb⟩
@[go_sem] theorem ix22_0 (a b c d e : Int) (w : World) : (Instr.index 22 (.agg #[.int .i64 a, .int .i64 b, .int .i64 c, .int .i64 d, .int .i64 e]) (.int .i64 0)).run Tryz.prog w = .ok (.int .i64 a) w := by kernel_rfl
@[go_sem] theorem ix22_1 (a b c d e : Int) (w : World) : (Instr.index 22 (.agg #[.int .i64 a, .int .i64 b, .int .i64 c, .int .i64 d, .int .i64 e]) (.int .i64 1)).run Tryz.prog w = .ok (.int .i64 b) w := by kernel_rfl
@[go_sem] theorem ix22_2 (a b c d e : Int) (w : World) : (Instr.index 22 (.agg #[.int .i64 a, .int .i64 b, .int .i64 c, .int .i64 d, .int .i64 e]) (.int .i64 2)).run Tryz.prog w = .ok (.int .i64 c) w := by kernel_rfl
@[go_sem] theorem ix22_3 (a b c d e : Int) (w : World) : (Instr.index 22 (.agg #[.int .i64 a, .int .i64 b, .int .i64 c, .int .i64 d, .int .i64 e]) (.int .i64 3)).run Tryz.prog w = .ok (.int .i64 d) w := by kernel_rfl
@[go_sem] theorem ix22_4 (a b c d e : Int) (w : World) : (Instr.index 22 (.agg #[.int .i64 a, .int .i64 b, .int .i64 c, .int .i64 d, .int .i64 e]) (.int .i64 4)).run Tryz.prog w = .ok (.int .i64 e) w := by kernel_rfl
set_option maxHeartbeats 1000000 in
theorem check_yes {c : Cfg} (h : OkC c) (w : World) : Calls Tryz.prog 40 #[cfgV c] w fun r w' => r = .returned (.int .i64 0) ∧ Below w.heap.size w w' := by
  have H := Lib.hid h
  obtain ⟨a0, a1, b0, b1, c0, c1, d0, d1, e0, e1, s0, k0, k1, u0, u1, q0, q1, h0, h1, f0, f1, r0, r1, w0, w1⟩ := h
  have hn : (nodesN c == 0) = false := by unfold nodesN; rw [beq_eq_false_iff_ne]; exact s0
  clear s0
  go_enter Tryz.func40, Tryz.ntmps40
  go_wp2_with (go_at_call 77; (with_reducible refine (within_yes _ _ _ (by omega) _).mono ?_); rintro r w1 ⟨rfl, rfl⟩)
  refine wp_loop_rounds 6 ?_
  rw [rounds_succ]; go_wp2_with (go_at_call 77; (with_reducible refine (within_yes _ _ _ (by omega) _).mono ?_); rintro r w1 ⟨rfl, rfl⟩)
  rw [rounds_succ]; go_wp2_with (go_at_call 77; (with_reducible refine (within_yes _ _ _ (by omega) _).mono ?_); rintro r w1 ⟨rfl, rfl⟩)
  rw [rounds_succ]; go_wp2_with (go_at_call 77; (with_reducible refine (within_yes _ _ _ (by omega) _).mono ?_); rintro r w1 ⟨rfl, rfl⟩)
  rw [rounds_succ]; go_wp2_with (go_at_call 77; (with_reducible refine (within_yes _ _ _ (by omega) _).mono ?_); rintro r w1 ⟨rfl, rfl⟩)
  rw [rounds_succ]; go_wp2_with (go_at_call 77; (with_reducible refine (within_yes _ _ _ (by omega) _).mono ?_); rintro r w1 ⟨rfl, rfl⟩)
  rw [rounds_succ]; go_wp2_with (go_at_call 64; (with_reducible refine (nodes_ok H.out _).mono ?_); rintro r w1 ⟨rfl, hb1⟩)
  go_ret
  exact ⟨rfl, below_step ((Below.refl _ _).alloc (Nat.le_refl _) _) (by simp) hb1⟩
set_option maxHeartbeats 400000 in
theorem numbersOf_any (c : Cfg) (w : World) : Calls Tryz.prog 41 #[cfgV c] w fun r w' => r = .returned (cfgV c) ∧ Below w.heap.size w w' := by
  go_enter Tryz.func41, Tryz.ntmps41
  go_wp2
  exact bodyPost_ret (v := cfgV c) (by simp [results, Tryz.results41, go_sem]) rfl ⟨rfl, by go_grown⟩
set_option maxHeartbeats 400000 in
theorem config_any (c : Cfg) (w : World) : Calls Tryz.prog 80 #[cfgV c] w fun r w' => r = .returned (cfgV c) ∧ Below w.heap.size w w' := by
  go_enter Tryz.func80, Tryz.ntmps80
  go_wp2
  exact bodyPost_ret (v := cfgV c) (by simp [results, Tryz.results80, go_sem]) rfl ⟨rfl, by go_grown⟩
set_option maxHeartbeats 400000 in
theorem model_any (c : Cfg) (w : World) : Calls Tryz.prog 39 #[cfgV c] w fun r w' => r = .returned (cfgV c) ∧ Below w.heap.size w w' := by
  go_enter Tryz.func39, Tryz.ntmps39
  go_wp2
  exact bodyPost_ret (v := cfgV c) (by simp [results, Tryz.results39, go_sem]) rfl ⟨rfl, by go_grown⟩
end Go.Proofs.YthoiaffeenhfgaaGreat.Lay

namespace Go.Proofs.YthoiaffeenhfgaaGreat.Lay
open Go.RowKit
set_option linter.unusedVariables false
def sumTo (c : Cfg) : Nat → Int
  | 0 => 0
  | k + 1 => sumTo c k + cnt c.a c.b c.c c.d c.e k
theorem sum5 (c : Cfg) : sumTo c 5 = c.a + c.b + c.c + c.d + c.e := by simp [sumTo, cnt]
theorem cfg_cell (c : Cfg) (t : TypeId) (w : World) (K : Nat) (hK : K < 5) : (w.alloc (cfgO c t)).cell? ⟨w.heap.size, K, none⟩ = some (.int .i64 (cnt c.a c.b c.c c.d c.e K)) := by
  rw [World.cell?_alloc_at _ _ _ _ rfl]
  match K, hK with
  | 0, _ => rfl
  | 1, _ => rfl
  | 2, _ => rfl
  | 3, _ => rfl
  | 4, _ => rfl
theorem ok_of {c : Cfg} (h : ∀ j, j < 5 → 0 ≤ cnt c.a c.b c.c c.d c.e j ∧ cnt c.a c.b c.c c.d c.e j ≤ 12) (hs : 0 < sumTo c 5) (g1 : 1 ≤ c.mr ∧ c.mr ≤ 4) (g2 : 1 ≤ c.mu ∧ c.mu ≤ 4) (g3 : 2 ≤ c.dq ∧ c.dq ≤ 8) (g4 : 1 ≤ c.ch ∧ c.ch ≤ 16) (g5 : 1 ≤ c.bf ∧ c.bf ≤ 4) (g6 : 1 ≤ c.rt ∧ c.rt ≤ 8) (g7 : 1 ≤ c.sw ∧ c.sw ≤ 16) : OkC c := by
  have h0 := h 0 (by omega); have h1 := h 1 (by omega); have h2 := h 2 (by omega); have h3 := h 3 (by omega); have h4 := h 4 (by omega)
  rw [sum5] at hs
  simp [cnt] at h0 h1 h2 h3 h4
  exact ⟨by omega, by omega, by omega, by omega, by omega, by omega, by omega, by omega, by omega, by omega, by omega, by omega, by omega, by omega, by omega, by omega, by omega, by omega, by omega, by omega, by omega, by omega, by omega, by omega, by omega⟩
theorem of_ok {c : Cfg} (h : OkC c) : (∀ j, j < 5 → 0 ≤ cnt c.a c.b c.c c.d c.e j ∧ cnt c.a c.b c.c c.d c.e j ≤ 12) ∧ 0 < sumTo c 5 ∧ (1 ≤ c.mr ∧ c.mr ≤ 4) ∧ (1 ≤ c.mu ∧ c.mu ≤ 4) ∧ (2 ≤ c.dq ∧ c.dq ≤ 8) ∧ (1 ≤ c.ch ∧ c.ch ≤ 16) ∧ (1 ≤ c.bf ∧ c.bf ≤ 4) ∧ (1 ≤ c.rt ∧ c.rt ≤ 8) ∧ (1 ≤ c.sw ∧ c.sw ≤ 16) := by
  obtain ⟨a0, a1, b0, b1, c0, c1, d0, d1, e0, e1, s0, k0, k1, u0, u1, q0, q1, h0, h1, f0, f1, r0, r1, w0, w1⟩ := h
  refine ⟨fun j hj => ?_, by rw [sum5]; omega, by omega, by omega, by omega, by omega, by omega, by omega, by omega⟩
  match j, hj with
  | 0, _ => simp [cnt]; omega
  | 1, _ => simp [cnt]; omega
  | 2, _ => simp [cnt]; omega
  | 3, _ => simp [cnt]; omega
  | 4, _ => simp [cnt]; omega
def checkE (c : Cfg) (r : Int) : Prop := (OkC c → r = 0) ∧ (¬ OkC c → r = 21)
set_option maxHeartbeats 4000000 in
theorem rcheck_any (c : Cfg) (w : World) : Calls Tryz.prog 38 #[cfgV c] w fun r w' => ∃ x, r = .returned (.int .i64 x) ∧ checkE c x ∧ Below w.heap.size w w' := by
  obtain ⟨w0, hw0⟩ : ∃ w0 : World, w0 = w.alloc (cfgO c 69) := ⟨_, rfl⟩
  have hc0 : ∀ K, K < 5 → w0.cell? ⟨w.heap.size, K, none⟩ = some (.int .i64 (cnt c.a c.b c.c c.d c.e K)) := fun K hK => by rw [hw0]; exact cfg_cell c 69 w K hK
  have hbe : Below w.heap.size w w0 := by rw [hw0]; exact below_alloc0 (Below.refl _ _) _
  have HW := Lib.hid hw0
  have HC := Lib.hid hc0
  have HBE := Lib.hid hbe
  clear hw0 hc0 hbe
  go_enter Tryz.func38, Tryz.ntmps38
  go_wp2
  rw [← HW.out]
  go_loopw [3, 4] (fun s i wr => ∃ (K : Nat) (S : Bool), K ≤ 5 ∧ i = .int .i64 K ∧ s = .bool S ∧ (S = true ↔ 0 < sumTo c K) ∧ (∀ j, j < K → 0 ≤ cnt c.a c.b c.c c.d c.e j ∧ cnt c.a c.b c.c c.d c.e j ≤ 12) ∧ 0 ≤ sumTo c K ∧ wr = w0) (fun _ i _ => 5 - (intOf i).toNat)
  case atStart => exact ⟨0, false, by omega, rfl, rfl, by simp [sumTo], fun j hj => by omega, by simp [sumTo], rfl⟩
  case round =>
    obtain ⟨K, S, hK, rfl, rfl, hS, hA, h0, rfl⟩ := hrel
    have HS := Lib.hid hS
    have HA := Lib.hid hA
    have H0 := Lib.hid h0
    clear hS hA h0
    by_cases hlt : K < 5
    · have hcell := HC.out K hlt
      obtain ⟨C, hC⟩ : ∃ C, C = cnt c.a c.b c.c c.d c.e K := ⟨_, rfl⟩
      rw [← hC] at hcell
      have hst : sumTo c (K + 1) = sumTo c K + C := by rw [hC]; rfl
      have HST := Lib.hid hst
      have HCC := Lib.hid hC
      clear hC hst
      by_cases hin : 0 ≤ C ∧ C ≤ 12
      · have hA' : ∀ j, j < K + 1 → 0 ≤ cnt c.a c.b c.c c.d c.e j ∧ cnt c.a c.b c.c c.d c.e j ≤ 12 := fun j hj => by
          by_cases e : j = K
          · subst e; rw [← HCC.out]; exact hin
          · exact HA.out j (by omega)
        have HA' := Lib.hid hA'
        have HIN := Lib.hid hin
        clear hA' hin
        cases S with
        | true =>
          go_wp2_with (go_at_call 76; (with_reducible refine (rin_any _ _ _ _).mono ?_); rintro r w1 ⟨rfl, rfl⟩; rw [decide_eq_true HIN.out])
          go_roundw
          case rel => exact ⟨K + 1, true, by omega, by go_num, rfl, by have := HS.out; have := HST.out; have := HIN.out; have := H0.out; simp at *; omega, HA'.out, by have := HST.out; have := HIN.out; have := H0.out; omega, trivial⟩
          case measure => simp [intOf]; omega
        | false =>
          have hz : ¬ 0 < sumTo c K := fun h => by have := HS.out.2 h; cases this
          have HZ := Lib.hid hz; clear hz
          go_wp2_with (go_at_call 76; (with_reducible refine (rin_any _ _ _ _).mono ?_); rintro r w1 ⟨rfl, rfl⟩; rw [decide_eq_true HIN.out])
          go_roundw
          case rel => exact ⟨K + 1, decide (C > 0), by omega, by go_num, rfl, by have := HST.out; have := HZ.out; have := H0.out; simp; omega, HA'.out, by have := HST.out; have := HIN.out; have := H0.out; omega, trivial⟩
          case measure => simp [intOf]; omega
      · have hno : ¬ OkC c := fun h => hin (by rw [HCC.out]; exact (of_ok h).1 K hlt)
        have HNO := Lib.hid hno
        have HIN := Lib.hid hin
        clear hno hin
        go_wp2_with (go_at_call 76; (with_reducible refine (rin_any _ _ _ _).mono ?_); rintro r w1 ⟨rfl, rfl⟩; rw [decide_eq_false HIN.out])
        go_ret
        exact ⟨21, rfl, ⟨fun h => absurd h HNO.out, fun _ => rfl⟩, HBE.out⟩
    · obtain rfl : K = 5 := by omega
      clear hlt hK
      have l5 : wr.cell? ⟨w.heap.size, 5, none⟩ = some (.int .i64 c.mr) := by rw [HW.out, World.cell?_alloc_at _ _ _ _ rfl]; rfl
      have l6 : wr.cell? ⟨w.heap.size, 6, none⟩ = some (.int .i64 c.mu) := by rw [HW.out, World.cell?_alloc_at _ _ _ _ rfl]; rfl
      have l7 : wr.cell? ⟨w.heap.size, 7, none⟩ = some (.int .i64 c.dq) := by rw [HW.out, World.cell?_alloc_at _ _ _ _ rfl]; rfl
      have l8 : wr.cell? ⟨w.heap.size, 8, none⟩ = some (.int .i64 c.ch) := by rw [HW.out, World.cell?_alloc_at _ _ _ _ rfl]; rfl
      have l9 : wr.cell? ⟨w.heap.size, 9, none⟩ = some (.int .i64 c.bf) := by rw [HW.out, World.cell?_alloc_at _ _ _ _ rfl]; rfl
      have l10 : wr.cell? ⟨w.heap.size, 10, none⟩ = some (.int .i64 c.rt) := by rw [HW.out, World.cell?_alloc_at _ _ _ _ rfl]; rfl
      have l11 : wr.cell? ⟨w.heap.size, 11, none⟩ = some (.int .i64 c.sw) := by rw [HW.out, World.cell?_alloc_at _ _ _ _ rfl]; rfl
      obtain ⟨p1, hp1⟩ : ∃ p1, p1 = decide (1 ≤ c.mr ∧ c.mr ≤ 4) := ⟨_, rfl⟩
      obtain ⟨p2, hp2⟩ : ∃ p2, p2 = decide (1 ≤ c.mu ∧ c.mu ≤ 4) := ⟨_, rfl⟩
      obtain ⟨p3, hp3⟩ : ∃ p3, p3 = decide (2 ≤ c.dq ∧ c.dq ≤ 8) := ⟨_, rfl⟩
      obtain ⟨p4, hp4⟩ : ∃ p4, p4 = decide (1 ≤ c.ch ∧ c.ch ≤ 16) := ⟨_, rfl⟩
      obtain ⟨p5, hp5⟩ : ∃ p5, p5 = decide (1 ≤ c.bf ∧ c.bf ≤ 4) := ⟨_, rfl⟩
      obtain ⟨p6, hp6⟩ : ∃ p6, p6 = decide (1 ≤ c.rt ∧ c.rt ≤ 8) := ⟨_, rfl⟩
      obtain ⟨p7, hp7⟩ : ∃ p7, p7 = decide (1 ≤ c.sw ∧ c.sw ≤ 16) := ⟨_, rfl⟩
      have hR : checkE c (if (S && p1 && p2 && p3 && p4 && p5 && p6 && p7) = true then 0 else 21) := by
        refine ⟨fun h => ?_, fun h => ?_⟩
        · obtain ⟨h1, h2, g1, g2, g3, g4, g5, g6, g7⟩ := of_ok h
          rw [HS.out.2 h2, hp1, hp2, hp3, hp4, hp5, hp6, hp7, decide_eq_true g1, decide_eq_true g2, decide_eq_true g3, decide_eq_true g4, decide_eq_true g5, decide_eq_true g6, decide_eq_true g7]
          rfl
        · rw [if_neg]
          intro hh
          simp only [Bool.and_eq_true] at hh
          obtain ⟨⟨⟨⟨⟨⟨⟨e0, e1⟩, e2⟩, e3⟩, e4⟩, e5⟩, e6⟩, e7⟩ := hh
          rw [hp1] at e1; rw [hp2] at e2; rw [hp3] at e3; rw [hp4] at e4; rw [hp5] at e5; rw [hp6] at e6; rw [hp7] at e7
          exact h (ok_of HA.out (HS.out.1 e0) (of_decide_eq_true e1) (of_decide_eq_true e2) (of_decide_eq_true e3) (of_decide_eq_true e4) (of_decide_eq_true e5) (of_decide_eq_true e6) (of_decide_eq_true e7))
      have HR := Lib.hid hR
      have P1 := Lib.hid hp1; have P2 := Lib.hid hp2; have P3 := Lib.hid hp3; have P4 := Lib.hid hp4; have P5 := Lib.hid hp5; have P6 := Lib.hid hp6; have P7 := Lib.hid hp7
      clear hR hp1 hp2 hp3 hp4 hp5 hp6 hp7
      have k1 : ∀ w, Calls Tryz.prog 76 #[.int .i64 c.mr, .int .i64 1, .int .i64 4] w fun e w' => e = .returned (.bool p1) ∧ w = w' := fun w => by rw [P1.out]; exact rin_any _ _ _ _
      have k2 : ∀ w, Calls Tryz.prog 76 #[.int .i64 c.mu, .int .i64 1, .int .i64 4] w fun e w' => e = .returned (.bool p2) ∧ w = w' := fun w => by rw [P2.out]; exact rin_any _ _ _ _
      have k3 : ∀ w, Calls Tryz.prog 76 #[.int .i64 c.dq, .int .i64 2, .int .i64 8] w fun e w' => e = .returned (.bool p3) ∧ w = w' := fun w => by rw [P3.out]; exact rin_any _ _ _ _
      have k4 : ∀ w, Calls Tryz.prog 76 #[.int .i64 c.ch, .int .i64 1, .int .i64 16] w fun e w' => e = .returned (.bool p4) ∧ w = w' := fun w => by rw [P4.out]; exact rin_any _ _ _ _
      have k5 : ∀ w, Calls Tryz.prog 76 #[.int .i64 c.bf, .int .i64 1, .int .i64 4] w fun e w' => e = .returned (.bool p5) ∧ w = w' := fun w => by rw [P5.out]; exact rin_any _ _ _ _
      have k6 : ∀ w, Calls Tryz.prog 76 #[.int .i64 c.rt, .int .i64 1, .int .i64 8] w fun e w' => e = .returned (.bool p6) ∧ w = w' := fun w => by rw [P6.out]; exact rin_any _ _ _ _
      have k7 : ∀ w, Calls Tryz.prog 76 #[.int .i64 c.sw, .int .i64 1, .int .i64 16] w fun e w' => e = .returned (.bool p7) ∧ w = w' := fun w => by rw [P7.out]; exact rin_any _ _ _ _
      have K1 := Lib.hid k1; have K2 := Lib.hid k2; have K3 := Lib.hid k3; have K4 := Lib.hid k4; have K5 := Lib.hid k5; have K6 := Lib.hid k6; have K7 := Lib.hid k7
      clear k1 k2 k3 k4 k5 k6 k7
      clear P1 P2 P3 P4 P5 P6 P7 HA HS H0
      cases p1 <;> cases p2 <;> cases p3 <;> cases p4
      all_goals go_wp2_with (first
        | (go_at_call 76; (with_reducible refine (K1.out _).mono ?_); rintro r w1 ⟨rfl, rfl⟩)
        | (go_at_call 76; (with_reducible refine (K2.out _).mono ?_); rintro r w1 ⟨rfl, rfl⟩)
        | (go_at_call 76; (with_reducible refine (K3.out _).mono ?_); rintro r w1 ⟨rfl, rfl⟩)
        | (go_at_call 76; (with_reducible refine (K4.out _).mono ?_); rintro r w1 ⟨rfl, rfl⟩)
        | (go_at_call 76; (with_reducible refine (K5.out _).mono ?_); rintro r w1 ⟨rfl, rfl⟩)
        | (go_at_call 76; (with_reducible refine (K6.out _).mono ?_); rintro r w1 ⟨rfl, rfl⟩)
        | (go_at_call 76; (with_reducible refine (K7.out _).mono ?_); rintro r w1 ⟨rfl, rfl⟩))
      all_goals go_ret
      all_goals refine ⟨_, rfl, ?_, HBE.out⟩
      all_goals first | (simpa using HR.out) | (have hr := HR.out; clear HR HBE HW HC; simp_all)
end Go.Proofs.YthoiaffeenhfgaaGreat.Lay

namespace Go.Proofs.YthoiaffeenhfgaaGreat.Lay
open Go.ChangeShapes Go.WideShapes Go.RowKit
set_option linter.constructorNameAsVariable false
set_option maxRecDepth 100000
section
variable {H : Type} {enc : TypeId × Value → H} {w : World} {base : Nat} {spare : Nat → Bool} {held : Bool}
theorem one_cell {fuel : Nat} {cs : List Value} {i : Nat} {y : DataW H × List MemPlace} (h : DataW.trod enc Tryz.prog w base spare held fuel 3 ((cs.drop i).take 1) = some y) : ∃ x : Int, cs[i]? = some (.int .i64 x) := by
  obtain ⟨x, h1, _, _⟩ := DataW.trod_int Tryz.underlying3 h
  have := congrArg (fun l => l[0]?) h1
  exact ⟨x, by simpa [List.getElem?_take, List.getElem?_drop] using this⟩
theorem open_cfg {r : Reach} {b0 : Nat} {v : Value} {d : DataW H} {p : List MemPlace} (hv : Value.okWide Tryz.prog w r b0 24 v) (h : DataW.Trod enc Tryz.prog w base spare held 24 v d p) : ∃ c : Cfg, v = cfgV c := by
  have ht := Tryz.underlying24
  obtain ⟨cs, rfl, hsz⟩ : ∃ cs, v = .agg cs ∧ cs.size = Tryz.prog.cellsOf 24 := by
    simp only [Value.okWide, ht] at hv
    obtain ⟨cs, h1, h2, _⟩ := hv
    exact ⟨cs, h1, h2⟩
  have hc24 : Tryz.prog.cellsOf 24 = 12 := by kernel_rfl
  have hc22 : Tryz.prog.cellsOf 22 = 5 := by kernel_rfl
  have hc3 : Tryz.prog.cellsOf 3 = 1 := by kernel_rfl
  obtain ⟨fuel, hf⟩ := h
  obtain ⟨xs, m, _, _, _, hl, hel⟩ := DataW.trod_struct ht hf
  have g0 : DataW.trod enc Tryz.prog w base spare held m 22 (List.take (Tryz.prog.cellsOf 22) (List.drop 0 _)) = xs[0]? := hel 0 _ rfl
  have g1 : DataW.trod enc Tryz.prog w base spare held m 3 (List.take (Tryz.prog.cellsOf 3) (List.drop 5 _)) = xs[1]? := hel 1 _ rfl
  have g2 : DataW.trod enc Tryz.prog w base spare held m 3 (List.take (Tryz.prog.cellsOf 3) (List.drop 6 _)) = xs[2]? := hel 2 _ rfl
  have g3 : DataW.trod enc Tryz.prog w base spare held m 3 (List.take (Tryz.prog.cellsOf 3) (List.drop 7 _)) = xs[3]? := hel 3 _ rfl
  have g4 : DataW.trod enc Tryz.prog w base spare held m 3 (List.take (Tryz.prog.cellsOf 3) (List.drop 8 _)) = xs[4]? := hel 4 _ rfl
  have g5 : DataW.trod enc Tryz.prog w base spare held m 3 (List.take (Tryz.prog.cellsOf 3) (List.drop 9 _)) = xs[5]? := hel 5 _ rfl
  have g6 : DataW.trod enc Tryz.prog w base spare held m 3 (List.take (Tryz.prog.cellsOf 3) (List.drop 10 _)) = xs[6]? := hel 6 _ rfl
  have g7 : DataW.trod enc Tryz.prog w base spare held m 3 (List.take (Tryz.prog.cellsOf 3) (List.drop 11 _)) = xs[7]? := hel 7 _ rfl
  have hx8 : xs.length = 8 := hl
  rw [hc22] at g0
  rw [hc3] at g1 g2 g3 g4 g5 g6 g7
  rw [List.getElem?_eq_getElem (by omega)] at g0 g1 g2 g3 g4 g5 g6 g7
  obtain ⟨xs0, m0, _, _, _, hl0, hel0⟩ := DataW.trod_array Tryz.underlying22 g0
  have key : ∀ i, i < 5 → ∃ x : Int, cs.toList[i]? = some (.int .i64 x) := fun i hi => by
    have e := hel0 i hi
    rw [hc3, List.getElem?_eq_getElem (by omega)] at e
    obtain ⟨x, hx⟩ := one_cell (by simpa using e)
    refine ⟨x, ?_⟩
    simpa [Value.cells, List.getElem?_take, hi] using hx
  obtain ⟨a, ha⟩ := key 0 (by omega)
  obtain ⟨b, hb⟩ := key 1 (by omega)
  obtain ⟨c, hc⟩ := key 2 (by omega)
  obtain ⟨d', hd⟩ := key 3 (by omega)
  obtain ⟨e, he⟩ := key 4 (by omega)
  obtain ⟨f1, h1⟩ := one_cell g1
  obtain ⟨f2, h2⟩ := one_cell g2
  obtain ⟨f3, h3⟩ := one_cell g3
  obtain ⟨f4, h4⟩ := one_cell g4
  obtain ⟨f5, h5⟩ := one_cell g5
  obtain ⟨f6, h6⟩ := one_cell g6
  obtain ⟨f7, h7⟩ := one_cell g7
  refine ⟨⟨a, b, c, d', e, f1, f2, f3, f4, f5, f6, f7⟩, ?_⟩
  show Value.agg cs = Value.agg _
  congr 1
  apply Array.ext'
  apply List.ext_getElem?
  intro i
  have hn : cs.toList.length = 12 := by simpa [hc24] using hsz
  match i with
  | 0 => exact ha
  | 1 => exact hb
  | 2 => exact hc
  | 3 => exact hd
  | 4 => exact he
  | 5 => exact h1
  | 6 => exact h2
  | 7 => exact h3
  | 8 => exact h4
  | 9 => exact h5
  | 10 => exact h6
  | 11 => exact h7
  | i + 12 => rw [List.getElem?_eq_none (by omega)]; rfl
end
end Go.Proofs.YthoiaffeenhfgaaGreat.Lay

namespace Go.Proofs.YthoiaffeenhfgaaGreat
open Go.ChangeShapes Go.WideShapes Go.RowKit
section
variable {H : Type} {enc : TypeId × Value → H} {P : Program} {w : World} {base : Nat} {spare : Nat → Bool} {held : Bool}
def IsRow (k : IntKind) (w : World) (a : Option Addr) (len cap : Nat) (zs : List Int) : Prop :=
  (a = none ∧ len = 0 ∧ cap = 0 ∧ zs = []) ∨
  ∃ x, a = some x ∧ len ≤ cap ∧ cap ≤ maxLen ∧ zs.length = cap ∧ (∀ i, i < zs.length → w.cell? (x.add i) = some (.int k (zs.getD i 0))) ∧ ∀ n ∈ zs, (Lit.int k n).wf = true
theorem open_row {t e : TypeId} {k : IntKind} {a : Option Addr} {len cap : Nat} {d : DataW H} {p : List MemPlace} (ht : P.underlying t = some (.slice e)) (he : P.underlying e = some (.int k)) (hce : P.cellsOf e = 1)
    (h : DataW.Trod enc P w 0 (fun _ => true) held t (.slice a len cap) d p) : ∃ zs, IsRow k w a len cap zs := by
  obtain ⟨fuel, hf⟩ := h
  rcases open_ints ht he hce hf with ⟨hcs, _⟩ | ⟨x, l, c, zs, hcs, _, hl, hm, hz, _, hcell, hwz⟩
  · simp [Value.cells] at hcs
    obtain ⟨rfl, rfl, rfl⟩ := hcs
    exact ⟨[], .inl ⟨rfl, rfl, rfl, rfl⟩⟩
  · simp [Value.cells] at hcs
    obtain ⟨rfl, rfl, rfl⟩ := hcs
    exact ⟨zs, .inr ⟨_, rfl, hl, hm, by simpa using hz, hcell, hwz⟩⟩
end
theorem reads_row {k : IntKind} {w : World} {a : Option Addr} {len cap : Nat} {z : List Int} (h : IsRow k w a len cap z) :
    Reads k w a (z.take len) ∧ (z.take len).length = len ∧ len ≤ cap ∧ cap ≤ maxLen ∧ (a = none → cap = 0) ∧ ∀ x ∈ z.take len, (Lit.int k x).wf = true := by
  rcases h with ⟨rfl, rfl, rfl, rfl⟩ | ⟨x, rfl, h1, h2, h3, h4, h5⟩
  · exact ⟨fun h => by simp at h, rfl, Nat.le_refl _, Nat.zero_le _, fun _ => rfl, by simp⟩
  · have hl : (z.take len).length = len := by simp; omega
    refine ⟨fun h0 => ?_, hl, h1, h2, (fun e => by cases e), fun y hy => h5 y (List.mem_of_mem_take hy)⟩
    have c0 := h4 0 (by omega)
    obtain ⟨b, off, sp⟩ := x
    have hs : sp = none := by
      cases sp with
      | none => rfl
      | some s =>
        exfalso
        simp only [Addr.add, if_true] at c0
        unfold World.cell? at c0
        simp only [Option.isSome_some, if_true] at c0
        split at c0 <;> simp at c0
    subst hs
    refine ⟨b, off, rfl, ?_, fun j hj => ?_⟩
    · rw [add_off] at c0
      exact World.block_lt_of_cell? w _ c0
    · have c := h4 j (by omega)
      rw [add_off] at c
      rw [c]
      have hj2 : j < len := by omega
      simp [List.getD, hj2]
end Go.Proofs.YthoiaffeenhfgaaGreat

namespace Go.Proofs.YthoiaffeenhfgaaGreat
open Go.ChangeShapes Go.WideShapes Go.RowKit
set_option linter.constructorNameAsVariable false
set_option maxRecDepth 100000
abbrev Cfg := Lay.Cfg
abbrev cfgV (c : Cfg) : Value := Lay.cfgV c
theorem open_cfg {H : Type} {enc : TypeId × Value → H} {w : World} {base : Nat} {spare : Nat → Bool} {held : Bool} {r : Reach} {b0 : Nat} {v : Value} {d : DataW H} {p : List MemPlace} (hv : Value.okWide Tryz.prog w r b0 24 v) (h : DataW.Trod enc Tryz.prog w base spare held 24 v d p) : ∃ c : Cfg, v = cfgV c := Lay.open_cfg hv h
end Go.Proofs.YthoiaffeenhfgaaGreat
