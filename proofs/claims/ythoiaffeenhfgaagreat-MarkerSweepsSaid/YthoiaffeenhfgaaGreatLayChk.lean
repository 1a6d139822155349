
import Derived.Test.YthoiaffeenhfgaaGreatJ6
namespace Go.Proofs.YthoiaffeenhfgaaGreat.Lay
open Go.RowKit
set_option linter.unusedVariables false
def sumTo (c : Cfg) : Nat → Int
  | 0 => 0
  | k + 1 => sumTo c k + cnt c.a c.b c.c c.d c.e k
theorem sum5 (c : Cfg) : sumTo c 5 = c.a + c.b + c.c + c.d + c.e := by simp [sumTo, cnt]
theorem cfg_cell (c : Cfg) (t : TypeId) (w : World) (K : Nat) (hK : K < 5) : (w.alloc (cfgO c t)).cell? ⟨w.heap.size, K, none⟩ = some (.int .i64 (cnt c.a c.b c.c c.d c.e K)) := by
  rw [World.cell?_alloc_at _ _ _ _ rfl]
  match K, hK with
  | 0, _ => rfl
  | 1, _ => rfl
  | 2, _ => rfl
  | 3, _ => rfl
  | 4, _ => rfl
theorem ok_of {c : Cfg} (h : ∀ j, j < 5 → 0 ≤ cnt c.a c.b c.c c.d c.e j ∧ cnt c.a c.b c.c c.d c.e j ≤ 12) (hs : 0 < sumTo c 5) (g1 : 1 ≤ c.mr ∧ c.mr ≤ 4) (g2 : 1 ≤ c.mu ∧ c.mu ≤ 4) (g3 : 2 ≤ c.dq ∧ c.dq ≤ 8) (g4 : 1 ≤ c.ch ∧ c.ch ≤ 16) (g5 : 1 ≤ c.bf ∧ c.bf ≤ 4) (g6 : 1 ≤ c.rt ∧ c.rt ≤ 8) (g7 : 1 ≤ c.sw ∧ c.sw ≤ 16) : OkC c := by
  have h0 := h 0 (by omega); have h1 := h 1 (by omega); have h2 := h 2 (by omega); have h3 := h 3 (by omega); have h4 := h 4 (by omega)
  rw [sum5] at hs
  simp [cnt] at h0 h1 h2 h3 h4
  exact ⟨by omega, by omega, by omega, by omega, by omega, by omega, by omega, by omega, by omega, by omega, by omega, by omega, by omega, by omega, by omega, by omega, by omega, by omega, by omega, by omega, by omega, by omega, by omega, by omega, by omega⟩
theorem of_ok {c : Cfg} (h : OkC c) : (∀ j, j < 5 → 0 ≤ cnt c.a c.b c.c c.d c.e j ∧ cnt c.a c.b c.c c.d c.e j ≤ 12) ∧ 0 < sumTo c 5 ∧ (1 ≤ c.mr ∧ c.mr ≤ 4) ∧ (1 ≤ c.mu ∧ c.mu ≤ 4) ∧ (2 ≤ c.dq ∧ c.dq ≤ 8) ∧ (1 ≤ c.ch ∧ c.ch ≤ 16) ∧ (1 ≤ c.bf ∧ c.bf ≤ 4) ∧ (1 ≤ c.rt ∧ c.rt ≤ 8) ∧ (1 ≤ c.sw ∧ c.sw ≤ 16) := by
  obtain ⟨a0, a1, b0, b1, c0, c1, d0, d1, e0, e1, s0, k0, k1, u0, u1, q0, q1, h0, h1, f0, f1, r0, r1, w0, w1⟩ := h
  refine ⟨fun j hj => ?_, by rw [sum5]; omega, by omega, by omega, by omega, by omega, by omega, by omega, by omega⟩
  match j, hj with
  | 0, _ => simp [cnt]; omega
  | 1, _ => simp [cnt]; omega
  | 2, _ => simp [cnt]; omega
  | 3, _ => simp [cnt]; omega
  | 4, _ => simp [cnt]; omega
def checkE (c : Cfg) (r : Int) : Prop := (OkC c → r = 0) ∧ (¬ OkC c → r = 21)
set_option maxHeartbeats 4000000 in
theorem rcheck_any (c : Cfg) (w : World) : Calls Tryz.prog 38 #[cfgV c] w fun r w' => ∃ x, r = .returned (.int .i64 x) ∧ checkE c x ∧ Below w.heap.size w w' := by
  obtain ⟨w0, hw0⟩ : ∃ w0 : World, w0 = w.alloc (cfgO c 69) := ⟨_, rfl⟩
  have hc0 : ∀ K, K < 5 → w0.cell? ⟨w.heap.size, K, none⟩ = some (.int .i64 (cnt c.a c.b c.c c.d c.e K)) := fun K hK => by rw [hw0]; exact cfg_cell c 69 w K hK
  have hbe : Below w.heap.size w w0 := by rw [hw0]; exact below_alloc0 (Below.refl _ _) _
  have HW := Lib.hid hw0
  have HC := Lib.hid hc0
  have HBE := Lib.hid hbe
  clear hw0 hc0 hbe
  go_enter Tryz.func38, Tryz.ntmps38
  go_wp2
  rw [← HW.out]
  go_loopw [3, 4] (fun s i wr => ∃ (K : Nat) (S : Bool), K ≤ 5 ∧ i = .int .i64 K ∧ s = .bool S ∧ (S = true ↔ 0 < sumTo c K) ∧ (∀ j, j < K → 0 ≤ cnt c.a c.b c.c c.d c.e j ∧ cnt c.a c.b c.c c.d c.e j ≤ 12) ∧ 0 ≤ sumTo c K ∧ wr = w0) (fun _ i _ => 5 - (intOf i).toNat)
  case atStart => exact ⟨0, false, by omega, rfl, rfl, by simp [sumTo], fun j hj => by omega, by simp [sumTo], rfl⟩
  case round =>
    obtain ⟨K, S, hK, rfl, rfl, hS, hA, h0, rfl⟩ := hrel
    have HS := Lib.hid hS
    have HA := Lib.hid hA
    have H0 := Lib.hid h0
    clear hS hA h0
    by_cases hlt : K < 5
    · have hcell := HC.out K hlt
      obtain ⟨C, hC⟩ : ∃ C, C = cnt c.a c.b c.c c.d c.e K := ⟨_, rfl⟩
      rw [← hC] at hcell
      have hst : sumTo c (K + 1) = sumTo c K + C := by rw [hC]; rfl
      have HST := Lib.hid hst
      have HCC := Lib.hid hC
      clear hC hst
      by_cases hin : 0 ≤ C ∧ C ≤ 12
      · have hA' : ∀ j, j < K + 1 → 0 ≤ cnt c.a c.b c.c c.d c.e j ∧ cnt c.a c.b c.c c.d c.e j ≤ 12 := fun j hj => by
          by_cases e : j = K
          · subst e; rw [← HCC.out]; exact hin
          · exact HA.out j (by omega)
        have HA' := Lib.hid hA'
        have HIN := Lib.hid hin
        clear hA' hin
        cases S with
        | true =>
          go_wp2_with (go_at_call 76; (with_reducible refine (rin_any _ _ _ _).mono ?_); rintro r w1 ⟨rfl, rfl⟩; rw [decide_eq_true HIN.out])
          go_roundw
          case rel => exact ⟨K + 1, true, by omega, by go_num, rfl, by have := HS.out; have := HST.out; have := HIN.out; have := H0.out; simp at *; omega, HA'.out, by have := HST.out; have := HIN.out; have := H0.out; omega, trivial⟩
          case measure => simp [intOf]; omega
        | false =>
          have hz : ¬ 0 < sumTo c K := fun h => by have := HS.out.2 h; cases this
          have HZ := Lib.hid hz; clear hz
          go_wp2_with (go_at_call 76; (with_reducible refine (rin_any _ _ _ _).mono ?_); rintro r w1 ⟨rfl, rfl⟩; rw [decide_eq_true HIN.out])
          go_roundw
          case rel => exact ⟨K + 1, decide (C > 0), by omega, by go_num, rfl, by have := HST.out; have := HZ.out; have := H0.out; simp; omega, HA'.out, by have := HST.out; have := HIN.out; have := H0.out; omega, trivial⟩
          case measure => simp [intOf]; omega
      · have hno : ¬ OkC c := fun h => hin (by rw [HCC.out]; exact (of_ok h).1 K hlt)
        have HNO := Lib.hid hno
        have HIN := Lib.hid hin
        clear hno hin
        go_wp2_with (go_at_call 76; (with_reducible refine (rin_any _ _ _ _).mono ?_); rintro r w1 ⟨rfl, rfl⟩; rw [decide_eq_false HIN.out])
        go_ret
        exact ⟨21, rfl, ⟨fun h => absurd h HNO.out, fun _ => rfl⟩, HBE.out⟩
    · obtain rfl : K = 5 := by omega
      clear hlt hK
      have l5 : wr.cell? ⟨w.heap.size, 5, none⟩ = some (.int .i64 c.mr) := by rw [HW.out, World.cell?_alloc_at _ _ _ _ rfl]; rfl
      have l6 : wr.cell? ⟨w.heap.size, 6, none⟩ = some (.int .i64 c.mu) := by rw [HW.out, World.cell?_alloc_at _ _ _ _ rfl]; rfl
      have l7 : wr.cell? ⟨w.heap.size, 7, none⟩ = some (.int .i64 c.dq) := by rw [HW.out, World.cell?_alloc_at _ _ _ _ rfl]; rfl
      have l8 : wr.cell? ⟨w.heap.size, 8, none⟩ = some (.int .i64 c.ch) := by rw [HW.out, World.cell?_alloc_at _ _ _ _ rfl]; rfl
      have l9 : wr.cell? ⟨w.heap.size, 9, none⟩ = some (.int .i64 c.bf) := by rw [HW.out, World.cell?_alloc_at _ _ _ _ rfl]; rfl
      have l10 : wr.cell? ⟨w.heap.size, 10, none⟩ = some (.int .i64 c.rt) := by rw [HW.out, World.cell?_alloc_at _ _ _ _ rfl]; rfl
      have l11 : wr.cell? ⟨w.heap.size, 11, none⟩ = some (.int .i64 c.sw) := by rw [HW.out, World.cell?_alloc_at _ _ _ _ rfl]; rfl
      obtain ⟨p1, hp1⟩ : ∃ p1, p1 = decide (1 ≤ c.mr ∧ c.mr ≤ 4) := ⟨_, rfl⟩
      obtain ⟨p2, hp2⟩ : ∃ p2, p2 = decide (1 ≤ c.mu ∧ c.mu ≤ 4) := ⟨_, rfl⟩
      obtain ⟨p3, hp3⟩ : ∃ p3, p3 = decide (2 ≤ c.dq ∧ c.dq ≤ 8) := ⟨_, rfl⟩
      obtain ⟨p4, hp4⟩ : ∃ p4, p4 = decide (1 ≤ c.ch ∧ c.ch ≤ 16) := ⟨_, rfl⟩
      obtain ⟨p5, hp5⟩ : ∃ p5, p5 = decide (1 ≤ c.bf ∧ c.bf ≤ 4) := ⟨_, rfl⟩
      obtain ⟨p6, hp6⟩ : ∃ p6, p6 = decide (1 ≤ c.rt ∧ c.rt ≤ 8) := ⟨_, rfl⟩
      obtain ⟨p7, hp7⟩ : ∃ p7, p7 = decide (1 ≤ c.sw ∧ c.sw ≤ 16) := ⟨_, rfl⟩
      have hR : checkE c (if (S && p1 && p2 && p3 && p4 && p5 && p6 && p7) = true then 0 else 21) := by
        refine ⟨fun h => ?_, fun h => ?_⟩
        · obtain ⟨h1, h2, g1, g2, g3, g4, g5, g6, g7⟩ := of_ok h
          rw [HS.out.2 h2, hp1, hp2, hp3, hp4, hp5, hp6, hp7, decide_eq_true g1, decide_eq_true g2, decide_eq_true g3, decide_eq_true g4, decide_eq_true g5, decide_eq_true g6, decide_eq_true g7]
          rfl
        · rw [if_neg]
          intro hh
          simp only [Bool.and_eq_true] at hh
          obtain ⟨⟨⟨⟨⟨⟨⟨e0, e1⟩, e2⟩, e3⟩, e4⟩, e5⟩, e6⟩, e7⟩ := hh
          rw [hp1] at e1; rw [hp2] at e2; rw [hp3] at e3; rw [hp4] at e4; rw [hp5] at e5; rw [hp6] at e6; rw [hp7] at e7
          exact h (ok_of HA.out (HS.out.1 e0) (of_decide_eq_true e1) (of_decide_eq_true e2) (of_decide_eq_true e3) (of_decide_eq_true e4) (of_decide_eq_true e5) (of_decide_eq_true e6) (of_decide_eq_true e7))
      have HR := Lib.hid hR
      have P1 := Lib.hid hp1; have P2 := Lib.hid hp2; have P3 := Lib.hid hp3; have P4 := Lib.hid hp4; have P5 := Lib.hid hp5; have P6 := Lib.hid hp6; have P7 := Lib.hid hp7
      clear hR hp1 hp2 hp3 hp4 hp5 hp6 hp7
      have k1 : ∀ w, Calls Tryz.prog 76 #[.int .i64 c.mr, .int .i64 1, .int .i64 4] w fun e w' => e = .returned (.bool p1) ∧ w = w' := fun w => by rw [P1.out]; exact rin_any _ _ _ _
      have k2 : ∀ w, Calls Tryz.prog 76 #[.int .i64 c.mu, .int .i64 1, .int .i64 4] w fun e w' => e = .returned (.bool p2) ∧ w = w' := fun w => by rw [P2.out]; exact rin_any _ _ _ _
      have k3 : ∀ w, Calls Tryz.prog 76 #[.int .i64 c.dq, .int .i64 2, .int .i64 8] w fun e w' => e = .returned (.bool p3) ∧ w = w' := fun w => by rw [P3.out]; exact rin_any _ _ _ _
      have k4 : ∀ w, Calls Tryz.prog 76 #[.int .i64 c.ch, .int .i64 1, .int .i64 16] w fun e w' => e = .returned (.bool p4) ∧ w = w' := fun w => by rw [P4.out]; exact rin_any _ _ _ _
      have k5 : ∀ w, Calls Tryz.prog 76 #[.int .i64 c.bf, .int .i64 1, .int .i64 4] w fun e w' => e = .returned (.bool p5) ∧ w = w' := fun w => by rw [P5.out]; exact rin_any _ _ _ _
      have k6 : ∀ w, Calls Tryz.prog 76 #[.int .i64 c.rt, .int .i64 1, .int .i64 8] w fun e w' => e = .returned (.bool p6) ∧ w = w' := fun w => by rw [P6.out]; exact rin_any _ _ _ _
      have k7 : ∀ w, Calls Tryz.prog 76 #[.int .i64 c.sw, .int .i64 1, .int .i64 16] w fun e w' => e = .returned (.bool p7) ∧ w = w' := fun w => by rw [P7.out]; exact rin_any _ _ _ _
      have K1 := Lib.hid k1; have K2 := Lib.hid k2; have K3 := Lib.hid k3; have K4 := Lib.hid k4; have K5 := Lib.hid k5; have K6 := Lib.hid k6; have K7 := Lib.hid k7
      clear k1 k2 k3 k4 k5 k6 k7
      clear P1 P2 P3 P4 P5 P6 P7 HA HS H0
      cases p1 <;> cases p2 <;> cases p3 <;> cases p4
      all_goals go_wp2_with (first
        | (go_at_call 76; (with_reducible refine (K1.out _).mono ?_); rintro r w1 ⟨rfl, rfl⟩)
        | (go_at_call 76; (with_reducible refine (K2.out _).mono ?_); rintro r w1 ⟨rfl, rfl⟩)
        | (go_at_call 76; (with_reducible refine (K3.out _).mono ?_); rintro r w1 ⟨rfl, rfl⟩)
        | (go_at_call 76; (with_reducible refine (K4.out _).mono ?_); rintro r w1 ⟨rfl, rfl⟩)
        | (go_at_call 76; (with_reducible refine (K5.out _).mono ?_); rintro r w1 ⟨rfl, rfl⟩)
        | (go_at_call 76; (with_reducible refine (K6.out _).mono ?_); rintro r w1 ⟨rfl, rfl⟩)
        | (go_at_call 76; (with_reducible refine (K7.out _).mono ?_); rintro r w1 ⟨rfl, rfl⟩))
      all_goals go_ret
      all_goals refine ⟨_, rfl, ?_, HBE.out⟩
      all_goals first | (simpa using HR.out) | (have hr := HR.out; clear HR HBE HW HC; simp_all)
end Go.Proofs.YthoiaffeenhfgaaGreat.Lay
