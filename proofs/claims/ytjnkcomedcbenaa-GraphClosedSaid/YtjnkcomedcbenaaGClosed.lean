/- The call of the law of what can be come to. -/
import Derived.Test.YtjnkcomedcbenaaGMarks
import Derived.Test.YtjnkcomedcbenaaGGone
namespace Go.Proofs.Ytjnkcomedcbenaa
open Go.RowKit
set_option linter.unusedVariables false

set_option maxHeartbeats 16000000 in
set_option maxRecDepth 100000 in
theorem walkClosed (A : Option Addr) (n capA : Nat) (l : List Op5) (w : World) (ha : IsOps w A n capA l) :
    Calls Try.prog 5 #[.slice A n capA] w fun e w' => e = .returned (.bool true) ∧ Below w.heap.size w w' := by
  obtain ⟨hra, hal, _, _, hwa⟩ := ha
  by_cases h60 : 60 < n
  · have h60' : (60 : Int) < (n : Int) := by omega
    clear hra hal hwa
    go_enter Try.func5, Try.ntmps5
    go_wp2_with (first
      | (go_at_call 10; (with_reducible refine (awake_any _).mono ?_); rintro r w1 ⟨rfl, hb⟩)
      | fail)
    go_ret
    exact ⟨rfl, hb⟩
  have h60' : ¬ (60 : Int) < (n : Int) := by omega
  have hn60 : n ≤ 60 := by omega
  have HA := Lib.hid hra; have HAL := Lib.hid hal
  obtain ⟨G0, hG0⟩ : ∃ G0, G0 = gNew 3 6 3 := ⟨_, rfl⟩
  have HG0 := Lib.hid hG0
  have HN0 : Hid (G0.nodes.length = 1 ∧ G0.roots.length = 3 ∧ G0.most = 6) := Lib.hid (by rw [hG0]; exact ⟨rfl, rfl, rfl⟩)
  clear hra hal hwa h60 hG0
  go_enter Try.func5, Try.ntmps5
  go_wp2_with (first
    | (go_at_call 10; (with_reducible refine (awake_any _).mono ?_); rintro r w1 ⟨rfl, hb⟩; have HBW := Lib.hid hb; clear hb)
    | (go_at_call 11; (with_reducible refine (new_q HBW.out 3 6 3 (by decide) (by decide)).mono ?_); rintro r w2 ⟨S, T, F, rfl, hg, -⟩; rw [← HG0.out] at hg; have HK := Lib.hid hg; clear hg HBW)
    | fail)
  go_loopw [5] (fun iv wr => ∃ (k : Nat) (T' F' : Nat → Prop), k ≤ n ∧ iv = .int .i64 (k : Int) ∧ GOwn w wr S T' F' (opsTo G0 l k)) (fun iv _ => n - (RowKit.intOf iv).toNat)
  case atStart => exact ⟨0, T, F, Nat.zero_le _, rfl, HK.out⟩
  case round =>
    clear HK
    obtain ⟨k, T', F', hk, rfl, hg⟩ := hrel
    by_cases hlt : k < n
    · obtain ⟨b', off, hA, c0, c1, c2, c3, c4⟩ := (HA.out.below hg.bel).at' k (by rw [HAL.out]; exact hlt)
      subst hA
      obtain ⟨x, hx⟩ : ∃ x, x = atO l k := ⟨_, rfl⟩
      rw [← hx] at c0 c1 c2 c3 c4
      have hsucc : (gPlay (opsTo G0 l k) x).1 = opsTo G0 l (k + 1) := by rw [hx]; rfl
      obtain ⟨g', y, z, hp⟩ : ∃ g' y z, gPlay (opsTo G0 l k) x = (g', y, z) := ⟨_, _, _, rfl⟩
      rw [hp] at hsucc
      have HP := Lib.hid hp; have HS : Hid (g' = opsTo G0 l (k + 1)) := Lib.hid hsucc
      have HNN : Hid ((opsTo G0 l k).nodes.length ≤ 1000) := Lib.hid (by have := (opsTo_near G0 l k).1; have := HN0.out.1; omega)
      have HG := Lib.hid hg
      obtain ⟨xd, xm, xa, xi, xb⟩ := x
      have hk0 : (0 : Int) ≤ (k : Int) := by omega
      have hk1 : (k : Int) < (n : Int) := by omega
      clear hx hp hsucc hg hlt
      go_wp2_with (first
        | (go_at_call 13; (with_reducible refine (play_q HG.out HNN.out ⟨xd, xm, xa, xi, xb⟩ HP.out).mono ?_); rintro r w3 ⟨T2, F2, rfl, hg, -⟩; rw [HS.out] at hg; have HG2 := Lib.hid hg; clear hg c0 c1 c2 c3 c4)
        | fail)
      go_roundw
      case rel => exact ⟨k + 1, T2, F2, by omega, by go_num, HG2.out⟩
      case measure => simp [RowKit.intOf]; omega
    · obtain rfl : k = n := by omega
      obtain ⟨G, hG⟩ : ∃ G, G = opsTo G0 l k := ⟨_, rfl⟩
      rw [← hG] at hg
      have hnr := opsTo_near G0 l k
      rw [← hG] at hnr
      have hok := hg.ok
      obtain ⟨N, hN⟩ : ∃ N, N = G.nodes.length := ⟨_, rfl⟩
      have hN61 : N ≤ 61 := by have := hnr.1; have := HN0.out.1; omega
      have hr3 : G.roots.length = 3 := by have := hnr.2.2.1; have := HN0.out.2.1; omega
      have hm6 : G.most = 6 := by have := hnr.2.2.2; have := HN0.out.2.2; omega
      have HNN : Hid (G.nodes.length ≤ 1000) := Lib.hid (by omega)
      have HNE := Lib.hid hN.symm; have HOK := Lib.hid hok; have HR3 := Lib.hid hr3; have HM6 := Lib.hid hm6
      obtain ⟨q, hq⟩ : ∃ q, q = N + 1 := ⟨_, rfl⟩
      obtain ⟨R, hR⟩ : ∃ R, R = reachL G := ⟨_, rfl⟩
      obtain ⟨p, hp⟩ : ∃ p, p = R.length := ⟨_, rfl⟩
      have hpN : p ≤ N := by rw [hp, hR, hN]; exact reachL_le G
      have HR := Lib.hid hR.symm; have HPL := Lib.hid hp; have HQ : Hid (G.nodes.length + 1 = q) := Lib.hid (by omega)
      have hqi : (q : Int) = (N : Int) + 1 := by omega
      have hq62 : q ≤ 62 := by omega
      have hq1 : 1 ≤ q := by omega
      obtain ⟨C, hC⟩ : ∃ C, C = ((List.replicate q false).map Value.bool).toArray := ⟨_, rfl⟩
      have HC := Lib.hid hC
      have hmk : ∀ w, (Instr.makeSlice 49 (.int .i64 ((N : Int) + 1)) (.int .i64 ((N : Int) + 1))).run Try.prog w = .ok (.slice (some ⟨w.heap.size, 0, none⟩) q q) (w.alloc (.cells C 4)) := fun w => by
        have := make_bools q w (by omega)
        rw [hqi, ← hC] at this
        exact this
      have hwr : IntKind.i64.wrap ((N : Int) + 1) = (N : Int) + 1 := by rw [IntKind.wrap_i64]; omega
      have HG := Lib.hid hg
      have HTOLD : Hid (∀ i, i < p → ∃ h : Nat, num R i = (h : Int) ∧ 1 ≤ h ∧ h < q ∧ Rch G h) := Lib.hid fun i hi => by
        have := reach_told hok (k := i) (by rw [← hR, ← hp]; exact hi)
        rw [← hR, HQ.out] at this; exact this
      clear hg hG hnr hlt hR hp hN hok hr3 hm6 hC hqi hq
      go_wp2_with (first
        | (go_at_call 21; (with_reducible refine (reach_u (S := S) HG.out HNN.out).mono ?_); rintro r w3 ⟨v3, rfl, hv, hb⟩; rw [HR.out] at hv; obtain ⟨A3, c3, rfl, -⟩ := id hv; rw [← HPL.out] at hv ⊢; have HV := Lib.hid hv; have HG3 := Lib.hid (HG.out.step hb); clear hv hb HG)
        | (go_at_call 19; (with_reducible refine (nodes_q (S := S) HG3.out HNN.out).mono ?_); rintro r w5 ⟨rfl, hb⟩; rw [HNE.out]; have HB5 := Lib.hid hb; have HG5 := Lib.hid (HG3.out.step hb); clear hb HG3)
        | (go_at_call 19; (with_reducible refine (nodes_q (S := S) (HG5.out.step (below_alloc0 (Below.refl _ _) (.cells C 4))) HNN.out).mono ?_); rintro r w6 ⟨rfl, hb⟩; rw [HNE.out]; have HCL := Lib.hid (Cl.start HG5.out C _ HC.out hb); have HRW := Lib.hid (row_start (o2 := .cells C 4) HV.out HB5.out hb); clear hb HB5 HG5 HV)
        | fail)
      clear hmk hwr
      obtain ⟨D, hD⟩ : ∃ D, D = w5.heap.size := ⟨_, rfl⟩
      obtain ⟨E, hE⟩ : ∃ E, E = w6.heap.size := ⟨_, rfl⟩
      rw [← hD, ← hE] at HCL HRW
      rw [← hD, ← hE]
      go_loopw [9] (fun iv wy => ∃ (i : Nat) (is : List Bool), i ≤ p ∧ iv = .int .i64 (i : Int) ∧ Cl w wy S T' F' G D E is (List.replicate q false) ∧ RowV (Off D E) wy (.slice A3 p c3) R ∧ Mks q R i is) (fun iv _ => p - (RowKit.intOf iv).toNat)
      case atStart => exact ⟨0, _, Nat.zero_le _, rfl, HCL.out, HRW.out, mks_new q R⟩
      case round =>
        clear HCL HRW hD hE
        obtain ⟨i, is, hi, rfl, hcl, hrw, hmk⟩ := hrel
        by_cases hlt : i < p
        · obtain ⟨h, hh, h1, h2, h3⟩ := HTOLD.out i hlt
          obtain ⟨b, off, rfl, hcell⟩ := row_cell hrw i (by rw [← HPL.out]; exact hlt)
          rw [hh] at hcell
          obtain ⟨d0, d1⟩ := hcl.bi.cell h (by rw [hmk.len]; exact h2)
          rw [hmk.no (by rw [← HR.out]; exact reach_rise _ _) (by rw [← HPL.out]; exact hlt) hh] at d0
          have HCL := Lib.hid (hcl.setI h); have HRW := Lib.hid (row_set1 hrw h (.bool true)); have HMK := Lib.hid (hmk.step hh h2)
          have e1 : ¬ ((h : Int) < 1) := by omega
          have e2 : ¬ ((q : Int) ≤ (h : Int)) := by omega
          have e3 : decide ((h : Int) < 1) = false := by simp; omega
          have e4 : decide ((q : Int) ≤ (h : Int)) = false := by simp; omega
          have e5 : (0 : Int) ≤ (h : Int) := by omega
          have e6 : (h : Int) < (q : Int) := by omega
          have hi0 : (0 : Int) ≤ (i : Int) := by omega
          have hi1 : (i : Int) < (p : Int) := by omega
          clear hcl hrw hmk hh h3 hlt
          go_wp2_with (fail)
          go_roundw
          case rel => exact ⟨i + 1, _, by omega, by go_num, HCL.out, HRW.out, HMK.out⟩
          case measure => simp [RowKit.intOf]; omega
        · obtain rfl : p = i := by omega
          obtain ⟨IS, hIS⟩ : ∃ IS, IS = is.set 0 true := ⟨_, rfl⟩
          have hcl2 := hcl.setI 0
          rw [← hIS] at hcl2
          have HIL : Hid (IS.length = q) := Lib.hid (by rw [hIS, List.length_set]; exact hmk.len)
          have HIA : Hid (∀ h : Nat, ((h : Int) = 0 ∨ Rch G h) → getB IS h = true) := Lib.hid fun h hh => by
            rw [hIS]
            have hm2 := hmk
            rw [← HQ.out, HPL.out, ← HR.out] at hm2
            exact Mks.all HOK.out hm2 h hh
          have HCL := Lib.hid hcl2; have HRW := Lib.hid (row_set1 hrw 0 (.bool true))
          obtain ⟨d0, d1⟩ := hcl.bi.cell 0 (by rw [hmk.len]; omega)
          have e6 : (0 : Int) < (q : Int) := by omega
          clear hcl hcl2 hrw hmk hlt hIS
          go_wp2_with (fail)
          clear d0 d1 e6
          go_loopw [10] (fun mv wy => ∃ (m : Nat) (ws : List Bool), m ≤ 3 ∧ mv = .int .i64 (m : Int) ∧ Cl w wy S T' F' G D E IS ws ∧ RowV (Off D E) wy (.slice A3 p c3) R ∧ Hs q (rootsAll G m) ws) (fun mv _ => 3 - (RowKit.intOf mv).toNat)
          case atStart => exact ⟨0, _, by omega, rfl, HCL.out, HRW.out, hs_new q⟩
          case round =>
            clear HCL HRW
            obtain ⟨m, ws, hm, rfl, hcl, hrw, hhs⟩ := hrel
            by_cases hm3 : m < 3
            · have hm0 : (m : Int) < 3 := by omega
              obtain ⟨L, hL⟩ : ∃ L, L = rootsL G (m : Int) := ⟨_, rfl⟩
              obtain ⟨pa, hpa⟩ : ∃ pa, pa = L.length := ⟨_, rfl⟩
              have hTA : ∀ i, i < pa → ∃ h : Nat, num L i = (h : Int) ∧ h < q ∧ ((h : Int) = 0 ∨ Rch G h) := fun i hi => by
                have := root_told HOK.out (m := m) (k := i) (by rw [← hL, ← hpa]; exact hi)
                rw [← hL, HQ.out] at this; exact this
              have hpa2 : pa ≤ 1000 := by rw [hpa, hL]; have h1 := rootsL_le HOK.out (by have := HM6.out; omega) (m : Int); have := HM6.out; omega
              have HTA := Lib.hid hTA; have HL := Lib.hid hL.symm; have HPA := Lib.hid hpa
              have HCL := Lib.hid hcl; have HRW := Lib.hid hrw; have HHS := Lib.hid hhs
              clear hcl hrw hhs hL hpa hTA
              go_wp2_with (first
                | (go_at_call 23; (with_reducible refine (roots_u (S := S) HCL.out.own HNN.out (m : Int)).mono ?_); rintro r w7 ⟨v7, rfl, hv, hb⟩; rw [HL.out] at hv; obtain ⟨A7, c7, rfl, -⟩ := id hv; rw [← HPA.out] at hv ⊢; have HOF := Lib.hid (HCL.out.off hv); have HRW2 := Lib.hid (HRW.out.kept (Kept.below hb)); have HCL2 := Lib.hid (HCL.out.step hb); clear hv hb)
                | fail)
              clear HCL
              go_loopw [12] (fun iv wz => ∃ (j : Nat) (ws : List Bool), j ≤ pa ∧ iv = .int .i64 (j : Int) ∧ Cl w wz S T' F' G D E IS ws ∧ RowV (Off D E) wz (.slice A3 p c3) R ∧ RowV (Off D E) wz (.slice A7 pa c7) L ∧ Hs q (rootsAll G m ++ L.take j) ws) (fun iv _ => pa - (RowKit.intOf iv).toNat)
              case atStart => exact ⟨0, _, Nat.zero_le _, rfl, HCL2.out, HRW2.out, HOF.out, by rw [List.take_zero, List.append_nil]; exact HHS.out⟩
              case round =>
                clear HCL2 HRW2 HOF HHS HRW
                obtain ⟨j, ws, hj, rfl, hcl, hrw, hof, hhs⟩ := hrel
                by_cases hlt : j < pa
                · obtain ⟨h, hh, h2, h3⟩ := HTA.out j hlt
                  obtain ⟨b, off, rfl, hcell⟩ := row_cell hof j (by rw [← HPA.out]; exact hlt)
                  rw [hh] at hcell
                  obtain ⟨d0, d1⟩ := hcl.bi.cell h (by rw [HIL.out]; exact h2)
                  rw [HIA.out h h3] at d0
                  obtain ⟨f0, f1⟩ := hcl.bw.cell h (by rw [hhs.len]; exact h2)
                  have hnx := hhs.step (h := h) h2
                  rw [List.append_assoc, ← hh, ← take_num L j (by rw [← HPA.out]; exact hlt)] at hnx
                  have HCL := Lib.hid (hcl.setW h); have HRW := Lib.hid (row_set2 hrw h (.bool true)); have HOF := Lib.hid (row_set2 hof h (.bool true)); have HHS := Lib.hid hnx
                  have e1 : ¬ ((h : Int) < 0) := by omega
                  have e2 : ¬ ((q : Int) ≤ (h : Int)) := by omega
                  have e3 : decide ((h : Int) < 0) = false := by simp
                  have e4 : decide ((q : Int) ≤ (h : Int)) = false := by simp; omega
                  have e5 : (0 : Int) ≤ (h : Int) := by omega
                  have e6 : (h : Int) < (q : Int) := by omega
                  have hi0 : (0 : Int) ≤ (j : Int) := by omega
                  have hi1 : (j : Int) < (pa : Int) := by omega
                  clear hcl hrw hof hhs hh h3 hlt hnx
                  go_wp2_with (fail)
                  go_roundw
                  case rel => exact ⟨j + 1, _, by omega, by go_num, HCL.out, HRW.out, HOF.out, HHS.out⟩
                  case measure => simp [RowKit.intOf]; omega
                · obtain rfl : pa = j := by omega
                  rw [List.take_of_length_le (by rw [← HPA.out]; exact Nat.le_refl _)] at hhs
                  have HCL := Lib.hid hcl; have HRW := Lib.hid hrw; have HHS := Lib.hid hhs
                  clear hcl hrw hof hhs hlt
                  go_wp2_with (fail)
                  go_roundw
                  case rel => exact ⟨m + 1, _, by omega, by go_num, HCL.out, HRW.out, by rw [rootsAll, HL.out]; exact HHS.out⟩
                  case measure => simp [RowKit.intOf]; omega
            · obtain rfl : m = 3 := by omega
              have HCL := Lib.hid hcl; have HRW := Lib.hid hrw; have HHS := Lib.hid hhs
              clear hcl hrw hhs hm3
              go_wp2_with (fail)
              go_loopw [13] (fun tv wy => ∃ (t : Nat) (ws : List Bool), t ≤ p ∧ tv = .int .i64 (t : Int) ∧ Cl w wy S T' F' G D E IS ws ∧ RowV (Off D E) wy (.slice A3 p c3) R ∧ Hs q (rootsAll G 3 ++ slotsAll G R t) ws) (fun tv _ => p - (RowKit.intOf tv).toNat)
              case atStart => exact ⟨0, _, by omega, rfl, HCL.out, HRW.out, by rw [slotsAll, List.append_nil]; exact HHS.out⟩
              case round =>
                clear HCL HRW HHS
                obtain ⟨t, ws, ht, rfl, hcl, hrw, hhs⟩ := hrel
                by_cases htp : t < p
                · obtain ⟨z, hz, hz1, hz2, hz3⟩ := HTOLD.out t htp
                  obtain ⟨bt, ot, rfl, tcell⟩ := row_cell hrw t (by rw [← HPL.out]; exact htp)
                  rw [hz] at tcell
                  have HZ := Lib.hid hz
                  have BD : Bd (z : Int) := ⟨by omega, by have := HNN.out; have := HQ.out; omega⟩
                  have ht0 : (0 : Int) ≤ (t : Int) := by omega
                  have ht1 : (t : Int) < (p : Int) := by omega
                  obtain ⟨L, hL⟩ : ∃ L, L = slotsL G (z : Int) := ⟨_, rfl⟩
                  obtain ⟨pa, hpa⟩ : ∃ pa, pa = L.length := ⟨_, rfl⟩
                  have hTA : ∀ i, i < pa → ∃ h : Nat, num L i = (h : Int) ∧ h < q ∧ ((h : Int) = 0 ∨ Rch G h) := fun i hi => by
                    have := slot_told HOK.out hz3 (k := i) (by rw [← hL, ← hpa]; exact hi)
                    rw [← hL, HQ.out] at this; exact this
                  have hpa2 : pa ≤ 1000 := by rw [hpa, hL]; have h1 := slotsL_le HOK.out (z : Int); omega
                  have HTA := Lib.hid hTA; have HL := Lib.hid hL.symm; have HPA := Lib.hid hpa
                  have HCL := Lib.hid hcl; have HRW := Lib.hid hrw; have HHS := Lib.hid hhs
                  clear hcl hrw hhs hL hpa hTA
                  go_wp2_with (first
                    | (go_at_call 24; (with_reducible refine (slots_u (S := S) HCL.out.own HNN.out (z : Int) BD).mono ?_); rintro r w7 ⟨v7, rfl, hv, hb⟩; rw [HL.out] at hv; obtain ⟨A7, c7, rfl, -⟩ := id hv; rw [← HPA.out] at hv ⊢; have HOF := Lib.hid (HCL.out.off hv); have HRW2 := Lib.hid (HRW.out.kept (Kept.below hb)); have HCL2 := Lib.hid (HCL.out.step hb); clear hv hb)
                    | fail)
                  clear HCL tcell
                  go_loopw [15] (fun iv wz => ∃ (j : Nat) (ws : List Bool), j ≤ pa ∧ iv = .int .i64 (j : Int) ∧ Cl w wz S T' F' G D E IS ws ∧ RowV (Off D E) wz (.slice (some ⟨bt, ot, none⟩) p c3) R ∧ RowV (Off D E) wz (.slice A7 pa c7) L ∧ Hs q (rootsAll G 3 ++ slotsAll G R t ++ L.take j) ws) (fun iv _ => pa - (RowKit.intOf iv).toNat)
                  case atStart => exact ⟨0, _, Nat.zero_le _, rfl, HCL2.out, HRW2.out, HOF.out, by rw [List.take_zero, List.append_nil]; exact HHS.out⟩
                  case round =>
                    clear HCL2 HRW2 HOF HHS HRW
                    obtain ⟨j, ws, hj, rfl, hcl, hrw, hof, hhs⟩ := hrel
                    by_cases hlt : j < pa
                    · obtain ⟨h, hh, h2, h3⟩ := HTA.out j hlt
                      obtain ⟨b, off, rfl, hcell⟩ := row_cell hof j (by rw [← HPA.out]; exact hlt)
                      rw [hh] at hcell
                      obtain ⟨d0, d1⟩ := hcl.bi.cell h (by rw [HIL.out]; exact h2)
                      rw [HIA.out h h3] at d0
                      obtain ⟨f0, f1⟩ := hcl.bw.cell h (by rw [hhs.len]; exact h2)
                      have hnx := hhs.step (h := h) h2
                      rw [List.append_assoc, ← hh, ← take_num L j (by rw [← HPA.out]; exact hlt)] at hnx
                      have HCL := Lib.hid (hcl.setW h); have HRW := Lib.hid (row_set2 hrw h (.bool true)); have HOF := Lib.hid (row_set2 hof h (.bool true)); have HHS := Lib.hid hnx
                      have e1 : ¬ ((h : Int) < 0) := by omega
                      have e2 : ¬ ((q : Int) ≤ (h : Int)) := by omega
                      have e3 : decide ((h : Int) < 0) = false := by simp
                      have e4 : decide ((q : Int) ≤ (h : Int)) = false := by simp; omega
                      have e5 : (0 : Int) ≤ (h : Int) := by omega
                      have e6 : (h : Int) < (q : Int) := by omega
                      have hi0 : (0 : Int) ≤ (j : Int) := by omega
                      have hi1 : (j : Int) < (pa : Int) := by omega
                      clear hcl hrw hof hhs hh h3 hlt hnx
                      go_wp2_with (fail)
                      go_roundw
                      case rel => exact ⟨j + 1, _, by omega, by go_num, HCL.out, HRW.out, HOF.out, HHS.out⟩
                      case measure => simp [RowKit.intOf]; omega
                    · obtain rfl : pa = j := by omega
                      rw [List.take_of_length_le (by rw [← HPA.out]; exact Nat.le_refl _)] at hhs
                      have HCL := Lib.hid hcl; have HRW := Lib.hid hrw; have HHS := Lib.hid hhs
                      clear hcl hrw hof hhs hlt
                      go_wp2_with (fail)
                      go_roundw
                      case rel =>
                        iterate apply Exists.intro
                        refine And.intro ?_ rfl
                        exact ⟨t + 1, _, by omega, by go_num, HCL.out, HRW.out, by rw [slotsAll, HZ.out, HL.out, ← List.append_assoc]; exact HHS.out⟩
                      case measure => simp [RowKit.intOf]; omega
                · obtain rfl : p = t := by omega
                  have HCL := Lib.hid hcl; have HRW := Lib.hid hrw; have HHS := Lib.hid hhs
                  clear hcl hrw hhs htp
                  go_wp2_with (fail)
                  go_loopw [16] (fun tv wy => ∃ (t : Nat) (ws : List Bool), t ≤ p ∧ tv = .int .i64 (t : Int) ∧ Cl w wy S T' F' G D E IS ws ∧ RowV (Off D E) wy (.slice A3 p c3) R ∧ Hs q (rootsAll G 3 ++ slotsAll G R p) ws) (fun tv _ => p - (RowKit.intOf tv).toNat)
                  case atStart => exact ⟨0, _, by omega, rfl, HCL.out, HRW.out, HHS.out⟩
                  case round =>
                    clear HCL HRW HHS
                    obtain ⟨t, ws, ht, rfl, hcl, hrw, hhs⟩ := hrel
                    by_cases htp : t < p
                    · obtain ⟨h, hh, h1, h2, h3⟩ := HTOLD.out t htp
                      obtain ⟨bt, ot, rfl, tcell⟩ := row_cell hrw t (by rw [← HPL.out]; exact htp)
                      rw [hh] at tcell
                      obtain ⟨f0, f1⟩ := hcl.bw.cell h (by rw [hhs.len]; exact h2)
                      have hwy : getB ws h = true := by
                        have h5 := rch_why HOK.out h3
                        rw [HR3.out, HR.out, ← HPL.out] at h5
                        exact hhs.are _ h5
                      rw [hwy] at f0
                      have ht0 : (0 : Int) ≤ (t : Int) := by omega
                      have ht1 : (t : Int) < (p : Int) := by omega
                      have e5 : (0 : Int) ≤ (h : Int) := by omega
                      have e6 : (h : Int) < (q : Int) := by omega
                      have HCL := Lib.hid hcl; have HRW := Lib.hid hrw; have HHS := Lib.hid hhs
                      clear hcl hrw hhs hh h3 htp hwy
                      go_wp2_with (fail)
                      go_roundw
                      case rel => exact ⟨t + 1, _, by omega, by go_num, HCL.out, HRW.out, HHS.out⟩
                      case measure => simp [RowKit.intOf]; omega
                    · obtain rfl : p = t := by omega
                      have HCL := Lib.hid hcl
                      clear hcl hrw hhs htp
                      go_wp2_with (fail)
                      go_ret
                      exact ⟨rfl, HCL.out.own.bel⟩
end Go.Proofs.Ytjnkcomedcbenaa
