/- The call of the law of what may not be. -/
import Derived.Test.YtjnkcomedcbenaaGTwo
namespace Go.Proofs.Ytjnkcomedcbenaa
open Go.RowKit
set_option linter.unusedVariables false

set_option maxHeartbeats 16000000 in
set_option maxRecDepth 100000 in
theorem walkRefused (A : Option Addr) (n capA : Nat) (l : List Op5) (a : Int) (w : World) (ha : IsOps w A n capA l) (wa : (Lit.int .u8 a).wf = true) :
    Calls Try.prog 6 #[.slice A n capA, .int .u8 a] w fun e w' => e = .returned (.bool true) ∧ Below w.heap.size w w' := by
  obtain ⟨hra, hal, _, _, hwa⟩ := ha
  have hab : 0 ≤ a ∧ a ≤ 255 := by
    have h := wa
    simp [Lit.wf] at h
    exact ⟨h.1, h.2⟩
  by_cases h60 : 60 < n
  · have h60' : (60 : Int) < (n : Int) := by omega
    clear hra hal hwa hab wa
    go_enter Try.func6, Try.ntmps6
    go_wp2_with (first
      | (go_at_call 10; (with_reducible refine (awake_any _).mono ?_); rintro r w1 ⟨rfl, hb⟩)
      | fail)
    go_ret
    exact ⟨rfl, hb⟩
  have h60' : ¬ (60 : Int) < (n : Int) := by omega
  have hn60 : n ≤ 60 := by omega
  obtain ⟨q, hq⟩ : ∃ q : Int, q = a % 8 := ⟨_, rfl⟩
  have hq0 : 0 ≤ q := by omega
  have hq1 : q ≤ 1000 := by omega
  have hq2 : q < 8 := by omega
  have hqe := hq.symm
  have HA := Lib.hid hra; have HAL := Lib.hid hal
  obtain ⟨G0, hG0⟩ : ∃ G0, G0 = gNew 2 q 2 := ⟨_, rfl⟩
  have HG0 := Lib.hid hG0
  have HN0 : Hid (G0.nodes.length = 1) := Lib.hid (by rw [hG0]; rfl)
  have HM0 : Hid (G0.most = q) := Lib.hid (by rw [hG0]; rfl)
  have HR0 : Hid (G0.roots.length = 2) := Lib.hid (by rw [hG0]; simp [gNew])
  have ha0 := hab.1
  have ha1 := hab.2
  clear hra hal hwa h60 hG0 wa hab hq
  go_enter Try.func6, Try.ntmps6
  go_wp2_with (first
    | (go_at_call 10; (with_reducible refine (awake_any _).mono ?_); rintro r w1 ⟨rfl, hb⟩; have HBW := Lib.hid hb; clear hb)
    | (go_at_call 11; (with_reducible refine (new_q HBW.out 2 q 2 hq0 hq1).mono ?_); rintro r w2 ⟨S, T, F, rfl, hg, -⟩; rw [← HG0.out] at hg; have HK := Lib.hid hg; clear hg HBW)
    | (go_at_call 11; (with_reducible refine (new_q HK.out.bel 2 q 2 hq0 hq1).mono ?_); rintro r w3 ⟨S2, T2, F2, rfl, hg, hb, hT⟩; rw [← HG0.out] at hg; have HT := Lib.hid (TwoG.of_new HK.out hg hb hT); clear hg hb hT HK)
    | fail)
  clear hqe
  go_loopw [9] (fun iv wr => ∃ (k : Nat) (T F T2 F2 : Nat → Prop), k ≤ n ∧ iv = .int .i64 (k : Int) ∧ TwoG w wr S T F (opsTo G0 l k) S2 T2 F2 (opsTo G0 l k)) (fun iv _ => n - (RowKit.intOf iv).toNat)
  case atStart => exact ⟨0, T, F, T2, F2, Nat.zero_le _, rfl, HT.out⟩
  case round =>
    clear HT
    obtain ⟨k, T3, F3, T4, F4, hk, rfl, hg⟩ := hrel
    by_cases hlt : k < n
    · obtain ⟨b, off, hA, c0, c1, c2, c3, c4⟩ := (HA.out.below hg.one.bel).at' k (by rw [HAL.out]; exact hlt)
      subst hA
      obtain ⟨x, hx⟩ : ∃ x, x = atO l k := ⟨_, rfl⟩
      rw [← hx] at c0 c1 c2 c3 c4
      have hsucc : (gPlay (opsTo G0 l k) x).1 = opsTo G0 l (k + 1) := by rw [hx]; rfl
      obtain ⟨g', y, z, hp⟩ : ∃ g' y z, gPlay (opsTo G0 l k) x = (g', y, z) := ⟨_, _, _, rfl⟩
      have href := play_refused (opsTo G0 l k) x
      rw [hp] at hsucc href
      have HP := Lib.hid hp; have HS : Hid (g' = opsTo G0 l (k + 1)) := Lib.hid hsucc
      have HREF : Hid (z = false → g' = opsTo G0 l k) := Lib.hid href
      have HNN : Hid ((opsTo G0 l k).nodes.length ≤ 1000) := Lib.hid (by have := (opsTo_near G0 l k).1; have := HN0.out; omega)
      have HNN2 : Hid ((opsTo G0 l (k + 1)).nodes.length ≤ 1000) := Lib.hid (by have := (opsTo_near G0 l (k + 1)).1; have := HN0.out; omega)
      have HLE : Hid (∀ m, ((rootsL (opsTo G0 l (k + 1)) m).length : Int) ≤ q) := Lib.hid fun m => by
        have h1 := opsTo_ok hg.one.ok (x :: []) 0
        have h2 : Ok (opsTo G0 l (k + 1)) := by rw [← hsucc]; have := ok_play hg.one.ok x; rw [hp] at this; exact this
        have h3 := (opsTo_near G0 l (k + 1)).2.2.2
        have h4 := HM0.out
        have := rootsL_le h2 (by omega) m
        omega
      have HG := Lib.hid hg
      have HCC : Hid (∀ wz, Below w.heap.size w wz → wz.cell? ⟨b, off + k * 5, none⟩ = some (.int .u8 x.d) ∧ wz.cell? ⟨b, off + k * 5 + 1, none⟩ = some (.int .i64 x.m) ∧ wz.cell? ⟨b, off + k * 5 + 2, none⟩ = some (.int .i64 x.a) ∧ wz.cell? ⟨b, off + k * 5 + 3, none⟩ = some (.int .i64 x.i) ∧ wz.cell? ⟨b, off + k * 5 + 4, none⟩ = some (.int .i64 x.b)) := Lib.hid fun wz hbz => by
        obtain ⟨b', off', e, d0, d1, d2, d3, d4⟩ := (HA.out.below hbz).at' k (by rw [HAL.out]; exact hlt)
        cases e
        rw [← hx] at d0 d1 d2 d3 d4
        exact ⟨d0, d1, d2, d3, d4⟩
      obtain ⟨xd, xm, xa, xi, xb⟩ := x
      have hk0 : (0 : Int) ≤ (k : Int) := by omega
      have hk1 : (k : Int) < (n : Int) := by omega
      clear hx hp hsucc hg hlt href
      cases z
      case' false =>
        have HS2 : Hid (opsTo G0 l k = opsTo G0 l (k + 1)) := Lib.hid (by rw [← HS.out]; exact (HREF.out rfl).symm)
        go_wp2_with (first
          | (go_at_call 13; (with_reducible refine (play_q HG.out.one HNN.out ⟨xd, xm, xa, xi, xb⟩ HP.out).mono ?_); rintro r w3 ⟨T5, F5, rfl, hg, hu, hF, hT⟩; rw [HS.out] at hg; have ht := HG.out.left hg hu hF hT; rw [HS2.out] at ht; have HT5 : Hid (∃ T6 F6, TwoG w w3 S T5 F5 (opsTo G0 l (k + 1)) S2 T6 F6 (opsTo G0 l (k + 1))) := Lib.hid ⟨T4, F4, ht⟩; clear hg hu hF hT ht c0 c1 c2 c3 c4)
          | fail)
      case' true =>
        go_wp2_with (first
          | (go_at_call 13; (with_reducible refine (play_q HG.out.one HNN.out ⟨xd, xm, xa, xi, xb⟩ HP.out).mono ?_); rintro r w3 ⟨T5, F5, rfl, hg, hu, hF, hT⟩; rw [HS.out] at hg; have HG2 := Lib.hid (HG.out.left hg hu hF hT); clear hg hu hF hT c0 c1 c2 c3 c4; obtain ⟨c0, c1, c2, c3, c4⟩ := HCC.out _ HG2.out.one.bel)
          | (go_at_call 13; (with_reducible refine (play_q HG2.out.two HNN.out ⟨xd, xm, xa, xi, xb⟩ HP.out).mono ?_); rintro r w4 ⟨T6, F6, rfl, hg, hu, hF, hT⟩; rw [HS.out] at hg; have HT5 : Hid (∃ T6 F6, TwoG w w4 S T5 F5 (opsTo G0 l (k + 1)) S2 T6 F6 (opsTo G0 l (k + 1))) := Lib.hid ⟨T6, F6, HG2.out.right hg hu hF hT⟩; clear hg hu hF hT c0 c1 c2 c3 c4)
          | fail)
      all_goals
        obtain ⟨T7, F7, ht7⟩ := HT5.out
        have HT7 := Lib.hid ht7
        clear HT5 ht7
        go_loopw [12] (fun mv wy => ∃ m : Nat, m ≤ 2 ∧ mv = .int .i64 (m : Int) ∧ TwoG w wy S T5 F5 (opsTo G0 l (k + 1)) S2 T7 F7 (opsTo G0 l (k + 1))) (fun mv _ => 2 - (RowKit.intOf mv).toNat)
        case atStart => exact ⟨0, by omega, rfl, HT7.out⟩
        case round =>
          clear HT7
          obtain ⟨m, hm, rfl, hg⟩ := hrel
          by_cases hm2 : m < 2
          · have HG7 := Lib.hid hg
            have hm0 : (0 : Int) ≤ (m : Int) := by omega
            have hm1 : (m : Int) < 2 := by omega
            obtain ⟨R, hR⟩ : ∃ R, R = rootsL (opsTo G0 l (k + 1)) m := ⟨_, rfl⟩
            have HRR := Lib.hid hR.symm
            have hrl := HLE.out m
            rw [← hR] at hrl
            have HRL : Hid (R.length ≤ 1000000) := Lib.hid (by omega)
            clear hR hg hm2
            go_wp2_with (first
              | (go_at_call 23; (with_reducible refine (roots_q (S := S) HG7.out.one HNN2.out (m : Int)).mono ?_); rintro r w8 ⟨v8, rfl, hv, hb⟩; rw [HRR.out] at hv; obtain ⟨A8, c8, rfl, -⟩ := id hv; have HV := Lib.hid hv; have HG8 := Lib.hid (HG7.out.step hb); clear hv hb HG7)
              | (go_at_call 23; (with_reducible refine (roots_q (S := S) HG8.out.one HNN2.out (m : Int)).mono ?_); rintro r w9 ⟨v9, rfl, hv, hb⟩; rw [HRR.out] at hv; have HV9 := Lib.hid hv; have HG9 := Lib.hid (HG8.out.step hb); clear hv hb HG8)
              | (go_at_call 23; (with_reducible refine (roots_q (S := S2) HG9.out.two HNN2.out (m : Int)).mono ?_); rintro r w10 ⟨v10, rfl, hv, hb⟩; rw [HRR.out] at hv; have HV10 := Lib.hid hv; have HV9 := Lib.hid (HV9.out.kept (Kept.below hb)); have HG10 := Lib.hid (HG9.out.step hb); clear hv hb HG9)
              | (go_at_call 20; (with_reducible refine (same_yes v9 v10 R _ HV9.out HV10.out HRL.out).mono ?_); rintro r w11 ⟨rfl, hb⟩; have HG11 := Lib.hid (HG10.out.step hb); clear hb HG10)
              | fail)
            go_roundw
            case rel => exact ⟨m + 1, by omega, by go_num, HG11.out⟩
            case measure => simp [RowKit.intOf]; omega
          · obtain rfl : m = 2 := by omega
            have HF := Lib.hid hg
            clear hg hm2
            go_wp2_with (fail)
            go_roundw
            case rel => exact ⟨k + 1, T5, F5, T7, F7, by omega, by go_num, HF.out⟩
            case measure => simp [RowKit.intOf]; omega
    · obtain rfl : k = n := by omega
      obtain ⟨G1, hG1⟩ : ∃ G1, G1 = opsTo G0 l k := ⟨_, rfl⟩
      rw [← hG1] at hg
      have hn1 : G1.nodes.length ≤ 61 := by have := (opsTo_near G0 l k).1; have := HN0.out; rw [hG1]; omega
      have HNN : Hid (G1.nodes.length ≤ 1000) := Lib.hid (by omega)
      obtain ⟨N, hN⟩ : ∃ N, N = G1.nodes.length := ⟨_, rfl⟩
      rw [← hN] at hn1
      have HNE := Lib.hid hN
      have HOK := Lib.hid hg.one.ok
      have HG := Lib.hid hg
      clear hg hG1 hlt hN
      go_wp2_with (fail)
      go_loopw [13] (fun vv wy => ∃ v : Nat, 1 ≤ v ∧ v ≤ N + 1 ∧ vv = .int .i64 (v : Int) ∧ TwoG w wy S T3 F3 G1 S2 T4 F4 G1) (fun vv _ => N + 1 - (RowKit.intOf vv).toNat)
      case atStart => exact ⟨1, by omega, by omega, rfl, HG.out⟩
      case round =>
        clear HG
        obtain ⟨v, hv1, hv2, rfl, hg⟩ := hrel
        by_cases hlt : v ≤ N
        · have HG7 := Lib.hid hg
          have hv3 : (v : Int) ≤ (N : Int) := by omega
          have hv4 : decide (v ≤ N) = true := by simpa using hlt
          have hv0 : (0 : Int) ≤ (v : Int) := by omega
          obtain ⟨R, hR⟩ : ∃ R, R = slotsL G1 v := ⟨_, rfl⟩
          have HRR := Lib.hid hR.symm
          have HRL : Hid (R.length ≤ 1000000) := Lib.hid (by rw [hR]; have := slotsL_le HOK.out v; omega)
          have BD : Bd (v : Int) := ⟨by omega, by omega⟩
          clear hR hg hlt
          go_wp2_with (first
            | (go_at_call 19; (with_reducible refine (nodes_q (S := S) HG7.out.one HNN.out).mono ?_); rintro r w8 ⟨rfl, hb⟩; rw [← HNE.out]; have HG8 := Lib.hid (HG7.out.step hb); clear hb HG7)
            | (go_at_call 24; (with_reducible refine (slots_q (S := S) HG8.out.one HNN.out (v : Int) BD).mono ?_); rintro r w9 ⟨v9, rfl, hv, hb⟩; rw [HRR.out] at hv; have HV9 := Lib.hid hv; have HG9 := Lib.hid (HG8.out.step hb); clear hv hb HG8)
            | (go_at_call 24; (with_reducible refine (slots_q (S := S2) HG9.out.two HNN.out (v : Int) BD).mono ?_); rintro r w10 ⟨v10, rfl, hv, hb⟩; rw [HRR.out] at hv; have HV10 := Lib.hid hv; have HV9 := Lib.hid (HV9.out.kept (Kept.below hb)); have HG10 := Lib.hid (HG9.out.step hb); clear hv hb HG9)
            | (go_at_call 20; (with_reducible refine (same_yes v9 v10 R _ HV9.out HV10.out HRL.out).mono ?_); rintro r w11 ⟨rfl, hb⟩; have HG11 := Lib.hid (HG10.out.step hb); clear hb HG10)
            | fail)
          go_roundw
          case rel => exact ⟨v + 1, by omega, by omega, by go_num, HG11.out⟩
          case measure => simp [RowKit.intOf]; omega
        · obtain rfl : v = N + 1 := by omega
          have HG7 := Lib.hid hg
          have hv4 : decide (N + 1 ≤ N) = false := by simp
          have hv5 : ¬ ((N : Int) + 1 ≤ (N : Int)) := by omega
          have HRL : Hid ((reachL G1).length ≤ 1000000) := Lib.hid (by have := reachL_le G1; have := HNN.out; omega)
          obtain ⟨R, hR⟩ : ∃ R, R = reachL G1 := ⟨_, rfl⟩
          have HRR := Lib.hid hR.symm
          rw [← hR] at HRL
          clear hg hlt hR
          go_wp2_with (first
            | (go_at_call 19; (with_reducible refine (nodes_q (S := S) HG7.out.one HNN.out).mono ?_); rintro r w8 ⟨rfl, hb⟩; rw [← HNE.out]; have HG8 := Lib.hid (HG7.out.step hb); clear hb HG7)
            | (go_at_call 19; (with_reducible refine (nodes_q (S := S) HG8.out.one HNN.out).mono ?_); rintro r w9 ⟨rfl, hb⟩; rw [← HNE.out]; have HG9 := Lib.hid (HG8.out.step hb); clear hb HG8)
            | (go_at_call 19; (with_reducible refine (nodes_q (S := S2) HG9.out.two HNN.out).mono ?_); rintro r w10 ⟨rfl, hb⟩; rw [← HNE.out]; have HG10 := Lib.hid (HG9.out.step hb); clear hb HG9)
            | (go_at_call 21; (with_reducible refine (reach_q (S := S) HG10.out.one HNN.out).mono ?_); rintro r w11 ⟨v11, rfl, hv, hb⟩; rw [HRR.out] at hv; have HV11 := Lib.hid hv; have HG11 := Lib.hid (HG10.out.step hb); clear hv hb HG10)
            | (go_at_call 21; (with_reducible refine (reach_q (S := S2) HG11.out.two HNN.out).mono ?_); rintro r w12 ⟨v12, rfl, hv, hb⟩; rw [HRR.out] at hv; have HV12 := Lib.hid hv; have HV11 := Lib.hid (HV11.out.kept (Kept.below hb)); have HG12 := Lib.hid (HG11.out.step hb); clear hv hb HG11)
            | (go_at_call 20; (with_reducible refine (same_yes v11 v12 R _ HV11.out HV12.out HRL.out).mono ?_); rintro r w13 ⟨rfl, hb⟩; have HG13 := Lib.hid (HG12.out.step hb); clear hb HG12)
            | fail)
          go_ret
          exact ⟨rfl, HG13.out.one.bel⟩
end Go.Proofs.Ytjnkcomedcbenaa
