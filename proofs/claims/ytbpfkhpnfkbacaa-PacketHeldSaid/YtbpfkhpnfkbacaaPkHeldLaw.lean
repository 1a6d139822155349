/- The law of what the pool holds: walked. -/
import Derived.Test.YtbpfkhpnfkbacaaJ22
import Derived.Test.YtbpfkhpnfkbacaaJ4
namespace Go.Proofs.Ytbpfkhpnfkbacaa
open Go.RowKit
set_option linter.unusedVariables false
set_option linter.unusedSimpArgs false
open Lay (plcc plc shOf packN nodesN OkC Cfg Norm firstV Rep lenL things)
attribute [local irreducible] pruns

set_option maxHeartbeats 16000000 in
set_option maxRecDepth 100000 in
theorem walkHeld (c : Cfg) (P : Option Addr) (np capP : Nat) (ps : List Int) (Q : Option Addr) (nq capQ : Nat) (qs : List Pok) (w : World) (hP : IsRow .u64 w P np capP ps) (hQ : IsPoks w Q nq capQ qs) :
    Calls Try.prog 3 #[Lay.cfgV c, .slice P np capP, .slice Q nq capQ] w fun e w' => e = .returned (.bool true) ∧ Below w.heap.size w w' := by
  obtain ⟨rP, lP, h1, h2, _, wfP⟩ := reads_row hP
  obtain ⟨rQ, lQ, h3, h4, wfQ⟩ := hQ
  obtain ⟨xs, hxs⟩ : ∃ xs, xs = ps.take np := ⟨_, rfl⟩
  rw [← hxs] at rP lP wfP
  have hm1 : np ≤ maxLen := by omega
  have hm2 : nq ≤ maxLen := by omega
  have HB := Lib.hid (Bw.start w c)
  obtain ⟨q0, q1, q2, q3, q4, q5, q6, q7, q8, q9, q10, q11⟩ := (Bw.start w c).cfg
  have HRP := Lib.hid rP; have HLP := Lib.hid lP; have HWP := Lib.hid wfP
  have HRQ := Lib.hid rQ; have HLQ := Lib.hid lQ; have HWQ := Lib.hid wfQ
  clear hP rP lP wfP rQ lQ wfQ hxs
  by_cases hbig : 20 < np ∨ 20 < nq
  · by_cases hb1 : 20 < np
    · have d0 : decide ((np : Int) > 20) = true := by simp; omega
      go_enter Try.func3, Try.ntmps3
      go_wp2_with (first
        | (go_at_call 7; (with_reducible refine (awake_true _).mono ?_); rintro e w1 ⟨rfl, hb⟩; have HB := Lib.hid (HB.out.step hb); clear hb q0 q1 q2 q3 q4 q5 q6 q7 q8 q9 q10 q11; obtain ⟨q0, q1, q2, q3, q4, q5, q6, q7, q8, q9, q10, q11⟩ := HB.out.cfg)
        | (go_at_call 8; (with_reducible refine (small_any c _).mono ?_); rintro e w2 ⟨b, rfl, hs, hb⟩; have HB := Lib.hid (HB.out.step hb); clear hb; cases b)
        | fail)
      all_goals go_ret
      all_goals exact ⟨rfl, HB.out.fin⟩
    · have d0 : decide ((np : Int) > 20) = false := by simp; omega
      have d1 : decide ((nq : Int) > 20) = true := by simp; omega
      go_enter Try.func3, Try.ntmps3
      go_wp2_with (first
        | (go_at_call 7; (with_reducible refine (awake_true _).mono ?_); rintro e w1 ⟨rfl, hb⟩; have HB := Lib.hid (HB.out.step hb); clear hb q0 q1 q2 q3 q4 q5 q6 q7 q8 q9 q10 q11; obtain ⟨q0, q1, q2, q3, q4, q5, q6, q7, q8, q9, q10, q11⟩ := HB.out.cfg)
        | (go_at_call 8; (with_reducible refine (small_any c _).mono ?_); rintro e w2 ⟨b, rfl, hs, hb⟩; have HB := Lib.hid (HB.out.step hb); clear hb; cases b)
        | fail)
      all_goals go_ret
      all_goals exact ⟨rfl, HB.out.fin⟩
  · have d0 : decide ((np : Int) > 20) = false := by simp; omega
    have d1 : decide ((nq : Int) > 20) = false := by simp; omega
    have hn1 : np ≤ 20 := by omega
    have hn2 : nq ≤ 20 := by omega
    go_enter Try.func3, Try.ntmps3
    go_wp2_with (first
      | (go_at_call 7; (with_reducible refine (awake_true _).mono ?_); rintro e w1 ⟨rfl, hb⟩; have HB := Lib.hid (HB.out.step hb); clear hb q0 q1 q2 q3 q4 q5 q6 q7 q8 q9 q10 q11; obtain ⟨q0, q1, q2, q3, q4, q5, q6, q7, q8, q9, q10, q11⟩ := HB.out.cfg)
      | (go_at_call 8; (with_reducible refine (small_any c _).mono ?_); rintro e w2 ⟨b, rfl, hs, hb⟩; have HB := Lib.hid (HB.out.step hb); clear hb q0 q1 q2 q3 q4 q5 q6 q7 q8 q9 q10 q11; obtain ⟨q0, q1, q2, q3, q4, q5, q6, q7, q8, q9, q10, q11⟩ := HB.out.cfg; have HSS := Lib.hid hs; clear hs; cases b)
      | (go_at_call 9; (with_reducible refine (Lay.new_yes (HSS.out trivial).1 _).mono ?_); rintro e w3 ⟨N, rfl, hm, hb⟩; have HOK := Lib.hid (HSS.out trivial).1; have HM := Lib.hid hm; have HB := Lib.hid (HB.out.step hb); clear hb hm q0 q1 q2 q3 q4 q5 q6 q7 q8 q9 q10 q11)
      | (go_at_call 11; (with_reducible refine (first_any HOK.out N _ HM.out).mono ?_); rintro e w4 ⟨G, n, L, rfl, hn, hr, hrep, hb⟩; have HB := Lib.hid (HB.out.step hb); have HM := Lib.hid (HM.out.below hb); have HN := Lib.hid hn; have HR := Lib.hid hr; have HRE := Lib.hid hrep; have HLE := Lib.hid (first_len HOK.out hrep); clear hb hn hr hrep)
      | (go_at_call 10; (with_reducible refine (new_any _ _ _ L _ HN.out HR.out (by have := HN.out; have := HLE.out; omega)).mono ?_); rintro e w5 hs; obtain ⟨S, D, rfl, hpo, hb⟩ := PO.start (B := w.heap.size + 1) (w0 := wcf w c) HB.out (by simp) HM.out HOK.out (first_ww HOK.out HRE.out) hs; have HPO := Lib.hid hpo; clear hs hpo hb)
      | fail)
    · go_ret
      exact ⟨rfl, HB.out.fin⟩
    have HLEN := Lib.hid HLE.out
    clear HN HR HLE HM HB HSS HRE
    go_loopw [12] (fun i wr => ∃ (j : Nat) (L : List Int), j ≤ np ∧ i = .int .i64 (j : Int) ∧ PO (w.heap.size + 1) S D N c (wcf w c) wr L (14 * (j : Int)) ∧ L.length ≤ 10000) (fun i _ => np - (intOf i).toNat)
    case atStart => exact ⟨0, L, Nat.zero_le _, rfl, by simpa using HPO.out, HLEN.out⟩
    case round =>
      clear HPO HLEN L
      obtain ⟨j, L, hj, rfl, hpo, hlen⟩ := hrel
      by_cases hlt : j < np
      · have hjx : j < xs.length := by have := HLP.out; omega
        obtain ⟨b, off, rfl, hbl, hcl⟩ := HRP.out (by omega)
        obtain ⟨x, hx⟩ : ∃ x, x = xs.getD j 0 := ⟨_, rfl⟩
        have hxm : x ∈ xs := by rw [hx, List.getD, List.getElem?_eq_getElem hjx]; exact List.getElem_mem hjx
        have hxw := HWP.out x hxm
        obtain ⟨x0, x1⟩ : 0 ≤ x ∧ x ≤ 18446744073709551615 := by
          simp [Lit.wf, IntKind.min, IntKind.max, IntKind.bits, IntKind.signed] at hxw
          omega
        have hsx : ∀ w', Below (w.heap.size + 1) (wcf w c) w' → w'.cell? ⟨b, off + j, none⟩ = some (.int .u64 x) := fun w' hb => by rw [hx]; exact ((Bw.fin hb).cell (p := ⟨b, off + j, none⟩) hbl).trans (hcl j hjx)
        have HSX := Lib.hid hsx
        have z0 := hsx wr hpo.bel
        obtain ⟨y, hy⟩ : ∃ y, IntKind.u64.wrap (x + 1) = y := ⟨_, rfl⟩
        obtain ⟨y0, y1⟩ : 0 ≤ y ∧ y ≤ 18446744073709551615 := by rw [← hy, IntKind.wrap_u64]; omega
        have hj0 : (0 : Int) ≤ (j : Int) := by omega
        have hj1 : (j : Int) < (np : Int) := by omega
        have HPD := Lib.hid (hpo.step (Below.refl _ _).drew)
        have HPA := Lib.hid ((hpo.step (below_alloc0 (Below.refl _ _) (.cells #[.int .u64 x, .int .u64 y] 39))).step (Below.refl _ _).drew)
        have HLN := Lib.hid hlen
        have HLT := Lib.hid (hpo.lt)
        have HWZ : Hid (∀ z ∈ [x, y], 0 ≤ z ∧ z ≤ 18446744073709551615) := Lib.hid (by intro z hz; simp at hz; omega)
        have HR2 := Lib.hid ((reads_two x y 39 wr).below (Below.refl _ _).drew (Nat.le_refl _))
        clear hsx hcl hx hxm hxw hpo hlen
        go_wp2_with (fail)
        go_region_held3 (fun w' => w'.cell? ⟨b, off + j, none⟩ = some (.int .u64 x))
          (first | with_reducible exact HSX.out _ HP7.out.bel | with_reducible exact HSX.out _ HP6.out.bel | with_reducible exact HSX.out _ HPA.out.bel | with_reducible exact HSX.out _ HPD.out.bel | go_keep)
          (first
            | (go_at_call 13; (with_reducible refine (put_pk HOK.out N _ 2 2 [x, y] _ HPA.out.mp rfl HR2.out HWZ.out (by omega) (by decide)).mono ?_); rintro e w6 hn; obtain ⟨X, rfl, hx, hp6, hb6⟩ := PKX.of_new HPA.out hn (at_no HLT.out.1) (at_no HLT.out.2.1); have HP6 := Lib.hid hp6; have HX6 := Lib.hid hx; have HS6 := Lib.hid hb6.size; clear hn hx hp6 hb6)
            | (go_at_call 12; (with_reducible refine (whole_pk HP6.out HX6.out ⟨HPA.out.lt.1, HPA.out.lt.2.1, HPA.out.lt.2.2, Nat.le_trans HPA.out.lo.2.2 HPA.out.bel.size, HS6.out⟩ (pw_put c [x, y] HWZ.out) (by omega) (by omega)).mono ?_); rintro e w7 ⟨rfl, ho⟩; have HP7 := Lib.hid ho.po; clear ho)
            | fail)
        go_wp2_with (fail)
        go_roundw
        case rel => exact ⟨j + 1, _, by omega, by go_num, HP7.out.more (by omega), by rw [pruns_len]; exact HLN.out⟩
        case measure => simp [intOf]; omega
      · obtain rfl : j = np := by omega
        have HPO := Lib.hid hpo
        have HLEN := Lib.hid hlen
        clear hpo hlen hlt hj
        go_wp2_with (fail)
        go_loopw [13] (fun i wr => ∃ (k : Nat) (L : List Int), k ≤ nq ∧ i = .int .i64 (k : Int) ∧ PO (w.heap.size + 1) S D N c (wcf w c) wr L (14 * (j : Int) + (k : Int)) ∧ L.length ≤ 10000) (fun i _ => nq - (intOf i).toNat)
        case atStart => exact ⟨0, L, Nat.zero_le _, rfl, HPO.out.more (by omega), HLEN.out⟩
        case round =>
          clear HPO HLEN L
          obtain ⟨k, L, hk, rfl, hpo, hlen⟩ := hrel
          by_cases hlt : k < nq
          · have hkx : k < qs.length := by have := HLQ.out; omega
            obtain ⟨b, off, rfl, hbl, hcl⟩ := HRQ.out (by omega)
            obtain ⟨a, ha⟩ : ∃ a, a = (atP qs k).p := ⟨_, rfl⟩
            obtain ⟨x, hx⟩ : ∃ x, x = (atP qs k).v := ⟨_, rfl⟩
            have hxm : atP qs k ∈ qs := by rw [atP, List.getD, List.getElem?_eq_getElem hkx]; exact List.getElem_mem hkx
            have hxw := HWQ.out _ hxm
            unfold WfPok at hxw
            rw [← hx] at hxw
            obtain ⟨x0, x1⟩ := hxw
            have hsx : ∀ w', Below (w.heap.size + 1) (wcf w c) w' → (w'.cell? ⟨b, off + k * 2, none⟩ = some (.int .i64 a) ∧ w'.cell? ⟨b, off + k * 2 + 1, none⟩ = some (.int .u64 x)) := fun w' hb => by
              rw [ha, hx]
              exact ⟨((Bw.fin hb).cell (p := ⟨b, off + k * 2, none⟩) hbl).trans (hcl k hkx).1, ((Bw.fin hb).cell (p := ⟨b, off + k * 2 + 1, none⟩) hbl).trans (hcl k hkx).2⟩
            have HSX := Lib.hid hsx
            obtain ⟨z0, z1⟩ := hsx wr hpo.bel
            have hk0 : (0 : Int) ≤ (k : Int) := by omega
            have hk1 : (k : Int) < (nq : Int) := by omega
            have HPD := Lib.hid (hpo.step (Below.refl _ _).drew)
            have HLN := Lib.hid hlen
            clear hsx hcl hx hxm hpo hlen ha
            go_wp2_with (fail)
            go_region_held3 (fun w' => w'.cell? ⟨b, off + k * 2, none⟩ = some (.int .i64 a) ∧ w'.cell? ⟨b, off + k * 2 + 1, none⟩ = some (.int .u64 x))
              (first | with_reducible exact HSX.out _ HP7.out.bel | with_reducible exact HSX.out _ HPD.out.bel | go_keep)
              (first
                | (go_at_call 14; (with_reducible refine (put_po HPD.out _ _ ⟨x0, x1⟩ (by omega)).mono ?_); rintro e w7 ⟨rfl, ho, -⟩; have HP7 := Lib.hid ho; clear ho)
                | fail)
            go_wp2_with (fail)
            go_roundw
            case rel => exact ⟨k + 1, _, by omega, by go_num, HP7.out.more (by omega), by rw [pt_len]; exact HLN.out⟩
            case measure => simp [intOf]; omega
          · obtain rfl : k = nq := by omega
            have hcf : ∀ w', Below (w.heap.size + 1) (wcf w c) w' → CfgC w.heap.size c w' := fun w' hb => Bw.cfg hb
            have HCF := Lib.hid hcf
            have HPD := Lib.hid (hpo.step (Below.refl _ _).drew)
            obtain ⟨q0, q1, q2, q3, q4, q5, q6, q7, q8, q9, q10, q11⟩ := hcf wr hpo.bel
            have HLN := Lib.hid hlen
            have HLL : Hid (L.length ≤ 1000000) := Lib.hid (by omega)
            obtain ⟨n, hn⟩ : ∃ n, n = L.length := ⟨_, rfl⟩
            have HN := Lib.hid hn
            clear hcf hpo hlen hlt hk hn
            go_wp2_with (fail)
            go_region_held3 (fun w' => CfgC w.heap.size c w')
              (first | with_reducible exact HCF.out _ HP9.out.bel | with_reducible exact HCF.out _ HP8.out.bel | with_reducible exact HCF.out _ HP7.out.bel | with_reducible exact HCF.out _ HP6.out.bel | with_reducible exact HCF.out _ HP5.out.bel | with_reducible exact HCF.out _ HP4.out.bel | with_reducible exact HCF.out _ HP3.out.bel | with_reducible exact HCF.out _ HPD.out.bel | go_keep)
              (first
                | (go_at_call 17; (with_reducible refine (all_po HPD.out HLL.out).mono ?_); rintro e w3 ⟨rfl, hr, ho, -⟩; have HP3 := Lib.hid ho; have HR3 : Hid (Reads .u64 w3 (some ⟨wr.heap.size, 0, none⟩) L) := Lib.hid hr; clear ho hr)
                | (go_at_call 16; (with_reducible refine (held_pk HOK.out N _ _ _ L _ HP3.out.mp rfl HR3.out HP3.out.ww (by have := HLN.out; omega)).mono ?_); rintro e w4 ⟨A4, k4, c4, rfl, hk4, hr4, hb⟩; have HP4 := Lib.hid (HP3.out.step hb); have HK4 := Lib.hid hk4; have HR4 := Lib.hid hr4; clear hb hk4 hr4)
                | (go_at_call 20; (with_reducible refine (Lay.model_any c _).mono ?_); rintro e w5 ⟨rfl, hb⟩; have HP5 := Lib.hid (HP4.out.step hb); have HR5 := Lib.hid (HR4.out.below hb (Nat.le_refl _)); clear hb)
                | (go_at_call 19; (with_reducible refine (rmap_any HOK.out _).mono ?_); rintro e w6 ⟨A6, n6, c6, rfl, hi6, hb⟩; have HP6 := Lib.hid (HP5.out.step hb); have HR6 := Lib.hid (HR5.out.below hb (Nat.le_refl _)); have HI6 := Lib.hid hi6; clear hb hi6)
                | (go_at_call 17; (with_reducible refine (all_po HP6.out HLL.out).mono ?_); rintro e w7 ⟨rfl, hr, ho, hb⟩; have HP7 := Lib.hid ho; have HRM := Lib.hid hr; have HR7 := Lib.hid (HR6.out.below hb (Nat.le_refl _)); have HI7 := Lib.hid (HI6.out.below hb); clear ho hr hb)
                | (go_at_call 18; (with_reducible refine (rheld_any HOK.out A6 n6 c6 _ _ _ L _ HI7.out rfl HRM.out HP7.out.ww).mono ?_); rintro e w8 ⟨v8, rfl, w8a, ho8, hb8⟩; obtain ⟨A8, c8, hv8, hr8, _⟩ := ho8.reads; subst hv8; have hb : Below w7.heap.size w7 w8 := hb8.trans (ho8.bel.mono hb8.size); have HP8 := Lib.hid (HP7.out.step hb); have HR8 := Lib.hid (HR7.out.below hb (Nat.le_refl _)); have HQ8 := Lib.hid hr8; have HL8 : Hid ((heldL c L).length ≤ 1000000) := Lib.hid (by have := heldT_len c L (walkQ L (poK c) (packN c).toNat (plcc c 4 0 0)); have := walkQ_len L (poK c) (packN c).toNat (plcc c 4 0 0); have := (Lay.bds HOK.out).p1; unfold heldL; omega); clear hb hb8 ho8 hr8)
                | (go_at_call 15; (with_reducible refine (same_yes A4 A8 c4 c8 k4 _ (heldL c L) _ HK4.out rfl HR8.out HQ8.out (by have := HK4.out; have := HL8.out; omega)).mono ?_); rintro e w9 ⟨rfl, hb⟩; have HP9 := Lib.hid (HP8.out.step hb); clear hb)
                | fail)
            all_goals go_wp2_with (fail)
            all_goals go_ret
            all_goals exact ⟨rfl, Bw.fin HP9.out.bel⟩
end Go.Proofs.Ytbpfkhpnfkbacaa
