/- The law of what a marker finds alone: walked. -/
import Derived.Test.YtnfbjebhpljikaaGreatSeZ
import Derived.IntWalk
namespace Go.Proofs.YtnfbjebhpljikaaGreat
open Go.RowKit
set_option linter.unusedVariables false
set_option linter.unusedSimpArgs false
set_option maxRecDepth 100000
open Lay (plcc plc shOf packN nodesN OkC Cfg Norm firstV Rep lenL)

set_option maxHeartbeats 16000000 in
theorem walkOwn (c : Cfg) (i n many draw : Int) (w : World) (hi : (Lit.int .u8 i).wf = true) (hn8 : (Lit.int .u8 n).wf = true) (hm8 : (Lit.int .u8 many).wf = true) (hd : (Lit.int .i64 draw).wf = true) :
    Calls Tryz.prog 4 #[Lay.cfgV c, .int .u8 i, .int .u8 n, .int .u8 many, .int .i64 draw] w fun e w' => e = .returned (.bool true) ∧ Below w.heap.size w w' := by
  obtain ⟨i0, i1⟩ : 0 ≤ i ∧ i ≤ 255 := by
    simp [Lit.wf, IntKind.min, IntKind.max, IntKind.bits, IntKind.signed] at hi; omega
  obtain ⟨n0, n1⟩ : 0 ≤ n ∧ n ≤ 255 := by
    simp [Lit.wf, IntKind.min, IntKind.max, IntKind.bits, IntKind.signed] at hn8; omega
  obtain ⟨y0, y1⟩ : 0 ≤ many ∧ many ≤ 255 := by
    simp [Lit.wf, IntKind.min, IntKind.max, IntKind.bits, IntKind.signed] at hm8; omega
  have HD : Hid (-9223372036854775808 ≤ draw ∧ draw ≤ 9223372036854775807) := Lib.hid (by
    simp [Lit.wf, IntKind.min, IntKind.max, IntKind.bits, IntKind.signed] at hd; omega)
  clear hi hn8 hm8 hd
  obtain ⟨k0, hk0⟩ : ∃ k0 : Nat, many % 4 = (k0 : Int) := ⟨(many % 4).toNat, by omega⟩
  have hk3 : k0 ≤ 3 := by omega
  have HK3 := Lib.hid hk3
  have HB := Lib.hid (Bw.start w c)
  obtain ⟨q0, q1, q2, q3, q4, q5, q6, q7, q8, q9, q10, q11⟩ := (Bw.start w c).cfg
  go_enter Tryz.func4, Tryz.ntmps4
  go_wp2_with (first
    | (go_at_call 5; (with_reducible refine (awake_true _).mono ?_); rintro e w1 ⟨rfl, hb⟩; have HB := Lib.hid (HB.out.step hb); clear hb q0 q1 q2 q3 q4 q5 q6 q7 q8 q9 q10 q11; obtain ⟨q0, q1, q2, q3, q4, q5, q6, q7, q8, q9, q10, q11⟩ := HB.out.cfg)
    | (go_at_call 8; (with_reducible refine (small_any c _).mono ?_); rintro e w2 ⟨b, rfl, hs, hb⟩; have HB := Lib.hid (HB.out.step hb); clear hb q0 q1 q2 q3 q4 q5 q6 q7 q8 q9 q10 q11; obtain ⟨q0, q1, q2, q3, q4, q5, q6, q7, q8, q9, q10, q11⟩ := HB.out.cfg; have HSS := Lib.hid hs; clear hs; cases b)
    | (go_at_call 9; (with_reducible refine (Lay.new_yes (HSS.out trivial).1 _).mono ?_); rintro e w3 ⟨N, rfl, hm, hb⟩; have HOK := Lib.hid (HSS.out trivial).1; have HM := Lib.hid hm; have HB := Lib.hid (HB.out.step hb); clear hb hm q0 q1 q2 q3 q4 q5 q6 q7 q8 q9 q10 q11)
    | (go_at_call 11; (with_reducible refine (first_any HOK.out N _ HM.out).mono ?_); rintro e w4 ⟨G, n', L, rfl, hn, hr, hrep, hb⟩; have HB := Lib.hid (HB.out.step hb); have HM := Lib.hid (HM.out.below hb); have HN := Lib.hid hn; have HR := Lib.hid hr; have HRE := Lib.hid hrep; have HLE := Lib.hid (first_len HOK.out hrep); clear hb hn hr hrep)
    | (go_at_call 10; (with_reducible refine (new_any _ _ _ L _ HN.out HR.out (by have := HN.out; have := HLE.out; omega)).mono ?_); rintro e w5 hs; obtain ⟨S, D, rfl, hpo, hb⟩ := PO.start (B := w.heap.size + 1) (w0 := wcf w c) HB.out (by simp) HM.out HOK.out (first_ww HOK.out HRE.out) hs; have HPO := Lib.hid hpo; clear hs hpo hb; obtain ⟨q0, q1, q2, q3, q4, q5, q6, q7, q8, q9, q10, q11⟩ := Bw.cfg HPO.out.bel; obtain ⟨m1, m2, m3⟩ := dq_rng HOK.out)
    | fail)
  · go_ret
    exact ⟨rfl, HB.out.fin⟩
  obtain ⟨me, hme⟩ : ∃ me, me = i % c.mr := ⟨_, rfl⟩
  obtain ⟨own, hown⟩ : ∃ own : Nat, n % (c.dq + 1) = (own : Int) := ⟨(n % (c.dq + 1)).toNat, by have := Int.emod_nonneg n (show c.dq + 1 ≠ 0 by omega); omega⟩
  have hmod := Int.emod_nonneg i (show c.mr ≠ 0 by omega)
  have hmod2 := Int.emod_lt_of_pos i (show 0 < c.mr by omega)
  have hmod3 := (mr_rng HOK.out).2
  have hmod4 := Int.emod_lt_of_pos n (show 0 < c.dq + 1 by omega)
  rw [← hme, hown]
  rw [← hme] at hmod hmod2
  rw [hown] at hmod4
  have HMK := Lib.hid (show 0 ≤ me ∧ me < c.mr ∧ me ≤ 1000 by omega)
  have HMW := Lib.hid (Lay.wf_i64 (v := me) (by omega) (by omega))
  have HOWN := Lib.hid (show own ≤ dqn c ∧ dqn c ≤ 8 by have := dqn_is HOK.out; omega)
  have HPK := Lib.hid (show 0 < pkn c by have := pkn_is HOK.out; have := (Lay.bds HOK.out).p0; omega)
  have HZ0 := Lib.hid ((SZ.first HPO.out HRE.out HMK.out.1 HMK.out.2.1).below (below_alloc0 (Below.refl _ _) (.cells #[.int .u64 70, .int .u64 71, .int .u64 72, .int .u64 73] 37)))
  have HRD : Hid (Reads .u64 (w5.alloc (.cells #[.int .u64 70, .int .u64 71, .int .u64 72, .int .u64 73] 37)) (some ⟨w5.heap.size, 0, none⟩) (tsK (k0 + 1))) := Lib.hid (reads_4 w5 37 (by omega))
  have HTL := Lib.hid (tsK_len (k := k0 + 1) (by omega))
  have HNE := Lib.hid (show tsK (k0 + 1) ≠ [] from fun e => by have := HTL.out; rw [e] at this; simp at this)
  have HSD := Lib.hid (HPO.out.lt)
  clear hme hown hmod hmod2 hmod3 hmod4 hk0 hk3 q0 q1 q2 q3 q4 q5 q6 q7 q8 q9 q10 q11 m1 m2 m3 HB HM HN HR HRE HLE HPO HSS i0 i1 n0 n1 y0 y1
  go_wp2_with (first
    | (go_at_call 12; (with_reducible refine (put_pk HOK.out N _ _ _ (tsK (k0 + 1)) _ HZ0.out.po.mp HTL.out.symm HRD.out (tsK_wd _) (by have := HK3.out; omega) (by have := HK3.out; omega)).mono ?_); rintro r w6 hn; obtain ⟨X, rfl, hx, hpo, hb⟩ := PKX.of_new HZ0.out.po hn (by rintro ⟨o, e⟩; have := HSD.out; injection e with e; injection e with e1; omega) (by rintro ⟨o, e⟩; have := HSD.out; injection e with e; injection e with e1; omega); have HX := Lib.hid hx; have HZ1 := Lib.hid (HZ0.out.below hb); have HLO1 := Lib.hid (HZ0.out.po.los hb.size); clear hn hx hpo hb)
    | fail)
  clear HZ0 HRD HSD
  go_loopw [21] (fun v wr => ∃ j : Nat, j ≤ 14 ∧ v = .int .i64 (j : Int) ∧ PRn (w.heap.size + 1) S D N c (wcf w c) w6 wr (w5.alloc (.cells #[.int .u64 70, .int .u64 71, .int .u64 72, .int .u64 73] 37)).heap.size X L (pPut (gOf c) (tsK (k0 + 1))) j 0) (fun v _ => 14 - (intOf v).toNat)
  case atStart => exact ⟨0, by omega, rfl, PRn.start HZ1.out.po HX.out⟩
  case round =>
    obtain ⟨j, hj, rfl, ho⟩ := hrel
    have HO := Lib.hid ho; clear ho
    by_cases h14 : j < 14
    · go_wp2_with (first
        | (go_at_call 13; (with_reducible refine (run_step HO.out HLO1.out (pw_put c _ (tsK_wd _)) HZ1.out.po.ww (by omega) (by omega)).mono ?_); rintro r w7 ⟨rfl, ho⟩; have HO2 := Lib.hid ho; clear ho)
        | fail)
      go_roundw
      case rel => exact ⟨j + 1, by omega, by go_num, HO2.out⟩
      case measure => simp [intOf]; omega
    · obtain rfl : j = 14 := by omega
      obtain ⟨L1, m1, hz, hx, hpw, hpp, hpr⟩ := HZ1.out.put (by decide) HNE.out (by have := HTL.out; have := HK3.out; omega) (tsK_wd _) HPK.out HO.out
      have HZ2 := Lib.hid hz; have HX2 := Lib.hid hx; have HPW := Lib.hid hpw; have HPP := Lib.hid hpp
      have HBP := Lib.hid (show (Lit.int .i64 m1.p).wf = true from Lay.wf_i64 (by have := hpr; omega) (by have := hpr; have := pkn_is HOK.out; have := (Lay.bds HOK.out).p1; omega))
      clear hz hx hpw hpp hpr HO HX HZ1 HLO1 h14 hj
      go_wp2_with (first
        | (go_at_call 14; (with_reducible refine (new_so3 HZ2.out.po me draw 0 0 0 HMW.out HMK.out.1 HMK.out.2.1).mono ?_); rintro r w8 ⟨Y, rfl, hy, hpo, hb⟩; have HY := Lib.hid hy; have HZ3 := Lib.hid (HZ2.out.below hb); have HU3 : Hid (UF (fun b => b = S ∨ b = D ∨ wr.heap.size ≤ b) wr w8) := Lib.hid (UF.of_below hb); have HLO2 := Lib.hid (HZ2.out.po.los hb.size); clear hy hpo hb)
        | fail)
      clear HZ2
      go_loopw [23] (fun v wr2 => ∃ j : Nat, j ≤ 40 ∧ v = .int .i64 (j : Int) ∧ SRn (w.heap.size + 1) S D N c (wcf w c) w8 wr2 wr.heap.size Y L1 (kNew (eOf c me) me ⟨0, 0, 0⟩ draw) j 14) (fun v _ => 40 - (intOf v).toNat)
      case atStart => exact ⟨0, by omega, rfl, SRn.start (HZ3.out.po.more (by decide)) HY.out⟩
      case round =>
        obtain ⟨j, hj, rfl, ho⟩ := hrel
        have HO := Lib.hid ho; clear ho
        by_cases h40 : j < 40
        · go_wp2_with (first
            | (go_at_call 15; (with_reducible refine (srun_step HO.out HLO2.out (KW.new (eok_of HOK.out me) HD.out (by decide)) HZ3.out.po.ww (by omega) (by omega)).mono ?_); rintro r w9 ⟨rfl, ho⟩; have HO2 := Lib.hid ho; clear ho)
            | fail)
          go_roundw
          case rel => exact ⟨j + 1, by omega, by go_num, HO2.out⟩
          case measure => simp [intOf]; omega
        · obtain rfl : j = 40 := by omega
          obtain ⟨L2, m2, hz, hy, ht, hf, hb⟩ := HZ3.out.pool (by decide) HNE.out HO.out
          have HZ4 := Lib.hid hz; have HY2 := Lib.hid hy; have HT := Lib.hid (ht.trans (tsK_at (k := k0 + 1) (a := 0) (by omega) (by have := HK3.out; omega))); have HF := Lib.hid hf
          have HBG := Lib.hid (show m2.bag.p = m1.p ∧ m2.bag.t = 1 ∧ m2.bag.n = (k0 : Int) + 1 by rw [hb, HTL.out]; exact ⟨rfl, rfl, show ((k0 + 1 : Nat) : Int) = (k0 : Int) + 1 by omega⟩)
          have HX4 := Lib.hid (HX2.out.uf (HU3.out.trans HO.out.u (fun _ x => x) (fun _ _ x => x)) (Nat.le_refl _))
          clear hz hy ht hf hb HO HY HZ3 HX2 HU3 h40 hj
          go_wp2_with (first
            | (go_at_call 16; (with_reducible refine (task_so HY2.out).mono ?_); rintro r w10 ⟨rfl, hb⟩; rw [HT.out, HF.out]; have HZ5 := Lib.hid (HZ4.out.below hb); have HY3 := Lib.hid (HY2.out.below hb); have HX5 := Lib.hid (HX4.out.uf (lo2 := wr.heap.size) (UF.of_below hb) (Nat.le_refl _)); clear hb)
            | (go_at_call 17; (with_reducible refine (bag_so HY3.out).mono ?_); rintro r w11 ⟨rfl, hb⟩; rw [HBG.out.1, HBG.out.2.1, HBG.out.2.2]; have HZ6 := Lib.hid (HZ5.out.below hb); have HY4 := Lib.hid (HY3.out.below hb); have HX6 := Lib.hid (HX5.out.uf (lo2 := w10.heap.size) (UF.of_below hb) (Nat.le_refl _)); clear hb)
            | (go_at_call 18; (with_reducible refine (packet_po HX6.out HPW.out).mono ?_); rintro r w12 ⟨rfl, rfl⟩; rw [HPP.out])
            | fail)
          clear HZ4 HY2 HX4 HZ5 HY3 HX5 HX6 HPP HPW HT HF
          go_loopw [26] (fun v wr3 => ∃ (j : Nat) (L3 : List Int), j ≤ own ∧ v = .int .i64 (j : Int) ∧ SC (w.heap.size + 1) S D N c (wcf w c) wr3 L3 (100 + 14 * (j : Int)) me (3 + (j : Int)) m1.p (tsK (k0 + 1)) (own10 j) ∧ ∃ lo, SKX lo wr3 Y S D c N m2) (fun v _ => own - (intOf v).toNat)
          case atStart => exact ⟨0, L2, Nat.zero_le _, rfl, ⟨HZ6.out.po.more (by decide), HZ6.out.sq, HZ6.out.ct, HZ6.out.hp⟩, _, HY4.out⟩
          case round =>
            clear HZ6 HY4 L2
            obtain ⟨j, L3, hj, rfl, hz, lo, hy⟩ := hrel
            have HZ := Lib.hid hz; have HY := Lib.hid hy; clear hz hy
            by_cases hlt : j < own
            · have HJ := Lib.hid hlt
              have hji : (j : Int) < (own : Int) := by omega
              have HO9 := HOWN.out
              have e1 : IntKind.u64.wrap (j : Int) = (j : Int) := IntWalk.u64_in _ (by omega)
              have e2 : IntKind.u64.wrap ((j : Int) + 10) = (j : Int) + 10 := IntWalk.u64_in _ (by omega)
              clear hlt hj HO9
              go_wp2_with (first
                | (go_at_call 19; (with_reducible refine (HZ.out.newA ((j : Int) + 10) HMW.out HMK.out.1 HMK.out.2.1).mono ?_); rintro r w13 ⟨A, rfl, ha, hz, hb⟩; have HA := Lib.hid ha; have HZ7 := Lib.hid hz; have HU7 : Hid (UF (fun b => b = S ∨ b = D ∨ wr.heap.size ≤ b) wr w13) := Lib.hid (UF.of_below hb); have HLO3 := Lib.hid (HZ.out.po.los hb.size); clear ha hz hb)
                | fail)
              clear e1 e2
              go_loopw [28] (fun v wr4 => ∃ q : Nat, q ≤ 14 ∧ v = .int .i64 (q : Int) ∧ ARn (w.heap.size + 1) S D N c (wcf w c) w13 wr4 wr.heap.size A L3 (aNew (eOf c me) ((j : Int) + 10)) q (100 + 14 * (j : Int))) (fun v _ => 14 - (intOf v).toNat)
              case atStart => exact ⟨0, by omega, rfl, ARn.start HZ7.out.po HA.out⟩
              case round =>
                obtain ⟨q, hq, rfl, ho⟩ := hrel
                have HO := Lib.hid ho; clear ho
                by_cases h14 : q < 14
                · go_wp2_with (first
                    | (go_at_call 20; (with_reducible refine (arun_step HO.out HLO3.out (AW.new (eok_of HOK.out me) (by have := HJ.out; have := HOWN.out; omega)) HZ7.out.po.ww (by have := HJ.out; have := HOWN.out; omega) (by omega)).mono ?_); rintro r w14 ⟨rfl, ho⟩; have HO2 := Lib.hid ho; clear ho)
                    | fail)
                  go_roundw
                  case rel => exact ⟨q + 1, by omega, by go_num, HO2.out⟩
                  case measure => simp [intOf]; omega
                · obtain rfl : q = 14 := by omega
                  obtain ⟨L4, hz⟩ := HZ7.out.add (by have := HJ.out; have := HOWN.out; omega) (by rw [own10_len]; have := HJ.out; have := HOWN.out; omega) HO.out
                  have HZ8 := Lib.hid hz
                  have HY8 := Lib.hid (HY.out.uf (HU7.out.trans HO.out.u (fun _ x => x) (fun _ _ x => x)) (Nat.le_refl _))
                  clear hz h14 hq HO HY HZ7 HA HU7 HLO3
                  have hj8 : j ≤ 8 := by have := HJ.out; have := HOWN.out; omega
                  go_wp2_with (fail)
                  go_roundw
                  case rel => exact ⟨j + 1, L4, HJ.out, by go_num, by have h := HZ8.out; rw [← own10_suc, show 100 + 14 * (j : Int) + 14 = 100 + 14 * ((j + 1 : Nat) : Int) by omega, show 3 + (j : Int) + 1 = 3 + ((j + 1 : Nat) : Int) by omega] at h; exact h, _, HY8.out⟩
                  case measure => have := HJ.out; simp [intOf]; omega
            · obtain rfl : j = own := by omega
              have hnl : ¬ (j : Int) < (j : Int) := by omega
              clear hlt hj
              go_wp2_with (first
                | (go_at_call 17; (with_reducible refine (bag_so HY.out).mono ?_); rintro r w15 ⟨rfl, hb⟩; rw [HBG.out.1, HBG.out.2.1, HBG.out.2.2]; have HZ7 := Lib.hid ((HZ.out.below hb).below (below_alloc0 (Below.refl _ _) (.cells #[.int .i64 m1.p, .int .i64 1, .int .i64 ((k0 : Int) + 1)] 44))); have HG7 := Lib.hid (B3.new w15 m1.p 1 ((k0 : Int) + 1)); have HS7 := Lib.hid (show w15.heap.size ≠ S ∧ w15.heap.size ≠ D ∧ w15.heap.size ≠ N ∧ w.heap.size + 1 ≤ w15.heap.size from (by have hl := (HZ.out.below hb).po.lt; have hs := (HZ.out.below hb).po.bel.size; have h3 := (HZ.out.below hb).po.lo; simp at hs h3; omega)); clear hb)
                | fail)
              obtain ⟨Bx, hBx⟩ : ∃ Bx, Bx = w15.heap.size := ⟨_, rfl⟩
              rw [← hBx] at HG7 HS7 ⊢
              obtain ⟨L7, hL7⟩ : ∃ L7, L7 = L3 := ⟨_, rfl⟩
              rw [← hL7] at HZ7
              clear hBx HZ HY hnl hL7
              have HK3' := HK3.out
              have ewk : IntKind.i64.wrap (1 - ((k0 : Int) + 1)) = -(k0 : Int) := by rw [show (1 : Int) - ((k0 : Int) + 1) = -(k0 : Int) by omega]; exact IntWalk.i64_in _ (by omega)
              have HJ8 := Lib.hid (show j ≤ 8 by have := HOWN.out; omega)
              go_loopw [30] (fun v wr5 => ∃ (r : Nat) (L5 : List Int) (kk ii J : Int), r ≤ j + k0 ∧ v = .int .i64 J ∧ J = (r : Int) - (k0 : Int) ∧ kk + 40 * (r : Int) ≤ 2000 ∧ ii + (r : Int) ≤ 100 ∧ SC (w.heap.size + 1) S D N c (wcf w c) wr5 L5 kk me ii m1.p (tsK (k0 + 1)) (own10 (r - k0)) ∧ B3 wr5 Bx m1.p (1 + ((k0 - r : Nat) : Int)) ((k0 : Int) + 1)) (fun v _ => (intOf v + (k0 : Int)).toNat)
              case atStart =>
                refine ⟨j + k0, L7, 100 + 14 * (j : Int), 3 + (j : Int), (j : Int), Nat.le_refl _, rfl, by omega, by have := HJ8.out; omega, by have := HJ8.out; omega, ?_, ?_⟩
                · rw [show j + k0 - k0 = j by omega]; exact HZ7.out
                · rw [show k0 - (j + k0) = 0 by omega]; exact HG7.out
              case round =>
                clear HZ7 HG7 L7
                obtain ⟨r, L5, kk, ii, J, hr, rfl, hJ, hkk, hii, hz, hg⟩ := hrel
                have HZ := Lib.hid hz; have HG := Lib.hid hg; have HRI := Lib.hid (And.intro hr (And.intro hkk (And.intro hii hJ)))
                have HJ9 := HJ8.out
                cases r with
                | zero =>
                  have d5 : decide (J > -(k0 : Int)) = false := by simp; omega
                  rw [show (1 : Int) + ((k0 - 0 : Nat) : Int) = (k0 : Int) + 1 by omega] at hg
                  obtain ⟨g0, g1, g2⟩ := hg.cc
                  clear hz hg hr hkk hii hJ HJ9
                  go_wp2_with (fail)
                  go_ret
                  exact ⟨rfl, Bw.fin HZ.out.po.bel⟩
                | succ r =>
                  have d5 : decide (J > -(k0 : Int)) = true := by simp; omega
                  obtain ⟨a, ha⟩ : ∃ a : Int, a = 1 + ((k0 - (r + 1) : Nat) : Int) := ⟨_, rfl⟩
                  have HAA := Lib.hid ha
                  rw [← ha] at hg
                  obtain ⟨g0, g1, g2⟩ := hg.cc
                  have HG := Lib.hid hg
                  have HJB := Lib.hid (show -4 ≤ J ∧ J ≤ 9 by omega)
                  clear hz hg hr hkk hii hJ ha HJ9
                  go_wp2_with (first
                    | (go_at_call 14; (with_reducible refine (new_so3 HZ.out.po me draw m1.p a ((k0 : Int) + 1) HMW.out HMK.out.1 HMK.out.2.1).mono ?_); rintro r w16 ⟨Z, rfl, hy, hpo, hb⟩; have HZZ := Lib.hid hy; have HZ3 := Lib.hid (HZ.out.below hb); have HU3 : Hid (UF (fun b => b = S ∨ b = D ∨ wr.heap.size ≤ b) wr w16) := Lib.hid (UF.of_below hb); have HLO2 := Lib.hid (HZ.out.po.los hb.size); clear hy hpo hb g0 g1 g2)
                    | fail)
                  go_loopw [32] (fun v wr6 => ∃ q : Nat, q ≤ 40 ∧ v = .int .i64 (q : Int) ∧ SRn (w.heap.size + 1) S D N c (wcf w c) w16 wr6 wr.heap.size Z L5 (kNew (eOf c me) me ⟨m1.p, a, (k0 : Int) + 1⟩ draw) q kk) (fun v _ => 40 - (intOf v).toNat)
                  case atStart => exact ⟨0, by omega, rfl, SRn.start HZ3.out.po HZZ.out⟩
                  case round =>
                    obtain ⟨q, hq, rfl, ho⟩ := hrel
                    have HO := Lib.hid ho; clear ho
                    by_cases h40 : q < 40
                    · go_wp2_with (first
                        | (go_at_call 15; (with_reducible refine (srun_step HO.out HLO2.out (KW.new (eok_of HOK.out me) HD.out HBP.out) HZ3.out.po.ww (by have := HRI.out; omega) (by omega)).mono ?_); rintro r w17 ⟨rfl, ho⟩; have HO2 := Lib.hid ho; clear ho)
                        | fail)
                      go_roundw
                      case rel => exact ⟨q + 1, by omega, by go_num, HO2.out⟩
                      case measure => simp [intOf]; omega
                    · obtain rfl : q = 40 := by omega
                      by_cases hk : k0 ≤ r
                      · have HKR := Lib.hid hk
                        have hz3 := HZ3.out
                        rw [show r + 1 - k0 = (r - k0) + 1 by omega, own10_suc] at hz3
                        obtain ⟨L6, m3, hz, hy, ht, hf, hb'⟩ := hz3.own (b := ⟨m1.p, a, (k0 : Int) + 1⟩) (by have := HRI.out; omega) (by have := HAA.out; have := HK3.out; dsimp only; omega) HO.out
                        clear hz3
                        have hb : m3.bag.p = m1.p ∧ m3.bag.t = a ∧ m3.bag.n = (k0 : Int) + 1 := by rw [hb']; exact ⟨rfl, rfl, rfl⟩
                        clear hb'
                        have HZ4 := Lib.hid hz; have HBG := Lib.hid hb
                        have hJB := HJB.out
                        have ej1 : IntKind.i64.wrap (J - 1) = J - 1 := IntWalk.i64_in _ (by omega)
                        have hT : m3.task = J + 9 := ht.trans (by have := HRI.out; omega)
                        have HT := Lib.hid hT; have HF := Lib.hid hf
                        obtain ⟨nx, dv, pv, hkb⟩ := hy.kb
                        have HKB := Lib.hid hkb
                        have HNZ := Lib.hid (show Z ≠ Bx by have h1 := hy.ne; have h2 := HG.out.lt; omega)
                        have HG4 := Lib.hid (HG.out.uf (HU3.out.trans HO.out.u (fun _ x => x) (fun _ _ x => x)) HS7.out.1 HS7.out.2.1 (Nat.le_refl _))
                        have e1 : IntKind.u64.wrap J = J := IntWalk.u64_in _ (by have := HRI.out; omega)
                        have e2 : IntKind.u64.wrap (J + 9) = J + 9 := IntWalk.u64_in _ (by have := HRI.out; omega)
                        have d6 : decide (J ≤ 0) = false := by have := HRI.out; simp; omega
                        clear hz hy ht hf hb hkb HO HZZ HZ3 HU3 HLO2 HG HZ h40 hq hT hk
                        go_wp2_with (first
                          | (go_at_call 17; (with_reducible refine (bag_raw HKB.out).mono ?_); rintro r w18 ⟨rfl, hb⟩; rw [HBG.out.1, HBG.out.2.1, HBG.out.2.2]; have HG5 := Lib.hid (HG4.out.step hb); have HZ6 := Lib.hid ((HZ4.out.below hb).box HS7.out.2.2.2 HS7.out.1 HS7.out.2.1 HS7.out.2.2.1 (.int .i64 m1.p) (.int .i64 a) (.int .i64 ((k0 : Int) + 1))); have HK6 := Lib.hid ((HKB.out.step hb).box HNZ.out (.int .i64 m1.p) (.int .i64 a) (.int .i64 ((k0 : Int) + 1))); have HG6 := Lib.hid (HG5.out.put m1.p (a) ((k0 : Int) + 1)); obtain ⟨g0, g1, g2⟩ := HG5.out.cc; have f0 := HG5.out.f 0; have f1 := HG5.out.f 1; have f2 := HG5.out.f 2; clear hb)
                          | (go_at_call 16; (with_reducible refine (task_raw HK6.out).mono ?_); rintro r w19 ⟨rfl, hb⟩; rw [HT.out, HF.out]; have HZ7 := Lib.hid (HZ6.out.below hb); have HG7 := Lib.hid (HG6.out.step hb); clear hb g0 g1 g2 f0 f1 f2)
                          | fail)
                        go_roundw
                        case rel =>
                          have hri := HRI.out
                          refine ⟨r, L6, kk + 40, ii + 1, J - 1, by omega, by go_num, by omega, by omega, by omega, ?_, ?_⟩
                          · have h := HZ7.out
                            rw [show own10 (r - k0) = own10 (r - k0) from rfl] at h
                            exact h
                          · have h := HG7.out
                            rw [show a = 1 + ((k0 - r : Nat) : Int) by have h1 := HAA.out; have h2 := HKR.out; omega] at h
                            exact h
                        case measure => have hri := HRI.out; simp [intOf]; omega
                      · have HKR := Lib.hid (show r + 1 ≤ k0 by omega)
                        have hz3 := HZ3.out
                        rw [show r + 1 - k0 = 0 by omega, show own10 0 = [] from rfl] at hz3
                        have ho := HO.out
                        rw [show a = ((1 + (k0 - (r + 1)) : Nat) : Int) by have := HAA.out; omega, show (k0 : Int) + 1 = ((tsK (k0 + 1)).length : Int) by rw [HTL.out]; omega] at ho
                        obtain ⟨L6, m3, hz, hy, ht, hf, hb'⟩ := hz3.bag (by have := HRI.out; omega) (by rw [HTL.out]; omega) ho
                        clear hz3 ho
                        rw [tsK_at (by omega) (by have := HK3.out; omega)] at ht
                        have hb : m3.bag.p = m1.p ∧ m3.bag.t = a + 1 ∧ m3.bag.n = (k0 : Int) + 1 := by rw [hb', HTL.out]; refine ⟨rfl, ?_, ?_⟩ <;> dsimp only <;> (have := HAA.out; omega)
                        clear hb'
                        have HZ4 := Lib.hid hz; have HBG := Lib.hid hb
                        have hJB := HJB.out
                        have ej1 : IntKind.i64.wrap (J - 1) = J - 1 := IntWalk.i64_in _ (by omega)
                        have hT : m3.task = 71 - J := ht.trans (by have := HRI.out; omega)
                        have HT := Lib.hid hT; have HF := Lib.hid hf
                        obtain ⟨nx, dv, pv, hkb⟩ := hy.kb
                        have HKB := Lib.hid hkb
                        have HNZ := Lib.hid (show Z ≠ Bx by have h1 := hy.ne; have h2 := HG.out.lt; omega)
                        have HG4 := Lib.hid (HG.out.uf (HU3.out.trans HO.out.u (fun _ x => x) (fun _ _ x => x)) HS7.out.1 HS7.out.2.1 (Nat.le_refl _))
                        have e0 : IntKind.i64.wrap (71 - J) = 71 - J := IntWalk.i64_in _ (by omega)
                        have e2 : IntKind.u64.wrap (71 - J) = 71 - J := IntWalk.u64_in _ (by have := HRI.out; omega)
                        have d6 : decide (J ≤ 0) = true := by have := HRI.out; simp; omega
                        clear hz hy ht hf hb hkb HO HZZ HZ3 HU3 HLO2 HG HZ h40 hq hT hk
                        go_wp2_with (first
                          | (go_at_call 17; (with_reducible refine (bag_raw HKB.out).mono ?_); rintro r w18 ⟨rfl, hb⟩; rw [HBG.out.1, HBG.out.2.1, HBG.out.2.2]; have HG5 := Lib.hid (HG4.out.step hb); have HZ6 := Lib.hid ((HZ4.out.below hb).box HS7.out.2.2.2 HS7.out.1 HS7.out.2.1 HS7.out.2.2.1 (.int .i64 m1.p) (.int .i64 (a + 1)) (.int .i64 ((k0 : Int) + 1))); have HK6 := Lib.hid ((HKB.out.step hb).box HNZ.out (.int .i64 m1.p) (.int .i64 (a + 1)) (.int .i64 ((k0 : Int) + 1))); have HG6 := Lib.hid (HG5.out.put m1.p ((a + 1)) ((k0 : Int) + 1)); obtain ⟨g0, g1, g2⟩ := HG5.out.cc; have f0 := HG5.out.f 0; have f1 := HG5.out.f 1; have f2 := HG5.out.f 2; clear hb)
                          | (go_at_call 16; (with_reducible refine (task_raw HK6.out).mono ?_); rintro r w19 ⟨rfl, hb⟩; rw [HT.out, HF.out]; have HZ7 := Lib.hid (HZ6.out.below hb); have HG7 := Lib.hid (HG6.out.step hb); clear hb g0 g1 g2 f0 f1 f2)
                          | fail)
                        go_roundw
                        case rel =>
                          have hri := HRI.out
                          refine ⟨r, L6, kk + 40, ii + 1, J - 1, by omega, by go_num, by omega, by omega, by omega, ?_, ?_⟩
                          · have h := HZ7.out
                            rw [show ([] : List Int) = own10 (r - k0) from by rw [show r - k0 = 0 by have := HKR.out; omega]; rfl] at h
                            exact h
                          · have h := HG7.out
                            rw [show (a + 1) = 1 + ((k0 - r : Nat) : Int) by have h1 := HAA.out; have h2 := HKR.out; omega] at h
                            exact h
                        case measure => have hri := HRI.out; simp [intOf]; omega
end Go.Proofs.YtnfbjebhpljikaaGreat
