
import Derived.Test.YtpocihddecemfaaGreatJ25
import Derived.IntWalk
namespace Go.Proofs.YtpocihddecemfaaGreat
open Go.RowKit
set_option linter.unusedVariables false
set_option linter.unusedSimpArgs false
set_option linter.unnecessarySimpa false
set_option maxRecDepth 100000
open Lay (plcc plc shOf packN nodesN OkC Cfg Norm firstV Rep lenL things roomsI)
set_option maxHeartbeats 16000000 in
theorem rzs_4 {c : Cfg} (hc : OkC c) {t : Int} (Q : Nat → Prop) (A : Option Addr) (n cap : Nat) (R : Option Addr) (n' capR : Nat) (L : List Int) (i : Int) (m : Zm) (V : Array Value) (w : World) (hA : IsA w c A n) (hn : n' = L.length) (hn2 : n' ≤ 1000000) (hR : ReadsW Q w R L) (hQ : ∀ b, w.heap.size ≤ b → Q b) (h : ZV Q w c i m V) (hi : decide (i < 0) = false) (hj : decide (c.mr ≤ i) = false) (zw : ZW c t m) (ww : WW L) (ht : t ≤ 900000000) (hp : m.pc = 4) :
    Calls Tryz.prog 18 #[aVal A n cap (packN c), Lay.cfgV c, .slice R n' capR, .agg V] w (SomeZ Q w n' c i (zstp (zgOf c) (gOf c) (aNew (eOf c i)) L m).1 (zstp (zgOf c) (gOf c) (aNew (eOf c i)) L m).2) := by
  have hz := ZC.new w A n cap (packN c) c V
  obtain ⟨W0, hW0⟩ : ∃ W0, W0 = ((((w.alloc (.cells #[.slice A n cap, .int .i64 (packN c)] 36)).alloc (.cells #[.int .i64 c.a, .int .i64 c.b, .int .i64 c.c, .int .i64 c.d, .int .i64 c.e, .int .i64 c.mr, .int .i64 c.mu, .int .i64 c.dq, .int .i64 c.ch, .int .i64 c.bf, .int .i64 c.rt, .int .i64 c.sw] 38)).alloc (.cells V 64)).alloc (.cells #[.int .i64 0, .int .i64 0, .int .i64 0, .int .i64 0, .int .u64 0, .int .i64 0, .int .i64 0, .int .i64 0, .int .i64 0, .int .i64 0, .int .u64 0, .int .u64 0, .bool false, .int .i64 0, .int .u64 0, .int .i64 0, .int .i64 0, .int .i64 0, .int .i64 0, .int .i64 0, .int .i64 0, .int .u64 0, .int .u64 0, .int .u64 0, .bool false, .int .i64 0, .int .i64 0, .int .i64 0, .slice none 0 0, .int .i64 0, .int .i64 0, .int .i64 0, .int .i64 0, .int .i64 0, .slice none 0 0, .int .u32 0, .int .u64 0, .int .u32 0, .int .i64 0, .bool false, .int .i64 0, .int .i64 0, .int .i64 0, .int .i64 0, .int .i64 0] 64)) := ⟨_, rfl⟩
  rw [← hW0] at hz
  obtain ⟨LZ, mZ, hZ⟩ : ∃ LZ mZ, zstp (zgOf c) (gOf c) (aNew (eOf c i)) L m = (LZ, mZ) := ⟨_, _, rfl⟩
  rw [hZ]
  have HLZ := Lib.hid hZ
  have HZ0 := Lib.hid hz; have HW0 := Lib.hid hW0; have HA := Lib.hid hA; have HN := Lib.hid hn; have HN2 := Lib.hid hn2; have HR := Lib.hid hR; have HV := Lib.hid h; have HWW := Lib.hid ww; have HQ := Lib.hid hQ; have HI := Lib.hid (And.intro hi hj); have HZW := Lib.hid zw; have HPC := Lib.hid hp
  clear hz hW0 hA hn hn2 hR h ww hQ hi hj zw hp hZ
  go_enter Tryz.func18, Tryz.ntmps18
  go_upto_region 1 with (fail)
  rw [← HW0.out]
  obtain ⟨B, hB⟩ : ∃ B, B = w.heap.size + 1 + 1 := ⟨_, rfl⟩
  obtain ⟨T, hT⟩ : ∃ T, T = w.heap.size + 1 + 1 + 1 := ⟨_, rfl⟩
  have hz0 := HZ0.out
  rw [← hT, ← hB] at hz0
  rw [← hT, ← hB]
  have HLT := Lib.hid (show w.heap.size ≤ B ∧ w.heap.size ≤ T by omega)
  have hs0 : ZS Q w A n cap (packN c) c B T i W0 R L m V := ⟨hz0, (HR.out.notZ HLT.out.1 HLT.out.2).below hz0.z.bel, (HV.out.notZ HLT.out.1 HLT.out.2).below hz0.z.bel⟩
  have hfr := hs0.z.fro
  obtain ⟨y0, y1, y2, y3, y4⟩ := hs0.evc
  clear HZ0 hB hT HW0 hz0
  go_upto_region 2 with (fail)
  have hs1 := hs0.ev 0 0 0
  unfold evWz at hs1
  obtain ⟨W1, hW1⟩ : ∃ W1, W1 = (((((W0.setCell ⟨B, 40, none⟩ (.int .i64 0)).setCell ⟨B, 41, none⟩ (.int .i64 0)).setCell ⟨B, 42, none⟩ (.int .i64 0)).setCell ⟨B, 43, none⟩ (.int .i64 0)).setCell ⟨B, 44, none⟩ (.int .i64 0)) := ⟨_, rfl⟩
  rw [← hW1] at hs1
  rw [← hW1]
  obtain ⟨m0, hm0⟩ : ∃ m0 : Zm, m0 = { m with ek := 0, ea := 0, eb := 0 } := ⟨_, rfl⟩
  rw [← hm0] at hs1
  have HM0 := Lib.hid hm0
  obtain ⟨V0, hV0⟩ : ∃ V0, V0 = evRow V 0 0 0 := ⟨_, rfl⟩
  rw [← hV0] at hs1
  have x0 := hs1.z.cell 0 hs1.v.c0
  rw [show m0.pc = 4 by rw [hm0]; exact HPC.out] at x0
  have HS1 := Lib.hid hs1
  have HZW0 : Hid (ZW c t m0) := Lib.hid (by rw [hm0]; exact HZW.out.ev 0 0 0)
  have HA1 := Lib.hid (HA.out.below hs1.z.z.bel)
  have HP0 : Hid (m0.pc = 4) := Lib.hid (by rw [hm0]; exact HPC.out)
  clear y0 y1 y2 y3 y4 hfr hs0 hs1 hW1 hV0 hm0 W0 HV
  obtain ⟨mv, hmv⟩ : ∃ x, x = m0.v := ⟨_, rfl⟩
  obtain ⟨mt, hmt⟩ : ∃ x, x = m0.at' := ⟨_, rfl⟩
  obtain ⟨at4, hat⟩ : ∃ a, a = plcc c 18 mv mt := ⟨_, rfl⟩
  obtain ⟨x, hx⟩ : ∃ x, x = ldv L at4 := ⟨_, rfl⟩
  have hmv1 : m.v = mv := by rw [hmv, HM0.out]
  have hmt1 : m.at' = mt := by rw [hmt, HM0.out]
  have hxm : x = ldc L (plcc c 18 m.v m.at') := by rw [hx, hat, ← ldvZ, hmv1, hmt1]
  have hxw : 0 ≤ x ∧ x ≤ 18446744073709551615 := by rw [hx]; exact HWW.out.ld _
  have hxs : ldc L ((zgOf c).sl m0.v m0.at') = x := by rw [hxm, ← hmv, ← hmt, hmv1, hmt1]; rfl
  have HMV := Lib.hid hmv; have HMT := Lib.hid hmt; have HAT := Lib.hid hat; have HX := Lib.hid hx; have HXS := Lib.hid hxs
  have HNM : Hid (Norm ⟨18, mv, mt⟩) := Lib.hid (nrm 18 mv mt (by omega) (by omega) (fun h => by omega) (fun _ _ h => absurd rfl h))
  have HTB : Hid (0 ≤ mt ∧ mt ≤ 1000) := Lib.hid (by rw [hmt]; exact HZW0.out.a)
  have HXW := Lib.hid hxw
  have ew : IntKind.i64.wrap (mt + 1) = mt + 1 := IntWalk.i64_in _ (by have := HTB.out; omega)
  have x2 := HS1.out.z.cell 2 HS1.out.v.c2
  have x5 := HS1.out.z.cell 5 HS1.out.v.c5
  rw [← hmv] at x2
  rw [← hmt] at x5
  obtain ⟨a0, a1⟩ := HS1.out.z.acells
  clear hmv hmt hat hx hmv1 hmt1 hxm hxw hxs
  go_upto_region 17 with (first
    | (go_at_call 54; (with_reducible refine (rat_any c A n cap (packN c) 18 mv mt _ HA1.out HNM.out).mono ?_); rintro r w2 ⟨rfl, hb⟩; rw [← HAT.out]; have HS2 := Lib.hid (HS1.out.step hb); clear hb)
    | (go_at_call 53; (with_reducible refine (rload_any R n' capR L at4 _ HN.out HS2.out.r.reads).mono ?_); rintro r w3 ⟨rfl, hw⟩; cases hw; rw [← HX.out])
    | fail)
  clear x0 x2 x5 a0 a1
  have x2 := HS2.out.z.cell 2 HS2.out.v.c2
  have x5 := HS2.out.z.cell 5 HS2.out.v.c5
  rw [← HMV.out] at x2
  rw [← HMT.out] at x5
  have hfr := HS2.out.z.fro
  obtain ⟨y0, y1, y2, y3, y4⟩ := HS2.out.evc
  go_upto_region 18 with (fail)
  have hs3 := HS2.out.ev 3 mv mt
  unfold evWz at hs3
  obtain ⟨W3, hW3⟩ : ∃ W3, W3 = (((((w2.setCell ⟨B, 40, none⟩ (.int .i64 3)).setCell ⟨B, 41, none⟩ (.int .i64 0)).setCell ⟨B, 42, none⟩ (.int .i64 mv)).setCell ⟨B, 43, none⟩ (.int .i64 mt)).setCell ⟨B, 44, none⟩ (.int .i64 0)) := ⟨_, rfl⟩
  rw [← hW3] at hs3
  rw [← hW3]
  obtain ⟨V3, hV3⟩ : ∃ V3, V3 = evRow V0 3 mv mt := ⟨_, rfl⟩
  rw [← hV3] at hs3
  clear hW3 hV3
  clear x2 x5 hfr y0 y1 y2 y3 y4
  obtain ⟨m3, hm3⟩ : ∃ m3 : Zm, m3 = { m0 with ek := 3, ea := mv, eb := mt } := ⟨_, rfl⟩
  rw [← hm3] at hs3
  have x5 := hs3.z.cell 5 hs3.v.c5
  rw [show m3.at' = mt by rw [hm3, HMT.out]] at x5
  have hfr := hs3.z.fro
  have HS3 := Lib.hid hs3; have HM3 := Lib.hid hm3
  clear hs3 hm3
  go_upto_region 19 with (fail)
  have hs4 := HS3.out.at_ (mt + 1)
  obtain ⟨W4, hW4⟩ : ∃ W4, W4 = W3.setCell ⟨B, 5, none⟩ (.int .i64 (mt + 1)) := ⟨_, rfl⟩
  rw [← hW4] at hs4
  rw [← hW4]
  obtain ⟨V4, hV4⟩ : ∃ V4, V4 = V3.setIfInBounds 5 (.int .i64 (mt + 1)) := ⟨_, rfl⟩
  rw [← hV4] at hs4
  obtain ⟨m4, hm4⟩ : ∃ m4 : Zm, m4 = { m3 with at' := mt + 1 } := ⟨_, rfl⟩
  rw [← hm4] at hs4
  have HS4 := Lib.hid hs4; have HM4 := Lib.hid hm4
  clear hs4 hW4 hV4 hm4 x5 hfr
  obtain ⟨V5, hV5⟩ : ∃ V5, V5 = V4.setIfInBounds 0 (.int .i64 (zrest m4).pc) := ⟨_, rfl⟩
  have HV5 := Lib.hid hV5
  have HZ5 : Hid (V5.size = 45 ∧ V5.all (·.oneCell') = true) := Lib.hid (by rw [hV5]; exact ⟨(HS4.out.v.pc (zrest m4).pc).size, (HS4.out.v.pc (zrest m4).pc).one⟩)
  clear hV5
  go_upto_region 20 with (first
    | (refine wpList_loadZ rfl (.tmp 7) rfl B V4 rfl HS4.out.z.z.bm HS4.out.v.size ?_)
    | (go_at_call 52; (with_reducible refine (rest_any HS4.out.v).mono ?_); rintro r w5 ⟨rfl, hb⟩; rw [← HV5.out]; have HS5 := Lib.hid (HS4.out.step hb); clear hb)
    | (refine wpList_storeZ rfl (.tmp 7) (.tmp 93) rfl B V4 V5 rfl rfl HS5.out.z.z.bm HS5.out.v.size HZ5.out.1 HZ5.out.2 ?_)
    | fail)
  have hs6 := HS5.out.rest
  rw [← HV5.out] at hs6
  obtain ⟨W6, hW6⟩ : ∃ W6, W6 = w5.setCells B 0 V5.toList := ⟨_, rfl⟩
  rw [← hW6] at hs6
  rw [← hW6]
  have HS6 := Lib.hid hs6
  have HM4' : Hid (m4 = { m0 with ek := 3, ea := m0.v, eb := m0.at', at' := m0.at' + 1 }) := Lib.hid (by rw [HM4.out, HM3.out, ← HMV.out, ← HMT.out])
  clear hs6 hW6 HS1 HS2 HS3 HS4 HS5
  by_cases hco : x < 1
  · have HCO := Lib.hid hco
    clear hco
    have HE : Hid (LZ = L ∧ mZ = zrest m4) := Lib.hid (by
      have e : zstp (zgOf c) (gOf c) (aNew (eOf c i)) L m = (L, zrest m4) := by
        have h1 : ldc L ((zgOf c).sl m.v m.at') = x := by have := HXS.out; rw [HM0.out] at this; exact this
        rw [HM4'.out, HM0.out]; simp only [zstp]; rw [if_neg (by rw [HPC.out]; decide), if_neg (by rw [HPC.out]; decide), if_neg (by rw [HPC.out]; decide), if_pos HPC.out]; rw [h1, if_neg (fun e => by have := e.1; have := HCO.out; omega)]
      have := HLZ.out.symm.trans e
      simpa using this)
    have d1 : decide (x ≥ 1) = false := by have := HCO.out; simp; omega
    go_upto_region 24 with (fail)
    have HK5 := Lib.hid (HS6.out.step (Below.refl _ _).drew)
    refine wp_region_any (by kernel_rfl) ?_
    change wpAny _ _ _ _ 4 _ _ (World.drew _)
    refine wpAny_take (i := 0) (v := .slice R n' capR) rfl (by kernel_rfl) (by kernel_rfl) (by kernel_rfl) (fun _ _ _ h => h) (Or.inl ⟨by rfl, fun w => by exact BigFrame.run_move (.tmp 2) rfl w⟩) ?_
    refine wpAny_take (i := 2) (v := .slice R n' capR) rfl (by kernel_rfl) (by kernel_rfl) (by kernel_rfl) (fun _ _ _ h => h) (Or.inl ⟨by rfl, fun w => by exact BigFrame.run_assign (.tmp 114) rfl w⟩) ?_
    refine wpAny_ready (rs := [1]) (by kernel_rfl) (by decide) (AllReady.cons rfl (fun K' hK => ?_) AllReady.nil)
    rw [if_pos (by rfl)]
    refine wp_load_mid 64 (.tmp 7) rfl B 0 rfl _ _ (rng_all HK5.out.z.z.bm) row64.choose_spec.1 row64.choose_spec.2 (by rw [show V5.toList.length = 45 from by simpa using HS6.out.v.size]; kernel_rfl) (hK _ _ ?_)
    refine wpAny_ready (rs := [3]) (by kernel_rfl) (by decide) (AllReady.cons rfl (fun K' hK => ?_) AllReady.nil)
    rw [if_pos (by rfl)]
    refine wp_store_mid 64 (.tmp 9) (.tmp 115) rfl T 0 V5 rfl rfl (there_sub 0 _ HK5.out.z.z.br (by rw [HS6.out.v.size]; decide)) (by rw [HS6.out.v.size]; kernel_rfl) HS6.out.v.one (hK _ _ ?_)
    refine wpAny_done (by kernel_rfl) ?_ _
    obtain ⟨hl, hr, hv, hb⟩ := HK5.out.out
    go_wp2
    exact bodyPost_ret (v := .tuple #[.slice R n' capR, .agg V5]) (res2 Tryz.results18 _ _ _ _ _ rfl rfl hl) rfl ⟨R, capR, V5, rfl, by rw [HE.out.1]; exact hr, by rw [HE.out.2]; exact hv, hb⟩
  by_cases hco2 : ((roomsI c).length : Int) < x
  · have HCO := Lib.hid (show 1 ≤ x ∧ ((roomsI c).length : Int) < x by omega)
    clear hco hco2
    have HE : Hid (LZ = L ∧ mZ = zrest m4) := Lib.hid (by
      have e : zstp (zgOf c) (gOf c) (aNew (eOf c i)) L m = (L, zrest m4) := by
        have h1 : ldc L ((zgOf c).sl m.v m.at') = x := by have := HXS.out; rw [HM0.out] at this; exact this
        rw [HM4'.out, HM0.out]; simp only [zstp]; rw [if_neg (by rw [HPC.out]; decide), if_neg (by rw [HPC.out]; decide), if_neg (by rw [HPC.out]; decide), if_pos HPC.out]; rw [h1, if_neg (fun e => by have e1 := e.2; have e2 : (zgOf c).nn = ((roomsI c).length : Int) := rfl; have := HCO.out; omega)]
      have := HLZ.out.symm.trans e
      simpa using this)
    obtain ⟨nr, hnr⟩ : ∃ nr, nr = (roomsI c).length := ⟨_, rfl⟩
    rw [← hnr] at HCO
    have HNR := Lib.hid hnr.symm
    have hn60 : nr ≤ 60 := by have := nodes60 hc; have e := zg_nn hc; have e2 : (zgOf c).nn = ((roomsI c).length : Int) := rfl; omega
    have enr : IntKind.u64.wrap (nr : Int) = (nr : Int) := by rw [IntKind.wrap_u64]; exact Int.emod_eq_of_lt (by omega) (by omega)
    clear hnr
    obtain ⟨q0, q1, q2, q3, q4, q5, q6, q7, q8, q9, q10, q11⟩ := HS6.out.z.ccells
    have d1 : decide (x ≥ 1) = true := by have := HCO.out; simp; omega
    have d2 : decide (x ≤ (nr : Int)) = false := by have := HCO.out; simp; omega
    go_upto_region 24 with (first
      | (go_at_call 55; (with_reducible refine (Lay.rooms_any c _).mono ?_); rintro r w7 ⟨rv, rfl, ho⟩; obtain ⟨RA, rc, hrv, hrd, _, hr2, hr3⟩ := ho.reads; subst hrv; have HS7 := Lib.hid (HS6.out.step ho.2); rw [HNR.out]; clear ho hrd hr2 hr3)
      | fail)
    have HK5 := Lib.hid (HS7.out.step (Below.refl _ _).drew)
    refine wp_region_any (by kernel_rfl) ?_
    change wpAny _ _ _ _ 4 _ _ (World.drew _)
    refine wpAny_take (i := 0) (v := .slice R n' capR) rfl (by kernel_rfl) (by kernel_rfl) (by kernel_rfl) (fun _ _ _ h => h) (Or.inl ⟨by rfl, fun w => by exact BigFrame.run_move (.tmp 2) rfl w⟩) ?_
    refine wpAny_take (i := 2) (v := .slice R n' capR) rfl (by kernel_rfl) (by kernel_rfl) (by kernel_rfl) (fun _ _ _ h => h) (Or.inl ⟨by rfl, fun w => by exact BigFrame.run_assign (.tmp 114) rfl w⟩) ?_
    refine wpAny_ready (rs := [1]) (by kernel_rfl) (by decide) (AllReady.cons rfl (fun K' hK => ?_) AllReady.nil)
    rw [if_pos (by rfl)]
    refine wp_load_mid 64 (.tmp 7) rfl B 0 rfl _ _ (rng_all HK5.out.z.z.bm) row64.choose_spec.1 row64.choose_spec.2 (by rw [show V5.toList.length = 45 from by simpa using HS7.out.v.size]; kernel_rfl) (hK _ _ ?_)
    refine wpAny_ready (rs := [3]) (by kernel_rfl) (by decide) (AllReady.cons rfl (fun K' hK => ?_) AllReady.nil)
    rw [if_pos (by rfl)]
    refine wp_store_mid 64 (.tmp 9) (.tmp 115) rfl T 0 V5 rfl rfl (there_sub 0 _ HK5.out.z.z.br (by rw [HS7.out.v.size]; decide)) (by rw [HS7.out.v.size]; kernel_rfl) HS7.out.v.one (hK _ _ ?_)
    refine wpAny_done (by kernel_rfl) ?_ _
    obtain ⟨hl, hr, hv, hb⟩ := HK5.out.out
    go_wp2
    exact bodyPost_ret (v := .tuple #[.slice R n' capR, .agg V5]) (res2 Tryz.results18 _ _ _ _ _ rfl rfl hl) rfl ⟨R, capR, V5, rfl, by rw [HE.out.1]; exact hr, by rw [HE.out.2]; exact hv, hb⟩
  have HCO := Lib.hid (show 1 ≤ x ∧ x ≤ ((roomsI c).length : Int) by omega)
  clear hco hco2
  have HE : Hid (LZ = L ∧ mZ = { m4 with w := x, c := cNew (plcc c 16 x 0) m0.cy, pc := 5 }) := Lib.hid (by
    have e : zstp (zgOf c) (gOf c) (aNew (eOf c i)) L m = (L, { m4 with w := x, c := cNew (plcc c 16 x 0) m0.cy, pc := 5 }) := by
      have h1 : ldc L ((zgOf c).sl m.v m.at') = x := by have := HXS.out; rw [HM0.out] at this; exact this
      have e2 : (zgOf c).nn = ((roomsI c).length : Int) := rfl
      have e3 : ∀ y, (zgOf c).ma y = plcc c 16 y 0 := fun _ => rfl
      rw [HM4'.out, HM0.out]; simp only [zstp]; rw [if_neg (by rw [HPC.out]; decide), if_neg (by rw [HPC.out]; decide), if_neg (by rw [HPC.out]; decide), if_pos HPC.out]; rw [h1, if_pos (by rw [e2]; exact HCO.out), e3]
    have := HLZ.out.symm.trans e
    simpa using this)
  obtain ⟨nr, hnr⟩ : ∃ nr, nr = (roomsI c).length := ⟨_, rfl⟩
  rw [← hnr] at HCO
  have HNR := Lib.hid hnr.symm
  have hn60 : nr ≤ 60 := by have := nodes60 hc; have e := zg_nn hc; have e2 : (zgOf c).nn = ((roomsI c).length : Int) := rfl; omega
  have enr : IntKind.u64.wrap (nr : Int) = (nr : Int) := by rw [IntKind.wrap_u64]; exact Int.emod_eq_of_lt (by omega) (by omega)
  clear hnr
  obtain ⟨q0, q1, q2, q3, q4, q5, q6, q7, q8, q9, q10, q11⟩ := HS6.out.z.ccells
  have d1 : decide (x ≥ 1) = true := by have := HCO.out; simp; omega
  have d2 : decide (x ≤ (nr : Int)) = true := by have := HCO.out; simp; omega
  have ewx : IntKind.i64.wrap x = x := IntWalk.i64_in _ (by have := HCO.out; omega)
  go_upto_region 21 with (first
    | (go_at_call 55; (with_reducible refine (Lay.rooms_any c _).mono ?_); rintro r w7 ⟨rv, rfl, ho⟩; obtain ⟨RA, rc, hrv, hrd, _, hr2, hr3⟩ := ho.reads; subst hrv; have HS7 := Lib.hid (HS6.out.step ho.2); rw [HNR.out]; clear ho hrd hr2 hr3)
    | fail)
  clear q0 q1 q2 q3 q4 q5 q6 q7 q8 q9 q10 q11
  have x7 := HS7.out.z.cell 7 HS7.out.v.c7
  have hfr := HS7.out.z.fro
  go_upto_region 22 with (fail)
  have hs8 := HS7.out.w_ x
  obtain ⟨W8, hW8⟩ : ∃ W8, W8 = w7.setCell ⟨B, 7, none⟩ (.int .i64 x) := ⟨_, rfl⟩
  rw [← hW8] at hs8
  rw [← hW8]
  obtain ⟨V8, hV8⟩ : ∃ V8, V8 = V5.setIfInBounds 7 (.int .i64 x) := ⟨_, rfl⟩
  rw [← hV8] at hs8
  clear x7 hfr hW8 hV8
  have x7 := hs8.z.cell 7 hs8.v.c7
  have x4 := hs8.z.cell 4 hs8.v.c4
  obtain ⟨cy, hcy⟩ : ∃ cy, cy = m0.cy := ⟨_, rfl⟩
  have ecy : (zrest m4).cy = cy := by rw [hcy, HM4'.out]; rfl
  rw [show ({ zrest m4 with w := x } : Zm).w = x from rfl] at x7
  rw [show ({ zrest m4 with w := x } : Zm).cy = cy from ecy] at x4
  have HCY := Lib.hid hcy
  have HS8 := Lib.hid hs8
  clear hs8 hcy ecy
  go_upto_region 23 with (first
    | (go_at_call 56; (with_reducible refine (rnew_cl x cy _).mono ?_); rintro r w9 ⟨rfl, hb⟩; have HS9 := Lib.hid (HS8.out.step hb); clear hb; obtain ⟨vc, _, k8, k9, k10, k11, k12⟩ := HS9.out.clc; have hfr := HS9.out.z.fro)
    | fail)
  have hs10 := HS9.out.cl (cNew (plcc c 16 x 0) cy) x rfl
  unfold clWz at hs10
  obtain ⟨W10, hW10⟩ : ∃ W10, W10 = (((((w9.setCell ⟨B, 8, none⟩ (.int .i64 1)).setCell ⟨B, 9, none⟩ (.int .i64 x)).setCell ⟨B, 10, none⟩ (.int .u64 cy)).setCell ⟨B, 11, none⟩ (.int .u64 0)).setCell ⟨B, 12, none⟩ (.bool false)) := ⟨_, rfl⟩
  have hs10' : ZS Q w A n cap (packN c) c B T i W10 R L { zrest m4 with w := x, c := cNew (plcc c 16 x 0) cy } (clRow V8 1 x cy 0 false) := by rw [hW10]; exact hs10
  rw [← hW10]
  obtain ⟨V10, hV10⟩ : ∃ V10, V10 = clRow V8 1 x cy 0 false := ⟨_, rfl⟩
  rw [← hV10] at hs10'
  clear hs10 hW10 hV10 k8 k9 k10 k11 k12 hfr x4 x7
  have x0 := hs10'.z.cell 0 hs10'.v.c0
  have hfr := hs10'.z.fro
  have HS10 := Lib.hid hs10'
  clear hs10'
  go_upto_region 24 with (fail)
  obtain ⟨V11, hV11⟩ : ∃ V11, V11 = V10.setIfInBounds 0 (.int .i64 ((5 : Nat) : Int)) := ⟨_, rfl⟩
  have hs11 : ZS Q w A n cap (packN c) c B T i (W10.setCell ⟨B, 0, none⟩ (.int .i64 5)) R L { m4 with w := x, c := cNew (plcc c 16 x 0) m0.cy, pc := 5 } V11 := by rw [hV11, ← HCY.out]; exact HS10.out.pc 5
  obtain ⟨W11, hW11⟩ : ∃ W11, W11 = W10.setCell ⟨B, 0, none⟩ (.int .i64 5) := ⟨_, rfl⟩
  rw [← hW11] at hs11
  rw [← hW11]
  have HS11 := Lib.hid hs11
  clear hV11 hW11 hs11 x0 hfr
  have HK5 := Lib.hid (HS11.out.step (Below.refl _ _).drew)
  refine wp_region_any (by kernel_rfl) ?_
  change wpAny _ _ _ _ 4 _ _ (World.drew _)
  refine wpAny_take (i := 0) (v := .slice R n' capR) rfl (by kernel_rfl) (by kernel_rfl) (by kernel_rfl) (fun _ _ _ h => h) (Or.inl ⟨by rfl, fun w => by exact BigFrame.run_move (.tmp 2) rfl w⟩) ?_
  refine wpAny_take (i := 2) (v := .slice R n' capR) rfl (by kernel_rfl) (by kernel_rfl) (by kernel_rfl) (fun _ _ _ h => h) (Or.inl ⟨by rfl, fun w => by exact BigFrame.run_assign (.tmp 114) rfl w⟩) ?_
  refine wpAny_ready (rs := [1]) (by kernel_rfl) (by decide) (AllReady.cons rfl (fun K' hK => ?_) AllReady.nil)
  rw [if_pos (by rfl)]
  refine wp_load_mid 64 (.tmp 7) rfl B 0 rfl _ _ (rng_all HK5.out.z.z.bm) row64.choose_spec.1 row64.choose_spec.2 (by rw [show V11.toList.length = 45 from by simpa using HS11.out.v.size]; kernel_rfl) (hK _ _ ?_)
  refine wpAny_ready (rs := [3]) (by kernel_rfl) (by decide) (AllReady.cons rfl (fun K' hK => ?_) AllReady.nil)
  rw [if_pos (by rfl)]
  refine wp_store_mid 64 (.tmp 9) (.tmp 115) rfl T 0 V11 rfl rfl (there_sub 0 _ HK5.out.z.z.br (by rw [HS11.out.v.size]; decide)) (by rw [HS11.out.v.size]; kernel_rfl) HS11.out.v.one (hK _ _ ?_)
  refine wpAny_done (by kernel_rfl) ?_ _
  obtain ⟨hl, hr, hv, hb⟩ := HK5.out.out
  go_wp2
  exact bodyPost_ret (v := .tuple #[.slice R n' capR, .agg V11]) (res2 Tryz.results18 _ _ _ _ _ rfl rfl hl) rfl ⟨R, capR, V11, rfl, by rw [HE.out.1]; exact hr, by rw [HE.out.2]; exact hv, hb⟩
end Go.Proofs.YtpocihddecemfaaGreat
