
import Derived.Test.YtpocihddecemfaaGreatJ25
import Derived.IntWalk
namespace Go.Proofs.YtpocihddecemfaaGreat
open Go.RowKit
set_option linter.unusedVariables false
set_option linter.unusedSimpArgs false
set_option linter.unnecessarySimpa false
set_option maxRecDepth 100000
open Lay (plcc plc shOf packN nodesN OkC Cfg Norm firstV Rep lenL things roomsI)
set_option maxHeartbeats 16000000 in
theorem rzs_3 {c : Cfg} (hc : OkC c) {t : Int} (Q : Nat → Prop) (A : Option Addr) (n cap : Nat) (R : Option Addr) (n' capR : Nat) (L : List Int) (i : Int) (m : Zm) (V : Array Value) (w : World) (hA : IsA w c A n) (hn : n' = L.length) (hn2 : n' ≤ 1000000) (hR : ReadsW Q w R L) (hQ : ∀ b, w.heap.size ≤ b → Q b) (h : ZV Q w c i m V) (hi : decide (i < 0) = false) (hj : decide (c.mr ≤ i) = false) (zw : ZW c t m) (ww : WW L) (ht : t ≤ 900000000) (hp : m.pc = 3) :
    Calls Tryz.prog 18 #[aVal A n cap (packN c), Lay.cfgV c, .slice R n' capR, .agg V] w (SomeZ Q w n' c i (zstp (zgOf c) (gOf c) (aNew (eOf c i)) L m).1 (zstp (zgOf c) (gOf c) (aNew (eOf c i)) L m).2) := by
  have hz := ZC.new w A n cap (packN c) c V
  obtain ⟨W0, hW0⟩ : ∃ W0, W0 = ((((w.alloc (.cells #[.slice A n cap, .int .i64 (packN c)] 36)).alloc (.cells #[.int .i64 c.a, .int .i64 c.b, .int .i64 c.c, .int .i64 c.d, .int .i64 c.e, .int .i64 c.mr, .int .i64 c.mu, .int .i64 c.dq, .int .i64 c.ch, .int .i64 c.bf, .int .i64 c.rt, .int .i64 c.sw] 38)).alloc (.cells V 64)).alloc (.cells #[.int .i64 0, .int .i64 0, .int .i64 0, .int .i64 0, .int .u64 0, .int .i64 0, .int .i64 0, .int .i64 0, .int .i64 0, .int .i64 0, .int .u64 0, .int .u64 0, .bool false, .int .i64 0, .int .u64 0, .int .i64 0, .int .i64 0, .int .i64 0, .int .i64 0, .int .i64 0, .int .i64 0, .int .u64 0, .int .u64 0, .int .u64 0, .bool false, .int .i64 0, .int .i64 0, .int .i64 0, .slice none 0 0, .int .i64 0, .int .i64 0, .int .i64 0, .int .i64 0, .int .i64 0, .slice none 0 0, .int .u32 0, .int .u64 0, .int .u32 0, .int .i64 0, .bool false, .int .i64 0, .int .i64 0, .int .i64 0, .int .i64 0, .int .i64 0] 64)) := ⟨_, rfl⟩
  rw [← hW0] at hz
  obtain ⟨LZ, mZ, hZ⟩ : ∃ LZ mZ, zstp (zgOf c) (gOf c) (aNew (eOf c i)) L m = (LZ, mZ) := ⟨_, _, rfl⟩
  rw [hZ]
  have HLZ := Lib.hid hZ
  have HZ0 := Lib.hid hz; have HW0 := Lib.hid hW0; have HA := Lib.hid hA; have HN := Lib.hid hn; have HN2 := Lib.hid hn2; have HR := Lib.hid hR; have HV := Lib.hid h; have HWW := Lib.hid ww; have HQ := Lib.hid hQ; have HI := Lib.hid (And.intro hi hj); have HZW := Lib.hid zw; have HPC := Lib.hid hp
  clear hz hW0 hA hn hn2 hR h ww hQ hi hj zw hp hZ
  go_enter Tryz.func18, Tryz.ntmps18
  go_upto_region 1 with (fail)
  rw [← HW0.out]
  obtain ⟨B, hB⟩ : ∃ B, B = w.heap.size + 1 + 1 := ⟨_, rfl⟩
  obtain ⟨T, hT⟩ : ∃ T, T = w.heap.size + 1 + 1 + 1 := ⟨_, rfl⟩
  have hz0 := HZ0.out
  rw [← hT, ← hB] at hz0
  rw [← hT, ← hB]
  have HLT := Lib.hid (show w.heap.size ≤ B ∧ w.heap.size ≤ T by omega)
  have hs0 : ZS Q w A n cap (packN c) c B T i W0 R L m V := ⟨hz0, (HR.out.notZ HLT.out.1 HLT.out.2).below hz0.z.bel, (HV.out.notZ HLT.out.1 HLT.out.2).below hz0.z.bel⟩
  have hfr := hs0.z.fro
  obtain ⟨y0, y1, y2, y3, y4⟩ := hs0.evc
  clear HZ0 hB hT HW0 hz0
  go_upto_region 2 with (fail)
  have hs1 := hs0.ev 0 0 0
  unfold evWz at hs1
  obtain ⟨W1, hW1⟩ : ∃ W1, W1 = (((((W0.setCell ⟨B, 40, none⟩ (.int .i64 0)).setCell ⟨B, 41, none⟩ (.int .i64 0)).setCell ⟨B, 42, none⟩ (.int .i64 0)).setCell ⟨B, 43, none⟩ (.int .i64 0)).setCell ⟨B, 44, none⟩ (.int .i64 0)) := ⟨_, rfl⟩
  rw [← hW1] at hs1
  rw [← hW1]
  obtain ⟨m0, hm0⟩ : ∃ m0 : Zm, m0 = { m with ek := 0, ea := 0, eb := 0 } := ⟨_, rfl⟩
  rw [← hm0] at hs1
  have HM0 := Lib.hid hm0
  obtain ⟨V0, hV0⟩ : ∃ V0, V0 = evRow V 0 0 0 := ⟨_, rfl⟩
  rw [← hV0] at hs1
  have x0 := hs1.z.cell 0 hs1.v.c0
  rw [show m0.pc = 3 by rw [hm0]; exact HPC.out] at x0
  have HS1 := Lib.hid hs1
  have HZW0 : Hid (ZW c t m0) := Lib.hid (by rw [hm0]; exact HZW.out.ev 0 0 0)
  have HA1 := Lib.hid (HA.out.below hs1.z.z.bel)
  have HP0 : Hid (m0.pc = 3) := Lib.hid (by rw [hm0]; exact HPC.out)
  clear y0 y1 y2 y3 y4 hfr hs0 hs1 hW1 hV0 hm0 W0 HV
  have HF1 := Lib.hid (HS1.out.far HQ.out)
  obtain ⟨L2, d2, hcs⟩ : ∃ L2 d2, astp (gOf c) L m0.d = (L2, d2) := ⟨_, _, rfl⟩
  have hcm : astp (gOf c) L m.d = (L2, d2) := by rw [← hcs, HM0.out]
  obtain ⟨D, hD, hDv, hDj⟩ := HS1.out.v.d
  have HD := Lib.hid (And.intro hDj hDv.size); have HDA := Lib.hid hD
  have HCS : Hid (∀ (w1 : World), IsA w1 c A n → ReadsW (NotZ Q B T) w1 R L → (∀ b, w1.heap.size ≤ b → NotZ Q B T b) → RAm (NotZ Q B T) w1 m0.d (.agg D) → Calls Tryz.prog 51 #[aVal A n cap (packN c), .slice R n' capR, .agg D] w1 (SomeA (NotZ Q B T) w1 n' L2 (fun w' v => RAm (NotZ Q B T) w' d2 v))) := Lib.hid (fun w1 hA hR hF hv => by
    have := rastep_any hc (NotZ Q B T) A n cap R n' capR L m0.d (.agg D) w1 hA HN.out HN2.out hR hF hv (HZW0.out.d HP0.out).2 HWW.out ht
    rw [hcs] at this
    exact this)
  have HCM := Lib.hid hcm
  obtain ⟨a0, a1⟩ := HS1.out.z.acells
  clear hcs hcm hD hDv hDj
  go_upto_region 11 with (first
    | (refine wpList_loadD rfl (.tmp 58) rfl B V0 D rfl HS1.out.z.z.bm HD.out.1 HD.out.2 ?_)
    | (go_at_call 51; (with_reducible refine (HCS.out _ HA1.out HS1.out.r HF1.out HDA.out).mono ?_); rintro r w2 ⟨R2, cap2, v2, rfl, hx, hra, hb⟩; obtain ⟨D2, rfl, hv2⟩ := hra.cells; have HS2 := Lib.hid ((HS1.out.step hb).row hx); have HRA := Lib.hid hra; have HV2 := Lib.hid hv2; have HOK := Lib.hid hv2.ok; clear hb hx hra hv2)
    | (refine wpList_newD rfl (.tmp 13) (.tmp 62) rfl D2 HOK.out rfl rfl rfl ?_)
    | fail)
  obtain ⟨X, hX⟩ : ∃ X, X = w2.heap.size := ⟨_, rfl⟩
  have hxg : (new27w w2 D2).heap[X]? = some (.cells D2 60 (0, 0)) := by rw [hX]; exact new27_row HOK.out
  have hs3 := HS2.out.step (new27_below HOK.out)
  have hra3 := HRA.out.newZ (V := D2) HOK.out
  have hXB : X ≠ B ∧ X ≠ T := by
    have h1 := (Array.getElem?_eq_some_iff.1 HS2.out.z.z.bm).1
    have h2 := (Array.getElem?_eq_some_iff.1 HS2.out.z.z.br).1
    omega
  rw [← hX]
  obtain ⟨W3, hW3⟩ : ∃ W3, W3 = new27w w2 D2 := ⟨_, rfl⟩
  rw [← hW3] at hxg hs3 hra3
  rw [← hW3]
  have HS3 := Lib.hid hs3; have HXG := Lib.hid hxg; have HXB := Lib.hid hXB; have HRA3 := Lib.hid hra3
  clear a0 a1 x0 hX hW3 HS2 HRA hs3 hxg hXB hra3
  go_upto_region 12 with (first
    | (refine wpList_load27 (m := d2) rfl (.tmp 13) rfl X D2 rfl HXG.out HV2.out ?_)
    | (refine wpList_storeD rfl (.tmp 64) (.tmp 63) rfl B V0 D2 rfl rfl HS3.out.z.z.bm HS3.out.v.size HOK.out ?_)
    | fail)
  have hs4 := HS3.out.dd HRA3.out HV2.out
  have hxg4 := ((row_stretch (U := D2) 13 HS3.out.z.z.bm (by have a := HS3.out.v.size; have b := HOK.out.1; omega)).2.block X (Array.getElem?_eq_some_iff.1 HXG.out).1 HXB.out.1 HXB.out.1).trans HXG.out
  obtain ⟨W4, hW4⟩ : ∃ W4, W4 = setDw W3 B D2 := ⟨_, rfl⟩
  have hxg4' : (setDw W3 B D2).heap[X]? = some (.cells D2 60 (0, 0)) := hxg4
  rw [← hW4] at hs4 hxg4'
  rw [← hW4]
  obtain ⟨V4, hV4⟩ : ∃ V4, V4 = splice V0 13 D2 := ⟨_, rfl⟩
  rw [← hV4] at hs4
  obtain ⟨m4, hm4⟩ : ∃ m4 : Zm, m4 = { m0 with d := d2 } := ⟨_, rfl⟩
  rw [← hm4] at hs4
  obtain ⟨e0, he0⟩ : ∃ x : Int, x = (d2.pc : Int) := ⟨_, rfl⟩
  have b0 : W4.cell? ⟨X, 0, none⟩ = some (.int .i64 e0) := (row_get hxg4' 0).trans (by rw [he0]; exact HV2.out.c0)
  have HE0 := Lib.hid he0
  have HM4 := Lib.hid hm4
  have HS4 := Lib.hid hs4
  clear hW4 hV4 hm4 hs4 hxg4 hxg4' he0
  by_cases hco : d2.pc = 0
  · have HCO := Lib.hid hco
    clear hco
    have HE : Hid (LZ = L2 ∧ mZ = zrest m4) := Lib.hid (by
      have e : zstp (zgOf c) (gOf c) (aNew (eOf c i)) L m = (L2, zrest m4) := by
        rw [HM4.out, HM0.out]; simp only [zstp]; rw [if_neg (by rw [HPC.out]; decide), if_neg (by rw [HPC.out]; decide), if_pos HPC.out]; rw [HCM.out, if_pos HCO.out]
      have := HLZ.out.symm.trans e
      simpa using this)
    have he0 : e0 = 0 := by have := HCO.out; have := HE0.out; omega
    subst he0
    obtain ⟨V5, hV5⟩ : ∃ V5, V5 = V4.setIfInBounds 0 (.int .i64 (zrest m4).pc) := ⟨_, rfl⟩
    have HV5 := Lib.hid hV5
    have HZ5 : Hid (V5.size = 45 ∧ V5.all (·.oneCell') = true) := Lib.hid (by rw [hV5]; exact ⟨(HS4.out.v.pc (zrest m4).pc).size, (HS4.out.v.pc (zrest m4).pc).one⟩)
    clear hV5
    go_upto_region 14 with (first
      | (refine wpList_loadZ rfl (.tmp 7) rfl B V4 rfl HS4.out.z.z.bm HS4.out.v.size ?_)
      | (go_at_call 52; (with_reducible refine (rest_any HS4.out.v).mono ?_); rintro r w5 ⟨rfl, hb⟩; rw [← HV5.out]; have HS5 := Lib.hid (HS4.out.step hb); clear hb)
      | (refine wpList_storeZ rfl (.tmp 7) (.tmp 69) rfl B V4 V5 rfl rfl HS5.out.z.z.bm HS5.out.v.size HZ5.out.1 HZ5.out.2 ?_)
      | fail)
    have hs6 := HS5.out.rest
    rw [← HV5.out] at hs6
    obtain ⟨W6, hW6⟩ : ∃ W6, W6 = w5.setCells B 0 V5.toList := ⟨_, rfl⟩
    rw [← hW6] at hs6
    rw [← hW6]
    have HS6 := Lib.hid hs6
    clear hs6 hW6 b0
    have HK5 := Lib.hid (HS6.out.step (Below.refl _ _).drew)
    refine wp_region_any (by kernel_rfl) ?_
    change wpAny _ _ _ _ 4 _ _ (World.drew _)
    refine wpAny_take (i := 0) (v := .slice R2 n' cap2) rfl (by kernel_rfl) (by kernel_rfl) (by kernel_rfl) (fun _ _ _ h => h) (Or.inl ⟨by rfl, fun w => by exact BigFrame.run_move (.tmp 12) rfl w⟩) ?_
    refine wpAny_take (i := 2) (v := .slice R2 n' cap2) rfl (by kernel_rfl) (by kernel_rfl) (by kernel_rfl) (fun _ _ _ h => h) (Or.inl ⟨by rfl, fun w => by exact BigFrame.run_assign (.tmp 70) rfl w⟩) ?_
    refine wpAny_ready (rs := [1]) (by kernel_rfl) (by decide) (AllReady.cons rfl (fun K' hK => ?_) AllReady.nil)
    rw [if_pos (by rfl)]
    refine wp_load_mid 64 (.tmp 7) rfl B 0 rfl _ _ (rng_all HK5.out.z.z.bm) row64.choose_spec.1 row64.choose_spec.2 (by rw [show V5.toList.length = 45 from by simpa using HS6.out.v.size]; kernel_rfl) (hK _ _ ?_)
    refine wpAny_ready (rs := [3]) (by kernel_rfl) (by decide) (AllReady.cons rfl (fun K' hK => ?_) AllReady.nil)
    rw [if_pos (by rfl)]
    refine wp_store_mid 64 (.tmp 9) (.tmp 71) rfl T 0 V5 rfl rfl (there_sub 0 _ HK5.out.z.z.br (by rw [HS6.out.v.size]; decide)) (by rw [HS6.out.v.size]; kernel_rfl) HS6.out.v.one (hK _ _ ?_)
    refine wpAny_done (by kernel_rfl) ?_ _
    obtain ⟨hl, hr, hv, hb⟩ := HK5.out.out
    go_wp2
    exact bodyPost_ret (v := .tuple #[.slice R2 n' cap2, .agg V5]) (res2 Tryz.results18 _ _ _ _ _ rfl rfl hl) rfl ⟨R2, cap2, V5, rfl, by rw [HE.out.1]; exact hr, by rw [HE.out.2]; exact hv, hb⟩
  · have HCO := Lib.hid hco
    clear hco
    have HE : Hid (LZ = L2 ∧ mZ = m4) := Lib.hid (by
      have e : zstp (zgOf c) (gOf c) (aNew (eOf c i)) L m = (L2, m4) := by
        rw [HM4.out, HM0.out]; simp only [zstp]; rw [if_neg (by rw [HPC.out]; decide), if_neg (by rw [HPC.out]; decide), if_pos HPC.out]; rw [HCM.out, if_neg HCO.out]
      have := HLZ.out.symm.trans e
      simpa using this)
    have d1 : (e0 == 0) = false := by have := HCO.out; have := HE0.out; rw [beq_eq_false_iff_ne]; omega
    go_upto_region 14 with (fail)
    have HK5 := Lib.hid (HS4.out.step (Below.refl _ _).drew)
    refine wp_region_any (by kernel_rfl) ?_
    change wpAny _ _ _ _ 4 _ _ (World.drew _)
    refine wpAny_take (i := 0) (v := .slice R2 n' cap2) rfl (by kernel_rfl) (by kernel_rfl) (by kernel_rfl) (fun _ _ _ h => h) (Or.inl ⟨by rfl, fun w => by exact BigFrame.run_move (.tmp 12) rfl w⟩) ?_
    refine wpAny_take (i := 2) (v := .slice R2 n' cap2) rfl (by kernel_rfl) (by kernel_rfl) (by kernel_rfl) (fun _ _ _ h => h) (Or.inl ⟨by rfl, fun w => by exact BigFrame.run_assign (.tmp 70) rfl w⟩) ?_
    refine wpAny_ready (rs := [1]) (by kernel_rfl) (by decide) (AllReady.cons rfl (fun K' hK => ?_) AllReady.nil)
    rw [if_pos (by rfl)]
    refine wp_load_mid 64 (.tmp 7) rfl B 0 rfl _ _ (rng_all HK5.out.z.z.bm) row64.choose_spec.1 row64.choose_spec.2 (by rw [show V4.toList.length = 45 from by simpa using HS4.out.v.size]; kernel_rfl) (hK _ _ ?_)
    refine wpAny_ready (rs := [3]) (by kernel_rfl) (by decide) (AllReady.cons rfl (fun K' hK => ?_) AllReady.nil)
    rw [if_pos (by rfl)]
    refine wp_store_mid 64 (.tmp 9) (.tmp 71) rfl T 0 V4 rfl rfl (there_sub 0 _ HK5.out.z.z.br (by rw [HS4.out.v.size]; decide)) (by rw [HS4.out.v.size]; kernel_rfl) HS4.out.v.one (hK _ _ ?_)
    refine wpAny_done (by kernel_rfl) ?_ _
    obtain ⟨hl, hr, hv, hb⟩ := HK5.out.out
    go_wp2
    exact bodyPost_ret (v := .tuple #[.slice R2 n' cap2, .agg V4]) (res2 Tryz.results18 _ _ _ _ _ rfl rfl hl) rfl ⟨R2, cap2, V4, rfl, by rw [HE.out.1]; exact hr, by rw [HE.out.2]; exact hv, hb⟩
end Go.Proofs.YtpocihddecemfaaGreat
