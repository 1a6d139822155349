
import Derived.Test.YtpocihddecemfaaGreatJ25
import Derived.IntWalk
namespace Go.Proofs.YtpocihddecemfaaGreat
open Go.RowKit
set_option linter.unusedVariables false
set_option linter.unusedSimpArgs false
set_option linter.unnecessarySimpa false
set_option maxRecDepth 100000
open Lay (plcc plc shOf packN nodesN OkC Cfg Norm firstV Rep lenL things roomsI)
set_option maxHeartbeats 16000000 in
theorem rzs_5 {c : Cfg} (hc : OkC c) {t : Int} (Q : Nat → Prop) (A : Option Addr) (n cap : Nat) (R : Option Addr) (n' capR : Nat) (L : List Int) (i : Int) (m : Zm) (V : Array Value) (w : World) (hA : IsA w c A n) (hn : n' = L.length) (hn2 : n' ≤ 1000000) (hR : ReadsW Q w R L) (hQ : ∀ b, w.heap.size ≤ b → Q b) (h : ZV Q w c i m V) (hi : decide (i < 0) = false) (hj : decide (c.mr ≤ i) = false) (zw : ZW c t m) (ww : WW L) (ht : t ≤ 900000000) (hp : m.pc = 5) (hwon : m.c.won = false) :
    Calls Tryz.prog 18 #[aVal A n cap (packN c), Lay.cfgV c, .slice R n' capR, .agg V] w (SomeZ Q w n' c i (zstp (zgOf c) (gOf c) (aNew (eOf c i)) L m).1 (zstp (zgOf c) (gOf c) (aNew (eOf c i)) L m).2) := by
  have hz := ZC.new w A n cap (packN c) c V
  obtain ⟨W0, hW0⟩ : ∃ W0, W0 = ((((w.alloc (.cells #[.slice A n cap, .int .i64 (packN c)] 36)).alloc (.cells #[.int .i64 c.a, .int .i64 c.b, .int .i64 c.c, .int .i64 c.d, .int .i64 c.e, .int .i64 c.mr, .int .i64 c.mu, .int .i64 c.dq, .int .i64 c.ch, .int .i64 c.bf, .int .i64 c.rt, .int .i64 c.sw] 38)).alloc (.cells V 64)).alloc (.cells #[.int .i64 0, .int .i64 0, .int .i64 0, .int .i64 0, .int .u64 0, .int .i64 0, .int .i64 0, .int .i64 0, .int .i64 0, .int .i64 0, .int .u64 0, .int .u64 0, .bool false, .int .i64 0, .int .u64 0, .int .i64 0, .int .i64 0, .int .i64 0, .int .i64 0, .int .i64 0, .int .i64 0, .int .u64 0, .int .u64 0, .int .u64 0, .bool false, .int .i64 0, .int .i64 0, .int .i64 0, .slice none 0 0, .int .i64 0, .int .i64 0, .int .i64 0, .int .i64 0, .int .i64 0, .slice none 0 0, .int .u32 0, .int .u64 0, .int .u32 0, .int .i64 0, .bool false, .int .i64 0, .int .i64 0, .int .i64 0, .int .i64 0, .int .i64 0] 64)) := ⟨_, rfl⟩
  rw [← hW0] at hz
  obtain ⟨LZ, mZ, hZ⟩ : ∃ LZ mZ, zstp (zgOf c) (gOf c) (aNew (eOf c i)) L m = (LZ, mZ) := ⟨_, _, rfl⟩
  rw [hZ]
  have HLZ := Lib.hid hZ
  have HZ0 := Lib.hid hz; have HW0 := Lib.hid hW0; have HA := Lib.hid hA; have HN := Lib.hid hn; have HN2 := Lib.hid hn2; have HR := Lib.hid hR; have HV := Lib.hid h; have HWW := Lib.hid ww; have HQ := Lib.hid hQ; have HI := Lib.hid (And.intro hi hj); have HZW := Lib.hid zw; have HPC := Lib.hid hp
  clear hz hW0 hA hn hn2 hR h ww hQ hi hj zw hp hZ
  go_enter Tryz.func18, Tryz.ntmps18
  go_upto_region 1 with (fail)
  rw [← HW0.out]
  obtain ⟨B, hB⟩ : ∃ B, B = w.heap.size + 1 + 1 := ⟨_, rfl⟩
  obtain ⟨T, hT⟩ : ∃ T, T = w.heap.size + 1 + 1 + 1 := ⟨_, rfl⟩
  have hz0 := HZ0.out
  rw [← hT, ← hB] at hz0
  rw [← hT, ← hB]
  have HLT := Lib.hid (show w.heap.size ≤ B ∧ w.heap.size ≤ T by omega)
  have hs0 : ZS Q w A n cap (packN c) c B T i W0 R L m V := ⟨hz0, (HR.out.notZ HLT.out.1 HLT.out.2).below hz0.z.bel, (HV.out.notZ HLT.out.1 HLT.out.2).below hz0.z.bel⟩
  have hfr := hs0.z.fro
  obtain ⟨y0, y1, y2, y3, y4⟩ := hs0.evc
  clear HZ0 hB hT HW0 hz0
  go_upto_region 2 with (fail)
  have hs1 := hs0.ev 0 0 0
  unfold evWz at hs1
  obtain ⟨W1, hW1⟩ : ∃ W1, W1 = (((((W0.setCell ⟨B, 40, none⟩ (.int .i64 0)).setCell ⟨B, 41, none⟩ (.int .i64 0)).setCell ⟨B, 42, none⟩ (.int .i64 0)).setCell ⟨B, 43, none⟩ (.int .i64 0)).setCell ⟨B, 44, none⟩ (.int .i64 0)) := ⟨_, rfl⟩
  rw [← hW1] at hs1
  rw [← hW1]
  obtain ⟨m0, hm0⟩ : ∃ m0 : Zm, m0 = { m with ek := 0, ea := 0, eb := 0 } := ⟨_, rfl⟩
  rw [← hm0] at hs1
  have HM0 := Lib.hid hm0
  obtain ⟨V0, hV0⟩ : ∃ V0, V0 = evRow V 0 0 0 := ⟨_, rfl⟩
  rw [← hV0] at hs1
  have x0 := hs1.z.cell 0 hs1.v.c0
  rw [show m0.pc = 5 by rw [hm0]; exact HPC.out] at x0
  have HS1 := Lib.hid hs1
  have HZW0 : Hid (ZW c t m0) := Lib.hid (by rw [hm0]; exact HZW.out.ev 0 0 0)
  have HA1 := Lib.hid (HA.out.below hs1.z.z.bel)
  have HP0 : Hid (m0.pc = 5) := Lib.hid (by rw [hm0]; exact HPC.out)
  clear y0 y1 y2 y3 y4 hfr hs0 hs1 hW1 hV0 hm0 W0 HV
  have HF1 := Lib.hid (HS1.out.far HQ.out)
  obtain ⟨L2, d2, hcs⟩ : ∃ L2 d2, cstp 1 L m0.c = (L2, d2) := ⟨_, _, rfl⟩
  have hcm : cstp 1 L m.c = (L2, d2) := by rw [← hcs, HM0.out]
  obtain ⟨vc, hvc, k8, k9, k10, k11, k12⟩ := HS1.out.clc
  have hdp : d2.p = plcc c 16 vc 0 := by
    have := cstp_p 1 L m0.c
    rw [hcs] at this
    exact this.trans hvc
  have HCS : Hid (∀ (w1 : World), IsA w1 c A n → ReadsW (NotZ Q B T) w1 R L → (∀ b, w1.heap.size ≤ b → NotZ Q B T b) → Calls Tryz.prog 57 #[aVal A n cap (packN c), .slice R n' capR, rcV vc m0.c] w1 (SomeV (NotZ Q B T) w1 n' L2 (rcV vc d2))) := Lib.hid (fun w1 hA hR hF => by
    have := rstep_cl (NotZ Q B T) A n cap (packN c) R n' capR L vc m0.c w1 hA HN.out HN2.out hR hF hvc (HZW0.out.c5 HP0.out).2.1 (fun _ => by rw [HM0.out]; exact hwon)
    rw [hcs] at this
    exact this)
  have HCM := Lib.hid hcm; have HDP := Lib.hid hdp
  obtain ⟨a0, a1⟩ := HS1.out.z.acells
  obtain ⟨e0, he0⟩ : ∃ x : Int, x = (d2.pc : Int) := ⟨_, rfl⟩
  obtain ⟨e2, he2⟩ : ∃ x : Int, x = d2.cy := ⟨_, rfl⟩
  obtain ⟨e3, he3⟩ : ∃ x : Int, x = d2.k := ⟨_, rfl⟩
  obtain ⟨e4, he4⟩ : ∃ x : Bool, x = d2.won := ⟨_, rfl⟩
  have HEE := Lib.hid (And.intro he0 (And.intro he2 (And.intro he3 he4)))
  have HCV : Hid (rcV vc d2 = .agg #[.int .i64 e0, .int .i64 vc, .int .u64 e2, .int .u64 e3, .bool e4]) := Lib.hid (by rw [he0, he2, he3, he4])
  have hw0 := hwon
  clear hcs hcm hvc hdp he0 he2 he3 he4 hwon hw0
  go_upto_region 27 with (first
    | (go_at_call 57; (with_reducible refine (HCS.out _ HA1.out HS1.out.r HF1.out).mono ?_); rintro r w2 ⟨R2, cap2, rfl, hx, hb⟩; rw [HCV.out]; have HS2 := Lib.hid ((HS1.out.step hb).row hx); clear hb hx)
    | fail)
  obtain ⟨X, hX⟩ : ∃ X, X = w2.heap.size := ⟨_, rfl⟩
  have hxg : (w2.alloc (.cells #[.int .i64 e0, .int .i64 vc, .int .u64 e2, .int .u64 e3, .bool e4] 46)).heap[X]? = some (.cells #[.int .i64 e0, .int .i64 vc, .int .u64 e2, .int .u64 e3, .bool e4] 46 (0, 0)) := by rw [hX]; exact Go.heap_alloc_new _ _
  have hs3 := HS2.out.step (below_alloc0 (Below.refl _ _) (.cells #[.int .i64 e0, .int .i64 vc, .int .u64 e2, .int .u64 e3, .bool e4] 46))
  have hXB : X ≠ B ∧ X ≠ T := by
    have h1 := (Array.getElem?_eq_some_iff.1 HS2.out.z.z.bm).1
    have h2 := (Array.getElem?_eq_some_iff.1 HS2.out.z.z.br).1
    omega
  rw [← hX]
  obtain ⟨W3, hW3⟩ : ∃ W3, W3 = w2.alloc (.cells #[.int .i64 e0, .int .i64 vc, .int .u64 e2, .int .u64 e3, .bool e4] 46) := ⟨_, rfl⟩
  rw [← hW3] at hxg hs3
  rw [← hW3]
  clear k8 k9 k10 k11 k12 a0 a1 x0 hX hW3 HS2
  obtain ⟨vc', _, k8, k9, k10, k11, k12⟩ := hs3.clc
  have hfr := hs3.z.fro
  have b0 := row_get hxg 0; have b1 := row_get hxg 1; have b2 := row_get hxg 2; have b3 := row_get hxg 3; have b4 := row_get hxg 4
  have b0 : W3.cell? ⟨X, 0, none⟩ = some (.int .i64 e0) := b0
  have b1 : W3.cell? ⟨X, 1, none⟩ = some (.int .i64 vc) := b1
  have b2 : W3.cell? ⟨X, 2, none⟩ = some (.int .u64 e2) := b2
  have b3 : W3.cell? ⟨X, 3, none⟩ = some (.int .u64 e3) := b3
  have b4 : W3.cell? ⟨X, 4, none⟩ = some (.bool e4) := b4
  have HS3 := Lib.hid hs3; have HXG := Lib.hid hxg; have HXB := Lib.hid hXB
  clear hs3 hxg hXB
  go_upto_region 28 with (fail)
  have hs4 := HS3.out.cl d2 vc HDP.out
  rw [← HEE.out.1, ← HEE.out.2.1, ← HEE.out.2.2.1, ← HEE.out.2.2.2] at hs4
  have hxg4 : (clWz W3 B e0 vc e2 e3 e4).heap[X]? = some (.cells #[.int .i64 e0, .int .i64 vc, .int .u64 e2, .int .u64 e3, .bool e4] 46 (0, 0)) := ((clWz_upd W3 B e0 vc e2 e3 e4).block X (Array.getElem?_eq_some_iff.1 HXG.out).1 HXB.out.1 HXB.out.1).trans HXG.out
  unfold clWz at hs4 hxg4
  obtain ⟨W4, hW4⟩ : ∃ W4, W4 = (((((W3.setCell ⟨B, 8, none⟩ (.int .i64 e0)).setCell ⟨B, 9, none⟩ (.int .i64 vc)).setCell ⟨B, 10, none⟩ (.int .u64 e2)).setCell ⟨B, 11, none⟩ (.int .u64 e3)).setCell ⟨B, 12, none⟩ (.bool e4)) := ⟨_, rfl⟩
  rw [← hW4] at hs4 hxg4
  rw [← hW4]
  obtain ⟨V4, hV4⟩ : ∃ V4, V4 = clRow V0 e0 vc e2 e3 e4 := ⟨_, rfl⟩
  rw [← hV4] at hs4
  obtain ⟨m4, hm4⟩ : ∃ m4 : Zm, m4 = { m0 with c := d2 } := ⟨_, rfl⟩
  rw [← hm4] at hs4
  have HM4 := Lib.hid hm4
  have HS4 := Lib.hid hs4
  clear hW4 hV4 hm4 hs4 k8 k9 k10 k11 k12 hfr b0 b1 b2 b3 b4
  have b0 : W4.cell? ⟨X, 0, none⟩ = some (.int .i64 e0) := row_get hxg4 0
  have HXG4 := Lib.hid hxg4
  clear hxg4
  by_cases hco : d2.pc ≠ 0
  · have HCO := Lib.hid hco
    clear hco
    have HE : Hid (LZ = L2 ∧ mZ = m4) := Lib.hid (by
      have e : zstp (zgOf c) (gOf c) (aNew (eOf c i)) L m = (L2, m4) := by
        rw [HM4.out, HM0.out]; simp only [zstp]; rw [if_neg (by rw [HPC.out]; decide), if_neg (by rw [HPC.out]; decide), if_neg (by rw [HPC.out]; decide), if_neg (by rw [HPC.out]; decide), if_pos HPC.out]; rw [show (zgOf c).wk = 1 from rfl, HCM.out, if_pos HCO.out]
      have := HLZ.out.symm.trans e
      simpa using this)
    have d1 : decide (e0 > 0) = true := by have := HCO.out; have := HEE.out.1; simp; omega
    go_upto_region 29 with (fail)
    have HK5 := Lib.hid (HS4.out.step (Below.refl _ _).drew)
    refine wp_region_any (by kernel_rfl) ?_
    change wpAny _ _ _ _ 4 _ _ (World.drew _)
    refine wpAny_take (i := 0) (v := .slice R2 n' cap2) rfl (by kernel_rfl) (by kernel_rfl) (by kernel_rfl) (fun _ _ _ h => h) (Or.inl ⟨by rfl, fun w => by exact BigFrame.run_move (.tmp 15) rfl w⟩) ?_
    refine wpAny_take (i := 2) (v := .slice R2 n' cap2) rfl (by kernel_rfl) (by kernel_rfl) (by kernel_rfl) (fun _ _ _ h => h) (Or.inl ⟨by rfl, fun w => by exact BigFrame.run_assign (.tmp 131) rfl w⟩) ?_
    refine wpAny_ready (rs := [1]) (by kernel_rfl) (by decide) (AllReady.cons rfl (fun K' hK => ?_) AllReady.nil)
    rw [if_pos (by rfl)]
    refine wp_load_mid 64 (.tmp 7) rfl B 0 rfl _ _ (rng_all HK5.out.z.z.bm) row64.choose_spec.1 row64.choose_spec.2 (by rw [show V4.toList.length = 45 from by simpa using HS4.out.v.size]; kernel_rfl) (hK _ _ ?_)
    refine wpAny_ready (rs := [3]) (by kernel_rfl) (by decide) (AllReady.cons rfl (fun K' hK => ?_) AllReady.nil)
    rw [if_pos (by rfl)]
    refine wp_store_mid 64 (.tmp 9) (.tmp 132) rfl T 0 V4 rfl rfl (there_sub 0 _ HK5.out.z.z.br (by rw [HS4.out.v.size]; decide)) (by rw [HS4.out.v.size]; kernel_rfl) HS4.out.v.one (hK _ _ ?_)
    refine wpAny_done (by kernel_rfl) ?_ _
    obtain ⟨hl, hr, hv, hb⟩ := HK5.out.out
    go_wp2
    exact bodyPost_ret (v := .tuple #[.slice R2 n' cap2, .agg V4]) (res2 Tryz.results18 _ _ _ _ _ rfl rfl hl) rfl ⟨R2, cap2, V4, rfl, by rw [HE.out.1]; exact hr, by rw [HE.out.2]; exact hv, hb⟩
  have hco0 : d2.pc = 0 := by omega
  clear hco
  cases hcw : d2.won
  · have HCO := Lib.hid (And.intro hco0 hcw)
    clear hco0 hcw
    have HE : Hid (LZ = L2 ∧ mZ = zrest m4) := Lib.hid (by
      have e : zstp (zgOf c) (gOf c) (aNew (eOf c i)) L m = (L2, zrest m4) := by
        rw [HM4.out, HM0.out]; simp only [zstp]; rw [if_neg (by rw [HPC.out]; decide), if_neg (by rw [HPC.out]; decide), if_neg (by rw [HPC.out]; decide), if_neg (by rw [HPC.out]; decide), if_pos HPC.out]; rw [show (zgOf c).wk = 1 from rfl, HCM.out, if_neg (fun e => e HCO.out.1), if_neg (by rw [HCO.out.2]; decide)]
      have := HLZ.out.symm.trans e
      simpa using this)
    have he4 : e4 = false := by rw [HEE.out.2.2.2]; exact HCO.out.2
    subst he4
    have d1 : decide (e0 > 0) = false := by have := HCO.out; have := HEE.out.1; simp; omega
    obtain ⟨V5, hV5⟩ : ∃ V5, V5 = V4.setIfInBounds 0 (.int .i64 (zrest m4).pc) := ⟨_, rfl⟩
    have HV5 := Lib.hid hV5
    have HZ5 : Hid (V5.size = 45 ∧ V5.all (·.oneCell') = true) := Lib.hid (by rw [hV5]; exact ⟨(HS4.out.v.pc (zrest m4).pc).size, (HS4.out.v.pc (zrest m4).pc).one⟩)
    clear hV5
    go_upto_region 31 with (first
      | (refine wpList_loadZ rfl (.tmp 7) rfl B V4 rfl HS4.out.z.z.bm HS4.out.v.size ?_)
      | (go_at_call 52; (with_reducible refine (rest_any HS4.out.v).mono ?_); rintro r w5 ⟨rfl, hb⟩; rw [← HV5.out]; have HS5 := Lib.hid (HS4.out.step hb); have HXG5 := Lib.hid ((hb.block X (Array.getElem?_eq_some_iff.1 HXG4.out).1).trans HXG4.out); clear hb)
      | (refine wpList_storeZ rfl (.tmp 7) (.tmp 134) rfl B V4 V5 rfl rfl HS5.out.z.z.bm HS5.out.v.size HZ5.out.1 HZ5.out.2 ?_)
      | fail)
    have hs6 := HS5.out.rest
    rw [← HV5.out] at hs6
    have hxg6 := ((row_all (U := V5) HS5.out.z.z.bm (HS5.out.v.size.trans HZ5.out.1.symm)).2.block X (Array.getElem?_eq_some_iff.1 HXG5.out).1 HXB.out.1 HXB.out.1).trans HXG5.out
    obtain ⟨W6, hW6⟩ : ∃ W6, W6 = w5.setCells B 0 V5.toList := ⟨_, rfl⟩
    rw [← hW6] at hs6 hxg6
    rw [← hW6]
    clear b0
    have b4 : W6.cell? ⟨X, 4, none⟩ = some (.bool false) := row_get hxg6 4
    have HS6 := Lib.hid hs6
    clear hs6 hW6 hxg6 HS1 HS3 HS4 HS5
    go_upto_region 34 with (fail)
    have HK5 := Lib.hid (HS6.out.step (Below.refl _ _).drew)
    refine wp_region_any (by kernel_rfl) ?_
    change wpAny _ _ _ _ 4 _ _ (World.drew _)
    refine wpAny_take (i := 0) (v := .slice R2 n' cap2) rfl (by kernel_rfl) (by kernel_rfl) (by kernel_rfl) (fun _ _ _ h => h) (Or.inl ⟨by rfl, fun w => by exact BigFrame.run_move (.tmp 15) rfl w⟩) ?_
    refine wpAny_take (i := 2) (v := .slice R2 n' cap2) rfl (by kernel_rfl) (by kernel_rfl) (by kernel_rfl) (fun _ _ _ h => h) (Or.inl ⟨by rfl, fun w => by exact BigFrame.run_assign (.tmp 147) rfl w⟩) ?_
    refine wpAny_ready (rs := [1]) (by kernel_rfl) (by decide) (AllReady.cons rfl (fun K' hK => ?_) AllReady.nil)
    rw [if_pos (by rfl)]
    refine wp_load_mid 64 (.tmp 7) rfl B 0 rfl _ _ (rng_all HK5.out.z.z.bm) row64.choose_spec.1 row64.choose_spec.2 (by rw [show V5.toList.length = 45 from by simpa using HS6.out.v.size]; kernel_rfl) (hK _ _ ?_)
    refine wpAny_ready (rs := [3]) (by kernel_rfl) (by decide) (AllReady.cons rfl (fun K' hK => ?_) AllReady.nil)
    rw [if_pos (by rfl)]
    refine wp_store_mid 64 (.tmp 9) (.tmp 148) rfl T 0 V5 rfl rfl (there_sub 0 _ HK5.out.z.z.br (by rw [HS6.out.v.size]; decide)) (by rw [HS6.out.v.size]; kernel_rfl) HS6.out.v.one (hK _ _ ?_)
    refine wpAny_done (by kernel_rfl) ?_ _
    obtain ⟨hl, hr, hv, hb⟩ := HK5.out.out
    go_wp2
    exact bodyPost_ret (v := .tuple #[.slice R2 n' cap2, .agg V5]) (res2 Tryz.results18 _ _ _ _ _ rfl rfl hl) rfl ⟨R2, cap2, V5, rfl, by rw [HE.out.1]; exact hr, by rw [HE.out.2]; exact hv, hb⟩
  · have HCO := Lib.hid (And.intro hco0 hcw)
    clear hco0 hcw
    have HE : Hid (LZ = L2 ∧ mZ = zgive (fun tk => aNew (eOf c i) tk) { zrest m4 with ek := 1, ea := m0.w, eb := 0 } m0.w 0) := Lib.hid (by
      have e : zstp (zgOf c) (gOf c) (aNew (eOf c i)) L m = (L2, zgive (fun tk => aNew (eOf c i) tk) { zrest m4 with ek := 1, ea := m0.w, eb := 0 } m0.w 0) := by
        rw [HM4.out, HM0.out]; simp only [zstp]; rw [if_neg (by rw [HPC.out]; decide), if_neg (by rw [HPC.out]; decide), if_neg (by rw [HPC.out]; decide), if_neg (by rw [HPC.out]; decide), if_pos HPC.out]; rw [show (zgOf c).wk = 1 from rfl, HCM.out, if_neg (fun e => e HCO.out.1), if_pos HCO.out.2]; rfl
      have := HLZ.out.symm.trans e
      simpa using this)
    have he4 : e4 = true := by rw [HEE.out.2.2.2]; exact HCO.out.2
    subst he4
    have d1 : decide (e0 > 0) = false := by have := HCO.out; have := HEE.out.1; simp; omega
    obtain ⟨V5, hV5⟩ : ∃ V5, V5 = V4.setIfInBounds 0 (.int .i64 (zrest m4).pc) := ⟨_, rfl⟩
    have HV5 := Lib.hid hV5
    have HZ5 : Hid (V5.size = 45 ∧ V5.all (·.oneCell') = true) := Lib.hid (by rw [hV5]; exact ⟨(HS4.out.v.pc (zrest m4).pc).size, (HS4.out.v.pc (zrest m4).pc).one⟩)
    clear hV5
    go_upto_region 31 with (first
      | (refine wpList_loadZ rfl (.tmp 7) rfl B V4 rfl HS4.out.z.z.bm HS4.out.v.size ?_)
      | (go_at_call 52; (with_reducible refine (rest_any HS4.out.v).mono ?_); rintro r w5 ⟨rfl, hb⟩; rw [← HV5.out]; have HS5 := Lib.hid (HS4.out.step hb); have HXG5 := Lib.hid ((hb.block X (Array.getElem?_eq_some_iff.1 HXG4.out).1).trans HXG4.out); clear hb)
      | (refine wpList_storeZ rfl (.tmp 7) (.tmp 134) rfl B V4 V5 rfl rfl HS5.out.z.z.bm HS5.out.v.size HZ5.out.1 HZ5.out.2 ?_)
      | fail)
    have hs6 := HS5.out.rest
    rw [← HV5.out] at hs6
    have hxg6 := ((row_all (U := V5) HS5.out.z.z.bm (HS5.out.v.size.trans HZ5.out.1.symm)).2.block X (Array.getElem?_eq_some_iff.1 HXG5.out).1 HXB.out.1 HXB.out.1).trans HXG5.out
    obtain ⟨W6, hW6⟩ : ∃ W6, W6 = w5.setCells B 0 V5.toList := ⟨_, rfl⟩
    rw [← hW6] at hs6 hxg6
    rw [← hW6]
    clear b0
    have b4 : W6.cell? ⟨X, 4, none⟩ = some (.bool true) := row_get hxg6 4
    have HS6 := Lib.hid hs6
    clear hs6 hW6 hxg6 HS1 HS3 HS4 HS5
    obtain ⟨mw, hmw⟩ : ∃ x, x = m0.w := ⟨_, rfl⟩
    have hmw6 : (zrest m4).w = mw := by rw [hmw, HM4.out]; rfl
    have HMW := Lib.hid hmw
    have HWB : Hid (0 ≤ mw ∧ mw ≤ 4294967295) := Lib.hid (by rw [hmw]; have := HZW0.out.w; omega)
    have x7 := HS6.out.z.cell 7 HS6.out.v.c7
    rw [hmw6] at x7
    have hfr := HS6.out.z.fro
    obtain ⟨y0, y1, y2, y3, y4⟩ := HS6.out.evc
    have HW6 := Lib.hid hmw6
    clear hmw hmw6
    go_upto_region 33 with (fail)
    have hs7 := HS6.out.ev 1 mw 0
    unfold evWz at hs7
    obtain ⟨W7, hW7⟩ : ∃ W7, W7 = (((((W6.setCell ⟨B, 40, none⟩ (.int .i64 1)).setCell ⟨B, 41, none⟩ (.int .i64 0)).setCell ⟨B, 42, none⟩ (.int .i64 mw)).setCell ⟨B, 43, none⟩ (.int .i64 0)).setCell ⟨B, 44, none⟩ (.int .i64 0)) := ⟨_, rfl⟩
    rw [← hW7] at hs7
    rw [← hW7]
    obtain ⟨V7, hV7⟩ : ∃ V7, V7 = evRow V5 1 mw 0 := ⟨_, rfl⟩
    rw [← hV7] at hs7
    clear hW7 hV7
    clear x7 hfr y0 y1 y2 y3 y4 b4
    obtain ⟨m7, hm7⟩ : ∃ m7 : Zm, m7 = { zrest m4 with ek := 1, ea := mw, eb := 0 } := ⟨_, rfl⟩
    rw [← hm7] at hs7
    have x7 := hs7.z.cell 7 hs7.v.c7
    rw [show m7.w = mw by rw [hm7]; exact HW6.out] at x7
    obtain ⟨a0, a1⟩ := hs7.z.acells
    obtain ⟨q0, q1, q2, q3, q4, q5, q6, q7, q8, q9, q10, q11⟩ := hs7.z.ccells
    have HS7 := Lib.hid hs7
    have HA7 := Lib.hid (HA.out.below hs7.z.z.bel)
    have HE2 : Hid (LZ = L2 ∧ mZ = zgive (fun tk => aNew (eOf c i) tk) m7 mw 0) := Lib.hid (by
      have := HE.out
      exact ⟨this.1, by rw [this.2, hm7, HMW.out]⟩)
    clear hs7 hm7
    go_upto_region 34 with (first
      | (refine wpList_loadZ rfl (.tmp 7) rfl B V7 rfl HS7.out.z.z.bm HS7.out.v.size ?_)
      | (go_at_call 50; (with_reducible refine (give_any (NotZ Q B T) A n cap (packN c) i m7 V7 mw 0 _ HA7.out HS7.out.v HI.out.1 HI.out.2 HWB.out.1 HWB.out.2 (by decide) (by decide)).mono ?_); rintro r w8 ⟨V8, rfl, hv8, hb⟩; have HS8 := Lib.hid (HS7.out.step hb); have HV8 := Lib.hid hv8; clear hb hv8)
      | (refine wpList_storeZ rfl (.tmp 7) (.tmp 146) rfl B V7 V8 rfl rfl HS8.out.z.z.bm HS8.out.v.size HV8.out.size HV8.out.one ?_)
      | fail)
    have hs9 := HS8.out.all HV8.out
    obtain ⟨W9, hW9⟩ : ∃ W9, W9 = w8.setCells B 0 V8.toList := ⟨_, rfl⟩
    rw [← hW9] at hs9
    rw [← hW9]
    have HS9 := Lib.hid hs9
    clear hs9 hW9 a0 a1 q0 q1 q2 q3 q4 q5 q6 q7 q8 q9 q10 q11 x7
    have HK5 := Lib.hid (HS9.out.step (Below.refl _ _).drew)
    refine wp_region_any (by kernel_rfl) ?_
    change wpAny _ _ _ _ 4 _ _ (World.drew _)
    refine wpAny_take (i := 0) (v := .slice R2 n' cap2) rfl (by kernel_rfl) (by kernel_rfl) (by kernel_rfl) (fun _ _ _ h => h) (Or.inl ⟨by rfl, fun w => by exact BigFrame.run_move (.tmp 15) rfl w⟩) ?_
    refine wpAny_take (i := 2) (v := .slice R2 n' cap2) rfl (by kernel_rfl) (by kernel_rfl) (by kernel_rfl) (fun _ _ _ h => h) (Or.inl ⟨by rfl, fun w => by exact BigFrame.run_assign (.tmp 147) rfl w⟩) ?_
    refine wpAny_ready (rs := [1]) (by kernel_rfl) (by decide) (AllReady.cons rfl (fun K' hK => ?_) AllReady.nil)
    rw [if_pos (by rfl)]
    refine wp_load_mid 64 (.tmp 7) rfl B 0 rfl _ _ (rng_all HK5.out.z.z.bm) row64.choose_spec.1 row64.choose_spec.2 (by rw [show V8.toList.length = 45 from by simpa using HS9.out.v.size]; kernel_rfl) (hK _ _ ?_)
    refine wpAny_ready (rs := [3]) (by kernel_rfl) (by decide) (AllReady.cons rfl (fun K' hK => ?_) AllReady.nil)
    rw [if_pos (by rfl)]
    refine wp_store_mid 64 (.tmp 9) (.tmp 148) rfl T 0 V8 rfl rfl (there_sub 0 _ HK5.out.z.z.br (by rw [HS9.out.v.size]; decide)) (by rw [HS9.out.v.size]; kernel_rfl) HS9.out.v.one (hK _ _ ?_)
    refine wpAny_done (by kernel_rfl) ?_ _
    obtain ⟨hl, hr, hv, hb⟩ := HK5.out.out
    go_wp2
    exact bodyPost_ret (v := .tuple #[.slice R2 n' cap2, .agg V8]) (res2 Tryz.results18 _ _ _ _ _ rfl rfl hl) rfl ⟨R2, cap2, V8, rfl, by rw [HE2.out.1]; exact hr, by rw [HE2.out.2]; exact hv, hb⟩
end Go.Proofs.YtpocihddecemfaaGreat
