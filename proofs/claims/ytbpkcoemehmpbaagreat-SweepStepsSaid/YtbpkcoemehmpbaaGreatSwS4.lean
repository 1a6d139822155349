/- A step of the document's own part that is swept (a node's mark); walked. -/
import Derived.Test.YtbpkcoemehmpbaaGreatJ19
import Derived.IntWalk
namespace Go.Proofs.YtbpkcoemehmpbaaGreat
open Go.RowKit
set_option linter.unusedVariables false
set_option linter.unusedSimpArgs false
set_option linter.unnecessarySimpa false
set_option maxRecDepth 100000
open Lay (plcc plc shOf packN nodesN OkC Cfg Norm firstV Rep lenL things partsC roomsI)

set_option maxHeartbeats 16000000 in
theorem rws_4 {c : Cfg} (hc : OkC c) (Q : Nat → Prop) (A : Option Addr) (n cap : Nat) (P : Int) (R : Option Addr) (n' capR : Nat) (L : List Int) (m : Wn) (V : Array Value) (w : World) (hA : IsA w c A n) (hn : n' = L.length) (hn2 : n' ≤ 1000000) (hR : ReadsW Q w R L) (hQ : ∀ b, w.heap.size ≤ b → Q b) (h : ZV Q w m V) (ww : WW L) (hp : m.pc = 4) (hvb : 0 ≤ m.v ∧ m.v ≤ 1000000) :
    Calls Tryz.prog 17 #[aVal A n cap P, Lay.cfgV c, .slice R n' capR, .agg V] w (SomeZ Q w n' L (if ldq L (plcc c 16 m.v 0) < m.cy then { wq m with pc := 5 } else wgo (wq m) (m.v + 1))) := by
  have hz := ZC.new w A n cap P c V
  obtain ⟨W0, hW0⟩ : ∃ W0, W0 = ((((w.alloc (.cells #[.slice A n cap, .int .i64 P] 36)).alloc (.cells #[.int .i64 c.a, .int .i64 c.b, .int .i64 c.c, .int .i64 c.d, .int .i64 c.e, .int .i64 c.mr, .int .i64 c.mu, .int .i64 c.dq, .int .i64 c.ch, .int .i64 c.bf, .int .i64 c.rt, .int .i64 c.sw] 38)).alloc (.cells V 55)).alloc (.cells #[.int .i64 0, .int .u64 0, .int .u64 0, .int .i64 0, .int .i64 0, .int .i64 0, .int .i64 0, .int .i64 0, .int .i64 0, .slice none 0 0, .int .u32 0, .int .u64 0, .int .u32 0, .int .i64 0, .int .i64 0, .int .i64 0, .int .i64 0, .int .i64 0, .int .i64 0] 55)) := ⟨_, rfl⟩
  rw [← hW0] at hz
  obtain ⟨B, hB⟩ : ∃ B, B = w.heap.size + 1 + 1 := ⟨_, rfl⟩
  obtain ⟨T, hT⟩ : ∃ T, T = w.heap.size + 1 + 1 + 1 := ⟨_, rfl⟩
  rw [← hT, ← hB] at hz
  have hs0 := ZS.begin hz hR h
  have hev := hs0.evc
  have hfr := hs0.z.fro
  obtain ⟨m0, hm0⟩ : ∃ m0, m0 = wq m := ⟨_, rfl⟩
  have hp0 : m0.pc = 4 := by rw [hm0]; exact hp
  obtain ⟨v, hv⟩ : ∃ v, v = m.v := ⟨_, rfl⟩
  have hv0 : m0.v = v := by rw [hm0, hv]; rfl
  rw [← hv] at hvb ⊢
  have ewv : IntKind.i64.wrap (v + 1) = v + 1 := IntWalk.i64_in _ (by omega)
  have HVV := Lib.hid hv0; have HVB := Lib.hid hvb
  clear hv hv0 hvb
  obtain ⟨cy, hcy⟩ : ∃ cy, cy = m.cy := ⟨_, rfl⟩
  have hcy0 : m0.cy = cy := by rw [hm0, hcy]; rfl
  have HCY := Lib.hid hcy0
  obtain ⟨p, hpp⟩ : ∃ p, p = plcc c 16 v 0 := ⟨_, rfl⟩
  rw [← hpp, ← hcy]
  obtain ⟨x, hx⟩ : ∃ x, x = ldv L p := ⟨_, rfl⟩
  have hx2 : ldq L p = x := by rw [hx, ldv_eq]
  rw [hx2]
  have HPP := Lib.hid hpp; have HX := Lib.hid hx
  have HNM : Hid (Norm ⟨16, v, 0⟩) := Lib.hid (nrm 16 v 0 (by omega) (by omega) (fun h => by omega) (fun _ _ _ => rfl))
  clear hpp hx hx2 hcy hcy0
  obtain ⟨m9, hm9⟩ : ∃ m9, m9 = (if x < cy then { wq m with pc := 5 } else wgo (wq m) (v + 1)) := ⟨_, rfl⟩
  rw [← hm9]
  rw [← hm0] at hm9
  have HM9 := Lib.hid hm9
  clear hm9
  have HS0 := Lib.hid hs0; have HW0 := Lib.hid hW0; have HA := Lib.hid hA; have HN := Lib.hid hn; have HN2 := Lib.hid hn2; have HOK := Lib.hid hc; have HWW := Lib.hid ww; have HQ := Lib.hid hQ; have HP0 := Lib.hid hp0; have HM0 := Lib.hid hm0
  have HXS := Lib.hid (And.intro hev hfr); have HBT := Lib.hid (And.intro hB hT)
  clear hz hs0 hW0 hA hn hn2 hc ww hQ hp0 hm0 hev hfr hB hT hR h hp
  go_enter Tryz.func17, Tryz.ntmps17
  go_upto_region 1 with (fail)
  rw [← HW0.out, ← HBT.out.2, ← HBT.out.1]
  obtain ⟨⟨y0, y1, y2, y3, y4⟩, hfr⟩ := HXS.out
  go_upto_region 2 with (fail)
  have hs1 := HS0.out.ev 0 0
  unfold evWz at hs1
  obtain ⟨W1, hW1⟩ : ∃ W1, W1 = (((((W0.setCell ⟨B, 14, none⟩ (.int .i64 0)).setCell ⟨B, 15, none⟩ (.int .i64 0)).setCell ⟨B, 16, none⟩ (.int .i64 0)).setCell ⟨B, 17, none⟩ (.int .i64 0)).setCell ⟨B, 18, none⟩ (.int .i64 0)) := ⟨_, rfl⟩
  rw [← hW1] at hs1
  rw [← hW1]
  obtain ⟨V0, hV0⟩ : ∃ V0, V0 = evRow V 0 0 := ⟨_, rfl⟩
  rw [← hV0] at hs1
  have hs1 : ZS Q w A n cap P c B T W1 R L m0 V0 := by rw [HM0.out]; exact hs1
  have x0 := hs1.z.cell 0 hs1.v.c0
  rw [HP0.out] at x0
  have HS1 := Lib.hid hs1
  have HA1 := Lib.hid (HA.out.below hs1.z.z.bel)
  have HF1 := Lib.hid (hs1.far HQ.out)
  clear y0 y1 y2 y3 y4 hfr hs1 hW1 hV0 HXS HS0 HW0
  have HCL : Hid (∀ W, ZS Q w A n cap P c B T W R L m0 V0 → (W.cell? ⟨w.heap.size, 0, none⟩ = some (.slice A n cap) ∧ W.cell? ⟨w.heap.size, 1, none⟩ = some (.int .i64 P)) ∧ W.cell? ⟨B, 4, none⟩ = some (.int .i64 v) ∧ W.cell? ⟨B, 1, none⟩ = some (.int .u64 cy)) := Lib.hid (fun W hz => ⟨hz.z.acells, by rw [← HVV.out]; exact hz.z.cell 4 hz.v.c4, by rw [← HCY.out]; exact hz.z.cell 1 hz.v.c1⟩)
  have HSD := Lib.hid (HS1.out.step (Below.refl _ _).drew)
  have HAD := Lib.hid (HA1.out.below (Below.refl _ _).drew)
  by_cases hx1 : x < cy
  · have d1 : decide (x < cy) = true := by simpa using hx1
    have HE := Lib.hid (HM9.out.trans (if_pos hx1))
    clear hx1
    go_upto_region 12 with (fail)
    clear x0
    obtain ⟨⟨a0, a1⟩, x4, x1⟩ := HCL.out _ HSD.out
    go_region_held3 (fun w' => (w'.cell? ⟨w.heap.size, 0, none⟩ = some (.slice A n cap) ∧ w'.cell? ⟨w.heap.size, 1, none⟩ = some (.int .i64 P)) ∧ w'.cell? ⟨B, 4, none⟩ = some (.int .i64 v) ∧ w'.cell? ⟨B, 1, none⟩ = some (.int .u64 cy))
      (first | (with_reducible exact HCL.out _ HS2.out) | (with_reducible exact HCL.out _ HSD.out) | fail)
      (first
        | (go_at_call 44; (with_reducible refine (rat_any c A n cap P 16 v 0 _ HAD.out HNM.out).mono ?_); rintro r w2 ⟨rfl, hb⟩; rw [← HPP.out]; have HS2 := Lib.hid (HSD.out.step hb); clear hb)
        | (go_at_call 43; (with_reducible refine (rload_any R n' capR L p _ HN.out HS2.out.r.reads).mono ?_); rintro r w3 ⟨rfl, hw⟩; cases hw; rw [← HX.out])
        | fail)
    have x0 := HS2.out.z.cell 0 HS2.out.v.c0
    have x4 := HS2.out.z.cell 4 HS2.out.v.c4
    rw [HVV.out] at x4
    have hfr := HS2.out.z.fro
    go_upto_region 14 with (fail)
    have hs3 := HS2.out.pc 5
    obtain ⟨W3, hW3⟩ : ∃ W3, W3 = w2.setCell ⟨B, 0, none⟩ (.int .i64 5) := ⟨_, rfl⟩
    obtain ⟨V1, hV1⟩ : ∃ V1, V1 = V0.setIfInBounds 0 (.int .i64 5) := ⟨_, rfl⟩
    have hs3 : ZS Q w A n cap P c B T W3 R L m9 V1 := by rw [HE.out, hW3, hV1]; exact hs3
    rw [← hW3]
    have HS3 := Lib.hid hs3
    clear hs3 hW3 hV1 x0 x4 hfr HS2 HS1 HSD HCL
    have HK5 := Lib.hid (HS3.out.step (Below.refl _ _).drew)
    refine wp_region_any (by kernel_rfl) ?_
    change wpAny _ _ _ _ 4 _ _ (World.drew _)
    refine wpAny_take (i := 0) (v := .slice R n' capR) rfl (by kernel_rfl) (by kernel_rfl) (by kernel_rfl) (fun _ _ _ h => h) (Or.inl ⟨by rfl, fun w => by exact BigFrame.run_move (.tmp 2) rfl w⟩) ?_
    refine wpAny_take (i := 2) (v := .slice R n' capR) rfl (by kernel_rfl) (by kernel_rfl) (by kernel_rfl) (fun _ _ _ h => h) (Or.inl ⟨by rfl, fun w => by exact BigFrame.run_assign (.tmp 58) rfl w⟩) ?_
    refine wpAny_ready (rs := [1]) (by kernel_rfl) (by decide) (AllReady.cons rfl (fun K' hK => ?_) AllReady.nil)
    rw [if_pos (by rfl)]
    refine wp_load_mid 55 (.tmp 7) rfl B 0 rfl _ _ (rng_all HK5.out.z.z.bm) row64.choose_spec.1 row64.choose_spec.2 (by rw [show V1.toList.length = 19 from by simpa using HS3.out.v.size]; kernel_rfl) (hK _ _ ?_)
    refine wpAny_ready (rs := [3]) (by kernel_rfl) (by decide) (AllReady.cons rfl (fun K' hK => ?_) AllReady.nil)
    rw [if_pos (by rfl)]
    refine wp_store_mid 55 (.tmp 9) (.tmp 59) rfl T 0 V1 rfl rfl (there_sub 0 _ HK5.out.z.z.br (by rw [HS3.out.v.size]; decide)) (by rw [HS3.out.v.size]; kernel_rfl) HS3.out.v.one (hK _ _ ?_)
    refine wpAny_done (by kernel_rfl) ?_ _
    obtain ⟨hl, hr, hv, hb⟩ := HK5.out.out
    go_wp2
    exact bodyPost_ret (v := .tuple #[.slice R n' capR, .agg V1]) (res2 Tryz.results17 _ _ _ _ _ rfl rfl hl) rfl ⟨R, capR, V1, rfl, hr, hv, hb⟩
  · have d1 : decide (x < cy) = false := by simpa using hx1
    have HE := Lib.hid (HM9.out.trans (if_neg hx1))
    clear hx1
    go_upto_region 12 with (fail)
    clear x0
    obtain ⟨⟨a0, a1⟩, x4, x1⟩ := HCL.out _ HSD.out
    go_region_held3 (fun w' => (w'.cell? ⟨w.heap.size, 0, none⟩ = some (.slice A n cap) ∧ w'.cell? ⟨w.heap.size, 1, none⟩ = some (.int .i64 P)) ∧ w'.cell? ⟨B, 4, none⟩ = some (.int .i64 v) ∧ w'.cell? ⟨B, 1, none⟩ = some (.int .u64 cy))
      (first | (with_reducible exact HCL.out _ HS2.out) | (with_reducible exact HCL.out _ HSD.out) | fail)
      (first
        | (go_at_call 44; (with_reducible refine (rat_any c A n cap P 16 v 0 _ HAD.out HNM.out).mono ?_); rintro r w2 ⟨rfl, hb⟩; rw [← HPP.out]; have HS2 := Lib.hid (HSD.out.step hb); clear hb)
        | (go_at_call 43; (with_reducible refine (rload_any R n' capR L p _ HN.out HS2.out.r.reads).mono ?_); rintro r w3 ⟨rfl, hw⟩; cases hw; rw [← HX.out])
        | fail)
    have x0 := HS2.out.z.cell 0 HS2.out.v.c0
    have x4 := HS2.out.z.cell 4 HS2.out.v.c4
    rw [HVV.out] at x4
    have hfr := HS2.out.z.fro
    obtain ⟨V3, hV3⟩ : ∃ V3, V3 = goRow V0 m0 (v + 1) := ⟨_, rfl⟩
    have hv3 := HS2.out.v.go (v + 1)
    rw [← hV3] at hv3
    have HV3 := Lib.hid hv3; have HE3 := Lib.hid hV3
    clear hv3 hV3
    go_wp2_with (first
      | (refine wpList_loadZ rfl (.tmp 7) rfl B V0 rfl HS2.out.z.z.bm HS2.out.v.size ?_)
      | (go_at_call 45; (with_reducible refine (on_any (v + 1) HS2.out.v).mono ?_); rintro r w8 ⟨rfl, hb⟩; rw [← HE3.out]; have HS8 := Lib.hid (HS2.out.step hb); have HV8 := Lib.hid (HV3.out.below hb); clear hb)
      | (refine wpList_storeZ rfl (.tmp 9) (.tmp 65) rfl T zero19 V3 rfl rfl HS8.out.z.z.br rfl HV3.out.size HV3.out.one ?_)
      | fail)
    obtain ⟨hl, hr, hv, hb⟩ := HS8.out.outV HV8.out
    exact bodyPost_ret (v := .tuple #[.slice R n' capR, .agg V3]) (res2 Tryz.results17 _ _ _ _ _ rfl rfl hl) rfl ⟨R, capR, V3, rfl, hr, by rw [HE.out]; exact hv, hb⟩
end Go.Proofs.YtbpkcoemehmpbaaGreat
