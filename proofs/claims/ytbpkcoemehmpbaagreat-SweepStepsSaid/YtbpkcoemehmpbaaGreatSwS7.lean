/- A step of the document's own part that is swept (the part is done); walked. -/
import Derived.Test.YtbpkcoemehmpbaaGreatJ19
import Derived.Test.YtbpkcoemehmpbaaGreatJ3
import Derived.Test.YtbpkcoemehmpbaaGreatSwQ
import Derived.IntWalk
namespace Go.Proofs.YtbpkcoemehmpbaaGreat
open Go.RowKit
set_option linter.unusedVariables false
set_option linter.unusedSimpArgs false
set_option linter.unnecessarySimpa false
set_option maxRecDepth 100000
open Lay (plcc plc shOf packN nodesN OkC Cfg Norm firstV Rep lenL things partsC roomsI)

set_option maxHeartbeats 16000000 in
theorem rws_7 {c : Cfg} (hc : OkC c) (Q : Nat → Prop) (A : Option Addr) (n cap : Nat) (P : Int) (R : Option Addr) (n' capR : Nat) (L : List Int) (m : Wn) (V : Array Value) (w : World) (hA : IsA w c A n) (hn : n' = L.length) (hn2 : n' ≤ 1000000) (hR : ReadsW Q w R L) (hQ : ∀ b, w.heap.size ≤ b → Q b) (h : ZV Q w m V) (ww : WW L) (hp : m.pc = 7) :
    Calls Tryz.prog 17 #[aVal A n cap P, Lay.cfgV c, .slice R n' capR, .agg V] w (SomeZ Q w n' (ptq L 3 ((ldq L 3 + 1) % 18446744073709551616)) { m with ek := 6, ea := m.part, pc := 0 }) := by
  have hz := ZC.new w A n cap P c V
  obtain ⟨W0, hW0⟩ : ∃ W0, W0 = ((((w.alloc (.cells #[.slice A n cap, .int .i64 P] 36)).alloc (.cells #[.int .i64 c.a, .int .i64 c.b, .int .i64 c.c, .int .i64 c.d, .int .i64 c.e, .int .i64 c.mr, .int .i64 c.mu, .int .i64 c.dq, .int .i64 c.ch, .int .i64 c.bf, .int .i64 c.rt, .int .i64 c.sw] 38)).alloc (.cells V 55)).alloc (.cells #[.int .i64 0, .int .u64 0, .int .u64 0, .int .i64 0, .int .i64 0, .int .i64 0, .int .i64 0, .int .i64 0, .int .i64 0, .slice none 0 0, .int .u32 0, .int .u64 0, .int .u32 0, .int .i64 0, .int .i64 0, .int .i64 0, .int .i64 0, .int .i64 0, .int .i64 0] 55)) := ⟨_, rfl⟩
  rw [← hW0] at hz
  obtain ⟨B, hB⟩ : ∃ B, B = w.heap.size + 1 + 1 := ⟨_, rfl⟩
  obtain ⟨T, hT⟩ : ∃ T, T = w.heap.size + 1 + 1 + 1 := ⟨_, rfl⟩
  rw [← hT, ← hB] at hz
  have hs0 := ZS.begin hz hR h
  have hev := hs0.evc
  have hfr := hs0.z.fro
  obtain ⟨m0, hm0⟩ : ∃ m0, m0 = wq m := ⟨_, rfl⟩
  have hp0 : m0.pc = 7 := by rw [hm0]; exact hp
  obtain ⟨pt, hpt⟩ : ∃ pt, pt = m.part := ⟨_, rfl⟩
  have hpt0 : m0.part = pt := by rw [hm0, hpt]; rfl
  have HPT := Lib.hid hpt0
  obtain ⟨m9, hm9⟩ : ∃ m9, m9 = { m with ek := 6, ea := m.part, pc := 0 } := ⟨_, rfl⟩
  rw [← hm9]
  have hm9b : m9 = { m0 with ek := 6, ea := pt, pc := 0 } := by rw [hm9, hm0, hpt]; rfl
  obtain ⟨L9, hL9⟩ : ∃ L9, L9 = ptq L 3 ((ldq L 3 + 1) % 18446744073709551616) := ⟨_, rfl⟩
  rw [← hL9]
  have hL9b : adv L 3 1 = L9 := by rw [hL9]; exact adv_is L 3
  have HM9 := Lib.hid hm9b; have HL9 := Lib.hid hL9b
  clear hpt hpt0 hm9 hm9b hL9 hL9b
  have HS0 := Lib.hid hs0; have HW0 := Lib.hid hW0; have HA := Lib.hid hA; have HN := Lib.hid hn; have HN2 := Lib.hid hn2; have HOK := Lib.hid hc; have HWW := Lib.hid ww; have HQ := Lib.hid hQ; have HP0 := Lib.hid hp0; have HM0 := Lib.hid hm0
  have HXS := Lib.hid (And.intro hev hfr); have HBT := Lib.hid (And.intro hB hT)
  clear hz hs0 hW0 hA hn hn2 hc ww hQ hp0 hm0 hev hfr hB hT hR h hp
  go_enter Tryz.func17, Tryz.ntmps17
  go_upto_region 1 with (fail)
  rw [← HW0.out, ← HBT.out.2, ← HBT.out.1]
  obtain ⟨⟨y0, y1, y2, y3, y4⟩, hfr⟩ := HXS.out
  go_upto_region 2 with (fail)
  have hs1 := HS0.out.ev 0 0
  unfold evWz at hs1
  obtain ⟨W1, hW1⟩ : ∃ W1, W1 = (((((W0.setCell ⟨B, 14, none⟩ (.int .i64 0)).setCell ⟨B, 15, none⟩ (.int .i64 0)).setCell ⟨B, 16, none⟩ (.int .i64 0)).setCell ⟨B, 17, none⟩ (.int .i64 0)).setCell ⟨B, 18, none⟩ (.int .i64 0)) := ⟨_, rfl⟩
  rw [← hW1] at hs1
  rw [← hW1]
  obtain ⟨V0, hV0⟩ : ∃ V0, V0 = evRow V 0 0 := ⟨_, rfl⟩
  rw [← hV0] at hs1
  have hs1 : ZS Q w A n cap P c B T W1 R L m0 V0 := by rw [HM0.out]; exact hs1
  have x0 := hs1.z.cell 0 hs1.v.c0
  rw [HP0.out] at x0
  have HS1 := Lib.hid hs1
  have HA1 := Lib.hid (HA.out.below hs1.z.z.bel)
  have HF1 := Lib.hid (hs1.far HQ.out)
  clear y0 y1 y2 y3 y4 hfr hs1 hW1 hV0 HXS HS0 HW0
  go_upto_region 30 with (first
    | (go_at_call 50; (with_reducible refine (radd_any (NotZ Q B T) R n' capR L 3 1 _ HN.out HN2.out HS1.out.r HF1.out).mono ?_); rintro r w2 ⟨R2, cap2, rfl, hr, hb⟩; rw [HL9.out] at hr; have HS2 := Lib.hid ((HS1.out.step hb).row hr); clear hr hb x0; have x0 := HS2.out.z.cell 0 HS2.out.v.c0; have x3 := HS2.out.z.cell 3 HS2.out.v.c3; rw [HPT.out] at x3; have hfr := HS2.out.z.fro; obtain ⟨y0, y1, y2, y3, y4⟩ := HS2.out.evc)
    | fail)
  go_upto_region 32 with (fail)
  have hs3 := (HS2.out.ev 6 pt).pc 0
  unfold evWz at hs3
  obtain ⟨W3, hW3⟩ : ∃ W3, W3 = ((((((w2.setCell ⟨B, 14, none⟩ (.int .i64 6)).setCell ⟨B, 15, none⟩ (.int .i64 0)).setCell ⟨B, 16, none⟩ (.int .i64 pt)).setCell ⟨B, 17, none⟩ (.int .i64 0)).setCell ⟨B, 18, none⟩ (.int .i64 0)).setCell ⟨B, 0, none⟩ (.int .i64 0)) := ⟨_, rfl⟩
  obtain ⟨V1, hV1⟩ : ∃ V1, V1 = (evRow V0 6 pt).setIfInBounds 0 (.int .i64 0) := ⟨_, rfl⟩
  have hs3 : ZS Q w A n cap P c B T W3 R2 L9 m9 V1 := by rw [HM9.out, hW3, hV1]; exact hs3
  rw [← hW3]
  have HS3 := Lib.hid hs3
  clear hs3 hW3 hV1 x0 x3 hfr y0 y1 y2 y3 y4 HS2 HS1
  have HK5 := Lib.hid (HS3.out.step (Below.refl _ _).drew)
  refine wp_region_any (by kernel_rfl) ?_
  change wpAny _ _ _ _ 4 _ _ (World.drew _)
  refine wpAny_take (i := 0) (v := .slice R2 n' cap2) rfl (by kernel_rfl) (by kernel_rfl) (by kernel_rfl) (fun _ _ _ h => h) (Or.inl ⟨by rfl, fun w => by exact BigFrame.run_move (.tmp 13) rfl w⟩) ?_
  refine wpAny_take (i := 2) (v := .slice R2 n' cap2) rfl (by kernel_rfl) (by kernel_rfl) (by kernel_rfl) (fun _ _ _ h => h) (Or.inl ⟨by rfl, fun w => by exact BigFrame.run_assign (.tmp 129) rfl w⟩) ?_
  refine wpAny_ready (rs := [1]) (by kernel_rfl) (by decide) (AllReady.cons rfl (fun K' hK => ?_) AllReady.nil)
  rw [if_pos (by rfl)]
  refine wp_load_mid 55 (.tmp 7) rfl B 0 rfl _ _ (rng_all HK5.out.z.z.bm) row64.choose_spec.1 row64.choose_spec.2 (by rw [show V1.toList.length = 19 from by simpa using HS3.out.v.size]; kernel_rfl) (hK _ _ ?_)
  refine wpAny_ready (rs := [3]) (by kernel_rfl) (by decide) (AllReady.cons rfl (fun K' hK => ?_) AllReady.nil)
  rw [if_pos (by rfl)]
  refine wp_store_mid 55 (.tmp 9) (.tmp 130) rfl T 0 V1 rfl rfl (there_sub 0 _ HK5.out.z.z.br (by rw [HS3.out.v.size]; decide)) (by rw [HS3.out.v.size]; kernel_rfl) HS3.out.v.one (hK _ _ ?_)
  refine wpAny_done (by kernel_rfl) ?_ _
  obtain ⟨hl, hr, hv, hb⟩ := HK5.out.out
  go_wp2
  exact bodyPost_ret (v := .tuple #[.slice R2 n' cap2, .agg V1]) (res2 Tryz.results17 _ _ _ _ _ rfl rfl hl) rfl ⟨R2, cap2, V1, rfl, hr, hv, hb⟩
end Go.Proofs.YtbpkcoemehmpbaaGreat
