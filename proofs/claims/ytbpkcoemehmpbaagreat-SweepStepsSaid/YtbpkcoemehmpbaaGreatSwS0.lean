/- A step of the document's own part that is swept (the end and the taking); walked. -/
import Derived.Test.YtbpkcoemehmpbaaGreatJ19
import Derived.IntWalk
namespace Go.Proofs.YtbpkcoemehmpbaaGreat
open Go.RowKit
set_option linter.unusedVariables false
set_option linter.unusedSimpArgs false
set_option linter.unnecessarySimpa false
set_option maxRecDepth 100000
open Lay (plcc plc shOf packN nodesN OkC Cfg Norm firstV Rep lenL things partsC roomsI)

set_option maxHeartbeats 16000000 in
theorem rws_0 {c : Cfg} (hc : OkC c) (Q : Nat → Prop) (A : Option Addr) (n cap : Nat) (P : Int) (R : Option Addr) (n' capR : Nat) (L : List Int) (m : Wn) (V : Array Value) (w : World) (hA : IsA w c A n) (hn : n' = L.length) (hn2 : n' ≤ 1000000) (hR : ReadsW Q w R L) (hQ : ∀ b, w.heap.size ≤ b → Q b) (h : ZV Q w m V) (ww : WW L) (hp : m.pc = 0) :
    Calls Tryz.prog 17 #[aVal A n cap P, Lay.cfgV c, .slice R n' capR, .agg V] w (SomeZ Q w n' L (wq m)) := by
  have hz := ZC.new w A n cap P c V
  obtain ⟨W0, hW0⟩ : ∃ W0, W0 = ((((w.alloc (.cells #[.slice A n cap, .int .i64 P] 36)).alloc (.cells #[.int .i64 c.a, .int .i64 c.b, .int .i64 c.c, .int .i64 c.d, .int .i64 c.e, .int .i64 c.mr, .int .i64 c.mu, .int .i64 c.dq, .int .i64 c.ch, .int .i64 c.bf, .int .i64 c.rt, .int .i64 c.sw] 38)).alloc (.cells V 55)).alloc (.cells #[.int .i64 0, .int .u64 0, .int .u64 0, .int .i64 0, .int .i64 0, .int .i64 0, .int .i64 0, .int .i64 0, .int .i64 0, .slice none 0 0, .int .u32 0, .int .u64 0, .int .u32 0, .int .i64 0, .int .i64 0, .int .i64 0, .int .i64 0, .int .i64 0, .int .i64 0] 55)) := ⟨_, rfl⟩
  rw [← hW0] at hz
  obtain ⟨B, hB⟩ : ∃ B, B = w.heap.size + 1 + 1 := ⟨_, rfl⟩
  obtain ⟨T, hT⟩ : ∃ T, T = w.heap.size + 1 + 1 + 1 := ⟨_, rfl⟩
  rw [← hT, ← hB] at hz
  have hs0 := ZS.begin hz hR h
  have hev := hs0.evc
  have hfr := hs0.z.fro
  obtain ⟨m0, hm0⟩ : ∃ m0, m0 = wq m := ⟨_, rfl⟩
  have hp0 : m0.pc = 0 := by rw [hm0]; exact hp
  rw [← hm0]
  have HS0 := Lib.hid hs0; have HW0 := Lib.hid hW0; have HA := Lib.hid hA; have HN := Lib.hid hn; have HN2 := Lib.hid hn2; have HOK := Lib.hid hc; have HWW := Lib.hid ww; have HQ := Lib.hid hQ; have HP0 := Lib.hid hp0; have HM0 := Lib.hid hm0
  have HXS := Lib.hid (And.intro hev hfr); have HBT := Lib.hid (And.intro hB hT)
  clear hz hs0 hW0 hA hn hn2 hc ww hQ hp0 hm0 hev hfr hB hT hR h hp
  go_enter Tryz.func17, Tryz.ntmps17
  go_upto_region 1 with (fail)
  rw [← HW0.out, ← HBT.out.2, ← HBT.out.1]
  obtain ⟨⟨y0, y1, y2, y3, y4⟩, hfr⟩ := HXS.out
  go_upto_region 2 with (fail)
  have hs1 := HS0.out.ev 0 0
  unfold evWz at hs1
  obtain ⟨W1, hW1⟩ : ∃ W1, W1 = (((((W0.setCell ⟨B, 14, none⟩ (.int .i64 0)).setCell ⟨B, 15, none⟩ (.int .i64 0)).setCell ⟨B, 16, none⟩ (.int .i64 0)).setCell ⟨B, 17, none⟩ (.int .i64 0)).setCell ⟨B, 18, none⟩ (.int .i64 0)) := ⟨_, rfl⟩
  rw [← hW1] at hs1
  rw [← hW1]
  obtain ⟨V0, hV0⟩ : ∃ V0, V0 = evRow V 0 0 := ⟨_, rfl⟩
  rw [← hV0] at hs1
  have hs1 : ZS Q w A n cap P c B T W1 R L m0 V0 := by rw [HM0.out]; exact hs1
  have x0 := hs1.z.cell 0 hs1.v.c0
  rw [HP0.out] at x0
  have HS1 := Lib.hid hs1
  have HA1 := Lib.hid (HA.out.below hs1.z.z.bel)
  have HF1 := Lib.hid (hs1.far HQ.out)
  clear y0 y1 y2 y3 y4 hfr hs1 hW1 hV0 HXS HS0 HW0
  go_upto_region 33 with (fail)
  clear x0
  have HK5 := Lib.hid (HS1.out.step (Below.refl _ _).drew)
  refine wp_region_any (by kernel_rfl) ?_
  change wpAny _ _ _ _ 4 _ _ (World.drew _)
  refine wpAny_take (i := 0) (v := .slice R n' capR) rfl (by kernel_rfl) (by kernel_rfl) (by kernel_rfl) (fun _ _ _ h => h) (Or.inl ⟨by rfl, fun w => by exact BigFrame.run_move (.tmp 2) rfl w⟩) ?_
  refine wpAny_take (i := 2) (v := .slice R n' capR) rfl (by kernel_rfl) (by kernel_rfl) (by kernel_rfl) (fun _ _ _ h => h) (Or.inl ⟨by rfl, fun w => by exact BigFrame.run_assign (.tmp 131) rfl w⟩) ?_
  refine wpAny_ready (rs := [1]) (by kernel_rfl) (by decide) (AllReady.cons rfl (fun K' hK => ?_) AllReady.nil)
  rw [if_pos (by rfl)]
  refine wp_load_mid 55 (.tmp 7) rfl B 0 rfl _ _ (rng_all HK5.out.z.z.bm) row64.choose_spec.1 row64.choose_spec.2 (by rw [show V0.toList.length = 19 from by simpa using HS1.out.v.size]; kernel_rfl) (hK _ _ ?_)
  refine wpAny_ready (rs := [3]) (by kernel_rfl) (by decide) (AllReady.cons rfl (fun K' hK => ?_) AllReady.nil)
  rw [if_pos (by rfl)]
  refine wp_store_mid 55 (.tmp 9) (.tmp 132) rfl T 0 V0 rfl rfl (there_sub 0 _ HK5.out.z.z.br (by rw [HS1.out.v.size]; decide)) (by rw [HS1.out.v.size]; kernel_rfl) HS1.out.v.one (hK _ _ ?_)
  refine wpAny_done (by kernel_rfl) ?_ _
  obtain ⟨hl, hr, hv, hb⟩ := HK5.out.out
  go_wp2
  exact bodyPost_ret (v := .tuple #[.slice R n' capR, .agg V0]) (res2 Tryz.results17 _ _ _ _ _ rfl rfl hl) rfl ⟨R, capR, V0, rfl, hr, hv, hb⟩

set_option maxHeartbeats 16000000 in
theorem rws_1 {c : Cfg} (hc : OkC c) (Q : Nat → Prop) (A : Option Addr) (n cap : Nat) (P : Int) (R : Option Addr) (n' capR : Nat) (L : List Int) (m : Wn) (V : Array Value) (w : World) (hA : IsA w c A n) (hn : n' = L.length) (hn2 : n' ≤ 1000000) (hR : ReadsW Q w R L) (hQ : ∀ b, w.heap.size ≤ b → Q b) (h : ZV Q w m V) (ww : WW L) (hp : m.pc = 1) (L' : List Int) (m' : Wn) (hcall : ∀ (Q' : Nat → Prop) (W : World) (V0 : Array Value), ReadsW Q' W R L → (∀ b, W.heap.size ≤ b → Q' b) → ZV Q' W (wq m) V0 → Calls Tryz.prog 42 #[Lay.cfgV c, .slice R n' capR, .agg V0] W (SomeZ Q' W n' L' m')) :
    Calls Tryz.prog 17 #[aVal A n cap P, Lay.cfgV c, .slice R n' capR, .agg V] w (SomeZ Q w n' L' m') := by
  have hz := ZC.new w A n cap P c V
  obtain ⟨W0, hW0⟩ : ∃ W0, W0 = ((((w.alloc (.cells #[.slice A n cap, .int .i64 P] 36)).alloc (.cells #[.int .i64 c.a, .int .i64 c.b, .int .i64 c.c, .int .i64 c.d, .int .i64 c.e, .int .i64 c.mr, .int .i64 c.mu, .int .i64 c.dq, .int .i64 c.ch, .int .i64 c.bf, .int .i64 c.rt, .int .i64 c.sw] 38)).alloc (.cells V 55)).alloc (.cells #[.int .i64 0, .int .u64 0, .int .u64 0, .int .i64 0, .int .i64 0, .int .i64 0, .int .i64 0, .int .i64 0, .int .i64 0, .slice none 0 0, .int .u32 0, .int .u64 0, .int .u32 0, .int .i64 0, .int .i64 0, .int .i64 0, .int .i64 0, .int .i64 0, .int .i64 0] 55)) := ⟨_, rfl⟩
  rw [← hW0] at hz
  obtain ⟨B, hB⟩ : ∃ B, B = w.heap.size + 1 + 1 := ⟨_, rfl⟩
  obtain ⟨T, hT⟩ : ∃ T, T = w.heap.size + 1 + 1 + 1 := ⟨_, rfl⟩
  rw [← hT, ← hB] at hz
  have hs0 := ZS.begin hz hR h
  have hev := hs0.evc
  have hfr := hs0.z.fro
  obtain ⟨m0, hm0⟩ : ∃ m0, m0 = wq m := ⟨_, rfl⟩
  have hp0 : m0.pc = 1 := by rw [hm0]; exact hp
  rw [← hm0] at hcall
  have HCA := Lib.hid hcall
  clear hcall
  have HS0 := Lib.hid hs0; have HW0 := Lib.hid hW0; have HA := Lib.hid hA; have HN := Lib.hid hn; have HN2 := Lib.hid hn2; have HOK := Lib.hid hc; have HWW := Lib.hid ww; have HQ := Lib.hid hQ; have HP0 := Lib.hid hp0; have HM0 := Lib.hid hm0
  have HXS := Lib.hid (And.intro hev hfr); have HBT := Lib.hid (And.intro hB hT)
  clear hz hs0 hW0 hA hn hn2 hc ww hQ hp0 hm0 hev hfr hB hT hR h hp
  go_enter Tryz.func17, Tryz.ntmps17
  go_upto_region 1 with (fail)
  rw [← HW0.out, ← HBT.out.2, ← HBT.out.1]
  obtain ⟨⟨y0, y1, y2, y3, y4⟩, hfr⟩ := HXS.out
  go_upto_region 2 with (fail)
  have hs1 := HS0.out.ev 0 0
  unfold evWz at hs1
  obtain ⟨W1, hW1⟩ : ∃ W1, W1 = (((((W0.setCell ⟨B, 14, none⟩ (.int .i64 0)).setCell ⟨B, 15, none⟩ (.int .i64 0)).setCell ⟨B, 16, none⟩ (.int .i64 0)).setCell ⟨B, 17, none⟩ (.int .i64 0)).setCell ⟨B, 18, none⟩ (.int .i64 0)) := ⟨_, rfl⟩
  rw [← hW1] at hs1
  rw [← hW1]
  obtain ⟨V0, hV0⟩ : ∃ V0, V0 = evRow V 0 0 := ⟨_, rfl⟩
  rw [← hV0] at hs1
  have hs1 : ZS Q w A n cap P c B T W1 R L m0 V0 := by rw [HM0.out]; exact hs1
  have x0 := hs1.z.cell 0 hs1.v.c0
  rw [HP0.out] at x0
  have HS1 := Lib.hid hs1
  have HA1 := Lib.hid (HA.out.below hs1.z.z.bel)
  have HF1 := Lib.hid (hs1.far HQ.out)
  clear y0 y1 y2 y3 y4 hfr hs1 hW1 hV0 HXS HS0 HW0
  obtain ⟨q0, q1, q2, q3, q4, q5, q6, q7, q8, q9, q10, q11⟩ := HS1.out.z.ccells
  go_wp2_with (first
    | (refine wpList_loadZ rfl (.tmp 7) rfl B V0 rfl HS1.out.z.z.bm HS1.out.v.size ?_)
    | (go_at_call 42; (with_reducible refine (HCA.out (NotZ Q B T) _ V0 HS1.out.r HF1.out HS1.out.v).mono ?_); rintro r w2 ⟨R2, cap2, V2, rfl, hr2, hv2, hb⟩; have HS2 := Lib.hid ((HS1.out.step hb).row hr2); have HV2 := Lib.hid hv2; clear hb hr2 hv2)
    | (refine wpList_storeZ rfl (.tmp 9) (.tmp 27) rfl T zero19 V2 rfl rfl HS2.out.z.z.br rfl HV2.out.size HV2.out.one ?_)
    | fail)
  obtain ⟨hl, hr, hv, hb⟩ := HS2.out.outV HV2.out
  exact bodyPost_ret (v := .tuple #[.slice R2 n' cap2, .agg V2]) (res2 Tryz.results17 _ _ _ _ _ rfl rfl hl) rfl ⟨R2, cap2, V2, rfl, hr, hv, hb⟩

set_option maxHeartbeats 16000000 in
theorem rws_2 {c : Cfg} (hc : OkC c) (Q : Nat → Prop) (A : Option Addr) (n cap : Nat) (P : Int) (R : Option Addr) (n' capR : Nat) (L : List Int) (m : Wn) (V : Array Value) (w : World) (hA : IsA w c A n) (hn : n' = L.length) (hn2 : n' ≤ 1000000) (hR : ReadsW Q w R L) (hQ : ∀ b, w.heap.size ≤ b → Q b) (h : ZV Q w m V) (ww : WW L) (hp : m.pc = 2) (L' : List Int) (m' : Wn) (hcall : ∀ (Q' : Nat → Prop) (W : World) (V0 : Array Value), ReadsW Q' W R L → (∀ b, W.heap.size ≤ b → Q' b) → ZV Q' W (wq m) V0 → Calls Tryz.prog 42 #[Lay.cfgV c, .slice R n' capR, .agg V0] W (SomeZ Q' W n' L' m')) :
    Calls Tryz.prog 17 #[aVal A n cap P, Lay.cfgV c, .slice R n' capR, .agg V] w (SomeZ Q w n' L' m') := by
  have hz := ZC.new w A n cap P c V
  obtain ⟨W0, hW0⟩ : ∃ W0, W0 = ((((w.alloc (.cells #[.slice A n cap, .int .i64 P] 36)).alloc (.cells #[.int .i64 c.a, .int .i64 c.b, .int .i64 c.c, .int .i64 c.d, .int .i64 c.e, .int .i64 c.mr, .int .i64 c.mu, .int .i64 c.dq, .int .i64 c.ch, .int .i64 c.bf, .int .i64 c.rt, .int .i64 c.sw] 38)).alloc (.cells V 55)).alloc (.cells #[.int .i64 0, .int .u64 0, .int .u64 0, .int .i64 0, .int .i64 0, .int .i64 0, .int .i64 0, .int .i64 0, .int .i64 0, .slice none 0 0, .int .u32 0, .int .u64 0, .int .u32 0, .int .i64 0, .int .i64 0, .int .i64 0, .int .i64 0, .int .i64 0, .int .i64 0] 55)) := ⟨_, rfl⟩
  rw [← hW0] at hz
  obtain ⟨B, hB⟩ : ∃ B, B = w.heap.size + 1 + 1 := ⟨_, rfl⟩
  obtain ⟨T, hT⟩ : ∃ T, T = w.heap.size + 1 + 1 + 1 := ⟨_, rfl⟩
  rw [← hT, ← hB] at hz
  have hs0 := ZS.begin hz hR h
  have hev := hs0.evc
  have hfr := hs0.z.fro
  obtain ⟨m0, hm0⟩ : ∃ m0, m0 = wq m := ⟨_, rfl⟩
  have hp0 : m0.pc = 2 := by rw [hm0]; exact hp
  rw [← hm0] at hcall
  have HCA := Lib.hid hcall
  clear hcall
  have HS0 := Lib.hid hs0; have HW0 := Lib.hid hW0; have HA := Lib.hid hA; have HN := Lib.hid hn; have HN2 := Lib.hid hn2; have HOK := Lib.hid hc; have HWW := Lib.hid ww; have HQ := Lib.hid hQ; have HP0 := Lib.hid hp0; have HM0 := Lib.hid hm0
  have HXS := Lib.hid (And.intro hev hfr); have HBT := Lib.hid (And.intro hB hT)
  clear hz hs0 hW0 hA hn hn2 hc ww hQ hp0 hm0 hev hfr hB hT hR h hp
  go_enter Tryz.func17, Tryz.ntmps17
  go_upto_region 1 with (fail)
  rw [← HW0.out, ← HBT.out.2, ← HBT.out.1]
  obtain ⟨⟨y0, y1, y2, y3, y4⟩, hfr⟩ := HXS.out
  go_upto_region 2 with (fail)
  have hs1 := HS0.out.ev 0 0
  unfold evWz at hs1
  obtain ⟨W1, hW1⟩ : ∃ W1, W1 = (((((W0.setCell ⟨B, 14, none⟩ (.int .i64 0)).setCell ⟨B, 15, none⟩ (.int .i64 0)).setCell ⟨B, 16, none⟩ (.int .i64 0)).setCell ⟨B, 17, none⟩ (.int .i64 0)).setCell ⟨B, 18, none⟩ (.int .i64 0)) := ⟨_, rfl⟩
  rw [← hW1] at hs1
  rw [← hW1]
  obtain ⟨V0, hV0⟩ : ∃ V0, V0 = evRow V 0 0 := ⟨_, rfl⟩
  rw [← hV0] at hs1
  have hs1 : ZS Q w A n cap P c B T W1 R L m0 V0 := by rw [HM0.out]; exact hs1
  have x0 := hs1.z.cell 0 hs1.v.c0
  rw [HP0.out] at x0
  have HS1 := Lib.hid hs1
  have HA1 := Lib.hid (HA.out.below hs1.z.z.bel)
  have HF1 := Lib.hid (hs1.far HQ.out)
  clear y0 y1 y2 y3 y4 hfr hs1 hW1 hV0 HXS HS0 HW0
  obtain ⟨q0, q1, q2, q3, q4, q5, q6, q7, q8, q9, q10, q11⟩ := HS1.out.z.ccells
  go_wp2_with (first
    | (refine wpList_loadZ rfl (.tmp 7) rfl B V0 rfl HS1.out.z.z.bm HS1.out.v.size ?_)
    | (go_at_call 42; (with_reducible refine (HCA.out (NotZ Q B T) _ V0 HS1.out.r HF1.out HS1.out.v).mono ?_); rintro r w2 ⟨R2, cap2, V2, rfl, hr2, hv2, hb⟩; have HS2 := Lib.hid ((HS1.out.step hb).row hr2); have HV2 := Lib.hid hv2; clear hb hr2 hv2)
    | (refine wpList_storeZ rfl (.tmp 9) (.tmp 27) rfl T zero19 V2 rfl rfl HS2.out.z.z.br rfl HV2.out.size HV2.out.one ?_)
    | fail)
  obtain ⟨hl, hr, hv, hb⟩ := HS2.out.outV HV2.out
  exact bodyPost_ret (v := .tuple #[.slice R2 n' cap2, .agg V2]) (res2 Tryz.results17 _ _ _ _ _ rfl rfl hl) rfl ⟨R2, cap2, V2, rfl, hr, hv, hb⟩
end Go.Proofs.YtbpkcoemehmpbaaGreat
