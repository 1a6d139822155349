/-  -/
import Derived.Test.YtpocihddecemfaaGreatJ25
import Derived.IntWalk
import Derived.Test.YtpocihddecemfaaGreatScS3
import Derived.Test.YtpocihddecemfaaGreatScS4
import Derived.Test.YtpocihddecemfaaGreatScS5
namespace Go.Proofs.YtpocihddecemfaaGreat
open Go.RowKit
set_option linter.unusedVariables false
set_option linter.unusedSimpArgs false
set_option linter.unnecessarySimpa false
set_option maxRecDepth 100000
open Lay (plcc plc shOf packN nodesN OkC Cfg Norm firstV Rep lenL things roomsI)
set_option maxHeartbeats 16000000 in
theorem rzs_0 {c : Cfg} (hc : OkC c) {t : Int} (Q : Nat → Prop) (A : Option Addr) (n cap : Nat) (R : Option Addr) (n' capR : Nat) (L : List Int) (i : Int) (m : Zm) (V : Array Value) (w : World) (hA : IsA w c A n) (hn : n' = L.length) (hn2 : n' ≤ 1000000) (hR : ReadsW Q w R L) (hQ : ∀ b, w.heap.size ≤ b → Q b) (h : ZV Q w c i m V) (hi : decide (i < 0) = false) (hj : decide (c.mr ≤ i) = false) (zw : ZW c t m) (ww : WW L) (ht : t ≤ 900000000) (hp : m.pc = 0) :
    Calls Tryz.prog 18 #[aVal A n cap (packN c), Lay.cfgV c, .slice R n' capR, .agg V] w (SomeZ Q w n' c i (zstp (zgOf c) (gOf c) (aNew (eOf c i)) L m).1 (zstp (zgOf c) (gOf c) (aNew (eOf c i)) L m).2) := by
  have hz := ZC.new w A n cap (packN c) c V
  obtain ⟨W0, hW0⟩ : ∃ W0, W0 = ((((w.alloc (.cells #[.slice A n cap, .int .i64 (packN c)] 36)).alloc (.cells #[.int .i64 c.a, .int .i64 c.b, .int .i64 c.c, .int .i64 c.d, .int .i64 c.e, .int .i64 c.mr, .int .i64 c.mu, .int .i64 c.dq, .int .i64 c.ch, .int .i64 c.bf, .int .i64 c.rt, .int .i64 c.sw] 38)).alloc (.cells V 64)).alloc (.cells #[.int .i64 0, .int .i64 0, .int .i64 0, .int .i64 0, .int .u64 0, .int .i64 0, .int .i64 0, .int .i64 0, .int .i64 0, .int .i64 0, .int .u64 0, .int .u64 0, .bool false, .int .i64 0, .int .u64 0, .int .i64 0, .int .i64 0, .int .i64 0, .int .i64 0, .int .i64 0, .int .i64 0, .int .u64 0, .int .u64 0, .int .u64 0, .bool false, .int .i64 0, .int .i64 0, .int .i64 0, .slice none 0 0, .int .i64 0, .int .i64 0, .int .i64 0, .int .i64 0, .int .i64 0, .slice none 0 0, .int .u32 0, .int .u64 0, .int .u32 0, .int .i64 0, .bool false, .int .i64 0, .int .i64 0, .int .i64 0, .int .i64 0, .int .i64 0] 64)) := ⟨_, rfl⟩
  rw [← hW0] at hz
  obtain ⟨LZ, mZ, hZ⟩ : ∃ LZ mZ, zstp (zgOf c) (gOf c) (aNew (eOf c i)) L m = (LZ, mZ) := ⟨_, _, rfl⟩
  rw [hZ]
  have HLZ := Lib.hid hZ
  have HZ0 := Lib.hid hz; have HW0 := Lib.hid hW0; have HA := Lib.hid hA; have HN := Lib.hid hn; have HN2 := Lib.hid hn2; have HR := Lib.hid hR; have HV := Lib.hid h; have HWW := Lib.hid ww; have HQ := Lib.hid hQ; have HI := Lib.hid (And.intro hi hj); have HZW := Lib.hid zw; have HPC := Lib.hid hp
  clear hz hW0 hA hn hn2 hR h ww hQ hi hj zw hp hZ
  go_enter Tryz.func18, Tryz.ntmps18
  go_upto_region 1 with (fail)
  rw [← HW0.out]
  obtain ⟨B, hB⟩ : ∃ B, B = w.heap.size + 1 + 1 := ⟨_, rfl⟩
  obtain ⟨T, hT⟩ : ∃ T, T = w.heap.size + 1 + 1 + 1 := ⟨_, rfl⟩
  have hz0 := HZ0.out
  rw [← hT, ← hB] at hz0
  rw [← hT, ← hB]
  have HLT := Lib.hid (show w.heap.size ≤ B ∧ w.heap.size ≤ T by omega)
  have hs0 : ZS Q w A n cap (packN c) c B T i W0 R L m V := ⟨hz0, (HR.out.notZ HLT.out.1 HLT.out.2).below hz0.z.bel, (HV.out.notZ HLT.out.1 HLT.out.2).below hz0.z.bel⟩
  have hfr := hs0.z.fro
  obtain ⟨y0, y1, y2, y3, y4⟩ := hs0.evc
  clear HZ0 hB hT HW0 hz0
  go_upto_region 2 with (fail)
  have hs1 := hs0.ev 0 0 0
  unfold evWz at hs1
  obtain ⟨W1, hW1⟩ : ∃ W1, W1 = (((((W0.setCell ⟨B, 40, none⟩ (.int .i64 0)).setCell ⟨B, 41, none⟩ (.int .i64 0)).setCell ⟨B, 42, none⟩ (.int .i64 0)).setCell ⟨B, 43, none⟩ (.int .i64 0)).setCell ⟨B, 44, none⟩ (.int .i64 0)) := ⟨_, rfl⟩
  rw [← hW1] at hs1
  rw [← hW1]
  obtain ⟨m0, hm0⟩ : ∃ m0 : Zm, m0 = { m with ek := 0, ea := 0, eb := 0 } := ⟨_, rfl⟩
  rw [← hm0] at hs1
  have HM0 := Lib.hid hm0
  obtain ⟨V0, hV0⟩ : ∃ V0, V0 = evRow V 0 0 0 := ⟨_, rfl⟩
  rw [← hV0] at hs1
  have x0 := hs1.z.cell 0 hs1.v.c0
  rw [show m0.pc = 0 by rw [hm0]; exact HPC.out] at x0
  have HS1 := Lib.hid hs1
  have HZW0 : Hid (ZW c t m0) := Lib.hid (by rw [hm0]; exact HZW.out.ev 0 0 0)
  have HA1 := Lib.hid (HA.out.below hs1.z.z.bel)
  have HP0 : Hid (m0.pc = 0) := Lib.hid (by rw [hm0]; exact HPC.out)
  clear y0 y1 y2 y3 y4 hfr hs0 hs1 hW1 hV0 hm0 W0 HV
  have HE : Hid (LZ = L ∧ mZ = m0) := Lib.hid (by
    have e : zstp (zgOf c) (gOf c) (aNew (eOf c i)) L m = (L, m0) := by
      rw [HM0.out]; simp [zstp, HPC.out]
    have := HLZ.out.symm.trans e
    simpa using this)
  go_upto_region 40 with (fail)
  have HK5 := Lib.hid (HS1.out.step (Below.refl _ _).drew)
  refine wp_region_any (by kernel_rfl) ?_
  change wpAny _ _ _ _ 4 _ _ (World.drew _)
  refine wpAny_take (i := 0) (v := .slice R n' capR) rfl (by kernel_rfl) (by kernel_rfl) (by kernel_rfl) (fun _ _ _ h => h) (Or.inl ⟨by rfl, fun w => by exact BigFrame.run_move (.tmp 2) rfl w⟩) ?_
  refine wpAny_take (i := 2) (v := .slice R n' capR) rfl (by kernel_rfl) (by kernel_rfl) (by kernel_rfl) (fun _ _ _ h => h) (Or.inl ⟨by rfl, fun w => by exact BigFrame.run_assign (.tmp 165) rfl w⟩) ?_
  refine wpAny_ready (rs := [1]) (by kernel_rfl) (by decide) (AllReady.cons rfl (fun K' hK => ?_) AllReady.nil)
  rw [if_pos (by rfl)]
  refine wp_load_mid 64 (.tmp 7) rfl B 0 rfl _ _ (rng_all HK5.out.z.z.bm) row64.choose_spec.1 row64.choose_spec.2 (by rw [show V0.toList.length = 45 from by simpa using HS1.out.v.size]; kernel_rfl) (hK _ _ ?_)
  refine wpAny_ready (rs := [3]) (by kernel_rfl) (by decide) (AllReady.cons rfl (fun K' hK => ?_) AllReady.nil)
  rw [if_pos (by rfl)]
  refine wp_store_mid 64 (.tmp 9) (.tmp 166) rfl T 0 V0 rfl rfl (there_sub 0 _ HK5.out.z.z.br (by rw [HS1.out.v.size]; decide)) (by rw [HS1.out.v.size]; kernel_rfl) HS1.out.v.one (hK _ _ ?_)
  refine wpAny_done (by kernel_rfl) ?_ _
  obtain ⟨hl, hr, hv, hb⟩ := HK5.out.out
  go_wp2
  exact bodyPost_ret (v := .tuple #[.slice R n' capR, .agg V0]) (res2 Tryz.results18 _ _ _ _ _ rfl rfl hl) rfl ⟨R, capR, V0, rfl, by rw [HE.out.1]; exact hr, by rw [HE.out.2]; exact hv, hb⟩
end Go.Proofs.YtpocihddecemfaaGreat

namespace Go.Proofs.YtpocihddecemfaaGreat
open Go.RowKit
set_option linter.unusedVariables false
set_option linter.unusedSimpArgs false
set_option linter.unnecessarySimpa false
set_option maxRecDepth 100000
open Lay (plcc plc shOf packN nodesN OkC Cfg Norm firstV Rep lenL things roomsI)
set_option maxHeartbeats 16000000 in
theorem rzs_1 {c : Cfg} (hc : OkC c) {t : Int} (Q : Nat → Prop) (A : Option Addr) (n cap : Nat) (R : Option Addr) (n' capR : Nat) (L : List Int) (i : Int) (m : Zm) (V : Array Value) (w : World) (hA : IsA w c A n) (hn : n' = L.length) (hn2 : n' ≤ 1000000) (hR : ReadsW Q w R L) (hQ : ∀ b, w.heap.size ≤ b → Q b) (h : ZV Q w c i m V) (hi : decide (i < 0) = false) (hj : decide (c.mr ≤ i) = false) (zw : ZW c t m) (ww : WW L) (ht : t ≤ 900000000) (hp : m.pc = 1) :
    Calls Tryz.prog 18 #[aVal A n cap (packN c), Lay.cfgV c, .slice R n' capR, .agg V] w (SomeZ Q w n' c i (zstp (zgOf c) (gOf c) (aNew (eOf c i)) L m).1 (zstp (zgOf c) (gOf c) (aNew (eOf c i)) L m).2) := by
  have hz := ZC.new w A n cap (packN c) c V
  obtain ⟨W0, hW0⟩ : ∃ W0, W0 = ((((w.alloc (.cells #[.slice A n cap, .int .i64 (packN c)] 36)).alloc (.cells #[.int .i64 c.a, .int .i64 c.b, .int .i64 c.c, .int .i64 c.d, .int .i64 c.e, .int .i64 c.mr, .int .i64 c.mu, .int .i64 c.dq, .int .i64 c.ch, .int .i64 c.bf, .int .i64 c.rt, .int .i64 c.sw] 38)).alloc (.cells V 64)).alloc (.cells #[.int .i64 0, .int .i64 0, .int .i64 0, .int .i64 0, .int .u64 0, .int .i64 0, .int .i64 0, .int .i64 0, .int .i64 0, .int .i64 0, .int .u64 0, .int .u64 0, .bool false, .int .i64 0, .int .u64 0, .int .i64 0, .int .i64 0, .int .i64 0, .int .i64 0, .int .i64 0, .int .i64 0, .int .u64 0, .int .u64 0, .int .u64 0, .bool false, .int .i64 0, .int .i64 0, .int .i64 0, .slice none 0 0, .int .i64 0, .int .i64 0, .int .i64 0, .int .i64 0, .int .i64 0, .slice none 0 0, .int .u32 0, .int .u64 0, .int .u32 0, .int .i64 0, .bool false, .int .i64 0, .int .i64 0, .int .i64 0, .int .i64 0, .int .i64 0] 64)) := ⟨_, rfl⟩
  rw [← hW0] at hz
  obtain ⟨LZ, mZ, hZ⟩ : ∃ LZ mZ, zstp (zgOf c) (gOf c) (aNew (eOf c i)) L m = (LZ, mZ) := ⟨_, _, rfl⟩
  rw [hZ]
  have HLZ := Lib.hid hZ
  have HZ0 := Lib.hid hz; have HW0 := Lib.hid hW0; have HA := Lib.hid hA; have HN := Lib.hid hn; have HN2 := Lib.hid hn2; have HR := Lib.hid hR; have HV := Lib.hid h; have HWW := Lib.hid ww; have HQ := Lib.hid hQ; have HI := Lib.hid (And.intro hi hj); have HZW := Lib.hid zw; have HPC := Lib.hid hp
  clear hz hW0 hA hn hn2 hR h ww hQ hi hj zw hp hZ
  go_enter Tryz.func18, Tryz.ntmps18
  go_upto_region 1 with (fail)
  rw [← HW0.out]
  obtain ⟨B, hB⟩ : ∃ B, B = w.heap.size + 1 + 1 := ⟨_, rfl⟩
  obtain ⟨T, hT⟩ : ∃ T, T = w.heap.size + 1 + 1 + 1 := ⟨_, rfl⟩
  have hz0 := HZ0.out
  rw [← hT, ← hB] at hz0
  rw [← hT, ← hB]
  have HLT := Lib.hid (show w.heap.size ≤ B ∧ w.heap.size ≤ T by omega)
  have hs0 : ZS Q w A n cap (packN c) c B T i W0 R L m V := ⟨hz0, (HR.out.notZ HLT.out.1 HLT.out.2).below hz0.z.bel, (HV.out.notZ HLT.out.1 HLT.out.2).below hz0.z.bel⟩
  have hfr := hs0.z.fro
  obtain ⟨y0, y1, y2, y3, y4⟩ := hs0.evc
  clear HZ0 hB hT HW0 hz0
  go_upto_region 2 with (fail)
  have hs1 := hs0.ev 0 0 0
  unfold evWz at hs1
  obtain ⟨W1, hW1⟩ : ∃ W1, W1 = (((((W0.setCell ⟨B, 40, none⟩ (.int .i64 0)).setCell ⟨B, 41, none⟩ (.int .i64 0)).setCell ⟨B, 42, none⟩ (.int .i64 0)).setCell ⟨B, 43, none⟩ (.int .i64 0)).setCell ⟨B, 44, none⟩ (.int .i64 0)) := ⟨_, rfl⟩
  rw [← hW1] at hs1
  rw [← hW1]
  obtain ⟨m0, hm0⟩ : ∃ m0 : Zm, m0 = { m with ek := 0, ea := 0, eb := 0 } := ⟨_, rfl⟩
  rw [← hm0] at hs1
  have HM0 := Lib.hid hm0
  obtain ⟨V0, hV0⟩ : ∃ V0, V0 = evRow V 0 0 0 := ⟨_, rfl⟩
  rw [← hV0] at hs1
  have x0 := hs1.z.cell 0 hs1.v.c0
  rw [show m0.pc = 1 by rw [hm0]; exact HPC.out] at x0
  have HS1 := Lib.hid hs1
  have HZW0 : Hid (ZW c t m0) := Lib.hid (by rw [hm0]; exact HZW.out.ev 0 0 0)
  have HA1 := Lib.hid (HA.out.below hs1.z.z.bel)
  have HP0 : Hid (m0.pc = 1) := Lib.hid (by rw [hm0]; exact HPC.out)
  clear y0 y1 y2 y3 y4 hfr hs0 hs1 hW1 hV0 hm0 W0 HV
  have HE : Hid (LZ = L ∧ mZ = zhead (zgOf c) L m0) := Lib.hid (by
    have e : zstp (zgOf c) (gOf c) (aNew (eOf c i)) L m = (L, zhead (zgOf c) L m0) := by
      rw [HM0.out]; simp only [zstp]; rw [if_pos HPC.out]
    have := HLZ.out.symm.trans e
    simpa using this)
  have HB0 := Lib.hid (And.intro HZW0.out.v HZW0.out.fr)
  obtain ⟨a0, a1⟩ := HS1.out.z.acells
  obtain ⟨q0, q1, q2, q3, q4, q5, q6, q7, q8, q9, q10, q11⟩ := HS1.out.z.ccells
  go_wp2_with (first
    | (refine wpList_loadZ rfl (.tmp 7) rfl B V0 rfl HS1.out.z.z.bm HS1.out.v.size ?_)
    | (go_at_call 48; (with_reducible refine (head_any (NotZ Q B T) A n cap (packN c) R n' capR L i m0 V0 _ HA1.out HN.out HS1.out.r.reads HS1.out.v HB0.out.1 HB0.out.2 HWW.out).mono ?_); rintro r w2 ⟨V2, rfl, hv2, hb⟩; have HS2 := Lib.hid (HS1.out.step hb); have HV2 := Lib.hid hv2; clear hb hv2)
    | (refine wpList_storeZ rfl (.tmp 9) (.tmp 30) rfl T zero45 V2 rfl rfl HS2.out.z.z.br rfl HV2.out.size HV2.out.one ?_)
    | fail)
  obtain ⟨hl, hr, hv, hb⟩ := HS2.out.outV HV2.out
  exact bodyPost_ret (v := .tuple #[.slice R n' capR, .agg V2]) (res2 Tryz.results18 _ _ _ _ _ rfl rfl hl) rfl ⟨R, capR, V2, rfl, by rw [HE.out.1]; exact hr, by rw [HE.out.2]; exact hv, hb⟩
end Go.Proofs.YtpocihddecemfaaGreat

namespace Go.Proofs.YtpocihddecemfaaGreat
open Go.RowKit
set_option linter.unusedVariables false
set_option linter.unusedSimpArgs false
set_option linter.unnecessarySimpa false
set_option maxRecDepth 100000
open Lay (plcc plc shOf packN nodesN OkC Cfg Norm firstV Rep lenL things roomsI)
set_option maxHeartbeats 16000000 in
theorem rzs_2 {c : Cfg} (hc : OkC c) {t : Int} (Q : Nat → Prop) (A : Option Addr) (n cap : Nat) (R : Option Addr) (n' capR : Nat) (L : List Int) (i : Int) (m : Zm) (V : Array Value) (w : World) (hA : IsA w c A n) (hn : n' = L.length) (hn2 : n' ≤ 1000000) (hR : ReadsW Q w R L) (hQ : ∀ b, w.heap.size ≤ b → Q b) (h : ZV Q w c i m V) (hi : decide (i < 0) = false) (hj : decide (c.mr ≤ i) = false) (zw : ZW c t m) (ww : WW L) (ht : t ≤ 900000000) (hp : m.pc = 2) :
    Calls Tryz.prog 18 #[aVal A n cap (packN c), Lay.cfgV c, .slice R n' capR, .agg V] w (SomeZ Q w n' c i (zstp (zgOf c) (gOf c) (aNew (eOf c i)) L m).1 (zstp (zgOf c) (gOf c) (aNew (eOf c i)) L m).2) := by
  have hz := ZC.new w A n cap (packN c) c V
  obtain ⟨W0, hW0⟩ : ∃ W0, W0 = ((((w.alloc (.cells #[.slice A n cap, .int .i64 (packN c)] 36)).alloc (.cells #[.int .i64 c.a, .int .i64 c.b, .int .i64 c.c, .int .i64 c.d, .int .i64 c.e, .int .i64 c.mr, .int .i64 c.mu, .int .i64 c.dq, .int .i64 c.ch, .int .i64 c.bf, .int .i64 c.rt, .int .i64 c.sw] 38)).alloc (.cells V 64)).alloc (.cells #[.int .i64 0, .int .i64 0, .int .i64 0, .int .i64 0, .int .u64 0, .int .i64 0, .int .i64 0, .int .i64 0, .int .i64 0, .int .i64 0, .int .u64 0, .int .u64 0, .bool false, .int .i64 0, .int .u64 0, .int .i64 0, .int .i64 0, .int .i64 0, .int .i64 0, .int .i64 0, .int .i64 0, .int .u64 0, .int .u64 0, .int .u64 0, .bool false, .int .i64 0, .int .i64 0, .int .i64 0, .slice none 0 0, .int .i64 0, .int .i64 0, .int .i64 0, .int .i64 0, .int .i64 0, .slice none 0 0, .int .u32 0, .int .u64 0, .int .u32 0, .int .i64 0, .bool false, .int .i64 0, .int .i64 0, .int .i64 0, .int .i64 0, .int .i64 0] 64)) := ⟨_, rfl⟩
  rw [← hW0] at hz
  obtain ⟨LZ, mZ, hZ⟩ : ∃ LZ mZ, zstp (zgOf c) (gOf c) (aNew (eOf c i)) L m = (LZ, mZ) := ⟨_, _, rfl⟩
  rw [hZ]
  have HLZ := Lib.hid hZ
  have HZ0 := Lib.hid hz; have HW0 := Lib.hid hW0; have HA := Lib.hid hA; have HN := Lib.hid hn; have HN2 := Lib.hid hn2; have HR := Lib.hid hR; have HV := Lib.hid h; have HWW := Lib.hid ww; have HQ := Lib.hid hQ; have HI := Lib.hid (And.intro hi hj); have HZW := Lib.hid zw; have HPC := Lib.hid hp
  clear hz hW0 hA hn hn2 hR h ww hQ hi hj zw hp hZ
  go_enter Tryz.func18, Tryz.ntmps18
  go_upto_region 1 with (fail)
  rw [← HW0.out]
  obtain ⟨B, hB⟩ : ∃ B, B = w.heap.size + 1 + 1 := ⟨_, rfl⟩
  obtain ⟨T, hT⟩ : ∃ T, T = w.heap.size + 1 + 1 + 1 := ⟨_, rfl⟩
  have hz0 := HZ0.out
  rw [← hT, ← hB] at hz0
  rw [← hT, ← hB]
  have HLT := Lib.hid (show w.heap.size ≤ B ∧ w.heap.size ≤ T by omega)
  have hs0 : ZS Q w A n cap (packN c) c B T i W0 R L m V := ⟨hz0, (HR.out.notZ HLT.out.1 HLT.out.2).below hz0.z.bel, (HV.out.notZ HLT.out.1 HLT.out.2).below hz0.z.bel⟩
  have hfr := hs0.z.fro
  obtain ⟨y0, y1, y2, y3, y4⟩ := hs0.evc
  clear HZ0 hB hT HW0 hz0
  go_upto_region 2 with (fail)
  have hs1 := hs0.ev 0 0 0
  unfold evWz at hs1
  obtain ⟨W1, hW1⟩ : ∃ W1, W1 = (((((W0.setCell ⟨B, 40, none⟩ (.int .i64 0)).setCell ⟨B, 41, none⟩ (.int .i64 0)).setCell ⟨B, 42, none⟩ (.int .i64 0)).setCell ⟨B, 43, none⟩ (.int .i64 0)).setCell ⟨B, 44, none⟩ (.int .i64 0)) := ⟨_, rfl⟩
  rw [← hW1] at hs1
  rw [← hW1]
  obtain ⟨m0, hm0⟩ : ∃ m0 : Zm, m0 = { m with ek := 0, ea := 0, eb := 0 } := ⟨_, rfl⟩
  rw [← hm0] at hs1
  have HM0 := Lib.hid hm0
  obtain ⟨V0, hV0⟩ : ∃ V0, V0 = evRow V 0 0 0 := ⟨_, rfl⟩
  rw [← hV0] at hs1
  have x0 := hs1.z.cell 0 hs1.v.c0
  rw [show m0.pc = 2 by rw [hm0]; exact HPC.out] at x0
  have HS1 := Lib.hid hs1
  have HZW0 : Hid (ZW c t m0) := Lib.hid (by rw [hm0]; exact HZW.out.ev 0 0 0)
  have HA1 := Lib.hid (HA.out.below hs1.z.z.bel)
  have HP0 : Hid (m0.pc = 2) := Lib.hid (by rw [hm0]; exact HPC.out)
  clear y0 y1 y2 y3 y4 hfr hs0 hs1 hW1 hV0 hm0 W0 HV
  have HE : Hid (LZ = adv L 1 1 ∧ mZ = zgive (fun tk => aNew (eOf c i) tk) { m0 with ek := 2, ea := m0.v, eb := m0.to } m0.v m0.to) := Lib.hid (by
    have e : zstp (zgOf c) (gOf c) (aNew (eOf c i)) L m = (adv L 1 1, zgive (fun tk => aNew (eOf c i) tk) { m0 with ek := 2, ea := m0.v, eb := m0.to } m0.v m0.to) := by
      rw [HM0.out, adv_eq]; simp only [zstp]; rw [if_neg (by rw [HPC.out]; decide), if_pos HPC.out]; rfl
    have := HLZ.out.symm.trans e
    simpa using this)
  have HF1 := Lib.hid (HS1.out.far HQ.out)
  obtain ⟨mv, hmv⟩ : ∃ x, x = m0.v := ⟨_, rfl⟩
  obtain ⟨mf, hmf⟩ : ∃ x, x = m0.to := ⟨_, rfl⟩
  have HMV := Lib.hid hmv; have HMF := Lib.hid hmf
  have HB0 : Hid ((0 ≤ mv ∧ mv ≤ 4294967295) ∧ 0 ≤ mf ∧ mf ≤ 4294967295) := Lib.hid (by have a := HZW0.out.v; have b := HZW0.out.tt; rw [hmv, hmf]; exact ⟨a, by omega⟩)
  clear hmv hmf
  go_upto_region 7 with (first
    | (go_at_call 49; (with_reducible refine (radd_any (NotZ Q B T) R n' capR L 1 1 _ HN.out HN2.out HS1.out.r HF1.out).mono ?_); rintro r w2 ⟨R2, cap2, rfl, hx, hb⟩; have HS2 := Lib.hid ((HS1.out.step hb).row hx); have HA2 := Lib.hid (HA1.out.below hb); clear hb hx)
    | fail)
  have x2 := HS2.out.z.cell 2 HS2.out.v.c2
  have x6 := HS2.out.z.cell 6 HS2.out.v.c6
  rw [← HMV.out] at x2
  rw [← HMF.out] at x6
  have hfr := HS2.out.z.fro
  obtain ⟨y0, y1, y2, y3, y4⟩ := HS2.out.evc
  clear x0
  go_upto_region 8 with (fail)
  have hs3 := HS2.out.ev 2 mv mf
  unfold evWz at hs3
  obtain ⟨W3, hW3⟩ : ∃ W3, W3 = (((((w2.setCell ⟨B, 40, none⟩ (.int .i64 2)).setCell ⟨B, 41, none⟩ (.int .i64 0)).setCell ⟨B, 42, none⟩ (.int .i64 mv)).setCell ⟨B, 43, none⟩ (.int .i64 mf)).setCell ⟨B, 44, none⟩ (.int .i64 0)) := ⟨_, rfl⟩
  rw [← hW3] at hs3
  rw [← hW3]
  obtain ⟨V3, hV3⟩ : ∃ V3, V3 = evRow V0 2 mv mf := ⟨_, rfl⟩
  rw [← hV3] at hs3
  clear hW3 hV3
  clear x2 x6 hfr y0 y1 y2 y3 y4
  obtain ⟨m3, hm3⟩ : ∃ m3 : Zm, m3 = { m0 with ek := 2, ea := mv, eb := mf } := ⟨_, rfl⟩
  rw [← hm3] at hs3
  have x2 := hs3.z.cell 2 hs3.v.c2
  have x6 := hs3.z.cell 6 hs3.v.c6
  rw [show m3.v = mv by rw [hm3, HMV.out]] at x2
  rw [show m3.to = mf by rw [hm3, HMF.out]] at x6
  obtain ⟨a0, a1⟩ := hs3.z.acells
  obtain ⟨q0, q1, q2, q3, q4, q5, q6, q7, q8, q9, q10, q11⟩ := hs3.z.ccells
  have HS3 := Lib.hid hs3
  have HA3 := Lib.hid (HA.out.below hs3.z.z.bel)
  have HE2 : Hid (LZ = adv L 1 1 ∧ mZ = zgive (fun tk => aNew (eOf c i) tk) m3 mv mf) := Lib.hid (by
    have := HE.out
    exact ⟨this.1, by rw [this.2, hm3, HMV.out, HMF.out]⟩)
  clear hs3 hm3 HE
  go_wp2_with (first
    | (refine wpList_loadZ rfl (.tmp 7) rfl B V3 rfl HS3.out.z.z.bm HS3.out.v.size ?_)
    | (go_at_call 50; (with_reducible refine (give_any (NotZ Q B T) A n cap (packN c) i m3 V3 mv mf _ HA3.out HS3.out.v HI.out.1 HI.out.2 HB0.out.1.1 HB0.out.1.2 HB0.out.2.1 HB0.out.2.2).mono ?_); rintro r w4 ⟨V4, rfl, hv4, hb⟩; have HS4 := Lib.hid (HS3.out.step hb); have HV4 := Lib.hid hv4; clear hb hv4)
    | (refine wpList_storeZ rfl (.tmp 9) (.tmp 52) rfl T zero45 V4 rfl rfl HS4.out.z.z.br rfl HV4.out.size HV4.out.one ?_)
    | fail)
  obtain ⟨hl, hr, hv, hb⟩ := HS4.out.outV HV4.out
  exact bodyPost_ret (v := .tuple #[.slice R2 n' cap2, .agg V4]) (res2 Tryz.results18 _ _ _ _ _ rfl rfl hl) rfl ⟨R2, cap2, V4, rfl, by rw [HE2.out.1]; exact hr, by rw [HE2.out.2]; exact hv, hb⟩
end Go.Proofs.YtpocihddecemfaaGreat

namespace Go.Proofs.YtpocihddecemfaaGreat
open Go.RowKit
set_option linter.unusedVariables false
open Lay (plcc plc shOf packN nodesN OkC Cfg Norm firstV Rep lenL things roomsI)
theorem rzstep_any {c : Cfg} (hc : OkC c) {t : Int} (Q : Nat → Prop) (A : Option Addr) (n cap : Nat) (R : Option Addr) (n' capR : Nat) (L : List Int) (i : Int) (m : Zm) (V : Array Value) (w : World) (hA : IsA w c A n) (hn : n' = L.length) (hn2 : n' ≤ 1000000) (hR : ReadsW Q w R L) (hQ : ∀ b, w.heap.size ≤ b → Q b) (h : ZV Q w c i m V) (hi : 0 ≤ i ∧ i < c.mr) (zw : ZW c t m) (ww : WW L) (ht : t ≤ 900000000) (hwon : m.pc = 5 → m.c.won = false) :
    Calls Tryz.prog 18 #[aVal A n cap (packN c), Lay.cfgV c, .slice R n' capR, .agg V] w (SomeZ Q w n' c i (zstp (zgOf c) (gOf c) (aNew (eOf c i)) L m).1 (zstp (zgOf c) (gOf c) (aNew (eOf c i)) L m).2) := by
  have i0 : decide (i < 0) = false := by simp; omega
  have i1 : decide (c.mr ≤ i) = false := by simp; omega
  have hp := zw.pc
  have : m.pc = 0 ∨ m.pc = 1 ∨ m.pc = 2 ∨ m.pc = 3 ∨ m.pc = 4 ∨ m.pc = 5 ∨ m.pc = 6 := by omega
  rcases this with p | p | p | p | p | p | p
  · exact rzs_0 hc Q A n cap R n' capR L i m V w hA hn hn2 hR hQ h i0 i1 zw ww ht p
  · exact rzs_1 hc Q A n cap R n' capR L i m V w hA hn hn2 hR hQ h i0 i1 zw ww ht p
  · exact rzs_2 hc Q A n cap R n' capR L i m V w hA hn hn2 hR hQ h i0 i1 zw ww ht p
  · exact rzs_3 hc Q A n cap R n' capR L i m V w hA hn hn2 hR hQ h i0 i1 zw ww ht p
  · exact rzs_4 hc Q A n cap R n' capR L i m V w hA hn hn2 hR hQ h i0 i1 zw ww ht p
  · exact rzs_5 hc Q A n cap R n' capR L i m V w hA hn hn2 hR hQ h i0 i1 zw ww ht p (hwon p)
  · exact rzs_6 hc Q A n cap R n' capR L i m V w hA hn hn2 hR hQ h i0 i1 zw ww ht p
theorem zwon {c : Cfg} {i : Int} {L : List Int} {m : Zm} (h : m.pc = 5 → m.c.won = false) (h5 : m.pc = 5 → m.c.pc ≠ 0 ∧ m.c.pc ≤ 4) :
    (zstp (zgOf c) (gOf c) (aNew (eOf c i)) L m).2.pc = 5 → (zstp (zgOf c) (gOf c) (aNew (eOf c i)) L m).2.c.won = false := by
  unfold zstp
  simp only
  by_cases p1 : m.pc = 1
  · rw [if_pos p1]
    intro e
    have e : (zhead (zgOf c) L { m with ek := 0, ea := 0, eb := 0 }).pc = 5 := e
    unfold zhead at e
    simp only at e
    repeat' split at e
    all_goals omega
  rw [if_neg p1]
  by_cases p2 : m.pc = 2
  · rw [if_pos p2]; intro e; simp [zgive] at e
  rw [if_neg p2]
  by_cases p3 : m.pc = 3
  · rw [if_pos p3]
    intro e
    exfalso
    simp only [zrest] at e
    by_cases q : (astp (gOf c) L m.d).2.pc = 0
    · rw [if_pos q] at e
      dsimp only at e
      split at e <;> omega
    · rw [if_neg q] at e
      dsimp only at e
      omega
  rw [if_neg p3]
  by_cases p4 : m.pc = 4
  · rw [if_pos p4]
    intro e
    by_cases q : 1 ≤ ldc L ((zgOf c).sl m.v m.at') ∧ ldc L ((zgOf c).sl m.v m.at') ≤ (zgOf c).nn
    · simp only [if_pos q]; rfl
    · exfalso
      simp only [if_neg q, zrest] at e
      split at e <;> omega
  rw [if_neg p4]
  by_cases p5 : m.pc = 5
  · rw [if_pos p5]
    have hw := h p5
    have h5 := h5 p5
    intro e
    by_cases q : (cstp (zgOf c).wk L m.c).2.pc ≠ 0
    · simp only [if_pos q]
      unfold cstp at q ⊢
      by_cases c1 : m.c.pc = 1
      · simp only [if_pos c1] at q ⊢
        split <;> exact hw
      · simp only [if_neg c1] at q ⊢
        by_cases c2 : m.c.pc = 2
        · simp only [if_pos c2]; exact hw
        · simp only [if_neg c2] at q ⊢
          by_cases c3 : m.c.pc = 3
          · simp only [if_pos c3] at q ⊢
            split
            · rename_i hh; simp only [if_pos hh] at q; exact absurd rfl q
            · exact hw
          · simp only [if_neg c3] at q ⊢
            by_cases c4 : m.c.pc = 4
            · simp only [if_pos c4] at q; exact absurd rfl q
            · simp only [if_neg c4]; exact hw
    · exfalso
      simp only [if_neg q] at e
      by_cases q2 : (cstp (zgOf c).wk L m.c).2.won = true
      · simp only [if_pos q2, zgive] at e; omega
      · simp only [if_neg q2, zrest] at e
        split at e <;> omega
  rw [if_neg p5]
  by_cases p6 : m.pc = 6
  · rw [if_pos p6]; intro e; simp at e
  rw [if_neg p6]
  intro e; exact absurd e p5
end Go.Proofs.YtpocihddecemfaaGreat
