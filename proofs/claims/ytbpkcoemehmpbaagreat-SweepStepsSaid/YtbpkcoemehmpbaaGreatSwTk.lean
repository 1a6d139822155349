/- The document's own part that is swept: how one is taken; walked. -/
import Derived.Test.YtbpkcoemehmpbaaGreatSwZv
namespace Go.Proofs.YtbpkcoemehmpbaaGreat
open Go.RowKit
set_option linter.unusedVariables false
set_option linter.unusedSimpArgs false
set_option linter.unnecessarySimpa false
set_option maxRecDepth 100000
open Lay (plcc plc shOf packN nodesN OkC Cfg Norm firstV Rep lenL things partsC roomsI)

/-- The boxes of the configuration, of the machine, of the result. -/
structure TC (w w' : World) (c : Cfg) (B R : Nat) (V : Array Value) : Prop where
  z : ZB w w' B R V
  lo : w.heap.size < B ∧ w.heap.size < R
  bc : w'.heap[w.heap.size]? = some (.cells #[.int .i64 c.a, .int .i64 c.b, .int .i64 c.c, .int .i64 c.d, .int .i64 c.e, .int .i64 c.mr, .int .i64 c.mu, .int .i64 c.dq, .int .i64 c.ch, .int .i64 c.bf, .int .i64 c.rt, .int .i64 c.sw] 38 (0, 0))
section
variable {w w' w2 : World} {c : Cfg} {B R : Nat} {V U : Array Value}
theorem TC.step (h : TC w w' c B R V) (hb : Below w'.heap.size w' w2) : TC w w2 c B R V :=
  ⟨h.z.step hb, h.lo, (hb.block _ (Array.getElem?_eq_some_iff.1 h.bc).1).trans h.bc⟩
theorem TC.put (h : TC w w' c B R V) (k : Nat) (v : Value) : TC w (w'.setCell ⟨B, k, none⟩ v) c B R (V.setIfInBounds k v) := by
  have u := (row_put h.z.bm k v).2
  have lo := h.lo
  exact ⟨h.z.put k v, h.lo, (u.block _ (Array.getElem?_eq_some_iff.1 h.bc).1 (by omega) (by omega)).trans h.bc⟩
theorem TC.set (h : TC w w' c B R V) (hu : U.size = V.size) : TC w (w'.setCells B 0 U.toList) c B R U := by
  have u := (row_all (U := U) h.z.bm hu.symm).2
  have lo := h.lo
  exact ⟨h.z.set hu, h.lo, (u.block _ (Array.getElem?_eq_some_iff.1 h.bc).1 (by omega) (by omega)).trans h.bc⟩
theorem TC.ccells (h : TC w w' c B R V) : CfgC w.heap.size c w' := by
  refine ⟨?_, ?_, ?_, ?_, ?_, ?_, ?_, ?_, ?_, ?_, ?_, ?_⟩ <;> exact cell_of_row _ _ _ _ _ _ h.bc
theorem TC.cell (h : TC w w' c B R V) (k : Nat) {v : Value} (hv : V[k]? = some v) : w'.cell? ⟨B, k, none⟩ = some v := (row_get h.z.bm k).trans hv
theorem TC.fro (h : TC w w' c B R V) (k : Nat) : w'.frozen? ⟨B, k, none⟩ = false := row_fro h.z.bm k
theorem TC.new (w : World) (c : Cfg) (V : Array Value) :
    TC w (((w.alloc (.cells #[.int .i64 c.a, .int .i64 c.b, .int .i64 c.c, .int .i64 c.d, .int .i64 c.e, .int .i64 c.mr, .int .i64 c.mu, .int .i64 c.dq, .int .i64 c.ch, .int .i64 c.bf, .int .i64 c.rt, .int .i64 c.sw] 38)).alloc (.cells V 55)).alloc (.cells #[.int .i64 0, .int .u64 0, .int .u64 0, .int .i64 0, .int .i64 0, .int .i64 0, .int .i64 0, .int .i64 0, .int .i64 0, .slice none 0 0, .int .u32 0, .int .u64 0, .int .u32 0, .int .i64 0, .int .i64 0, .int .i64 0, .int .i64 0, .int .i64 0, .int .i64 0] 55)) c (w.heap.size + 1) (w.heap.size + 1 + 1) V := by
  obtain ⟨W1, h1⟩ : ∃ W1, W1 = w.alloc (.cells #[.int .i64 c.a, .int .i64 c.b, .int .i64 c.c, .int .i64 c.d, .int .i64 c.e, .int .i64 c.mr, .int .i64 c.mu, .int .i64 c.dq, .int .i64 c.ch, .int .i64 c.bf, .int .i64 c.rt, .int .i64 c.sw] 38) := ⟨_, rfl⟩
  have b1 : Below w.heap.size w W1 := by rw [h1]; exact below_alloc0 (Below.refl _ _) _
  have g1 : W1.heap[w.heap.size]? = some (.cells #[.int .i64 c.a, .int .i64 c.b, .int .i64 c.c, .int .i64 c.d, .int .i64 c.e, .int .i64 c.mr, .int .i64 c.mu, .int .i64 c.dq, .int .i64 c.ch, .int .i64 c.bf, .int .i64 c.rt, .int .i64 c.sw] 38 (0, 0)) := by rw [h1]; exact Go.heap_alloc_new _ _
  have s1 : W1.heap.size = w.heap.size + 1 := by rw [h1]; simp
  rw [← h1]
  have hz := ZB.two W1 V
  have hb := hz.bel
  rw [s1] at hz
  refine ⟨⟨below_step b1 (by omega) hb, ⟨by omega, by omega, by omega⟩, hz.bm, hz.br⟩, ⟨by omega, by omega⟩, ?_⟩
  exact (hb.block _ (by omega)).trans g1
end
theorem u32_of (x : Int) : IntKind.u32.wrap x = x % 4294967296 := by rw [IntKind.wrap_u32]

set_option maxHeartbeats 16000000 in
theorem rtake1 {c : Cfg} (hc : OkC c) (Q : Nat → Prop) (R : Option Addr) (n' capR : Nat) (L : List Int) (m : Wn) (V : Array Value) (w : World) (hn : n' = L.length) (hR : Reads .u64 w R L) (h : ZV Q w m V) (hcy : 0 ≤ m.cy ∧ m.cy ≤ 18446744073709551615) (hw : 0 ≤ m.w ∧ m.w ≤ 18446744073709551615) (ww : WW L) (hp : m.pc = 1) :
    Calls Tryz.prog 42 #[Lay.cfgV c, .slice R n' capR, .agg V] w fun e w' => ∃ V', e = .returned (.tuple #[.slice R n' capR, .agg V']) ∧ ZV Q w' { m with w := ldq L 2, pc := if hiw (ldq L 2) = m.cy % 4294967296 ∧ low (ldq L 2) < partsC c then 2 else 0 } V' ∧ Below w.heap.size w w' := by
  have hz := TC.new w c V
  obtain ⟨W0, hW0⟩ : ∃ W0, W0 = (((w.alloc (.cells #[.int .i64 c.a, .int .i64 c.b, .int .i64 c.c, .int .i64 c.d, .int .i64 c.e, .int .i64 c.mr, .int .i64 c.mu, .int .i64 c.dq, .int .i64 c.ch, .int .i64 c.bf, .int .i64 c.rt, .int .i64 c.sw] 38)).alloc (.cells V 55)).alloc (.cells #[.int .i64 0, .int .u64 0, .int .u64 0, .int .i64 0, .int .i64 0, .int .i64 0, .int .i64 0, .int .i64 0, .int .i64 0, .slice none 0 0, .int .u32 0, .int .u64 0, .int .u32 0, .int .i64 0, .int .i64 0, .int .i64 0, .int .i64 0, .int .i64 0, .int .i64 0] 55)) := ⟨_, rfl⟩
  rw [← hW0] at hz
  obtain ⟨g, hg⟩ : ∃ g, g = ldq L 2 := ⟨_, rfl⟩
  have hgr : 0 ≤ g ∧ g ≤ 18446744073709551615 := by rw [hg]; exact ww.ldq 2
  have hg2 : g = ldv L 2 := by rw [hg, ldv_eq]
  rw [← hg]
  obtain ⟨cy, hcy2⟩ : ∃ cy, cy = m.cy := ⟨_, rfl⟩
  obtain ⟨mw, hmw⟩ : ∃ mw, mw = m.w := ⟨_, rfl⟩
  obtain ⟨P, hP⟩ : ∃ P, P = partsC c := ⟨_, rfl⟩
  rw [← hcy2] at hcy ⊢
  rw [← hmw] at hw
  rw [← hP]
  obtain ⟨p9, hp9⟩ : ∃ p9 : Nat, p9 = (if hiw g = cy % 4294967296 ∧ low g < P then 2 else 0) := ⟨_, rfl⟩
  rw [← hp9]
  have HP9 := Lib.hid hp9
  clear hp9
  obtain ⟨w0, w1⟩ := hw
  obtain ⟨g0, g1⟩ := hgr
  obtain ⟨B, hB⟩ : ∃ B, B = w.heap.size + 1 := ⟨_, rfl⟩
  obtain ⟨T, hT⟩ : ∃ T, T = w.heap.size + 1 + 1 := ⟨_, rfl⟩
  rw [← hT, ← hB] at hz
  have x0 := hz.cell 0 h.c0
  rw [hp] at x0
  have x1 := hz.cell 1 h.c1
  have x2 := hz.cell 2 h.c2
  rw [← hcy2] at x1
  rw [← hmw] at x2
  have hfr := hz.fro
  have ewm : IntKind.i64.wrap (mw % 4294967296) = mw % 4294967296 := IntWalk.i64_in _ (by omega)
  have ewg : IntKind.i64.wrap (g % 4294967296) = g % 4294967296 := IntWalk.i64_in _ (by omega)
  have ewc : IntKind.u32.wrap cy = cy % 4294967296 := u32_of cy
  have HZ0 := Lib.hid hz; have HW0 := Lib.hid hW0; have HN := Lib.hid hn; have HR := Lib.hid hR; have HV := Lib.hid h; have HG := Lib.hid hg2; have HP := Lib.hid hP; have HOK := Lib.hid hc
  have HXS := Lib.hid (And.intro x0 (And.intro x1 (And.intro x2 hfr)))
  have HBT := Lib.hid (And.intro hB hT); have HCM := Lib.hid hcy2
  clear hmw hcy2 hz hW0 hn hR h hg hg2 hP hc ww x0 x1 x2 hfr hB hT
  go_enter Tryz.func42, Tryz.ntmps42
  go_upto_region 1 with (fail)
  rw [← HW0.out, ← HBT.out.2, ← HBT.out.1]
  obtain ⟨x0, x1, x2, hfr⟩ := HXS.out
  go_upto_region 5 with (first
    | (go_at_call 77; (with_reducible refine (refLow_any mw w0 w1 _).mono ?_); rintro r w2 ⟨rfl, hw⟩; cases hw)
    | (go_at_call 43; (with_reducible refine (rload_any R n' capR L 2 _ HN.out (HR.out.below HZ0.out.z.bel (Nat.le_refl _))).mono ?_); rintro r w3 ⟨rfl, hw⟩; cases hw; rw [← HG.out])
    | fail)
  have hz1 := (HZ0.out.put 2 (.int .u64 g)).put 0 (.int .i64 0)
  obtain ⟨W1, hW1⟩ : ∃ W1, W1 = ((W0.setCell ⟨B, 2, none⟩ (.int .u64 g)).setCell ⟨B, 0, none⟩ (.int .i64 0)) := ⟨_, rfl⟩
  rw [← hW1] at hz1 ⊢
  obtain ⟨V1, hV1⟩ : ∃ V1, V1 = (V.setIfInBounds 2 (.int .u64 g)).setIfInBounds 0 (.int .i64 0) := ⟨_, rfl⟩
  have hv1 : ZV Q w { m with w := g, pc := 0 } V1 := by rw [hV1]; exact (HV.out.w_ g).pc 0
  rw [← hV1] at hz1
  have HZ1 := Lib.hid hz1; have HV1 := Lib.hid hv1
  have HCL : Hid (∀ W, TC w W c B T V1 → W.cell? ⟨B, 1, none⟩ = some (.int .u64 cy) ∧ W.cell? ⟨B, 2, none⟩ = some (.int .u64 g) ∧ CfgC w.heap.size c W) := Lib.hid (fun W hz => ⟨by rw [HCM.out]; exact hz.cell 1 hv1.c1, hz.cell 2 hv1.c2, hz.ccells⟩)
  clear hz1 hv1 hW1 hV1 x0 x1 x2 hfr HZ0 HXS
  have HZD := Lib.hid (HZ1.out.step (Below.refl _ _).drew)
  obtain ⟨z1, z2, q0, q1, q2, q3, q4, q5, q6, q7, q8, q9, q10, q11⟩ := HCL.out _ HZD.out
  by_cases hE : g / 4294967296 = cy % 4294967296
  · by_cases hL : g % 4294967296 < P
    · have HPE : Hid (p9 = 2) := Lib.hid (HP9.out.trans (if_pos ⟨hE, hL⟩))
      have d5 : (g / 4294967296 == cy % 4294967296) = true := by simpa using hE
      have d6 : decide (g % 4294967296 < P) = true := by simpa using hL
      clear hE hL
      go_region_held3 (fun w' => w'.cell? ⟨B, 1, none⟩ = some (.int .u64 cy) ∧ w'.cell? ⟨B, 2, none⟩ = some (.int .u64 g) ∧ CfgC w.heap.size c w')
        (first | (with_reducible exact HCL.out _ HZ2.out) | (with_reducible exact HCL.out _ HZD.out) | fail)
        (first
          | (go_at_call 78; (with_reducible refine (refHigh_any g g0 g1 _).mono ?_); rintro r w5 ⟨rfl, hw⟩; cases hw)
          | (go_at_call 77; (with_reducible refine (refLow_any g g0 g1 _).mono ?_); rintro r w6 ⟨rfl, hw⟩; cases hw)
          | (go_at_call 79; (with_reducible refine (rparts_any HOK.out _).mono ?_); rintro r w7 ⟨rfl, hb⟩; rw [← HP.out]; have HZ2 := Lib.hid (HZD.out.step hb); clear hb)
          | fail)
      have hf2 := HZ2.out.fro
      have y0 := HZ2.out.cell 0 HV1.out.c0
      go_upto_region 7 with (fail)
      have hz3 := HZ2.out.put 0 (.int .i64 2)
      obtain ⟨W3, hW3⟩ : ∃ W3, W3 = w7.setCell ⟨B, 0, none⟩ (.int .i64 2) := ⟨_, rfl⟩
      rw [← hW3] at hz3 ⊢
      obtain ⟨V2, hV2⟩ : ∃ V2, V2 = V1.setIfInBounds 0 (.int .i64 2) := ⟨_, rfl⟩
      have hv2 : ZV Q w { m with w := g, pc := 2 } V2 := by rw [hV2]; exact HV1.out.pc 2
      rw [← hV2] at hz3
      have HZ3 := Lib.hid hz3; have HV2 := Lib.hid hv2
      clear hz3 hv2 hV2 hW3 hf2 y0 HCL HZ2 HZD HZ1 HV1 z1 z2 q0 q1 q2 q3 q4 q5 q6 q7 q8 q9 q10 q11
      have HK5 := Lib.hid (HZ3.out.step (Below.refl _ _).drew)
      refine wp_region_any (by kernel_rfl) ?_
      change wpAny _ _ _ _ 4 _ _ (World.drew _)
      refine wpAny_take (i := 0) (v := .slice R n' capR) rfl (by kernel_rfl) (by kernel_rfl) (by kernel_rfl) (fun _ _ _ h => h) (Or.inl ⟨by rfl, fun w => by exact BigFrame.run_move (.tmp 1) rfl w⟩) ?_
      refine wpAny_take (i := 2) (v := .slice R n' capR) rfl (by kernel_rfl) (by kernel_rfl) (by kernel_rfl) (fun _ _ _ h => h) (Or.inl ⟨by rfl, fun w => by exact BigFrame.run_assign (.tmp 40) rfl w⟩) ?_
      refine wpAny_ready (rs := [1]) (by kernel_rfl) (by decide) (AllReady.cons rfl (fun K' hK => ?_) AllReady.nil)
      rw [if_pos (by rfl)]
      refine wp_load_mid 55 (.tmp 5) rfl B 0 rfl _ _ (rng_all HK5.out.z.bm) row64.choose_spec.1 row64.choose_spec.2 (by rw [show V2.toList.length = 19 from by simpa using HV2.out.size]; kernel_rfl) (hK _ _ ?_)
      refine wpAny_ready (rs := [3]) (by kernel_rfl) (by decide) (AllReady.cons rfl (fun K' hK => ?_) AllReady.nil)
      rw [if_pos (by rfl)]
      refine wp_store_mid 55 (.tmp 7) (.tmp 41) rfl T 0 V2 rfl rfl (there_sub 0 _ HK5.out.z.br (by rw [HV2.out.size]; decide)) (by rw [HV2.out.size]; kernel_rfl) HV2.out.one (hK _ _ ?_)
      refine wpAny_done (by kernel_rfl) ?_ _
      obtain ⟨hb, hl⟩ := HK5.out.z.fin HV2.out.size
      go_wp2
      exact bodyPost_ret (v := .tuple #[.slice R n' capR, .agg V2]) (res2 Tryz.results42 _ _ _ _ _ rfl rfl hl) rfl ⟨V2, rfl, by rw [HPE.out, HCM.out]; exact HV2.out.below hb, hb⟩
    · have HPE : Hid (p9 = 0) := Lib.hid (HP9.out.trans (if_neg (fun h => hL h.2)))
      have d5 : (g / 4294967296 == cy % 4294967296) = true := by simpa using hE
      have d6 : decide (g % 4294967296 < P) = false := by simpa using hL
      clear hE hL
      go_region_held3 (fun w' => w'.cell? ⟨B, 1, none⟩ = some (.int .u64 cy) ∧ w'.cell? ⟨B, 2, none⟩ = some (.int .u64 g) ∧ CfgC w.heap.size c w')
        (first | (with_reducible exact HCL.out _ HZ2.out) | (with_reducible exact HCL.out _ HZD.out) | fail)
        (first
          | (go_at_call 78; (with_reducible refine (refHigh_any g g0 g1 _).mono ?_); rintro r w5 ⟨rfl, hw⟩; cases hw)
          | (go_at_call 77; (with_reducible refine (refLow_any g g0 g1 _).mono ?_); rintro r w6 ⟨rfl, hw⟩; cases hw)
          | (go_at_call 79; (with_reducible refine (rparts_any HOK.out _).mono ?_); rintro r w7 ⟨rfl, hb⟩; rw [← HP.out]; have HZ2 := Lib.hid (HZD.out.step hb); clear hb)
          | fail)
      clear HCL HZD z1 z2 q0 q1 q2 q3 q4 q5 q6 q7 q8 q9 q10 q11
      go_upto_region 7 with (fail)
      have HK5 := Lib.hid (HZ2.out.step (Below.refl _ _).drew)
      refine wp_region_any (by kernel_rfl) ?_
      change wpAny _ _ _ _ 4 _ _ (World.drew _)
      refine wpAny_take (i := 0) (v := .slice R n' capR) rfl (by kernel_rfl) (by kernel_rfl) (by kernel_rfl) (fun _ _ _ h => h) (Or.inl ⟨by rfl, fun w => by exact BigFrame.run_move (.tmp 1) rfl w⟩) ?_
      refine wpAny_take (i := 2) (v := .slice R n' capR) rfl (by kernel_rfl) (by kernel_rfl) (by kernel_rfl) (fun _ _ _ h => h) (Or.inl ⟨by rfl, fun w => by exact BigFrame.run_assign (.tmp 40) rfl w⟩) ?_
      refine wpAny_ready (rs := [1]) (by kernel_rfl) (by decide) (AllReady.cons rfl (fun K' hK => ?_) AllReady.nil)
      rw [if_pos (by rfl)]
      refine wp_load_mid 55 (.tmp 5) rfl B 0 rfl _ _ (rng_all HK5.out.z.bm) row64.choose_spec.1 row64.choose_spec.2 (by rw [show V1.toList.length = 19 from by simpa using HV1.out.size]; kernel_rfl) (hK _ _ ?_)
      refine wpAny_ready (rs := [3]) (by kernel_rfl) (by decide) (AllReady.cons rfl (fun K' hK => ?_) AllReady.nil)
      rw [if_pos (by rfl)]
      refine wp_store_mid 55 (.tmp 7) (.tmp 41) rfl T 0 V1 rfl rfl (there_sub 0 _ HK5.out.z.br (by rw [HV1.out.size]; decide)) (by rw [HV1.out.size]; kernel_rfl) HV1.out.one (hK _ _ ?_)
      refine wpAny_done (by kernel_rfl) ?_ _
      obtain ⟨hb, hl⟩ := HK5.out.z.fin HV1.out.size
      go_wp2
      exact bodyPost_ret (v := .tuple #[.slice R n' capR, .agg V1]) (res2 Tryz.results42 _ _ _ _ _ rfl rfl hl) rfl ⟨V1, rfl, by rw [HPE.out, HCM.out]; exact HV1.out.below hb, hb⟩
  · have HPE : Hid (p9 = 0) := Lib.hid (HP9.out.trans (if_neg (fun h => hE h.1)))
    have d5 : (g / 4294967296 == cy % 4294967296) = false := by simpa using hE
    have d5b : decide (g / 4294967296 = cy % 4294967296) = false := by simpa using hE
    have hud : ∀ b, (undef = Value.bool b) = False := fun b => eq_false (fun h => by cases h)
    have hud2 : ∀ b, (some undef = some (Value.bool b)) = False := fun b => eq_false (fun h => by cases h)
    clear z1 z2 q0 q1 q2 q3 q4 q5 q6 q7 q8 q9 q10 q11
    obtain ⟨z1, z2, q0, q1, q2, q3, q4, q5, q6, q7, q8, q9, q10, q11⟩ := HCL.out _ HZ1.out
    go_quiet (first
      | (go_at_call 78; exact (refHigh_any g g0 g1 _).mono fun _ _ ⟨he, hm⟩ => ⟨he, _, hm.symm⟩)
      | fail)
    have HZQ := Lib.hid (HZ1.out.step (below_drewN (Below.refl _ _) nq))
    clear HCL z1 z2 q0 q1 q2 q3 q4 q5 q6 q7 q8 q9 q10 q11
    go_upto_region 7 with (fail)
    have HK5 := Lib.hid (HZQ.out.step (Below.refl _ _).drew)
    refine wp_region_any (by kernel_rfl) ?_
    change wpAny _ _ _ _ 4 _ _ (World.drew _)
    refine wpAny_take (i := 0) (v := .slice R n' capR) rfl (by kernel_rfl) (by kernel_rfl) (by kernel_rfl) (fun _ _ _ h => h) (Or.inl ⟨by rfl, fun w => by exact BigFrame.run_move (.tmp 1) rfl w⟩) ?_
    refine wpAny_take (i := 2) (v := .slice R n' capR) rfl (by kernel_rfl) (by kernel_rfl) (by kernel_rfl) (fun _ _ _ h => h) (Or.inl ⟨by rfl, fun w => by exact BigFrame.run_assign (.tmp 40) rfl w⟩) ?_
    refine wpAny_ready (rs := [1]) (by kernel_rfl) (by decide) (AllReady.cons rfl (fun K' hK => ?_) AllReady.nil)
    rw [if_pos (by rfl)]
    refine wp_load_mid 55 (.tmp 5) rfl B 0 rfl _ _ (rng_all HK5.out.z.bm) row64.choose_spec.1 row64.choose_spec.2 (by rw [show V1.toList.length = 19 from by simpa using HV1.out.size]; kernel_rfl) (hK _ _ ?_)
    refine wpAny_ready (rs := [3]) (by kernel_rfl) (by decide) (AllReady.cons rfl (fun K' hK => ?_) AllReady.nil)
    rw [if_pos (by rfl)]
    refine wp_store_mid 55 (.tmp 7) (.tmp 41) rfl T 0 V1 rfl rfl (there_sub 0 _ HK5.out.z.br (by rw [HV1.out.size]; decide)) (by rw [HV1.out.size]; kernel_rfl) HV1.out.one (hK _ _ ?_)
    refine wpAny_done (by kernel_rfl) ?_ _
    obtain ⟨hb, hl⟩ := HK5.out.z.fin HV1.out.size
    go_wp2
    exact bodyPost_ret (v := .tuple #[.slice R n' capR, .agg V1]) (res2 Tryz.results42 _ _ _ _ _ rfl rfl hl) rfl ⟨V1, rfl, by rw [HPE.out, HCM.out]; exact HV1.out.below hb, hb⟩
end Go.Proofs.YtbpkcoemehmpbaaGreat
