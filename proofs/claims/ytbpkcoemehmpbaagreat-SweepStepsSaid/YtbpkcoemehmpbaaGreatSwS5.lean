/- A step of the document's own part that is swept (a node is freed); walked. -/
import Derived.Test.YtbpkcoemehmpbaaGreatJ19
import Derived.IntWalk
namespace Go.Proofs.YtbpkcoemehmpbaaGreat
open Go.RowKit
set_option linter.unusedVariables false
set_option linter.unusedSimpArgs false
set_option linter.unnecessarySimpa false
set_option maxRecDepth 100000
open Lay (plcc plc shOf packN nodesN OkC Cfg Norm firstV Rep lenL things partsC roomsI)

set_option maxHeartbeats 16000000 in
theorem rws_5 {c : Cfg} (hc : OkC c) (Q : Nat → Prop) (A : Option Addr) (n cap : Nat) (P : Int) (R : Option Addr) (n' capR : Nat) (L : List Int) (m : Wn) (V : Array Value) (w : World) (hA : IsA w c A n) (hn : n' = L.length) (hn2 : n' ≤ 1000000) (hR : ReadsW Q w R L) (hQ : ∀ b, w.heap.size ≤ b → Q b) (h : ZV Q w m V) (ww : WW L) (hp : m.pc = 5) (hvb : 1 ≤ m.v ∧ m.v ≤ nodesN c) :
    Calls Tryz.prog 17 #[aVal A n cap P, Lay.cfgV c, .slice R n' capR, .agg V] w (SomeZ Q w n' (ptq L (plcc c 15 m.v 0) 0) { m with ek := 5, ea := m.v, x := mPush ⟨plcc c 7 (Lay.kindV c m.v) 0, nxtL c⟩ m.v, pc := 6 }) := by
  have hz := ZC.new w A n cap P c V
  obtain ⟨W0, hW0⟩ : ∃ W0, W0 = ((((w.alloc (.cells #[.slice A n cap, .int .i64 P] 36)).alloc (.cells #[.int .i64 c.a, .int .i64 c.b, .int .i64 c.c, .int .i64 c.d, .int .i64 c.e, .int .i64 c.mr, .int .i64 c.mu, .int .i64 c.dq, .int .i64 c.ch, .int .i64 c.bf, .int .i64 c.rt, .int .i64 c.sw] 38)).alloc (.cells V 55)).alloc (.cells #[.int .i64 0, .int .u64 0, .int .u64 0, .int .i64 0, .int .i64 0, .int .i64 0, .int .i64 0, .int .i64 0, .int .i64 0, .slice none 0 0, .int .u32 0, .int .u64 0, .int .u32 0, .int .i64 0, .int .i64 0, .int .i64 0, .int .i64 0, .int .i64 0, .int .i64 0] 55)) := ⟨_, rfl⟩
  rw [← hW0] at hz
  obtain ⟨B, hB⟩ : ∃ B, B = w.heap.size + 1 + 1 := ⟨_, rfl⟩
  obtain ⟨T, hT⟩ : ∃ T, T = w.heap.size + 1 + 1 + 1 := ⟨_, rfl⟩
  rw [← hT, ← hB] at hz
  have hs0 := ZS.begin hz hR h
  have hev := hs0.evc
  have hfr := hs0.z.fro
  obtain ⟨m0, hm0⟩ : ∃ m0, m0 = wq m := ⟨_, rfl⟩
  have hp0 : m0.pc = 5 := by rw [hm0]; exact hp
  have hkk := node_kind hc hvb.1 hvb.2
  have hkl := Lay.ks_len hc
  have hn6 := (Lay.bds hc).n1
  have hkg := Lay.ks_get (c := c) (m.v - 1).toNat (by omega)
  rw [show (((m.v - 1).toNat : Nat) : Int) + 1 = m.v by omega] at hkg
  obtain ⟨v, hv⟩ : ∃ v, v = m.v := ⟨_, rfl⟩
  have hv0 : m0.v = v := by rw [hm0, hv]; rfl
  rw [← hv] at hvb hkk hkg ⊢
  have HVV := Lib.hid hv0
  obtain ⟨p, hpp⟩ : ∃ p, p = plcc c 15 v 0 := ⟨_, rfl⟩
  rw [← hpp]
  have HPP := Lib.hid hpp
  obtain ⟨L9, hL9⟩ : ∃ L9, L9 = ptq L p 0 := ⟨_, rfl⟩
  rw [← hL9]
  have hL9b : ptv L p 0 = L9 := by rw [hL9, ptv_eq]
  have HL9 := Lib.hid hL9b
  have HNM : Hid (Norm ⟨15, v, 0⟩) := Lib.hid (nrm 15 v 0 (by omega) (by omega) (fun h => by omega) (fun _ _ _ => rfl))
  obtain ⟨k, hk⟩ : ∃ k, k = Lay.kindV c v := ⟨_, rfl⟩
  rw [← hk] at hkk hkg ⊢
  obtain ⟨hd, hhd⟩ : ∃ hd, hd = plcc c 7 k 0 := ⟨_, rfl⟩
  rw [← hhd]
  have HHD := Lib.hid hhd
  obtain ⟨nk, hnk⟩ : ∃ nk, nk = (Lay.ksOf c).length := ⟨_, rfl⟩
  rw [← hnk] at hkl
  have HNK := Lib.hid hnk; have HKG := Lib.hid hkg
  have hv2 : 0 ≤ v - 1 := by omega
  have hv3 : v - 1 < (nk : Int) := by omega
  have ew : IntKind.i64.wrap (v - 1) = v - 1 := IntWalk.i64_in _ (by omega)
  have HVB := Lib.hid (show 1 ≤ v ∧ v ≤ 60 by omega)
  have HNX : Hid ((nxtL c).length ≤ 1000000) := Lib.hid (by rw [show (nxtL c).length = (nodesN c).toNat by simp [nxtL]]; omega)
  obtain ⟨it, hit⟩ : ∃ it, it = itemOf v := ⟨_, rfl⟩
  have HIT := Lib.hid hit
  obtain ⟨x9, hx9⟩ : ∃ x9, x9 = mPush ⟨hd, nxtL c⟩ v := ⟨_, rfl⟩
  rw [← hx9]
  have HX9 := Lib.hid hx9
  obtain ⟨m9, hm9⟩ : ∃ m9 : Wn, m9 = { m with v := v, ek := 5, ea := v, x := x9, pc := 6 } := ⟨_, rfl⟩
  rw [← hm9]
  have hm9b : m9 = { m0 with ek := 5, ea := v, x := x9, pc := 6 } := by rw [hm9, hm0, hv]; rfl
  have HM9 := Lib.hid hm9b
  clear hv hv0 hpp hL9 hL9b hk hkk hkg hhd hnk hkl hn6 hvb hit hx9 hm9 hm9b
  have HS0 := Lib.hid hs0; have HW0 := Lib.hid hW0; have HA := Lib.hid hA; have HN := Lib.hid hn; have HN2 := Lib.hid hn2; have HOK := Lib.hid hc; have HWW := Lib.hid ww; have HQ := Lib.hid hQ; have HP0 := Lib.hid hp0; have HM0 := Lib.hid hm0
  have HXS := Lib.hid (And.intro hev hfr); have HBT := Lib.hid (And.intro hB hT)
  clear hz hs0 hW0 hA hn hn2 hc ww hQ hp0 hm0 hev hfr hB hT hR h hp
  go_enter Tryz.func17, Tryz.ntmps17
  go_upto_region 1 with (fail)
  rw [← HW0.out, ← HBT.out.2, ← HBT.out.1]
  obtain ⟨⟨y0, y1, y2, y3, y4⟩, hfr⟩ := HXS.out
  go_upto_region 2 with (fail)
  have hs1 := HS0.out.ev 0 0
  unfold evWz at hs1
  obtain ⟨W1, hW1⟩ : ∃ W1, W1 = (((((W0.setCell ⟨B, 14, none⟩ (.int .i64 0)).setCell ⟨B, 15, none⟩ (.int .i64 0)).setCell ⟨B, 16, none⟩ (.int .i64 0)).setCell ⟨B, 17, none⟩ (.int .i64 0)).setCell ⟨B, 18, none⟩ (.int .i64 0)) := ⟨_, rfl⟩
  rw [← hW1] at hs1
  rw [← hW1]
  obtain ⟨V0, hV0⟩ : ∃ V0, V0 = evRow V 0 0 := ⟨_, rfl⟩
  rw [← hV0] at hs1
  have hs1 : ZS Q w A n cap P c B T W1 R L m0 V0 := by rw [HM0.out]; exact hs1
  have x0 := hs1.z.cell 0 hs1.v.c0
  rw [HP0.out] at x0
  have HS1 := Lib.hid hs1
  have HA1 := Lib.hid (HA.out.below hs1.z.z.bel)
  have HF1 := Lib.hid (hs1.far HQ.out)
  clear y0 y1 y2 y3 y4 hfr hs1 hW1 hV0 HXS HS0 HW0
  obtain ⟨a0, a1⟩ := HS1.out.z.acells
  have x4 := HS1.out.z.cell 4 HS1.out.v.c4
  rw [HVV.out] at x4
  go_upto_region 18 with (first
    | (go_at_call 44; (with_reducible refine (rat_any c A n cap P 15 v 0 _ HA1.out HNM.out).mono ?_); rintro r w2 ⟨rfl, hb⟩; rw [← HPP.out]; have HS2 := Lib.hid (HS1.out.step hb); have HF2 := Lib.hid (HS2.out.far HQ.out); clear hb x0 x4 a0 a1)
    | (go_at_call 14; (with_reducible refine (rput_any (NotZ Q B T) R n' capR L p 0 _ HN.out HN2.out HS2.out.r HF2.out).mono ?_); rintro r w3 ⟨R2, cap2, rfl, hr, hb⟩; rw [HL9.out] at hr; have HS3 := Lib.hid ((HS2.out.step hb).row hr); clear hr hb; have x4 := HS3.out.z.cell 4 HS3.out.v.c4; rw [HVV.out] at x4; have hfr := HS3.out.z.fro; obtain ⟨y0, y1, y2, y3, y4⟩ := HS3.out.evc)
    | fail)
  go_upto_region 19 with (fail)
  have hs4 := HS3.out.ev 5 v
  unfold evWz at hs4
  obtain ⟨W4, hW4⟩ : ∃ W4, W4 = (((((w3.setCell ⟨B, 14, none⟩ (.int .i64 5)).setCell ⟨B, 15, none⟩ (.int .i64 0)).setCell ⟨B, 16, none⟩ (.int .i64 v)).setCell ⟨B, 17, none⟩ (.int .i64 0)).setCell ⟨B, 18, none⟩ (.int .i64 0)) := ⟨_, rfl⟩
  obtain ⟨V4, hV4⟩ : ∃ V4, V4 = evRow V0 5 v := ⟨_, rfl⟩
  obtain ⟨m4, hm4⟩ : ∃ m4 : Wn, m4 = { m0 with ek := 5, ea := v } := ⟨_, rfl⟩
  rw [← hW4, ← hV4, ← hm4] at hs4
  rw [← hW4]
  have hv4 : m4.v = v := by rw [hm4]; exact HVV.out
  have HS4 := Lib.hid hs4; have HM4 := Lib.hid hm4; have HV4 := Lib.hid hv4
  clear hs4 hW4 hV4 hm4 hv4 x4 hfr y0 y1 y2 y3 y4 HS1 HS2 HS3
  have HCL : Hid (∀ W m' V', ZS Q w A n cap P c B T W R2 L9 m' V' → m'.v = v → (W.cell? ⟨w.heap.size, 0, none⟩ = some (.slice A n cap) ∧ W.cell? ⟨w.heap.size, 1, none⟩ = some (.int .i64 P)) ∧ CfgC (w.heap.size + 1) c W ∧ W.cell? ⟨B, 4, none⟩ = some (.int .i64 v)) := Lib.hid (fun W m' V' hz e => ⟨hz.z.acells, hz.z.ccells, by rw [← e]; exact hz.z.cell 4 hz.v.c4⟩)
  have HSD := Lib.hid (HS4.out.step (Below.refl _ _).drew)
  obtain ⟨⟨a0, a1⟩, ⟨q0, q1, q2, q3, q4, q5, q6, q7, q8, q9, q10, q11⟩, x4⟩ := HCL.out _ _ _ HSD.out HV4.out
  clear a0 a1 q0 q1 q2 q3 q4 q5 q6 q7 q8 q9 q10 q11 x4
  refine wp_region_held_drew (S := (fun w' => (w'.cell? ⟨w.heap.size, 0, none⟩ = some (.slice A n cap) ∧ w'.cell? ⟨w.heap.size, 1, none⟩ = some (.int .i64 P)) ∧ CfgC (w.heap.size + 1) c w' ∧ w'.cell? ⟨B, 4, none⟩ = some (.int .i64 v))) (by kernel_rfl) (HCL.out _ _ _ HSD.out HV4.out) (fun hHeld => ?_)
  change wpAnyH _ _ _ _ _ 16 _ _ (World.drew _)
  refine wpAnyH_take (i := 0) (oi := { dst := some 78, op := Op.load 36 (.tmp 4), type := 36, pos := "ref.go:101", after := #[], guard := none }) (v := .agg #[.slice A n cap, .int .i64 P]) rfl (by kernel_rfl) (by kernel_rfl) (by kernel_rfl) (fun _ _ _ h => h) (Or.inl ⟨by rfl, fun w' hSw => by (obtain ⟨⟨a0, a1⟩, ⟨q0, q1, q2, q3, q4, q5, q6, q7, q8, q9, q10, q11⟩, x4⟩ := hSw; go_simp)⟩) (by assumption) ?_
  try simp only [Act.put, List.setIfInBounds_toArray, List.set_cons_zero, List.set_cons_succ]
  refine wpAnyH_take (i := 1) (oi := { dst := some 79, op := Op.load 38 (.tmp 5), type := 38, pos := "ref.go:101", after := #[], guard := none }) (v := Lay.cfgV c) rfl (by kernel_rfl) (by kernel_rfl) (by kernel_rfl) (fun _ _ _ h => h) (Or.inl ⟨by rfl, fun w' hSw => by (obtain ⟨⟨a0, a1⟩, ⟨q0, q1, q2, q3, q4, q5, q6, q7, q8, q9, q10, q11⟩, x4⟩ := hSw; go_simp)⟩) (by assumption) ?_
  try simp only [Act.put, List.setIfInBounds_toArray, List.set_cons_zero, List.set_cons_succ]
  refine wpAnyH_take (i := 2) (oi := { dst := some 80, op := Op.fieldAddr 38 (.tmp 5) 0, type := 0, pos := "ref.go:101", after := #[], guard := none }) (v := .pointer (some ⟨w.heap.size + 1, 0, none⟩)) rfl (by kernel_rfl) (by kernel_rfl) (by kernel_rfl) (fun _ _ _ h => h) (Or.inl ⟨by rfl, fun w' hSw => by go_simp⟩) (by assumption) ?_
  try simp only [Act.put, List.setIfInBounds_toArray, List.set_cons_zero, List.set_cons_succ]
  refine wpAnyH_take (i := 3) (oi := { dst := some 81, op := Op.load 22 (.tmp 80), type := 22, pos := "ref.go:101", after := #[{ on := 2, ground := Ground.data }], guard := none }) (v := .agg #[.int .i64 c.a, .int .i64 c.b, .int .i64 c.c, .int .i64 c.d, .int .i64 c.e]) rfl (by kernel_rfl) (by kernel_rfl) (by kernel_rfl) (fun _ _ _ h => h) (Or.inl ⟨by rfl, fun w' hSw => by (obtain ⟨⟨a0, a1⟩, ⟨q0, q1, q2, q3, q4, q5, q6, q7, q8, q9, q10, q11⟩, x4⟩ := hSw; go_simp)⟩) (by assumption) ?_
  try simp only [Act.put, List.setIfInBounds_toArray, List.set_cons_zero, List.set_cons_succ]
  refine wpAnyH_take (i := 5) (oi := { dst := some 83, op := Op.fieldAddr 55 (.tmp 7) 4, type := 0, pos := "ref.go:101", after := #[], guard := none }) (v := .pointer (some ⟨B, 4, none⟩)) rfl (by kernel_rfl) (by kernel_rfl) (by kernel_rfl) (fun _ _ _ h => h) (Or.inl ⟨by rfl, fun w' hSw => by go_simp⟩) (by assumption) ?_
  try simp only [Act.put, List.setIfInBounds_toArray, List.set_cons_zero, List.set_cons_succ]
  refine wpAnyH_take (i := 6) (oi := { dst := some 84, op := Op.load 3 (.tmp 83), type := 3, pos := "ref.go:101", after := #[{ on := 5, ground := Ground.data }], guard := none }) (v := .int .i64 v) rfl (by kernel_rfl) (by kernel_rfl) (by kernel_rfl) (fun _ _ _ h => h) (Or.inl ⟨by rfl, fun w' hSw => by (obtain ⟨⟨a0, a1⟩, ⟨q0, q1, q2, q3, q4, q5, q6, q7, q8, q9, q10, q11⟩, x4⟩ := hSw; go_simp)⟩) (by assumption) ?_
  try simp only [Act.put, List.setIfInBounds_toArray, List.set_cons_zero, List.set_cons_succ]
  refine wpAnyH_take (i := 7) (oi := { dst := some 85, op := Op.binOp .sub 3 (.tmp 84) (.const (.int .i64 1)) 3, type := 3, pos := "ref.go:101", after := #[{ on := 6, ground := Ground.data }], guard := none }) (v := .int .i64 (v - 1)) rfl (by kernel_rfl) (by kernel_rfl) (by kernel_rfl) (fun _ _ _ h => h) (Or.inl ⟨by rfl, fun w' hSw => by go_simp⟩) (by assumption) ?_
  try simp only [Act.put, List.setIfInBounds_toArray, List.set_cons_zero, List.set_cons_succ]
  refine wpAnyH_take (i := 11) (oi := { dst := some 89, op := Op.fieldAddr 55 (.tmp 7) 4, type := 0, pos := "ref.go:101", after := #[], guard := none }) (v := .pointer (some ⟨B, 4, none⟩)) rfl (by kernel_rfl) (by kernel_rfl) (by kernel_rfl) (fun _ _ _ h => h) (Or.inl ⟨by rfl, fun w' hSw => by go_simp⟩) (by assumption) ?_
  try simp only [Act.put, List.setIfInBounds_toArray, List.set_cons_zero, List.set_cons_succ]
  refine wpAnyH_take (i := 12) (oi := { dst := some 90, op := Op.load 3 (.tmp 89), type := 3, pos := "ref.go:101", after := #[{ on := 11, ground := Ground.data }], guard := none }) (v := .int .i64 v) rfl (by kernel_rfl) (by kernel_rfl) (by kernel_rfl) (fun _ _ _ h => h) (Or.inl ⟨by rfl, fun w' hSw => by (obtain ⟨⟨a0, a1⟩, ⟨q0, q1, q2, q3, q4, q5, q6, q7, q8, q9, q10, q11⟩, x4⟩ := hSw; go_simp)⟩) (by assumption) ?_
  try simp only [Act.put, List.setIfInBounds_toArray, List.set_cons_zero, List.set_cons_succ]
  refine wpAnyH_ready (rs := [4]) (by kernel_rfl) (by simp) ?_
  refine AllReadyH.cons (o := { dst := some 82, op := Op.call { callee := .value (.func 48), args := #[.tmp 81], argTypes := #[22] }, type := 46, pos := "ref.go:101", after := #[{ on := 3, ground := Ground.data }], guard := none }) rfl (fun K' hK => ?_) AllReadyH.nil
  go_simp
  go_at_call 48
  ((with_reducible refine (Lay.all_own c _).mono ?_); rintro r w5 ⟨kv, rfl, ho⟩; obtain ⟨KA, kc, rfl, hkr, _⟩ := ho.reads; have HS5 := Lib.hid (HSD.out.step ho.2); have HA5 := Lib.hid (HA.out.below HS5.out.z.z.bel); obtain ⟨bb, off, rfl, hlt, hcl⟩ := hkr (by rw [← HNK.out]; have := HVB.out; omega); have hkc := hcl (v - 1).toNat (by rw [← HNK.out]; have := HVB.out; omega); rw [HKG.out, show (v - 1).toNat = v.toNat - 1 by omega] at hkc; rw [← HNK.out]; clear ho hkr hlt hcl)
  refine hK.out _ _ (HCL.out _ _ _ HS5.out HV4.out) (fun hHeld => ?_)
  clear hK K'
  try simp only [Act.put, List.setIfInBounds_toArray, List.set_cons_zero, List.set_cons_succ]
  refine wpAnyH_ready (rs := [8]) (by kernel_rfl) (by simp) ?_
  refine AllReadyH.cons (o := { dst := some 86, op := Op.indexAddr 46 (.tmp 82) (.tmp 85), type := 0, pos := "ref.go:101", after := #[{ on := 4, ground := Ground.data }, { on := 7, ground := Ground.data }], guard := none }) rfl (fun K' hK => ?_) AllReadyH.nil
  go_simp
  go_wp2_with (fail)
  refine hK.out _ _ (HCL.out _ _ _ HS5.out HV4.out) (fun hHeld => ?_)
  clear hK K'
  try simp only [Act.put, List.setIfInBounds_toArray, List.set_cons_zero, List.set_cons_succ]
  refine wpAnyH_ready (rs := [9]) (by kernel_rfl) (by simp) ?_
  refine AllReadyH.cons (o := { dst := some 87, op := Op.load 3 (.tmp 86), type := 3, pos := "ref.go:101", after := #[{ on := 8, ground := Ground.data }], guard := none }) rfl (fun K' hK => ?_) AllReadyH.nil
  go_simp
  refine hK.out _ _ (HCL.out _ _ _ HS5.out HV4.out) (fun hHeld => ?_)
  clear hK K'
  try simp only [Act.put, List.setIfInBounds_toArray, List.set_cons_zero, List.set_cons_succ]
  refine wpAnyH_ready (rs := [10]) (by kernel_rfl) (by simp) ?_
  refine AllReadyH.cons (o := { dst := some 88, op := Op.call { callee := .value (.func 47), args := #[.tmp 78, .tmp 79, .tmp 87], argTypes := #[36, 38, 3] }, type := 48, pos := "ref.go:101", after := #[{ on := 0, ground := Ground.data }, { on := 1, ground := Ground.data }, { on := 9, ground := Ground.data }, { on := 4, ground := Ground.chain }], guard := none }) rfl (fun K' hK => ?_) AllReadyH.nil
  go_simp
  go_at_call 47
  ((with_reducible refine (rheads_hi HOK.out A n cap P k _ HA5.out).mono ?_); rintro r w6 ⟨A2, n2, cap4, rfl, hn2, hr2, hb, hhi⟩; rw [← HHD.out]; have HS6 := Lib.hid (HS5.out.step hb); have HH6 := Lib.hid (And.intro hn2 (hr2.toI (P := NotZ Q B T) (fun a ea => HS5.out.far HQ.out _ (Nat.le_of_lt (hhi a ea))))); clear hb hn2 hr2 hhi hkc)
  refine hK.out _ _ (HCL.out _ _ _ HS6.out HV4.out) (fun hHeld => ?_)
  clear hK K'
  try simp only [Act.put, List.setIfInBounds_toArray, List.set_cons_zero, List.set_cons_succ]
  refine wpAnyH_ready (rs := [13]) (by kernel_rfl) (by simp) ?_
  refine AllReadyH.cons (o := { dst := some 91, op := Op.call { callee := .value (.func 46), args := #[.tmp 88, .tmp 90], argTypes := #[48, 3] }, type := 51, pos := "ref.go:101", after := #[{ on := 10, ground := Ground.data }, { on := 12, ground := Ground.data }, { on := 10, ground := Ground.chain }], guard := none }) rfl (fun K' hK => ?_) AllReadyH.nil
  go_simp
  go_at_call 46
  ((with_reducible refine (rpush_any hd A2 n2 cap4 v _ (by have := HVB.out; omega)).mono ?_); rintro r w7 ⟨rfl, hb⟩; rw [← HIT.out]; have HS7 := Lib.hid (HS6.out.step hb); have HR7 := Lib.hid (HH6.out.2.uf (UF.of_below (F := fun _ => False) hb) (Q := NotZ Q B T) (fun b hb _ => ⟨fun f => f, hb⟩)); clear hb; obtain ⟨B2, m2, cap3, _, z0, z1, z2, z3, z4, z5, z6, z7⟩ := HS7.out.xc; have hfr := HS7.out.z.fro; have HS8 : Hid (ZS Q w A n cap P c B T ((((((((w7.setCell ⟨B, 6, none⟩ (.int .i64 1)).setCell ⟨B, 7, none⟩ (.int .i64 1)).setCell ⟨B, 8, none⟩ (.int .i64 hd)).setCell ⟨B, 9, none⟩ (.slice A2 n2 cap4)).setCell ⟨B, 10, none⟩ (.int .u32 it)).setCell ⟨B, 11, none⟩ (.int .u64 0)).setCell ⟨B, 12, none⟩ (.int .u32 0)).setCell ⟨B, 13, none⟩ (.int .i64 0)) R2 L9 { m4 with x := ⟨1, 1, ⟨hd, nxtL c⟩, it, 0, 0, 0⟩ } (pxRow V4 ⟨1, 1, ⟨hd, nxtL c⟩, it, 0, 0, 0⟩ A2 n2 cap4)) := Lib.hid (HS7.out.px cap4 (x := ⟨1, 1, ⟨hd, nxtL c⟩, it, 0, 0, 0⟩) HH6.out.1 (by rw [HH6.out.1]; exact HNX.out) HR7.out))
  refine hK.out _ _ (HCL.out _ _ _ HS7.out HV4.out) (fun hHeld => ?_)
  clear hK K'
  try simp only [Act.put, List.setIfInBounds_toArray, List.set_cons_zero, List.set_cons_succ]
  refine wpAnyH_ready (rs := [14]) (by kernel_rfl) (by simp) ?_
  refine AllReadyH.cons (o := { dst := some 92, op := Op.fieldAddr 55 (.tmp 7) 6, type := 0, pos := "ref.go:101", after := #[{ on := 0, ground := Ground.phase }, { on := 1, ground := Ground.phase }, { on := 2, ground := Ground.phase }, { on := 3, ground := Ground.phase }, { on := 4, ground := Ground.phase }, { on := 5, ground := Ground.phase }, { on := 6, ground := Ground.phase }, { on := 7, ground := Ground.phase }, { on := 8, ground := Ground.phase }, { on := 9, ground := Ground.phase }, { on := 10, ground := Ground.phase }, { on := 11, ground := Ground.phase }, { on := 12, ground := Ground.phase }, { on := 13, ground := Ground.phase }], guard := none }) rfl (fun K' hK => ?_) AllReadyH.nil
  go_simp
  refine hK.out _ _ (HCL.out _ _ _ HS7.out HV4.out) (fun hHeld => ?_)
  clear hK K'
  try simp only [Act.put, List.setIfInBounds_toArray, List.set_cons_zero, List.set_cons_succ]
  refine wpAnyH_ready (rs := [15]) (by kernel_rfl) (by simp) ?_
  refine AllReadyH.cons (o := { dst := none, op := Op.store 51 (.tmp 92) (.tmp 91), type := 0, pos := "ref.go:101", after := #[{ on := 14, ground := Ground.data }, { on := 13, ground := Ground.data }, { on := 13, ground := Ground.chain }, { on := 0, ground := Ground.phase }, { on := 1, ground := Ground.phase }, { on := 2, ground := Ground.phase }, { on := 3, ground := Ground.phase }, { on := 4, ground := Ground.phase }, { on := 5, ground := Ground.phase }, { on := 6, ground := Ground.phase }, { on := 7, ground := Ground.phase }, { on := 8, ground := Ground.phase }, { on := 9, ground := Ground.phase }, { on := 10, ground := Ground.phase }, { on := 11, ground := Ground.phase }, { on := 12, ground := Ground.phase }, { on := 13, ground := Ground.phase }], guard := none }) rfl (fun K' hK => ?_) AllReadyH.nil
  go_simp
  refine hK.out _ _ (HCL.out _ _ _ HS8.out HV4.out) (fun hHeld => ?_)
  clear hK K'
  try simp only [Act.put, List.setIfInBounds_toArray, List.set_cons_zero, List.set_cons_succ]
  refine wpAnyH_done (by kernel_rfl) ?_ _
  obtain ⟨W8, hW8⟩ : ∃ W8, W8 = ((((((((w7.setCell ⟨B, 6, none⟩ (.int .i64 1)).setCell ⟨B, 7, none⟩ (.int .i64 1)).setCell ⟨B, 8, none⟩ (.int .i64 hd)).setCell ⟨B, 9, none⟩ (.slice A2 n2 cap4)).setCell ⟨B, 10, none⟩ (.int .u32 it)).setCell ⟨B, 11, none⟩ (.int .u64 0)).setCell ⟨B, 12, none⟩ (.int .u32 0)).setCell ⟨B, 13, none⟩ (.int .i64 0)) := ⟨_, rfl⟩
  have hs8 := HS8.out
  rw [← hW8] at hs8 ⊢
  have x0 := hs8.z.cell 0 hs8.v.c0
  have hfr := hs8.z.fro
  have HS9 := Lib.hid hs8
  clear hs8 hW8 HS8 HS7 HS6 HS5 HSD HCL z0 z1 z2 z3 z4 z5 z6 z7
  go_upto_region 21 with (fail)
  have hs10 := HS9.out.pc 6
  obtain ⟨W10, hW10⟩ : ∃ W10, W10 = W8.setCell ⟨B, 0, none⟩ (.int .i64 6) := ⟨_, rfl⟩
  obtain ⟨V10, hV10⟩ : ∃ V10, V10 = (pxRow V4 ⟨1, 1, ⟨hd, nxtL c⟩, it, 0, 0, 0⟩ A2 n2 cap4).setIfInBounds 0 (.int .i64 6) := ⟨_, rfl⟩
  have hs10 : ZS Q w A n cap P c B T W10 R2 L9 m9 V10 := by rw [HM9.out, HX9.out, hW10, hV10, show mPush ⟨hd, nxtL c⟩ v = ⟨1, 1, ⟨hd, nxtL c⟩, it, 0, 0, 0⟩ by rw [HIT.out]; rfl]; rw [HM4.out] at hs10; exact hs10
  rw [← hW10]
  have HS10 := Lib.hid hs10
  clear hs10 hW10 hV10 x0 hfr HS9
  have HK5 := Lib.hid (HS10.out.step (Below.refl _ _).drew)
  refine wp_region_any (by kernel_rfl) ?_
  change wpAny _ _ _ _ 4 _ _ (World.drew _)
  refine wpAny_take (i := 0) (v := .slice R2 n' cap2) rfl (by kernel_rfl) (by kernel_rfl) (by kernel_rfl) (fun _ _ _ h => h) (Or.inl ⟨by rfl, fun w => by exact BigFrame.run_move (.tmp 10) rfl w⟩) ?_
  refine wpAny_take (i := 2) (v := .slice R2 n' cap2) rfl (by kernel_rfl) (by kernel_rfl) (by kernel_rfl) (fun _ _ _ h => h) (Or.inl ⟨by rfl, fun w => by exact BigFrame.run_assign (.tmp 94) rfl w⟩) ?_
  refine wpAny_ready (rs := [1]) (by kernel_rfl) (by decide) (AllReady.cons rfl (fun K' hK => ?_) AllReady.nil)
  rw [if_pos (by rfl)]
  refine wp_load_mid 55 (.tmp 7) rfl B 0 rfl _ _ (rng_all HK5.out.z.z.bm) row64.choose_spec.1 row64.choose_spec.2 (by rw [show V10.toList.length = 19 from by simpa using HS10.out.v.size]; kernel_rfl) (hK _ _ ?_)
  refine wpAny_ready (rs := [3]) (by kernel_rfl) (by decide) (AllReady.cons rfl (fun K' hK => ?_) AllReady.nil)
  rw [if_pos (by rfl)]
  refine wp_store_mid 55 (.tmp 9) (.tmp 95) rfl T 0 V10 rfl rfl (there_sub 0 _ HK5.out.z.z.br (by rw [HS10.out.v.size]; decide)) (by rw [HS10.out.v.size]; kernel_rfl) HS10.out.v.one (hK _ _ ?_)
  refine wpAny_done (by kernel_rfl) ?_ _
  obtain ⟨hl, hr, hv, hb⟩ := HK5.out.out
  go_wp2
  exact bodyPost_ret (v := .tuple #[.slice R2 n' cap2, .agg V10]) (res2 Tryz.results17 _ _ _ _ _ rfl rfl hl) rfl ⟨R2, cap2, V10, rfl, hr, hv, hb⟩
end Go.Proofs.YtbpkcoemehmpbaaGreat
