/- A step of the document's own part that is swept (a node is put to the free ones); walked. -/
import Derived.Test.YtbpkcoemehmpbaaGreatJ19
import Derived.IntWalk
namespace Go.Proofs.YtbpkcoemehmpbaaGreat
open Go.RowKit
set_option linter.unusedVariables false
set_option linter.unusedSimpArgs false
set_option linter.unnecessarySimpa false
set_option maxRecDepth 100000
open Lay (plcc plc shOf packN nodesN OkC Cfg Norm firstV Rep lenL things partsC roomsI)

set_option maxHeartbeats 16000000 in
theorem rws_6 {c : Cfg} (hc : OkC c) (Q : Nat → Prop) (A : Option Addr) (n cap : Nat) (P : Int) (R : Option Addr) (n' capR : Nat) (L : List Int) (m : Wn) (V : Array Value) (w : World) (hA : IsA w c A n) (hn : n' = L.length) (hn2 : n' ≤ 1000000) (hR : ReadsW Q w R L) (hQ : ∀ b, w.heap.size ≤ b → Q b) (h : ZV Q w m V) (ww : WW L) (hp : m.pc = 6) (hvb : 0 ≤ m.v ∧ m.v ≤ 1000000) {t : Int} (wx : Wm t m.x) (ht : t ≤ 900000000) :
    Calls Tryz.prog 17 #[aVal A n cap P, Lay.cfgV c, .slice R n' capR, .agg V] w (SomeZ Q w n' (sstp L m.x).1 (if (sstp L m.x).2.pc = 0 then wgo { wq m with x := (sstp L m.x).2 } (m.v + 1) else { wq m with x := (sstp L m.x).2 })) := by
  have hz := ZC.new w A n cap P c V
  obtain ⟨W0, hW0⟩ : ∃ W0, W0 = ((((w.alloc (.cells #[.slice A n cap, .int .i64 P] 36)).alloc (.cells #[.int .i64 c.a, .int .i64 c.b, .int .i64 c.c, .int .i64 c.d, .int .i64 c.e, .int .i64 c.mr, .int .i64 c.mu, .int .i64 c.dq, .int .i64 c.ch, .int .i64 c.bf, .int .i64 c.rt, .int .i64 c.sw] 38)).alloc (.cells V 55)).alloc (.cells #[.int .i64 0, .int .u64 0, .int .u64 0, .int .i64 0, .int .i64 0, .int .i64 0, .int .i64 0, .int .i64 0, .int .i64 0, .slice none 0 0, .int .u32 0, .int .u64 0, .int .u32 0, .int .i64 0, .int .i64 0, .int .i64 0, .int .i64 0, .int .i64 0, .int .i64 0] 55)) := ⟨_, rfl⟩
  rw [← hW0] at hz
  obtain ⟨B, hB⟩ : ∃ B, B = w.heap.size + 1 + 1 := ⟨_, rfl⟩
  obtain ⟨T, hT⟩ : ∃ T, T = w.heap.size + 1 + 1 + 1 := ⟨_, rfl⟩
  rw [← hT, ← hB] at hz
  have hs0 := ZS.begin hz hR h
  have hev := hs0.evc
  have hfr := hs0.z.fro
  obtain ⟨m0, hm0⟩ : ∃ m0, m0 = wq m := ⟨_, rfl⟩
  have hp0 : m0.pc = 6 := by rw [hm0]; exact hp
  obtain ⟨v, hv⟩ : ∃ v, v = m.v := ⟨_, rfl⟩
  have hv0 : m0.v = v := by rw [hm0, hv]; rfl
  obtain ⟨xs, hxs⟩ : ∃ xs, xs = m.x := ⟨_, rfl⟩
  have hxs0 : m0.x = xs := by rw [hm0, hxs]; rfl
  rw [← hxs] at wx ⊢
  rw [← hv] at hvb ⊢
  have ewv : IntKind.i64.wrap (v + 1) = v + 1 := IntWalk.i64_in _ (by omega)
  have HVV := Lib.hid hv0; have HXV := Lib.hid hxs0; have HWX := Lib.hid wx; have HT3 := Lib.hid ht
  have hsk := sstp_k L xs
  obtain ⟨L2, x2, hst⟩ : ∃ L2 x2, sstp L xs = (L2, x2) := ⟨_, _, rfl⟩
  rw [hst] at hsk ⊢
  dsimp only at hsk ⊢
  have HSX := Lib.hid hst; have HSK := Lib.hid hsk
  obtain ⟨m9, hm9⟩ : ∃ m9, m9 = (if x2.pc = 0 then wgo { wq m with x := x2 } (v + 1) else { wq m with x := x2 }) := ⟨_, rfl⟩
  rw [← hm9]
  rw [← hm0] at hm9
  have HM9 := Lib.hid hm9
  clear hm9 hv hv0 hxs hxs0 wx hvb hsk hst ht
  have HS0 := Lib.hid hs0; have HW0 := Lib.hid hW0; have HA := Lib.hid hA; have HN := Lib.hid hn; have HN2 := Lib.hid hn2; have HOK := Lib.hid hc; have HWW := Lib.hid ww; have HQ := Lib.hid hQ; have HP0 := Lib.hid hp0; have HM0 := Lib.hid hm0
  have HXS := Lib.hid (And.intro hev hfr); have HBT := Lib.hid (And.intro hB hT)
  clear hz hs0 hW0 hA hn hn2 hc ww hQ hp0 hm0 hev hfr hB hT hR h hp
  go_enter Tryz.func17, Tryz.ntmps17
  go_upto_region 1 with (fail)
  rw [← HW0.out, ← HBT.out.2, ← HBT.out.1]
  obtain ⟨⟨y0, y1, y2, y3, y4⟩, hfr⟩ := HXS.out
  go_upto_region 2 with (fail)
  have hs1 := HS0.out.ev 0 0
  unfold evWz at hs1
  obtain ⟨W1, hW1⟩ : ∃ W1, W1 = (((((W0.setCell ⟨B, 14, none⟩ (.int .i64 0)).setCell ⟨B, 15, none⟩ (.int .i64 0)).setCell ⟨B, 16, none⟩ (.int .i64 0)).setCell ⟨B, 17, none⟩ (.int .i64 0)).setCell ⟨B, 18, none⟩ (.int .i64 0)) := ⟨_, rfl⟩
  rw [← hW1] at hs1
  rw [← hW1]
  obtain ⟨V0, hV0⟩ : ∃ V0, V0 = evRow V 0 0 := ⟨_, rfl⟩
  rw [← hV0] at hs1
  have hs1 : ZS Q w A n cap P c B T W1 R L m0 V0 := by rw [HM0.out]; exact hs1
  have x0 := hs1.z.cell 0 hs1.v.c0
  rw [HP0.out] at x0
  have HS1 := Lib.hid hs1
  have HA1 := Lib.hid (HA.out.below hs1.z.z.bel)
  have HF1 := Lib.hid (hs1.far HQ.out)
  clear y0 y1 y2 y3 y4 hfr hs1 hW1 hV0 HXS HS0 HW0
  obtain ⟨A2, n2, cap2, ⟨hn2, hl2, hr2⟩, z0, z1, z2, z3, z4, z5, z6, z7⟩ := HS1.out.xc
  rw [HXV.out] at hn2 hr2 z0 z1 z2 z4 z5 z6 z7
  have HN2L := Lib.hid hn2; have HL2L := Lib.hid hl2; have HRI := Lib.hid hr2
  clear hn2 hl2 hr2
  go_upto_region 24 with (first
    | (go_at_call 49; (with_reducible refine (rstep_any (t := t) (NotZ Q B T) R n' capR L xs A2 n2 cap2 _ HN.out HN2.out HS1.out.r HF1.out HN2L.out HRI.out.reads HL2L.out HWX.out HWW.out (Int.le_trans HT3.out (by decide))).mono ?_); rintro r w2 ⟨R2, capR2, rfl, hr, hb⟩; rw [HSX.out] at hr; rw [HSX.out]; have HS2 := Lib.hid ((HS1.out.step hb).row hr); have HR2 := Lib.hid (HRI.out.uf (UF.of_below (F := fun _ => False) hb) (Q := NotZ Q B T) (fun b hb _ => ⟨fun f => f, hb⟩)); clear hr hb x0 z0 z1 z2 z3 z4 z5 z6 z7)
    | fail)
  have hb3 := below_alloc0 (Below.refl w2.heap.size w2) (.cells #[.int .i64 x2.kind, .int .i64 x2.pc, .int .i64 x2.k.head, .slice A2 n2 cap2, .int .u32 x2.item, .int .u64 x2.h, .int .u32 x2.link, .int .i64 x2.tries] 51)
  have HS3 := Lib.hid (HS2.out.step hb3)
  have HR3 := Lib.hid (HR2.out.uf (UF.of_below (F := fun _ => False) hb3) (Q := NotZ Q B T) (fun b hb _ => ⟨fun f => f, hb⟩))
  have hg3 : (w2.alloc (.cells #[.int .i64 x2.kind, .int .i64 x2.pc, .int .i64 x2.k.head, .slice A2 n2 cap2, .int .u32 x2.item, .int .u64 x2.h, .int .u32 x2.link, .int .i64 x2.tries] 51)).heap[w2.heap.size]? = some (.cells #[.int .i64 x2.kind, .int .i64 x2.pc, .int .i64 x2.k.head, .slice A2 n2 cap2, .int .u32 x2.item, .int .u64 x2.h, .int .u32 x2.link, .int .i64 x2.tries] 51 (0, 0)) := Go.heap_alloc_new _ _
  obtain ⟨W3, hW3⟩ : ∃ W3, W3 = w2.alloc (.cells #[.int .i64 x2.kind, .int .i64 x2.pc, .int .i64 x2.k.head, .slice A2 n2 cap2, .int .u32 x2.item, .int .u64 x2.h, .int .u32 x2.link, .int .i64 x2.tries] 51) := ⟨_, rfl⟩
  obtain ⟨D, hD⟩ : ∃ D, D = w2.heap.size := ⟨_, rfl⟩
  rw [← hW3] at HS3 HR3 hg3 ⊢
  rw [← hD] at hg3 ⊢
  have d0 := cell_of_row _ D 0 _ _ _ hg3
  have d1 := cell_of_row _ D 1 _ _ _ hg3
  have d2 := cell_of_row _ D 2 _ _ _ hg3
  have d3 := cell_of_row _ D 3 _ _ _ hg3
  have d4 := cell_of_row _ D 4 _ _ _ hg3
  have d5 := cell_of_row _ D 5 _ _ _ hg3
  have d6 := cell_of_row _ D 6 _ _ _ hg3
  have d7 := cell_of_row _ D 7 _ _ _ hg3
  simp only [List.getElem?_toArray, List.getElem?_cons_zero, List.getElem?_cons_succ] at d0 d1 d2 d3 d4 d5 d6 d7
  have HDB := Lib.hid (show D ≠ B from (by have := (Array.getElem?_eq_some_iff.1 HS2.out.z.z.bm).1; omega))
  have HG3 := Lib.hid hg3
  obtain ⟨B2, m2, cap3, _, z0, z1, z2, z3, z4, z5, z6, z7⟩ := HS3.out.xc
  have hfr := HS3.out.z.fro
  clear hb3 hg3 hW3 hD HS2 HR2
  go_upto_region 25 with (fail)
  have hs4 := HS3.out.px cap2 (x := x2) (A2 := A2) (n2 := n2) (by rw [HSK.out]; exact HN2L.out) HL2L.out (by rw [HSK.out]; exact HR3.out)
  have hu := pxW_upd W3 B x2 A2 n2 cap2
  unfold pxW at hs4 hu
  obtain ⟨W4, hW4⟩ : ∃ W4, W4 = (((((((W3.setCell ⟨B, 6, none⟩ (.int .i64 x2.kind)).setCell ⟨B, 7, none⟩ (.int .i64 x2.pc)).setCell ⟨B, 8, none⟩ (.int .i64 x2.k.head)).setCell ⟨B, 9, none⟩ (.slice A2 n2 cap2)).setCell ⟨B, 10, none⟩ (.int .u32 x2.item)).setCell ⟨B, 11, none⟩ (.int .u64 x2.h)).setCell ⟨B, 12, none⟩ (.int .u32 x2.link)).setCell ⟨B, 13, none⟩ (.int .i64 x2.tries) := ⟨_, rfl⟩
  rw [← hW4] at hs4 hu ⊢
  have hg4 := (hu.block D (Array.getElem?_eq_some_iff.1 HG3.out).1 HDB.out HDB.out).trans HG3.out
  have e1 := cell_of_row _ D 1 _ _ _ hg4
  simp only [List.getElem?_toArray, List.getElem?_cons_zero, List.getElem?_cons_succ] at e1
  obtain ⟨V4, hV4⟩ : ∃ V4, V4 = pxRow V0 x2 A2 n2 cap2 := ⟨_, rfl⟩
  rw [← hV4] at hs4
  have HS4 := Lib.hid hs4
  clear hs4 hu hW4 hg4 hV4 d0 d1 d2 d3 d4 d5 d6 d7 z0 z1 z2 z3 z4 z5 z6 z7 hfr HS3 HR3
  have x4 := HS4.out.z.cell 4 HS4.out.v.c4
  rw [show ({ m0 with x := x2 } : Wn).v = v from HVV.out] at x4
  obtain ⟨p2, hp2⟩ : ∃ p2 : Int, p2 = (x2.pc : Int) := ⟨_, rfl⟩
  rw [← hp2] at e1
  by_cases hx1 : x2.pc = 0
  · have e2 : p2 = 0 := by rw [hp2, hx1]; rfl
    have HE := Lib.hid (HM9.out.trans (if_pos hx1))
    rw [e2] at e1
    clear hx1 hp2 e2
    obtain ⟨V5, hV5⟩ : ∃ V5, V5 = goRow V4 { m0 with x := x2 } (v + 1) := ⟨_, rfl⟩
    have hv5 := HS4.out.v.go (v + 1)
    rw [← hV5, ← HE.out] at hv5
    have HV5 := Lib.hid hv5; have HE5 := Lib.hid hV5
    clear hv5 hV5
    go_upto_region 27 with (first
      | (refine wpList_loadZ rfl (.tmp 7) rfl B V4 rfl HS4.out.z.z.bm HS4.out.v.size ?_)
      | (go_at_call 45; (with_reducible refine (on_any (v + 1) HS4.out.v).mono ?_); rintro r w8 ⟨rfl, hb⟩; rw [← HE5.out]; have HS8 := Lib.hid (HS4.out.step hb); have HV8 := Lib.hid (HV5.out.below hb); clear hb)
      | (refine wpList_storeZ rfl (.tmp 7) (.tmp 114) rfl B V4 V5 rfl rfl HS8.out.z.z.bm HS4.out.v.size HV5.out.size HV5.out.one ?_)
      | fail)
    have hs9 := HS8.out.all HV8.out
    obtain ⟨W9, hW9⟩ : ∃ W9, W9 = w8.setCells B 0 V5.toList := ⟨_, rfl⟩
    rw [← hW9] at hs9 ⊢
    have HS9 := Lib.hid hs9
    clear hs9 hW9 HS8 HV8 HE5 HS4 HV5 x4 e1
    have HK5 := Lib.hid (HS9.out.step (Below.refl _ _).drew)
    refine wp_region_any (by kernel_rfl) ?_
    change wpAny _ _ _ _ 4 _ _ (World.drew _)
    refine wpAny_take (i := 0) (v := .slice R2 n' capR2) rfl (by kernel_rfl) (by kernel_rfl) (by kernel_rfl) (fun _ _ _ h => h) (Or.inl ⟨by rfl, fun w => by exact BigFrame.run_move (.tmp 11) rfl w⟩) ?_
    refine wpAny_take (i := 2) (v := .slice R2 n' capR2) rfl (by kernel_rfl) (by kernel_rfl) (by kernel_rfl) (fun _ _ _ h => h) (Or.inl ⟨by rfl, fun w => by exact BigFrame.run_assign (.tmp 115) rfl w⟩) ?_
    refine wpAny_ready (rs := [1]) (by kernel_rfl) (by decide) (AllReady.cons rfl (fun K' hK => ?_) AllReady.nil)
    rw [if_pos (by rfl)]
    refine wp_load_mid 55 (.tmp 7) rfl B 0 rfl _ _ (rng_all HK5.out.z.z.bm) row64.choose_spec.1 row64.choose_spec.2 (by rw [show V5.toList.length = 19 from by simpa using HS9.out.v.size]; kernel_rfl) (hK _ _ ?_)
    refine wpAny_ready (rs := [3]) (by kernel_rfl) (by decide) (AllReady.cons rfl (fun K' hK => ?_) AllReady.nil)
    rw [if_pos (by rfl)]
    refine wp_store_mid 55 (.tmp 9) (.tmp 116) rfl T 0 V5 rfl rfl (there_sub 0 _ HK5.out.z.z.br (by rw [HS9.out.v.size]; decide)) (by rw [HS9.out.v.size]; kernel_rfl) HS9.out.v.one (hK _ _ ?_)
    refine wpAny_done (by kernel_rfl) ?_ _
    obtain ⟨hl, hr, hv, hb⟩ := HK5.out.out
    go_wp2
    exact bodyPost_ret (v := .tuple #[.slice R2 n' capR2, .agg V5]) (res2 Tryz.results17 _ _ _ _ _ rfl rfl hl) rfl ⟨R2, capR2, V5, rfl, hr, hv, hb⟩
  · have e2 : (p2 == 0) = false := by rw [hp2]; simp; omega
    have HE := Lib.hid (HM9.out.trans (if_neg hx1))
    clear hx1
    go_upto_region 27 with (fail)
    clear e1 e2 x4 hp2
    have HK5 := Lib.hid (HS4.out.step (Below.refl _ _).drew)
    refine wp_region_any (by kernel_rfl) ?_
    change wpAny _ _ _ _ 4 _ _ (World.drew _)
    refine wpAny_take (i := 0) (v := .slice R2 n' capR2) rfl (by kernel_rfl) (by kernel_rfl) (by kernel_rfl) (fun _ _ _ h => h) (Or.inl ⟨by rfl, fun w => by exact BigFrame.run_move (.tmp 11) rfl w⟩) ?_
    refine wpAny_take (i := 2) (v := .slice R2 n' capR2) rfl (by kernel_rfl) (by kernel_rfl) (by kernel_rfl) (fun _ _ _ h => h) (Or.inl ⟨by rfl, fun w => by exact BigFrame.run_assign (.tmp 115) rfl w⟩) ?_
    refine wpAny_ready (rs := [1]) (by kernel_rfl) (by decide) (AllReady.cons rfl (fun K' hK => ?_) AllReady.nil)
    rw [if_pos (by rfl)]
    refine wp_load_mid 55 (.tmp 7) rfl B 0 rfl _ _ (rng_all HK5.out.z.z.bm) row64.choose_spec.1 row64.choose_spec.2 (by rw [show V4.toList.length = 19 from by simpa using HS4.out.v.size]; kernel_rfl) (hK _ _ ?_)
    refine wpAny_ready (rs := [3]) (by kernel_rfl) (by decide) (AllReady.cons rfl (fun K' hK => ?_) AllReady.nil)
    rw [if_pos (by rfl)]
    refine wp_store_mid 55 (.tmp 9) (.tmp 116) rfl T 0 V4 rfl rfl (there_sub 0 _ HK5.out.z.z.br (by rw [HS4.out.v.size]; decide)) (by rw [HS4.out.v.size]; kernel_rfl) HS4.out.v.one (hK _ _ ?_)
    refine wpAny_done (by kernel_rfl) ?_ _
    obtain ⟨hl, hr, hv, hb⟩ := HK5.out.out
    go_wp2
    exact bodyPost_ret (v := .tuple #[.slice R2 n' capR2, .agg V4]) (res2 Tryz.results17 _ _ _ _ _ rfl rfl hl) rfl ⟨R2, capR2, V4, rfl, hr, by rw [HE.out]; exact hv, hb⟩
end Go.Proofs.YtbpkcoemehmpbaaGreat
