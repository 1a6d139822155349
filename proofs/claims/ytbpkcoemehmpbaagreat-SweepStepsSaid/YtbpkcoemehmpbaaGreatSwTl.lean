/- The document's own part that is swept: how one is taken, again; walked. -/
import Derived.Test.YtbpkcoemehmpbaaGreatSwTk
namespace Go.Proofs.YtbpkcoemehmpbaaGreat
open Go.RowKit
set_option linter.unusedVariables false
set_option linter.unusedSimpArgs false
set_option linter.unnecessarySimpa false
set_option maxRecDepth 100000
open Lay (plcc plc shOf packN nodesN OkC Cfg Norm firstV Rep lenL things partsC roomsI)

/-- Neither of two boxes. -/
def NotZ (Q : Nat → Prop) (B T b : Nat) : Prop := Q b ∧ b ≠ B ∧ b ≠ T
/-- A step's answer: a row of words, a machine. -/
def SomeZ (Q : Nat → Prop) (w : World) (n' : Nat) (L : List Int) (m : Wn) (e : Ending) (w' : World) : Prop :=
  ∃ R cap V, e = .returned (.tuple #[.slice R n' cap, .agg V]) ∧ ReadsW Q w' R L ∧ ZV Q w' m V ∧ Below w.heap.size w w'
section
variable {Q : Nat → Prop} {w w' w2 : World} {B T : Nat} {R : Option Addr} {L : List Int} {m : Wn} {V U : Array Value}
theorem ReadsW.notZ (h : ReadsW Q w R L) (hB : w.heap.size ≤ B) (hT : w.heap.size ≤ T) : ReadsW (NotZ Q B T) w R L := fun h0 => by
  obtain ⟨b, off, e, hb, hp, hc⟩ := h h0
  exact ⟨b, off, e, hb, ⟨hp, by omega, by omega⟩, hc⟩
theorem ReadsW.inB (h : ReadsW (NotZ Q B T) w' R L) (u : Upd B B w' w2) : ReadsW (NotZ Q B T) w2 R L := h.upd u fun b hb _ => ⟨hb.2.1, hb.2.1, hb⟩
theorem ReadsW.inT (h : ReadsW (NotZ Q B T) w' R L) (u : Upd T T w' w2) : ReadsW Q w2 R L := h.upd u fun b hb _ => ⟨hb.2.2, hb.2.2, hb.1⟩
theorem ZV.notZ (h : ZV Q w m V) (hB : w.heap.size ≤ B) (hT : w.heap.size ≤ T) : ZV (NotZ Q B T) w m V :=
  h.uf (UF.refl (fun _ => False) _) (fun b hb hl => ⟨fun f => f, hb, by omega, by omega⟩)
theorem ZV.inB (h : ZV (NotZ Q B T) w' m V) (u : Upd B B w' w2) : ZV (NotZ Q B T) w2 m V := h.uf (UF.of_upd u) fun b hb _ => ⟨fun e => by rcases e with e | e <;> exact hb.2.1 e, hb⟩
theorem ZV.inT (h : ZV (NotZ Q B T) w' m V) (u : Upd T T w' w2) : ZV Q w2 m V := h.uf (UF.of_upd u) fun b hb _ => ⟨fun e => by rcases e with e | e <;> exact hb.2.2 e, hb.1⟩
end
/-- The boxes, the words' row. -/
structure TS (Q : Nat → Prop) (w w' : World) (c : Cfg) (B T : Nat) (R : Option Addr) (L : List Int) (V : Array Value) : Prop where
  z : TC w w' c B T V
  r : ReadsW (NotZ Q B T) w' R L
section
variable {Q : Nat → Prop} {w w' w2 : World} {c : Cfg} {B T : Nat} {R : Option Addr} {L : List Int} {V U : Array Value}
theorem TS.step (h : TS Q w w' c B T R L V) (hb : Below w'.heap.size w' w2) : TS Q w w2 c B T R L V := ⟨h.z.step hb, h.r.below hb⟩
theorem TS.put (h : TS Q w w' c B T R L V) (k : Nat) (v : Value) : TS Q w (w'.setCell ⟨B, k, none⟩ v) c B T R L (V.setIfInBounds k v) := ⟨h.z.put k v, h.r.inB (upd_one ..)⟩
theorem TS.set (h : TS Q w w' c B T R L V) (hu : U.size = V.size) : TS Q w (w'.setCells B 0 U.toList) c B T R L U := ⟨h.z.set hu, h.r.inB (row_all (U := U) h.z.z.bm hu.symm).2⟩
theorem TS.far (h : TS Q w w' c B T R L V) (hQ : ∀ b, w.heap.size ≤ b → Q b) : ∀ b, w'.heap.size ≤ b → NotZ Q B T b := fun b hb => by
  have h1 := (Array.getElem?_eq_some_iff.1 h.z.z.bm).1
  have h2 := (Array.getElem?_eq_some_iff.1 h.z.z.br).1
  have h3 := h.z.z.bel.size
  exact ⟨hQ b (by omega), by omega, by omega⟩
/-- The result is laid into its place. -/
theorem TS.out (h : TS Q w w' c B T R L V) (hv : V.size = 19) : Below w.heap.size w (w'.setCells T 0 V.toList) ∧ (loadVar 55 ⟨T, 0, none⟩).run Tryz.prog (w'.setCells T 0 V.toList) = .ok (.agg V) (w'.setCells T 0 V.toList) ∧ ReadsW Q (w'.setCells T 0 V.toList) R L := by
  obtain ⟨hb, hl⟩ := h.z.z.fin hv
  obtain ⟨g, u⟩ := row_all (U := V) h.z.z.br (by rw [hv]; rfl)
  exact ⟨hb, hl, h.r.inT u⟩
end

set_option maxHeartbeats 16000000 in
theorem rtake2_no {c : Cfg} (hc : OkC c) (Q : Nat → Prop) (R : Option Addr) (n' capR : Nat) (L : List Int) (m : Wn) (V : Array Value) (w : World) (hn : n' = L.length) (hn2 : n' ≤ 1000000) (hR : ReadsW Q w R L) (hQ : ∀ b, w.heap.size ≤ b → Q b) (h : ZV Q w m V) (hw : 0 ≤ m.w ∧ m.w ≤ 18446744073709551615) (hl : low m.w < partsC c) (hp : m.pc = 2) (hs : swB L 2 m.w = false) :
    Calls Tryz.prog 42 #[Lay.cfgV c, .slice R n' capR, .agg V] w (SomeZ Q w n' L { m with pc := 0 }) := by
  have hz := TC.new w c V
  obtain ⟨W0, hW0⟩ : ∃ W0, W0 = (((w.alloc (.cells #[.int .i64 c.a, .int .i64 c.b, .int .i64 c.c, .int .i64 c.d, .int .i64 c.e, .int .i64 c.mr, .int .i64 c.mu, .int .i64 c.dq, .int .i64 c.ch, .int .i64 c.bf, .int .i64 c.rt, .int .i64 c.sw] 38)).alloc (.cells V 55)).alloc (.cells #[.int .i64 0, .int .u64 0, .int .u64 0, .int .i64 0, .int .i64 0, .int .i64 0, .int .i64 0, .int .i64 0, .int .i64 0, .slice none 0 0, .int .u32 0, .int .u64 0, .int .u32 0, .int .i64 0, .int .i64 0, .int .i64 0, .int .i64 0, .int .i64 0, .int .i64 0] 55)) := ⟨_, rfl⟩
  rw [← hW0] at hz
  obtain ⟨B, hB⟩ : ∃ B, B = w.heap.size + 1 := ⟨_, rfl⟩
  obtain ⟨T, hT⟩ : ∃ T, T = w.heap.size + 1 + 1 := ⟨_, rfl⟩
  rw [← hT, ← hB] at hz
  have ht0 : TS Q w W0 c B T R L V := ⟨hz, (hR.notZ (by omega) (by omega)).below hz.z.bel⟩
  obtain ⟨mw, hmw⟩ : ∃ mw, mw = m.w := ⟨_, rfl⟩
  have x0 := hz.cell 0 h.c0
  rw [hp] at x0
  have x2 := hz.cell 2 h.c2
  rw [← hmw] at x2 hw hl hs ⊢
  have hfr := hz.fro
  obtain ⟨w0, w1⟩ := hw
  have hpb := (Lay.parts_bd' hc)
  have hp1 : 0 ≤ partsC c ∧ partsC c ≤ 60 := ⟨hpb.1, hpb.2.1⟩
  obtain ⟨lo, hlo⟩ : ∃ lo, lo = mw % 4294967296 := ⟨_, rfl⟩
  have hlo2 : low mw = lo := hlo.symm
  rw [hlo2] at hl
  have hl0 : 0 ≤ lo ∧ lo ≤ 60 := by omega
  have ewm : IntKind.i64.wrap (mw % 4294967296) = mw % 4294967296 := IntWalk.i64_in _ (by omega)
  have ewu : IntKind.u64.wrap (mw + 1) = mw + 1 := by rw [IntKind.wrap_u64]; omega
  have ewl : IntKind.i64.wrap lo = lo := IntWalk.i64_in _ (by omega)
  have HT0 := Lib.hid ht0; have HW0 := Lib.hid hW0; have HN := Lib.hid hn; have HN2 := Lib.hid hn2; have HV := Lib.hid h; have HOK := Lib.hid hc; have HSB := Lib.hid hs; have HFA := Lib.hid (ht0.far hQ); have HL0 := Lib.hid hl0; have HLO := Lib.hid hlo
  have HXS := Lib.hid (And.intro x0 (And.intro x2 hfr))
  have HBT := Lib.hid (And.intro hB hT); have HMW := Lib.hid hmw
  clear hmw ht0 hz hW0 hn hn2 hR h hs hl hl0 hpb hp1 hc hQ x0 x2 hfr hB hT hlo hlo2
  have hsv : swv L 2 mw (mw + 1) = L := by unfold swv; rw [if_neg (by rw [HSB.out]; decide)]
  have HSW := Lib.hid hsv
  clear hsv
  go_enter Tryz.func42, Tryz.ntmps42
  go_upto_region 1 with (fail)
  rw [← HW0.out, ← HBT.out.2, ← HBT.out.1]
  obtain ⟨x0, x2, hfr⟩ := HXS.out
  go_upto_region 9 with (first
    | (go_at_call 77; (with_reducible refine (refLow_any mw w0 w1 _).mono ?_); rintro r w2 ⟨rfl, hw⟩; cases hw; rw [← HLO.out])
    | (go_at_call 80; (with_reducible refine (rswap_any (NotZ Q B T) R n' capR L 2 mw (mw + 1) _ HN.out HN2.out HT0.out.r HFA.out).mono ?_); rintro r w3 ⟨R2, cap2, rfl, hr, hb⟩; rw [HSB.out]; have HT1 := Lib.hid (TS.mk (HT0.out.z.step hb) hr); clear hr hb x0 x2 hfr; have x0 := HT1.out.z.cell 0 HV.out.c0; have hfr := HT1.out.z.fro)
    | fail)
  go_upto_region 17 with (fail)
  have ht2 := HT1.out.put 0 (.int .i64 0)
  obtain ⟨W1, hW1⟩ : ∃ W1, W1 = w3.setCell ⟨B, 0, none⟩ (.int .i64 0) := ⟨_, rfl⟩
  rw [← hW1] at ht2 ⊢
  obtain ⟨V1, hV1⟩ : ∃ V1, V1 = V.setIfInBounds 0 (.int .i64 0) := ⟨_, rfl⟩
  have hv1 : ZV Q w { m with pc := 0 } V1 := by rw [hV1]; exact HV.out.pc 0
  rw [← hV1] at ht2
  have HT2 := Lib.hid ht2; have HV1 := Lib.hid hv1
  clear ht2 hv1 hV1 hW1 x0 hfr HT1 HT0
  have HK5 := Lib.hid (HT2.out.step (Below.refl _ _).drew)
  refine wp_region_any (by kernel_rfl) ?_
  change wpAny _ _ _ _ 4 _ _ (World.drew _)
  refine wpAny_take (i := 0) (v := .slice R2 n' cap2) rfl (by kernel_rfl) (by kernel_rfl) (by kernel_rfl) (fun _ _ _ h => h) (Or.inl ⟨by rfl, fun w => by exact BigFrame.run_move (.tmp 9) rfl w⟩) ?_
  refine wpAny_take (i := 2) (v := .slice R2 n' cap2) rfl (by kernel_rfl) (by kernel_rfl) (by kernel_rfl) (fun _ _ _ h => h) (Or.inl ⟨by rfl, fun w => by exact BigFrame.run_assign (.tmp 78) rfl w⟩) ?_
  refine wpAny_ready (rs := [1]) (by kernel_rfl) (by decide) (AllReady.cons rfl (fun K' hK => ?_) AllReady.nil)
  rw [if_pos (by rfl)]
  refine wp_load_mid 55 (.tmp 5) rfl B 0 rfl _ _ (rng_all HK5.out.z.z.bm) row64.choose_spec.1 row64.choose_spec.2 (by rw [show V1.toList.length = 19 from by simpa using HV1.out.size]; kernel_rfl) (hK _ _ ?_)
  refine wpAny_ready (rs := [3]) (by kernel_rfl) (by decide) (AllReady.cons rfl (fun K' hK => ?_) AllReady.nil)
  rw [if_pos (by rfl)]
  refine wp_store_mid 55 (.tmp 7) (.tmp 79) rfl T 0 V1 rfl rfl (there_sub 0 _ HK5.out.z.z.br (by rw [HV1.out.size]; decide)) (by rw [HV1.out.size]; kernel_rfl) HV1.out.one (hK _ _ ?_)
  refine wpAny_done (by kernel_rfl) ?_ _
  obtain ⟨hb, hl, hr⟩ := HK5.out.out HV1.out.size
  go_wp2
  exact bodyPost_ret (v := .tuple #[.slice R2 n' cap2, .agg V1]) (res2 Tryz.results42 _ _ _ _ _ rfl rfl hl) rfl ⟨R2, cap2, V1, rfl, HSW.out ▸ hr, by rw [HMW.out]; exact HV1.out.below hb, hb⟩

set_option maxHeartbeats 16000000 in
theorem rtake2_yes {c : Cfg} (hc : OkC c) (Q : Nat → Prop) (R : Option Addr) (n' capR : Nat) (L : List Int) (m : Wn) (V : Array Value) (w : World) (hn : n' = L.length) (hn2 : n' ≤ 1000000) (hR : ReadsW Q w R L) (hQ : ∀ b, w.heap.size ≤ b → Q b) (h : ZV Q w m V) (hw : 0 ≤ m.w ∧ m.w ≤ 18446744073709551615) (hl : low m.w < partsC c) (hp : m.pc = 2) (hs : swB L 2 m.w = true) :
    Calls Tryz.prog 42 #[Lay.cfgV c, .slice R n' capR, .agg V] w (SomeZ Q w n' (ptq L 2 (m.w + 1)) (wgo { m with part := low m.w, last := wmin ((low m.w + 1) * c.sw) (nodesN c) } (low m.w * c.sw + 1))) := by
  have hz := TC.new w c V
  obtain ⟨W0, hW0⟩ : ∃ W0, W0 = (((w.alloc (.cells #[.int .i64 c.a, .int .i64 c.b, .int .i64 c.c, .int .i64 c.d, .int .i64 c.e, .int .i64 c.mr, .int .i64 c.mu, .int .i64 c.dq, .int .i64 c.ch, .int .i64 c.bf, .int .i64 c.rt, .int .i64 c.sw] 38)).alloc (.cells V 55)).alloc (.cells #[.int .i64 0, .int .u64 0, .int .u64 0, .int .i64 0, .int .i64 0, .int .i64 0, .int .i64 0, .int .i64 0, .int .i64 0, .slice none 0 0, .int .u32 0, .int .u64 0, .int .u32 0, .int .i64 0, .int .i64 0, .int .i64 0, .int .i64 0, .int .i64 0, .int .i64 0] 55)) := ⟨_, rfl⟩
  rw [← hW0] at hz
  obtain ⟨B, hB⟩ : ∃ B, B = w.heap.size + 1 := ⟨_, rfl⟩
  obtain ⟨T, hT⟩ : ∃ T, T = w.heap.size + 1 + 1 := ⟨_, rfl⟩
  rw [← hT, ← hB] at hz
  have ht0 : TS Q w W0 c B T R L V := ⟨hz, (hR.notZ (by omega) (by omega)).below hz.z.bel⟩
  obtain ⟨mw, hmw⟩ : ∃ mw, mw = m.w := ⟨_, rfl⟩
  have x0 := hz.cell 0 h.c0
  rw [hp] at x0
  have x2 := hz.cell 2 h.c2
  rw [← hmw] at x2 hw hl hs ⊢
  have hfr := hz.fro
  obtain ⟨w0, w1⟩ := hw
  have hpb := (Lay.parts_bd' hc)
  have hp1 : 0 ≤ partsC c ∧ partsC c ≤ 60 := ⟨hpb.1, hpb.2.1⟩
  obtain ⟨lo, hlo⟩ : ∃ lo, lo = mw % 4294967296 := ⟨_, rfl⟩
  have hlo2 : low mw = lo := hlo.symm
  rw [hlo2] at hl
  rw [hlo2]
  have hl0 : 0 ≤ lo ∧ lo ≤ 60 := by omega
  have ewm : IntKind.i64.wrap (mw % 4294967296) = mw % 4294967296 := IntWalk.i64_in _ (by omega)
  have ewu : IntKind.u64.wrap (mw + 1) = mw + 1 := by rw [IntKind.wrap_u64]; omega
  have ewl : IntKind.i64.wrap lo = lo := IntWalk.i64_in _ (by omega)
  have HT0 := Lib.hid ht0; have HW0 := Lib.hid hW0; have HN := Lib.hid hn; have HN2 := Lib.hid hn2; have HV := Lib.hid h; have HOK := Lib.hid hc; have HSB := Lib.hid hs; have HFA := Lib.hid (ht0.far hQ); have HL0 := Lib.hid hl0; have HLO := Lib.hid hlo
  have HXS := Lib.hid (And.intro x0 (And.intro x2 hfr))
  have HBT := Lib.hid (And.intro hB hT); have HMW := Lib.hid hmw
  clear hmw ht0 hz hW0 hn hn2 hR h hs hl hl0 hpb hp1 hc hQ x0 x2 hfr hB hT hlo hlo2
  have hsv : swv L 2 mw (mw + 1) = ptq L 2 (mw + 1) := by rw [swv_eq, if_pos ((swB_iff ..).1 HSB.out)]
  have HSV := Lib.hid hsv
  obtain ⟨nr, hnr⟩ : ∃ nr, nr = (roomsI c).length := ⟨_, rfl⟩
  have hnn : (nr : Int) = nodesN c := by rw [hnr, Lay.rooms_len]; exact Lay.ks_len HOK.out
  have hn6 := (Lay.bds HOK.out).n1
  obtain ⟨sw, hsw⟩ : ∃ sw, sw = c.sw := ⟨_, rfl⟩
  have hsb : 1 ≤ sw ∧ sw ≤ 1000 := by
    obtain ⟨a0, a1, b0, b1, c0, c1, d0, d1, e0, e1, s0, k0, k1, u0, u1, q0, q1, h0, h1, f0, f1, r0, r1, w0, w1⟩ := HOK.out
    omega
  rw [← hsw, ← hnn]
  rw [← hnn] at hn6
  have HNR := Lib.hid hnr; have HSW := Lib.hid hsw
  have hL0 := HL0.out
  have pm0 : 0 ≤ lo * sw := Int.mul_nonneg hL0.1 (by omega)
  have pm1 : lo * sw ≤ 60 * 1000 := Int.mul_le_mul hL0.2 hsb.2 (by omega) (by omega)
  have em : (lo + 1) * sw = lo * sw + sw := by rw [Int.add_mul, Int.one_mul]
  have ew1 : IntKind.i64.wrap (lo + 1) = lo + 1 := IntWalk.i64_in _ (by omega)
  have ew2 : IntKind.i64.wrap ((lo + 1) * sw) = (lo + 1) * sw := IntWalk.i64_in _ (by omega)
  have ew3 : IntKind.i64.wrap (lo * sw) = lo * sw := IntWalk.i64_in _ (by omega)
  have ew4 : IntKind.i64.wrap (lo * sw + 1) = lo * sw + 1 := IntWalk.i64_in _ (by omega)
  clear hsv hnr hnn hsw hsb hL0 pm0 pm1 em hn6
  go_enter Tryz.func42, Tryz.ntmps42
  go_upto_region 1 with (fail)
  rw [← HW0.out, ← HBT.out.2, ← HBT.out.1]
  obtain ⟨x0, x2, hfr⟩ := HXS.out
  go_upto_region 9 with (first
    | (go_at_call 77; (with_reducible refine (refLow_any mw w0 w1 _).mono ?_); rintro r w2 ⟨rfl, hw⟩; cases hw; rw [← HLO.out])
    | (go_at_call 80; (with_reducible refine (rswap_any (NotZ Q B T) R n' capR L 2 mw (mw + 1) _ HN.out HN2.out HT0.out.r HFA.out).mono ?_); rintro r w3 ⟨R2, cap2, rfl, hr, hb⟩; rw [HSB.out]; have HT1 := Lib.hid (TS.mk (HT0.out.z.step hb) hr); clear hr hb x0 x2 hfr; have x0 := HT1.out.z.cell 0 HV.out.c0; have hfr := HT1.out.z.fro)
    | fail)
  go_upto_region 11 with (fail)
  have ht2 := HT1.out.put 0 (.int .i64 0)
  obtain ⟨W1, hW1⟩ : ∃ W1, W1 = w3.setCell ⟨B, 0, none⟩ (.int .i64 0) := ⟨_, rfl⟩
  rw [← hW1] at ht2 ⊢
  obtain ⟨V1, hV1⟩ : ∃ V1, V1 = V.setIfInBounds 0 (.int .i64 0) := ⟨_, rfl⟩
  have hv1 : ZV Q w { m with pc := 0 } V1 := by rw [hV1]; exact HV.out.pc 0
  rw [← hV1] at ht2
  have HT2 := Lib.hid ht2; have HV1 := Lib.hid hv1
  clear ht2 hv1 hV1 hW1 x0 hfr HT1 HT0 ewm ewu
  have x3 := HT2.out.z.cell 3 HV1.out.c3
  have x5 := HT2.out.z.cell 5 HV1.out.c5
  have hfr := HT2.out.z.fro
  obtain ⟨q0, q1, q2, q3, q4, q5, q6, q7, q8, q9, q10, q11⟩ := HT2.out.z.ccells
  by_cases hgt : (lo + 1) * sw > (nr : Int)
  · have hr2 : decide ((lo + 1) * sw > (nr : Int)) = true := by simpa using hgt
    have hla : wmin ((lo + 1) * sw) (nr : Int) = (nr : Int) := by unfold wmin; split <;> omega
    have HLA := Lib.hid hla
    clear hgt hla
    go_upto_region 16 with (first
      | (go_at_call 70; (with_reducible refine (Lay.rooms_any c _).mono ?_); rintro r w5 ⟨v, rfl, ho⟩; obtain ⟨RA, rc, rfl, _⟩ := ho.reads; rw [← HNR.out]; have HT5 := Lib.hid (HT2.out.step ho.2); clear ho q0 q1 q2 q3 q4 q5 q6 q7 q8 q9 q10 q11 x3 x5 hfr; have x3 := HT5.out.z.cell 3 HV1.out.c3; have x5 := HT5.out.z.cell 5 HV1.out.c5; have hfr := HT5.out.z.fro; obtain ⟨q0, q1, q2, q3, q4, q5, q6, q7, q8, q9, q10, q11⟩ := HT5.out.z.ccells; rw [← HSW.out] at q11)
      | fail)
    have ht6 := ((HT5.out.put 3 (.int .i64 lo)).put 5 (.int .i64 ((lo + 1) * sw))).put 5 (.int .i64 (nr : Int))
    obtain ⟨W6, hW6⟩ : ∃ W6, W6 = ((w5.setCell ⟨B, 3, none⟩ (.int .i64 lo)).setCell ⟨B, 5, none⟩ (.int .i64 ((lo + 1) * sw))).setCell ⟨B, 5, none⟩ (.int .i64 (nr : Int)) := ⟨_, rfl⟩
    rw [← hW6] at ht6 ⊢
    obtain ⟨V6, hV6⟩ : ∃ V6, V6 = ((V1.setIfInBounds 3 (.int .i64 lo)).setIfInBounds 5 (.int .i64 ((lo + 1) * sw))).setIfInBounds 5 (.int .i64 (nr : Int)) := ⟨_, rfl⟩
    have hv6 : ZV Q w { m with pc := 0, part := lo, last := wmin ((lo + 1) * sw) (nr : Int) } V6 := by rw [HLA.out, hV6]; exact ((HV1.out.part lo).last_ ((lo + 1) * sw)).last_ (nr : Int)
    rw [← hV6] at ht6
    have HT6 := Lib.hid ht6; have HV6 := Lib.hid hv6
    clear ht6 hv6 hV6 hW6 x3 x5 hfr HT2 HT5 HV1 q0 q1 q2 q3 q4 q5 q6 q7 q8 q9 q10 q11
    obtain ⟨q0, q1, q2, q3, q4, q5, q6, q7, q8, q9, q10, q11⟩ := HT6.out.z.ccells
    rw [← HSW.out] at q11
    obtain ⟨V7, hV7⟩ : ∃ V7, V7 = goRow V6 { m with pc := 0, part := lo, last := wmin ((lo + 1) * sw) (nr : Int) } (lo * sw + 1) := ⟨_, rfl⟩
    have hv7 := HV6.out.go (lo * sw + 1)
    rw [← hV7] at hv7
    have HV7 := Lib.hid hv7; have HE7 := Lib.hid hV7
    clear hv7 hV7
    go_upto_region 17 with (first
      | (refine wpList_loadZ rfl (.tmp 5) rfl B V6 rfl HT6.out.z.z.bm HV6.out.size ?_)
      | (go_at_call 45; (with_reducible refine (on_any (lo * sw + 1) HV6.out).mono ?_); rintro r w8 ⟨rfl, hb⟩; rw [← HE7.out]; have HT8 := Lib.hid (HT6.out.step hb); clear hb)
      | (refine wpList_storeZ rfl (.tmp 5) (.tmp 77) rfl B V6 V7 rfl rfl HT8.out.z.z.bm HV6.out.size HV7.out.size HV7.out.one ?_)
      | fail)
    have ht9 := HT8.out.set (U := V7) (HV7.out.size.trans HV6.out.size.symm)
    obtain ⟨W9, hW9⟩ : ∃ W9, W9 = w8.setCells B 0 V7.toList := ⟨_, rfl⟩
    rw [← hW9] at ht9 ⊢
    have HT9 := Lib.hid ht9
    clear ht9 hW9 HT8 HT6 HV6 HE7 q0 q1 q2 q3 q4 q5 q6 q7 q8 q9 q10 q11
    have HK5 := Lib.hid (HT9.out.step (Below.refl _ _).drew)
    refine wp_region_any (by kernel_rfl) ?_
    change wpAny _ _ _ _ 4 _ _ (World.drew _)
    refine wpAny_take (i := 0) (v := .slice R2 n' cap2) rfl (by kernel_rfl) (by kernel_rfl) (by kernel_rfl) (fun _ _ _ h => h) (Or.inl ⟨by rfl, fun w => by exact BigFrame.run_move (.tmp 9) rfl w⟩) ?_
    refine wpAny_take (i := 2) (v := .slice R2 n' cap2) rfl (by kernel_rfl) (by kernel_rfl) (by kernel_rfl) (fun _ _ _ h => h) (Or.inl ⟨by rfl, fun w => by exact BigFrame.run_assign (.tmp 78) rfl w⟩) ?_
    refine wpAny_ready (rs := [1]) (by kernel_rfl) (by decide) (AllReady.cons rfl (fun K' hK => ?_) AllReady.nil)
    rw [if_pos (by rfl)]
    refine wp_load_mid 55 (.tmp 5) rfl B 0 rfl _ _ (rng_all HK5.out.z.z.bm) row64.choose_spec.1 row64.choose_spec.2 (by rw [show V7.toList.length = 19 from by simpa using HV7.out.size]; kernel_rfl) (hK _ _ ?_)
    refine wpAny_ready (rs := [3]) (by kernel_rfl) (by decide) (AllReady.cons rfl (fun K' hK => ?_) AllReady.nil)
    rw [if_pos (by rfl)]
    refine wp_store_mid 55 (.tmp 7) (.tmp 79) rfl T 0 V7 rfl rfl (there_sub 0 _ HK5.out.z.z.br (by rw [HV7.out.size]; decide)) (by rw [HV7.out.size]; kernel_rfl) HV7.out.one (hK _ _ ?_)
    refine wpAny_done (by kernel_rfl) ?_ _
    obtain ⟨hb, hl, hr⟩ := HK5.out.out HV7.out.size
    go_wp2
    exact bodyPost_ret (v := .tuple #[.slice R2 n' cap2, .agg V7]) (res2 Tryz.results42 _ _ _ _ _ rfl rfl hl) rfl ⟨R2, cap2, V7, rfl, HSV.out ▸ hr, by rw [HMW.out]; exact HV7.out.below hb, hb⟩
  · have hr2 : decide ((lo + 1) * sw > (nr : Int)) = false := by simpa using hgt
    have hla : wmin ((lo + 1) * sw) (nr : Int) = (lo + 1) * sw := by unfold wmin; split <;> omega
    have HLA := Lib.hid hla
    clear hgt hla
    go_upto_region 16 with (first
      | (go_at_call 70; (with_reducible refine (Lay.rooms_any c _).mono ?_); rintro r w5 ⟨v, rfl, ho⟩; obtain ⟨RA, rc, rfl, _⟩ := ho.reads; rw [← HNR.out]; have HT5 := Lib.hid (HT2.out.step ho.2); clear ho q0 q1 q2 q3 q4 q5 q6 q7 q8 q9 q10 q11 x3 x5 hfr; have x3 := HT5.out.z.cell 3 HV1.out.c3; have x5 := HT5.out.z.cell 5 HV1.out.c5; have hfr := HT5.out.z.fro; obtain ⟨q0, q1, q2, q3, q4, q5, q6, q7, q8, q9, q10, q11⟩ := HT5.out.z.ccells; rw [← HSW.out] at q11)
      | fail)
    have ht6 := (HT5.out.put 3 (.int .i64 lo)).put 5 (.int .i64 ((lo + 1) * sw))
    obtain ⟨W6, hW6⟩ : ∃ W6, W6 = (w5.setCell ⟨B, 3, none⟩ (.int .i64 lo)).setCell ⟨B, 5, none⟩ (.int .i64 ((lo + 1) * sw)) := ⟨_, rfl⟩
    rw [← hW6] at ht6 ⊢
    obtain ⟨V6, hV6⟩ : ∃ V6, V6 = (V1.setIfInBounds 3 (.int .i64 lo)).setIfInBounds 5 (.int .i64 ((lo + 1) * sw)) := ⟨_, rfl⟩
    have hv6 : ZV Q w { m with pc := 0, part := lo, last := wmin ((lo + 1) * sw) (nr : Int) } V6 := by rw [HLA.out, hV6]; exact (HV1.out.part lo).last_ ((lo + 1) * sw)
    rw [← hV6] at ht6
    have HT6 := Lib.hid ht6; have HV6 := Lib.hid hv6
    clear ht6 hv6 hV6 hW6 x3 x5 hfr HT2 HT5 HV1 q0 q1 q2 q3 q4 q5 q6 q7 q8 q9 q10 q11
    obtain ⟨q0, q1, q2, q3, q4, q5, q6, q7, q8, q9, q10, q11⟩ := HT6.out.z.ccells
    rw [← HSW.out] at q11
    obtain ⟨V7, hV7⟩ : ∃ V7, V7 = goRow V6 { m with pc := 0, part := lo, last := wmin ((lo + 1) * sw) (nr : Int) } (lo * sw + 1) := ⟨_, rfl⟩
    have hv7 := HV6.out.go (lo * sw + 1)
    rw [← hV7] at hv7
    have HV7 := Lib.hid hv7; have HE7 := Lib.hid hV7
    clear hv7 hV7
    go_upto_region 17 with (first
      | (refine wpList_loadZ rfl (.tmp 5) rfl B V6 rfl HT6.out.z.z.bm HV6.out.size ?_)
      | (go_at_call 45; (with_reducible refine (on_any (lo * sw + 1) HV6.out).mono ?_); rintro r w8 ⟨rfl, hb⟩; rw [← HE7.out]; have HT8 := Lib.hid (HT6.out.step hb); clear hb)
      | (refine wpList_storeZ rfl (.tmp 5) (.tmp 77) rfl B V6 V7 rfl rfl HT8.out.z.z.bm HV6.out.size HV7.out.size HV7.out.one ?_)
      | fail)
    have ht9 := HT8.out.set (U := V7) (HV7.out.size.trans HV6.out.size.symm)
    obtain ⟨W9, hW9⟩ : ∃ W9, W9 = w8.setCells B 0 V7.toList := ⟨_, rfl⟩
    rw [← hW9] at ht9 ⊢
    have HT9 := Lib.hid ht9
    clear ht9 hW9 HT8 HT6 HV6 HE7 q0 q1 q2 q3 q4 q5 q6 q7 q8 q9 q10 q11
    have HK5 := Lib.hid (HT9.out.step (Below.refl _ _).drew)
    refine wp_region_any (by kernel_rfl) ?_
    change wpAny _ _ _ _ 4 _ _ (World.drew _)
    refine wpAny_take (i := 0) (v := .slice R2 n' cap2) rfl (by kernel_rfl) (by kernel_rfl) (by kernel_rfl) (fun _ _ _ h => h) (Or.inl ⟨by rfl, fun w => by exact BigFrame.run_move (.tmp 9) rfl w⟩) ?_
    refine wpAny_take (i := 2) (v := .slice R2 n' cap2) rfl (by kernel_rfl) (by kernel_rfl) (by kernel_rfl) (fun _ _ _ h => h) (Or.inl ⟨by rfl, fun w => by exact BigFrame.run_assign (.tmp 78) rfl w⟩) ?_
    refine wpAny_ready (rs := [1]) (by kernel_rfl) (by decide) (AllReady.cons rfl (fun K' hK => ?_) AllReady.nil)
    rw [if_pos (by rfl)]
    refine wp_load_mid 55 (.tmp 5) rfl B 0 rfl _ _ (rng_all HK5.out.z.z.bm) row64.choose_spec.1 row64.choose_spec.2 (by rw [show V7.toList.length = 19 from by simpa using HV7.out.size]; kernel_rfl) (hK _ _ ?_)
    refine wpAny_ready (rs := [3]) (by kernel_rfl) (by decide) (AllReady.cons rfl (fun K' hK => ?_) AllReady.nil)
    rw [if_pos (by rfl)]
    refine wp_store_mid 55 (.tmp 7) (.tmp 79) rfl T 0 V7 rfl rfl (there_sub 0 _ HK5.out.z.z.br (by rw [HV7.out.size]; decide)) (by rw [HV7.out.size]; kernel_rfl) HV7.out.one (hK _ _ ?_)
    refine wpAny_done (by kernel_rfl) ?_ _
    obtain ⟨hb, hl, hr⟩ := HK5.out.out HV7.out.size
    go_wp2
    exact bodyPost_ret (v := .tuple #[.slice R2 n' cap2, .agg V7]) (res2 Tryz.results42 _ _ _ _ _ rfl rfl hl) rfl ⟨R2, cap2, V7, rfl, HSV.out ▸ hr, by rw [HMW.out]; exact HV7.out.below hb, hb⟩
end Go.Proofs.YtbpkcoemehmpbaaGreat
