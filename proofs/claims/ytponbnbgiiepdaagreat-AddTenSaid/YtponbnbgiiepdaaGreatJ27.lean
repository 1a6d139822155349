/- The law of how many steps a task takes that is put somewhere alone: walked. The law of tasks that are put somewhere one at a time: walked. -/
import Derived.Test.YtponbnbgiiepdaaGreatAdAw
import Derived.IntWalk
namespace Go.Proofs.YtponbnbgiiepdaaGreat
open Go.RowKit
set_option linter.unusedVariables false
set_option linter.unusedSimpArgs false
set_option maxRecDepth 100000
open Lay (plcc plc shOf packN nodesN OkC Cfg Norm firstV Rep lenL)

/-- The tasks: as many as are put ahead, and the last one. -/
def fT (n : Nat) (t : Int) (j : Nat) : Int := if j < n then (j : Int) else t
theorem fT_lt {n j : Nat} {t : Int} (h : j < n) : fT n t j = (j : Int) := if_pos h
theorem fT_n (n : Nat) (t : Int) : fT n t n = t := if_neg (Nat.lt_irrefl _)
theorem dq_cell {w w' : World} {c : Cfg} (h : Bw w c w') : w'.cell? ⟨w.heap.size, 7, none⟩ = some (.int .i64 c.dq) := by
  obtain ⟨q0, q1, q2, q3, q4, q5, q6, q7, _⟩ := h.cfg; exact q7

set_option maxHeartbeats 16000000 in
theorem walkTen (c : Cfg) (i b t : Int) (w : World) (hi : (Lit.int .u8 i).wf = true) (hb8 : (Lit.int .u8 b).wf = true) (ht : (Lit.int .u64 t).wf = true) :
    Calls Tryz.prog 7 #[Lay.cfgV c, .int .u8 i, .int .u8 b, .int .u64 t] w fun e w' => e = .returned (.bool true) ∧ Below w.heap.size w w' := by
  obtain ⟨i0, i1⟩ : 0 ≤ i ∧ i ≤ 255 := by
    simp [Lit.wf, IntKind.min, IntKind.max, IntKind.bits, IntKind.signed] at hi; omega
  obtain ⟨b0, b1⟩ : 0 ≤ b ∧ b ≤ 255 := by
    simp [Lit.wf, IntKind.min, IntKind.max, IntKind.bits, IntKind.signed] at hb8; omega
  have HT : Hid (0 ≤ t ∧ t ≤ 18446744073709551615) := Lib.hid (by
    simp [Lit.wf, IntKind.min, IntKind.max, IntKind.bits, IntKind.signed] at ht; omega)
  clear hi hb8 ht
  obtain ⟨n, hn⟩ : ∃ n : Nat, b % 12 = (n : Int) := ⟨(b % 12).toNat, by omega⟩
  have hn12 : n < 12 := by omega
  have HN12 := Lib.hid hn12
  have HB := Lib.hid (Bw.start w c)
  obtain ⟨q0, q1, q2, q3, q4, q5, q6, q7, q8, q9, q10, q11⟩ := (Bw.start w c).cfg
  go_enter Tryz.func7, Tryz.ntmps7
  go_wp2_with (first
    | (go_at_call 8; (with_reducible refine (awake_true _).mono ?_); rintro e w1 ⟨rfl, hb⟩; have HB := Lib.hid (HB.out.step hb); clear hb q0 q1 q2 q3 q4 q5 q6 q7 q8 q9 q10 q11; obtain ⟨q0, q1, q2, q3, q4, q5, q6, q7, q8, q9, q10, q11⟩ := HB.out.cfg)
    | (go_at_call 9; (with_reducible refine (small_any c _).mono ?_); rintro e w2 ⟨b, rfl, hs, hb⟩; have HB := Lib.hid (HB.out.step hb); clear hb q0 q1 q2 q3 q4 q5 q6 q7 q8 q9 q10 q11; obtain ⟨q0, q1, q2, q3, q4, q5, q6, q7, q8, q9, q10, q11⟩ := HB.out.cfg; have HSS := Lib.hid hs; clear hs; cases b)
    | (go_at_call 10; (with_reducible refine (Lay.new_yes (HSS.out trivial).1 _).mono ?_); rintro e w3 ⟨N, rfl, hm, hb⟩; have HOK := Lib.hid (HSS.out trivial).1; have HM := Lib.hid hm; have HB := Lib.hid (HB.out.step hb); clear hb hm q0 q1 q2 q3 q4 q5 q6 q7 q8 q9 q10 q11)
    | (go_at_call 14; (with_reducible refine (first_any HOK.out N _ HM.out).mono ?_); rintro e w4 ⟨G, n', L, rfl, hn, hr, hrep, hb⟩; have HB := Lib.hid (HB.out.step hb); have HM := Lib.hid (HM.out.below hb); have HN := Lib.hid hn; have HR := Lib.hid hr; have HRE := Lib.hid hrep; have HLE := Lib.hid (first_len HOK.out hrep); clear hb hn hr hrep)
    | (go_at_call 13; (with_reducible refine (new_any _ _ _ L _ HN.out HR.out (by have := HN.out; have := HLE.out; omega)).mono ?_); rintro e w5 hs; obtain ⟨S, D, rfl, hpo, hb⟩ := PO.start (B := w.heap.size + 1) (w0 := wcf w c) HB.out (by simp) HM.out HOK.out (first_ww HOK.out HRE.out) hs; have HPO := Lib.hid hpo; clear hs hpo hb; obtain ⟨q0, q1, q2, q3, q4, q5, q6, q7, q8, q9, q10, q11⟩ := Bw.cfg HPO.out.bel; obtain ⟨m1, m2, m3⟩ := dq_rng HOK.out)
    | fail)
  · go_ret
    exact ⟨rfl, HB.out.fin⟩
  obtain ⟨mk, hmk⟩ : ∃ mk, mk = i % c.mr := ⟨_, rfl⟩
  rw [← hmk]
  have hmod := Int.emod_nonneg i (show c.mr ≠ 0 by omega)
  have hmod2 := Int.emod_lt_of_pos i (show 0 < c.mr by omega)
  have hmod3 := mr_le HOK.out
  have HMK := Lib.hid (show 0 ≤ mk ∧ mk < c.mr ∧ mk ≤ 1000 by omega)
  have HMW := Lib.hid (Lay.wf_i64 (v := mk) (by omega) (by omega))
  have HDQ := Lib.hid (And.intro (dqn_is HOK.out) (pkn_is HOK.out))
  have HPB := Lib.hid (Lay.bds HOK.out).p1
  have HZ0 := Lib.hid (AZ.first HPO.out HRE.out HLE.out HMK.out.1 HMK.out.2.1)
  have HD := Lib.hid (HPO.out.step (Below.refl _ _).drew)
  have ew : IntKind.i64.wrap (c.dq + packN c) = c.dq + packN c := IntWalk.i64_in _ (by have := (Lay.bds HOK.out).p0; have := HPB.out; omega)
  have ew1 : IntKind.i64.wrap ((n : Int) + 1) = (n : Int) + 1 := IntWalk.i64_in _ (by omega)
  clear hmod hmod2 hmod3 hmk q0 q1 q2 q3 q4 q5 q6 q8 q9 q10 q11 HN HR HRE HLE HM HB HSS hn
  by_cases hbig : dqn c + pkn c < n + 1
  · have d1 : decide ((n : Int) + 1 > c.dq + packN c) = true := by have := HDQ.out; simp; omega
    clear hbig
    go_region_held3 (fun w' => w'.cell? ⟨w.heap.size, 7, none⟩ = some (.int .i64 c.dq))
      (first | exact dq_cell HP2.out.bel | exact dq_cell HD.out.bel | go_keep)
      (first
        | (go_at_call 29; (with_reducible refine (Lay.packets_m N _ HD.out.mp).mono ?_); rintro r w6 ⟨rfl, hb⟩; have HP2 := Lib.hid (HD.out.step hb); clear hb)
        | fail)
    all_goals
      go_wp2_with (fail)
      go_ret
      exact ⟨rfl, Bw.fin HP2.out.bel⟩
  · have d1 : decide ((n : Int) + 1 > c.dq + packN c) = false := by have := HDQ.out; simp; omega
    have HSM := Lib.hid (show n < dqn c + pkn c by omega)
    clear hbig
    go_region_held3 (fun w' => w'.cell? ⟨w.heap.size, 7, none⟩ = some (.int .i64 c.dq))
      (first | exact dq_cell HP2.out.bel | exact dq_cell HD.out.bel | go_keep)
      (first
        | (go_at_call 29; (with_reducible refine (Lay.packets_m N _ HD.out.mp).mono ?_); rintro r w6 ⟨rfl, hb⟩; have HP2 := Lib.hid (HD.out.step hb); have HZ1 := Lib.hid ((HZ0.out.below (Below.refl _ _).drew).below hb); clear hb)
        | fail)
    clear ew ew1 d1 q7 HD HP2 HPO HZ0
    go_wp2_with (fail)
    go_loopw [16] (fun v wr => ∃ (j : Nat) (L : List Int), j ≤ n ∧ v = .int .i64 (j : Int) ∧ AZ (w.heap.size + 1) S D N c (wcf w c) wr L (20 * (j : Int)) mk (j : Int) (lf (fT n t) (dqn c) j) (Qf (fT n t) (dqn c) j)) (fun v _ => n - (intOf v).toNat)
    case atStart => exact ⟨0, L, Nat.zero_le _, rfl, HZ1.out⟩
    case round =>
      clear HZ1 L
      obtain ⟨j, L, hj, rfl, hz⟩ := hrel
      have HZ := Lib.hid hz; clear hz
      by_cases hlt : j < n
      · have hlt' : (j : Int) < (n : Int) := by omega
        have HJ := Lib.hid hlt
        have HF := Lib.hid (fT_lt (t := t) hlt)
        clear hlt
        go_wp2_with (first
          | (go_at_call 16; (with_reducible refine (HZ.out.new (j : Int) HMW.out HMK.out.1 HMK.out.2.1).mono ?_); rintro e w8 ⟨X, rfl, hx, hz, hb⟩; rw [← HF.out] at hx; have HX2 := Lib.hid hx; have HY2 := Lib.hid hz; have HL2 := Lib.hid (HZ.out.lo hb.size); clear hx hz hb)
          | (go_at_call 15; (with_reducible refine (AZ.whole HY2.out HX2.out HL2.out (by rw [HF.out]; omega) (by omega) (by have := HSM.out; have := HJ.out; omega) (by omega)).mono ?_); rintro e w9 ⟨rfl, L2, m2, hz, _, _, _⟩; have HZ2 := Lib.hid hz; clear hz)
          | fail)
        go_roundw
        case rel => exact ⟨j + 1, L2, HJ.out, by go_num, by have h := HZ2.out; rw [show 20 * (j : Int) + 20 = 20 * ((j + 1 : Nat) : Int) by omega] at h; exact h⟩
        case measure => have := HJ.out; simp [intOf]; omega
      · obtain rfl : j = n := by omega
        have HF := Lib.hid (fT_n j t)
        have q7 := dq_cell HZ.out.po.bel
        have hnl : ¬ (j : Int) < (j : Int) := by omega
        clear hlt hj
        by_cases hfull : dqn c ≤ j
        · have d7 : decide ((j : Int) ≥ c.dq) = true := by have := HDQ.out; simp; omega
          have hiff : (if j < dqn c then (4 : Int) else 10) = 10 := if_neg (by omega)
          have HIF := Lib.hid hiff
          have HFU := Lib.hid (show decide (dqn c ≤ j) = true by simpa using hfull)
          clear hfull hiff
          go_wp2_with (first
            | (go_at_call 16; (with_reducible refine (HZ.out.new t HMW.out HMK.out.1 HMK.out.2.1).mono ?_); rintro e w8 ⟨X, rfl, hx, hz, hb⟩; rw [← HF.out] at hx; have HX2 := Lib.hid hx; have HY2 := Lib.hid hz; have HL2 := Lib.hid (HZ.out.lo hb.size); clear hx hz hb q7)
            | (go_at_call 15; (with_reducible refine (AZ.whole HY2.out HX2.out HL2.out (by rw [HF.out]; exact HT.out) (by omega) HSM.out (by omega)).mono ?_); rintro e w9 ⟨rfl, L2, m2, hz, hx, hsp, _⟩; rw [HIF.out]; have HZ2 := Lib.hid hz; have HX3 := Lib.hid hx; have HSP := Lib.hid (hsp.trans HFU.out); clear hz hx hsp; have q7 := dq_cell HZ2.out.po.bel)
            | fail)
          have HD := Lib.hid (HZ2.out.po.step (Below.refl _ _).drew)
          have HXD := Lib.hid (HX3.out.below (Below.refl _ _).drew)
          go_region_held3 (fun w' => w'.cell? ⟨w.heap.size, 7, none⟩ = some (.int .i64 c.dq))
            (first | exact dq_cell HP2.out.bel | exact dq_cell HD.out.bel | go_keep)
            (first
              | (go_at_call 22; (with_reducible refine (spilled_ao HXD.out).mono ?_); rintro r w14 ⟨rfl, hb⟩; rw [HSP.out]; have HP2 := Lib.hid (HD.out.step hb); clear hb)
              | fail)
          all_goals
            go_wp2_with (fail)
            go_ret
            exact ⟨rfl, Bw.fin HP2.out.bel⟩
        · have d7 : decide ((j : Int) ≥ c.dq) = false := by have := HDQ.out; simp; omega
          have hiff : (if j < dqn c then (4 : Int) else 10) = 4 := if_pos (by omega)
          have HIF := Lib.hid hiff
          have HFU := Lib.hid (show decide (dqn c ≤ j) = false by simpa using hfull)
          clear hfull hiff
          go_wp2_with (first
            | (go_at_call 16; (with_reducible refine (HZ.out.new t HMW.out HMK.out.1 HMK.out.2.1).mono ?_); rintro e w8 ⟨X, rfl, hx, hz, hb⟩; rw [← HF.out] at hx; have HX2 := Lib.hid hx; have HY2 := Lib.hid hz; have HL2 := Lib.hid (HZ.out.lo hb.size); clear hx hz hb q7)
            | (go_at_call 15; (with_reducible refine (AZ.whole HY2.out HX2.out HL2.out (by rw [HF.out]; exact HT.out) (by omega) HSM.out (by omega)).mono ?_); rintro e w9 ⟨rfl, L2, m2, hz, hx, hsp, _⟩; rw [HIF.out]; have HZ2 := Lib.hid hz; have HX3 := Lib.hid hx; have HSP := Lib.hid (hsp.trans HFU.out); clear hz hx hsp; have q7 := dq_cell HZ2.out.po.bel)
            | fail)
          have HD := Lib.hid (HZ2.out.po.step (Below.refl _ _).drew)
          have HXD := Lib.hid (HX3.out.below (Below.refl _ _).drew)
          go_region_held3 (fun w' => w'.cell? ⟨w.heap.size, 7, none⟩ = some (.int .i64 c.dq))
            (first | exact dq_cell HP2.out.bel | exact dq_cell HD.out.bel | go_keep)
            (first
              | (go_at_call 22; (with_reducible refine (spilled_ao HXD.out).mono ?_); rintro r w14 ⟨rfl, hb⟩; rw [HSP.out]; have HP2 := Lib.hid (HD.out.step hb); clear hb)
              | fail)
          all_goals
            go_wp2_with (fail)
            go_ret
            exact ⟨rfl, Bw.fin HP2.out.bel⟩
end Go.Proofs.YtponbnbgiiepdaaGreat

namespace Go.Proofs.YtponbnbgiiepdaaGreat
open Go.RowKit
set_option linter.unusedVariables false
set_option linter.unusedSimpArgs false
set_option maxRecDepth 100000
open Lay (plcc plc shOf packN nodesN OkC Cfg Norm firstV Rep lenL)

/-- One that pops leaves words. -/
theorem pop_ww {L : List Int} {m : Dg.Mc} (hk : m.kind = 2) (hb : 0 ≤ m.b ∧ m.b ≤ 18446744073709551615) (ww : WW L) : WW (Dg.stp L m).1 ∧ (Dg.stp L m).2.kind = 2 ∧ (0 ≤ (Dg.stp L m).2.b ∧ (Dg.stp L m).2.b ≤ 18446744073709551615) := by
  by_cases hp : m.pc = 0
  · rw [Dg.stp_no hp]; exact ⟨ww, hk, hb⟩
  · have es : Dg.stp L m = Dg.popS L m := by simp [Dg.stp, hp, hk]
    rw [es]
    have u := u64w_rng
    have key : ∀ P : List Int × Dg.Mc → Prop, (∀ L' m', WW L' → m'.kind = 2 → (0 ≤ m'.b ∧ m'.b ≤ 18446744073709551615) → P (L', m')) → P (Dg.popS L m) := by
      intro P hP
      unfold Dg.popS Dg.fin
      repeat' refine Dg.ite_ind (P := P) ?_ ?_
      all_goals apply hP
      all_goals try (by_cases hw : m.won = true <;> simp only [hw, if_true, if_false, Bool.false_eq_true])
      all_goals first
        | exact ww
        | exact hk
        | exact hb
        | exact u _
        | exact ww.put _ hb
        | exact ww.put _ (u _)
    exact key (fun z => WW z.1 ∧ z.2.kind = 2 ∧ (0 ≤ z.2.b ∧ z.2.b ≤ 18446744073709551615)) fun _ _ a b c => ⟨a, b, c⟩
theorem popr_ww : ∀ (i : Nat) {L : List Int} {m : Dg.Mc}, m.kind = 2 → (0 ≤ m.b ∧ m.b ≤ 18446744073709551615) → WW L → WW (Dg.runs i L m).1
  | 0, L, m, _, _, ww => ww
  | i + 1, L, m, hk, hb, ww => by
    obtain ⟨a, b, c⟩ := pop_ww hk hb ww
    exact popr_ww i b c a
theorem ww_nn {L : List Int} (h : WW L) : Dg.NN L := fun x hx => (h x hx).1
section
variable {B S D N M : Nat} {c : Cfg} {w0 w w6 wr : World} {L : List Int} {k mk i x : Int} {l Q : List Int}
theorem AZ.onStart (h : AZ B S D N c w0 w L k mk i l Q) (hm : Dg.MM w M (Dg.mPop (eOf c mk))) (h1 : M ≠ S ∧ M ≠ D) : Dg.On w w M S D (Dg.mPop (eOf c mk)) L 0 k ∧ Dg.Ws L (Dg.mPop (eOf c mk)) := by
  obtain ⟨cc, c0, c1, hs⟩ := h.po.st
  exact ⟨Dg.On.start (hm.mi hs h1.1 h1.2) c0 c1, Dg.ws_pop (ww_nn h.po.ww) (eok_of h.po.ok mk)⟩
/-- Behind one that popped. -/
theorem AZ.popped (h : AZ B S D N c w0 w L k mk i l (Q ++ [x])) (ho : Dg.On w wr M S D (Dg.mPop (eOf c mk)) L 6 k) (hM : B ≤ M ∧ M ≠ N) (hi : i + 1 < 1000) :
    AZ B S D N c w0 wr (Dg.runs 6 L (Dg.mPop (eOf c mk))).1 (k + 6) mk (i + 1) l Q ∧ Dg.rOf (Dg.runs 6 L (Dg.mPop (eOf c mk))).2 = 1 ∧ Dg.xOf (Dg.runs 6 L (Dg.mPop (eOf c mk))).2 = x := by
  obtain ⟨cc, c0, c1, hm⟩ := ho
  obtain ⟨p0, po, pw, pa⟩ := h.aa.pop hi
  have u := UF.of_u3 hm.u
  have hl := h.po.lt
  have hB := h.po.lo
  have ns := h.po.ns
  have fr := dgrun_frame 6 (L := L) (m := Dg.mPop (eOf c mk)) (by obtain ⟨T, β, d, _⟩ := h.aa.dq; exact d.g) rfl
  refine ⟨⟨⟨⟨cc, c0, by omega, hm.st⟩, IsMap_same h.po.mp u.size (u.block N hl.2.2 (by omega)), h.po.ok, ns, hB, popr_ww 6 rfl (by simp [Dg.mPop]) h.po.ww, below_uf h.po.bel hB.2.2 u (fun b hb => by omega)⟩, pa, by rw [fr.1]; exact h.len⟩, ?_, ?_⟩
  · unfold Dg.rOf; rw [if_pos p0]; exact po
  · unfold Dg.xOf; rw [if_pos p0]; exact pw
end
/-- The tasks. -/
def fA (j : Nat) : Int := (j : Int) + 1
theorem range_fA (j : Nat) : (List.range (j + 1)).map fA = (List.range j).map fA ++ [(j : Int) + 1] := by
  rw [List.range_succ, List.map_append]; rfl

set_option maxHeartbeats 16000000 in
theorem walkAlone (c : Cfg) (i b : Int) (w : World) (hi : (Lit.int .u8 i).wf = true) (hb8 : (Lit.int .u8 b).wf = true) :
    Calls Tryz.prog 4 #[Lay.cfgV c, .int .u8 i, .int .u8 b] w fun e w' => e = .returned (.bool true) ∧ Below w.heap.size w w' := by
  obtain ⟨i0, i1⟩ : 0 ≤ i ∧ i ≤ 255 := by
    simp [Lit.wf, IntKind.min, IntKind.max, IntKind.bits, IntKind.signed] at hi; omega
  obtain ⟨b0, b1⟩ : 0 ≤ b ∧ b ≤ 255 := by
    simp [Lit.wf, IntKind.min, IntKind.max, IntKind.bits, IntKind.signed] at hb8; omega
  clear hi hb8
  obtain ⟨n, hn⟩ : ∃ n : Nat, b % 12 = (n : Int) := ⟨(b % 12).toNat, by omega⟩
  have hn12 : n < 12 := by omega
  have HN12 := Lib.hid hn12
  have HB := Lib.hid (Bw.start w c)
  obtain ⟨q0, q1, q2, q3, q4, q5, q6, q7, q8, q9, q10, q11⟩ := (Bw.start w c).cfg
  go_enter Tryz.func4, Tryz.ntmps4
  go_wp2_with (first
    | (go_at_call 8; (with_reducible refine (awake_true _).mono ?_); rintro e w1 ⟨rfl, hb⟩; have HB := Lib.hid (HB.out.step hb); clear hb q0 q1 q2 q3 q4 q5 q6 q7 q8 q9 q10 q11; obtain ⟨q0, q1, q2, q3, q4, q5, q6, q7, q8, q9, q10, q11⟩ := HB.out.cfg)
    | (go_at_call 9; (with_reducible refine (small_any c _).mono ?_); rintro e w2 ⟨b, rfl, hs, hb⟩; have HB := Lib.hid (HB.out.step hb); clear hb q0 q1 q2 q3 q4 q5 q6 q7 q8 q9 q10 q11; obtain ⟨q0, q1, q2, q3, q4, q5, q6, q7, q8, q9, q10, q11⟩ := HB.out.cfg; have HSS := Lib.hid hs; clear hs; cases b)
    | (go_at_call 10; (with_reducible refine (Lay.new_yes (HSS.out trivial).1 _).mono ?_); rintro e w3 ⟨N, rfl, hm, hb⟩; have HOK := Lib.hid (HSS.out trivial).1; have HM := Lib.hid hm; have HB := Lib.hid (HB.out.step hb); clear hb hm q0 q1 q2 q3 q4 q5 q6 q7 q8 q9 q10 q11)
    | (go_at_call 14; (with_reducible refine (first_any HOK.out N _ HM.out).mono ?_); rintro e w4 ⟨G, n', L, rfl, hn, hr, hrep, hb⟩; have HB := Lib.hid (HB.out.step hb); have HM := Lib.hid (HM.out.below hb); have HN := Lib.hid hn; have HR := Lib.hid hr; have HRE := Lib.hid hrep; have HLE := Lib.hid (first_len HOK.out hrep); clear hb hn hr hrep)
    | (go_at_call 13; (with_reducible refine (new_any _ _ _ L _ HN.out HR.out (by have := HN.out; have := HLE.out; omega)).mono ?_); rintro e w5 hs; obtain ⟨S, D, rfl, hpo, hb⟩ := PO.start (B := w.heap.size + 1) (w0 := wcf w c) HB.out (by simp) HM.out HOK.out (first_ww HOK.out HRE.out) hs; have HPO := Lib.hid hpo; clear hs hpo hb; obtain ⟨q0, q1, q2, q3, q4, q5, q6, q7, q8, q9, q10, q11⟩ := Bw.cfg HPO.out.bel; obtain ⟨m1, m2, m3⟩ := dq_rng HOK.out)
    | fail)
  · go_ret
    exact ⟨rfl, HB.out.fin⟩
  obtain ⟨mk, hmk⟩ : ∃ mk, mk = i % c.mr := ⟨_, rfl⟩
  rw [← hmk, hn]
  have hmod := Int.emod_nonneg i (show c.mr ≠ 0 by omega)
  have hmod2 := Int.emod_lt_of_pos i (show 0 < c.mr by omega)
  have hmod3 := mr_le HOK.out
  have HMK := Lib.hid (show 0 ≤ mk ∧ mk < c.mr ∧ mk ≤ 1000 by omega)
  have HMW := Lib.hid (Lay.wf_i64 (v := mk) (by omega) (by omega))
  have HDQ := Lib.hid (And.intro (dqn_is HOK.out) (pkn_is HOK.out))
  have HPB := Lib.hid (Lay.bds HOK.out).p1
  have HZ0 := Lib.hid (AZ.first HPO.out HRE.out HLE.out HMK.out.1 HMK.out.2.1)
  have HD := Lib.hid (HPO.out.step (Below.refl _ _).drew)
  have ew : IntKind.i64.wrap (c.dq + packN c) = c.dq + packN c := IntWalk.i64_in _ (by have := (Lay.bds HOK.out).p0; have := HPB.out; omega)
  clear hmod hmod2 hmod3 hmk q0 q1 q2 q3 q4 q5 q6 q8 q9 q10 q11 HN HR HRE HLE HM HB HSS hn
  by_cases hbig : dqn c + pkn c < n
  · have d1 : decide ((n : Int) > c.dq + packN c) = true := by have := HDQ.out; simp; omega
    clear hbig
    go_region_held3 (fun w' => w'.cell? ⟨w.heap.size, 7, none⟩ = some (.int .i64 c.dq))
      (first | exact dq_cell HP2.out.bel | exact dq_cell HD.out.bel | go_keep)
      (first
        | (go_at_call 29; (with_reducible refine (Lay.packets_m N _ HD.out.mp).mono ?_); rintro r w6 ⟨rfl, hb⟩; have HP2 := Lib.hid (HD.out.step hb); clear hb)
        | fail)
    all_goals
      go_wp2_with (fail)
      go_ret
      exact ⟨rfl, Bw.fin HP2.out.bel⟩
  · have d1 : decide ((n : Int) > c.dq + packN c) = false := by have := HDQ.out; simp; omega
    have HSM := Lib.hid (show n ≤ dqn c + pkn c by omega)
    clear hbig
    go_region_held3 (fun w' => w'.cell? ⟨w.heap.size, 7, none⟩ = some (.int .i64 c.dq))
      (first | exact dq_cell HP2.out.bel | exact dq_cell HD.out.bel | go_keep)
      (first
        | (go_at_call 29; (with_reducible refine (Lay.packets_m N _ HD.out.mp).mono ?_); rintro r w6 ⟨rfl, hb⟩; have HP2 := Lib.hid (HD.out.step hb); have HZ1 := Lib.hid ((HZ0.out.below (Below.refl _ _).drew).below hb); clear hb)
        | fail)
    clear ew d1 q7 HD HP2 HPO HZ0
    go_wp2_with (fail)
    go_loopw [14] (fun v wr => ∃ (j : Nat) (L : List Int), j ≤ n ∧ v = .int .i64 (j : Int) ∧ AZ (w.heap.size + 1) S D N c (wcf w c) wr L (20 * (j : Int)) mk (j : Int) (lf fA (dqn c) j) (Qf fA (dqn c) j)) (fun v _ => n - (intOf v).toNat)
    case atStart => exact ⟨0, L, Nat.zero_le _, rfl, HZ1.out⟩
    case round =>
      clear HZ1 L
      obtain ⟨j, L, hj, rfl, hz⟩ := hrel
      have HZ := Lib.hid hz; clear hz
      by_cases hlt : j < n
      · have hlt' : (j : Int) < (n : Int) := by omega
        have HJ := Lib.hid hlt
        obtain ⟨z, hzz⟩ : ∃ z : Int, (if j < dqn c then (4 : Int) else 10) = z := ⟨_, rfl⟩
        have HIF := Lib.hid hzz
        obtain ⟨E, hE⟩ : ∃ E : Bool, decide (dqn c ≤ j) = E := ⟨_, rfl⟩
        have HE := Lib.hid hE
        have d7 : decide ((j : Int) ≥ c.dq) = E := by
          have := HDQ.out
          rw [← hE]
          by_cases h : dqn c ≤ j
          · rw [decide_eq_true h, decide_eq_true (by omega)]
          · rw [decide_eq_false h, decide_eq_false (by omega)]
        have H7 := Lib.hid d7
        clear hlt hzz hE d7
        go_wp2_with (first
          | (go_at_call 16; (with_reducible refine (HZ.out.new ((j : Int) + 1) HMW.out HMK.out.1 HMK.out.2.1).mono ?_); rintro e w8 ⟨X, rfl, hx, hz, hb⟩; have HX2 := Lib.hid hx; have HY2 := Lib.hid hz; have HL2 := Lib.hid (HZ.out.lo hb.size); clear hx hz hb)
          | (go_at_call 15; (with_reducible refine (AZ.whole (f := fA) HY2.out HX2.out HL2.out (by unfold fA; omega) (by omega) (by have := HSM.out; have := HJ.out; omega) (by omega)).mono ?_); rintro e w9 ⟨rfl, L2, m2, hz, hx, hsp, _⟩; rw [HIF.out]; have HZ2 := Lib.hid hz; have HX3 := Lib.hid hx; have HSP := Lib.hid (hsp.trans HE.out); clear hz hx hsp)
          | fail)
        have q7 := dq_cell HZ2.out.po.bel
        have HD := Lib.hid (HZ2.out.below (Below.refl _ _).drew)
        have HXD := Lib.hid (HX3.out.below (Below.refl _ _).drew)
        have d7 := H7.out
        go_region_held3 (fun w' => w'.cell? ⟨w.heap.size, 7, none⟩ = some (.int .i64 c.dq))
          (first | exact dq_cell HP2.out.po.bel | exact dq_cell HD.out.po.bel | go_keep)
          (first
            | (go_at_call 22; (with_reducible refine (spilled_ao HXD.out).mono ?_); rintro r w14 ⟨rfl, hb⟩; rw [HSP.out]; have HP2 := Lib.hid (HD.out.below hb); clear hb)
            | fail)
        all_goals
          go_wp2_with (fail)
          go_roundw
          case rel => exact ⟨j + 1, L2, HJ.out, by go_num, by have h := HP2.out; rw [show 20 * (j : Int) + 20 = 20 * ((j + 1 : Nat) : Int) by omega] at h; exact h⟩
          case measure => have := HJ.out; simp [intOf]; omega
      · obtain rfl : j = n := by omega
        have hnl : ¬ (j : Int) < (j : Int) := by omega
        clear hlt hj
        obtain ⟨kh, hkh⟩ : ∃ kh : Nat, kh = j - dqn c := ⟨_, rfl⟩
        have HKH := Lib.hid hkh
        have hmx : Lay.imax ((j : Int) - c.dq) 0 = (kh : Int) := by have := HDQ.out; unfold Lay.imax; split <;> omega
        obtain ⟨mn, hmn⟩ : ∃ mn : Nat, mn = min j (dqn c) := ⟨_, rfl⟩
        have hmi : Lay.imin (j : Int) c.dq = (mn : Int) := by have := HDQ.out; unfold Lay.imin; split <;> omega
        have HMI := Lib.hid hmi
        have HMN := Lib.hid hmn
        have hkb : kh ≤ 12 := by omega
        clear hkh hmn hmi
        go_wp2_with (first
          | (go_at_call 17; (with_reducible refine (all_po HZ.out.po (by have := HZ.out.len; omega)).mono ?_); rintro r w12 ⟨rfl, hr, hpo, hb⟩; have HR8 := Lib.hid hr; have HZ8 := Lib.hid (HZ.out.below hb); clear hr hpo hb)
          | (go_at_call 30; (with_reducible refine (held_pk2 HOK.out N _ _ _ _ _ HZ8.out.po.mp (Eq.refl _) HR8.out HZ8.out.po.ww (by have := HZ.out.len; omega)).mono ?_); rintro r w13 ⟨A, kh', cap, rfl, hk, hrow, hb⟩; rw [HZ.out.held, lf_len, ← HKH.out] at hk; rw [HZ.out.held, lf_len, ← HKH.out] at hrow; subst hk; have HZ9 := Lib.hid (HZ8.out.below hb); have HROW := Lib.hid hrow; clear hb hrow; have q7 := dq_cell HZ9.out.po.bel)
          | fail)
        clear HZ8 HR8 hmx
        go_loopw [17] (fun v wr => ∃ q : Nat, q ≤ kh' ∧ v = .int .i64 (q : Int) ∧ wr = w13) (fun v _ => kh' - (intOf v).toNat)
        case atStart => exact ⟨0, Nat.zero_le _, rfl, rfl⟩
        case round =>
          obtain ⟨q, hq, rfl, rfl⟩ := hrel
          by_cases hqk : q < kh'
          · obtain ⟨b2, o2, rfl, hb1, hb2, hcl⟩ := HROW.out (by omega)
            have hc0 := hcl q hqk
            rw [lf_at fA (dqn c) j q (by have := HKH.out; omega), show fA (j - 1 - q) = (j : Int) - (q : Int) by have := HKH.out; unfold fA; omega] at hc0
            have hqi : (q : Int) < (kh' : Int) := by omega
            have hq0 : (0 : Int) ≤ (q : Int) := by omega
            have hjq : (0 : Int) ≤ (j : Int) - (q : Int) := by have := HKH.out; omega
            have HQK := Lib.hid hqk
            clear hcl hb1 hb2 hqk
            go_wp2_with (fail)
            go_roundw
            case rel => exact ⟨q + 1, HQK.out, by go_num, trivial⟩
            case measure => have := HQK.out; simp [intOf]; omega
          · obtain rfl : q = kh' := by omega
            have hnl : ¬ (q : Int) < (q : Int) := by omega
            clear hqk hq
            have hmi := HMI.out
            go_wp2_with (fail)
            clear q7 hmi hnl
            go_loopw [18] (fun v wr => ∃ (jj : Nat) (L' : List Int) (k' i' : Int), jj ≤ mn ∧ v = .int .i64 (jj : Int) ∧ i' + jj ≤ 100 ∧ k' + 10 * jj ≤ 1000 ∧ AZ (w.heap.size + 1) S D N c (wcf w c) wr L' k' mk i' (lf fA (dqn c) j) ((List.range jj).map fA)) (fun v _ => (intOf v).toNat)
            case atStart =>
              refine ⟨mn, L, 20 * (j : Int), (j : Int), Nat.le_refl _, rfl, by have := HMN.out; omega, by have := HMN.out; omega, ?_⟩
              have h := HZ9.out
              rw [Qf_min, ← HMN.out] at h
              exact h
            case round =>
              clear HZ9 HZ
              obtain ⟨jj, L', k', i', hjm, rfl, hib, hkb', hz⟩ := hrel
              cases jj with
              | zero =>
                have HZ := Lib.hid hz; clear hz
                go_wp2_with (fail)
                go_ret
                exact ⟨rfl, Bw.fin HZ.out.po.bel⟩
              | succ p =>
                rw [range_fA] at hz
                have HZ := Lib.hid hz; clear hz
                have HB9 := Lib.hid (And.intro hib (And.intro hkb' hjm))
                have hpp : ((p + 1 : Nat) : Int) = (p : Int) + 1 := by omega
                rw [hpp]
                have hpos : (p : Int) + 1 > 0 := by omega
                have hp12 : p ≤ 12 := by have := HMN.out; omega
                clear hib hkb' hjm hpp
                go_wp2_with (first
                  | (go_at_call 27; (with_reducible refine (ends_any HOK.out N mk HMW.out _ HZ.out.po.mp).mono ?_); rintro r w20 ⟨rfl, hb⟩; have HZ1 := Lib.hid (HZ.out.below hb); clear hb)
                  | (go_at_call 31; (with_reducible refine (Dg.pop_any (eOf c mk) _).mono ?_); rintro r w21 ⟨M, rfl, hM, hmm, hb⟩; have HZ2 := Lib.hid (HZ1.out.below hb); have HMA := Lib.hid (show (M ≠ S ∧ M ≠ D) ∧ (w.heap.size + 1 ≤ M ∧ M ≠ N) by (have hl := HZ1.out.po.lt; have hs := HZ1.out.po.bel.size; have hs2 := HZ1.out.po.lo; simp at hs hs2; omega)); have HOS := Lib.hid (HZ2.out.onStart hmm HMA.out.1); clear hM hmm hb)
                  | fail)
                clear HZ1 HZ
                go_loopw [20] (fun v wr => ∃ i : Nat, i ≤ 6 ∧ v = .int .i64 (i : Int) ∧ Dg.On w21 wr M S D (Dg.mPop (eOf c mk)) L' i k') (fun v _ => 6 - (intOf v).toNat)
                case atStart => exact ⟨0, by omega, rfl, HOS.out.1⟩
                case round =>
                  obtain ⟨i, hi, rfl, ho⟩ := hrel
                  have HO := Lib.hid ho; clear ho
                  by_cases h6 : i < 6
                  · go_wp2_with (first
                      | (go_at_call 32; (with_reducible refine (Dg.on_step HO.out HOS.out.2 (by have := HB9.out; omega)).mono ?_); rintro r w22 ⟨rfl, ho⟩; have HO2 := Lib.hid ho; clear ho)
                      | fail)
                    go_roundw
                    case rel => exact ⟨i + 1, by omega, by go_num, HO2.out⟩
                    case measure => simp [intOf]; omega
                  · obtain rfl : i = 6 := by omega
                    obtain ⟨hz, r1, r2⟩ := HZ2.out.popped HO.out HMA.out.2 (by have := HB9.out; omega)
                    have HZ3 := Lib.hid hz; have HR1 := Lib.hid r1; have HR2 := Lib.hid r2
                    clear hz r1 r2 h6 hi
                    go_wp2_with (first
                      | (go_at_call 33; (with_reducible refine (Dg.res_any _ HO.out.mm).mono ?_); rintro r w23 ⟨rfl, hb⟩; rw [HR1.out, HR2.out]; have HZ4 := Lib.hid (HZ3.out.below hb); clear hb)
                      | fail)
                    go_roundw
                    case rel => exact ⟨p, _, _, _, by have := HB9.out; omega, by go_num, by have := HB9.out; omega, by have := HB9.out; omega, HZ4.out⟩
                    case measure => simp [intOf]
end Go.Proofs.YtponbnbgiiepdaaGreat
