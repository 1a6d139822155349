/- The law of a task that is done alone: walked. -/
import Derived.Test.YtpocihddecemfaaGreatJ25
import Derived.Test.YtpocihddecemfaaGreatJ18
import Derived.IntWalk
namespace Go.Proofs.YtpocihddecemfaaGreat
open Go.RowKit
set_option linter.unusedVariables false
set_option linter.unusedSimpArgs false
set_option maxRecDepth 100000
open Lay (plcc plc shOf packN nodesN OkC Cfg Norm firstV Rep lenL slotsOf kindV)

@[go_sem] theorem fld_ea (a0 a1 a2 a3 a4 : Int) (w : World) : (Instr.field 62 (.agg #[.int .i64 a0, .int .i64 a1, .int .i64 a2, .int .i64 a3, .int .i64 a4]) 2).run Tryz.prog w = .ok (.int .i64 a2) w := by kernel_rfl
/-- Any mark is put. -/
theorem MK.any {c : Cfg} {cy : Int} {L0 L : List Int} (h : MK c cy 1 L0 L) (u x : Int) : MK c cy 1 L0 (ptq L (plcc c 16 u 0) x) :=
  ⟨by rw [pt_len]; exact h.len, fun v h0 h1 _ => by omega, fun p h0 h1 => by rw [pt_other h0 (h1 u)]; exact h.same p h0 h1⟩
theorem end_min {rm ch b : Int} (h1 : rm ≤ 16) (c0 : 1 ≤ ch) (c1 : ch ≤ 16) (b0 : 0 ≤ b) (b1 : b ≤ rm) : Lay.imin (b + ch) rm = toZ rm b ch := by
  rw [toZ_is (by omega) (by omega) b0 c0 (by omega)]; unfold Lay.imin; rw [if_neg (show ¬ rm < b by omega)]
/-- The wanted nodes' row is one of the call's own. -/
def Far (B S D N : Nat) (o : Option Nat) : Prop := ∀ b, o = some b → B ≤ b ∧ b ≠ S ∧ b ≠ D ∧ b ≠ N

theorem one_lt {c : Cfg} (hc : OkC c) : 1 < lenL (shOf c) := by
  have h := Lay.plc_lt (s := shOf c) n1 (show 0 ≤ plcc c 1 0 0 by rw [work_at]; decide)
  have e : plc (shOf c) ⟨1, 0, 0⟩ = 1 := work_at c
  rw [e] at h
  omega
theorem wlist_len (k : Zk) : ∀ t, (wlist k t).length ≤ t
  | 0 => by simp [wlist]
  | t + 1 => by
    have ih := wlist_len k t
    show (if _ then _ else _ : List Int).length ≤ t + 1
    split
    · simp; omega
    · omega
theorem mem_take_succ {l : List Int} {p : Nat} {x : Int} (h : p < l.length) : x ∈ l.take (p + 1) ↔ x ∈ l.take p ∨ l.getD p 0 = x := by
  rw [List.take_succ_eq_append_getElem h, List.mem_append, List.mem_singleton]
  simp only [List.getD, List.getElem?_eq_getElem h, Option.getD_some]
  exact or_congr Iff.rfl eq_comm
set_option maxHeartbeats 32000000 in
theorem walkAlone (c : Cfg) (v fr : Int) (F : Option Addr) (fn fc : Nat) (zf : List Int) (O : Option Addr) (on oc : Nat) (zo : List Int) (w : World) (hv : (Lit.int .u8 v).wf = true) (hfr8 : (Lit.int .u8 fr).wf = true) (hF : IsRow .u64 w F fn fc zf) (hO : IsRow .u8 w O on oc zo) :
    Calls Tryz.prog 4 #[Lay.cfgV c, .int .u8 v, .int .u8 fr, .slice F fn fc, .slice O on oc] w fun e w' => e = .returned (.bool true) ∧ Below w.heap.size w w' := by
  obtain ⟨v0, v1⟩ : 0 ≤ v ∧ v ≤ 255 := by
    simp [Lit.wf, IntKind.min, IntKind.max, IntKind.bits, IntKind.signed] at hv; omega
  obtain ⟨fr0, fr1⟩ : 0 ≤ fr ∧ fr ≤ 255 := by
    simp [Lit.wf, IntKind.min, IntKind.max, IntKind.bits, IntKind.signed] at hfr8; omega
  obtain ⟨fs, hfn, hfr, hfx, hfm⟩ := row_words hF
  obtain ⟨os, hon, hor, hox, hom⟩ := row_bytes hO
  have HFN := Lib.hid hfn; have HFR := Lib.hid hfr; have HFX := Lib.hid hfx; have HON := Lib.hid hon; have HOR := Lib.hid hor; have HOX := Lib.hid hox
  have HB := Lib.hid (Bw.start w c)
  obtain ⟨q0, q1, q2, q3, q4, q5, q6, q7, q8, q9, q10, q11⟩ := (Bw.start w c).cfg
  have HV := Lib.hid (And.intro v0 v1); have HFR8 := Lib.hid (And.intro fr0 fr1)
  clear hv hF hO hfn hfr hfx hon hor hox v0 v1 hfr8 fr0 fr1
  by_cases hb1 : 40 < fn
  · have d1 : decide ((fn : Int) > 40) = true := by simp; omega
    clear hb1
    go_enter Tryz.func4, Tryz.ntmps4
    go_wp2_with (first
      | (go_at_call 7; (with_reducible refine (awake_true _).mono ?_); rintro e w1 ⟨rfl, hb⟩; have HB := Lib.hid (HB.out.step hb); clear hb q0 q1 q2 q3 q4 q5 q6 q7 q8 q9 q10 q11; obtain ⟨q0, q1, q2, q3, q4, q5, q6, q7, q8, q9, q10, q11⟩ := HB.out.cfg)
      | (go_at_call 8; (with_reducible refine (small_any c _).mono ?_); rintro e w2 ⟨b, rfl, hs, hb⟩; have HB := Lib.hid (HB.out.step hb); clear hb; cases b)
      | fail)
    all_goals go_ret
    all_goals exact ⟨rfl, HB.out.fin⟩
  by_cases hb2 : fn = 0
  · subst hb2
    go_enter Tryz.func4, Tryz.ntmps4
    go_wp2_with (first
      | (go_at_call 7; (with_reducible refine (awake_true _).mono ?_); rintro e w1 ⟨rfl, hb⟩; have HB := Lib.hid (HB.out.step hb); clear hb q0 q1 q2 q3 q4 q5 q6 q7 q8 q9 q10 q11; obtain ⟨q0, q1, q2, q3, q4, q5, q6, q7, q8, q9, q10, q11⟩ := HB.out.cfg)
      | (go_at_call 8; (with_reducible refine (small_any c _).mono ?_); rintro e w2 ⟨b, rfl, hs, hb⟩; have HB := Lib.hid (HB.out.step hb); clear hb; cases b)
      | fail)
    all_goals go_ret
    all_goals exact ⟨rfl, HB.out.fin⟩
  have d1 : decide ((fn : Int) > 40) = false := by simp; omega
  have d2 : ((fn : Int) == 0) = false := by rw [beq_eq_false_iff_ne]; omega
  have hf40 : fn ≤ 40 := by omega
  by_cases hb3 : 20 < on
  · have d3 : decide ((on : Int) > 20) = true := by simp; omega
    clear hb1 hb2 hb3
    go_enter Tryz.func4, Tryz.ntmps4
    go_wp2_with (first
      | (go_at_call 7; (with_reducible refine (awake_true _).mono ?_); rintro e w1 ⟨rfl, hb⟩; have HB := Lib.hid (HB.out.step hb); clear hb q0 q1 q2 q3 q4 q5 q6 q7 q8 q9 q10 q11; obtain ⟨q0, q1, q2, q3, q4, q5, q6, q7, q8, q9, q10, q11⟩ := HB.out.cfg)
      | (go_at_call 8; (with_reducible refine (small_any c _).mono ?_); rintro e w2 ⟨b, rfl, hs, hb⟩; have HB := Lib.hid (HB.out.step hb); clear hb; cases b)
      | fail)
    all_goals go_ret
    all_goals exact ⟨rfl, HB.out.fin⟩
  have d3 : decide ((on : Int) > 20) = false := by simp; omega
  have ho20 : on ≤ 20 := by omega
  clear hb1 hb2 hb3
  obtain ⟨vq, hvq⟩ : ∃ vq : Nat, v = (vq : Int) := ⟨v.toNat, by have := HV.out; omega⟩
  subst hvq
  obtain ⟨fq, hfq⟩ : ∃ fq : Nat, fr = (fq : Int) := ⟨fr.toNat, by have := HFR8.out; omega⟩
  subst hfq
  go_enter Tryz.func4, Tryz.ntmps4
  go_upto_region 9 with (first
    | (go_at_call 7; (with_reducible refine (awake_true _).mono ?_); rintro e w1 ⟨rfl, hb⟩; have HB := Lib.hid (HB.out.step hb); clear hb q0 q1 q2 q3 q4 q5 q6 q7 q8 q9 q10 q11; obtain ⟨q0, q1, q2, q3, q4, q5, q6, q7, q8, q9, q10, q11⟩ := HB.out.cfg)
    | (go_at_call 8; (with_reducible refine (small_any c _).mono ?_); rintro e w2 ⟨b, rfl, hs, hb⟩; have HB := Lib.hid (HB.out.step hb); clear hb q0 q1 q2 q3 q4 q5 q6 q7 q8 q9 q10 q11; obtain ⟨q0, q1, q2, q3, q4, q5, q6, q7, q8, q9, q10, q11⟩ := HB.out.cfg; have HSS := Lib.hid hs; clear hs; cases b)
    | (go_at_call 9; (with_reducible refine (Lay.new_yes (HSS.out trivial).1 _).mono ?_); rintro e w3 ⟨N, rfl, hm, hb⟩; have HOK := Lib.hid (HSS.out trivial).1; have HM := Lib.hid hm; have HB := Lib.hid (HB.out.step hb); have HB3 := HB; clear hb hm q0 q1 q2 q3 q4 q5 q6 q7 q8 q9 q10 q11)
    | (go_at_call 12; (with_reducible refine (filled_any HOK.out N F fn fc fs _ HM.out HFN.out (HB.out.reads HFR.out) HFX.out (by omega)).mono ?_); rintro e w4 ⟨S, D, L0, L, rfl, hrep, hfl, hpo, hb⟩; have HB := Lib.hid (HB.out.step hb); have HRE := Lib.hid hrep; have HFL := Lib.hid hfl; have HPO := Lib.hid hpo; clear hrep hfl hpo hb)
    | fail)
  · go_ret
    exact ⟨rfl, HB.out.fin⟩
  have HBW : Hid (∀ w', Below w3.heap.size w3 w' → Bw w c w') := Lib.hid (fun w' hb => HB3.out.step hb)
  have HNB := Lib.hid (show N < w3.heap.size from HM.out.1)
  have HLEN := Lib.hid (show L.length = lenL (shOf c) from HFL.out.len.trans HRE.out.1)
  clear HB HB3 HM HSS
  go_wp2_with (fail)
  go_loopw [16] (fun s16 wr => ∃ (q : Nat) (L2 : List Int), s16 = .int .i64 (q : Int) ∧ q ≤ on ∧ PO w3.heap.size S D N c w3 wr L2 (2000 + (q : Int)) ∧ MK c 3 1 L L2) (fun s16 _ => 100 - (intOf s16).toNat)
  case atStart => exact ⟨0, L, rfl, Nat.zero_le _, HPO.out, MK.refl _ _ _⟩
  case round =>
    clear HPO
    obtain ⟨q, L2, rfl, hq, hpo, hmk⟩ := hrel
    have HPO := Lib.hid hpo; have HMK := Lib.hid hmk
    clear hpo hmk
    by_cases hqo : q < on
    · obtain ⟨ob, oo, rfl, holt, hoc⟩ := HOR.out (by rw [← HON.out]; omega)
      obtain ⟨o, ho⟩ : ∃ o, o = os.getD q 0 := ⟨_, rfl⟩
      have hob : 0 ≤ o ∧ o ≤ 255 := by rw [ho]; exact HOX.out _ (by rw [List.getD, List.getElem?_eq_getElem (by rw [← HON.out]; exact hqo)]; exact List.getElem_mem _)
      have hcell : wr.cell? ⟨ob, oo + q, none⟩ = some (.int .u8 o) := by
        rw [ho]
        exact ((HBW.out _ HPO.out.bel).fin.cell (p := ⟨ob, oo + q, none⟩) holt).trans (hoc q (by rw [← HON.out]; exact hqo))
      have hq2 : (q : Int) < (on : Int) := by omega
      have hq0 : (0 : Int) ≤ (q : Int) := by omega
      obtain ⟨oq, hoq⟩ : ∃ oq : Nat, o = (oq : Int) := ⟨o.toNat, by omega⟩
      subst hoq
      obtain ⟨om, hom2⟩ : ∃ om, om = oq % 16 := ⟨_, rfl⟩
      have hrem : ((oq : Nat) : Int).tmod 16 = (om : Int) := by rw [Int.tmod_eq_emod_of_nonneg (by omega), hom2]; rfl
      have hw1 : IntKind.u8.wrap (om : Int) = (om : Int) := by
        have : om < 16 := by rw [hom2]; exact Nat.mod_lt _ (by omega)
        rw [IntKind.wrap_u8]; exact Int.emod_eq_of_lt (by omega) (by omega)
      have hw2 : IntKind.i64.wrap (om : Int) = (om : Int) := by
        have : om < 16 := by rw [hom2]; exact Nat.mod_lt _ (by omega)
        exact IntWalk.i64_in _ (by omega)
      have HOW : Hid ((Lit.int .i64 (om : Int)).wf = true) := Lib.hid (by
        have : om < 16 := by rw [hom2]; exact Nat.mod_lt _ (by omega)
        simp [Lit.wf, IntKind.min, IntKind.max, IntKind.bits, IntKind.signed]; omega)
      have eq1 : IntKind.i64.wrap ((q : Int) + 1) = (q : Int) + 1 := IntWalk.i64_in _ (by omega)
      have HQO := Lib.hid hqo
      clear ho hoc holt hom2 hqo hq
      go_wp2_with (first
        | (go_at_call 23; (with_reducible refine (Lay.mark_m HOK.out N _ HOW.out _ HPO.out.mp).mono ?_); rintro e w6 ⟨rfl, hb⟩; have HP2 := Lib.hid (HPO.out.step hb); clear hb)
        | (go_at_call 21; (with_reducible refine (put_po HP2.out (plcc c 16 (om : Int) 0) 3 (by decide) (by have := HQO.out; omega)).mono ?_); rintro e w7 ⟨rfl, hp, _⟩; have HP3 := Lib.hid hp; clear hp)
        | fail)
      go_roundw
      case rel => exact ⟨q + 1, _, by go_num, by have := HQO.out; omega, HP3.out.more (by omega), HMK.out.any _ _⟩
      case measure => simp [intOf]; have := HQO.out; omega
    · have hq2 : ¬ (q : Int) < (on : Int) := by omega
      clear hqo
      obtain ⟨nn, hnn⟩ : ∃ nn : Nat, nodesN c = (nn : Int) := ⟨(nodesN c).toNat, by have := nodes60 HOK.out; omega⟩
      have hn1 : ¬ nn = 0 := by have := nodes_pos HOK.out; omega
      have hn60 : nn ≤ 60 := by have := nodes60 HOK.out; omega
      obtain ⟨nd, hnd⟩ : ∃ nd, nd = vq % nn := ⟨_, rfl⟩
      have hndl : nd < nn := by rw [hnd]; exact Nat.mod_lt _ (by omega)
      have hrem : ((vq : Nat) : Int).tmod (nn : Int) = (nd : Int) := by rw [Int.tmod_eq_emod_of_nonneg (by omega), hnd]; rfl
      have hvw : IntKind.i64.wrap ((vq : Nat) : Int) = (vq : Int) := IntWalk.i64_in _ (by have := HV.out; omega)
      have hfw : IntKind.i64.wrap ((fq : Nat) : Int) = (fq : Int) := IntWalk.i64_in _ (by have := HFR8.out; omega)
      obtain ⟨u, hu⟩ : ∃ u : Int, u = (nd : Int) + 1 := ⟨_, rfl⟩
      have huw : IntKind.i64.wrap ((nd : Int) + 1) = u := by rw [hu]; exact IntWalk.i64_in _ (by omega)
      have HNN := Lib.hid hnn
      have HU := Lib.hid (show 1 ≤ u ∧ u ≤ nodesN c by rw [hnn]; omega)
      have hu60 : 1 ≤ u ∧ u ≤ 60 := by omega
      have hu32 : IntKind.u32.wrap u = u := by rw [IntKind.wrap_u32]; exact Int.emod_eq_of_lt (by omega) (by omega)
      have HUW : Hid ((Lit.int .i64 u).wf = true) := Lib.hid (by simp [Lit.wf, IntKind.min, IntKind.max, IntKind.bits, IntKind.signed]; omega)
      have HU60 := Lib.hid hu60
      obtain ⟨rm, hrm⟩ : ∃ rm : Nat, slotsOf (kindV c u) = (rm : Int) := ⟨(slotsOf (kindV c u)).toNat, by have := Lay.slots_bd (kindV c u); omega⟩
      have hrb : rm ≤ 16 := by have := Lay.slots_bd (kindV c u); omega
      have hrw : IntKind.u64.wrap (rm : Int) = (rm : Int) := by rw [IntKind.wrap_u64]; exact Int.emod_eq_of_lt (by omega) (by omega)
      have hr1 : IntKind.i64.wrap ((rm : Int) + 1) = (rm : Int) + 1 := IntWalk.i64_in _ (by omega)
      have hrz : ¬ (rm : Int) + 1 = 0 := by omega
      obtain ⟨bq, hbq⟩ : ∃ bq, bq = fq % (rm + 1) := ⟨_, rfl⟩
      have hbl : bq ≤ rm := by rw [hbq]; have := Nat.mod_lt fq (show 0 < rm + 1 by omega); omega
      have hrem2 : ((fq : Nat) : Int).tmod ((rm : Int) + 1) = (bq : Int) := by rw [Int.tmod_eq_emod_of_nonneg (by omega), hbq]; rfl
      have hch := And.intro HOK.out.h0 HOK.out.h1
      have hbc : IntKind.i64.wrap ((bq : Int) + c.ch) = (bq : Int) + c.ch := IntWalk.i64_in _ (by omega)
      have HRM := Lib.hid hrm
      have HRB := Lib.hid (show 0 ≤ (rm : Int) ∧ (rm : Int) ≤ 18446744073709551615 by omega)
      obtain ⟨en, hen⟩ : ∃ en : Nat, toZ (rm : Int) (bq : Int) c.ch = (en : Int) := ⟨(toZ (rm : Int) (bq : Int) c.ch).toNat, by have := (toZ_bd (n := (rm : Int)) (fr := (bq : Int)) (ch := c.ch) (by omega) (by omega)).1; omega⟩
      have hmin : Lay.imin ((bq : Int) + c.ch) (rm : Int) = (en : Int) := by rw [end_min (by omega) hch.1 hch.2 (by omega) (by omega)]; exact hen
      have hbe : bq ≤ en ∧ en ≤ rm := by
        have h := hen
        rw [toZ_is (by omega) (by omega) (by omega) hch.1 (by omega), if_neg (show ¬ (rm : Int) < (bq : Int) by omega)] at h
        split at h <;> omega
      have HEN := Lib.hid hen
      have hc8 := ch_cell (HBW.out _ HPO.out.bel)
      have HQ20 := Lib.hid (show q ≤ 20 by omega)
      clear hnn hnd hndl hu hu60 hrm hbq hch hen hq
      have hb32 : IntKind.u32.wrap (bq : Int) = (bq : Int) := by rw [IntKind.wrap_u32]; exact Int.emod_eq_of_lt (by omega) (by omega)
      go_upto_region 18 with (first
        | (go_at_call 24; (with_reducible refine (Lay.nodes_m HOK.out N _ HPO.out.mp).mono ?_); rintro e w5 ⟨rfl, hb⟩; rw [HNN.out]; have HP1 := Lib.hid (HPO.out.step hb); clear hb)
        | (go_at_call 25; (with_reducible refine (Lay.room_m N u _ HP1.out.mp).mono ?_); rintro e w6 ⟨rfl, hb⟩; rw [HRM.out]; have HP2 := Lib.hid (HP1.out.step hb); clear hb)
        | (go_at_call 26; (with_reducible refine (Lay.header_m HOK.out N u HUW.out _ HP2.out.mp).mono ?_); rintro e w7 ⟨rfl, hb⟩; have HP3 := Lib.hid (HP2.out.step hb); clear hb)
        | (go_at_call 21; (with_reducible refine (put_po HP3.out (plcc c 14 u 0) (rm : Int) HRB.out (by have := HQ20.out; omega)).mono ?_); rintro e w8 ⟨rfl, hp, _⟩; have HP4 := Lib.hid hp; clear hc8; have hc8 := ch_cell (HBW.out _ hp.bel); clear hp)
        | fail)
      obtain ⟨L3, hL3⟩ : ∃ L3, L3 = ptq L2 (plcc c 14 u 0) (rm : Int) := ⟨_, rfl⟩
      have hp4 := HP4.out
      rw [← hL3] at hp4
      have p14 := plc_in HOK.out (k := 14) (by omega) (by omega) HU.out.1 HU.out.2
      have hlen3 : L3.length = lenL (shOf c) := by rw [hL3, pt_len]; exact HMK.out.len.trans HLEN.out
      have HMR := Lib.hid (show (0 : Int) < c.mr from by have := HOK.out.k0; omega)
      have ha3 : A1 (pkn c) (dqn c) (gOf c) (eOf c 0) L3 0 0 aIdle 0 := by
        have a1 := (((a1_first HOK.out (Int.le_refl 0) HMR.out HRE.out).fl HOK.out (Int.le_refl 0) HMR.out HFL.out).marks HOK.out (Int.le_refl 0) HMR.out HMK.out)
        rw [hL3]
        exact a1.fl HOK.out (Int.le_refl 0) HMR.out ((FL.refl c L2).put ⟨u, HU.out.1, HU.out.2, .inl rfl⟩)
      have hhd : L3.getD (plcc c 14 u 0).toNat 0 = slotsOf (kindV c u) := by
        have lt := Lay.plc_lt (s := shOf c) (n14 u) p14
        rw [hL3, pt_same ⟨p14, by rw [HMK.out.len, HLEN.out]; exact lt⟩]
        exact HRM.out.symm
      obtain ⟨k, hk⟩ : ∃ k, k = zkOf c 0 u (bq : Int) 3 L3 0 nn := ⟨_, rfl⟩
      have hsc : SC k L3 0 0 (zNew u (bq : Int) 3 cp00 aIdle) (bq : Int) [] (fun _ => False) 253 := by
        rw [hk]
        refine SC.start HOK.out (Int.le_refl _) HMR.out HU.out.1 HU.out.2 ⟨by omega, by rw [HRM.out]; omega⟩ ?_ (fun K hK hs => few_nodes nn K hK fun x hx => ⟨(hs x hx).1, by have := (hs x hx).2.1; rw [HNN.out] at this; exact this⟩) hlen3 hp4.ww hhd ha3 rfl cp00 aIdle
        have := pk_room HOK.out
        rw [HNN.out] at this
        omega
      have HKZ := Lib.hid (show k.z = zgOf c ∧ k.g = gOf c ∧ k.e = eOf c 0 from by rw [hk]; exact ⟨rfl, rfl, rfl⟩)
      have HK := Lib.hid (show k.b = (bq : Int) ∧ k.v = u ∧ k.T = (en : Int) ∧ k.z.room k.v = (rm : Int) ∧ k.more = (if (en : Int) < (rm : Int) then 1 else 0) ∧ k.cy = 3 ∧ k.z.nn = (nn : Int) ∧ k.w0 = L3.getD 1 0 ∧ (∀ j, k.W j = L3.getD (plcc c 18 u j).toNat 0) ∧ ∀ x, k.M0 x = L3.getD (plcc c 16 x 0).toNat 0 from
        ⟨by rw [hk]; rfl, by rw [hk]; rfl, by rw [hk, ← HEN.out, ← HRM.out]; rfl, by rw [hk, ← HRM.out]; exact zg_room HOK.out HU.out.1 HU.out.2, by rw [hk, ← HEN.out, ← HRM.out]; rfl, by rw [hk]; rfl, by rw [hk, ← HNN.out]; exact zg_nn HOK.out, by rw [hk]; rfl, fun j => by rw [hk]; rfl, fun x => by rw [hk]; rfl⟩)
      have HSC := Lib.hid hsc
      -- what the loop reads
      have HWJ : Hid (∀ j : Nat, bq ≤ j → j < en → ldq L3 (plcc c 18 u (j : Int)) = k.W (j : Int)) := Lib.hid (fun j h0 h1 => by
        have p18 := plc_slot_in HOK.out HU.out.1 HU.out.2 (j := (j : Int)) (by omega) (by rw [HRM.out]; omega)
        have lt := Lay.plc_lt (s := shOf c) (n18 u (j : Int)) p18
        rw [ld_in ⟨p18, by rw [hlen3]; exact lt⟩]
        exact (HK.out.2.2.2.2.2.2.2.2.1 (j : Int)).symm)
      have HM0 : Hid (∀ x : Int, 1 ≤ x → x ≤ (nn : Int) → ldq L3 (plcc c 16 x 0) = k.M0 x) := Lib.hid (fun x h0 h1 => by
        have p16 := plc_in HOK.out (k := 16) (by omega) (by omega) h0 (by rw [HNN.out]; exact h1)
        have lt := Lay.plc_lt (s := shOf c) (n16 x) p16
        rw [ld_in ⟨p16, by rw [hlen3]; exact lt⟩]
        exact (HK.out.2.2.2.2.2.2.2.2.2 x).symm)
      have HLEN3 := Lib.hid hlen3
      have HP5 := Lib.hid (hp4.more (show _ ≤ (3000 : Int) by have := HQ20.out; omega))
      have HWW3 := Lib.hid hp4.ww
      have enn : IntKind.u64.wrap (nn : Int) = (nn : Int) := by rw [IntKind.wrap_u64]; exact Int.emod_eq_of_lt (by omega) (by omega)
      clear hk hsc hL3 hp4 p14 hlen3 ha3 hhd HP1 HP2 HP3 HP4 HPO HMK HFL hc8 hrem hrem2 hmin hbc
      go_wp2_with (fail)
      go_loopw [21, 22] (fun s21 s22 wr => ∃ (j : Nat) (o : Option Nat), bq ≤ j ∧ j ≤ en ∧ s22 = .int .i64 (j : Int) ∧ PO w3.heap.size S D N c w3 wr L3 (3000 + 3 * (j : Int)) ∧ QI o wr s21 (wlist k (j - bq)) ∧ Far w3.heap.size S D N o) (fun _ s22 _ => 20 - (intOf s22).toNat)
      case atStart => exact ⟨bq, none, Nat.le_refl _, hbe.1, rfl, HP5.out.more (by omega), by rw [Nat.sub_self]; exact QI.nil _, fun b e => by cases e⟩
      case round =>
        clear HP5
        obtain ⟨j, o, hj0, hj1, rfl, hpo, hqi, hfar⟩ := hrel
        obtain ⟨A, cp, rfl⟩ := hqi.len
        have HPO := Lib.hid hpo; have HQI := Lib.hid hqi; have HFAR := Lib.hid hfar
        clear hpo hqi hfar
        by_cases hje : j < en
        · have hje2 : (j : Int) < (en : Int) := by omega
          obtain ⟨x, hx⟩ : ∃ x, x = ldq L3 (plcc c 18 u (j : Int)) := ⟨_, rfl⟩
          have hxw : 0 ≤ x ∧ x ≤ 18446744073709551615 := by rw [hx]; exact HWW3.out.ldq _
          have hxk : x = k.W (k.b + ((j - bq : Nat) : Int)) := by rw [hx, HWJ.out j hj0 hje, HK.out.1]; congr 1; omega
          have HX := Lib.hid hx; have HXK := Lib.hid hxk
          have hsub : j + 1 - bq = (j - bq) + 1 := by omega
          have HSUB := Lib.hid hsub
          have ej : IntKind.i64.wrap ((j : Int) + 1) = (j : Int) + 1 := IntWalk.i64_in _ (by omega)
          have HJE := Lib.hid (And.intro hj0 hje)
          clear hx hxk hsub hj0 hj1 hje
          by_cases hx1 : x < 1
          · have b1 : decide (x < 1) = true := by simpa using hx1
            have HW1 : Hid (wlist k (j + 1 - bq) = wlist k (j - bq)) := Lib.hid (by rw [HSUB.out]; exact wlist_no (.inl (by rw [← HXK.out]; omega)))
            clear hx1 hxw
            go_wp2_with (first
              | (go_at_call 28; (with_reducible refine (Lay.slot_m HOK.out N u _ HUW.out _ HPO.out.mp).mono ?_); rintro e w10 ⟨rfl, hb⟩; have HP1 := Lib.hid (HPO.out.step hb); have HQ1 := Lib.hid (HQI.out.below hb); clear hb)
              | (go_at_call 27; (with_reducible refine (load_po HP1.out _ (by have := HJE.out; omega)).mono ?_); rintro e w11 ⟨rfl, hp, uf⟩; rw [← HX.out]; have HP2 := Lib.hid hp; have HQ2 := Lib.hid (HQ1.out.same fun b e => uf.block b (HQ1.out.lt b e) (fun h => by have := HFAR.out b e; omega)); clear hp uf)
              | fail)
            go_roundw
            case rel => exact ⟨j + 1, o, by have := HJE.out; omega, by have := HJE.out; omega, by go_num, HP2.out.more (by omega), by rw [HW1.out]; exact HQ2.out, HFAR.out⟩
            case measure => simp [intOf]; have := HJE.out; omega
          have b1 : decide (x < 1) = false := by simpa using hx1
          by_cases hx2 : (nn : Int) < x
          · have b2 : decide (x > (nn : Int)) = true := by simpa using hx2
            have HW1 : Hid (wlist k (j + 1 - bq) = wlist k (j - bq)) := Lib.hid (by rw [HSUB.out]; exact wlist_no (.inl (by rw [← HXK.out, HK.out.2.2.2.2.2.2.1]; omega)))
            clear hx1 hx2 hxw
            go_wp2_with (first
              | (go_at_call 28; (with_reducible refine (Lay.slot_m HOK.out N u _ HUW.out _ HPO.out.mp).mono ?_); rintro e w10 ⟨rfl, hb⟩; have HP1 := Lib.hid (HPO.out.step hb); have HQ1 := Lib.hid (HQI.out.below hb); clear hb)
              | (go_at_call 27; (with_reducible refine (load_po HP1.out _ (by have := HJE.out; omega)).mono ?_); rintro e w11 ⟨rfl, hp, uf⟩; rw [← HX.out]; have HP2 := Lib.hid hp; have HQ2 := Lib.hid (HQ1.out.same fun b e => uf.block b (HQ1.out.lt b e) (fun h => by have := HFAR.out b e; omega)); clear hp uf)
              | (go_at_call 24; (with_reducible refine (Lay.nodes_m HOK.out N _ HP2.out.mp).mono ?_); rintro e w12 ⟨rfl, hb⟩; rw [HNN.out]; have HP3 := Lib.hid (HP2.out.step hb); have HQ3 := Lib.hid (HQ2.out.below hb); clear hb)
              | fail)
            go_roundw
            case rel => exact ⟨j + 1, o, by have := HJE.out; omega, by have := HJE.out; omega, by go_num, HP3.out.more (by omega), by rw [HW1.out]; exact HQ3.out, HFAR.out⟩
            case measure => simp [intOf]; have := HJE.out; omega
          have b2 : decide (x > (nn : Int)) = false := by simpa using hx2
          have exw : IntKind.i64.wrap x = x := IntWalk.i64_in _ (by omega)
          have HXW : Hid ((Lit.int .i64 x).wf = true) := Lib.hid (by simp [Lit.wf, IntKind.min, IntKind.max, IntKind.bits, IntKind.signed]; omega)
          have HXN := Lib.hid (show 1 ≤ x ∧ x ≤ (nn : Int) by omega)
          obtain ⟨y, hy⟩ : ∃ y, y = ldq L3 (plcc c 16 x 0) := ⟨_, rfl⟩
          have HYM : Hid (y = k.M0 x) := Lib.hid (by rw [hy]; exact HM0.out x HXN.out.1 HXN.out.2)
          have HY := Lib.hid hy
          clear hy hx1 hx2 hxw
          by_cases hy3 : 3 ≤ y
          · have b3 : decide (y ≥ 3) = true := by simpa using hy3
            have HW1 : Hid (wlist k (j + 1 - bq) = wlist k (j - bq)) := Lib.hid (by rw [HSUB.out]; exact wlist_no (.inl (by rw [← HXK.out, ← HYM.out, HK.out.2.2.2.2.2.1]; omega)))
            clear hy3
            go_wp2_with (first
              | (go_at_call 28; (with_reducible refine (Lay.slot_m HOK.out N u _ HUW.out _ HPO.out.mp).mono ?_); rintro e w10 ⟨rfl, hb⟩; have HP1 := Lib.hid (HPO.out.step hb); have HQ1 := Lib.hid (HQI.out.below hb); clear hb)
              | (go_at_call 27; (with_reducible refine (load_po HP1.out (plcc c 18 u (j : Int)) (by have := HJE.out; omega)).mono ?_); rintro e w11 ⟨rfl, hp, uf⟩; rw [← HX.out]; have HP2 := Lib.hid hp; have HQ2 := Lib.hid (HQ1.out.same fun b e => uf.block b (HQ1.out.lt b e) (fun h => by have := HFAR.out b e; omega)); clear hp uf)
              | (go_at_call 24; (with_reducible refine (Lay.nodes_m HOK.out N _ HP2.out.mp).mono ?_); rintro e w12 ⟨rfl, hb⟩; rw [HNN.out]; have HP3 := Lib.hid (HP2.out.step hb); have HQ3 := Lib.hid (HQ2.out.below hb); clear hb)
              | (go_at_call 23; (with_reducible refine (Lay.mark_m HOK.out N x HXW.out _ HP3.out.mp).mono ?_); rintro e w13 ⟨rfl, hb⟩; have HP4 := Lib.hid (HP3.out.step hb); have HQ4 := Lib.hid (HQ3.out.below hb); clear hb)
              | (go_at_call 27; (with_reducible refine (load_po HP4.out (plcc c 16 x 0) (by have := HJE.out; omega)).mono ?_); rintro e w14 ⟨rfl, hp, uf⟩; rw [← HY.out]; have HP5 := Lib.hid hp; have HQ5 := Lib.hid (HQ4.out.same fun b e => uf.block b (HQ4.out.lt b e) (fun h => by have := HFAR.out b e; omega)); clear hp uf)
              | fail)
            go_roundw
            case rel => exact ⟨j + 1, o, by have := HJE.out; omega, by have := HJE.out; omega, by go_num, HP5.out.more (by omega), by rw [HW1.out]; exact HQ5.out, HFAR.out⟩
            case measure => simp [intOf]; have := HJE.out; omega
          have b3 : decide (y ≥ 3) = false := by simpa using hy3
          have HY3 := Lib.hid hy3
          clear hy3
          go_upto_region 24 with (first
            | (go_at_call 28; (with_reducible refine (Lay.slot_m HOK.out N u _ HUW.out _ HPO.out.mp).mono ?_); rintro e w10 ⟨rfl, hb⟩; have HP1 := Lib.hid (HPO.out.step hb); have HQ1 := Lib.hid (HQI.out.below hb); clear hb)
            | (go_at_call 27; (with_reducible refine (load_po HP1.out (plcc c 18 u (j : Int)) (by have := HJE.out; omega)).mono ?_); rintro e w11 ⟨rfl, hp, uf⟩; rw [← HX.out]; have HP2 := Lib.hid hp; have HQ2 := Lib.hid (HQ1.out.same fun b e => uf.block b (HQ1.out.lt b e) (fun h => by have := HFAR.out b e; omega)); clear hp uf)
            | (go_at_call 24; (with_reducible refine (Lay.nodes_m HOK.out N _ HP2.out.mp).mono ?_); rintro e w12 ⟨rfl, hb⟩; rw [HNN.out]; have HP3 := Lib.hid (HP2.out.step hb); have HQ3 := Lib.hid (HQ2.out.below hb); clear hb)
            | (go_at_call 23; (with_reducible refine (Lay.mark_m HOK.out N x HXW.out _ HP3.out.mp).mono ?_); rintro e w13 ⟨rfl, hb⟩; have HP4 := Lib.hid (HP3.out.step hb); have HQ4 := Lib.hid (HQ3.out.below hb); clear hb)
            | (go_at_call 27; (with_reducible refine (load_po HP4.out (plcc c 16 x 0) (by have := HJE.out; omega)).mono ?_); rintro e w14 ⟨rfl, hp, uf⟩; rw [← HY.out]; have HP5 := Lib.hid hp; have HQ5 := Lib.hid (HQ4.out.same fun b e => uf.block b (HQ4.out.lt b e) (fun h => by have := HFAR.out b e; omega)); clear hp uf)
            | fail)
          obtain ⟨l, hl⟩ : ∃ l, l = wlist k (j - bq) := ⟨_, rfl⟩
          have hll : l.length ≤ 16 := by rw [hl]; have := wlist_len k (j - bq); have := HJE.out; omega
          have hq5 := HQ5.out
          rw [← hl] at hq5 ⊢
          have HQ6 := Lib.hid hq5
          have HL := Lib.hid hl; have HLL := Lib.hid hll
          clear hl hq5 HQ1 HQ2 HQ3 HQ4 HQ5 HQI HP1 HP2 HP3 HP4 HPO
          go_wp2_with (fail)
          obtain ⟨wo, rfl⟩ : ∃ wo : World, wo = wr := ⟨_, rfl⟩
          go_loopw [24, 25] (fun s24 s25 wr => ∃ (p : Nat) (bb : Bool), s24 = .bool bb ∧ s25 = .int .i64 (p : Int) ∧ p ≤ l.length ∧ (bb = true ↔ x ∈ l.take p) ∧ PO w3.heap.size S D N c w3 wr L3 (3000 + 3 * (j : Int) + 1 + 1) ∧ QI o wr (.slice A l.length cp) l) (fun _ s25 _ => 20 - (intOf s25).toNat)
          case atStart => exact ⟨0, false, rfl, rfl, Nat.zero_le _, by simp, HP5.out, HQ6.out⟩
          case round =>
            clear HP5 HQ6
            obtain ⟨p, bb, rfl, rfl, hp, hbb, hpo, hqi⟩ := hrel
            have HPO := Lib.hid hpo; have HQI := Lib.hid hqi; have HBB := Lib.hid hbb
            clear hpo hbb
            by_cases hpl : p < l.length
            · have hpl2 : (p : Int) < (l.length : Int) := by omega
              have hp0 : (0 : Int) ≤ (p : Int) := by omega
              have ep : IntKind.i64.wrap ((p : Int) + 1) = (p : Int) + 1 := IntWalk.i64_in _ (by omega)
              have HPL := Lib.hid hpl
              have HMS := Lib.hid (mem_take_succ (x := x) hpl)
              obtain ⟨qb, qo, qc, hqe, hqv, hqc1, hqc2, hqcell⟩ := hqi.cell (by omega)
              simp only [Value.slice.injEq] at hqv
              obtain ⟨rfl, _, rfl⟩ := hqv
              have hcl := hqcell p hpl
              obtain ⟨g, hg⟩ : ∃ g, g = l.getD p 0 := ⟨_, rfl⟩
              rw [← hg] at hcl
              have HG := Lib.hid hg
              clear hg hqcell hqe hqi hpl hp hqc1 hqc2
              cases bb
              · by_cases hgx : g = x
                · have hgx2 : (g == x) = true := by simpa using hgx
                  have HGX := Lib.hid hgx
                  clear hgx
                  go_wp2_with (fail)
                  go_roundw
                  case rel => exact ⟨p + 1, true, rfl, by go_num, HPL.out, ⟨fun _ => HMS.out.2 (.inr (by rw [← HG.out]; exact HGX.out)), fun _ => rfl⟩, HPO.out, HQI.out⟩
                  case measure => simp [intOf]; have := HPL.out; have := HLL.out; omega
                · have hgx2 : (g == x) = false := by simpa using hgx
                  have HGX := Lib.hid hgx
                  clear hgx
                  go_wp2_with (fail)
                  go_roundw
                  case rel => exact ⟨p + 1, false, rfl, by go_num, HPL.out, ⟨(fun h => by cases h), (fun h => (HMS.out.1 h).elim (fun h => HBB.out.2 h) (fun h => absurd (HG.out.trans h) HGX.out))⟩, HPO.out, HQI.out⟩
                  case measure => simp [intOf]; have := HPL.out; have := HLL.out; omega
              · go_wp2_with (fail)
                go_roundw
                case rel => exact ⟨p + 1, true, rfl, by go_num, HPL.out, ⟨fun _ => HMS.out.2 (.inl (HBB.out.1 rfl)), fun _ => rfl⟩, HPO.out, HQI.out⟩
                case measure => simp [intOf]; have := HPL.out; have := HLL.out; omega
            · have hpl2 : ¬ (p : Int) < (l.length : Int) := by omega
              obtain rfl : p = l.length := by omega
              have HMM : Hid (bb = true ↔ x ∈ l) := Lib.hid (by have := HBB.out; rwa [List.take_length] at this)
              clear hpl hp hqi
              cases bb
              · have HW1 : Hid (wlist k (j + 1 - bq) = l ++ [x]) := Lib.hid (by
                  have hn : x ∉ l := fun h => by have := HMM.out.2 h; cases this
                  rw [HSUB.out, wlist_yes, ← HXK.out, ← HL.out]
                  · rw [← HXK.out, HK.out.2.2.2.2.2.2.1, HK.out.2.2.2.2.2.1]
                    have := HYM.out; have := HY3.out; have := HXN.out
                    exact ⟨by omega, by omega, by omega⟩
                  · rw [← HXK.out, ← HL.out]; exact hn)
                go_wp2_with (first
                  | (at_builtin; refine append_i (o := o) rfl _ _ rfl (HQI.out.below (below_alloc0 (Below.refl _ _) _)) (new_cell _ _ _) (by have := HLL.out; omega) rfl rfl ?_; intro v' w15 hg; have HGR := Lib.hid hg; clear hg)
                  | fail)
                obtain ⟨b, hor, hq, upd⟩ := HGR.out
                have hpa := HPO.out.step (below_alloc0 (Below.refl _ _) (Obj.cells #[Value.int IntKind.i64 x] 3))
                have hfar2 : w3.heap.size ≤ b ∧ b ≠ S ∧ b ≠ D ∧ b ≠ N := by
                  rcases hor with e | e
                  · exact HFAR.out b e
                  · have := hpa.lt; have := hpa.bel.size; omega
                have HP7 := Lib.hid (hpa.upd upd hfar2)
                have HQ7 := Lib.hid hq; have HF7 := Lib.hid hfar2
                clear hor hq upd hpa hfar2
                go_roundw
                case rel => exact ⟨j + 1, some b, by have := HJE.out; omega, by have := HJE.out; omega, by go_num, HP7.out.more (by omega), by rw [HW1.out]; exact HQ7.out, fun b' e => by obtain rfl := Option.some.inj e; exact HF7.out⟩
                case measure => simp [intOf]; have := HJE.out; omega
              · have HW1 : Hid (wlist k (j + 1 - bq) = l) := Lib.hid (by
                  rw [HSUB.out, wlist_no (.inr ?_), ← HL.out]
                  rw [← HXK.out, ← HL.out]; exact HMM.out.1 rfl)
                go_wp2_with (fail)
                go_roundw
                case rel => exact ⟨j + 1, o, by have := HJE.out; omega, by have := HJE.out; omega, by go_num, HPO.out.more (by omega), by rw [HW1.out]; exact HQI.out, HFAR.out⟩
                case measure => simp [intOf]; have := HJE.out; omega
        · have hje2 : ¬ (j : Int) < (en : Int) := by omega
          have hjen : j = en := by omega
          subst j
          obtain ⟨l, hl⟩ : ∃ l, l = wlist k (en - bq) := ⟨_, rfl⟩
          have hll : l.length ≤ 16 := by rw [hl]; have := wlist_len k (en - bq); omega
          have hqi := HQI.out
          rw [← hl] at hqi ⊢
          have HQI := Lib.hid hqi
          have HL := Lib.hid hl; have HLL := Lib.hid hll
          have HBE := Lib.hid (show bq ≤ en ∧ en ≤ 16 by omega)
          obtain ⟨tk, htk⟩ : ∃ tk, tk = u * 4294967296 + (bq : Int) := ⟨_, rfl⟩
          have HTK := Lib.hid htk
          have HTQ : Hid (tk / 4294967296 = u ∧ tk % 4294967296 = (bq : Int) ∧ 0 ≤ tk ∧ tk ≤ 18446744073709551615) := Lib.hid (by have := HU60.out; omega)
          obtain ⟨WB, hWB⟩ : ∃ WB, WB = wr.heap.size := ⟨_, rfl⟩
          have hWB2 : w3.heap.size ≤ WB ∧ WB ≠ S ∧ WB ≠ D ∧ WB ≠ N := by
            have a := HPO.out.lt; have b := HPO.out.bel.size; rw [hWB]; omega
          have HWB := Lib.hid hWB2; have HWBE := Lib.hid hWB.symm
          have HBQ16 := Lib.hid (show bq ≤ 16 by omega)
          have HFW : Hid (∀ b, (o = some b ∨ b = WB) → w3.heap.size ≤ b ∧ b ≠ S ∧ b ≠ D ∧ b ≠ N) := Lib.hid (fun b e => e.elim (fun e => HFAR.out b e) (fun e => by rw [e]; exact HWB.out))
          clear hl hqi hj0 hj1 hje hje2 htk hWB hWB2
          go_upto_region 33 with (first
            | (go_at_call 13; (with_reducible refine (all_row HPO.out (by rw [HLEN3.out]; have := len_7000 HOK.out; omega)).mono ?_); rintro e w16 ⟨rfl, hr, hp, hb⟩; rw [HWBE.out] at hr ⊢; have HP6 := Lib.hid hp; have HQ6 := Lib.hid (HQI.out.below hb); have HR6 := Lib.hid hr; clear hr hp hb)
            | (go_at_call 29; (with_reducible refine (pair_any u (bq : Int) (by have := HU60.out; omega) (by have := HU60.out; omega) (by omega) (by have := HBQ16.out; omega) _).mono ?_); rintro e w17 ⟨rfl, hb⟩; rw [← HTK.out]; have HP7 := Lib.hid (HP6.out.step hb); have HQ7 := Lib.hid (HQ6.out.below hb); have HR7 := Lib.hid (HR6.out.below hb); clear hb)
            | (go_at_call 14; (with_reducible refine (new_yg (k := k) (s := (bq : Int)) (rk := 253) (L := L3) HQ7.out HR7.out HFW.out HP7.out HNB.out (by rw [HTQ.out.1, HTQ.out.2.1]; exact zw_new c (by have := HU60.out; omega) (by have := HBQ16.out; omega) (by decide)) (by rw [HTQ.out.1, HTQ.out.2.1]; exact HSC.out) HKZ.out HLEN3.out HTQ.out.2.2.1 HTQ.out.2.2.2).mono ?_); rintro e w18 ⟨X, rfl, hy, hb⟩; rw [HTQ.out.1, HTQ.out.2.1] at hy; have HY := Lib.hid hy; clear hy hb)
            | fail)
          clear HP6 HP7 HQ6 HQ7 HR6 HR7 HPO HQI HSC
          go_wp2_with (fail)
          obtain ⟨wo, rfl⟩ : ∃ wo : World, wo = wr := ⟨_, rfl⟩
          go_loopw [28, 29, 30] (fun s28 s29 s30 wr => ∃ (kk : Nat) (L : List Int) (AA : Nat) (m : Zm) (s : Int) (K : List Int) (o2 : Option Nat), s29 = .int .i64 (s - (bq : Int)) ∧ s30 = .int .i64 (kk : Int) ∧ m.pc ≠ 0 ∧ YG w3.heap.size S D N c w3 k X o WB (.slice A l.length cp) l L3 wr L (kk : Int) AA m s K (253 - (kk : Int)) (4000 + 2 * (kk : Int)) o2 s28 K) (fun _ _ s30 _ => 400 - (intOf s30).toNat)
          case atStart => exact ⟨0, L3, 0, _, (bq : Int), [], none, by rw [Int.sub_self], rfl, by simp [zNew], HY.out.more (by omega) (by omega)⟩
          case round =>
            clear HY
            obtain ⟨kk, L4, AA, m, s, K, o2, rfl, rfl, hpc, hy⟩ := hrel
            have hkk := hy.sy.sc.left hpc
            have HPC := Lib.hid hpc; have HY := Lib.hid hy
            have hk252 : kk ≤ 252 := by omega
            clear hpc hy hkk
            have h400 : (kk : Int) < 400 := by omega
            go_upto_if 177 with (first
              | (go_at_call 17; (with_reducible refine (HY.out.step HPC.out HMR.out (by omega) (by omega)).mono ?_); rintro r w19 ⟨L5, A5, m', s', K', rfl, hy, hev⟩; obtain ⟨b, hbq⟩ : ∃ b, b = decide (m'.pc = 0) := ⟨_, rfl⟩; rw [← hbq]; have HBQ := Lib.hid hbq; have HY1 := Lib.hid hy; have HEV := Lib.hid hev; clear hbq hy hev)
              | fail)
            cases b
            · have hp0 : m'.pc ≠ 0 := by have := HBQ.out; simpa using this.symm
              have HP0 := Lib.hid hp0
              have HFW2 := Lib.hid (show K.length ≤ 16 by have := HY.out.sy.sc.few; omega)
              have hsb := HY.out.sy.sc.sb
              rw [HK.out.1, HK.out.2.2.1] at hsb
              have ek : IntKind.i64.wrap ((kk : Int) + 1) = (kk : Int) + 1 := IntWalk.i64_in _ (by omega)
              have hev := HEV.out
              clear HBQ h400 HY HEV
              rcases hev with ⟨e1, _, hnd, hK, e5⟩ | ⟨e1, _, e2, e3, e4, e6, e5⟩ | ⟨e1, _, e2, e3, e6, e5⟩ | ⟨e1, _, e6, e5⟩ | ⟨_, e, _⟩
              · -- a node is marked
                obtain ⟨ea, hea⟩ : ∃ x, x = m'.ea := ⟨_, rfl⟩
                obtain ⟨eb, heb⟩ : ∃ x, x = m'.eb := ⟨_, rfl⟩
                have HE := Lib.hid (show evV m'.ek m'.ea m'.eb = evV 1 ea eb by rw [e1, hea, heb])
                rw [← hea] at hK
                subst K' s'
                clear e1 hp0 hnd hea heb hsb
                go_wp2_with (first
                  | (go_at_call 19; (with_reducible refine (HY1.out.event).mono ?_); rintro r w20 ⟨rfl, hy⟩; rw [HE.out]; have HY1 := Lib.hid hy; clear hy)
                  | (at_builtin; refine append_i (o := o2) rfl _ _ rfl ((HY1.out.below (below_alloc0 (Below.refl _ _) _)).rw'.qg) (new_cell _ _ _) (by have := HFW2.out; omega) rfl rfl ?_; intro v' w21 hg; obtain ⟨b2, hy⟩ := (HY1.out.below (below_alloc0 (Below.refl _ _) _)).got hg; have HY1 := Lib.hid hy; clear hg hy)
                  | fail)
                go_roundw
                case rel => exact ⟨kk + 1, L5, A5, m', s, K ++ [ea], some b2, rfl, by go_num, HP0.out, HY1.out.more (by omega) (by omega)⟩
                case measure => simp [intOf]; omega
              · -- a slot
                obtain ⟨ea, hea⟩ : ∃ x, x = m'.ea := ⟨_, rfl⟩
                obtain ⟨eb, heb⟩ : ∃ x, x = m'.eb := ⟨_, rfl⟩
                have HE := Lib.hid (show evV m'.ek m'.ea m'.eb = evV 3 ea eb by rw [e1, hea, heb])
                have es : IntKind.i64.wrap (s - (bq : Int) + 1) = s - (bq : Int) + 1 := IntWalk.i64_in _ (by have := HBE.out; omega)
                subst K' s'
                clear e1 e2 e3 e4 hp0 hea heb hsb
                go_wp2_with (first
                  | (go_at_call 19; (with_reducible refine (HY1.out.event).mono ?_); rintro r w20 ⟨rfl, hy⟩; rw [HE.out]; have HY1 := Lib.hid hy; clear hy)
                  | fail)
                go_roundw
                case rel => exact ⟨kk + 1, L5, A5, m', s + 1, K, o2, by congr 1; omega, by go_num, HP0.out, HY1.out.more (by omega) (by omega)⟩
                case measure => simp [intOf]; omega
              · -- a further piece
                obtain ⟨ea, hea⟩ : ∃ x, x = m'.ea := ⟨_, rfl⟩
                obtain ⟨eb, heb⟩ : ∃ x, x = m'.eb := ⟨_, rfl⟩
                have HE := Lib.hid (show evV m'.ek m'.ea m'.eb = evV 2 ea eb by rw [e1, hea, heb])
                subst K' s'
                clear e1 e2 e3 hp0 hea heb hsb
                go_wp2_with (first
                  | (go_at_call 19; (with_reducible refine (HY1.out.event).mono ?_); rintro r w20 ⟨rfl, hy⟩; rw [HE.out]; have HY1 := Lib.hid hy; clear hy)
                  | fail)
                go_roundw
                case rel => exact ⟨kk + 1, L5, A5, m', s, K, o2, rfl, by go_num, HP0.out, HY1.out.more (by omega) (by omega)⟩
                case measure => simp [intOf]; omega
              · -- nothing is told
                obtain ⟨ea, hea⟩ : ∃ x, x = m'.ea := ⟨_, rfl⟩
                obtain ⟨eb, heb⟩ : ∃ x, x = m'.eb := ⟨_, rfl⟩
                have HE := Lib.hid (show evV m'.ek m'.ea m'.eb = evV 0 ea eb by rw [e1, hea, heb])
                subst K' s'
                clear e1 hp0 hea heb hsb
                go_wp2_with (first
                  | (go_at_call 19; (with_reducible refine (HY1.out.event).mono ?_); rintro r w20 ⟨rfl, hy⟩; rw [HE.out]; have HY1 := Lib.hid hy; clear hy)
                  | fail)
                go_roundw
                case rel => exact ⟨kk + 1, L5, A5, m', s, K, o2, rfl, by go_num, HP0.out, HY1.out.more (by omega) (by omega)⟩
                case measure => simp [intOf]; omega
              · exact absurd e hp0
            · have hp0 : m'.pc = 0 := by have := HBQ.out; simpa using this.symm
              have hK := HEV.out.len.2.2 hp0
              have e5 : s' = s := by
                rcases HEV.out with ⟨_, e, _⟩ | ⟨_, e, _⟩ | ⟨_, e, _⟩ | ⟨_, e, _⟩ | ⟨e1, _, _, e5⟩
                · exact absurd hp0 e
                · exact absurd hp0 e
                · exact absurd hp0 e
                · exact absurd hp0 e
                · exact e5
              clear HEV HBQ HY HPC h400
              subst K' s'
              obtain ⟨d1', d2', d3', d4', d5', d6'⟩ := HY1.out.sy.sc.done hp0
              have hKl : K = l := by
                rw [d2', HK.out.1, HK.out.2.2.1, HL.out]; congr 1; omega
              have hsT : s = (en : Int) := by rw [d1', HK.out.2.2.1]
              clear d1' d2'
              subst K s
              have HPZ := Lib.hid hp0
              have HND := Lib.hid d3'
              have kz := HKZ.out.1
              obtain ⟨_, _, _, _, kmo, kcy, knn, kw0, _, _⟩ := HK.out
              have HMA : Hid (∀ x ∈ l, 1 ≤ x ∧ x ≤ (nn : Int) ∧ ldq L5 (plcc c 16 x 0) = 3 ∧ ldq L3 (plcc c 16 x 0) < 3) := Lib.hid (fun x hx => by
                obtain ⟨⟨a1, a2⟩, b, d⟩ := d4' x hx
                rw [knn] at a2
                rw [kz, kcy] at b
                rw [kcy] at d
                exact ⟨a1, a2, b, by rw [HM0.out x a1 a2]; exact d⟩)
              have HMB : Hid (∀ x : Int, 1 ≤ x → x ≤ (nn : Int) → x ∉ l → ldq L5 (plcc c 16 x 0) = ldq L3 (plcc c 16 x 0)) := Lib.hid (fun x h0 h1 hx => by
                have b := d5' x ⟨h0, by rw [knn]; exact h1⟩ hx
                rw [kz] at b
                rw [HM0.out x h0 h1]; exact b)
              have HWK : Hid (ldq L5 1 = (L3.getD 1 0 + (l.length : Int) + (if (en : Int) < (rm : Int) then 1 else 0) + 18446744073709551615) % 18446744073709551616) := Lib.hid (by
                rw [kz, kw0, kmo] at d6'; exact d6')
              obtain ⟨A2, cp2, rfl⟩ := HY1.out.rw'.qg.len
              have esub : IntKind.i64.wrap ((en : Int) - (bq : Int)) = (en : Int) - (bq : Int) := IntWalk.i64_in _ (by have := HBE.out; omega)
              clear hp0 d3' d4' d5' d6' kz kmo kcy knn kw0
              go_wp2_with (first
                | (go_at_call 17; (with_reducible refine (HY1.out.again HPZ.out HMR.out (by omega) (by omega)).mono ?_); rintro r w20 ⟨rfl, hy⟩; have HYE := Lib.hid (hy.more (show _ ≤ (5000 : Int) by omega)); clear hy)
                | fail)
              obtain ⟨wo, rfl⟩ : ∃ wo : World, wo = wr := ⟨_, rfl⟩
              go_loopw [31] (fun s31 wr => ∃ (p : Nat), s31 = .int .i64 (p : Int) ∧ p ≤ l.length ∧ YE w3.heap.size S D N c w3 o WB (.slice A l.length cp) l L3 wr L5 (5000 + (p : Int)) o2 (.slice A2 l.length cp2) l) (fun s31 _ => 40 - (intOf s31).toNat)
              case atStart => exact ⟨0, rfl, Nat.zero_le _, HYE.out⟩
              case round =>
                clear HYE HY1
                obtain ⟨p, rfl, hp, hye⟩ := hrel
                have HYE := Lib.hid hye
                clear hye
                by_cases hpl : p < l.length
                · have hpl2 : (p : Int) < (l.length : Int) := by omega
                  have hp0 : (0 : Int) ≤ (p : Int) := by omega
                  have ep : IntKind.i64.wrap ((p : Int) + 1) = (p : Int) + 1 := IntWalk.i64_in _ (by have := HLL.out; omega)
                  have HPL := Lib.hid hpl
                  obtain ⟨x, hx⟩ : ∃ x, x = l.getD p 0 := ⟨_, rfl⟩
                  obtain ⟨hx0, hx1, hx3, _⟩ := HMA.out x (by rw [hx, List.getD, List.getElem?_eq_getElem hpl]; exact List.getElem_mem _)
                  have HX3 := Lib.hid hx3
                  have HXW : Hid ((Lit.int .i64 x).wf = true) := Lib.hid (by simp [Lit.wf, IntKind.min, IntKind.max, IntKind.bits, IntKind.signed]; omega)
                  obtain ⟨gb, go', gc, _, hgv, _, _, _⟩ := HYE.out.rw'.qg.cell (by omega)
                  obtain ⟨wb, wo', wc, _, hwv, _, _, _⟩ := HYE.out.rw'.qw.cell (by omega)
                  simp only [Value.slice.injEq] at hgv hwv
                  obtain ⟨rfl, _, rfl⟩ := hgv
                  obtain ⟨rfl, _, rfl⟩ := hwv
                  have HCL : Hid (∀ w' n, YE w3.heap.size S D N c w3 o WB (.slice (some ⟨wb, wo', none⟩) l.length cp) l L3 w' L5 n o2 (.slice (some ⟨gb, go', none⟩) l.length cp2) l → w'.cell? ⟨gb, go' + p, none⟩ = some (.int .i64 x) ∧ w'.cell? ⟨wb, wo' + p, none⟩ = some (.int .i64 x)) :=
                    Lib.hid (fun w' n h => ⟨by rw [hx]; exact h.rw'.qg.at' hpl, by rw [hx]; exact h.rw'.qw.at' hpl⟩)
                  have hxx : (x != x) = false := by simp
                  have h33 : ((3 : Int) != 3) = false := by decide
                  have HD := Lib.hid (HYE.out.below (Below.refl _ _).drew)
                  clear hx hx0 hx1 hx3 hpl hp
                  go_wp2_with (fail)
                  go_region_held3 (fun w' => w'.cell? ⟨gb, go' + p, none⟩ = some (.int .i64 x) ∧ w'.cell? ⟨wb, wo' + p, none⟩ = some (.int .i64 x))
                    (first | (with_reducible exact HCL.out _ _ HE2.out) | (with_reducible exact HCL.out _ _ HE1.out) | (with_reducible exact HCL.out _ _ HD.out) | fail)
                    (first
                      | (go_at_call 23; (with_reducible refine (Lay.mark_m HOK.out N x HXW.out _ HD.out.po.mp).mono ?_); rintro e w22 ⟨rfl, hb⟩; have HE1 := Lib.hid (HD.out.below hb); clear hb)
                      | (go_at_call 27; (with_reducible refine (HE1.out.load (plcc c 16 x 0) (by have := HPL.out; have := HLL.out; omega)).mono ?_); rintro e w23 ⟨rfl, hy⟩; rw [HX3.out]; have HE2 := Lib.hid hy; clear hy)
                      | fail)
                  go_wp2_with (fail)
                  go_roundw
                  case rel => exact ⟨p + 1, by go_num, HPL.out, HE2.out.more (by omega)⟩
                  case measure => simp [intOf]; have := HPL.out; have := HLL.out; omega
                · have hpl2 : ¬ (p : Int) < (l.length : Int) := by omega
                  have elen : IntKind.u64.wrap (l.length : Int) = (l.length : Int) := by rw [IntKind.wrap_u64]; exact Int.emod_eq_of_lt (by omega) (by omega)
                  have elen1 : IntKind.u64.wrap ((l.length : Int) + 1) = (l.length : Int) + 1 := by rw [IntKind.wrap_u64]; exact Int.emod_eq_of_lt (by omega) (by omega)
                  have HYE := Lib.hid (HYE.out.more (show _ ≤ (6000 : Int) by omega))
                  clear hpl hp
                  obtain ⟨mm, hmm⟩ : ∃ mm : Int, mm = (l.length : Int) + (if (en : Int) < (rm : Int) then 1 else 0) := ⟨_, rfl⟩
                  have HMM := Lib.hid hmm
                  clear hmm
                  go_upto_if 249 with (fail)
                  go_cut [32] (fun s wx => s = .int .u64 mm ∧ wx = wr)
                  case first =>
                    by_cases he : (en : Int) < (rm : Int)
                    · have HM2 : Hid (mm = (l.length : Int) + 1) := Lib.hid (by rw [HMM.out, if_pos he])
                      go_wp2_with (fail)
                      go_meet
                      exact ⟨by rw [HM2.out], rfl⟩
                    · have HM2 : Hid (mm = (l.length : Int)) := Lib.hid (by rw [HMM.out, if_neg he, Int.add_zero])
                      go_wp2_with (fail)
                      go_meet
                      exact ⟨by rw [HM2.out], rfl⟩
                  case rest =>
                    obtain ⟨rfl, hwx⟩ := hcut
                    subst hwx
                    clear elen1 hpl2
                    go_wp2_with (fail)
                    go_loopw [33, 34] (fun s33 s34 wr => ∃ (qn : Nat), s33 = .int .i64 (belowK l (qn : Int) : Int) ∧ s34 = .int .i64 (qn : Int) ∧ 1 ≤ qn ∧ qn ≤ nn + 1 ∧ YE w3.heap.size S D N c w3 o WB (.slice A l.length cp) l L3 wr L5 (6000 + 2 * (qn : Int)) o2 (.slice A2 l.length cp2) l) (fun _ s34 _ => 100 - (intOf s34).toNat)
                    case atStart => exact ⟨1, by rw [show ((1 : Nat) : Int) = 1 from rfl, belowK_one (fun x hx => (HMA.out x hx).1)]; rfl, rfl, by omega, by omega, HYE.out.more (by omega)⟩
                    case round =>
                      clear HYE
                      obtain ⟨qn, rfl, rfl, hq1, hq2, hye⟩ := hrel
                      have HYE := Lib.hid hye
                      clear hye
                      by_cases hqn : qn ≤ nn
                      · have hle : (qn : Int) ≤ (nn : Int) := by omega
                        have HQW : Hid ((Lit.int .i64 (qn : Int)).wf = true) := Lib.hid (by simp [Lit.wf, IntKind.min, IntKind.max, IntKind.bits, IntKind.signed]; omega)
                        have eq1 : IntKind.i64.wrap ((qn : Int) + 1) = (qn : Int) + 1 := IntWalk.i64_in _ (by omega)
                        have HQB := Lib.hid (And.intro hq1 hqn)
                        have hkk2 : belowK l (qn : Int) ≤ l.length := by unfold belowK; exact List.length_filter_le _ _
                        have ebk : IntKind.i64.wrap ((belowK l (qn : Int) : Int) + 1) = (belowK l (qn : Int) : Int) + 1 := IntWalk.i64_in _ (by have := HLL.out; omega)
                        have p16 := plc_in HOK.out (k := 16) (by omega) (by omega) (v := (qn : Int)) (by omega) (by rw [HNN.out]; exact hle)
                        have lt16 := Lay.plc_lt (s := shOf c) (n16 (qn : Int)) p16
                        obtain ⟨pn, hpn⟩ : ∃ pn : Nat, plcc c 16 (qn : Int) 0 = (pn : Int) := ⟨(plcc c 16 (qn : Int) 0).toNat, by omega⟩
                        have HPN := Lib.hid hpn
                        have hpl0 : (0 : Int) ≤ (pn : Int) := by omega
                        have hplt : pn < L3.length := by
                          have e : plcc c 16 (qn : Int) 0 < (L3.length : Int) := by rw [HLEN3.out]; exact lt16
                          omega
                        have hpl1 : (pn : Int) < (L3.length : Int) := by omega
                        have HPL := Lib.hid hplt
                        obtain ⟨y, hy⟩ : ∃ y, y = ldq L5 (pn : Int) := ⟨_, rfl⟩
                        obtain ⟨z, hz⟩ : ∃ z, z = L3.getD pn 0 := ⟨_, rfl⟩
                        have hz3 : z = ldq L3 (plcc c 16 (qn : Int) 0) := by
                          rw [hz, hpn, ld_in ⟨hpl0, hpl1⟩]; rfl
                        have HYV := Lib.hid hy
                        have hrc := HYE.out.rw'.ro.cell pn hplt
                        rw [← hz] at hrc
                        have HZV := Lib.hid hz
                        have hy5 : y = ldq L5 (plcc c 16 (qn : Int) 0) := by rw [hy, hpn]
                        have HBS := Lib.hid (belowK_succ (q := (qn : Int)) HND.out)
                        clear hy hz hpn p16 lt16 hplt
                        by_cases hin : (qn : Int) ∈ l
                        · have hne : (y != z) = true := by
                            obtain ⟨_, _, a, b⟩ := HMA.out _ hin
                            rw [hy5, hz3, a, bne_iff_ne]
                            exact fun h => by rw [← h] at b; exact absurd b (by decide)
                          have HB1 : Hid (belowK l (((qn + 1 : Nat)) : Int) = belowK l (qn : Int) + 1) := Lib.hid (by have := HBS.out; rw [if_pos hin] at this; exact this)
                          clear hin hy5 hz3
                          go_wp2_with (first
                            | (go_at_call 24; (with_reducible refine (Lay.nodes_m HOK.out N _ HYE.out.po.mp).mono ?_); rintro e w30 ⟨rfl, hb⟩; rw [HNN.out]; have HYE := Lib.hid (HYE.out.below hb); clear hb hrc; have hrc := HYE.out.rw'.ro.cell pn HPL.out; rw [← HZV.out] at hrc)
                            | (go_at_call 23; (with_reducible refine (Lay.mark_m HOK.out N _ HQW.out _ HYE.out.po.mp).mono ?_); rintro e w31 ⟨rfl, hb⟩; rw [HPN.out]; have HYE := Lib.hid (HYE.out.below hb); clear hb hrc; have hrc := HYE.out.rw'.ro.cell pn HPL.out; rw [← HZV.out] at hrc)
                            | (go_at_call 27; (with_reducible refine (HYE.out.load (pn : Int) (by have := HQB.out; omega)).mono ?_); rintro e w32 ⟨rfl, hy⟩; rw [← HYV.out]; have HYE := Lib.hid hy; clear hy hrc; have hrc := HYE.out.rw'.ro.cell pn HPL.out; rw [← HZV.out] at hrc)
                            | fail)
                          go_roundw
                          case rel => exact ⟨qn + 1, by rw [HB1.out]; congr 1, by go_num, by omega, by omega, HYE.out.more (by omega)⟩
                          case measure => simp [intOf]; have := HQB.out; omega
                        · have hne : (y != z) = false := by
                            rw [bne_eq_false_iff_eq, hy5, hz3]
                            exact HMB.out _ (by omega) (by omega) hin
                          have HB1 : Hid (belowK l (((qn + 1 : Nat)) : Int) = belowK l (qn : Int)) := Lib.hid (by have := HBS.out; rw [if_neg hin] at this; exact this)
                          clear hin hy5 hz3
                          go_wp2_with (first
                            | (go_at_call 24; (with_reducible refine (Lay.nodes_m HOK.out N _ HYE.out.po.mp).mono ?_); rintro e w30 ⟨rfl, hb⟩; rw [HNN.out]; have HYE := Lib.hid (HYE.out.below hb); clear hb hrc; have hrc := HYE.out.rw'.ro.cell pn HPL.out; rw [← HZV.out] at hrc)
                            | (go_at_call 23; (with_reducible refine (Lay.mark_m HOK.out N _ HQW.out _ HYE.out.po.mp).mono ?_); rintro e w31 ⟨rfl, hb⟩; rw [HPN.out]; have HYE := Lib.hid (HYE.out.below hb); clear hb hrc; have hrc := HYE.out.rw'.ro.cell pn HPL.out; rw [← HZV.out] at hrc)
                            | (go_at_call 27; (with_reducible refine (HYE.out.load (pn : Int) (by have := HQB.out; omega)).mono ?_); rintro e w32 ⟨rfl, hy⟩; rw [← HYV.out]; have HYE := Lib.hid hy; clear hy hrc; have hrc := HYE.out.rw'.ro.cell pn HPL.out; rw [← HZV.out] at hrc)
                            | fail)
                          go_roundw
                          case rel => exact ⟨qn + 1, by rw [HB1.out], by go_num, by omega, by omega, HYE.out.more (by omega)⟩
                          case measure => simp [intOf]; have := HQB.out; omega
                      · have hle : ¬ (qn : Int) ≤ (nn : Int) := by omega
                        obtain rfl : qn = nn + 1 := by omega
                        have hbk : belowK l ((nn + 1 : Nat) : Int) = l.length := belowK_all (fun x hx => by have := (HMA.out x hx).2.1; omega)
                        rw [hbk]
                        have HL1 : Hid (1 < L3.length) := Lib.hid (by rw [HLEN3.out]; exact one_lt HOK.out)
                        have h1l : (1 : Int) < (L3.length : Int) := by have := HL1.out; omega
                        have hle2 : ¬ (((nn + 1 : Nat)) : Int) ≤ (nn : Int) := by omega
                        have hrc := HYE.out.rw'.ro.cell 1 HL1.out
                        obtain ⟨x1, hx1⟩ : ∃ x1, x1 = L3.getD 1 0 := ⟨_, rfl⟩
                        obtain ⟨y1, hy1⟩ : ∃ y1, y1 = ldq L5 1 := ⟨_, rfl⟩
                        have hyw := HWK.out
                        rw [← hy1, ← hx1] at hyw
                        rw [← hx1] at hrc
                        have hx1w : 0 ≤ x1 ∧ x1 ≤ 18446744073709551615 := by
                          rw [hx1]; exact HWW3.out _ (by rw [List.getD, List.getElem?_eq_getElem HL1.out]; exact List.getElem_mem _)
                        obtain ⟨t1, ht1⟩ : ∃ t1, t1 = IntKind.u64.wrap (x1 + mm) := ⟨_, rfl⟩
                        have et1 := ht1.symm
                        have et2 : IntKind.u64.wrap (t1 - 1) = y1 := by
                          have hm := HMM.out
                          rw [ht1, IntKind.wrap_u64, IntKind.wrap_u64, hyw, hm]
                          split <;> omega
                        have HY1V := Lib.hid hy1; have HX1V := Lib.hid hx1
                        clear hqn hq1 hq2 hyw hx1w ht1 hx1 hy1 hbk hle
                        go_wp2_with (first
                          | (go_at_call 24; (with_reducible refine (Lay.nodes_m HOK.out N _ HYE.out.po.mp).mono ?_); rintro e w30 ⟨rfl, hb⟩; rw [HNN.out]; have HYE := Lib.hid (HYE.out.below hb); clear hb hrc; have hrc := HYE.out.rw'.ro.cell 1 HL1.out; rw [← HX1V.out] at hrc)
                          | (go_at_call 30; (with_reducible refine (Lay.work_m HOK.out N _ HYE.out.po.mp).mono ?_); rintro e w31 ⟨rfl, hb⟩; rw [work1]; have HYE := Lib.hid (HYE.out.below hb); clear hb hrc; have hrc := HYE.out.rw'.ro.cell 1 HL1.out; rw [← HX1V.out] at hrc)
                          | (go_at_call 27; (with_reducible refine (HYE.out.load 1 (by omega)).mono ?_); rintro e w32 ⟨rfl, hy⟩; rw [← HY1V.out]; have HYE := Lib.hid hy; clear hy hrc; have hrc := HYE.out.rw'.ro.cell 1 HL1.out; rw [← HX1V.out] at hrc)
                          | fail)
                        go_ret
                        refine ⟨?_, (HBW.out _ HYE.out.po.bel).fin⟩
                        first | rfl | simp
end Go.Proofs.YtpocihddecemfaaGreat
