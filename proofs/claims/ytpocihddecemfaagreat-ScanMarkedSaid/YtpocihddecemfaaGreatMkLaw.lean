/- The law of a task that is done while others mark nodes: walked. -/
import Derived.Test.YtpocihddecemfaaGreatJ25
import Derived.IntWalk
namespace Go.Proofs.YtpocihddecemfaaGreat
open Go.RowKit
set_option linter.unusedVariables false
set_option linter.unusedSimpArgs false
set_option maxRecDepth 100000
open Lay (plcc plc shOf packN nodesN OkC Cfg Norm firstV Rep lenL slotsOf kindV)

set_option maxHeartbeats 16000000 in
theorem walkMarked (c : Cfg) (v : Int) (F : Option Addr) (fn fc : Nat) (zf : List Int) (O : Option Addr) (on oc : Nat) (zo : List Int) (w : World) (hv : (Lit.int .u8 v).wf = true) (hF : IsRow .u64 w F fn fc zf) (hO : IsRow .u8 w O on oc zo) :
    Calls Tryz.prog 6 #[Lay.cfgV c, .int .u8 v, .slice F fn fc, .slice O on oc] w fun e w' => e = .returned (.bool true) ∧ Below w.heap.size w w' := by
  obtain ⟨v0, v1⟩ : 0 ≤ v ∧ v ≤ 255 := by
    simp [Lit.wf, IntKind.min, IntKind.max, IntKind.bits, IntKind.signed] at hv; omega
  obtain ⟨fs, hfn, hfr, hfx, hfm⟩ := row_words hF
  obtain ⟨os, hon, hor, hox, hom⟩ := row_bytes hO
  have HFN := Lib.hid hfn; have HFR := Lib.hid hfr; have HFX := Lib.hid hfx; have HON := Lib.hid hon; have HOR := Lib.hid hor; have HOX := Lib.hid hox
  have HB := Lib.hid (Bw.start w c)
  obtain ⟨q0, q1, q2, q3, q4, q5, q6, q7, q8, q9, q10, q11⟩ := (Bw.start w c).cfg
  have HV := Lib.hid (And.intro v0 v1)
  clear hv hF hO hfn hfr hfx hon hor hox v0 v1
  by_cases hb1 : 40 < fn
  · have d1 : decide ((fn : Int) > 40) = true := by simp; omega
    clear hb1
    go_enter Tryz.func6, Tryz.ntmps6
    go_wp2_with (first
      | (go_at_call 7; (with_reducible refine (awake_true _).mono ?_); rintro e w1 ⟨rfl, hb⟩; have HB := Lib.hid (HB.out.step hb); clear hb q0 q1 q2 q3 q4 q5 q6 q7 q8 q9 q10 q11; obtain ⟨q0, q1, q2, q3, q4, q5, q6, q7, q8, q9, q10, q11⟩ := HB.out.cfg)
      | (go_at_call 8; (with_reducible refine (small_any c _).mono ?_); rintro e w2 ⟨b, rfl, hs, hb⟩; have HB := Lib.hid (HB.out.step hb); clear hb; cases b)
      | fail)
    all_goals go_ret
    all_goals exact ⟨rfl, HB.out.fin⟩
  by_cases hb2 : fn = 0
  · subst hb2
    go_enter Tryz.func6, Tryz.ntmps6
    go_wp2_with (first
      | (go_at_call 7; (with_reducible refine (awake_true _).mono ?_); rintro e w1 ⟨rfl, hb⟩; have HB := Lib.hid (HB.out.step hb); clear hb q0 q1 q2 q3 q4 q5 q6 q7 q8 q9 q10 q11; obtain ⟨q0, q1, q2, q3, q4, q5, q6, q7, q8, q9, q10, q11⟩ := HB.out.cfg)
      | (go_at_call 8; (with_reducible refine (small_any c _).mono ?_); rintro e w2 ⟨b, rfl, hs, hb⟩; have HB := Lib.hid (HB.out.step hb); clear hb; cases b)
      | fail)
    all_goals go_ret
    all_goals exact ⟨rfl, HB.out.fin⟩
  have d1 : decide ((fn : Int) > 40) = false := by simp; omega
  have d2 : ((fn : Int) == 0) = false := by rw [beq_eq_false_iff_ne]; omega
  have hf40 : fn ≤ 40 := by omega
  have hf0 : 0 < fn := by omega
  by_cases hb3 : 100 < on
  · have d3 : decide ((on : Int) > 100) = true := by simp; omega
    clear hb1 hb2 hb3
    go_enter Tryz.func6, Tryz.ntmps6
    go_wp2_with (first
      | (go_at_call 7; (with_reducible refine (awake_true _).mono ?_); rintro e w1 ⟨rfl, hb⟩; have HB := Lib.hid (HB.out.step hb); clear hb q0 q1 q2 q3 q4 q5 q6 q7 q8 q9 q10 q11; obtain ⟨q0, q1, q2, q3, q4, q5, q6, q7, q8, q9, q10, q11⟩ := HB.out.cfg)
      | (go_at_call 8; (with_reducible refine (small_any c _).mono ?_); rintro e w2 ⟨b, rfl, hs, hb⟩; have HB := Lib.hid (HB.out.step hb); clear hb; cases b)
      | fail)
    all_goals go_ret
    all_goals exact ⟨rfl, HB.out.fin⟩
  have d3 : decide ((on : Int) > 100) = false := by simp; omega
  have ho100 : on ≤ 100 := by omega
  clear hb1 hb2 hb3
  obtain ⟨vq, hvq⟩ : ∃ vq : Nat, v = (vq : Int) := ⟨v.toNat, by have := HV.out; omega⟩
  subst hvq
  go_enter Tryz.func6, Tryz.ntmps6
  go_upto_region 9 with (first
    | (go_at_call 7; (with_reducible refine (awake_true _).mono ?_); rintro e w1 ⟨rfl, hb⟩; have HB := Lib.hid (HB.out.step hb); clear hb q0 q1 q2 q3 q4 q5 q6 q7 q8 q9 q10 q11; obtain ⟨q0, q1, q2, q3, q4, q5, q6, q7, q8, q9, q10, q11⟩ := HB.out.cfg)
    | (go_at_call 8; (with_reducible refine (small_any c _).mono ?_); rintro e w2 ⟨b, rfl, hs, hb⟩; have HB := Lib.hid (HB.out.step hb); clear hb q0 q1 q2 q3 q4 q5 q6 q7 q8 q9 q10 q11; obtain ⟨q0, q1, q2, q3, q4, q5, q6, q7, q8, q9, q10, q11⟩ := HB.out.cfg; have HSS := Lib.hid hs; clear hs; cases b)
    | (go_at_call 9; (with_reducible refine (Lay.new_yes (HSS.out trivial).1 _).mono ?_); rintro e w3 ⟨N, rfl, hm, hb⟩; have HOK := Lib.hid (HSS.out trivial).1; have HM := Lib.hid hm; have HB := Lib.hid (HB.out.step hb); have HB3 := HB; clear hb hm q0 q1 q2 q3 q4 q5 q6 q7 q8 q9 q10 q11)
    | (go_at_call 12; (with_reducible refine (filled_any HOK.out N F fn fc fs _ HM.out HFN.out (HB.out.reads HFR.out) HFX.out (by omega)).mono ?_); rintro e w4 ⟨S, D, L0, L, rfl, hrep, hfl, hpo, hb⟩; have HB := Lib.hid (HB.out.step hb); have HRE := Lib.hid hrep; have HFL := Lib.hid hfl; have HPO := Lib.hid hpo; clear hrep hfl hpo hb)
    | fail)
  · go_ret
    exact ⟨rfl, HB.out.fin⟩
  obtain ⟨nn, hnn⟩ : ∃ nn : Nat, nodesN c = (nn : Int) := ⟨(nodesN c).toNat, by have := nodes60 HOK.out; omega⟩
  have hn1 : ¬ nn = 0 := by have := nodes_pos HOK.out; omega
  have hn60 : nn ≤ 60 := by have := nodes60 HOK.out; omega
  obtain ⟨nd, hnd⟩ : ∃ nd, nd = vq % nn := ⟨_, rfl⟩
  have hndl : nd < nn := by rw [hnd]; exact Nat.mod_lt _ (by omega)
  have hrem : ((vq : Nat) : Int).tmod (nn : Int) = (nd : Int) := by rw [Int.tmod_eq_emod_of_nonneg (by omega), hnd]; rfl
  have hvw : IntKind.i64.wrap ((vq : Nat) : Int) = (vq : Int) := IntWalk.i64_in _ (by have := HV.out; omega)
  obtain ⟨u, hu⟩ : ∃ u : Int, u = (nd : Int) + 1 := ⟨_, rfl⟩
  have huw : IntKind.i64.wrap ((nd : Int) + 1) = u := by rw [hu]; exact IntWalk.i64_in _ (by omega)
  have HNN := Lib.hid hnn
  have HU := Lib.hid (show 1 ≤ u ∧ u ≤ nodesN c by rw [hnn]; omega)
  have hu60 : 1 ≤ u ∧ u ≤ 60 := by omega
  have hu32 : IntKind.u32.wrap u = u := by rw [IntKind.wrap_u32]; exact Int.emod_eq_of_lt (by omega) (by omega)
  have HUW : Hid ((Lit.int .i64 u).wf = true) := Lib.hid (by simp [Lit.wf, IntKind.min, IntKind.max, IntKind.bits, IntKind.signed]; omega)
  have HU60 := Lib.hid hu60
  obtain ⟨rm, hrm⟩ : ∃ rm, rm = slotsOf (kindV c u) := ⟨_, rfl⟩
  have hrb : 0 ≤ rm ∧ rm ≤ 16 := by rw [hrm]; exact Lay.slots_bd _
  have hrw : IntKind.u64.wrap rm = rm := by rw [IntKind.wrap_u64]; exact Int.emod_eq_of_lt (by omega) (by omega)
  have HRM := Lib.hid hrm
  have HRB := Lib.hid (show 0 ≤ rm ∧ rm ≤ 18446744073709551615 by omega)
  clear hnn hnd hndl hu hu60 hrm
  go_upto_region 11 with (first
    | (go_at_call 24; (with_reducible refine (Lay.nodes_m HOK.out N _ HPO.out.mp).mono ?_); rintro e w5 ⟨rfl, hb⟩; rw [HNN.out]; have HP1 := Lib.hid (HPO.out.step hb); clear hb)
    | (go_at_call 26; (with_reducible refine (Lay.header_m HOK.out N u HUW.out _ HP1.out.mp).mono ?_); rintro e w6 ⟨rfl, hb⟩; have HP2 := Lib.hid (HP1.out.step hb); clear hb)
    | (go_at_call 25; (with_reducible refine (Lay.room_m N u _ HP2.out.mp).mono ?_); rintro e w7 ⟨rfl, hb⟩; rw [← HRM.out]; have HP3 := Lib.hid (HP2.out.step hb); clear hb)
    | (go_at_call 21; (with_reducible refine (put_po HP3.out (plcc c 14 u 0) rm HRB.out (by decide)).mono ?_); rintro e w8 ⟨rfl, hp, _⟩; have HP4 := Lib.hid hp; clear hp)
    | fail)
  have HBW : Hid (∀ w', Below w3.heap.size w3 w' → Bw w c w') := Lib.hid (fun w' hb => HB3.out.step hb)
  have HL1 : Hid (FL c L0 (ptq L (plcc c 14 u 0) rm)) := Lib.hid (HFL.out.put ⟨u, HU.out.1, HU.out.2, .inl rfl⟩)
  obtain ⟨L1, hL1⟩ : ∃ L1, L1 = ptq L (plcc c 14 u 0) rm := ⟨_, rfl⟩
  have hp4 := HP4.out; have hl1 := HL1.out
  rw [← hL1] at hp4 hl1
  have hhd : L1.getD (plcc c 14 u 0).toNat 0 = slotsOf (kindV c u) := by
    have p14 := plc_in HOK.out (k := 14) (by omega) (by omega) HU.out.1 HU.out.2
    have lt := Lay.plc_lt (s := shOf c) (n14 u) p14
    rw [hL1, pt_same ⟨p14, by rw [HFL.out.len, HRE.out.1]; exact lt⟩]
    exact HRM.out
  clear HP4 HL1 HP1 HP2 HP3 HPO HB HB3 HM HSS
  have HP4 := Lib.hid (hp4.more (show (2000 + 1 : Int) ≤ 3000 by decide))
  have HHD := Lib.hid hhd
  have HL1 := Lib.hid hl1
  clear hL1 hp4 hl1 hhd
  obtain ⟨en, hen⟩ : ∃ en, en = Lay.imin c.ch rm := ⟨_, rfl⟩
  have HEN := Lib.hid hen.symm
  have HET : Hid (en = toZ (slotsOf (kindV c u)) 0 c.ch) := Lib.hid (by rw [hen, HRM.out]; exact to_min (by rw [← HRM.out]; exact hrb.1) (by rw [← HRM.out]; exact hrb.2) HOK.out.h0 HOK.out.h1)
  clear hen
  have HD := Lib.hid (HP4.out.step (Below.refl _ _).drew)
  have hc8 := ch_cell (HBW.out _ HP4.out.bel)
  go_region_held3 (fun w' => w'.cell? ⟨w.heap.size, 8, none⟩ = some (.int .i64 c.ch))
    (first | (with_reducible exact ch_cell (HBW.out _ HP5.out.bel)) | (with_reducible exact ch_cell (HBW.out _ HD.out.bel)) | fail)
    (first
      | (go_at_call 25; (with_reducible refine (Lay.room_m N u _ HD.out.mp).mono ?_); rintro e w9 ⟨rfl, hb⟩; rw [← HRM.out]; have HP5 := Lib.hid (HD.out.step hb); clear hb)
      | fail)
  rw [HEN.out]
  obtain ⟨tk, htk⟩ : ∃ tk, tk = u * 4294967296 + 0 := ⟨_, rfl⟩
  have HTK := Lib.hid htk
  have HTQ : Hid (tk / 4294967296 = u ∧ tk % 4294967296 = 0 ∧ 0 ≤ tk ∧ tk ≤ 18446744073709551615) := Lib.hid (by have := HU60.out; omega)
  clear htk hc8 HD
  go_upto_region 13 with (first
    | (go_at_call 29; (with_reducible refine (pair_any u 0 (by have := HU60.out; omega) (by have := HU60.out; omega) (by decide) (by decide) _).mono ?_); rintro e w10 ⟨rfl, hb⟩; rw [← HTK.out]; have HP6 := Lib.hid (HP5.out.step hb); clear hb)
    | (go_at_call 14; (with_reducible refine (new_zo HP6.out 0 tk 7 HTQ.out.2.2.1 HTQ.out.2.2.2 cp00 aIdle).mono ?_); rintro e w11 ⟨X, rfl, hx, hp, hb⟩; rw [HTQ.out.1, HTQ.out.2.1] at hx; have HX := Lib.hid hx; have HP7 := Lib.hid hp; have HLO := Lib.hid (show S < w10.heap.size ∧ D < w10.heap.size ∧ N < w10.heap.size ∧ w3.heap.size ≤ w10.heap.size ∧ w10.heap.size ≤ w11.heap.size from ⟨HP6.out.lt.1, HP6.out.lt.2.1, HP6.out.lt.2.2, HP6.out.bel.size, hb.size⟩); clear hx hp hb)
    | fail)
  have HMR := Lib.hid (show (0 : Int) < c.mr from by have := HOK.out.k0; omega)
  obtain ⟨k, hk⟩ : ∃ k, k = zkOf c 0 u 0 7 L1 0 nn := ⟨_, rfl⟩
  have hlen : L1.length = lenL (shOf c) := HL1.out.len.trans HRE.out.1
  have hsc : SC k L1 0 0 (zNew u 0 7 cp00 aIdle) 0 [] (fun _ => False) 253 := by
    rw [hk]
    refine SC.start HOK.out (Int.le_refl _) HMR.out HU.out.1 HU.out.2 ⟨Int.le_refl _, (Lay.slots_bd _).1⟩ ?_ (fun K hK hs => few_nodes nn K hK fun x hx => ⟨(hs x hx).1, by have := (hs x hx).2.1; rw [HNN.out] at this; exact this⟩) hlen HP7.out.ww HHD.out ((a1_first HOK.out (Int.le_refl _) HMR.out HRE.out).fl HOK.out (Int.le_refl _) HMR.out HL1.out) rfl cp00 aIdle
    have := pk_room HOK.out
    rw [HNN.out] at this
    omega
  have hw0 : k.w0 = 0 := by
    rw [hk]
    show L1.getD 1 0 = 0
    have h1 := HL1.out.same 1 (by decide) work_hs
    have h2 := first_word HRE.out n1 (by rw [work_at]; decide)
    rw [work_at, fv_1] at h2
    exact h1.trans h2
  have HK := Lib.hid (show k.T = en ∧ k.b = 0 ∧ k.cy = 7 ∧ k.v = u ∧ k.w0 = 0 ∧ k.more = (if en < rm then 1 else 0) from ⟨by rw [hk]; exact HET.out.symm, by rw [hk]; rfl, by rw [hk]; rfl, by rw [hk]; rfl, hw0, by rw [hk, HET.out, HRM.out]; rfl⟩)
  have HKZ := Lib.hid (show k.z = zgOf c ∧ k.g = gOf c ∧ k.e = eOf c 0 from by rw [hk]; exact ⟨rfl, rfl, rfl⟩)
  have HSC := Lib.hid hsc
  have HLEN := Lib.hid hlen
  clear hk hsc hw0 hlen
  go_wp2_with (fail)
  go_loopw [17, 18] (fun s17 s18 wr => ∃ (kk : Nat) (L : List Int) (A : Nat) (m : Zm) (s : Int) (K : List Int) (P : Int → Prop), s17 = .int .i64 (K.length : Int) ∧ s18 = .int .i64 (kk : Int) ∧ m.pc ≠ 0 ∧ SZ w3.heap.size S D N c w3 wr w10.heap.size X 0 k L (kk : Int) A m s K P (253 - (kk : Int)) (3000 + 2 * (kk : Int))) (fun _ s18 _ => 400 - (intOf s18).toNat)
  case atStart => exact ⟨0, L1, 0, _, 0, [], _, rfl, rfl, by simp [zNew], ⟨HP7.out, HX.out, zw_new c (by have := HU60.out; omega) (by decide) (by decide), HSC.out, HLO.out, HKZ.out, HLEN.out⟩⟩
  case round =>
    clear HSC HP7 HX
    obtain ⟨kk, L, A, m, s, K, P, rfl, rfl, hpc, hz⟩ := hrel
    have hkk := hz.sc.left hpc
    have HPC := Lib.hid hpc; have HZ := Lib.hid hz
    have hk252 : kk ≤ 252 := by omega
    clear hpc hz hkk
    have h400 : (kk : Int) < 400 := by omega
    go_upto_if 86 with (first
      | (go_at_call 17; (with_reducible refine (HZ.out.step HPC.out (Int.le_refl _) HMR.out (by omega) (by omega)).mono ?_); rintro r w14 ⟨L', A', m', s', K', rfl, hz, hev, _⟩; obtain ⟨b, hbq⟩ : ∃ b, b = decide (m'.pc = 0) := ⟨_, rfl⟩; rw [← hbq]; have HBQ := Lib.hid hbq; have HZ1 := Lib.hid hz; have HEV := Lib.hid hev.len; clear hbq hz hev)
      | fail)
    cases b
    · have hp0 : m'.pc ≠ 0 := by have := HBQ.out; simpa using this.symm
      have HP0 := Lib.hid hp0
      have hfew := HZ1.out.sc.few
      have hfew2 := HZ.out.sc.few
      have HF := Lib.hid hfew
      have ew : IntKind.i64.wrap ((K.length : Int) + 1) = (K.length : Int) + 1 := IntWalk.i64_in _ (by omega)
      have ek : IntKind.i64.wrap ((kk : Int) + 1) = (kk : Int) + 1 := IntWalk.i64_in _ (by omega)
      clear hp0 hfew hfew2 h400 HBQ
      go_upto_if 92 with (first
        | (go_at_call 19; (with_reducible refine (HZ1.out.event).mono ?_); rintro r w15 ⟨rfl, hz⟩; have HZ2 := Lib.hid hz; clear hz)
        | fail)
      go_cut [17] (fun s wx => s = .int .i64 (K'.length : Int) ∧ wx = w15)
      case first =>
        by_cases he : m'.ek = 1
        · have hl := HEV.out.1 he
          have HL2 : Hid ((K.length : Int) + 1 = (K'.length : Int)) := Lib.hid (by omega)
          clear hl
          go_wp2_with (fail)
          go_meet
          exact ⟨by rw [HL2.out], rfl⟩
        · have hl := HEV.out.2.1 he
          go_wp2_with (fail)
          go_meet
          exact ⟨by rw [hl], rfl⟩
      case rest =>
        obtain ⟨rfl, hwx⟩ := hcut
        subst hwx
        clear HZ1 HEV HZ ew
        by_cases hko : kk < on
        · obtain ⟨ob, oo, rfl, holt, hoc⟩ := HOR.out (by rw [← HON.out]; omega)
          obtain ⟨o, ho⟩ : ∃ o, o = os.getD kk 0 := ⟨_, rfl⟩
          have hob : 0 ≤ o ∧ o ≤ 255 := by rw [ho]; exact HOX.out _ (by rw [List.getD, List.getElem?_eq_getElem (by rw [← HON.out]; exact hko)]; exact List.getElem_mem _)
          have HOC : Hid (∀ w', Below w3.heap.size w3 w' → w'.cell? ⟨ob, oo + kk, none⟩ = some (.int .u8 o)) := Lib.hid (fun w' hb => by
            rw [ho]
            exact ((HBW.out _ hb).fin.cell (p := ⟨ob, oo + kk, none⟩) holt).trans (hoc kk (by rw [← HON.out]; exact hko)))
          have hcell := HOC.out _ HZ2.out.po.bel
          have hko2 : (kk : Int) < (on : Int) := by omega
          have hk0 : (0 : Int) ≤ (kk : Int) := by omega
          have HKO := Lib.hid hko
          clear ho hoc holt hko
          by_cases h200 : o < 200
          · have d200 : decide (o < 200) = true := by simpa using h200
            obtain ⟨oq, hoq⟩ : ∃ oq : Nat, o = (oq : Int) := ⟨o.toNat, by omega⟩
            subst hoq
            obtain ⟨nd2, hnd2⟩ : ∃ nd2, nd2 = oq % nn := ⟨_, rfl⟩
            have hndl : nd2 < nn := by rw [hnd2]; exact Nat.mod_lt _ (by omega)
            have hrem2 : ((oq : Nat) : Int).tmod (nn : Int) = (nd2 : Int) := by rw [Int.tmod_eq_emod_of_nonneg (by omega), hnd2]; rfl
            have hvw2 : IntKind.i64.wrap ((oq : Nat) : Int) = (oq : Int) := IntWalk.i64_in _ (by omega)
            obtain ⟨u2, hu2⟩ : ∃ u2 : Int, u2 = (nd2 : Int) + 1 := ⟨_, rfl⟩
            have huw2 : IntKind.i64.wrap ((nd2 : Int) + 1) = u2 := by rw [hu2]; exact IntWalk.i64_in _ (by omega)
            have HUW2 : Hid ((Lit.int .i64 u2).wf = true) := Lib.hid (by simp [Lit.wf, IntKind.min, IntKind.max, IntKind.bits, IntKind.signed]; omega)
            have HND : Hid (k.nd u2) := Lib.hid (by
              have e1 := HKZ.out.1
              have e2 := zg_nn HOK.out
              have e3 := HNN.out
              unfold Zk.nd
              rw [e1, e2, e3]; omega)
            have HD := Lib.hid (HZ2.out.below (Below.refl _ _).drew)
            clear hnd2 hndl hu2 h200 hob
            go_upto_region 20 with (fail)
            go_region_held3 (fun w' => w'.cell? ⟨ob, oo + kk, none⟩ = some (.int .u8 (oq : Int)))
              (first | (with_reducible exact HOC.out _ HZ3.out.po.bel) | (with_reducible exact HOC.out _ HD.out.po.bel) | fail)
              (first
                | (go_at_call 24; (with_reducible refine (Lay.nodes_m HOK.out N _ HD.out.po.mp).mono ?_); rintro e w16 ⟨rfl, hb⟩; rw [HNN.out]; have HZ3 := Lib.hid (HD.out.below hb); clear hb)
                | fail)
            have HPK := Lib.hid (show Calls Tryz.prog 21 #[ptr S, .int .i64 (plcc c 16 u2 0), .int .u64 7] = Calls Tryz.prog 21 #[ptr S, .int .i64 (plcc c 16 u2 0), .int .u64 k.cy] by rw [HK.out.2.2.1])
            go_wp2_with (first
              | (go_at_call 23; (with_reducible refine (Lay.mark_m HOK.out N u2 HUW2.out _ HZ3.out.po.mp).mono ?_); rintro e w17 ⟨rfl, hb⟩; have HZ4 := Lib.hid (HZ3.out.below hb); clear hb)
              | (go_at_call 21; rw [HPK.out]; (with_reducible refine (HZ4.out.poke HND.out (by rw [HK.out.2.2.1]; decide) (by omega)).mono ?_); rintro e w18 ⟨rfl, hz⟩; have HZ5 := Lib.hid hz; clear hz)
              | fail)
            go_roundw
            case rel => exact ⟨kk + 1, _, A', m', s', K', _, rfl, by go_num, HP0.out, HZ5.out.more (by omega) (by omega)⟩
            case measure => simp [intOf]; omega
          · have d200 : decide (o < 200) = false := by simpa using h200
            clear h200
            go_wp2_with (fail)
            go_roundw
            case rel => exact ⟨kk + 1, L', A', m', s', K', P, rfl, by go_num, HP0.out, HZ2.out.more (by omega) (by omega)⟩
            case measure => simp [intOf]; omega
        · have hko2 : ¬ (kk : Int) < (on : Int) := by omega
          clear hko
          go_wp2_with (fail)
          go_roundw
          case rel => exact ⟨kk + 1, L', A', m', s', K', P, rfl, by go_num, HP0.out, HZ2.out.more (by omega) (by omega)⟩
          case measure => simp [intOf]; omega
    · have hp0 : m'.pc = 0 := by have := HBQ.out; simpa using this.symm
      have hKK := HEV.out.2.2 hp0
      have hfew := HZ1.out.sc.few
      obtain ⟨hT, hb0, hcy, hkv, hkw, hmo⟩ := HK.out
      have hfin := HZ1.out.sc.fin hp0
      rw [hT, hb0] at hfew
      rw [hKK] at hfew hfin
      have HPZ := Lib.hid hp0
      have e1 := HKZ.out.1
      have HFA : Hid (∀ j : Int, 0 ≤ j → j < en → ∀ x, x = ldq L' (plcc c 18 u j) → 1 ≤ x → x ≤ (nn : Int) → 7 ≤ ldq L' (plcc c 16 x 0)) := Lib.hid (fun j h0 h1 x hx hx1 hx2 => by
        obtain ⟨a, b⟩ := hfin.1 j (by omega) (by omega)
        rw [e1, hkv] at a
        have a' : ldq L' (plcc c 18 u j) = k.W j := a
        rw [a'] at hx
        rw [← hx, e1, hcy] at b
        have e2 := zg_nn HOK.out
        have e3 := HNN.out
        exact b ⟨hx1, by rw [e1, e2, e3]; exact hx2⟩)
      have hwk := hfin.2
      rw [e1, hkw, hmo] at hwk
      have hwk' : ldq L' 1 = (0 + (K.length : Int) + (if en < rm then 1 else 0) + 18446744073709551615) % 18446744073709551616 := hwk
      have HWK := Lib.hid hwk'
      have hcl : ¬ (en < (K.length : Int)) := by omega
      have hen0 : 0 ≤ en ∧ en ≤ 16 := by omega
      have HWW := Lib.hid HZ1.out.po.ww
      clear hp0 hKK hfew hfin hwk hwk' hT hb0 hcy hkv hkw hmo e1 h400 HZ HEV HBQ
      obtain ⟨cl, hcl2⟩ : ∃ cl : Nat, cl = K.length := ⟨_, rfl⟩
      rw [← hcl2] at hcl ⊢
      have HCL := Lib.hid hcl2
      have hclb : cl ≤ 16 := by omega
      clear hcl2
      go_wp2_with (first
        | (go_at_call 17; (with_reducible refine (HZ1.out.again HPZ.out (Int.le_refl _) HMR.out (by omega) (by omega)).mono ?_); rintro r w15 ⟨rfl, hp⟩; have HP8 := Lib.hid (hp.more (show _ ≤ (5000 : Int) by omega)); clear hp)
        | fail)
      clear hcl
      go_loopw [20] (fun s20 wr => ∃ (j : Nat), (j : Int) ≤ en ∧ s20 = .int .i64 (j : Int) ∧ PO w3.heap.size S D N c w3 wr L' (5000 + 2 * (j : Int))) (fun s20 _ => 20 - (intOf s20).toNat)
      case atStart => exact ⟨0, hen0.1, rfl, HP8.out⟩
      case round =>
        clear HP8
        obtain ⟨j, hj, rfl, hpo⟩ := hrel
        have HPO := Lib.hid hpo
        clear hpo
        by_cases hlt : (j : Int) < en
        · have HLT := Lib.hid hlt
          obtain ⟨x, hx⟩ : ∃ x, x = ldq L' (plcc c 18 u (j : Int)) := ⟨_, rfl⟩
          have hxw : 0 ≤ x ∧ x ≤ 18446744073709551615 := by rw [hx]; exact HWW.out.ldq _
          have HX2 := Lib.hid hx
          have HFX2 := Lib.hid (HFA.out (j : Int) (by omega) hlt x hx)
          have ej : IntKind.i64.wrap ((j : Int) + 1) = (j : Int) + 1 := IntWalk.i64_in _ (by omega)
          have enn : IntKind.u64.wrap (nn : Int) = (nn : Int) := by rw [IntKind.wrap_u64]; exact Int.emod_eq_of_lt (by omega) (by omega)
          clear hx hj
          by_cases hx1 : 1 ≤ x
          · have b1 : decide (x ≥ 1) = true := by simpa using hx1
            by_cases hx2 : x ≤ (nn : Int)
            · have b2 : decide (x ≤ (nn : Int)) = true := by simpa using hx2
              have exw : IntKind.i64.wrap x = x := IntWalk.i64_in _ (by omega)
              have HXW : Hid ((Lit.int .i64 x).wf = true) := Lib.hid (by simp [Lit.wf, IntKind.min, IntKind.max, IntKind.bits, IntKind.signed]; omega)
              obtain ⟨y, hy⟩ : ∃ y, y = ldq L' (plcc c 16 x 0) := ⟨_, rfl⟩
              have hy7 : decide (y < 7) = false := by have := HFX2.out hx1 hx2; simp; omega
              have HY := Lib.hid hy
              clear hx1 hx2 hy hxw
              go_wp2_with (first
                | (go_at_call 28; (with_reducible refine (Lay.slot_m HOK.out N u _ HUW.out _ HPO.out.mp).mono ?_); rintro e w20 ⟨rfl, hb⟩; have HP1 := Lib.hid (HPO.out.step hb); clear hb)
                | (go_at_call 27; (with_reducible refine (load_po HP1.out _ (by omega)).mono ?_); rintro e w21 ⟨rfl, hp, _⟩; rw [← HX2.out]; have HP2 := Lib.hid hp; clear hp)
                | (go_at_call 24; (with_reducible refine (Lay.nodes_m HOK.out N _ HP2.out.mp).mono ?_); rintro e w22 ⟨rfl, hb⟩; rw [HNN.out]; have HP3 := Lib.hid (HP2.out.step hb); clear hb)
                | (go_at_call 23; (with_reducible refine (Lay.mark_m HOK.out N x HXW.out _ HP3.out.mp).mono ?_); rintro e w23 ⟨rfl, hb⟩; have HP4 := Lib.hid (HP3.out.step hb); clear hb)
                | (go_at_call 27; (with_reducible refine (load_po HP4.out _ (by omega)).mono ?_); rintro e w24 ⟨rfl, hp, _⟩; rw [← HY.out]; have HP5 := Lib.hid hp; clear hp)
                | fail)
              go_roundw
              case rel => exact ⟨j + 1, by have := HLT.out; omega, by go_num, HP5.out.more (by omega)⟩
              case measure => simp [intOf]; have := HLT.out; omega
            · have b2 : decide (x ≤ (nn : Int)) = false := by simpa using hx2
              clear hx1 hx2 hxw
              go_wp2_with (first
                | (go_at_call 28; (with_reducible refine (Lay.slot_m HOK.out N u _ HUW.out _ HPO.out.mp).mono ?_); rintro e w20 ⟨rfl, hb⟩; have HP1 := Lib.hid (HPO.out.step hb); clear hb)
                | (go_at_call 27; (with_reducible refine (load_po HP1.out _ (by omega)).mono ?_); rintro e w21 ⟨rfl, hp, _⟩; rw [← HX2.out]; have HP2 := Lib.hid hp; clear hp)
                | (go_at_call 24; (with_reducible refine (Lay.nodes_m HOK.out N _ HP2.out.mp).mono ?_); rintro e w22 ⟨rfl, hb⟩; rw [HNN.out]; have HP3 := Lib.hid (HP2.out.step hb); clear hb)
                | fail)
              go_roundw
              case rel => exact ⟨j + 1, by have := HLT.out; omega, by go_num, HP3.out.more (by omega)⟩
              case measure => simp [intOf]; have := HLT.out; omega
          · have b1 : decide (x ≥ 1) = false := by simpa using hx1
            clear hx1 hxw
            go_wp2_with (first
              | (go_at_call 28; (with_reducible refine (Lay.slot_m HOK.out N u _ HUW.out _ HPO.out.mp).mono ?_); rintro e w20 ⟨rfl, hb⟩; have HP1 := Lib.hid (HPO.out.step hb); clear hb)
              | (go_at_call 27; (with_reducible refine (load_po HP1.out _ (by omega)).mono ?_); rintro e w21 ⟨rfl, hp, _⟩; rw [← HX2.out]; have HP2 := Lib.hid hp; clear hp)
              | fail)
            go_roundw
            case rel => exact ⟨j + 1, by have := HLT.out; omega, by go_num, HP2.out.more (by omega)⟩
            case measure => simp [intOf]; have := HLT.out; omega
        · have ecl : IntKind.u64.wrap (cl : Int) = (cl : Int) := by rw [IntKind.wrap_u64]; exact Int.emod_eq_of_lt (by omega) (by omega)
          obtain ⟨y, hy⟩ : ∃ y, y = ldq L' 1 := ⟨_, rfl⟩
          have HY := Lib.hid hy
          have hyw := HWK.out
          rw [← hy, ← HCL.out] at hyw
          clear hy
          by_cases hmo : en < rm
          · rw [if_pos hmo] at hyw
            have e1 : IntKind.u64.wrap ((cl : Int) + 1) = (cl : Int) + 1 := by rw [IntKind.wrap_u64]; exact Int.emod_eq_of_lt (by omega) (by omega)
            have e2 : IntKind.u64.wrap ((cl : Int) + 1 - 1) = y := by rw [IntKind.wrap_u64, hyw]; omega
            have e3 : (cl : Int) = y := by omega
            have HE3 := Lib.hid e3
            clear hyw e3
            go_wp2_with (first
              | (go_at_call 25; (with_reducible refine (Lay.room_m N u _ HPO.out.mp).mono ?_); rintro e w20 ⟨rfl, hb⟩; rw [← HRM.out]; have HP1 := Lib.hid (HPO.out.step hb); clear hb)
              | (go_at_call 30; (with_reducible refine (Lay.work_m HOK.out N _ HP1.out.mp).mono ?_); rintro e w21 ⟨rfl, hb⟩; rw [work1]; have HP2 := Lib.hid (HP1.out.step hb); clear hb)
              | (go_at_call 27; (with_reducible refine (load_po HP2.out 1 (by omega)).mono ?_); rintro e w22 ⟨rfl, hp, _⟩; rw [← HY.out]; have HP3 := Lib.hid hp; clear hp)
              | fail)
            go_ret
            refine ⟨?_, (HBW.out _ HP3.out.bel).fin⟩
            rw [← HE3.out]; simp
          · rw [if_neg hmo] at hyw
            have e2 : IntKind.u64.wrap ((cl : Int) - 1) = y := by rw [IntKind.wrap_u64, hyw]; omega
            clear hyw
            go_wp2_with (first
              | (go_at_call 25; (with_reducible refine (Lay.room_m N u _ HPO.out.mp).mono ?_); rintro e w20 ⟨rfl, hb⟩; rw [← HRM.out]; have HP1 := Lib.hid (HPO.out.step hb); clear hb)
              | (go_at_call 30; (with_reducible refine (Lay.work_m HOK.out N _ HP1.out.mp).mono ?_); rintro e w21 ⟨rfl, hb⟩; rw [work1]; have HP2 := Lib.hid (HP1.out.step hb); clear hb)
              | (go_at_call 27; (with_reducible refine (load_po HP2.out 1 (by omega)).mono ?_); rintro e w22 ⟨rfl, hp, _⟩; rw [← HY.out]; have HP3 := Lib.hid hp; clear hp)
              | fail)
            go_ret
            refine ⟨?_, (HBW.out _ HP3.out.bel).fin⟩
            first | rfl | simp
end Go.Proofs.YtpocihddecemfaaGreat
