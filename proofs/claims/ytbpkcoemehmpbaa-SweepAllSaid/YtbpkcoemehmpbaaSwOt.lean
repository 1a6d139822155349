/- The law of other cycles: walked. -/
import Derived.Test.YtbpkcoemehmpbaaSwF
import Derived.Test.YtbpkcoemehmpbaaSwAw
import Derived.Test.YtbpkcoemehmpbaaJ1
import Derived.Test.YtbpkcoemehmpbaaGrowV
namespace Go.Proofs.Ytbpkcoemehmpbaa
open Go.RowKit
set_option linter.unusedVariables false
set_option linter.unusedSimpArgs false
set_option maxRecDepth 100000
open Lay (plcc plc shOf nodesN OkC Cfg Norm firstV Rep lenL partsC)

theorem look_no {c : Cfg} {L : List Int} {m : Wn} (h : m.pc = 1) (hn : ¬ (hiw (ldq L (wOf c).sw) = m.cy % 4294967296 ∧ low (ldq L (wOf c).sw) < (wOf c).parts)) : ∃ m', wstp (wOf c) L m = (L, m') ∧ m'.pc = 0 ∧ m'.part = m.part := by
  refine ⟨{ wq m with w := ldq L (wOf c).sw, pc := if hiw (ldq L (wOf c).sw) = m.cy % 4294967296 ∧ low (ldq L (wOf c).sw) < (wOf c).parts then 2 else 0 }, by unfold wstp; rw [if_pos h], ?_, rfl⟩
  show (if _ then 2 else 0) = 0
  rw [if_neg hn]
theorem other_1 {c : Cfg} (hc : OkC c) {cy ot : Int} {L : List Int} (h : Fil c cy L) (hne : ¬ cy % 4294967296 = ot % 4294967296) : ∃ m', wstp (wOf c) L (wNew ot) = (L, m') ∧ m'.pc = 0 ∧ m'.part = -1 := by
  have G := gw_is hc h.len
  refine look_no rfl fun e => hne ?_
  have e1 := e.1
  have hl : (0 : Int) ≤ (wOf c).sw ∧ (wOf c).sw < L.length := G.sw
  rw [ld_in hl, h.sw] at e1
  have e2 : hiw (cy % 4294967296 * 4294967296) = ot % 4294967296 := e1
  unfold hiw at e2
  omega
theorem other_2 {c : Cfg} (hc : OkC c) {ot : Int} {L : List Int} (hl : L.length = lenL (shOf c)) : ∃ m', wstp (wOf c) (ptq L (plcc c 2 0 0) (ot % 4294967296 * 4294967296 + partsC c)) (wNew ot) = (ptq L (plcc c 2 0 0) (ot % 4294967296 * 4294967296 + partsC c), m') ∧ m'.pc = 0 ∧ m'.part = -1 := by
  have G := gw_is hc hl
  have hb := Lay.parts_bd' hc
  refine look_no rfl fun e => ?_
  have e1 := e.2
  have hs : (0 : Int) ≤ (wOf c).sw ∧ (wOf c).sw < L.length := G.sw
  have hs2 : (0 : Int) ≤ (wOf c).sw ∧ (wOf c).sw < (ptq L (plcc c 2 0 0) (ot % 4294967296 * 4294967296 + partsC c)).length := by rw [pt_len]; exact hs
  rw [ld_in hs2] at e1
  have e3 : (ptq L (plcc c 2 0 0) (ot % 4294967296 * 4294967296 + partsC c)).getD (wOf c).sw.toNat 0 = ot % 4294967296 * 4294967296 + partsC c := pt_same hs
  rw [e3, parts_is hc] at e1
  unfold low at e1
  omega
theorem fil_len {c : Cfg} (hc : OkC c) {cy : Int} {L : List Int} (h : Fil c cy L) : L.length ≤ 10000 := by
  have := h.len; have := Lay.lenL_eq hc; have := (Lay.bds hc).t55'; omega
theorem u64_rng {x : Int} (h : (Lit.int .u64 x).wf = true) : 0 ≤ x ∧ x ≤ 18446744073709551615 := by
  simp [Lit.wf, IntKind.min, IntKind.max, IntKind.bits, IntKind.signed] at h; omega
theorem u8_rngs {l : List Int} (h : ∀ x ∈ l, (Lit.int .u8 x).wf = true) : ∀ z ∈ l, 0 ≤ z ∧ z ≤ 255 := fun z hz => by
  have := h z hz
  simp [Lit.wf, IntKind.min, IntKind.max, IntKind.bits, IntKind.signed] at this; omega
/-- What came in as a row of bytes, read later on. -/
theorem Bw.bytes {w w' : World} {c : Cfg} {A : Option Addr} {zs : List Int} (h : Bw w c w') (r : Reads .u8 w A zs) : Reads .u8 w' A zs := h.reads r
/-- A row of words is kept while the store, and what is newer, changes. -/
theorem reads_uf {k : IntKind} {S D b lo2 : Nat} {w w' : World} {L : List Int} (h : Reads k w (some ⟨b, 0, none⟩) L) (u : UF (fun x => x = S ∨ x = D ∨ lo2 ≤ x) w w') (hl : w.heap.size ≤ lo2) (nS : b ≠ S) (nD : b ≠ D) : Reads k w' (some ⟨b, 0, none⟩) L := fun h0 => by
  obtain ⟨b', off, e, hlt, hc⟩ := h h0
  injection e with e
  injection e with e1 e2
  subst e1
  subst e2
  exact ⟨b, 0, rfl, Nat.lt_of_lt_of_le hlt u.size, fun j hj => (UF.far u hlt (by rintro (x | x | x); exact nS x; exact nD x; omega) _).trans (hc j hj)⟩
set_option maxHeartbeats 16000000 in
theorem walkOther (c : Cfg) (cy ot : Int) (A : Option Addr) (n cap : Nat) (zs : List Int) (w : World) (hcy : (Lit.int .u64 cy).wf = true) (hot : (Lit.int .u64 ot).wf = true) (hS : IsRow .u8 w A n cap zs) :
    Calls Try.prog 4 #[Lay.cfgV c, .int .u64 cy, .int .u64 ot, .slice A n cap] w fun e w' => e = .returned (.bool true) ∧ Below w.heap.size w w' := by
  have hcyr := u64_rng hcy; have hotr := u64_rng hot
  obtain ⟨rN, lN, _, _, _, wfN⟩ := reads_row hS
  obtain ⟨ns, hns⟩ : ∃ xs, xs = zs.take n := ⟨_, rfl⟩
  rw [← hns] at rN lN wfN
  have HNW := Lib.hid (u8_rngs wfN); have HRN := Lib.hid rN; have HLN := Lib.hid lN
  have HCY := Lib.hid hcyr; have HOT := Lib.hid hotr
  obtain ⟨r, hr⟩ : ∃ r, r = cy % 4294967296 := ⟨_, rfl⟩
  obtain ⟨q, hq⟩ : ∃ q, q = ot % 4294967296 := ⟨_, rfl⟩
  have er : IntKind.u32.wrap cy = r := by rw [IntKind.wrap_u32, hr]
  have eq : IntKind.u32.wrap ot = q := by rw [IntKind.wrap_u32, hq]
  have HR := Lib.hid hr; have HQ := Lib.hid hq
  have HQR := Lib.hid (show 0 ≤ q ∧ q ≤ 4294967295 by omega)
  clear hS hns rN lN wfN hcy hot hcyr hotr hr hq
  have HB := Lib.hid (Bw.start w c)
  obtain ⟨q0, q1, q2, q3, q4, q5, q6, q7, q8, q9, q10, q11⟩ := (Bw.start w c).cfg
  by_cases hbig : 20 < n ∨ r = q
  · have key : decide ((n : Int) > 20) = true ∨ (decide ((n : Int) > 20) = false ∧ (r == q) = true) := by
      by_cases h20 : 20 < n
      · exact .inl (by simp; omega)
      · exact .inr ⟨by simp; omega, by simp; omega⟩
    clear hbig
    rcases key with d0 | ⟨d0, d1⟩
    all_goals
      go_enter Try.func4, Try.ntmps4
      go_wp2_with (first
        | (go_at_call 6; (with_reducible refine (awake_true _).mono ?_); rintro e w1 ⟨rfl, hb⟩; have HB := Lib.hid (HB.out.step hb); clear hb q0 q1 q2 q3 q4 q5 q6 q7 q8 q9 q10 q11; obtain ⟨q0, q1, q2, q3, q4, q5, q6, q7, q8, q9, q10, q11⟩ := HB.out.cfg)
        | (go_at_call 7; (with_reducible refine (small_any c _).mono ?_); rintro e w2 ⟨b, rfl, hs, hb⟩; have HB := Lib.hid (HB.out.step hb); clear hb q0 q1 q2 q3 q4 q5 q6 q7 q8 q9 q10 q11 hs; cases b)
        | fail)
      all_goals go_ret
      all_goals exact ⟨rfl, HB.out.fin⟩
  · have d0 : decide ((n : Int) > 20) = false := by simp; omega
    have d1 : (r == q) = false := by simp; omega
    have HNE := Lib.hid (show ¬ r = q by omega)
    have HN20 := Lib.hid (show n ≤ 20 by omega)
    clear hbig
    go_enter Try.func4, Try.ntmps4
    go_wp2_with (first
      | (go_at_call 6; (with_reducible refine (awake_true _).mono ?_); rintro e w1 ⟨rfl, hb⟩; have HB := Lib.hid (HB.out.step hb); clear hb q0 q1 q2 q3 q4 q5 q6 q7 q8 q9 q10 q11; obtain ⟨q0, q1, q2, q3, q4, q5, q6, q7, q8, q9, q10, q11⟩ := HB.out.cfg)
      | (go_at_call 7; (with_reducible refine (small_any c _).mono ?_); rintro e w2 ⟨b, rfl, hs, hb⟩; have HB := Lib.hid (HB.out.step hb); clear hb q0 q1 q2 q3 q4 q5 q6 q7 q8 q9 q10 q11; obtain ⟨q0, q1, q2, q3, q4, q5, q6, q7, q8, q9, q10, q11⟩ := HB.out.cfg; have HSS := Lib.hid hs; clear hs; cases b)
      | (go_at_call 8; (with_reducible refine (Lay.new_yes (HSS.out trivial).1 _).mono ?_); rintro e w3 ⟨N, rfl, hm, hb⟩; have HOK := Lib.hid (HSS.out trivial).1; have HM := Lib.hid hm; have HB := Lib.hid (HB.out.step hb); have HRN3 := Lib.hid (HB.out.bytes HRN.out); clear hb hm q0 q1 q2 q3 q4 q5 q6 q7 q8 q9 q10 q11)
      | (go_at_call 9; (with_reducible refine (filled_any HOK.out N cy A n cap ns _ HM.out HLN.out.symm HRN3.out HNW.out HCY.out (by have := HN20.out; omega)).mono ?_); rintro e w4 ⟨S, D, L, rfl, hfl, hpo, hb⟩; have HFI := Lib.hid hfl; have HP0 := Lib.hid hpo; have HB4 := Lib.hid (HB.out.step hb); have HLB := Lib.hid HB.out.lt; clear hfl hpo hb)
      | (go_at_call 13; (with_reducible refine (new_wo HP0.out ot).mono ?_); rintro e w5 ⟨X, rfl, hx, hp, hb⟩; have HX := Lib.hid hx; have HP1 := Lib.hid hp; have HLO := Lib.hid (HP0.out.los hb.size); obtain ⟨m1, he1, hm1, hp1⟩ := other_1 HOK.out HFI.out (cy := cy) (ot := ot) (by have := HNE.out; rw [HR.out, HQ.out] at this; exact this); have HE1 := Lib.hid he1; have HM1 := Lib.hid (decide_eq_true hm1); have HPT1 := Lib.hid hp1; clear hx hp hb he1 hm1 hp1)
      | (go_at_call 16; (with_reducible refine (step_wo HP1.out HX.out HLO.out (wkw_new HOK.out HOT.out) (by decide) (by decide)).mono ?_); rintro e w6 ⟨rfl, hp, hx, u⟩; rw [HE1.out, HM1.out]; rw [HE1.out] at hp hx; have HP2 := Lib.hid hp; have HX2 := Lib.hid hx; clear hp hx u)
      | (go_at_call 25; (with_reducible refine (Lay.sweep_m HOK.out N _ HP2.out.mp).mono ?_); rintro e w7 ⟨rfl, hb⟩; have HP3 := Lib.hid (HP2.out.step hb); have HX3 := Lib.hid (HX2.out.below hb); clear hb)
      | (go_at_call 14; (with_reducible refine (Lay.parts_m HOK.out N _ HP3.out.mp).mono ?_); rintro e w8 ⟨rfl, hb⟩; have HP4 := Lib.hid (HP3.out.step hb); have HX4 := Lib.hid (HX3.out.below hb); clear hb; have hpb := Lay.parts_bd' HOK.out; have ep : IntKind.u32.wrap (partsC c) = partsC c := (by rw [IntKind.wrap_u32]; exact Int.emod_eq_of_lt hpb.1 (by have := hpb.2.1; omega)); have HPB := Lib.hid hpb; clear hpb; obtain ⟨pv, hpv⟩ : ∃ pv, pv = q * 4294967296 + partsC c := ⟨_, rfl⟩; have HPV := Lib.hid hpv; have HPR := Lib.hid (show 0 ≤ pv ∧ pv ≤ 18446744073709551615 by have := HQR.out; have := HPB.out.1; have := HPB.out.2.1; omega); clear hpv)
      | (go_at_call 26; (with_reducible refine (pair_any q (partsC c) HQR.out.1 HQR.out.2 HPB.out.1 (by have := HPB.out.2.1; omega) _).mono ?_); rintro e w9 ⟨rfl, hb⟩; rw [← HPV.out]; have HP5 := Lib.hid (HP4.out.step hb); have HX5 := Lib.hid (HX4.out.below hb); clear hb)
      | (go_at_call 10; (with_reducible refine (put_po HP5.out (plcc c 2 0 0) pv HPR.out (by decide)).mono ?_); rintro e w10 ⟨rfl, hp, u⟩; have HP6 := Lib.hid hp; have HX6 := Lib.hid (HX5.out.left u); clear hp u; obtain ⟨L2, hL2⟩ : ∃ L2, L2 = ptq L (plcc c 2 0 0) pv := ⟨_, rfl⟩; have HL6 := Lib.hid (show L2.length ≤ 10000 by rw [hL2, pt_len]; exact fil_len HOK.out HFI.out); obtain ⟨m2, he2, hm2, hp2⟩ := other_2 HOK.out (ot := ot) HFI.out.len; rw [← HQ.out, ← HPV.out, ← hL2] at he2; rw [← hL2] at HP6; have HE2 := Lib.hid he2; have HM2 := Lib.hid (decide_eq_true hm2); have HPT2 := Lib.hid hp2; clear he2 hm2 hp2 hL2)
      | (go_at_call 12; (with_reducible refine (all_po HP6.out (by have := HL6.out; omega)).mono ?_); rintro e w11 ⟨rfl, hr, hp, hb⟩; have HP7 := Lib.hid hp; have HX7 := Lib.hid (HX6.out.below hb); have HRA := Lib.hid hr; have HLA := Lib.hid (show w10.heap.size ≠ S ∧ w10.heap.size ≠ D by have := HP6.out.lt; omega); clear hr hp hb)
      | (go_at_call 13; (with_reducible refine (new_wo HP7.out ot).mono ?_); rintro e w12 ⟨Y, rfl, hx, hp, hb⟩; have HY := Lib.hid hx; have HP8 := Lib.hid hp; have HLO2 := Lib.hid (HP7.out.los hb.size); have HX8 := Lib.hid (HX7.out.below hb); have HRA8 := Lib.hid (HRA.out.below hb (Nat.le_refl _)); have HUX : Hid (UF (fun b => b = S ∨ b = D ∨ w11.heap.size ≤ b) w11 w12) := Lib.hid (UF.of_below hb); clear hx hp hb)
      | (go_at_call 16; (with_reducible refine (step_wo HP8.out HY.out HLO2.out (wkw_new HOK.out HOT.out) (by decide) (by decide)).mono ?_); rintro e w13 ⟨rfl, hp, hx, u⟩; rw [HE2.out, HM2.out]; rw [HE2.out] at hp hx; have HP9 := Lib.hid hp; have HY9 := Lib.hid hx; have HX9 := Lib.hid (HX7.out.uf (HUX.out.trans u (fun _ x => x) (fun _ _ x => x)) (Nat.le_refl _)); have HRA9 := Lib.hid (reads_uf HRA.out (HUX.out.trans u (fun _ x => x) (fun _ _ x => x)) (Nat.le_refl _) HLA.out.1 HLA.out.2); clear hp hx u)
      | (go_at_call 27; (with_reducible refine (part_wo HX9.out).mono ?_); rintro e w14 ⟨rfl, rfl⟩; rw [HPT1.out])
      | (go_at_call 27; (with_reducible refine (part_wo HY9.out).mono ?_); rintro e w15 ⟨rfl, rfl⟩; rw [HPT2.out])
      | (go_at_call 12; (with_reducible refine (all_po HP9.out (by have := HL6.out; omega)).mono ?_); rintro e w16 ⟨rfl, hr, hp, hb⟩; have HPA := Lib.hid hp; have HRB := Lib.hid hr; have HRAA := Lib.hid (HRA9.out.below hb (Nat.le_refl _)); clear hr hp hb)
      | (go_at_call 28; (with_reducible refine (same_yes _ _ _ _ _ _ L2 _ rfl rfl HRB.out HRAA.out (by have := HL6.out; omega)).mono ?_); rintro e w17 ⟨rfl, hb⟩; have HPB := Lib.hid (HPA.out.step hb); clear hb)
      | fail)
    · go_ret
      exact ⟨rfl, HB.out.fin⟩
    · go_ret
      exact ⟨rfl, HB.out.fin.trans (HPB.out.bel.mono (by have := HLB.out; omega))⟩
end Go.Proofs.Ytbpkcoemehmpbaa
