/- The law of one that tries to mark, whatever others change: four steps of its own; walked. -/
import Derived.Test.YtbjhciccpkbmoaaClAw
namespace Go.Proofs.Ytbjhciccpkbmoaa
open Go.RowKit
set_option linter.unusedVariables false
set_option linter.unusedSimpArgs false
set_option maxRecDepth 100000
open Lay (plcc plc shOf packN nodesN OkC Cfg Norm firstV Rep lenL things)

theorem p4_at {v : Int} (h0 : 1 ≤ v) (h1 : v ≤ 4) : plcc c4 16 v 0 = 79 + 5 * v := by
  obtain ⟨a, b, c, d⟩ := p4
  have hv : v = 1 ∨ v = 2 ∨ v = 3 ∨ v = 4 := by omega
  rcases hv with rfl | rfl | rfl | rfl
  · rw [a]; rfl
  · rw [b]; rfl
  · rw [c]; rfl
  · rw [d]; rfl
theorem cdue_zero {m : Cm} (h : m.pc ≤ 4) (h2 : cdue m = 0) : m.pc = 0 := by unfold cdue at h2; split at h2 <;> omega
theorem cstp_done {L : List Int} {m : Cm} (h : m.pc = 0) : cstp 1 L m = (L, m) := by
  obtain ⟨pc, p, cy, k, won⟩ := m
  dsimp only at h
  subst h
  simp [cstp]

set_option maxHeartbeats 16000000 in
theorem walkFour (v cy : Int) (K : Option Addr) (kn capK : Nat) (ks : List Pok) (w : World) (hv : (Lit.int .u8 v).wf = true) (hcy : (Lit.int .u64 cy).wf = true) (hK : IsPoks w K kn capK ks) :
    Calls Try.prog 7 #[.int .u8 v, .int .u64 cy, .slice K kn capK] w fun e w' => e = .returned (.bool true) ∧ Below w.heap.size w w' := by
  obtain ⟨rK, lK, h5, h6, wfK⟩ := hK
  obtain ⟨v0, v1⟩ : 0 ≤ v ∧ v ≤ 255 := by
    simp [Lit.wf, IntKind.min, IntKind.max, IntKind.bits, IntKind.signed] at hv; omega
  have HRK := Lib.hid rK; have HLK := Lib.hid lK
  have hm3 : kn ≤ maxLen := by omega
  have HOK := Lib.hid okc4
  clear hv hcy rK lK wfK
  by_cases hbig : 6 < kn
  · have d0 : decide ((kn : Int) > 6) = true := by simp; omega
    go_enter Try.func7, Try.ntmps7
    go_wp2_with (first
      | (go_at_call 8; (with_reducible refine (awake_true _).mono ?_); rintro e w1 ⟨rfl, hb⟩)
      | fail)
    go_ret
    exact ⟨rfl, hb⟩
  · have d0 : decide ((kn : Int) > 6) = false := by simp; omega
    have hkn : kn ≤ 6 := by omega
    clear hbig
    obtain ⟨nd, hnd⟩ : ∃ nd, v % 4 = nd := ⟨_, rfl⟩
    have hmod : 0 ≤ nd ∧ nd ≤ 3 := by omega
    have HVP : Hid (plcc c4 16 (nd + 1) 0 = 84 + 5 * nd) := Lib.hid (by rw [p4_at (by omega) (by omega)]; omega)
    have HV := Lib.hid (Lay.wf_i64 (v := nd + 1) (by omega) (by omega))
    go_enter Try.func7, Try.ntmps7
    go_wp2_with (first
      | (go_at_call 8; (with_reducible refine (awake_true _).mono ?_); rintro e w1 ⟨rfl, hb⟩; have HB := Lib.hid hb; clear hb)
      | (go_at_call 10; (with_reducible refine (new4 _).mono ?_); rintro e w3 ⟨N, rfl, hm, hb⟩; have HM := Lib.hid hm; have HB := Lib.hid (below_step HB.out HB.out.size hb); clear hb hm)
      | (go_at_call 14; (with_reducible refine (first_any HOK.out N _ HM.out).mono ?_); rintro e w4 ⟨G, n, L, rfl, hn, hr, hrep, hb⟩; have HB := Lib.hid (below_step HB.out HB.out.size hb); have HM := Lib.hid (HM.out.below hb); have HN := Lib.hid hn; have HR := Lib.hid hr; have HRE := Lib.hid hrep; have HLE := Lib.hid (first_len HOK.out hrep); clear hb hn hr hrep)
      | (go_at_call 13; (with_reducible refine (new_any _ _ _ L _ HN.out HR.out (by have := HN.out; have := HLE.out; omega)).mono ?_); rintro e w5 hs; obtain ⟨S, D, rfl, hms⟩ := MS.start (w9 := w) HB.out HM.out HOK.out hs; have H0 := Lib.hid hms; clear hs hms)
      | (go_at_call 16; (with_reducible refine (MS.new H0.out (nd + 1) cy HV.out).mono ?_); rintro e w6 ⟨X, rfl, hms, _, _, _⟩; rw [HVP.out] at hms; have H1 := Lib.hid hms; clear hms)
      | fail)
    have HC0 : Hid (C1 1 L (cNew (84 + 5 * nd) cy)) := Lib.hid (by
      obtain ⟨hl, hw, _⟩ := first4 HRE.out
      exact ⟨by omega, by simp only [cNew]; omega, by simp [cNew], by simp [cNew], hw⟩)
    clear HB HM HN HR HRE HLE H0 hnd
    go_loopw [13] (fun n wr => ∃ (i : Nat) (L : List Int) (m : Cm) (cc : Int), i ≤ 4 ∧ n = .int .i64 (i : Int) ∧ C1 1 L m ∧ m.p = 84 + 5 * nd ∧ cdue m ≤ 4 - i ∧ cc ≤ 2 * i ∧ MS w wr S D N c4 [X] [m] L cc) (fun n _ => 4 - (intOf n).toNat)
    case atStart => exact ⟨0, L, _, 0, by omega, rfl, HC0.out, rfl, by simp [cdue, cNew], by omega, H1.out⟩
    case round =>
      clear H1 HC0 L
      obtain ⟨i, L, m, cc, hi, rfl, hc1, hmp, hdue, hcc, hms⟩ := hrel
      have hp4 := hc1.2.2.1
      have hds := cdue_step 1 L m hp4
      have H1 := Lib.hid hms
      have HC := Lib.hid hc1; have HMP := Lib.hid hmp; have HDU := Lib.hid hdue; have HCC := Lib.hid hcc; have HP4 := Lib.hid hp4
      clear hms hc1 hdue hcc hp4
      by_cases h4 : i < 4
      · have HI := Lib.hid h4
        by_cases hp : i < kn
        · obtain ⟨bp, offp, rfl, hbl, hcp⟩ := HRK.out (by have := HLK.out; omega)
          have hcj := (hcp i (by have := HLK.out; omega)).2
          obtain ⟨y, hy⟩ : ∃ y, y = (atP ks i).v := ⟨_, rfl⟩
          rw [← hy] at hcj
          have HZ : Hid (∀ wz, Below w.heap.size w wz → wz.cell? ⟨bp, offp + (i * 2 + 1), none⟩ = some (.int .u64 y)) := Lib.hid (fun wz hb => (hb.cell (p := ⟨bp, offp + (i * 2 + 1), none⟩) hbl).trans hcj)
          have z0 : wr.cell? ⟨bp, offp + i * 2 + 1, none⟩ = some (.int .u64 y) := HZ.out _ H1.out.bel
          have HD := Lib.hid H1.out.drew
          have hp0 : (i : Int) < (kn : Int) := by omega
          have hi0 : (0 : Int) ≤ (i : Int) := by omega
          clear hcp hcj hy hp
          go_wp2_with (fail)
          go_region_held3 (fun w' => w'.cell? ⟨bp, offp + i * 2 + 1, none⟩ = some (.int .u64 y))
            (first | exact HZ.out _ H3.out.bel | exact HZ.out _ H2.out.bel | exact HZ.out _ HD.out.bel | go_keep)
            (first
              | (go_at_call 18; (with_reducible refine (Lay.mark_m HOK.out N (nd + 1) HV.out _ HD.out.mp).mono ?_); rintro r w8 ⟨rfl, hb⟩; rw [HVP.out]; have H2 := Lib.hid (HD.out.below hb); clear hb)
              | (go_at_call 19; (with_reducible refine (MS.put H2.out (84 + 5 * nd) y (by have := HCC.out; omega)).mono ?_); rintro r w9 ⟨rfl, hk⟩; have H3 := Lib.hid hk; clear hk)
              | fail)
          all_goals
            have hcp1 := HC.out.poke (v := y)
            rw [HMP.out] at hcp1
            have hds := cdue_step 1 (ptc L (84 + 5 * nd) y) m HP4.out
            go_wp2_with (first
              | (go_at_call 22; (with_reducible refine (MS.step H3.out (j := 0) rfl rfl (by have := HCC.out; omega)).mono ?_); rintro r w10 ⟨rfl, hk, _⟩; have H4 := Lib.hid hk; clear hk)
              | fail)
            go_roundw
            case rel => exact ⟨i + 1, _, _, _, (by have := HI.out; omega), by go_num, hcp1.step, hds.2.2.1.trans HMP.out, (by have := HDU.out; omega), (by have := HCC.out; unfold ccost; split <;> omega), H4.out⟩
            case measure => have := HI.out; simp [intOf]; omega
        · have hp0 : ¬ (i : Int) < (kn : Int) := by omega
          clear hp
          go_wp2_with (first
            | (go_at_call 22; (with_reducible refine (MS.step H1.out (j := 0) rfl rfl (by have := HCC.out; omega)).mono ?_); rintro r w10 ⟨rfl, hk, _⟩; have H4 := Lib.hid hk; clear hk)
            | fail)
          go_roundw
          case rel => exact ⟨i + 1, _, _, _, (by have := HI.out; omega), by go_num, HC.out.step, hds.2.2.1.trans HMP.out, (by have := HDU.out; omega), (by have := HCC.out; unfold ccost; split <;> omega), H4.out⟩
          case measure => have := HI.out; simp [intOf]; omega
      · obtain rfl : i = 4 := by omega
        have hp0 := cdue_zero HP4.out (by have := HDU.out; omega)
        have hcc := HCC.out
        have h1 := H1.out
        obtain ⟨a1, _, _, _, a5⟩ := HC.out
        have l1 : ldc L 1 = pend m := (lc_in a1).trans a5
        obtain ⟨pc, p, cy', k, won⟩ := m
        dsimp only at hp0
        subst hp0
        have hst := cstp_done (L := L) (m := ⟨0, p, cy', k, won⟩) rfl
        have HST := Lib.hid hst
        clear h4 hi HP4 HDU HC HMP a1 a5 hds hmp hst h1
        cases won
        · have HL1 : Hid (ldc L 1 = 0) := Lib.hid (by rw [l1]; simp [pend])
          clear l1
          go_wp2_with (first
            | (go_at_call 24; (with_reducible refine (MS.won H1.out (j := 0) rfl rfl).mono ?_); rintro r w12 ⟨rfl, hw⟩; cases hw)
            | (go_at_call 22; (with_reducible refine (MS.step_as (b := true) H1.out (j := 0) rfl rfl (by omega) HST.out rfl).mono ?_); rintro r w10 ⟨rfl, hk⟩; have H4 := Lib.hid hk; clear hk)
            | (go_at_call 27; (with_reducible refine (Lay.work_m HOK.out N _ H4.out.mp).mono ?_); rintro r w8 ⟨rfl, hb⟩; rw [p4_w]; have H5 := Lib.hid (H4.out.below hb); clear hb)
            | (go_at_call 26; (with_reducible refine (MS.load H5.out 1 (by unfold ccost; split <;> omega)).mono ?_); rintro r w9 ⟨rfl, hk⟩; rw [HL1.out]; have H6 := Lib.hid hk; clear hk)
            | fail)
          go_ret
          exact ⟨rfl, H6.out.bel⟩
        · have HL1 : Hid (ldc L 1 = 1) := Lib.hid (by rw [l1]; simp [pend])
          clear l1
          go_wp2_with (first
            | (go_at_call 24; (with_reducible refine (MS.won H1.out (j := 0) rfl rfl).mono ?_); rintro r w12 ⟨rfl, hw⟩; cases hw)
            | (go_at_call 22; (with_reducible refine (MS.step_as (b := true) H1.out (j := 0) rfl rfl (by omega) HST.out rfl).mono ?_); rintro r w10 ⟨rfl, hk⟩; have H4 := Lib.hid hk; clear hk)
            | (go_at_call 27; (with_reducible refine (Lay.work_m HOK.out N _ H4.out.mp).mono ?_); rintro r w8 ⟨rfl, hb⟩; rw [p4_w]; have H5 := Lib.hid (H4.out.below hb); clear hb)
            | (go_at_call 26; (with_reducible refine (MS.load H5.out 1 (by unfold ccost; split <;> omega)).mono ?_); rintro r w9 ⟨rfl, hk⟩; rw [HL1.out]; have H6 := Lib.hid hk; clear hk)
            | fail)
          go_ret
          exact ⟨rfl, H6.out.bel⟩
end Go.Proofs.Ytbjhciccpkbmoaa
