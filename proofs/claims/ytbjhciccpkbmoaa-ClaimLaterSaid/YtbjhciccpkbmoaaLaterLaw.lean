/- The law of a node that is marked by one alone, in cycle after cycle, walked. -/
import Derived.Test.YtbjhciccpkbmoaaClAw
namespace Go.Proofs.Ytbjhciccpkbmoaa
open Go.RowKit
set_option linter.unusedVariables false
set_option linter.unusedSimpArgs false
set_option maxRecDepth 100000
open Lay (plcc plc shOf packN nodesN OkC Cfg Norm firstV Rep lenL things)

theorem cruns_succ (wk : Int) : ∀ (i : Nat) (L : List Int) (m : Cm), cruns wk (i + 1) L m = cstp wk (cruns wk i L m).1 (cruns wk i L m).2
  | 0, L, m => rfl
  | i + 1, L, m => by
    show cruns wk (i + 1) (cstp wk L m).1 (cstp wk L m).2 = _
    rw [cruns_succ wk i]; rfl
/-- The mark of a node, and the work. -/
structure LT (L : List Int) (T W : Int) : Prop where
  len : L.length = 68
  t : L.getD 60 0 = T
  w : L.getD 1 0 = W
theorem LT.ld60 {L : List Int} {T W : Int} (h : LT L T W) : ldc L 60 = T := (lc_in (by have := h.len; omega)).trans h.t
theorem LT.ld1 {L : List Int} {T W : Int} (h : LT L T W) : ldc L 1 = W := (lc_in (by have := h.len; omega)).trans h.w
theorem LT.no {L : List Int} {T W x : Int} (h : LT L T W) (hx : x ≤ T) : cruns 1 4 L (cNew 60 x) = (L, ⟨0, 60, x, T, false⟩) := by
  have hl := h.len
  have e : L.getD (60 : Int).toNat 0 = T := h.t
  have a := alone_marks (wk := 1) (p := 60) (cy := x) (L := L) (by omega) (by omega) (by omega)
  rw [e, if_pos hx] at a
  exact a
theorem LT.yes {L : List Int} {T W x : Int} (h : LT L T W) (hx : ¬ x ≤ T) (w0 : 0 ≤ W) (w1 : W ≤ 1000000) : ∃ L', cruns 1 4 L (cNew 60 x) = (L', ⟨0, 60, x, T, true⟩) ∧ LT L' x (W + 1) := by
  have hl := h.len
  have e : L.getD (60 : Int).toNat 0 = T := h.t
  have a := alone_marks (wk := 1) (p := 60) (cy := x) (L := L) (by omega) (by omega) (by omega)
  rw [e, if_neg hx] at a
  have la : (adc L 1 1).length = 68 := by unfold adc; rw [pc_len]; exact hl
  refine ⟨_, a, by rw [pc_len]; exact la, pc_same (by omega), ?_⟩
  have a1 : (adc L 1 1).getD (1 : Int).toNat 0 = W + 1 := by unfold adc; rw [h.ld1, pc_same (by omega)]; omega
  exact (pc_other (p := 60) (q := 1) (by decide) (by decide)).trans a1

set_option maxHeartbeats 16000000 in
theorem walkLater (P : Option Addr) (tn capP : Nat) (ps : List Int) (w : World) (hP : IsRow .u64 w P tn capP ps) :
    Calls Try.prog 5 #[.slice P tn capP] w fun e w' => e = .returned (.bool true) ∧ Below w.heap.size w w' := by
  obtain ⟨rP, lP, h1, h2, _, wfP⟩ := reads_row hP
  obtain ⟨ts, hts⟩ : ∃ xs, xs = ps.take tn := ⟨_, rfl⟩
  rw [← hts] at rP lP wfP
  have hw0 : ∀ z ∈ ts, 0 ≤ z ∧ z ≤ 18446744073709551615 := fun z hz => by
    have := wfP z hz
    simp [Lit.wf, IntKind.min, IntKind.max, IntKind.bits, IntKind.signed] at this; omega
  have HTW := Lib.hid hw0
  have HRP := Lib.hid rP; have HLP := Lib.hid lP
  have hm1 : tn ≤ maxLen := by omega
  have HOK := Lib.hid okc2
  clear hP rP lP wfP hts hw0
  by_cases hbig : 100 < tn
  · have d0 : decide ((tn : Int) > 100) = true := by simp; omega
    go_enter Try.func5, Try.ntmps5
    go_wp2_with (first
      | (go_at_call 8; (with_reducible refine (awake_true _).mono ?_); rintro e w1 ⟨rfl, hb⟩)
      | fail)
    go_ret
    exact ⟨rfl, hb⟩
  · have d0 : decide ((tn : Int) > 100) = false := by simp; omega
    have htn : tn ≤ 100 := by omega
    clear hbig
    go_enter Try.func5, Try.ntmps5
    go_wp2_with (first
      | (go_at_call 8; (with_reducible refine (awake_true _).mono ?_); rintro e w1 ⟨rfl, hb⟩; have HB := Lib.hid hb; clear hb)
      | (go_at_call 10; (with_reducible refine (new2 _).mono ?_); rintro e w3 ⟨N, rfl, hm, hb⟩; have HM := Lib.hid hm; have HB := Lib.hid (below_step HB.out HB.out.size hb); clear hb hm)
      | (go_at_call 14; (with_reducible refine (first_any HOK.out N _ HM.out).mono ?_); rintro e w4 ⟨G, n, L, rfl, hn, hr, hrep, hb⟩; have HB := Lib.hid (below_step HB.out HB.out.size hb); have HM := Lib.hid (HM.out.below hb); have HN := Lib.hid hn; have HR := Lib.hid hr; have HRE := Lib.hid hrep; have HLE := Lib.hid (first_len HOK.out hrep); clear hb hn hr hrep)
      | (go_at_call 13; (with_reducible refine (new_any _ _ _ L _ HN.out HR.out (by have := HN.out; have := HLE.out; omega)).mono ?_); rintro e w5 hs; obtain ⟨S, D, rfl, hms⟩ := MS.start (w9 := w) HB.out HM.out HOK.out hs; have H0 := Lib.hid hms; clear hs hms)
      | fail)
    have HLT : Hid (LT L 0 0) := Lib.hid (by obtain ⟨a, b, c, _⟩ := first2 HRE.out; exact ⟨a, c, b⟩)
    clear HN HR HRE HLE HB HM
    go_loopw [7, 8, 9] (fun t k i wr => ∃ (j : Nat) (T W : Int) (L : List Int) (cc : Int), j ≤ tn ∧ t = .int .u64 T ∧ k = .int .u64 W ∧ i = .int .i64 (j : Int) ∧ LT L T W ∧ 0 ≤ W ∧ W ≤ j ∧ cc ≤ 6 * j ∧ MS w wr S D N c2 [] [] L cc) (fun _ _ i _ => tn - (intOf i).toNat)
    case atStart => exact ⟨0, 0, 0, L, 0, Nat.zero_le _, rfl, rfl, rfl, HLT.out, by omega, by omega, by omega, H0.out⟩
    case round =>
      clear H0 HLT L
      obtain ⟨j, T, W, L, cc, hj, rfl, rfl, rfl, hlt', hw0, hw1, hcc, hms⟩ := hrel
      have HLT := Lib.hid hlt'
      have H0 := Lib.hid hms
      have HCC := Lib.hid hcc
      clear hlt' hms hcc
      by_cases hlt : j < tn
      · have hjx : j < ts.length := by have := HLP.out; omega
        obtain ⟨b, off, rfl, hbl, hcl⟩ := HRP.out (by omega)
        obtain ⟨x, hx⟩ : ∃ x, x = ts.getD j 0 := ⟨_, rfl⟩
        have HZ : Hid (∀ wz, Below w.heap.size w wz → wz.cell? ⟨b, off + j, none⟩ = some (.int .u64 x)) := Lib.hid (fun wz hb => by rw [hx]; exact (hb.cell (p := ⟨b, off + j, none⟩) hbl).trans (hcl j hjx))
        have z0 := HZ.out _ H0.out.bel
        have hj0 : (0 : Int) ≤ (j : Int) := by omega
        have hj1 : (j : Int) < (tn : Int) := by omega
        have ew : IntKind.u64.wrap (W + 1) = W + 1 := by rw [IntKind.wrap_u64]; omega
        have HJ := Lib.hid hlt; have HW := Lib.hid (And.intro hw0 hw1)
        clear hcl hx hjx hlt
        go_wp2_with (first
          | (go_at_call 16; (with_reducible refine (MS.new H0.out 1 x (by decide)).mono ?_); rintro e w6 ⟨X, rfl, hms, _, _, _⟩; rw [p2_1] at hms; have H1 := Lib.hid hms; clear hms)
          | fail)
        clear z0
        go_loopw [11] (fun n wr => ∃ i : Nat, i ≤ 4 ∧ n = .int .i64 (i : Int) ∧ ∃ cc, cc ≤ 6 * (j : Int) + i ∧ MS w wr S D N c2 [X] [(cruns 1 i L (cNew 60 x)).2] (cruns 1 i L (cNew 60 x)).1 cc) (fun n _ => 4 - (intOf n).toNat)
        case atStart => exact ⟨0, by omega, rfl, cc, by have := HCC.out; omega, H1.out⟩
        case round =>
          clear H1 H0 HCC
          obtain ⟨i, hi, rfl, cc, hcc, hms⟩ := hrel
          have H1 := Lib.hid hms
          have HCC := Lib.hid hcc
          clear hms hcc
          by_cases h4 : i < 4
          · go_wp2_with (first
              | (go_at_call 22; (with_reducible refine (MS.step H1.out (j := 0) rfl rfl (by have := HCC.out; omega)).mono ?_); rintro r w7 ⟨rfl, hk, _⟩; rw [← cruns_succ] at hk; have H2 := Lib.hid hk; clear hk)
              | fail)
            go_roundw
            case rel => exact ⟨i + 1, by omega, by go_num, _, (by have := HCC.out; unfold ccost; split <;> omega), H2.out⟩
            case measure => simp [intOf]; omega
          · obtain rfl : i = 4 := by omega
            clear h4 hi
            have hcc := HCC.out
            by_cases hc : x ≤ T
            · have hms := H1.out
              rw [HLT.out.no hc] at hms
              dsimp only at hms
              have H2 := Lib.hid hms
              have HD := Lib.hid hms.drew
              have z0 := HZ.out _ hms.bel
              have d1 : decide (x > T) = false := by simpa using hc
              clear hms H1
              go_wp2_with (fail)
              go_region_held3 (fun w' => w'.cell? ⟨b, off + j, none⟩ = some (.int .u64 x))
                (first | exact HZ.out _ HD.out.bel | go_keep)
                (first
                  | (go_at_call 24; (with_reducible refine (MS.won HD.out (j := 0) rfl rfl).mono ?_); rintro r w12 ⟨rfl, hw⟩; cases hw)
                  | fail)
              all_goals
                have z1 := HZ.out _ HD.out.bel
                go_wp2_with (first
                  | (go_at_call 18; (with_reducible refine (Lay.mark_m HOK.out N 1 (by decide) _ HD.out.mp).mono ?_); rintro r w8 ⟨rfl, hb⟩; rw [p2_1]; have H3 := Lib.hid (HD.out.below hb); clear hb)
                  | (go_at_call 26; (with_reducible refine (MS.load H3.out 60 (by omega)).mono ?_); rintro r w9 ⟨rfl, hk⟩; rw [HLT.out.ld60]; have H4 := Lib.hid hk; clear hk)
                  | (go_at_call 27; (with_reducible refine (Lay.work_m HOK.out N _ H4.out.mp).mono ?_); rintro r w8 ⟨rfl, hb⟩; rw [p2_w]; have H5 := Lib.hid (H4.out.below hb); clear hb)
                  | (go_at_call 26; (with_reducible refine (MS.load H5.out 1 (by omega)).mono ?_); rintro r w9 ⟨rfl, hk⟩; rw [HLT.out.ld1]; have H6 := Lib.hid hk; clear hk)
                  | fail)
                go_roundw
                case rel => exact ⟨j + 1, T, W, L, _, by have := HJ.out; omega, rfl, rfl, by go_num, HLT.out, hw0, by omega, by omega, H6.out.drop⟩
                case measure => have := HJ.out; simp [intOf]; omega
            · have hms := H1.out
              obtain ⟨L2, e2, hl2⟩ := HLT.out.yes hc hw0 (by omega)
              rw [e2] at hms
              dsimp only at hms
              have H2 := Lib.hid hms
              have HD := Lib.hid hms.drew
              have HL2 := Lib.hid hl2
              have z0 := HZ.out _ hms.bel
              have d1 : decide (x > T) = true := by simpa using hc
              clear hms H1 e2 hl2
              go_wp2_with (fail)
              go_region_held3 (fun w' => w'.cell? ⟨b, off + j, none⟩ = some (.int .u64 x))
                (first | exact HZ.out _ HD.out.bel | go_keep)
                (first
                  | (go_at_call 24; (with_reducible refine (MS.won HD.out (j := 0) rfl rfl).mono ?_); rintro r w12 ⟨rfl, hw⟩; cases hw)
                  | fail)
              all_goals
                have z1 := HZ.out _ HD.out.bel
                go_wp2_with (first
                  | (go_at_call 18; (with_reducible refine (Lay.mark_m HOK.out N 1 (by decide) _ HD.out.mp).mono ?_); rintro r w8 ⟨rfl, hb⟩; rw [p2_1]; have H3 := Lib.hid (HD.out.below hb); clear hb)
                  | (go_at_call 26; (with_reducible refine (MS.load H3.out 60 (by omega)).mono ?_); rintro r w9 ⟨rfl, hk⟩; rw [HL2.out.ld60]; have H4 := Lib.hid hk; clear hk)
                  | (go_at_call 27; (with_reducible refine (Lay.work_m HOK.out N _ H4.out.mp).mono ?_); rintro r w8 ⟨rfl, hb⟩; rw [p2_w]; have H5 := Lib.hid (H4.out.below hb); clear hb)
                  | (go_at_call 26; (with_reducible refine (MS.load H5.out 1 (by omega)).mono ?_); rintro r w9 ⟨rfl, hk⟩; rw [HL2.out.ld1]; have H6 := Lib.hid hk; clear hk)
                  | fail)
                go_roundw
                case rel => exact ⟨j + 1, x, W + 1, L2, _, by have := HJ.out; omega, rfl, rfl, by go_num, HL2.out, by omega, by omega, by omega, H6.out.drop⟩
                case measure => have := HJ.out; simp [intOf]; omega
      · obtain rfl : j = tn := by omega
        clear hlt hj
        go_wp2_with (fail)
        go_ret
        exact ⟨rfl, H0.out.bel⟩
end Go.Proofs.Ytbjhciccpkbmoaa
