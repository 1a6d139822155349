/- The document's example of machines that try to mark, walked. -/
import Derived.Test.YtbjhciccpkbmoaaClMs
namespace Go.Proofs.Ytbjhciccpkbmoaa
open Go.RowKit
set_option linter.unusedVariables false
set_option linter.unusedSimpArgs false
set_option maxRecDepth 100000
open Lay (plcc plc shOf packN nodesN OkC Cfg Norm firstV Rep lenL things)

/-- A step, told. -/
theorem MS.step_as {w0 wr : World} {S D N : Nat} {c : Cfg} {xs : List Nat} {ms : List Cm} {L L' : List Int} {cc : Int} {x j : Nat} {m m' : Cm} {b : Bool} (h : MS w0 wr S D N c xs ms L cc) (hj : ms[j]? = some m) (hx : xs[j]? = some x) (hc : cc ≤ 900000000) (e : cstp 1 L m = (L', m')) (eb : decide (m'.pc = 0) = b) :
    Calls Try.prog 22 #[ptr x, ptr S] wr fun e w' => e = .returned (.bool b) ∧ MS w0 w' S D N c xs (ms.set j m') L' (ccost m cc) := by
  have k := h.step hj hx hc
  rw [e] at k
  rw [← eb]
  exact k.mono fun _ _ h => ⟨h.1, h.2.1⟩
/-- What the example knows. -/
structure Exm (L : List Int) : Prop where
  e1 : cstp 1 L (cNew 60 1) = (L, ⟨2, 60, 1, 0, false⟩)
  e2 : cstp 1 L ⟨2, 60, 1, 0, false⟩ = (adc L 1 1, ⟨3, 60, 1, 0, false⟩)
  e3 : cstp 1 (adc L 1 1) ⟨3, 60, 1, 0, false⟩ = (ptc (adc L 1 1) 60 1, ⟨0, 60, 1, 0, true⟩)
  e4 : cstp 1 (ptc (adc L 1 1) 60 1) (cNew 60 1) = (ptc (adc L 1 1) 60 1, ⟨0, 60, 1, 1, false⟩)
  w : ldc (ptc (adc L 1 1) 60 1) 1 = 1
theorem exm {L : List Int} (h : Rep (shOf c2) L (firstV c2)) : Exm L := by
  obtain ⟨hl, hw, hm, _⟩ := first2 h
  have la : (adc L 1 1).length = 68 := by unfold adc; rw [pc_len]; exact hl
  have l60 : ldc L 60 = 0 := (lc_in (by omega)).trans hm
  have l1 : ldc L 1 = 0 := (lc_in (by omega)).trans hw
  have a60 : (adc L 1 1).getD (60 : Int).toNat 0 = 0 := (pc_other (by decide) (by decide)).trans hm
  have a1 : (adc L 1 1).getD (1 : Int).toNat 0 = 1 := by unfold adc; rw [l1]; exact pc_same (by omega)
  have p60 : ldc (ptc (adc L 1 1) 60 1) 60 = 1 := (lc_in (by rw [pc_len]; omega)).trans (pc_same (by omega))
  refine ⟨by simp [cstp, cNew, l60], by simp [cstp], ?_, by simp [cstp, cNew, p60], ?_⟩
  · simp only [cstp]; rw [if_neg (by decide), if_neg (by decide), if_pos trivial, if_pos ⟨by simp only [la]; omega, a60⟩]
  · exact (lc_in (by rw [pc_len]; omega)).trans ((pc_other (by decide) (by decide)).trans a1)

set_option maxHeartbeats 4000000 in
theorem awake_true (w : World) : Calls Try.prog 8 #[] w fun e w' => e = .returned (.bool true) ∧ Below w.heap.size w w' := by
  have HOK := Lib.hid okc2
  go_enter Try.func8, Try.ntmps8
  go_wp2_with (first
    | (go_at_call 10; (with_reducible refine (new2 _).mono ?_); rintro e w3 ⟨N, rfl, hm, hb⟩; have HM := Lib.hid hm; have HB := Lib.hid hb; clear hb hm)
    | (go_at_call 14; (with_reducible refine (first_any HOK.out N _ HM.out).mono ?_); rintro e w4 ⟨G, n, L, rfl, hn, hr, hrep, hb⟩; have HB := Lib.hid (below_step HB.out HB.out.size hb); have HM := Lib.hid (HM.out.below hb); have HN := Lib.hid hn; have HR := Lib.hid hr; have HRE := Lib.hid hrep; have HLE := Lib.hid (first_len HOK.out hrep); clear hb hn hr hrep)
    | (go_at_call 13; (with_reducible refine (new_any _ _ _ L _ HN.out HR.out (by have := HN.out; have := HLE.out; omega)).mono ?_); rintro e w5 hs; obtain ⟨S, D, rfl, hms⟩ := MS.start (w9 := w) HB.out HM.out HOK.out hs; have H0 := Lib.hid hms; clear hs hms)
    | (go_at_call 16; (with_reducible refine (MS.new H0.out 1 1 (by decide)).mono ?_); rintro e w6 ⟨X, rfl, hms, _, _, _⟩; rw [p2_1] at hms; have H1 := Lib.hid hms; clear hms)
    | fail)
  have HX := Lib.hid (exm HRE.out)
  go_loopw [5] (fun n wr => ∃ (i : Nat) (L' : List Int) (m' : Cm), n = .int .i64 ((i : Int) + 1) ∧ ((i = 0 ∧ L' = L ∧ m' = cNew 60 1) ∨ (i = 1 ∧ L' = L ∧ m' = ⟨2, 60, 1, 0, false⟩) ∨ (i = 2 ∧ L' = adc L 1 1 ∧ m' = ⟨3, 60, 1, 0, false⟩)) ∧ MS w wr S D N c2 [X] [m'] L' i) (fun n _ => 20 - (intOf n).toNat)
  case atStart => exact ⟨0, L, cNew 60 1, rfl, .inl ⟨rfl, rfl, rfl⟩, H1.out⟩
  case round =>
    clear H1 H0
    obtain ⟨i, L', m', rfl, hc, hms⟩ := hrel
    have H := Lib.hid hms
    clear hms
    rcases hc with ⟨rfl, rfl, rfl⟩ | ⟨rfl, rfl, rfl⟩ | ⟨rfl, rfl, rfl⟩
    · go_wp2_with (first
        | (go_at_call 22; (with_reducible refine (MS.step_as (b := false) H.out (j := 0) rfl rfl (by decide) HX.out.e1 rfl).mono ?_); rintro r w7 ⟨rfl, hk⟩; have H1 := Lib.hid hk; clear hk)
        | fail)
      go_roundw
      case rel => exact ⟨1, _, _, rfl, .inr (.inl ⟨rfl, rfl, rfl⟩), H1.out⟩
      case measure => decide
    · go_wp2_with (first
        | (go_at_call 22; (with_reducible refine (MS.step_as (b := false) H.out (j := 0) rfl rfl (by decide) HX.out.e2 rfl).mono ?_); rintro r w7 ⟨rfl, hk⟩; have H1 := Lib.hid hk; clear hk)
        | fail)
      go_roundw
      case rel => exact ⟨2, _, _, rfl, .inr (.inr ⟨rfl, rfl, rfl⟩), H1.out⟩
      case measure => decide
    · go_wp2_with (first
        | (go_at_call 22; (with_reducible refine (MS.step_as (b := true) H.out (j := 0) rfl rfl (by decide) HX.out.e3 rfl).mono ?_); rintro r w7 ⟨rfl, hk⟩; have H1 := Lib.hid hk; clear hk)
        | (go_at_call 27; (with_reducible refine (Lay.work_m HOK.out N _ H1.out.mp).mono ?_); rintro r w8 ⟨rfl, hb⟩; rw [p2_w]; have H2 := Lib.hid (H1.out.below hb); clear hb)
        | (go_at_call 26; (with_reducible refine (MS.load H2.out 1 (by decide)).mono ?_); rintro r w9 ⟨rfl, hk⟩; rw [HX.out.w]; have H3 := Lib.hid hk; clear hk)
        | (go_at_call 16; (with_reducible refine (MS.new H3.out 1 1 (by decide)).mono ?_); rintro e w10 ⟨Y, rfl, hms, _, _, _⟩; rw [p2_1] at hms; have H4 := Lib.hid hms; clear hms)
        | (go_at_call 22; (with_reducible refine (MS.step_as (b := true) H4.out (j := 1) rfl rfl (by decide) HX.out.e4 rfl).mono ?_); rintro r w11 ⟨rfl, hk⟩; have H5 := Lib.hid hk; clear hk)
        | (go_at_call 24; (with_reducible refine (MS.won H5.out (j := 0) rfl rfl).mono ?_); rintro r w12 ⟨rfl, hw⟩; cases hw)
        | (go_at_call 24; (with_reducible refine (MS.won H5.out (j := 1) rfl rfl).mono ?_); rintro r w12 ⟨rfl, hw⟩; cases hw)
        | fail)
      go_ret
      exact ⟨rfl, H5.out.bel⟩
end Go.Proofs.Ytbjhciccpkbmoaa
