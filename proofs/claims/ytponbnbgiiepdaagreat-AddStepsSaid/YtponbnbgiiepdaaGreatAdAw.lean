/- The document's example of tasks that are put somewhere, walked. -/
import Derived.Test.YtponbnbgiiepdaaGreatJ26
import Derived.Test.YtponbnbgiiepdaaGreatJ16
namespace Go.Proofs.YtponbnbgiiepdaaGreat
open Go.RowKit
set_option linter.unusedVariables false
set_option linter.unusedSimpArgs false
set_option maxRecDepth 100000
open Lay (plcc plc shOf packN nodesN OkC Cfg Norm firstV Rep lenL things)

theorem mr_le {c : Cfg} (hc : OkC c) : c.mr ≤ 1000 := by
  obtain ⟨a0, a1, b0, b1, c0, c1, d0, d1, e0, e1, s0, k0, k1, u0, u1, q0, q1, h0, h1, f0, f1, r0, r1, w0, w1⟩ := hc
  omega
def ca : Cfg := ⟨2, 0, 0, 0, 0, 1, 1, 2, 1, 1, 1, 1⟩
theorem oka : OkC ca := by constructor <;> decide
theorem dqa : dqn ca = 2 := by decide
theorem newa (w : World) : Calls Tryz.prog 10 #[.agg #[.int .i64 2, .int .i64 0, .int .i64 0, .int .i64 0, .int .i64 0, .int .i64 1, .int .i64 1, .int .i64 2, .int .i64 1, .int .i64 1, .int .i64 1, .int .i64 1]] w fun r w' => ∃ N, r = .returned (.tuple #[Lay.mapP N, .int .i64 0]) ∧ Lay.IsMap w' N ca ∧ Below w.heap.size w w' := Lay.new_yes oka w
/-- The example's tasks. -/
def fa (j : Nat) : Int := (j : Int) + 5

set_option maxHeartbeats 8000000 in
theorem awake_true (w : World) : Calls Tryz.prog 8 #[] w fun e w' => e = .returned (.bool true) ∧ Below w.heap.size w w' := by
  have HOK := Lib.hid oka
  have HP1 := Lib.hid (show 0 < pkn ca from by have := pkn_is oka; have := (Lay.bds oka).p0; omega)
  go_enter Tryz.func8, Tryz.ntmps8
  go_wp2_with (first
    | (go_at_call 10; (with_reducible refine (newa _).mono ?_); rintro e w3 ⟨N, rfl, hm, hb⟩; have HM := Lib.hid hm; have HB := Lib.hid hb; clear hb hm)
    | (go_at_call 14; (with_reducible refine (first_any HOK.out N _ HM.out).mono ?_); rintro e w4 ⟨G, n, L, rfl, hn, hr, hrep, hb⟩; have HB := Lib.hid (below_step HB.out HB.out.size hb); have HM := Lib.hid (HM.out.below hb); have HN := Lib.hid hn; have HR := Lib.hid hr; have HRE := Lib.hid hrep; have HLE := Lib.hid (first_len HOK.out hrep); clear hb hn hr hrep)
    | (go_at_call 13; (with_reducible refine (new_any _ _ _ L _ HN.out HR.out (by have := HN.out; have := HLE.out; omega)).mono ?_); rintro e w5 hs; obtain ⟨S, D, rfl, hpo, hb⟩ := PO.start (B := w.heap.size) (w0 := w) HB.out (Nat.le_refl _) HM.out HOK.out (first_ww HOK.out HRE.out) hs; have HZ0 := Lib.hid (AZ.first (mk := 0) hpo HRE.out HLE.out (by decide) (by decide)); clear hs hpo hb)
    | (go_at_call 16; (with_reducible refine (HZ0.out.new 5 (by decide) (by decide) (by decide)).mono ?_); rintro e w6 ⟨X1, rfl, hx, hz, hb⟩; have HX1 := Lib.hid hx; have HY1 := Lib.hid hz; have HL1 := Lib.hid (HZ0.out.lo hb.size); clear hx hz hb)
    | (go_at_call 15; (with_reducible refine (AZ.whole (f := fa) (j := 0) HY1.out HX1.out HL1.out (by decide) (by decide) (by have := HP1.out; omega) (by decide)).mono ?_); rintro e w7 ⟨rfl, L1, m1, hz, _, _, _⟩; have HZ1 := Lib.hid hz; clear hz)
    | (go_at_call 16; (with_reducible refine (HZ1.out.new 6 (by decide) (by decide) (by decide)).mono ?_); rintro e w8 ⟨X2, rfl, hx, hz, hb⟩; have HX2 := Lib.hid hx; have HY2 := Lib.hid hz; have HL2 := Lib.hid (HZ1.out.lo hb.size); clear hx hz hb)
    | (go_at_call 15; (with_reducible refine (AZ.whole (f := fa) (j := 1) HY2.out HX2.out HL2.out (by decide) (by decide) (by have := HP1.out; have := dqa; omega) (by decide)).mono ?_); rintro e w9 ⟨rfl, L2, m2, hz, _, _, _⟩; have HZ2 := Lib.hid hz; clear hz)
    | (go_at_call 16; (with_reducible refine (HZ2.out.new 7 (by decide) (by decide) (by decide)).mono ?_); rintro e w10 ⟨X3, rfl, hx, hz, hb⟩; have HX3 := Lib.hid hx; have HY3 := Lib.hid hz; have HL3 := Lib.hid (HZ2.out.lo hb.size); clear hx hz hb)
    | (go_at_call 15; (with_reducible refine (AZ.whole (f := fa) (j := 2) HY3.out HX3.out HL3.out (by decide) (by decide) (by have := HP1.out; have := dqa; omega) (by decide)).mono ?_); rintro e w11 ⟨rfl, L3, m3, hz, hx, hsp, _⟩; have HZ3 := Lib.hid hz; have HX4 := Lib.hid hx; have HSP := Lib.hid (show m3.sp = true by rw [hsp, dqa]; decide); clear hz hx hsp)
    | (go_at_call 17; (with_reducible refine (all_po HZ3.out.po (by have := HZ3.out.len; omega)).mono ?_); rintro r w12 ⟨rfl, hr, hpo, hb⟩; have HP8 := Lib.hid hpo; have HR8 := Lib.hid hr; have HX5 := Lib.hid (HX4.out.below hb); clear hr hpo hb)
    | (go_at_call 30; (with_reducible refine (held_pk2 HOK.out N _ _ _ _ _ HP8.out.mp (Eq.refl _) HR8.out HP8.out.ww (by have := HZ3.out.len; omega)).mono ?_); rintro r w13 ⟨A, kh, cap, rfl, hk, hrow, hb⟩; rw [HZ3.out.held, show lf fa (dqn ca) (2 + 1) = [7] by rw [dqa]; rfl] at hk hrow; have hk2 : kh = 1 := hk; subst hk2; obtain ⟨b2, o2, rfl, hb1, hb2, hcl⟩ := hrow (by decide); have HP9 := Lib.hid (HP8.out.step hb); have HX6 := Lib.hid (HX5.out.below hb); have HCL : Hid (∀ w', Below w13.heap.size w13 w' → w'.cell? ⟨b2, o2, none⟩ = some (.int .u64 7)) := Lib.hid (fun w' h => (h.cell (p := ⟨b2, o2, none⟩) hb2).trans (hcl 0 (by decide))); clear hrow hb hcl hk hb1 hb2)
    | (go_at_call 22; (with_reducible refine (spilled_ao HX6.out).mono ?_); rintro r w14 ⟨rfl, hb⟩; rw [HSP.out]; have HP10 := Lib.hid (HP9.out.step hb); have hc1 := HCL.out _ hb; clear hb)
    | fail)
  go_ret
  exact ⟨rfl, HP10.out.bel⟩
end Go.Proofs.YtponbnbgiiepdaaGreat
