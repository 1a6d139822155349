/- The law of packets that aren't: walked. -/
import Derived.Test.YtbpfkhpnfkbacaaJ22
import Derived.Test.YtbpfkhpnfkbacaaJ23
namespace Go.Proofs.Ytbpfkhpnfkbacaa
open Go.RowKit
set_option linter.unusedVariables false
open Lay (plcc plc shOf packN nodesN OkC Cfg Norm firstV Rep lenL things)

set_option maxHeartbeats 8000000 in
set_option maxRecDepth 100000 in
theorem walkNone (c : Cfg) (p : Int) (A : Option Addr) (len cap : Nat) (zs : List Int) (w : World) (hp : (Lit.int .i64 p).wf = true) (hz : IsRow .u64 w A len cap zs) :
    Calls Try.prog 5 #[Lay.cfgV c, .int .i64 p, .slice A len cap] w fun e w' => e = .returned (.bool true) ∧ Below w.heap.size w w' := by
  obtain ⟨p0, p1⟩ : -9223372036854775808 ≤ p ∧ p ≤ 9223372036854775807 := by
    simp [Lit.wf, IntKind.min, IntKind.max, IntKind.bits, IntKind.signed] at hp
    omega
  obtain ⟨hrd, hrl, hr1, hr2, _⟩ := reads_row hz
  have hlm : len ≤ maxLen := by omega
  have HRD := Lib.hid hrd; have HRL := Lib.hid hrl; have HLC := Lib.hid hr1
  clear hz hp hrd hrl hr1 hr2
  have hk := cfg_start c w 24
  have HK := Lib.hid hk
  have HB := Lib.hid (below_alloc0 (Below.refl w.heap.size w) (Lay.cfgO c 24))
  clear hk
  by_cases hbig : 60 < len
  · have d0 : decide ((len : Int) > 60) = true := by simp; omega
    go_enter Try.func5, Try.ntmps5
    go_wp2_with (first
      | (go_at_call 7; (with_reducible refine (awake_true _).mono ?_); rintro e w1 ⟨rfl, hb1⟩; have HK := Lib.hid (cfg_below HK.out hb1); have HB := Lib.hid (below_step HB.out HB.out.size hb1); clear hb1; obtain ⟨q0, q1, q2, q3, q4, q5, q6, q7, q8, q9, q10, q11⟩ := HK.out)
      | (go_at_call 8; (with_reducible refine (small_any c _).mono ?_); rintro e w2 ⟨b, rfl, hs, hb2⟩; have HB := Lib.hid (below_step HB.out HB.out.size hb2); clear hb2; cases b)
      | fail)
    all_goals go_ret
    all_goals exact ⟨rfl, HB.out⟩
  · have d0 : decide ((len : Int) > 60) = false := by simp; omega
    have hlen : len ≤ 60 := by omega
    go_enter Try.func5, Try.ntmps5
    go_wp2_with (first
      | (go_at_call 7; (with_reducible refine (awake_true _).mono ?_); rintro e w1 ⟨rfl, hb1⟩; have HK := Lib.hid (cfg_below HK.out hb1); have HB := Lib.hid (below_step HB.out HB.out.size hb1); clear hb1; obtain ⟨q0, q1, q2, q3, q4, q5, q6, q7, q8, q9, q10, q11⟩ := HK.out)
      | (go_at_call 8; (with_reducible refine (small_any c _).mono ?_); rintro e w2 ⟨b, rfl, hs, hb2⟩; have HK := Lib.hid (cfg_below HK.out hb2); have HB := Lib.hid (below_step HB.out HB.out.size hb2); clear hb2; clear q0 q1 q2 q3 q4 q5 q6 q7 q8 q9 q10 q11; obtain ⟨q0, q1, q2, q3, q4, q5, q6, q7, q8, q9, q10, q11⟩ := HK.out; have HSS := Lib.hid hs; clear hs; cases b)
      | (go_at_call 9; (with_reducible refine (Lay.new_yes (HSS.out trivial).1 _).mono ?_); rintro e w3 ⟨N, rfl, hm, hb⟩; have HOK := Lib.hid (HSS.out trivial).1; have HM := Lib.hid hm; have HB := Lib.hid (below_step HB.out HB.out.size hb); clear hb hm q0 q1 q2 q3 q4 q5 q6 q7 q8 q9 q10 q11; have HPB := Lib.hid (Lay.bds HOK.out); have hp0 := (Lay.bds HOK.out).p0; have hp1 := (Lay.bds HOK.out).p1)
      | (go_at_call 11; (with_reducible refine (first_any HOK.out N _ HM.out).mono ?_); rintro e w4 ⟨G, n, L, rfl, hn, hr, hrep, hb⟩; have HB := Lib.hid (below_step HB.out HB.out.size hb); have HM := Lib.hid (HM.out.below hb); have HN := Lib.hid hn; have HR := Lib.hid hr; have HLE := Lib.hid (first_len HOK.out hrep); clear hb hn hr hrep)
      | (go_at_call 10; (with_reducible refine (new_any _ _ _ L _ HN.out HR.out (by have := HN.out; have := HLE.out; omega)).mono ?_); rintro e w5 ⟨S, D, rfl, hS, hD, hs, hb⟩; have HB := Lib.hid (below_step HB.out HB.out.size hb); have HM := Lib.hid (HM.out.below hb); have HST := Lib.hid hs; clear hb hs hS hD)
      | (go_at_call 13; (with_reducible refine (put_none HOK.out N _ none 0 HM.out).mono ?_); rintro e w6 ⟨X1, rfl, h1, -, hb⟩; have HB := Lib.hid (below_step HB.out HB.out.size hb); have HM := Lib.hid (HM.out.below hb); have HST := Lib.hid (HST.out.below hb); have H1 := Lib.hid h1; clear hb h1)
      | (go_at_call 13; (with_reducible refine (put_nilmap A len cap (zs.take len) _ HRL.out.symm (HRD.out.below HB.out (Nat.le_refl _)) (by omega) HLC.out).mono ?_); rintro e w7 ⟨X2, rfl, h1, -, hb⟩; have HB := Lib.hid (below_step HB.out HB.out.size hb); have HM := Lib.hid (HM.out.below hb); have HST := Lib.hid (HST.out.below hb); have H1 := Lib.hid (H1.out.keep hb); have H2 := Lib.hid h1; clear hb h1)
      | (go_at_call 23; (with_reducible refine (take_nilmap _).mono ?_); rintro e w8 ⟨X3, rfl, h1, -, hb⟩; have HB := Lib.hid (below_step HB.out HB.out.size hb); have HM := Lib.hid (HM.out.below hb); have HST := Lib.hid (HST.out.below hb); have H1 := Lib.hid (H1.out.keep hb); have H2 := Lib.hid (H2.out.keep hb); have H3 := Lib.hid h1; clear hb h1)
      | (go_at_call 22; (with_reducible refine (back_nilmap 1 _ (by decide)).mono ?_); rintro e w9 ⟨X4, rfl, h1, -, hb⟩; have HB := Lib.hid (below_step HB.out HB.out.size hb); have HM := Lib.hid (HM.out.below hb); have HST := Lib.hid (HST.out.below hb); have H1 := Lib.hid (H1.out.keep hb); have H2 := Lib.hid (H2.out.keep hb); have H3 := Lib.hid (H3.out.keep hb); have H4 := Lib.hid h1; clear hb h1)
      | (go_at_call 22; (with_reducible refine (back_none HOK.out N (Lay.imin p 0) _ HM.out (Lay.wf_i64 (by unfold Lay.imin; split <;> omega) (by unfold Lay.imin; split <;> omega)) (.inl (by unfold Lay.imin; split <;> omega))).mono ?_); rintro e w10 ⟨X5, rfl, h1, -, hb⟩; have HB := Lib.hid (below_step HB.out HB.out.size hb); have HM := Lib.hid (HM.out.below hb); have HST := Lib.hid (HST.out.below hb); have H1 := Lib.hid (H1.out.keep hb); have H2 := Lib.hid (H2.out.keep hb); have H3 := Lib.hid (H3.out.keep hb); have H4 := Lib.hid (H4.out.keep hb); have H5 := Lib.hid h1; clear hb h1)
      | (go_at_call 21; (with_reducible refine (Lay.packets_m N _ HM.out).mono ?_); rintro e w11 ⟨rfl, hb⟩; have HB := Lib.hid (below_step HB.out HB.out.size hb); have HM := Lib.hid (HM.out.below hb); have HST := Lib.hid (HST.out.below hb); have H1 := Lib.hid (H1.out.keep hb); have H2 := Lib.hid (H2.out.keep hb); have H3 := Lib.hid (H3.out.keep hb); have H4 := Lib.hid (H4.out.keep hb); have H5 := Lib.hid (H5.out.keep hb); clear hb)
      | (go_at_call 22; (with_reducible refine (back_none HOK.out N (Lay.imax p (packN c + 1)) _ HM.out (Lay.wf_i64 (by unfold Lay.imax; split <;> omega) (by unfold Lay.imax; split <;> omega)) (.inr (by unfold Lay.imax; split <;> omega))).mono ?_); rintro e w12 ⟨X6, rfl, h1, -, hb⟩; have HB := Lib.hid (below_step HB.out HB.out.size hb); have HM := Lib.hid (HM.out.below hb); have HST := Lib.hid (HST.out.below hb); have H1 := Lib.hid (H1.out.keep hb); have H2 := Lib.hid (H2.out.keep hb); have H3 := Lib.hid (H3.out.keep hb); have H4 := Lib.hid (H4.out.keep hb); have H5 := Lib.hid (H5.out.keep hb); have H6 := Lib.hid h1; clear hb h1)
      | (go_at_call 27; (with_reducible refine (H1.out.step _).mono ?_); rintro e w13 ⟨rfl, hw⟩; cases hw)
      | (go_at_call 27; (with_reducible refine (H2.out.step _).mono ?_); rintro e w13 ⟨rfl, hw⟩; cases hw)
      | (go_at_call 27; (with_reducible refine (H3.out.step _).mono ?_); rintro e w13 ⟨rfl, hw⟩; cases hw)
      | (go_at_call 27; (with_reducible refine (H4.out.step _).mono ?_); rintro e w13 ⟨rfl, hw⟩; cases hw)
      | (go_at_call 27; (with_reducible refine (H5.out.step _).mono ?_); rintro e w13 ⟨rfl, hw⟩; cases hw)
      | (go_at_call 27; (with_reducible refine (H6.out.step _).mono ?_); rintro e w13 ⟨rfl, hw⟩; cases hw)
      | (go_at_call 27; (with_reducible refine (step_nilpk _ _).mono ?_); rintro e w13 ⟨rfl, hw⟩; cases hw)
      | (go_at_call 28; (with_reducible refine (packet_nilpk _).mono ?_); rintro e w13 ⟨rfl, hw⟩; cases hw)
      | (go_at_call 29; (with_reducible refine (cnt_any _ HST.out).mono ?_); rintro e w13 ⟨rfl, hw⟩; cases hw)
      | (go_at_call 28; (with_reducible refine (H1.out.packet).mono ?_); rintro e w13 ⟨rfl, hw⟩; cases hw)
      | (go_at_call 28; (with_reducible refine (H2.out.packet).mono ?_); rintro e w13 ⟨rfl, hw⟩; cases hw)
      | (go_at_call 28; (with_reducible refine (H3.out.packet).mono ?_); rintro e w13 ⟨rfl, hw⟩; cases hw)
      | (go_at_call 28; (with_reducible refine (H4.out.packet).mono ?_); rintro e w13 ⟨rfl, hw⟩; cases hw)
      | (go_at_call 28; (with_reducible refine (H5.out.packet).mono ?_); rintro e w13 ⟨rfl, hw⟩; cases hw)
      | (go_at_call 28; (with_reducible refine (H6.out.packet).mono ?_); rintro e w13 ⟨rfl, hw⟩; cases hw)
      | fail)
    all_goals go_ret
    all_goals exact ⟨rfl, HB.out⟩
end Go.Proofs.Ytbpfkhpnfkbacaa
