/- The law of a task of a marker that there isn't: walked. -/
import Derived.Test.YtponbnbgiiepdaaGreatAdAw
namespace Go.Proofs.YtponbnbgiiepdaaGreat
open Go.RowKit
set_option linter.unusedVariables false
set_option linter.unusedSimpArgs false
set_option maxRecDepth 100000
open Lay (plcc plc shOf packN nodesN OkC Cfg Norm firstV Rep lenL things)

/-- A machine that does nothing, whatever it is over. -/
def Idle (w : World) (X N : Nat) (t : Int) : Prop := Ab w X N t .nilFunc (.pointer none) (.pointer none)
theorem Idle.below {w w' : World} {X N : Nat} {t : Int} (h : Idle w X N t) (hb : Below w.heap.size w w') : Idle w' X N t := Ab.step h hb
theorem Idle.step {w : World} {X N : Nat} {t : Int} (h : Idle w X N t) (v : Value) : Calls Tryz.prog 20 #[ptr X, v] w fun e w' => e = .returned (.bool true) ∧ w = w' := astep_off w X v (Ab.c2 h)
theorem Idle.spilled {w : World} {X N : Nat} {t : Int} (h : Idle w X N t) : Calls Tryz.prog 22 #[ptr X] w fun a w' => a = .returned (.bool false) ∧ Below w.heap.size w w' := spilled_no h
theorem new_idle {c : Cfg} (hc : OkC c) (N : Nat) (i t : Int) (hi : (Lit.int .i64 i).wf = true) (w : World) (hm : Lay.IsMap w N c) (h : i < 0 ∨ c.mr ≤ i) :
    Calls Tryz.prog 16 #[Lay.mapP N, .int .i64 i, .int .u64 t] w fun e w' => ∃ X, e = .returned (ptr X) ∧ Idle w' X N t ∧ Below w.heap.size w w' :=
  (new_no hc N i t hi w hm (top_neg hc h)).mono fun _ _ ⟨X, e, _, a, b⟩ => ⟨X, e, a, b⟩

set_option maxHeartbeats 8000000 in
theorem walkNone (c : Cfg) (i t : Int) (w : World) (hi : (Lit.int .i64 i).wf = true) (ht : (Lit.int .u64 t).wf = true) :
    Calls Tryz.prog 5 #[Lay.cfgV c, .int .i64 i, .int .u64 t] w fun e w' => e = .returned (.bool true) ∧ Below w.heap.size w w' := by
  obtain ⟨i0, i1⟩ : -9223372036854775808 ≤ i ∧ i ≤ 9223372036854775807 := by
    simp [Lit.wf, IntKind.min, IntKind.max, IntKind.bits, IntKind.signed] at hi
    omega
  clear hi ht
  have HB := Lib.hid (Bw.start w c)
  obtain ⟨q0, q1, q2, q3, q4, q5, q6, q7, q8, q9, q10, q11⟩ := (Bw.start w c).cfg
  go_enter Tryz.func5, Tryz.ntmps5
  go_wp2_with (first
    | (go_at_call 8; (with_reducible refine (awake_true _).mono ?_); rintro e w1 ⟨rfl, hb⟩; have HB := Lib.hid (HB.out.step hb); clear hb q0 q1 q2 q3 q4 q5 q6 q7 q8 q9 q10 q11; obtain ⟨q0, q1, q2, q3, q4, q5, q6, q7, q8, q9, q10, q11⟩ := HB.out.cfg)
    | (go_at_call 9; (with_reducible refine (small_any c _).mono ?_); rintro e w2 ⟨b, rfl, hs, hb⟩; have HB := Lib.hid (HB.out.step hb); clear hb q0 q1 q2 q3 q4 q5 q6 q7 q8 q9 q10 q11; obtain ⟨q0, q1, q2, q3, q4, q5, q6, q7, q8, q9, q10, q11⟩ := HB.out.cfg; have HSS := Lib.hid hs; clear hs; cases b)
    | (go_at_call 10; (with_reducible refine (Lay.new_yes (HSS.out trivial).1 _).mono ?_); rintro e w3 ⟨N, rfl, hm, hb⟩; have HOK := Lib.hid (HSS.out trivial).1; have HM := Lib.hid hm; have HB := Lib.hid (HB.out.step hb); clear hb hm q0 q1 q2 q3 q4 q5 q6 q7 q8 q9 q10 q11; have HMR := Lib.hid (dq_rng HOK.out))
    | (go_at_call 14; (with_reducible refine (first_any HOK.out N _ HM.out).mono ?_); rintro e w4 ⟨G, n, L, rfl, hn, hr, hrep, hb⟩; have HB := Lib.hid (HB.out.step hb); have HM := Lib.hid (HM.out.below hb); have HN := Lib.hid hn; have HR := Lib.hid hr; have HLE := Lib.hid (first_len HOK.out hrep); clear hb hn hr hrep)
    | (go_at_call 13; (with_reducible refine (new_any _ _ _ L _ HN.out HR.out (by have := HN.out; have := HLE.out; omega)).mono ?_); rintro e w5 ⟨S, D, rfl, hS, hD, hs, hb⟩; have HB := Lib.hid (HB.out.step hb); have HM := Lib.hid (HM.out.below hb); have HST := Lib.hid hs; clear hb hs hS hD)
    | (go_at_call 16; (with_reducible refine (new_idle HOK.out N (Lay.imin i (-1)) t (Lay.wf_i64 (by unfold Lay.imin; split <;> omega) (by unfold Lay.imin; split <;> omega)) _ HM.out (.inl (by unfold Lay.imin; split <;> omega))).mono ?_); rintro e w6 ⟨X1, rfl, h1, hb⟩; have HB := Lib.hid (HB.out.step hb); have HM := Lib.hid (HM.out.below hb); have HST := Lib.hid (HST.out.below hb); have H1 := Lib.hid h1; clear hb h1; obtain ⟨q0, q1, q2, q3, q4, q5, q6, q7, q8, q9, q10, q11⟩ := HB.out.cfg)
    | (go_at_call 16; (with_reducible refine (new_idle HOK.out N (Lay.imax i c.mr) t (Lay.wf_i64 (by have := HMR.out; unfold Lay.imax; split <;> omega) (by have := mr_le HOK.out; unfold Lay.imax; split <;> omega)) _ HM.out (.inr (by unfold Lay.imax; split <;> omega))).mono ?_); rintro e w7 ⟨X2, rfl, h2, hb⟩; have HB := Lib.hid (HB.out.step hb); have HM := Lib.hid (HM.out.below hb); have HST := Lib.hid (HST.out.below hb); have H1 := Lib.hid (H1.out.below hb); have H2 := Lib.hid h2; clear hb h2 q0 q1 q2 q3 q4 q5 q6 q7 q8 q9 q10 q11)
    | (go_at_call 20; (with_reducible refine (H1.out.step _).mono ?_); rintro e w13 ⟨rfl, hw⟩; cases hw)
    | (go_at_call 20; (with_reducible refine (H2.out.step _).mono ?_); rintro e w13 ⟨rfl, hw⟩; cases hw)
    | (go_at_call 19; (with_reducible refine (cnt_any _ HST.out).mono ?_); rintro e w13 ⟨rfl, hw⟩; cases hw)
    | (go_at_call 22; (with_reducible refine (H1.out.spilled).mono ?_); rintro e w13 ⟨rfl, hb⟩; have HB := Lib.hid (HB.out.step hb); have H2 := Lib.hid (H2.out.below hb); clear hb)
    | (go_at_call 22; (with_reducible refine (H2.out.spilled).mono ?_); rintro e w14 ⟨rfl, hb⟩; have HB := Lib.hid (HB.out.step hb); clear hb)
    | fail)
  all_goals go_ret
  all_goals exact ⟨rfl, HB.out.fin⟩
end Go.Proofs.YtponbnbgiiepdaaGreat
