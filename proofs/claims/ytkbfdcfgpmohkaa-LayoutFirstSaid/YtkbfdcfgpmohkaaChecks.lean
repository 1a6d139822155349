/- The call of the law of checks. -/
import Derived.Test.YtkbfdcfgpmohkaaAwake
namespace Go.Proofs.Ytkbfdcfgpmohkaa
open Go.RowKit
set_option linter.unusedVariables false

@[go_sem] theorem eq22_same (a b c d e : Int) (w : World) : (Op.equalIn 9999 22 (.agg #[.int .i64 a, .int .i64 b, .int .i64 c, .int .i64 d, .int .i64 e]) (.agg #[.int .i64 a, .int .i64 b, .int .i64 c, .int .i64 d, .int .i64 e])).run Try.prog w = .ok true w := by
  have u3 := Try.underlying3
  have a3 := Try.isAgg3
  have z3 := Try.sizeOf3
  rw [show (9999 : Nat) = 9998 + 1 from rfl, Op.equalIn]
  simp only [Sem.run_bind, run_underlying Try.underlying22, Result.andThen_ok]
  simp only [Std.Legacy.Range.forIn_eq_forIn_range', Std.Legacy.Range.size, Nat.sub_zero, Nat.add_sub_cancel, Nat.div_one, List.range'_succ, List.range'_zero, List.forIn_cons, List.forIn_nil]
  go_simp
@[go_sem] theorem eq24_same (c : Cfg) (w : World) : (Op.equalIn 10000 24 (cfgV c) (cfgV c)).run Try.prog w = .ok true w := by
  have u3 := Try.underlying3
  have a3 := Try.isAgg3
  have z3 := Try.sizeOf3
  have u22 := Try.underlying22
  have a22 := Try.isAgg22
  have z22 := Try.sizeOf22
  rw [show (10000 : Nat) = 9999 + 1 from rfl, run_equalIn_struct _ _ _ _ _ (by kernel_rfl) (by kernel_rfl)]
  go_simp

@[go_sem] theorem eq24_zero (w : World) : (Op.equalIn 10000 24 zeroV zeroV).run Try.prog w = .ok true w := eq24_same zeroC w

/-- A map and a configuration in memory. -/
structure KQ (w : World) (B N : Nat) (c : Cfg) (w' : World) : Prop where
  m : IsMap w' N c
  k : KC w B c w'
theorem KQ.step {w : World} {B N : Nat} {c : Cfg} {w' w2 : World} (h : KQ w B N c w') (hb : Below w'.heap.size w' w2) : KQ w B N c w2 := ⟨h.m.below hb, h.k.step hb⟩
theorem KQ.drew {w : World} {B N : Nat} {c : Cfg} {w' : World} (h : KQ w B N c w') : KQ w B N c w'.drew := h.step ((Below.refl _ _).drew)
theorem KQ.more {X : Prop} {w : World} {B N : Nat} {c : Cfg} {w' w2 : World} (h : X ∧ KQ w B N c w') (hb : Below w'.heap.size w' w2) : KQ w B N c w2 := h.2.step hb
abbrev CfgCells (B : Nat) (c : Cfg) (w' : World) : Prop := w'.cell? ⟨B, 0, none⟩ = some (.int .i64 c.a) ∧ w'.cell? ⟨B, 1, none⟩ = some (.int .i64 c.b) ∧ w'.cell? ⟨B, 2, none⟩ = some (.int .i64 c.c) ∧ w'.cell? ⟨B, 3, none⟩ = some (.int .i64 c.d) ∧ w'.cell? ⟨B, 4, none⟩ = some (.int .i64 c.e) ∧ w'.cell? ⟨B, 5, none⟩ = some (.int .i64 c.mr) ∧ w'.cell? ⟨B, 6, none⟩ = some (.int .i64 c.mu) ∧ w'.cell? ⟨B, 7, none⟩ = some (.int .i64 c.dq) ∧ w'.cell? ⟨B, 8, none⟩ = some (.int .i64 c.ch) ∧ w'.cell? ⟨B, 9, none⟩ = some (.int .i64 c.bf) ∧ w'.cell? ⟨B, 10, none⟩ = some (.int .i64 c.rt) ∧ w'.cell? ⟨B, 11, none⟩ = some (.int .i64 c.sw)
theorem KC.cells {w : World} {B : Nat} {c : Cfg} {w' : World} (h : KC w B c w') : CfgCells B c w' := ⟨h.c0, h.c1, h.c2, h.c3, h.c4, h.c5, h.c6, h.c7, h.c8, h.c9, h.c10, h.c11⟩
theorem KQ.cells {w : World} {B N : Nat} {c : Cfg} {w' : World} (h : KQ w B N c w') : CfgCells B c w' ∧ KQ w B N c w' := ⟨h.k.cells, h⟩

set_option maxHeartbeats 4000000 in
set_option maxRecDepth 100000 in
theorem walkChecks (c : Cfg) (w : World) : Calls Try.prog 3 #[cfgV c] w fun e w' => e = .returned (.bool true) ∧ Below w.heap.size w w' := by
  have HK := Lib.hid (KC.start c 24 w w (Below.refl _ _))
  by_cases h : OkC c
  · have H := Lib.hid h; clear h
    go_enter Try.func3, Try.ntmps3
    go_wp2_with (first
      | (go_at_call 10; (with_reducible refine (awake_any _).mono ?_); rintro r w1 ⟨rfl, hb1⟩; have HK := Lib.hid (HK.out.step hb1); clear hb1; obtain ⟨klt, q0, q1, q2, q3, q4, q5, q6, q7, q8, q9, q10, q11, qb⟩ := HK.out)
      | (go_at_call 12; (with_reducible refine (model_any c _).mono ?_); rintro r w2 ⟨rfl, hb2⟩; have HK := Lib.hid (HK.out.step hb2); clear hb2 klt q0 q1 q2 q3 q4 q5 q6 q7 q8 q9 q10 q11 qb; obtain ⟨klt, q0, q1, q2, q3, q4, q5, q6, q7, q8, q9, q10, q11, qb⟩ := HK.out)
      | (go_at_call 11; (with_reducible refine (rcheck_any c _).mono ?_); rintro r w3 ⟨x, rfl, hx, hb3⟩; obtain rfl := hx.1 H.out; have HK := Lib.hid (HK.out.step hb3); clear hb3 hx klt q0 q1 q2 q3 q4 q5 q6 q7 q8 q9 q10 q11 qb; obtain ⟨klt, q0, q1, q2, q3, q4, q5, q6, q7, q8, q9, q10, q11, qb⟩ := HK.out)
      | (go_at_call 13; (with_reducible refine (new_yes H.out _).mono ?_); rintro r w4 ⟨N, rfl, hm, hb4⟩; have HM := Lib.hid hm; have HK := Lib.hid (HK.out.step hb4); clear hb4 hm klt q0 q1 q2 q3 q4 q5 q6 q7 q8 q9 q10 q11 qb; obtain ⟨klt, q0, q1, q2, q3, q4, q5, q6, q7, q8, q9, q10, q11, qb⟩ := HK.out)
      | (go_at_call 14; (with_reducible refine (check_yes H.out _).mono ?_); rintro r w5 ⟨rfl, hb5⟩; have HM := Lib.hid (HM.out.below hb5); have HK := Lib.hid (HK.out.step hb5); clear hb5 klt q0 q1 q2 q3 q4 q5 q6 q7 q8 q9 q10 q11 qb; obtain ⟨klt, q0, q1, q2, q3, q4, q5, q6, q7, q8, q9, q10, q11, qb⟩ := HK.out)
      | fail)
    have HQ : Hid (KQ w w.heap.size N c _) := Lib.hid ⟨HM.out, HK.out⟩
    obtain ⟨dlt, d0, d1, d2, d3, d4, d5, d6, d7, d8, d9, d10, d11, db⟩ := (KQ.drew HQ.out).k
    clear klt q0 q1 q2 q3 q4 q5 q6 q7 q8 q9 q10 q11 qb
    first
      | (go_region_with (first
          | (go_at_call 15; (with_reducible refine (config_m _ _ (KQ.drew HQ.out).m).mono ?_); rintro r w6 ⟨rfl, hb6⟩; have hq6 := Lib.hid ((KQ.drew HQ.out).step hb6); obtain ⟨elt, e0, e1, e2, e3, e4, e5, e6, e7, e8, e9, e10, e11, eb⟩ := hq6.out.k)
          | fail))
      | fail
    all_goals go_wp2_with (fail)
    all_goals go_ret
    all_goals exact ⟨rfl, hq6.out.k.bel⟩
  · have H := Lib.hid h; clear h
    go_enter Try.func3, Try.ntmps3
    go_wp2_with (first
      | (go_at_call 10; (with_reducible refine (awake_any _).mono ?_); rintro r w1 ⟨rfl, hb1⟩; have HK := Lib.hid (HK.out.step hb1); clear hb1; obtain ⟨klt, q0, q1, q2, q3, q4, q5, q6, q7, q8, q9, q10, q11, qb⟩ := HK.out)
      | (go_at_call 12; (with_reducible refine (model_any c _).mono ?_); rintro r w2 ⟨rfl, hb2⟩; have HK := Lib.hid (HK.out.step hb2); clear hb2 klt q0 q1 q2 q3 q4 q5 q6 q7 q8 q9 q10 q11 qb; obtain ⟨klt, q0, q1, q2, q3, q4, q5, q6, q7, q8, q9, q10, q11, qb⟩ := HK.out)
      | (go_at_call 11; (with_reducible refine (rcheck_any c _).mono ?_); rintro r w3 ⟨x, rfl, hx, hb3⟩; obtain rfl := hx.2 H.out; have HK := Lib.hid (HK.out.step hb3); clear hb3 hx klt q0 q1 q2 q3 q4 q5 q6 q7 q8 q9 q10 q11 qb; obtain ⟨klt, q0, q1, q2, q3, q4, q5, q6, q7, q8, q9, q10, q11, qb⟩ := HK.out)
      | (go_at_call 13; (with_reducible refine (new_no H.out _).mono ?_); rintro r w4 ⟨rfl, hb4⟩; have HK := Lib.hid (HK.out.step hb4); clear hb4 klt q0 q1 q2 q3 q4 q5 q6 q7 q8 q9 q10 q11 qb; obtain ⟨klt, q0, q1, q2, q3, q4, q5, q6, q7, q8, q9, q10, q11, qb⟩ := HK.out)
      | (go_at_call 14; (with_reducible refine (check_no H.out _).mono ?_); rintro r w5 ⟨rfl, hb5⟩; have HK := Lib.hid (HK.out.step hb5); clear hb5 klt q0 q1 q2 q3 q4 q5 q6 q7 q8 q9 q10 q11 qb; obtain ⟨klt, q0, q1, q2, q3, q4, q5, q6, q7, q8, q9, q10, q11, qb⟩ := HK.out)
      | fail)
    clear klt q0 q1 q2 q3 q4 q5 q6 q7 q8 q9 q10 q11 qb
    have hud : ∀ b, (undef = Value.bool b) = False := fun b => eq_false (fun h => by cases h)
    have hud2 : ∀ b, (some undef = some (Value.bool b)) = False := fun b => eq_false (fun h => by cases h)
    first
      | (go_region_with (first
          | (go_at_call 15; (with_reducible refine (config_nil _).mono ?_); rintro r w6 ⟨rfl, hb6⟩; have hq6 := Lib.hid ((KC.drew HK.out).step hb6))
          | fail))
      | fail
    all_goals go_wp2_with (fail)
    all_goals go_ret
    all_goals exact ⟨rfl, hq6.out.bel⟩
end Go.Proofs.Ytkbfdcfgpmohkaa
