/- Configurations: what may be, the program's check and the document's; their numbers. -/
import Derived.Test.YtbjhciccpkbmoaaLaySmall
namespace Go.Proofs.Ytbjhciccpkbmoaa.Lay
open Go.RowKit
set_option linter.unusedVariables false

/-- A configuration's numbers. -/
structure Cfg where
  a : Int
  b : Int
  c : Int
  d : Int
  e : Int
  mr : Int
  mu : Int
  dq : Int
  ch : Int
  bf : Int
  rt : Int
  sw : Int
abbrev cfgV (c : Cfg) : Value := .agg #[.int .i64 c.a, .int .i64 c.b, .int .i64 c.c, .int .i64 c.d, .int .i64 c.e, .int .i64 c.mr, .int .i64 c.mu, .int .i64 c.dq, .int .i64 c.ch, .int .i64 c.bf, .int .i64 c.rt, .int .i64 c.sw]
abbrev cfgO (c : Cfg) (t : TypeId) : Obj := .cells #[.int .i64 c.a, .int .i64 c.b, .int .i64 c.c, .int .i64 c.d, .int .i64 c.e, .int .i64 c.mr, .int .i64 c.mu, .int .i64 c.dq, .int .i64 c.ch, .int .i64 c.bf, .int .i64 c.rt, .int .i64 c.sw] t

/-- How many nodes there are. -/
def nodesN (c : Cfg) : Int := c.a + c.b + c.c + c.d + c.e
structure OkC (c : Cfg) : Prop where
  a0 : 0 ≤ c.a
  a1 : c.a ≤ 12
  b0 : 0 ≤ c.b
  b1 : c.b ≤ 12
  c0 : 0 ≤ c.c
  c1 : c.c ≤ 12
  d0 : 0 ≤ c.d
  d1 : c.d ≤ 12
  e0 : 0 ≤ c.e
  e1 : c.e ≤ 12
  s0 : c.a + c.b + c.c + c.d + c.e ≠ 0
  k0 : 1 ≤ c.mr
  k1 : c.mr ≤ 4
  u0 : 1 ≤ c.mu
  u1 : c.mu ≤ 4
  q0 : 2 ≤ c.dq
  q1 : c.dq ≤ 8
  h0 : 1 ≤ c.ch
  h1 : c.ch ≤ 16
  f0 : 1 ≤ c.bf
  f1 : c.bf ≤ 4
  r0 : 1 ≤ c.rt
  r1 : c.rt ≤ 8
  w0 : 1 ≤ c.sw
  w1 : c.sw ≤ 16
theorem nodes_ok {c : Cfg} (h : OkC c) (w : World) : Calls Try.prog 60 #[.agg #[.int .i64 c.a, .int .i64 c.b, .int .i64 c.c, .int .i64 c.d, .int .i64 c.e]] w fun r w' => r = .returned (.int .i64 (nodesN c)) ∧ Below w.heap.size w w' :=
  (nodes_any _ _ _ _ _ w).mono fun _ _ ⟨he, hb⟩ => ⟨by rw [he, many_is ⟨h.a0, h.a1⟩, many_is ⟨h.b0, h.b1⟩, many_is ⟨h.c0, h.c1⟩, many_is ⟨h.d0, h.d1⟩, many_is ⟨h.e0, h.e1⟩]; rfl, hb⟩

@[go_sem] theorem ix22_0 (a b c d e : Int) (w : World) : (Instr.index 22 (.agg #[.int .i64 a, .int .i64 b, .int .i64 c, .int .i64 d, .int .i64 e]) (.int .i64 0)).run Try.prog w = .ok (.int .i64 a) w := by kernel_rfl
@[go_sem] theorem ix22_1 (a b c d e : Int) (w : World) : (Instr.index 22 (.agg #[.int .i64 a, .int .i64 b, .int .i64 c, .int .i64 d, .int .i64 e]) (.int .i64 1)).run Try.prog w = .ok (.int .i64 b) w := by kernel_rfl
@[go_sem] theorem ix22_2 (a b c d e : Int) (w : World) : (Instr.index 22 (.agg #[.int .i64 a, .int .i64 b, .int .i64 c, .int .i64 d, .int .i64 e]) (.int .i64 2)).run Try.prog w = .ok (.int .i64 c) w := by kernel_rfl
@[go_sem] theorem ix22_3 (a b c d e : Int) (w : World) : (Instr.index 22 (.agg #[.int .i64 a, .int .i64 b, .int .i64 c, .int .i64 d, .int .i64 e]) (.int .i64 3)).run Try.prog w = .ok (.int .i64 d) w := by kernel_rfl
@[go_sem] theorem ix22_4 (a b c d e : Int) (w : World) : (Instr.index 22 (.agg #[.int .i64 a, .int .i64 b, .int .i64 c, .int .i64 d, .int .i64 e]) (.int .i64 4)).run Try.prog w = .ok (.int .i64 e) w := by kernel_rfl

set_option maxHeartbeats 1000000 in
theorem check_yes {c : Cfg} (h : OkC c) (w : World) : Calls Try.prog 29 #[cfgV c] w fun r w' => r = .returned (.int .i64 0) ∧ Below w.heap.size w w' := by
  have H := Lib.hid h
  obtain ⟨a0, a1, b0, b1, c0, c1, d0, d1, e0, e1, s0, k0, k1, u0, u1, q0, q1, h0, h1, f0, f1, r0, r1, w0, w1⟩ := h
  have hn : (nodesN c == 0) = false := by unfold nodesN; rw [beq_eq_false_iff_ne]; exact s0
  clear s0
  go_enter Try.func29, Try.ntmps29
  go_wp2_with (go_at_call 59; (with_reducible refine (within_yes _ _ _ (by omega) _).mono ?_); rintro r w1 ⟨rfl, rfl⟩)
  refine wp_loop_rounds 6 ?_
  rw [rounds_succ]; go_wp2_with (go_at_call 59; (with_reducible refine (within_yes _ _ _ (by omega) _).mono ?_); rintro r w1 ⟨rfl, rfl⟩)
  rw [rounds_succ]; go_wp2_with (go_at_call 59; (with_reducible refine (within_yes _ _ _ (by omega) _).mono ?_); rintro r w1 ⟨rfl, rfl⟩)
  rw [rounds_succ]; go_wp2_with (go_at_call 59; (with_reducible refine (within_yes _ _ _ (by omega) _).mono ?_); rintro r w1 ⟨rfl, rfl⟩)
  rw [rounds_succ]; go_wp2_with (go_at_call 59; (with_reducible refine (within_yes _ _ _ (by omega) _).mono ?_); rintro r w1 ⟨rfl, rfl⟩)
  rw [rounds_succ]; go_wp2_with (go_at_call 59; (with_reducible refine (within_yes _ _ _ (by omega) _).mono ?_); rintro r w1 ⟨rfl, rfl⟩)
  rw [rounds_succ]; go_wp2_with (go_at_call 60; (with_reducible refine (nodes_ok H.out _).mono ?_); rintro r w1 ⟨rfl, hb1⟩)
  go_ret
  exact ⟨rfl, below_step ((Below.refl _ _).alloc (Nat.le_refl _) _) (by simp) hb1⟩

theorem first_bad {c : Cfg} (h : ¬ OkC c) : ¬ (1 ≤ c.mr ∧ c.mr ≤ 4) ∨ ((1 ≤ c.mr ∧ c.mr ≤ 4) ∧ (¬ (1 ≤ c.mu ∧ c.mu ≤ 4) ∨ ((1 ≤ c.mu ∧ c.mu ≤ 4) ∧ (¬ (2 ≤ c.dq ∧ c.dq ≤ 8) ∨ ((2 ≤ c.dq ∧ c.dq ≤ 8) ∧ (¬ (1 ≤ c.ch ∧ c.ch ≤ 16) ∨ ((1 ≤ c.ch ∧ c.ch ≤ 16) ∧
    (¬ (1 ≤ c.bf ∧ c.bf ≤ 4) ∨ ((1 ≤ c.bf ∧ c.bf ≤ 4) ∧ (¬ (1 ≤ c.rt ∧ c.rt ≤ 8) ∨ ((1 ≤ c.rt ∧ c.rt ≤ 8) ∧ (¬ (1 ≤ c.sw ∧ c.sw ≤ 16) ∨ ((1 ≤ c.sw ∧ c.sw ≤ 16) ∧
    (¬ (0 ≤ c.a ∧ c.a ≤ 12) ∨ ((0 ≤ c.a ∧ c.a ≤ 12) ∧ (¬ (0 ≤ c.b ∧ c.b ≤ 12) ∨ ((0 ≤ c.b ∧ c.b ≤ 12) ∧ (¬ (0 ≤ c.c ∧ c.c ≤ 12) ∨ ((0 ≤ c.c ∧ c.c ≤ 12) ∧ (¬ (0 ≤ c.d ∧ c.d ≤ 12) ∨ ((0 ≤ c.d ∧ c.d ≤ 12) ∧ (¬ (0 ≤ c.e ∧ c.e ≤ 12) ∨ ((0 ≤ c.e ∧ c.e ≤ 12) ∧ c.a + c.b + c.c + c.d + c.e = 0))))))))))))))))))))))) := by
  apply Classical.byContradiction
  intro g
  exact h ⟨by omega, by omega, by omega, by omega, by omega, by omega, by omega, by omega, by omega, by omega, by omega, by omega, by omega, by omega, by omega, by omega, by omega, by omega, by omega, by omega, by omega, by omega, by omega, by omega, by omega⟩

set_option maxHeartbeats 4000000 in
theorem check_no {c : Cfg} (h : ¬ OkC c) (w : World) : Calls Try.prog 29 #[cfgV c] w fun r w' => r = .returned (.int .i64 21) ∧ Below w.heap.size w w' := by
  have hz : c.a + c.b + c.c + c.d + c.e = 0 → (0 ≤ c.a ∧ c.a ≤ 12) → (0 ≤ c.b ∧ c.b ≤ 12) → (0 ≤ c.c ∧ c.c ≤ 12) → (0 ≤ c.d ∧ c.d ≤ 12) → (0 ≤ c.e ∧ c.e ≤ 12) → many c.a + many c.b + many c.c + many c.d + many c.e = 0 := by
    intro h0 ha hb hc hd he; rw [many_is ha, many_is hb, many_is hc, many_is hd, many_is he, h0]
  have HZ := Lib.hid hz; clear hz
  rcases first_bad h with g | ⟨g1, g | ⟨g2, g | ⟨g3, g | ⟨g4, g | ⟨g5, g | ⟨g6, g | ⟨g7, g | ⟨g8, g | ⟨g9, g | ⟨g10, g | ⟨g11, g | ⟨g12, g⟩⟩⟩⟩⟩⟩⟩⟩⟩⟩⟩⟩
  all_goals clear h
  all_goals go_enter Try.func29, Try.ntmps29
  all_goals go_wp2_with (first
    | (go_at_call 59; (with_reducible refine (within_yes _ _ _ (by assumption) _).mono ?_); rintro r w1 ⟨rfl, rfl⟩)
    | (go_at_call 59; (with_reducible refine (within_no _ _ _ (by assumption) _).mono ?_); rintro r w1 ⟨rfl, rfl⟩))
  all_goals refine wp_loop_rounds 6 ?_
  all_goals (rw [rounds_succ]; go_wp2_with (first
    | (go_at_call 59; (with_reducible refine (within_yes _ _ _ (by assumption) _).mono ?_); rintro r w1 ⟨rfl, rfl⟩)
    | (go_at_call 59; (with_reducible refine (within_no _ _ _ (by assumption) _).mono ?_); rintro r w1 ⟨rfl, rfl⟩)))
  all_goals (rw [rounds_succ]; go_wp2_with (first
    | (go_at_call 59; (with_reducible refine (within_yes _ _ _ (by assumption) _).mono ?_); rintro r w1 ⟨rfl, rfl⟩)
    | (go_at_call 59; (with_reducible refine (within_no _ _ _ (by assumption) _).mono ?_); rintro r w1 ⟨rfl, rfl⟩)))
  all_goals (rw [rounds_succ]; go_wp2_with (first
    | (go_at_call 59; (with_reducible refine (within_yes _ _ _ (by assumption) _).mono ?_); rintro r w1 ⟨rfl, rfl⟩)
    | (go_at_call 59; (with_reducible refine (within_no _ _ _ (by assumption) _).mono ?_); rintro r w1 ⟨rfl, rfl⟩)))
  all_goals (rw [rounds_succ]; go_wp2_with (first
    | (go_at_call 59; (with_reducible refine (within_yes _ _ _ (by assumption) _).mono ?_); rintro r w1 ⟨rfl, rfl⟩)
    | (go_at_call 59; (with_reducible refine (within_no _ _ _ (by assumption) _).mono ?_); rintro r w1 ⟨rfl, rfl⟩)))
  all_goals (rw [rounds_succ]; go_wp2_with (first
    | (go_at_call 59; (with_reducible refine (within_yes _ _ _ (by assumption) _).mono ?_); rintro r w1 ⟨rfl, rfl⟩)
    | (go_at_call 59; (with_reducible refine (within_no _ _ _ (by assumption) _).mono ?_); rintro r w1 ⟨rfl, rfl⟩)))
  all_goals (rw [rounds_succ]; go_wp2_with (first
    | (go_at_call 60; (with_reducible refine (nodes_any _ _ _ _ _ _).mono ?_); rintro r w1 ⟨rfl, hb1⟩; have hzz := HZ.out (by assumption) (by assumption) (by assumption) (by assumption) (by assumption) (by assumption))))
  all_goals go_ret
  all_goals first
    | exact ⟨rfl, (Below.refl _ _).alloc (Nat.le_refl _) _⟩
    | exact ⟨rfl, below_step ((Below.refl _ _).alloc (Nat.le_refl _) _) (by simp) hb1⟩

set_option maxHeartbeats 400000 in
theorem numbersOf_any (c : Cfg) (w : World) : Calls Try.prog 30 #[cfgV c] w fun r w' => r = .returned (cfgV c) ∧ Below w.heap.size w w' := by
  go_enter Try.func30, Try.ntmps30
  go_wp2
  exact bodyPost_ret (v := cfgV c) (by simp [results, Try.results30, go_sem]) rfl ⟨rfl, by go_grown⟩
set_option maxHeartbeats 400000 in
theorem model_any (c : Cfg) (w : World) : Calls Try.prog 12 #[cfgV c] w fun r w' => r = .returned (cfgV c) ∧ Below w.heap.size w w' := by
  go_enter Try.func12, Try.ntmps12
  go_wp2
  exact bodyPost_ret (v := cfgV c) (by simp [results, Try.results12, go_sem]) rfl ⟨rfl, by go_grown⟩
end Go.Proofs.Ytbjhciccpkbmoaa.Lay
