/- The program's graph that is none; walked. -/
import Derived.Test.YtjnkcomedcbenaaGOwn
namespace Go.Proofs.Ytjnkcomedcbenaa
open Go.RowKit
set_option linter.unusedVariables false

set_option maxHeartbeats 800000 in
theorem takes_nil (m : Int) (w : World) : Calls Try.prog 46 #[.pointer none, .int .i64 m] w fun e w' => e = .returned (.bool false) ∧ Below w.heap.size w w' := by
  go_enter Try.func46, Try.ntmps46
  go_wp2
  go_quiet (fail)
  go_wp2
  go_ret
  exact ⟨rfl, below_drewN (Below.refl _ _) _⟩
set_option maxHeartbeats 800000 in
theorem rootsOf_nil (m : Int) (w : World) : Calls Try.prog 43 #[.pointer none, .int .i64 m] w fun e w' => e = .returned (.slice none 0 0) ∧ w = w' := by
  go_enter Try.func43, Try.ntmps43
  go_wp2
  go_ret
  exact ⟨rfl, rfl⟩
set_option maxHeartbeats 800000 in
theorem slotsOf_nil (m : Int) (w : World) : Calls Try.prog 38 #[.pointer none, .int .i64 m] w fun e w' => e = .returned (.slice none 0 0) ∧ w = w' := by
  go_enter Try.func38, Try.ntmps38
  go_wp2
  go_ret
  exact ⟨rfl, rfl⟩
theorem isIn_zero (a : Int) : isIn 0 a = false := by
  cases e : isIn 0 a
  · rfl
  · have := isIn_iff.1 e; simp at this; omega
theorem has43_zero (A : Option Addr) (c : Nat) (i : Int) (w : World) : Calls Try.prog 53 #[.slice A 0 c, .int .i64 i] w fun e w' => e = .returned (.bool false) ∧ w = w' := by
  rw [← isIn_zero i]; exact has43_any _ _ _ _ _
set_option maxHeartbeats 800000 in
theorem root_nil (m a : Int) (w : World) : Calls Try.prog 45 #[.pointer none, .int .i64 m, .int .i64 a] w fun e w' => e = .returned (.tuple #[.int .i64 0, .bool false]) ∧ w = w' := by
  go_enter Try.func45, Try.ntmps45
  go_wp2_with (first
    | (go_at_call 43; (with_reducible refine (rootsOf_nil m _).mono ?_); rintro r w1 ⟨rfl, rfl⟩)
    | (go_at_call 53; (with_reducible refine (has43_zero _ _ _ _).mono ?_); rintro r w1 ⟨rfl, rfl⟩)
    | fail)
  go_ret2
  exact ⟨rfl, rfl⟩
set_option maxHeartbeats 800000 in
theorem slot_nil (m a i : Int) (w : World) : Calls Try.prog 44 #[.pointer none, .int .i64 m, .int .i64 a, .int .i64 i] w fun e w' => e = .returned (.pointer none) ∧ w = w' := by
  go_enter Try.func44, Try.ntmps44
  go_wp2_with (first
    | (go_at_call 45; (with_reducible refine (root_nil m a _).mono ?_); rintro r w1 ⟨rfl, rfl⟩)
    | (go_at_call 38; (with_reducible refine (slotsOf_nil _ _).mono ?_); rintro r w1 ⟨rfl, rfl⟩)
    | (go_at_call 53; (with_reducible refine (has43_zero _ _ _ _).mono ?_); rintro r w1 ⟨rfl, rfl⟩)
    | fail)
  go_ret
  exact ⟨rfl, rfl⟩
set_option maxHeartbeats 800000 in
theorem alloc_nil (m n : Int) (w : World) : Calls Try.prog 29 #[.pointer none, .int .i64 m, .int .i64 n] w fun e w' => e = .returned (.tuple #[.int .i64 0, .bool false]) ∧ Below w.heap.size w w' := by
  by_cases h0 : n < 0
  · have d0 : decide (n < 0) = true := decide_eq_true h0
    go_enter Try.func29, Try.ntmps29
    go_wp2_with (fail)
    go_ret2
    exact ⟨rfl, Below.refl _ _⟩
  · have d0 : decide (n < 0) = false := decide_eq_false h0
    by_cases h1 : 64 < n
    · have d1 : decide (64 < n) = true := decide_eq_true h1
      go_enter Try.func29, Try.ntmps29
      go_wp2_with (fail)
      go_ret2
      exact ⟨rfl, Below.refl _ _⟩
    · have d1 : decide (64 < n) = false := decide_eq_false h1
      go_enter Try.func29, Try.ntmps29
      go_wp2_with (first
        | (go_at_call 46; (with_reducible refine (takes_nil m _).mono ?_); rintro r w1 ⟨rfl, hb⟩)
        | fail)
      go_ret2
      exact ⟨rfl, hb⟩
set_option maxHeartbeats 800000 in
theorem read_nil (m a i : Int) (w : World) : Calls Try.prog 27 #[.pointer none, .int .i64 m, .int .i64 a, .int .i64 i] w fun e w' => e = .returned (.tuple #[.int .i64 0, .bool false]) ∧ Below w.heap.size w w' := by
  go_enter Try.func27, Try.ntmps27
  go_wp2_with (first
    | (go_at_call 44; (with_reducible refine (slot_nil m a i _).mono ?_); rintro r w1 ⟨rfl, rfl⟩)
    | fail)
  go_ret2
  exact ⟨rfl, Below.refl _ _⟩
set_option maxHeartbeats 800000 in
theorem write_nil (m a i b : Int) (w : World) : Calls Try.prog 26 #[.pointer none, .int .i64 m, .int .i64 a, .int .i64 i, .int .i64 b] w fun e w' => e = .returned (.bool false) ∧ Below w.heap.size w w' := by
  go_enter Try.func26, Try.ntmps26
  go_wp2_with (first
    | (go_at_call 44; (with_reducible refine (slot_nil m a i _).mono ?_); rintro r w1 ⟨rfl, rfl⟩)
    | (go_at_call 45; (with_reducible refine (root_nil m b _).mono ?_); rintro r w1 ⟨rfl, rfl⟩)
    | fail)
  go_ret
  exact ⟨rfl, Below.refl _ _⟩
set_option maxHeartbeats 800000 in
theorem pop_nil (m : Int) (w : World) : Calls Try.prog 25 #[.pointer none, .int .i64 m] w fun e w' => e = .returned (.bool false) ∧ Below w.heap.size w w' := by
  go_enter Try.func25, Try.ntmps25
  go_wp2_with (first
    | (go_at_call 43; (with_reducible refine (rootsOf_nil m _).mono ?_); rintro r w1 ⟨rfl, rfl⟩)
    | fail)
  go_ret
  exact ⟨rfl, Below.refl _ _⟩
set_option maxHeartbeats 800000 in
theorem dup_nil (m a : Int) (w : World) : Calls Try.prog 28 #[.pointer none, .int .i64 m, .int .i64 a] w fun e w' => e = .returned (.bool false) ∧ Below w.heap.size w w' := by
  go_enter Try.func28, Try.ntmps28
  go_wp2_with (first
    | (go_at_call 45; (with_reducible refine (root_nil m a _).mono ?_); rintro r w1 ⟨rfl, rfl⟩)
    | fail)
  go_ret
  exact ⟨rfl, Below.refl _ _⟩
set_option maxHeartbeats 800000 in
theorem nodes_nil (w : World) : Calls Try.prog 19 #[.pointer none] w fun e w' => e = .returned (.int .i64 0) ∧ w = w' := by
  go_enter Try.func19, Try.ntmps19
  go_wp2
  go_ret
  exact ⟨rfl, rfl⟩
set_option maxHeartbeats 800000 in
theorem reach_nil (w : World) : Calls Try.prog 21 #[.pointer none] w fun e w' => e = .returned (.slice none 0 0) ∧ w = w' := by
  go_enter Try.func21, Try.ntmps21
  go_wp2
  go_step3
  go_wp2
  try rw [Exit.noGoto_ret]
  go_ret
  exact ⟨rfl, rfl⟩
set_option maxHeartbeats 2000000 in
theorem play_nil (x : Op5) (w : World) : Calls Try.prog 13 #[.pointer none, opV x] w fun e w' => e = .returned (.tuple #[.int .i64 0, .bool false]) ∧ Below w.heap.size w w' := by
  obtain ⟨d, m, a, i, b⟩ := x
  have hbx : ∀ W, Below w.heap.size (w.alloc (.cells #[.int .u8 d, .int .i64 m, .int .i64 a, .int .i64 i, .int .i64 b] 31)) W → Below w.heap.size w W := fun W h => (below_alloc0 (Below.refl _ _) _).trans h
  by_cases d0 : d = 0
  · subst d0
    go_enter Try.func13, Try.ntmps13
    go_wp2_with (first
      | (go_at_call 29; (with_reducible refine (alloc_nil m i _).mono ?_); rintro r w1 ⟨rfl, hb⟩; have HB := Lib.hid hb; clear hb)
      | fail)
    go_ret2
    exact ⟨rfl, hbx _ (HB.out.mono (by simp))⟩
  by_cases d1 : d = 1
  · subst d1
    go_enter Try.func13, Try.ntmps13
    go_wp2_with (first
      | (go_at_call 27; (with_reducible refine (read_nil m a i _).mono ?_); rintro r w1 ⟨rfl, hb⟩; have HB := Lib.hid hb; clear hb)
      | fail)
    go_ret2
    exact ⟨rfl, hbx _ (HB.out.mono (by simp))⟩
  by_cases d2 : d = 2
  · subst d2
    go_enter Try.func13, Try.ntmps13
    go_wp2_with (first
      | (go_at_call 26; (with_reducible refine (write_nil m a i b _).mono ?_); rintro r w1 ⟨rfl, hb⟩; have HB := Lib.hid hb; clear hb)
      | fail)
    go_ret2
    exact ⟨rfl, hbx _ (HB.out.mono (by simp))⟩
  by_cases d3 : d = 3
  · subst d3
    go_enter Try.func13, Try.ntmps13
    go_wp2_with (first
      | (go_at_call 25; (with_reducible refine (pop_nil m _).mono ?_); rintro r w1 ⟨rfl, hb⟩; have HB := Lib.hid hb; clear hb)
      | fail)
    go_ret2
    exact ⟨rfl, hbx _ (HB.out.mono (by simp))⟩
  have t0 : (d == 0) = false := by simpa using d0
  have t1 : (d == 1) = false := by simpa using d1
  have t2 : (d == 2) = false := by simpa using d2
  have t3 : (d == 3) = false := by simpa using d3
  clear d0 d1 d2 d3
  go_enter Try.func13, Try.ntmps13
  go_wp2_with (first
    | (go_at_call 28; (with_reducible refine (dup_nil m a _).mono ?_); rintro r w1 ⟨rfl, hb⟩; have HB := Lib.hid hb; clear hb)
    | fail)
  go_ret2
  exact ⟨rfl, hbx _ (HB.out.mono (by simp))⟩
end Go.Proofs.Ytjnkcomedcbenaa
