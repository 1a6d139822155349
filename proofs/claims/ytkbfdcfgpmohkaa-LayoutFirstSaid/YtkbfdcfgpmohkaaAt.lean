/- A thing's place by its kind and numbers, walked. -/
import Derived.Test.YtkbfdcfgpmohkaaPart
namespace Go.Proofs.Ytkbfdcfgpmohkaa
open Go.RowKit
set_option linter.unusedVariables false

theorem plc_b0 (c : Sh) (k a b : Int) (h0 : 6 ≤ k) (h : k ≤ 9 ∨ k = 11 ∨ k = 12 ∨ (14 ≤ k ∧ k ≤ 17)) : plc c ⟨k, a, b⟩ = plc c ⟨k, a, 0⟩ := by
  have : k = 6 ∨ k = 7 ∨ k = 8 ∨ k = 9 ∨ k = 11 ∨ k = 12 ∨ k = 14 ∨ k = 15 ∨ k = 16 ∨ k = 17 := by omega
  rcases this with rfl | rfl | rfl | rfl | rfl | rfl | rfl | rfl | rfl | rfl <;> rfl
theorem plc_ab0 (c : Sh) (k a b : Int) (h0 : 0 ≤ k) (h : k ≤ 5) : plc c ⟨k, a, b⟩ = plc c ⟨k, 0, 0⟩ := by
  have : k = 0 ∨ k = 1 ∨ k = 2 ∨ k = 3 ∨ k = 4 ∨ k = 5 := by omega
  rcases this with rfl | rfl | rfl | rfl | rfl | rfl <;> rfl

set_option maxHeartbeats 1000000 in
theorem at_0 {c : Cfg} (hc : OkC c) (N : Nat) (a b : Int) (ha : (Lit.int .i64 a).wf = true) (w : World) (hm : IsMap w N c) :
    Calls Try.prog 18 #[mapP N, .agg #[.int .i64 0, .int .i64 a, .int .i64 b]] w fun e w' => e = .returned (.int .i64 (plcc c 0 a b)) ∧ Below w.heap.size w w' := by
  have H := Lib.hid hc; have HA := Lib.hid ha
  have HM := Lib.hid (hm.alloc (.cells #[.int .i64 0, .int .i64 a, .int .i64 b] 39))
  rw [plcc, plc_ab0 _ 0 a b (by decide) (by decide)]
  clear hm hc ha
  go_enter Try.func18, Try.ntmps18
  go_wp2_with (first
    | (go_at_call 54; (with_reducible refine (phase_m H.out _ _ HM.out).mono ?_); rintro r w1 ⟨rfl, hb1⟩)
    | fail)
  go_ret
  exact ⟨rfl, below_then (below_alloc0 (Below.refl _ _) _) hb1⟩

set_option maxHeartbeats 1000000 in
theorem at_1 {c : Cfg} (hc : OkC c) (N : Nat) (a b : Int) (ha : (Lit.int .i64 a).wf = true) (w : World) (hm : IsMap w N c) :
    Calls Try.prog 18 #[mapP N, .agg #[.int .i64 1, .int .i64 a, .int .i64 b]] w fun e w' => e = .returned (.int .i64 (plcc c 1 a b)) ∧ Below w.heap.size w w' := by
  have H := Lib.hid hc; have HA := Lib.hid ha
  have HM := Lib.hid (hm.alloc (.cells #[.int .i64 1, .int .i64 a, .int .i64 b] 39))
  rw [plcc, plc_ab0 _ 1 a b (by decide) (by decide)]
  clear hm hc ha
  go_enter Try.func18, Try.ntmps18
  go_wp2_with (first
    | (go_at_call 55; (with_reducible refine (work_m H.out _ _ HM.out).mono ?_); rintro r w1 ⟨rfl, hb1⟩)
    | fail)
  go_ret
  exact ⟨rfl, below_then (below_alloc0 (Below.refl _ _) _) hb1⟩

set_option maxHeartbeats 1000000 in
theorem at_2 {c : Cfg} (hc : OkC c) (N : Nat) (a b : Int) (ha : (Lit.int .i64 a).wf = true) (w : World) (hm : IsMap w N c) :
    Calls Try.prog 18 #[mapP N, .agg #[.int .i64 2, .int .i64 a, .int .i64 b]] w fun e w' => e = .returned (.int .i64 (plcc c 2 a b)) ∧ Below w.heap.size w w' := by
  have H := Lib.hid hc; have HA := Lib.hid ha
  have HM := Lib.hid (hm.alloc (.cells #[.int .i64 2, .int .i64 a, .int .i64 b] 39))
  rw [plcc, plc_ab0 _ 2 a b (by decide) (by decide)]
  clear hm hc ha
  go_enter Try.func18, Try.ntmps18
  go_wp2_with (first
    | (go_at_call 56; (with_reducible refine (sweep_m H.out _ _ HM.out).mono ?_); rintro r w1 ⟨rfl, hb1⟩)
    | fail)
  go_ret
  exact ⟨rfl, below_then (below_alloc0 (Below.refl _ _) _) hb1⟩

set_option maxHeartbeats 1000000 in
theorem at_3 {c : Cfg} (hc : OkC c) (N : Nat) (a b : Int) (ha : (Lit.int .i64 a).wf = true) (w : World) (hm : IsMap w N c) :
    Calls Try.prog 18 #[mapP N, .agg #[.int .i64 3, .int .i64 a, .int .i64 b]] w fun e w' => e = .returned (.int .i64 (plcc c 3 a b)) ∧ Below w.heap.size w w' := by
  have H := Lib.hid hc; have HA := Lib.hid ha
  have HM := Lib.hid (hm.alloc (.cells #[.int .i64 3, .int .i64 a, .int .i64 b] 39))
  rw [plcc, plc_ab0 _ 3 a b (by decide) (by decide)]
  clear hm hc ha
  go_enter Try.func18, Try.ntmps18
  go_wp2_with (first
    | (go_at_call 57; (with_reducible refine (done_m H.out _ _ HM.out).mono ?_); rintro r w1 ⟨rfl, hb1⟩)
    | fail)
  go_ret
  exact ⟨rfl, below_then (below_alloc0 (Below.refl _ _) _) hb1⟩

set_option maxHeartbeats 1000000 in
theorem at_4 {c : Cfg} (hc : OkC c) (N : Nat) (a b : Int) (ha : (Lit.int .i64 a).wf = true) (w : World) (hm : IsMap w N c) :
    Calls Try.prog 18 #[mapP N, .agg #[.int .i64 4, .int .i64 a, .int .i64 b]] w fun e w' => e = .returned (.int .i64 (plcc c 4 a b)) ∧ Below w.heap.size w w' := by
  have H := Lib.hid hc; have HA := Lib.hid ha
  have HM := Lib.hid (hm.alloc (.cells #[.int .i64 4, .int .i64 a, .int .i64 b] 39))
  rw [plcc, plc_ab0 _ 4 a b (by decide) (by decide)]
  clear hm hc ha
  go_enter Try.func18, Try.ntmps18
  go_wp2_with (first
    | (go_at_call 32; (with_reducible refine (pool_m H.out _ _ HM.out).mono ?_); rintro r w1 ⟨rfl, hb1⟩)
    | fail)
  go_ret
  exact ⟨rfl, below_then (below_alloc0 (Below.refl _ _) _) hb1⟩

set_option maxHeartbeats 1000000 in
theorem at_5 {c : Cfg} (hc : OkC c) (N : Nat) (a b : Int) (ha : (Lit.int .i64 a).wf = true) (w : World) (hm : IsMap w N c) :
    Calls Try.prog 18 #[mapP N, .agg #[.int .i64 5, .int .i64 a, .int .i64 b]] w fun e w' => e = .returned (.int .i64 (plcc c 5 a b)) ∧ Below w.heap.size w w' := by
  have H := Lib.hid hc; have HA := Lib.hid ha
  have HM := Lib.hid (hm.alloc (.cells #[.int .i64 5, .int .i64 a, .int .i64 b] 39))
  rw [plcc, plc_ab0 _ 5 a b (by decide) (by decide)]
  clear hm hc ha
  go_enter Try.func18, Try.ntmps18
  go_wp2_with (first
    | (go_at_call 35; (with_reducible refine (spare_m H.out _ _ HM.out).mono ?_); rintro r w1 ⟨rfl, hb1⟩)
    | fail)
  go_ret
  exact ⟨rfl, below_then (below_alloc0 (Below.refl _ _) _) hb1⟩

set_option maxHeartbeats 1000000 in
theorem at_6 {c : Cfg} (hc : OkC c) (N : Nat) (a b : Int) (ha : (Lit.int .i64 a).wf = true) (w : World) (hm : IsMap w N c) :
    Calls Try.prog 18 #[mapP N, .agg #[.int .i64 6, .int .i64 a, .int .i64 b]] w fun e w' => e = .returned (.int .i64 (plcc c 6 a b)) ∧ Below w.heap.size w w' := by
  have H := Lib.hid hc; have HA := Lib.hid ha
  have HM := Lib.hid (hm.alloc (.cells #[.int .i64 6, .int .i64 a, .int .i64 b] 39))
  rw [plcc, plc_b0 _ 6 a b (by decide) (by decide)]
  clear hm hc ha
  go_enter Try.func18, Try.ntmps18
  go_wp2_with (first
    | (go_at_call 39; (with_reducible refine (ack_m H.out _ _ HA.out _ HM.out).mono ?_); rintro r w1 ⟨rfl, hb1⟩)
    | fail)
  go_ret
  exact ⟨rfl, below_then (below_alloc0 (Below.refl _ _) _) hb1⟩

set_option maxHeartbeats 1000000 in
theorem at_7 {c : Cfg} (hc : OkC c) (N : Nat) (a b : Int) (ha : (Lit.int .i64 a).wf = true) (w : World) (hm : IsMap w N c) :
    Calls Try.prog 18 #[mapP N, .agg #[.int .i64 7, .int .i64 a, .int .i64 b]] w fun e w' => e = .returned (.int .i64 (plcc c 7 a b)) ∧ Below w.heap.size w w' := by
  have H := Lib.hid hc; have HA := Lib.hid ha
  have HM := Lib.hid (hm.alloc (.cells #[.int .i64 7, .int .i64 a, .int .i64 b] 39))
  rw [plcc, plc_b0 _ 7 a b (by decide) (by decide)]
  clear hm hc ha
  go_enter Try.func18, Try.ntmps18
  go_wp2_with (first
    | (go_at_call 33; (with_reducible refine (head_m H.out _ _ HA.out _ HM.out).mono ?_); rintro r w1 ⟨rfl, hb1⟩)
    | fail)
  go_ret
  exact ⟨rfl, below_then (below_alloc0 (Below.refl _ _) _) hb1⟩

set_option maxHeartbeats 1000000 in
theorem at_8 {c : Cfg} (hc : OkC c) (N : Nat) (a b : Int) (ha : (Lit.int .i64 a).wf = true) (w : World) (hm : IsMap w N c) :
    Calls Try.prog 18 #[mapP N, .agg #[.int .i64 8, .int .i64 a, .int .i64 b]] w fun e w' => e = .returned (.int .i64 (plcc c 8 a b)) ∧ Below w.heap.size w w' := by
  have H := Lib.hid hc; have HA := Lib.hid ha
  have HM := Lib.hid (hm.alloc (.cells #[.int .i64 8, .int .i64 a, .int .i64 b] 39))
  rw [plcc, plc_b0 _ 8 a b (by decide) (by decide)]
  clear hm hc ha
  go_enter Try.func18, Try.ntmps18
  go_wp2_with (first
    | (go_at_call 40; (with_reducible refine (top_m H.out _ _ HA.out _ HM.out).mono ?_); rintro r w1 ⟨rfl, hb1⟩)
    | fail)
  go_ret
  exact ⟨rfl, below_then (below_alloc0 (Below.refl _ _) _) hb1⟩

set_option maxHeartbeats 1000000 in
theorem at_9 {c : Cfg} (hc : OkC c) (N : Nat) (a b : Int) (ha : (Lit.int .i64 a).wf = true) (w : World) (hm : IsMap w N c) :
    Calls Try.prog 18 #[mapP N, .agg #[.int .i64 9, .int .i64 a, .int .i64 b]] w fun e w' => e = .returned (.int .i64 (plcc c 9 a b)) ∧ Below w.heap.size w w' := by
  have H := Lib.hid hc; have HA := Lib.hid ha
  have HM := Lib.hid (hm.alloc (.cells #[.int .i64 9, .int .i64 a, .int .i64 b] 39))
  rw [plcc, plc_b0 _ 9 a b (by decide) (by decide)]
  clear hm hc ha
  go_enter Try.func18, Try.ntmps18
  go_wp2_with (first
    | (go_at_call 58; (with_reducible refine (bottom_m H.out _ _ HA.out _ HM.out).mono ?_); rintro r w1 ⟨rfl, hb1⟩)
    | fail)
  go_ret
  exact ⟨rfl, below_then (below_alloc0 (Below.refl _ _) _) hb1⟩

set_option maxHeartbeats 1000000 in
theorem at_10 {c : Cfg} (hc : OkC c) (N : Nat) (a b : Int) (ha : (Lit.int .i64 a).wf = true) (w : World) (hm : IsMap w N c) :
    Calls Try.prog 18 #[mapP N, .agg #[.int .i64 10, .int .i64 a, .int .i64 b]] w fun e w' => e = .returned (.int .i64 (plcc c 10 a b)) ∧ Below w.heap.size w w' := by
  have H := Lib.hid hc; have HA := Lib.hid ha
  have HM := Lib.hid (hm.alloc (.cells #[.int .i64 10, .int .i64 a, .int .i64 b] 39))
  clear hm hc ha
  go_enter Try.func18, Try.ntmps18
  go_wp2_with (first
    | (go_at_call 41; (with_reducible refine (entry_m H.out _ _ _ HA.out _ HM.out).mono ?_); rintro r w1 ⟨rfl, hb1⟩)
    | fail)
  go_ret
  exact ⟨rfl, below_then (below_alloc0 (Below.refl _ _) _) hb1⟩

set_option maxHeartbeats 1000000 in
theorem at_11 {c : Cfg} (hc : OkC c) (N : Nat) (a b : Int) (ha : (Lit.int .i64 a).wf = true) (w : World) (hm : IsMap w N c) :
    Calls Try.prog 18 #[mapP N, .agg #[.int .i64 11, .int .i64 a, .int .i64 b]] w fun e w' => e = .returned (.int .i64 (plcc c 11 a b)) ∧ Below w.heap.size w w' := by
  have H := Lib.hid hc; have HA := Lib.hid ha
  have HM := Lib.hid (hm.alloc (.cells #[.int .i64 11, .int .i64 a, .int .i64 b] 39))
  rw [plcc, plc_b0 _ 11 a b (by decide) (by decide)]
  clear hm hc ha
  go_enter Try.func18, Try.ntmps18
  go_wp2_with (first
    | (go_at_call 42; (with_reducible refine (many_m H.out _ _ HA.out _ HM.out).mono ?_); rintro r w1 ⟨rfl, hb1⟩)
    | fail)
  go_ret
  exact ⟨rfl, below_then (below_alloc0 (Below.refl _ _) _) hb1⟩

set_option maxHeartbeats 1000000 in
theorem at_12 {c : Cfg} (hc : OkC c) (N : Nat) (a b : Int) (ha : (Lit.int .i64 a).wf = true) (w : World) (hm : IsMap w N c) :
    Calls Try.prog 18 #[mapP N, .agg #[.int .i64 12, .int .i64 a, .int .i64 b]] w fun e w' => e = .returned (.int .i64 (plcc c 12 a b)) ∧ Below w.heap.size w w' := by
  have H := Lib.hid hc; have HA := Lib.hid ha
  have HM := Lib.hid (hm.alloc (.cells #[.int .i64 12, .int .i64 a, .int .i64 b] 39))
  rw [plcc, plc_b0 _ 12 a b (by decide) (by decide)]
  clear hm hc ha
  go_enter Try.func18, Try.ntmps18
  go_wp2_with (first
    | (go_at_call 36; (with_reducible refine (link_m H.out _ _ HA.out _ HM.out).mono ?_); rintro r w1 ⟨rfl, hb1⟩)
    | fail)
  go_ret
  exact ⟨rfl, below_then (below_alloc0 (Below.refl _ _) _) hb1⟩

set_option maxHeartbeats 1000000 in
theorem at_13 {c : Cfg} (hc : OkC c) (N : Nat) (a b : Int) (ha : (Lit.int .i64 a).wf = true) (w : World) (hm : IsMap w N c) :
    Calls Try.prog 18 #[mapP N, .agg #[.int .i64 13, .int .i64 a, .int .i64 b]] w fun e w' => e = .returned (.int .i64 (plcc c 13 a b)) ∧ Below w.heap.size w w' := by
  have H := Lib.hid hc; have HA := Lib.hid ha
  have HM := Lib.hid (hm.alloc (.cells #[.int .i64 13, .int .i64 a, .int .i64 b] 39))
  clear hm hc ha
  go_enter Try.func18, Try.ntmps18
  go_wp2_with (first
    | (go_at_call 59; (with_reducible refine (task_m H.out _ _ _ HA.out _ HM.out).mono ?_); rintro r w1 ⟨rfl, hb1⟩)
    | fail)
  go_ret
  exact ⟨rfl, below_then (below_alloc0 (Below.refl _ _) _) hb1⟩

set_option maxHeartbeats 1000000 in
theorem at_14 {c : Cfg} (hc : OkC c) (N : Nat) (a b : Int) (ha : (Lit.int .i64 a).wf = true) (w : World) (hm : IsMap w N c) :
    Calls Try.prog 18 #[mapP N, .agg #[.int .i64 14, .int .i64 a, .int .i64 b]] w fun e w' => e = .returned (.int .i64 (plcc c 14 a b)) ∧ Below w.heap.size w w' := by
  have H := Lib.hid hc; have HA := Lib.hid ha
  have HM := Lib.hid (hm.alloc (.cells #[.int .i64 14, .int .i64 a, .int .i64 b] 39))
  rw [plcc, plc_b0 _ 14 a b (by decide) (by decide)]
  clear hm hc ha
  go_enter Try.func18, Try.ntmps18
  go_wp2_with (first
    | (go_at_call 38; (with_reducible refine (header_m H.out _ _ HA.out _ HM.out).mono ?_); rintro r w1 ⟨rfl, hb1⟩)
    | fail)
  go_ret
  exact ⟨rfl, below_then (below_alloc0 (Below.refl _ _) _) hb1⟩

set_option maxHeartbeats 1000000 in
theorem at_15 {c : Cfg} (hc : OkC c) (N : Nat) (a b : Int) (ha : (Lit.int .i64 a).wf = true) (w : World) (hm : IsMap w N c) :
    Calls Try.prog 18 #[mapP N, .agg #[.int .i64 15, .int .i64 a, .int .i64 b]] w fun e w' => e = .returned (.int .i64 (plcc c 15 a b)) ∧ Below w.heap.size w w' := by
  have H := Lib.hid hc; have HA := Lib.hid ha
  have HM := Lib.hid (hm.alloc (.cells #[.int .i64 15, .int .i64 a, .int .i64 b] 39))
  rw [plcc, plc_b0 _ 15 a b (by decide) (by decide)]
  clear hm hc ha
  go_enter Try.func18, Try.ntmps18
  go_wp2_with (first
    | (go_at_call 37; (with_reducible refine (state_m H.out _ _ HA.out _ HM.out).mono ?_); rintro r w1 ⟨rfl, hb1⟩)
    | fail)
  go_ret
  exact ⟨rfl, below_then (below_alloc0 (Below.refl _ _) _) hb1⟩

set_option maxHeartbeats 1000000 in
theorem at_16 {c : Cfg} (hc : OkC c) (N : Nat) (a b : Int) (ha : (Lit.int .i64 a).wf = true) (w : World) (hm : IsMap w N c) :
    Calls Try.prog 18 #[mapP N, .agg #[.int .i64 16, .int .i64 a, .int .i64 b]] w fun e w' => e = .returned (.int .i64 (plcc c 16 a b)) ∧ Below w.heap.size w w' := by
  have H := Lib.hid hc; have HA := Lib.hid ha
  have HM := Lib.hid (hm.alloc (.cells #[.int .i64 16, .int .i64 a, .int .i64 b] 39))
  rw [plcc, plc_b0 _ 16 a b (by decide) (by decide)]
  clear hm hc ha
  go_enter Try.func18, Try.ntmps18
  go_wp2_with (first
    | (go_at_call 60; (with_reducible refine (mark_m H.out _ _ HA.out _ HM.out).mono ?_); rintro r w1 ⟨rfl, hb1⟩)
    | fail)
  go_ret
  exact ⟨rfl, below_then (below_alloc0 (Below.refl _ _) _) hb1⟩

set_option maxHeartbeats 1000000 in
theorem at_17 {c : Cfg} (hc : OkC c) (N : Nat) (a b : Int) (ha : (Lit.int .i64 a).wf = true) (w : World) (hm : IsMap w N c) :
    Calls Try.prog 18 #[mapP N, .agg #[.int .i64 17, .int .i64 a, .int .i64 b]] w fun e w' => e = .returned (.int .i64 (plcc c 17 a b)) ∧ Below w.heap.size w w' := by
  have H := Lib.hid hc; have HA := Lib.hid ha
  have HM := Lib.hid (hm.alloc (.cells #[.int .i64 17, .int .i64 a, .int .i64 b] 39))
  rw [plcc, plc_b0 _ 17 a b (by decide) (by decide)]
  clear hm hc ha
  go_enter Try.func18, Try.ntmps18
  go_wp2_with (first
    | (go_at_call 34; (with_reducible refine (next_m H.out _ _ HA.out _ HM.out).mono ?_); rintro r w1 ⟨rfl, hb1⟩)
    | fail)
  go_ret
  exact ⟨rfl, below_then (below_alloc0 (Below.refl _ _) _) hb1⟩

set_option maxHeartbeats 1000000 in
theorem at_18 {c : Cfg} (hc : OkC c) (N : Nat) (a b : Int) (ha : (Lit.int .i64 a).wf = true) (w : World) (hm : IsMap w N c) :
    Calls Try.prog 18 #[mapP N, .agg #[.int .i64 18, .int .i64 a, .int .i64 b]] w fun e w' => e = .returned (.int .i64 (plcc c 18 a b)) ∧ Below w.heap.size w w' := by
  have H := Lib.hid hc; have HA := Lib.hid ha
  have HM := Lib.hid (hm.alloc (.cells #[.int .i64 18, .int .i64 a, .int .i64 b] 39))
  clear hm hc ha
  go_enter Try.func18, Try.ntmps18
  go_wp2_with (first
    | (go_at_call 61; (with_reducible refine (slot_m H.out _ _ _ HA.out _ HM.out).mono ?_); rintro r w1 ⟨rfl, hb1⟩)
    | fail)
  go_ret
  exact ⟨rfl, below_then (below_alloc0 (Below.refl _ _) _) hb1⟩

/-- A thing's place is the document's. -/
theorem at_any {c : Cfg} (hc : OkC c) (N : Nat) (k a b : Int) (h0 : 0 ≤ k) (h1 : k ≤ 18) (ha : (Lit.int .i64 a).wf = true) (w : World) (hm : IsMap w N c) :
    Calls Try.prog 18 #[mapP N, .agg #[.int .i64 k, .int .i64 a, .int .i64 b]] w fun e w' => e = .returned (.int .i64 (plcc c k a b)) ∧ Below w.heap.size w w' := by
  have : k = 0 ∨ k = 1 ∨ k = 2 ∨ k = 3 ∨ k = 4 ∨ k = 5 ∨ k = 6 ∨ k = 7 ∨ k = 8 ∨ k = 9 ∨ k = 10 ∨ k = 11 ∨ k = 12 ∨ k = 13 ∨ k = 14 ∨ k = 15 ∨ k = 16 ∨ k = 17 ∨ k = 18 := by omega
  rcases this with rfl | rfl | rfl | rfl | rfl | rfl | rfl | rfl | rfl | rfl | rfl | rfl | rfl | rfl | rfl | rfl | rfl | rfl | rfl
  · exact at_0 hc N a b ha w hm
  · exact at_1 hc N a b ha w hm
  · exact at_2 hc N a b ha w hm
  · exact at_3 hc N a b ha w hm
  · exact at_4 hc N a b ha w hm
  · exact at_5 hc N a b ha w hm
  · exact at_6 hc N a b ha w hm
  · exact at_7 hc N a b ha w hm
  · exact at_8 hc N a b ha w hm
  · exact at_9 hc N a b ha w hm
  · exact at_10 hc N a b ha w hm
  · exact at_11 hc N a b ha w hm
  · exact at_12 hc N a b ha w hm
  · exact at_13 hc N a b ha w hm
  · exact at_14 hc N a b ha w hm
  · exact at_15 hc N a b ha w hm
  · exact at_16 hc N a b ha w hm
  · exact at_17 hc N a b ha w hm
  · exact at_18 hc N a b ha w hm
end Go.Proofs.Ytkbfdcfgpmohkaa
