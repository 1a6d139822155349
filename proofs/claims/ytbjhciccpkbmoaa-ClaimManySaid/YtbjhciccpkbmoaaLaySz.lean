/- The functions of the package sizes, and the document's own, walked. -/
import Derived.Test.YtbjhciccpkbmoaaLayBase
namespace Go.Proofs.Ytbjhciccpkbmoaa.Lay
open Go.RowKit
set_option linter.unusedVariables false

def slotsOf (k : Int) : Int := if k = 0 then 1 else if k = 1 then 2 else if k = 2 then 4 else if k = 3 then 8 else if k = 4 then 16 else 0
theorem slots_bd (k : Int) : 0 ≤ slotsOf k ∧ slotsOf k ≤ 16 := by unfold slotsOf; omega

set_option maxHeartbeats 400000 in
theorem slots_any (k : Int) (w : World) :
    Calls Try.prog 33 #[.int .i64 k] w fun e w' => e = .returned (.int .i64 (slotsOf k)) ∧ w = w' := by
  by_cases h : 0 ≤ k ∧ k < 5
  · have : k = 0 ∨ k = 1 ∨ k = 2 ∨ k = 3 ∨ k = 4 := by omega
    clear h
    rcases this with rfl | rfl | rfl | rfl | rfl
    all_goals
      go_enter Try.func33, Try.ntmps33
      go_wp2
      go_ret
      exact ⟨rfl, rfl⟩
  · have hs : slotsOf k = 0 := by unfold slotsOf; omega
    have HS := Lib.hid hs; clear hs
    by_cases h1 : k < 0
    · clear h
      go_enter Try.func33, Try.ntmps33
      go_wp2
      go_ret
      exact ⟨ret_int HS.out.symm, rfl⟩
    · have h2 : 5 ≤ k := by omega
      have h3 : 0 ≤ k := by omega
      clear h h1
      go_enter Try.func33, Try.ntmps33
      go_wp2
      go_ret
      exact ⟨ret_int HS.out.symm, rfl⟩

/-- How many cells of a class count. -/
def many (c : Int) : Int := imin (imax c 0) 12
theorem many_bd (c : Int) : 0 ≤ many c ∧ many c ≤ 12 := by unfold many imin imax; omega
theorem many_is {c : Int} (h : 0 ≤ c ∧ c ≤ 12) : many c = c := by unfold many imin imax; omega

set_option maxHeartbeats 1000000 in
theorem within_any (a b c d e : Int) (w : World) :
    Calls Try.prog 72 #[.agg #[.int .i64 a, .int .i64 b, .int .i64 c, .int .i64 d, .int .i64 e]] w fun r w' => r = .returned (.agg #[.int .i64 (many a), .int .i64 (many b), .int .i64 (many c), .int .i64 (many d), .int .i64 (many e)]) ∧ Below w.heap.size w w' := by
  go_enter Try.func72, Try.ntmps72
  go_wp2
  refine wp_loop_rounds 6 ?_
  rw [rounds_succ]; go_wp2
  rw [rounds_succ]; go_wp2
  rw [rounds_succ]; go_wp2
  rw [rounds_succ]; go_wp2
  rw [rounds_succ]; go_wp2
  rw [rounds_succ]; go_wp2
  exact bodyPost_ret (v := .agg #[.int .i64 (many a), .int .i64 (many b), .int .i64 (many c), .int .i64 (many d), .int .i64 (many e)]) (by simp [results, Try.results72, go_sem, many]) rfl ⟨rfl, by go_grown⟩

set_option maxHeartbeats 1000000 in
theorem nodes_any (a b c d e : Int) (w : World) :
    Calls Try.prog 60 #[.agg #[.int .i64 a, .int .i64 b, .int .i64 c, .int .i64 d, .int .i64 e]] w fun r w' => r = .returned (.int .i64 (many a + many b + many c + many d + many e)) ∧ Below w.heap.size w w' := by
  obtain ⟨a0, a1⟩ := many_bd a
  obtain ⟨b0, b1⟩ := many_bd b
  obtain ⟨c0, c1⟩ := many_bd c
  obtain ⟨d0, d1⟩ := many_bd d
  obtain ⟨e0, e1⟩ := many_bd e
  go_enter Try.func60, Try.ntmps60
  go_wp2_with (go_at_call 72; (with_reducible refine (within_any _ _ _ _ _ _).mono ?_); rintro r w1 ⟨rfl, hb⟩; have hb := below_step ((Below.refl _ _).alloc (Nat.le_refl _) _) (by simp) hb)
  refine wp_loop_rounds 6 ?_
  rw [rounds_succ]; go_wp2
  rw [rounds_succ]; go_wp2
  rw [rounds_succ]; go_wp2
  rw [rounds_succ]; go_wp2
  rw [rounds_succ]; go_wp2
  rw [rounds_succ]; go_wp2
  go_ret
  exact ⟨rfl, hb.alloc hb.size _⟩

/-- The class of a cell. -/
def kindOf (a b c d e v : Int) : Int := if v < 1 then -1 else if v ≤ many a then 0 else if v ≤ many a + many b then 1 else if v ≤ many a + many b + many c then 2 else if v ≤ many a + many b + many c + many d then 3 else if v ≤ many a + many b + many c + many d + many e then 4 else -1

set_option maxHeartbeats 2000000 in
theorem class_any (a b c d e v : Int) (w : World) :
    Calls Try.prog 75 #[.agg #[.int .i64 a, .int .i64 b, .int .i64 c, .int .i64 d, .int .i64 e], .int .i64 v] w fun r w' => r = .returned (.int .i64 (kindOf a b c d e v)) ∧ Below w.heap.size w w' := by
  obtain ⟨a0, a1⟩ := many_bd a
  obtain ⟨b0, b1⟩ := many_bd b
  obtain ⟨c0, c1⟩ := many_bd c
  obtain ⟨d0, d1⟩ := many_bd d
  obtain ⟨e0, e1⟩ := many_bd e
  by_cases h : v < 1
  · go_enter Try.func75, Try.ntmps75
    go_wp2
    go_ret
    refine ⟨ret_int (by unfold kindOf; omega), ?_⟩
    exact (Below.refl _ _).alloc (Nat.le_refl _) _
  · go_enter Try.func75, Try.ntmps75
    go_wp2_with (go_at_call 72; (with_reducible refine (within_any _ _ _ _ _ _).mono ?_); rintro r w1 ⟨rfl, hb⟩; have hb := below_step ((Below.refl _ _).alloc (Nat.le_refl _) _) (by simp) hb)
    refine wp_loop_rounds 6 ?_
    repeat any_goals (rw [rounds_succ]; go_wp2)
    all_goals go_ret
    all_goals exact ⟨ret_int (by unfold kindOf; omega), hb.alloc hb.size _⟩

set_option maxHeartbeats 400000 in
theorem refSlots_any (k : Int) (w : World) :
    Calls Try.prog 74 #[.int .i64 k] w fun e w' => e = .returned (.int .i64 (slotsOf k)) ∧ w = w' := by
  by_cases h : 0 ≤ k ∧ k < 5
  · have : k = 0 ∨ k = 1 ∨ k = 2 ∨ k = 3 ∨ k = 4 := by omega
    clear h
    rcases this with rfl | rfl | rfl | rfl | rfl
    all_goals
      go_enter Try.func74, Try.ntmps74
      go_wp2
      refine wp_loop_rounds 6 ?_
      repeat any_goals (rw [rounds_succ]; go_wp2)
      go_ret
      exact ⟨rfl, rfl⟩
  · have hs : slotsOf k = 0 := by unfold slotsOf; omega
    have HS := Lib.hid hs; clear hs
    by_cases h1 : k < 0
    · clear h
      go_enter Try.func74, Try.ntmps74
      go_wp2
      go_ret
      exact ⟨ret_int HS.out.symm, rfl⟩
    · have h2 : 4 < k := by omega
      have h3 : 0 ≤ k := by omega
      clear h h1
      go_enter Try.func74, Try.ntmps74
      go_wp2
      go_ret
      exact ⟨ret_int HS.out.symm, rfl⟩

end Go.Proofs.Ytbjhciccpkbmoaa.Lay
