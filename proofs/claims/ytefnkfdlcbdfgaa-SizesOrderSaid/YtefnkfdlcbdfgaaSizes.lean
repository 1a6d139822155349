/- The functions of the package sizes, walked. -/
import Derived.Test.YtefnkfdlcbdfgaaRows
import Derived.WalkKit
import Derived.WalkSpells
import Derived.WalkLawsBesides
import Derived.WalkSmall
import Derived.BigQuiet
import Derived.BigRegion
import Derived.Deep.QuietTactic
import Derived.Deep.RegionWith
import Derived.Lib.Hide
import Derived.Handy
import Derived.Laws.ResultCell
import Derived.LoopN

namespace Go.Proofs.Ytefnkfdlcbdfgaa
open Go.RowKit

theorem ret_int {k : IntKind} {a b : Int} (h : a = b) : Ending.returned (.int k a) = .returned (.int k b) := by rw [h]

/-- Below a block's number, through a callee's own. -/
theorem below_step {B : Nat} {a w w' : World} (h : Below B a w) (hB : B ≤ w.heap.size) (k : Below w.heap.size w w') : Below B a w' := h.trans (k.mono hB)

def slotsOf (k : Int) : Int := if k = 0 then 1 else if k = 1 then 2 else if k = 2 then 4 else if k = 3 then 8 else if k = 4 then 16 else 0

set_option maxHeartbeats 400000 in
theorem slots_any (k : Int) (w : World) :
    Calls Try.prog 11 #[.int .i64 k] w fun e w' => e = .returned (.int .i64 (slotsOf k)) ∧ w = w' := by
  by_cases h : 0 ≤ k ∧ k < 5
  · have : k = 0 ∨ k = 1 ∨ k = 2 ∨ k = 3 ∨ k = 4 := by omega
    clear h
    rcases this with rfl | rfl | rfl | rfl | rfl
    all_goals
      go_enter Try.func11, Try.ntmps11
      go_wp2
      go_ret
      exact ⟨rfl, rfl⟩
  · have hs : slotsOf k = 0 := by unfold slotsOf; omega
    have HS := Lib.hid hs; clear hs
    by_cases h1 : k < 0
    · clear h
      go_enter Try.func11, Try.ntmps11
      go_wp2
      go_ret
      exact ⟨ret_int HS.out.symm, rfl⟩
    · have h2 : 5 ≤ k := by omega
      have h3 : 0 ≤ k := by omega
      clear h h1
      go_enter Try.func11, Try.ntmps11
      go_wp2
      go_ret
      exact ⟨ret_int HS.out.symm, rfl⟩

def wordsOf (k : Int) : Int := if slotsOf k = 0 then 0 else slotsOf k + 1

theorem slots_bd (k : Int) : 0 ≤ slotsOf k ∧ slotsOf k ≤ 16 := by unfold slotsOf; omega

set_option maxHeartbeats 400000 in
theorem words_any (k : Int) (w : World) :
    Calls Try.prog 13 #[.int .i64 k] w fun e w' => e = .returned (.int .i64 (wordsOf k)) ∧ w = w' := by
  obtain ⟨s0, s1⟩ := slots_bd k
  by_cases h : slotsOf k = 0
  · have hw : wordsOf k = 0 := by unfold wordsOf; simp [h]
    have ht : (slotsOf k == 0) = true := by simp [h]
    have HS := Lib.hid hw; clear hw h
    go_enter Try.func13, Try.ntmps13
    go_wp2_with (go_at_call 11; (with_reducible refine (slots_any k _).mono ?_); rintro e w1 ⟨rfl, rfl⟩)
    go_ret
    exact ⟨ret_int HS.out.symm, rfl⟩
  · have hw : wordsOf k = slotsOf k + 1 := by unfold wordsOf; simp [h]
    have ht : (slotsOf k == 0) = false := by simp [h]
    have HS := Lib.hid hw; clear hw h
    go_enter Try.func13, Try.ntmps13
    go_wp2_with (go_at_call 11; (with_reducible refine (slots_any k _).mono ?_); rintro e w1 ⟨rfl, rfl⟩)
    go_ret
    exact ⟨ret_int HS.out.symm, rfl⟩

def classOf (n : Int) : Int := if n < 0 then -1 else if n ≤ 1 then 0 else if n ≤ 2 then 1 else if n ≤ 4 then 2 else if n ≤ 8 then 3 else if n ≤ 16 then 4 else -1

set_option maxHeartbeats 1000000 in
theorem of_any (n : Int) (w : World) :
    Calls Try.prog 9 #[.int .i64 n] w fun e w' => e = .returned (.int .i64 (classOf n)) ∧ w = w' := by
  by_cases h : n < 0
  · have hs : classOf n = -1 := by unfold classOf; omega
    have HS := Lib.hid hs; clear hs
    go_enter Try.func9, Try.ntmps9
    go_wp2
    go_ret
    exact ⟨ret_int HS.out.symm, rfl⟩
  · have h0 : 0 ≤ n := by omega
    clear h
    have e0 : slotsOf 0 = 1 := rfl
    have e1 : slotsOf 1 = 2 := rfl
    have e2 : slotsOf 2 = 4 := rfl
    have e3 : slotsOf 3 = 8 := rfl
    have e4 : slotsOf 4 = 16 := rfl
    go_enter Try.func9, Try.ntmps9
    go_wp2
    refine wp_loop_rounds 6 ?_
    repeat any_goals (rw [rounds_succ]; go_wp2_with (go_at_call 11; (with_reducible refine (slots_any _ _).mono ?_); rintro e w1 ⟨rfl, rfl⟩))
    all_goals go_ret
    all_goals (refine ⟨ret_int ?_, rfl⟩; unfold classOf; omega)

def imax (x y : Int) : Int := if y > x then y else x
def imin (x y : Int) : Int := if y < x then y else x
@[go_sem ↓ high] theorem run_imax {P : Program} {w : World} (ts : Array TypeId) (t : TypeId) (k k' : IntKind) (x y : Int) : (Builtin.max_ ts t #[.int k x, .int k' y]).run P w = .ok (.int k (imax x y)) w := run_max_int2 ..
@[go_sem ↓ high] theorem run_imin {P : Program} {w : World} (ts : Array TypeId) (t : TypeId) (k k' : IntKind) (x y : Int) : (Builtin.min_ ts t #[.int k x, .int k' y]).run P w = .ok (.int k (imin x y)) w := run_min_int2 ..
/-- How many cells of a class count. -/
def many (c : Int) : Int := imin (imax c 0) 12
theorem many_bd (c : Int) : 0 ≤ many c ∧ many c ≤ 12 := by unfold many imin imax; omega

set_option maxHeartbeats 1000000 in
theorem within_any (a b c d e : Int) (w : World) :
    Calls Try.prog 19 #[.agg #[.int .i64 a, .int .i64 b, .int .i64 c, .int .i64 d, .int .i64 e]] w fun r w' => r = .returned (.agg #[.int .i64 (many a), .int .i64 (many b), .int .i64 (many c), .int .i64 (many d), .int .i64 (many e)]) ∧ Below w.heap.size w w' := by
  go_enter Try.func19, Try.ntmps19
  go_wp2
  refine wp_loop_rounds 6 ?_
  rw [rounds_succ]; go_wp2
  rw [rounds_succ]; go_wp2
  rw [rounds_succ]; go_wp2
  rw [rounds_succ]; go_wp2
  rw [rounds_succ]; go_wp2
  rw [rounds_succ]; go_wp2
  exact bodyPost_ret (v := .agg #[.int .i64 (many a), .int .i64 (many b), .int .i64 (many c), .int .i64 (many d), .int .i64 (many e)]) (by simp [results, Try.results19, go_sem, many]) rfl ⟨rfl, by go_grown⟩

set_option maxHeartbeats 1000000 in
theorem nodes_any (a b c d e : Int) (w : World) :
    Calls Try.prog 16 #[.agg #[.int .i64 a, .int .i64 b, .int .i64 c, .int .i64 d, .int .i64 e]] w fun r w' => r = .returned (.int .i64 (many a + many b + many c + many d + many e)) ∧ Below w.heap.size w w' := by
  obtain ⟨a0, a1⟩ := many_bd a
  obtain ⟨b0, b1⟩ := many_bd b
  obtain ⟨c0, c1⟩ := many_bd c
  obtain ⟨d0, d1⟩ := many_bd d
  obtain ⟨e0, e1⟩ := many_bd e
  go_enter Try.func16, Try.ntmps16
  go_wp2_with (go_at_call 19; (with_reducible refine (within_any _ _ _ _ _ _).mono ?_); rintro r w1 ⟨rfl, hb⟩; have hb := below_step ((Below.refl _ _).alloc (Nat.le_refl _) _) (by simp) hb)
  refine wp_loop_rounds 6 ?_
  rw [rounds_succ]; go_wp2
  rw [rounds_succ]; go_wp2
  rw [rounds_succ]; go_wp2
  rw [rounds_succ]; go_wp2
  rw [rounds_succ]; go_wp2
  rw [rounds_succ]; go_wp2
  go_ret
  exact ⟨rfl, hb.alloc hb.size _⟩

theorem words_lit (k v : Int) (h : wordsOf k = v) (w : World) : Calls Try.prog 13 #[.int .i64 k] w fun e w' => e = .returned (.int .i64 v) ∧ w' = w :=
  (words_any k w).mono fun _ _ ⟨he, hb⟩ => ⟨by rw [he, h], hb.symm⟩

set_option maxHeartbeats 2000000 in
theorem total_any (a b c d e : Int) (w : World) :
    Calls Try.prog 17 #[.agg #[.int .i64 a, .int .i64 b, .int .i64 c, .int .i64 d, .int .i64 e]] w fun r w' => r = .returned (.int .i64 (many a * 2 + many b * 3 + many c * 5 + many d * 9 + many e * 17)) ∧ Below w.heap.size w w' := by
  obtain ⟨a0, a1⟩ := many_bd a
  obtain ⟨b0, b1⟩ := many_bd b
  obtain ⟨c0, c1⟩ := many_bd c
  obtain ⟨d0, d1⟩ := many_bd d
  obtain ⟨e0, e1⟩ := many_bd e
  go_enter Try.func17, Try.ntmps17
  go_wp2_with (go_at_call 19; (with_reducible refine (within_any _ _ _ _ _ _).mono ?_); rintro r w1 ⟨rfl, hb⟩; have hb := below_step ((Below.refl _ _).alloc (Nat.le_refl _) _) (by simp) hb)
  refine wp_loop_rounds 6 ?_
  rw [rounds_succ]; go_wp2
  go_quiet ((go_at_call 13; exact (words_lit 0 2 rfl _).mono fun _ _ ⟨he, hm⟩ => ⟨he, _, hm⟩))
  go_wp2
  rw [rounds_succ]; go_wp2
  go_quiet ((go_at_call 13; exact (words_lit 1 3 rfl _).mono fun _ _ ⟨he, hm⟩ => ⟨he, _, hm⟩))
  go_wp2
  rw [rounds_succ]; go_wp2
  go_quiet ((go_at_call 13; exact (words_lit 2 5 rfl _).mono fun _ _ ⟨he, hm⟩ => ⟨he, _, hm⟩))
  go_wp2
  rw [rounds_succ]; go_wp2
  go_quiet ((go_at_call 13; exact (words_lit 3 9 rfl _).mono fun _ _ ⟨he, hm⟩ => ⟨he, _, hm⟩))
  go_wp2
  rw [rounds_succ]; go_wp2
  go_quiet ((go_at_call 13; exact (words_lit 4 17 rfl _).mono fun _ _ ⟨he, hm⟩ => ⟨he, _, hm⟩))
  go_wp2
  rw [rounds_succ]; go_wp2
  go_ret
  refine ⟨rfl, ?_⟩
  exact below_drewN (hb.alloc hb.size _) _

/-- The class of a cell. -/
def kindOf (a b c d e v : Int) : Int := if v < 1 then -1 else if v ≤ many a then 0 else if v ≤ many a + many b then 1 else if v ≤ many a + many b + many c then 2 else if v ≤ many a + many b + many c + many d then 3 else if v ≤ many a + many b + many c + many d + many e then 4 else -1

set_option maxHeartbeats 2000000 in
theorem class_any (a b c d e v : Int) (w : World) :
    Calls Try.prog 18 #[.agg #[.int .i64 a, .int .i64 b, .int .i64 c, .int .i64 d, .int .i64 e], .int .i64 v] w fun r w' => r = .returned (.int .i64 (kindOf a b c d e v)) ∧ Below w.heap.size w w' := by
  obtain ⟨a0, a1⟩ := many_bd a
  obtain ⟨b0, b1⟩ := many_bd b
  obtain ⟨c0, c1⟩ := many_bd c
  obtain ⟨d0, d1⟩ := many_bd d
  obtain ⟨e0, e1⟩ := many_bd e
  by_cases h : v < 1
  · go_enter Try.func18, Try.ntmps18
    go_wp2
    go_ret
    refine ⟨ret_int (by unfold kindOf; omega), ?_⟩
    exact (Below.refl _ _).alloc (Nat.le_refl _) _
  · go_enter Try.func18, Try.ntmps18
    go_wp2_with (go_at_call 19; (with_reducible refine (within_any _ _ _ _ _ _).mono ?_); rintro r w1 ⟨rfl, hb⟩; have hb := below_step ((Below.refl _ _).alloc (Nat.le_refl _) _) (by simp) hb)
    refine wp_loop_rounds 6 ?_
    repeat any_goals (rw [rounds_succ]; go_wp2)
    all_goals go_ret
    all_goals exact ⟨ret_int (by unfold kindOf; omega), hb.alloc hb.size _⟩
end Go.Proofs.Ytefnkfdlcbdfgaa
