/- The document's own answers for the package sizes, walked; and the calls of three laws. -/
import Derived.Test.YtefnkfdlcbdfgaaSizes
import Derived.OpenShut
namespace Go.Proofs.Ytefnkfdlcbdfgaa
open Go.RowKit

set_option maxHeartbeats 400000 in
theorem refSlots_any (k : Int) (w : World) :
    Calls Try.prog 12 #[.int .i64 k] w fun e w' => e = .returned (.int .i64 (slotsOf k)) ∧ w = w' := by
  by_cases h : 0 ≤ k ∧ k < 5
  · have : k = 0 ∨ k = 1 ∨ k = 2 ∨ k = 3 ∨ k = 4 := by omega
    clear h
    rcases this with rfl | rfl | rfl | rfl | rfl
    all_goals
      go_enter Try.func12, Try.ntmps12
      go_wp2
      refine wp_loop_rounds 6 ?_
      repeat any_goals (rw [rounds_succ]; go_wp2)
      go_ret
      exact ⟨rfl, rfl⟩
  · have hs : slotsOf k = 0 := by unfold slotsOf; omega
    have HS := Lib.hid hs; clear hs
    by_cases h1 : k < 0
    · clear h
      go_enter Try.func12, Try.ntmps12
      go_wp2
      go_ret
      exact ⟨ret_int HS.out.symm, rfl⟩
    · have h2 : 4 < k := by omega
      have h3 : 0 ≤ k := by omega
      clear h h1
      go_enter Try.func12, Try.ntmps12
      go_wp2
      go_ret
      exact ⟨ret_int HS.out.symm, rfl⟩

set_option maxHeartbeats 400000 in
theorem refWords_any (k : Int) (w : World) :
    Calls Try.prog 14 #[.int .i64 k] w fun e w' => e = .returned (.int .i64 (wordsOf k)) ∧ w = w' := by
  obtain ⟨s0, s1⟩ := slots_bd k
  by_cases h : 0 ≤ k ∧ k < 5
  · have hw : wordsOf k = slotsOf k + 1 := by unfold wordsOf; rw [if_neg (by unfold slotsOf; omega)]
    have HS := Lib.hid hw; clear hw
    obtain ⟨h1, h2⟩ := h
    go_enter Try.func14, Try.ntmps14
    go_wp2_with (go_at_call 12; (with_reducible refine (refSlots_any k _).mono ?_); rintro e w1 ⟨rfl, rfl⟩)
    go_ret
    exact ⟨ret_int HS.out.symm, rfl⟩
  · have hw : wordsOf k = 0 := by unfold wordsOf; rw [if_pos (by unfold slotsOf; omega)]
    have HS := Lib.hid hw; clear hw
    by_cases h1 : k < 0
    · clear h
      go_enter Try.func14, Try.ntmps14
      go_wp2
      go_ret
      exact ⟨ret_int HS.out.symm, rfl⟩
    · have h2 : 4 < k := by omega
      have h3 : 0 ≤ k := by omega
      clear h h1
      go_enter Try.func14, Try.ntmps14
      go_wp2
      go_ret
      exact ⟨ret_int HS.out.symm, rfl⟩

set_option maxHeartbeats 1000000 in
theorem refOf_any (n : Int) (w : World) :
    Calls Try.prog 10 #[.int .i64 n] w fun e w' => e = .returned (.int .i64 (classOf n)) ∧ w = w' := by
  by_cases h : n < 0
  · have hs : classOf n = -1 := by unfold classOf; omega
    have HS := Lib.hid hs; clear hs
    go_enter Try.func10, Try.ntmps10
    go_wp2
    go_ret
    exact ⟨ret_int HS.out.symm, rfl⟩
  · by_cases h1 : 16 < n
    · have hs : classOf n = -1 := by unfold classOf; omega
      have HS := Lib.hid hs; clear hs
      have h0 : 0 ≤ n := by omega
      clear h
      go_enter Try.func10, Try.ntmps10
      go_wp2
      go_ret
      exact ⟨ret_int HS.out.symm, rfl⟩
    · have h0 : 0 ≤ n := by omega
      have h2 : n ≤ 16 := by omega
      clear h h1
      have e0 : slotsOf 0 = 1 := rfl
      have e1 : slotsOf 1 = 2 := rfl
      have e2 : slotsOf 2 = 4 := rfl
      have e3 : slotsOf 3 = 8 := rfl
      have e4 : slotsOf 4 = 16 := rfl
      go_enter Try.func10, Try.ntmps10
      go_wp2
      refine wp_loop_rounds 6 ?_
      repeat any_goals (rw [rounds_succ]; go_wp2_with (go_at_call 12; (with_reducible refine (refSlots_any _ _).mono ?_); rintro e w1 ⟨rfl, rfl⟩))
      all_goals go_ret
      all_goals (refine ⟨ret_int ?_, rfl⟩; unfold classOf; omega)

theorem of_is (n k : Int) (h : classOf n = k) (w : World) : Calls Try.prog 9 #[.int .i64 n] w fun e w' => e = .returned (.int .i64 k) ∧ w = w' :=
  (of_any n w).mono fun _ _ ⟨he, hb⟩ => ⟨by rw [he, h], hb⟩
theorem slots_is (n k : Int) (h : slotsOf n = k) (w : World) : Calls Try.prog 11 #[.int .i64 n] w fun e w' => e = .returned (.int .i64 k) ∧ w = w' :=
  (slots_any n w).mono fun _ _ ⟨he, hb⟩ => ⟨by rw [he, h], hb⟩
theorem words_is (n k : Int) (h : wordsOf n = k) (w : World) : Calls Try.prog 13 #[.int .i64 n] w fun e w' => e = .returned (.int .i64 k) ∧ w = w' :=
  (words_any n w).mono fun _ _ ⟨he, hb⟩ => ⟨by rw [he, h], hb⟩

theorem nodes_is (a b c d e v : Int) (h : many a + many b + many c + many d + many e = v) (w : World) :
    Calls Try.prog 16 #[.agg #[.int .i64 a, .int .i64 b, .int .i64 c, .int .i64 d, .int .i64 e]] w fun r w' => r = .returned (.int .i64 v) ∧ Below w.heap.size w w' :=
  (nodes_any a b c d e w).mono fun _ _ ⟨he, hb⟩ => ⟨by rw [he, h], hb⟩
theorem total_is (a b c d e v : Int) (h : many a * 2 + many b * 3 + many c * 5 + many d * 9 + many e * 17 = v) (w : World) :
    Calls Try.prog 17 #[.agg #[.int .i64 a, .int .i64 b, .int .i64 c, .int .i64 d, .int .i64 e]] w fun r w' => r = .returned (.int .i64 v) ∧ Below w.heap.size w w' :=
  (total_any a b c d e w).mono fun _ _ ⟨he, hb⟩ => ⟨by rw [he, h], hb⟩
theorem class_is (a b c d e n v : Int) (h : kindOf a b c d e n = v) (w : World) :
    Calls Try.prog 18 #[.agg #[.int .i64 a, .int .i64 b, .int .i64 c, .int .i64 d, .int .i64 e], .int .i64 n] w fun r w' => r = .returned (.int .i64 v) ∧ Below w.heap.size w w' :=
  (class_any a b c d e n w).mono fun _ _ ⟨he, hb⟩ => ⟨by rw [he, h], hb⟩


theorem bcell {W w1 : World} (hb : Below W.heap.size W w1) : (∀ b o, b < W.heap.size → w1.cell? ⟨b, o, none⟩ = W.cell? ⟨b, o, none⟩) ∧ (∀ b o, b < W.heap.size → w1.frozen? ⟨b, o, none⟩ = W.frozen? ⟨b, o, none⟩) :=
  ⟨fun b o h => hb.cell (p := ⟨b, o, none⟩) h, fun b o h => hb.frozen (p := ⟨b, o, none⟩) h⟩

set_option maxHeartbeats 1000000 in
theorem awake_any (w : World) : Calls Try.prog 8 #[] w fun e w' => e = .returned (.bool true) ∧ Below w.heap.size w w' := by
  go_enter Try.func8, Try.ntmps8
  go_wp2_with (first
    | (go_at_call 9; (with_reducible refine (of_is 3 2 (by decide) _).mono ?_); rintro e w1 ⟨rfl, rfl⟩)
    | (go_at_call 11; (with_reducible refine (slots_is 2 4 (by decide) _).mono ?_); rintro e w1 ⟨rfl, rfl⟩)
    | (go_at_call 13; (with_reducible refine (words_is 2 5 (by decide) _).mono ?_); rintro e w1 ⟨rfl, rfl⟩)
    | (go_at_call 16; (with_reducible refine (nodes_is 2 0 1 0 0 3 (by decide) _).mono ?_); rintro e w1 ⟨rfl, hb1⟩; obtain ⟨hc, hf⟩ := bcell hb1; have hz : w.heap.size < w1.heap.size := (by have := hb1.size; simp at this; omega))
    | (go_at_call 17; (with_reducible refine (total_is 2 0 1 0 0 9 (by decide) _).mono ?_); rintro e w2 ⟨rfl, hb2⟩; obtain ⟨hc2, hf2⟩ := bcell hb2; have hz2 : w.heap.size < w2.heap.size := (by have := hb2.size; omega))
    | (go_at_call 18; (with_reducible refine (class_is 2 0 1 0 0 3 2 (by decide) _).mono ?_); rintro e w3 ⟨rfl, hb3⟩; obtain ⟨hc3, hf3⟩ := bcell hb3; have hz3 : w.heap.size < w3.heap.size := (by have := hb3.size; omega))
    | (go_at_call 18; (with_reducible refine (class_is 2 0 1 0 0 4 (-1) (by decide) _).mono ?_); rintro e w4 ⟨rfl, hb4⟩))
  go_ret
  refine ⟨rfl, ?_⟩
  have c1 := below_step ((Below.refl _ _).alloc (Nat.le_refl _) _) (by simp) hb1
  have c2 := below_step c1 c1.size hb2
  have c3 := below_step c2 c2.size hb3
  exact below_step c3 c3.size hb4
end Go.Proofs.Ytefnkfdlcbdfgaa
