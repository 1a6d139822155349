/- The calls of three laws of the package sizes. -/
import Derived.Test.YtefnkfdlcbdfgaaLaws
import Derived.OpenShut
namespace Go.Proofs.Ytefnkfdlcbdfgaa
open Go.RowKit

set_option maxHeartbeats 400000 in
theorem walkOf (n k : Int) (w : World) :
    Calls Try.prog 3 #[.int .i64 n, .int .i64 k] w fun e w' => e = .returned (.bool true) ∧ Below w.heap.size w w' := by
  go_enter Try.func3, Try.ntmps3
  go_wp2_with (first
    | (go_at_call 8; (with_reducible refine (awake_any _).mono ?_); rintro e w1 ⟨rfl, hb1⟩)
    | (go_at_call 9; (with_reducible refine (of_any n _).mono ?_); rintro e w1 ⟨rfl, rfl⟩)
    | (go_at_call 10; (with_reducible refine (refOf_any n _).mono ?_); rintro e w1 ⟨rfl, rfl⟩)
    | (go_at_call 11; (with_reducible refine (slots_any k _).mono ?_); rintro e w1 ⟨rfl, rfl⟩)
    | (go_at_call 12; (with_reducible refine (refSlots_any k _).mono ?_); rintro e w1 ⟨rfl, rfl⟩)
    | (go_at_call 13; (with_reducible refine (words_any k _).mono ?_); rintro e w1 ⟨rfl, rfl⟩)
    | (go_at_call 14; (with_reducible refine (refWords_any k _).mono ?_); rintro e w1 ⟨rfl, rfl⟩))
  go_ret
  exact ⟨rfl, hb1⟩

/-- A number that has a name of its own. -/
def Named (x y : Int) : Prop := x = y
theorem named (x : Int) : ∃ q, Named x q := ⟨x, rfl⟩

set_option maxHeartbeats 1000000 in
theorem walkLeast (n : Int) (w : World) (w0 : (Lit.int .u8 n).wf = true) :
    Calls Try.prog 5 #[.int .u8 n] w fun e w' => e = .returned (.bool true) ∧ Below w.heap.size w w' := by
  obtain ⟨n0, n1⟩ := bounds_u8 w0
  clear w0
  by_cases h16 : 16 < n % 20
  · have hk := Lib.hid (show classOf (n % 20) = -1 by unfold classOf; omega)
    go_enter Try.func5, Try.ntmps5
    go_wp2_with (first
      | (go_at_call 8; (with_reducible refine (awake_any _).mono ?_); rintro e w1 ⟨rfl, hb1⟩)
      | (go_at_call 9; (with_reducible refine (of_is (n % 20) _ hk.out _).mono ?_); rintro e w1 ⟨rfl, rfl⟩))
    go_ret
    exact ⟨rfl, hb1⟩
  · have cs : ((n % 20 = 0 ∨ n % 20 = 1)) ∨ n % 20 = 2 ∨ (3 ≤ n % 20 ∧ n % 20 ≤ 4) ∨ (5 ≤ n % 20 ∧ n % 20 ≤ 8) ∨ (9 ≤ n % 20 ∧ n % 20 ≤ 16) := by omega
    rcases cs with cs | cs | cs | cs | cs
    · have hk := Lib.hid (show classOf (n % 20) = 0 by unfold classOf; omega)
      have hm : n % 20 ≤ 1 := by omega
      have hm0 : 0 ≤ n % 20 := by omega
      by_cases hz : n % 20 = 0
      · have hz1 : (n % 20 == 0) = true := by simpa using hz
        clear hz cs h16
        go_enter Try.func5, Try.ntmps5
        go_wp2_with (first
          | (go_at_call 8; (with_reducible refine (awake_any _).mono ?_); rintro e w1 ⟨rfl, hb1⟩)
          | (go_at_call 9; (with_reducible refine (of_is (n % 20) _ hk.out _).mono ?_); rintro e w1 ⟨rfl, rfl⟩)
          | (go_at_call 11; (with_reducible refine (slots_is 0 1 (by decide) _).mono ?_); rintro e w1 ⟨rfl, rfl⟩)
          | (go_at_call 13; (with_reducible refine (words_is 0 2 (by decide) _).mono ?_); rintro e w1 ⟨rfl, rfl⟩))
        go_ret
        exact ⟨rfl, hb1⟩
      · have hz1 : (n % 20 == 0) = false := by simpa using hz
        have hz2 : 1 ≤ n % 20 := by omega
        clear hz cs h16
        go_enter Try.func5, Try.ntmps5
        go_wp2_with (first
          | (go_at_call 8; (with_reducible refine (awake_any _).mono ?_); rintro e w1 ⟨rfl, hb1⟩)
          | (go_at_call 9; (with_reducible refine (of_is (n % 20) _ hk.out _).mono ?_); rintro e w1 ⟨rfl, rfl⟩)
          | (go_at_call 11; (with_reducible refine (slots_is 0 1 (by decide) _).mono ?_); rintro e w1 ⟨rfl, rfl⟩)
          | (go_at_call 13; (with_reducible refine (words_is 0 2 (by decide) _).mono ?_); rintro e w1 ⟨rfl, rfl⟩))
        go_ret
        exact ⟨rfl, hb1⟩
    · have hk := Lib.hid (show classOf (n % 20) = 1 by unfold classOf; omega)
      have hm : n % 20 ≤ 2 := by omega
      have hm0 : 2 ≤ n % 20 := by omega
      have hz1 : (n % 20 == 0) = false := by simp; omega
      clear cs h16
      go_enter Try.func5, Try.ntmps5
      go_wp2_with (first
        | (go_at_call 8; (with_reducible refine (awake_any _).mono ?_); rintro e w1 ⟨rfl, hb1⟩)
        | (go_at_call 9; (with_reducible refine (of_is (n % 20) _ hk.out _).mono ?_); rintro e w1 ⟨rfl, rfl⟩)
        | (go_at_call 11; (with_reducible refine (slots_is 1 2 (by decide) _).mono ?_); rintro e w1 ⟨rfl, rfl⟩)
        | (go_at_call 11; (with_reducible refine (slots_is 0 1 (by decide) _).mono ?_); rintro e w1 ⟨rfl, rfl⟩)
        | (go_at_call 13; (with_reducible refine (words_is 1 3 (by decide) _).mono ?_); rintro e w1 ⟨rfl, rfl⟩))
      go_ret
      exact ⟨rfl, hb1⟩
    · have hk := Lib.hid (show classOf (n % 20) = 2 by unfold classOf; omega)
      obtain ⟨hm0, hm⟩ := cs
      have hz1 : (n % 20 == 0) = false := by simp; omega
      clear h16
      go_enter Try.func5, Try.ntmps5
      go_wp2_with (first
        | (go_at_call 8; (with_reducible refine (awake_any _).mono ?_); rintro e w1 ⟨rfl, hb1⟩)
        | (go_at_call 9; (with_reducible refine (of_is (n % 20) _ hk.out _).mono ?_); rintro e w1 ⟨rfl, rfl⟩)
        | (go_at_call 11; (with_reducible refine (slots_is 2 4 (by decide) _).mono ?_); rintro e w1 ⟨rfl, rfl⟩)
        | (go_at_call 11; (with_reducible refine (slots_is 1 2 (by decide) _).mono ?_); rintro e w1 ⟨rfl, rfl⟩)
        | (go_at_call 13; (with_reducible refine (words_is 2 5 (by decide) _).mono ?_); rintro e w1 ⟨rfl, rfl⟩))
      go_ret
      exact ⟨rfl, hb1⟩
    · have hk := Lib.hid (show classOf (n % 20) = 3 by unfold classOf; omega)
      obtain ⟨hm0, hm⟩ := cs
      have hz1 : (n % 20 == 0) = false := by simp; omega
      clear h16
      go_enter Try.func5, Try.ntmps5
      go_wp2_with (first
        | (go_at_call 8; (with_reducible refine (awake_any _).mono ?_); rintro e w1 ⟨rfl, hb1⟩)
        | (go_at_call 9; (with_reducible refine (of_is (n % 20) _ hk.out _).mono ?_); rintro e w1 ⟨rfl, rfl⟩)
        | (go_at_call 11; (with_reducible refine (slots_is 3 8 (by decide) _).mono ?_); rintro e w1 ⟨rfl, rfl⟩)
        | (go_at_call 11; (with_reducible refine (slots_is 2 4 (by decide) _).mono ?_); rintro e w1 ⟨rfl, rfl⟩)
        | (go_at_call 13; (with_reducible refine (words_is 3 9 (by decide) _).mono ?_); rintro e w1 ⟨rfl, rfl⟩))
      go_ret
      exact ⟨rfl, hb1⟩
    · have hk := Lib.hid (show classOf (n % 20) = 4 by unfold classOf; omega)
      obtain ⟨hm0, hm⟩ := cs
      have hz1 : (n % 20 == 0) = false := by simp; omega
      clear h16
      go_enter Try.func5, Try.ntmps5
      go_wp2_with (first
        | (go_at_call 8; (with_reducible refine (awake_any _).mono ?_); rintro e w1 ⟨rfl, hb1⟩)
        | (go_at_call 9; (with_reducible refine (of_is (n % 20) _ hk.out _).mono ?_); rintro e w1 ⟨rfl, rfl⟩)
        | (go_at_call 11; (with_reducible refine (slots_is 4 16 (by decide) _).mono ?_); rintro e w1 ⟨rfl, rfl⟩)
        | (go_at_call 11; (with_reducible refine (slots_is 3 8 (by decide) _).mono ?_); rintro e w1 ⟨rfl, rfl⟩)
        | (go_at_call 13; (with_reducible refine (words_is 4 17 (by decide) _).mono ?_); rintro e w1 ⟨rfl, rfl⟩))
      go_ret
      exact ⟨rfl, hb1⟩

theorem slots_up (j k : Int) (h0 : 0 ≤ j) (h : j ≤ k) (h4 : k ≤ 4) : slotsOf j ≤ slotsOf k := by unfold slotsOf; omega
theorem class_up (m n : Int) (h0 : 0 ≤ m) (h : m ≤ n) (h4 : n ≤ 16) : 0 ≤ classOf m ∧ classOf m ≤ classOf n ∧ classOf n ≤ 4 := by unfold classOf; omega
theorem class_slots (k : Int) (h0 : 0 ≤ k) (h4 : k ≤ 4) : classOf (slotsOf k) = k := by unfold classOf slotsOf; omega
theorem words_slots (k : Int) (h0 : 0 ≤ k) (h4 : k ≤ 4) : wordsOf k = slotsOf k + 1 := by unfold wordsOf; rw [if_neg (by unfold slotsOf; omega)]

set_option maxHeartbeats 1000000 in
theorem walkFit (a b : Int) (w : World) (w0 : (Lit.int .u8 a).wf = true) (w1 : (Lit.int .u8 b).wf = true) :
    Calls Try.prog 7 #[.int .u8 a, .int .u8 b] w fun e w' => e = .returned (.bool true) ∧ Below w.heap.size w w' := by
  obtain ⟨a0, a1⟩ := bounds_u8 w0
  obtain ⟨b0, b1⟩ := bounds_u8 w1
  clear w0 w1
  have hpq : 0 ≤ imin (a % 17) (b % 17) ∧ imin (a % 17) (b % 17) ≤ imax (a % 17) (b % 17) ∧ imax (a % 17) (b % 17) ≤ 16 := by unfold imin imax; omega
  obtain ⟨p0, pq, q1⟩ := hpq
  obtain ⟨k0, k1, k2⟩ := class_up _ _ p0 pq q1
  obtain ⟨J, hJ⟩ := named (classOf (imin (a % 17) (b % 17)))
  obtain ⟨K, hK⟩ := named (classOf (imax (a % 17) (b % 17)))
  unfold Named at hJ hK
  rw [hJ] at k0 k1; rw [hK] at k1 k2
  have hJ := Lib.hid hJ
  have hK := Lib.hid hK
  by_cases e : J = K
  · subst e
    have s := Lib.hid (words_slots J k0 k2)
    have c := Lib.hid (class_slots J k0 k2)
    obtain ⟨b1, b2⟩ := slots_bd J
    clear p0 pq q1
    go_enter Try.func7, Try.ntmps7
    go_wp2_with (first
      | (go_at_call 8; (with_reducible refine (awake_any _).mono ?_); rintro e w1 ⟨rfl, hb1⟩)
      | (go_at_call 9; (with_reducible refine (of_is (imin (a % 17) (b % 17)) _ hJ.out _).mono ?_); rintro e w1 ⟨rfl, rfl⟩)
      | (go_at_call 9; (with_reducible refine (of_is (imax (a % 17) (b % 17)) _ hK.out _).mono ?_); rintro e w1 ⟨rfl, rfl⟩)
      | (go_at_call 9; (with_reducible refine (of_is (slotsOf J) _ c.out _).mono ?_); rintro e w1 ⟨rfl, rfl⟩)
      | (go_at_call 11; (with_reducible refine (slots_any J _).mono ?_); rintro e w1 ⟨rfl, rfl⟩)
      | (go_at_call 13; (with_reducible refine (words_is J _ s.out _).mono ?_); rintro e w1 ⟨rfl, rfl⟩))
    go_ret
    exact ⟨rfl, hb1⟩
  · have s := Lib.hid (words_slots J k0 (by omega))
    have s2 := Lib.hid (words_slots K (by omega) k2)
    have c := Lib.hid (class_slots K (by omega) k2)
    have lt : slotsOf J < slotsOf K := by unfold slotsOf; omega
    have e1 : (J == K) = false := by simpa using e
    have e2 : (slotsOf J == slotsOf K) = false := by simp; omega
    obtain ⟨b1, b2⟩ := slots_bd J
    obtain ⟨b3, b4⟩ := slots_bd K
    clear p0 pq q1 e
    go_enter Try.func7, Try.ntmps7
    go_wp2_with (first
      | (go_at_call 8; (with_reducible refine (awake_any _).mono ?_); rintro e w1 ⟨rfl, hb1⟩)
      | (go_at_call 9; (with_reducible refine (of_is (imin (a % 17) (b % 17)) _ hJ.out _).mono ?_); rintro e w1 ⟨rfl, rfl⟩)
      | (go_at_call 9; (with_reducible refine (of_is (imax (a % 17) (b % 17)) _ hK.out _).mono ?_); rintro e w1 ⟨rfl, rfl⟩)
      | (go_at_call 9; (with_reducible refine (of_is (slotsOf K) _ c.out _).mono ?_); rintro e w1 ⟨rfl, rfl⟩)
      | (go_at_call 11; (with_reducible refine (slots_any J _).mono ?_); rintro e w1 ⟨rfl, rfl⟩)
      | (go_at_call 11; (with_reducible refine (slots_any K _).mono ?_); rintro e w1 ⟨rfl, rfl⟩)
      | (go_at_call 13; (with_reducible refine (words_is J _ s.out _).mono ?_); rintro e w1 ⟨rfl, rfl⟩)
      | (go_at_call 13; (with_reducible refine (words_is K _ s2.out _).mono ?_); rintro e w1 ⟨rfl, rfl⟩))
    go_ret
    exact ⟨rfl, hb1⟩
end Go.Proofs.Ytefnkfdlcbdfgaa
