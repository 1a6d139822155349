/- The document's picks by turns, walked. -/
import Derived.Test.YtadfdpkmegaloaaRound
namespace Go.Proofs.Ytadfdpkmegaloaa
open Go.RowKit
set_option linter.unusedVariables false

set_option maxHeartbeats 1000000 in
theorem refround_none (all rounds from_ draw : Int) (w : World) (h : all < 1 ∨ rounds < 1 ∨ 10000 < all * rounds) :
    Calls Try.prog 18 #[.int .i64 all, .int .i64 rounds, .int .i64 from_, .int .i64 draw] w (SomeP 47 [] w) := by
  by_cases h1 : all < 1
  · clear h
    go_enter Try.func18, Try.ntmps18
    go_wp2
    go_ret
    exact ⟨_, rfl, OwnP.nil (Below.refl _ _)⟩
  by_cases h2 : rounds < 1
  · clear h
    go_enter Try.func18, Try.ntmps18
    go_wp2
    go_ret
    exact ⟨_, rfl, OwnP.nil (Below.refl _ _)⟩
  have h3 : 10000 < all * rounds := by omega
  have h4 : 1 ≤ all := by omega
  have h5 : 1 ≤ rounds := by omega
  clear h h1 h2
  by_cases h6 : 10000 < all
  · clear h3
    go_enter Try.func18, Try.ntmps18
    go_wp2
    go_ret
    exact ⟨_, rfl, OwnP.nil (Below.refl _ _)⟩
  by_cases h7 : 10000 < rounds
  · clear h3
    go_enter Try.func18, Try.ntmps18
    go_wp2
    go_ret
    exact ⟨_, rfl, OwnP.nil (Below.refl _ _)⟩
  have h8 : all * rounds ≤ 100000000 := by
    have h9 : all * rounds ≤ all * 10000 := Int.mul_le_mul_of_nonneg_left (by omega) (by omega)
    omega
  have h10 : all ≤ 10000 := by omega
  have h11 : rounds ≤ 10000 := by omega
  clear h6 h7
  go_enter Try.func18, Try.ntmps18
  go_wp2
  go_ret
  exact ⟨_, rfl, OwnP.nil (Below.refl _ _)⟩

theorem mod_step (f : Int) (a k : Nat) (ha : 1 ≤ a) : (f + ((k + 1 : Nat) : Int)) % (a : Int) = if (f + (k : Int)) % (a : Int) + 1 = (a : Int) then 0 else (f + (k : Int)) % (a : Int) + 1 := by
  have h0 := Int.emod_nonneg (f + (k : Int)) (show (a : Int) ≠ 0 by omega)
  have h1 := Int.emod_lt_of_pos (f + (k : Int)) (show 0 < (a : Int) by omega)
  have e : (f + ((k + 1 : Nat) : Int)) % (a : Int) = ((f + (k : Int)) % (a : Int) + 1) % (a : Int) := by
    rw [Int.emod_add_emod]; congr 1; omega
  rw [e]
  split
  · rename_i h; rw [h, Int.emod_self]
  · rw [Int.emod_eq_of_lt (by omega) (by omega)]

set_option maxHeartbeats 4000000 in
set_option maxRecDepth 100000 in
theorem refround_some (a r N : Nat) (from_ draw : Int) (w : World) (ha : 1 ≤ a) (hr : 1 ≤ r) (hN : a * r = N) (hb : N ≤ 10000) (h3 : -9223372036854775808 ≤ from_) (h4 : from_ ≤ 9223372036854775807) :
    Calls Try.prog 18 #[.int .i64 a, .int .i64 r, .int .i64 from_, .int .i64 draw] w (SomeP 47 (roundTo a (from_ % a) draw N) w) := by
  have ha2 : a ≤ 10000 := by have := Nat.le_mul_of_pos_right a (show 0 < r by omega); omega
  have hr2 : r ≤ 10000 := by have := Nat.le_mul_of_pos_left r (show 0 < a by omega); omega
  have hN1 : 1 ≤ N := by have := Nat.le_mul_of_pos_right a (show 0 < r by omega); omega
  have hm : (a : Int) * (r : Int) = (N : Int) := by rw [← hN]; simp
  have e0 : ((a : Int) == 0) = false := by rw [beq_eq_false_iff_ne]; omega
  have e1 : (a == 0) = false := by rw [beq_eq_false_iff_ne]; omega
  have ha3 : (1 : Int) ≤ (a : Int) := by omega
  have hr3 : (1 : Int) ≤ (r : Int) := by omega
  obtain ⟨t1, t2, t3⟩ := tmod_bd from_ a (by omega)
  have f0 := Int.emod_nonneg from_ (show (a : Int) ≠ 0 by omega)
  have f1 := Int.emod_lt_of_pos from_ (show 0 < (a : Int) by omega)
  have T1 : Hid (from_.tmod a < 0 → from_.tmod a + a = from_ % (a : Int)) := Lib.hid (fun h => by rw [← t3, Int.emod_eq_of_lt (by omega) (by omega)])
  have T2 : Hid (0 ≤ from_.tmod a → from_.tmod a = from_ % (a : Int)) := Lib.hid (fun h => by rw [← t3, Int.add_emod_right, Int.emod_eq_of_lt (by omega) (by omega)])
  obtain ⟨f, hf⟩ : ∃ f, f = from_ % (a : Int) := ⟨_, rfl⟩
  rw [← hf] at f0 f1 T1 T2 ⊢
  have hfm : (f + ((0 : Nat) : Int)) % (a : Int) = f := by rw [Int.natCast_zero, Int.add_zero, Int.emod_eq_of_lt f0 f1]
  have HFM := Lib.hid hfm
  clear hN hf t3 hfm
  by_cases tn : from_.tmod a < 0
  all_goals
    go_enter Try.func18, Try.ntmps18
    go_wp2
    go_loopw [9, 10, 11] (fun v u i wr => ∃ (k : Nat) (u' : Int), k ≤ N ∧ i = .int .i64 (k : Int) ∧ u = .int .i64 u' ∧ u' = (f + (k : Int)) % (a : Int) ∧ OwnP 47 w.heap.size w wr v (roundTo a f draw k)) (fun _ _ i _ => N - (intOf i).toNat)
    case atStart =>
      first
        | exact ⟨0, _, Nat.zero_le _, rfl, rfl, (T1.out (by assumption)).trans HFM.out.symm, OwnP.nil (Below.refl _ _)⟩
        | exact ⟨0, _, Nat.zero_le _, rfl, rfl, (T2.out (by omega)).trans HFM.out.symm, OwnP.nil (Below.refl _ _)⟩
    case round =>
      obtain ⟨k, u', hk, rfl, rfl, hu, hO⟩ := hrel
      have u0 := Int.emod_nonneg (f + (k : Int)) (show (a : Int) ≠ 0 by omega)
      have u1 := Int.emod_lt_of_pos (f + (k : Int)) (show 0 < (a : Int) by omega)
      rw [← hu] at u0 u1
      by_cases hlt : k < N
      · have hms := mod_step f a k (by omega)
        rw [← hu] at hms
        have hst := roundTo_succ a f draw k
        rw [← hu] at hst
        have HM := Lib.hid hms
        have HS := Lib.hid hst
        have HO := Lib.hid hO
        have HL : Hid ((roundTo a f draw k).length ≤ 10000) := Lib.hid (by rw [roundTo_len]; omega)
        clear hms hst hO hu
        by_cases hua : u' + 1 = a
        · have hw : (u' + 1 == (a : Int)) = true := by rw [beq_iff_eq]; omega
          have HU := Lib.hid hua
          clear hua
          go_wp2_with (at_builtin; refine append_one rfl _ _ 27 47 rfl Try.underlying27 info47 _ _ _ _ rfl HO.out rfl ?_ ?_ ?_; (have := HL.out; omega); (exact Nat.le_refl _); intro v' w5 HO5)
          go_roundw
          case rel => exact ⟨k + 1, _, by omega, by go_num, rfl, by rw [HM.out, if_pos HU.out], by rw [HS.out]; exact HO5⟩
          case measure => simp [intOf]; omega
        · have hw : (u' + 1 == (a : Int)) = false := by rw [beq_eq_false_iff_ne]; omega
          have HU := Lib.hid hua
          clear hua
          go_wp2_with (at_builtin; refine append_one rfl _ _ 27 47 rfl Try.underlying27 info47 _ _ _ _ rfl HO.out rfl ?_ ?_ ?_; (have := HL.out; omega); (exact Nat.le_refl _); intro v' w5 HO5)
          go_roundw
          case rel => exact ⟨k + 1, _, by omega, by go_num, rfl, by rw [HM.out, if_neg HU.out], by rw [HS.out]; exact HO5⟩
          case measure => simp [intOf]; omega
      · obtain rfl : k = N := by omega
        have HO := Lib.hid hO
        clear hO hu
        go_wp2
        go_ret
        exact ⟨_, rfl, HO.out⟩
end Go.Proofs.Ytadfdpkmegaloaa
