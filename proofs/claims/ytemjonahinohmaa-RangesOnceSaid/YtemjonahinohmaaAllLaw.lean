/- The laws of all pieces, and of each slot in one piece: walked. -/
import Derived.Test.YtemjonahinohmaaNextLaw
namespace Go.Proofs.Ytemjonahinohmaa
open Go.RowKit
set_option linter.unusedVariables false

/-- Pieces of slots, few, by a chunk that counts as it is. -/
theorem Pc.few (a0 C : Int) (h0 : 0 ≤ a0) (h1 : a0 ≤ 255) (c1 : 1 ≤ C) (c2 : C ≤ 255) : ∃ N, Pc a0 C a0 C N ∧ cntW a0 C = (N : Int) := by
  obtain ⟨S, D, N, hp, hn⟩ := Pc.mk' a0 C
  have e1 : S = a0 := by rw [← hp.s, bnd_in h0 (by omega)]
  have e2 : D = C := by rw [← hp.c, bnd_in c1 (by omega)]
  subst e1; subst e2
  exact ⟨N, hp, hn⟩

set_option maxHeartbeats 4000000 in
set_option maxRecDepth 100000 in
theorem walkAll (a0 a1 : Int) (w : World) (w0 : (Lit.int .u8 a0).wf = true) (w1 : (Lit.int .u8 a1).wf = true) :
    Calls Try.prog 5 #[.int .u8 a0, .int .u8 a1] w fun e w' => e = .returned (.bool true) ∧ Below w.heap.size w w' := by
  obtain ⟨p0, p1⟩ := wfu w0
  obtain ⟨p2, p3⟩ := wfu w1
  clear w0 w1
  obtain ⟨C, hC⟩ : ∃ C, imax a1 1 = C := ⟨_, rfl⟩
  have hC2 := hC
  unfold imax at hC2
  have q0 : 1 ≤ C := by split at hC2 <;> omega
  have q1 : C ≤ 255 := by split at hC2 <;> omega
  clear hC2
  obtain ⟨N, hp, hn⟩ := Pc.few a0 C p0 p1 q0 q1
  have hN := hp.bd
  have n1 : 1 ≤ N := by omega
  have n2 : N ≤ 1001 := by omega
  have HP := Lib.hid hp
  have HN := Lib.hid hn
  have HB := Below.refl w.heap.size w
  clear hp hn hN
  go_enter Try.func5, Try.ntmps5
  go_wp2_with (first
    | (go_at_call 8; (with_reducible refine (awake_true _).mono ?_); rintro e w1 ⟨rfl, hb1⟩; have HB := below_then HB hb1; clear hb1)
    | (go_at_call 13; (with_reducible refine (all_at HP.out HN.out rfl _).mono ?_); rintro e w2 ⟨A, c2, rfl, hA, hb2⟩; have HA := Lib.hid hA; have HB := below_then HB hb2; clear hb2 hA)
    | fail)
  go_loopw [9, 10] (fun t i wr => ∃ j : Nat, j ≤ N ∧ t = .int .i64 (atR a0 C (j : Int)) ∧ i = .int .i64 (j : Int) ∧ w2 = wr) (fun _ i _ => N - (intOf i).toNat)
  case atStart => exact ⟨0, Nat.zero_le _, by rw [show ((0 : Nat) : Int) = 0 by rfl, at_zero p0 q0], rfl, rfl⟩
  case round =>
    obtain ⟨j, hj, rfl, rfl, rfl⟩ := hrel
    by_cases hlt : j < N
    · obtain ⟨b, off, rfl, hbl, c0, c1⟩ := HA.out.at' j (by rw [up_len]; exact hlt)
      rw [up_at hlt] at c0 c1
      have hj0 : (0 : Int) ≤ (j : Int) := by omega
      have hj1 : (j : Int) < (N : Int) := by omega
      have hk := piece_ok p0 q0 hj0 (by rw [HP.out.n]; exact hj1)
      rw [HP.out.n] at hk
      have hnx := end_at p0 q0 hj0
      have hle := at_le p0 q0 hj0
      have hle2 := at_le p0 q0 (show (0 : Int) ≤ (j : Int) + 1 by omega)
      rw [← hnx] at hle2
      obtain ⟨x, hx⟩ : ∃ x, x = atR a0 C (j : Int) := ⟨_, rfl⟩
      obtain ⟨y, hy⟩ : ∃ y, y = endR a0 C (j : Int) := ⟨_, rfl⟩
      rw [← hx, ← hy] at c0 c1 hk
      rw [← hx] at hle ⊢
      rw [← hy] at hnx hle2
      have HX := Lib.hid hnx
      clear hx hy hnx
      obtain ⟨k1, k2, k3, k4⟩ := hk
      obtain ⟨l1, l2⟩ := hle
      have c1' : w2.cell? ⟨b, off + j * 2 + 1, none⟩ = some (.int .i64 y) := by rw [Nat.add_assoc]; exact c1
      have d1 : (x == x) = true := by simp
      have d2 : decide (y < x) = false := by simpa using k1
      have d4 : decide (y > x + C) = false := by simpa using k3
      have e1 : ¬ y < x := by omega
      have e4 : ¬ y > x + C := by omega
      have rel : ∃ m : Nat, m ≤ N ∧ (.int .i64 y : Value) = .int .i64 (atR a0 C (m : Int)) ∧ (.int .i64 ((j : Int) + 1) : Value) = .int .i64 (m : Int) := ⟨j + 1, by omega, by rw [HX.out]; rfl, by simp⟩
      have HR := Lib.hid rel
      clear rel k1 k3
      by_cases hl : (j : Int) < (N : Int) - 1
      · have d3 := k2 hl
        have d5 : decide ((j : Int) < (N : Int) - 1) = true := by simpa using hl
        have d6 : (y == x) = false := by rw [beq_eq_false_iff_ne]; omega
        have d7 : ¬ y = x := by omega
        have d8 : ¬ x + C = x := by omega
        have hb : x + C ≤ 1000 := by omega
        clear k2
        subst d3
        go_wp2_with (fail)
        exact ⟨⟨j + 1, by omega, by rw [HX.out]; rfl, by simp, trivial⟩, by simp [intOf]; omega⟩
      · have d5 : decide ((j : Int) < (N : Int) - 1) = false := by simpa using hl
        clear k2
        by_cases hz : 0 < a0
        · have d6 := k4 hz
          have d7 : (y == x) = false := by simpa using d6
          go_wp2_with (fail)
          exact ⟨⟨j + 1, by omega, by rw [HX.out]; rfl, by simp, trivial⟩, by simp [intOf]; omega⟩
        · have d6 : decide (a0 > 0) = false := by simpa using hz
          obtain rfl : y = x := by omega
          clear hle2
          go_wp2_with (fail)
          exact ⟨⟨j + 1, by omega, by rw [HX.out]; rfl, by simp, trivial⟩, by simp [intOf]; omega⟩
    · obtain rfl : j = N := by omega
      have hx : atR a0 C (j : Int) = a0 := by rw [← HP.out.n]; exact at_end
      rw [hx]
      have hN1 : decide ((j : Int) > 0) = true := by simp; omega
      go_wp2_with (fail)
      go_ret
      exact ⟨ret_bool (by simp; omega), HB⟩

set_option maxHeartbeats 4000000 in
set_option maxRecDepth 100000 in
theorem walkOnce (a0 a1 a2 : Int) (w : World) (w0 : (Lit.int .u8 a0).wf = true) (w1 : (Lit.int .u8 a1).wf = true) (w2 : (Lit.int .u8 a2).wf = true) :
    Calls Try.prog 6 #[.int .u8 a0, .int .u8 a1, .int .u8 a2] w fun e w' => e = .returned (.bool true) ∧ Below w.heap.size w w' := by
  obtain ⟨p0, p1⟩ := wfu w0
  obtain ⟨p2, p3⟩ := wfu w1
  obtain ⟨p4, p5⟩ := wfu w2
  clear w0 w1 w2
  obtain ⟨C, hC⟩ : ∃ C, imax a1 1 = C := ⟨_, rfl⟩
  have hC2 := hC
  unfold imax at hC2
  have q0 : 1 ≤ C := by split at hC2 <;> omega
  have q1 : C ≤ 255 := by split at hC2 <;> omega
  have hb1 : bnd a1 1 1000 = C := by unfold bnd; split at hC2 <;> (repeat' split) <;> omega
  clear hC2
  obtain ⟨N, hp0, hn0⟩ := Pc.few a0 C p0 p1 q0 q1
  have hp : Pc a0 a1 a0 C N := ⟨hp0.s, hb1, hp0.n⟩
  have hn : cntW a0 a1 = (N : Int) := by unfold cntW; rw [hp.s, hp.c, hp.n]
  have hN := hp.bd
  have n1 : 1 ≤ N := by omega
  have n2 : N ≤ 1001 := by omega
  have ht := cnt_top p0 q0
  rw [hp.n] at ht
  obtain ⟨q, hq⟩ : ∃ q, (a0 + C - 1).tdiv C = q := ⟨_, rfl⟩
  rw [← Int.tdiv_eq_ediv_of_nonneg (by omega), hq] at ht
  have hqb := quo_bd p0 (by omega) q0 (by omega)
  rw [hq] at hqb
  obtain ⟨t0, t1⟩ := hqb
  have ht2 : decide ((N : Int) ≤ 1 + q) = true := by simpa using ht
  have c0 : (C == 0) = false := by rw [beq_eq_false_iff_ne]; omega
  have HP := Lib.hid hp
  have HN := Lib.hid hn
  have HB := Below.refl w.heap.size w
  clear hp hn hN hp0 hn0 hb1 ht
  go_enter Try.func6, Try.ntmps6
  go_wp2_with (first
    | (go_at_call 8; (with_reducible refine (awake_true _).mono ?_); rintro e w1 ⟨rfl, hb1⟩; have HB := below_then HB hb1; clear hb1)
    | (go_at_call 13; (with_reducible refine (all_at HP.out HN.out rfl _).mono ?_); rintro e w2 ⟨A, c2, rfl, hA, hb2⟩; have HA := Lib.hid hA; have HB := below_then HB hb2; clear hb2 hA)
    | fail)
  go_loopw [11, 12] (fun k i wr => ∃ j : Nat, j ≤ N ∧ k = .int .i64 (if a2 < atR a0 C (j : Int) then 1 else 0) ∧ i = .int .i64 (j : Int) ∧ w2 = wr) (fun _ i _ => N - (intOf i).toNat)
  case atStart => exact ⟨0, Nat.zero_le _, by rw [show ((0 : Nat) : Int) = 0 by rfl, at_zero p0 q0, if_neg (by omega)], rfl, rfl⟩
  case round =>
    obtain ⟨j, hj, rfl, rfl, rfl⟩ := hrel
    by_cases hlt : j < N
    · obtain ⟨b, off, rfl, hbl, c0, c1⟩ := HA.out.at' j (by rw [up_len]; exact hlt)
      rw [up_at hlt] at c0 c1
      have hj0 : (0 : Int) ≤ (j : Int) := by omega
      have hj1 : (j : Int) < (N : Int) := by omega
      obtain ⟨k, hk⟩ : ∃ k, k = (if a2 < atR a0 C (j : Int) then (1 : Int) else 0) := ⟨_, rfl⟩
      have hs := once_step p0 q0 hj0 (by rw [HP.out.n]; exact hj1) k hk p4
      have k0 : 0 ≤ k := by rw [hk]; split <;> omega
      have k1 : k ≤ 1 := by rw [hk]; split <;> omega
      obtain ⟨x, hx⟩ : ∃ x, x = atR a0 C (j : Int) := ⟨_, rfl⟩
      obtain ⟨y, hy⟩ : ∃ y, y = endR a0 C (j : Int) := ⟨_, rfl⟩
      rw [← hx, ← hy] at c0 c1 hs
      rw [← hk]
      have c1' : w2.cell? ⟨b, off + j * 2 + 1, none⟩ = some (.int .i64 y) := by rw [Nat.add_assoc]; exact c1
      clear hx hy hk
      by_cases h1 : x ≤ a2
      · by_cases h2 : a2 < y
        · rw [if_pos ⟨h1, h2⟩] at hs
          have HS := Lib.hid hs
          have d1 : decide (x ≤ a2) = true := by simpa using h1
          have d2 : decide (a2 < y) = true := by simpa using h2
          clear hs
          go_wp2_with (fail)
          exact ⟨⟨j + 1, by omega, by rw [HS.out]; rfl, by simp, trivial⟩, by simp [intOf]; omega⟩
        · rw [if_neg (fun e => h2 e.2)] at hs
          have HS := Lib.hid hs
          have d1 : decide (x ≤ a2) = true := by simpa using h1
          have d2 : decide (a2 < y) = false := by simpa using h2
          clear hs
          go_wp2_with (fail)
          exact ⟨⟨j + 1, by omega, by rw [HS.out]; rfl, by simp, trivial⟩, by simp [intOf]; omega⟩
      · rw [if_neg (fun e => h1 e.1)] at hs
        have HS := Lib.hid hs
        have d1 : decide (x ≤ a2) = false := by simpa using h1
        clear hs
        go_wp2_with (fail)
        exact ⟨⟨j + 1, by omega, by rw [HS.out]; rfl, by simp, trivial⟩, by simp [intOf]; omega⟩
    · obtain rfl : j = N := by omega
      have hx : atR a0 C (j : Int) = a0 := by rw [← HP.out.n]; exact at_end
      rw [hx]
      by_cases h : a2 < a0
      · rw [if_pos h]
        have d1 : decide (a2 < a0) = true := by simpa using h
        go_wp2_with (fail)
        go_ret
        exact ⟨rfl, HB⟩
      · rw [if_neg h]
        have d1 : decide (a2 ≥ a0) = true := by simpa using h
        go_wp2_with (fail)
        go_ret
        exact ⟨rfl, HB⟩
end Go.Proofs.Ytemjonahinohmaa
