/- The walks of two laws of the package words: of order, and of words that are turned again and again. -/
import Derived.Test.YtchphadkjoidjaaLaws
import Derived.OpenShut
namespace Go.Proofs.Ytchphadkjoidjaa
open Go.RowKit
set_option maxHeartbeats 1000000 in
theorem walkOrder (a b c d n p q : Int) (w : World) (w0 : (Lit.int .u32 a).wf = true) (w1 : (Lit.int .u32 b).wf = true) (w2 : (Lit.int .u32 c).wf = true) (w3 : (Lit.int .u32 d).wf = true) (w4 : (Lit.int .u32 n).wf = true) (w5 : (Lit.int .u8 p).wf = true) (w6 : (Lit.int .u8 q).wf = true) :
    Calls Try.prog 8 #[.int .u32 a, .int .u32 b, .int .u32 c, .int .u32 d, .int .u32 n, .int .u8 p, .int .u8 q] w fun e w' => e = .returned (.bool true) ∧ Below w.heap.size w w' := by
  obtain ⟨a0, a1⟩ := bounds_u32 w0
  obtain ⟨b0, b1⟩ := bounds_u32 w1
  obtain ⟨c0, c1⟩ := bounds_u32 w2
  obtain ⟨d0, d1⟩ := bounds_u32 w3
  obtain ⟨n0, n1⟩ := bounds_u32 w4
  obtain ⟨p0, p1⟩ := bounds_u8 w5
  obtain ⟨q0, q1⟩ := bounds_u8 w6
  clear w0 w1 w2 w3 w4 w5 w6
  obtain ⟨X, hX⟩ := named (a * 4294967296 + b)
  obtain ⟨Y, hY⟩ := named (c * 4294967296 + d)
  obtain ⟨U, hU⟩ := named ((n * 8 + p % 8 % 8) % 18446744073709551616)
  obtain ⟨V, hV⟩ := named (((n + 1) * 8 + q % 8 % 8) % 18446744073709551616)
  unfold Named at *
  have huv : U < V := by omega
  have HU := Lib.hid hU; have HV := Lib.hid hV; have HX := Lib.hid hX; have HY := Lib.hid hY
  clear hU hV hX hY
  have cases5 : (a < c) ∨ (c < a) ∨ (a = c ∧ b < d) ∨ (a = c ∧ d < b) ∨ (a = c ∧ b = d) := by omega
  rcases cases5 with h | h | ⟨rfl, h⟩ | ⟨rfl, h⟩ | ⟨rfl, rfl⟩
  · have l1 : X < Y := by have := HX.out; have := HY.out; omega
    have e1 : (X == Y) = false := by simp; omega
    have e2 : decide (X < Y) = true := by simpa using l1
    have e3 : decide (a < c) = true := by simpa using h
    have e4 : (a == c) = false := by simp; omega
    go_enter Try.func8, Try.ntmps8
    go_wp2_with (go_at_call 9; refine (awake_any _).mono ?_; rintro e w1 ⟨rfl, hb1⟩)
    go_wp2_with (go_at_call 14; (with_reducible refine (pair_is a b X a0 a1 b0 b1 HX.out _).mono ?_); rintro e w2 ⟨rfl, hb2⟩)
    go_wp2_with (go_at_call 14; (with_reducible refine (pair_is c d Y c0 c1 d0 d1 HY.out _).mono ?_); rintro e w3 ⟨rfl, hb3⟩)
    go_wp2_with (go_at_call 11; (with_reducible refine (phase_is n (p % 8) U (by omega) (by omega) HU.out _).mono ?_); rintro e w4 ⟨rfl, hb4⟩)
    go_wp2_with (go_at_call 11; (with_reducible refine (phase_is (n + 1) (q % 8) V (by omega) (by omega) HV.out _).mono ?_); rintro e w5 ⟨rfl, hb5⟩)
    go_ret
    have c2 := below_step hb1 hb1.size hb2
    have c3 := below_step c2 c2.size hb3
    have c4 := below_step c3 c3.size hb4
    exact ⟨rfl, below_step c4 c4.size hb5⟩
  · have l1 : Y < X := by have := HX.out; have := HY.out; omega
    have e1 : (X == Y) = false := by simp; omega
    have e2 : decide (X < Y) = false := by simp; omega
    have e3 : decide (a < c) = false := by simp; omega
    have e4 : (a == c) = false := by simp; omega
    go_enter Try.func8, Try.ntmps8
    go_wp2_with (go_at_call 9; refine (awake_any _).mono ?_; rintro e w1 ⟨rfl, hb1⟩)
    go_wp2_with (go_at_call 14; (with_reducible refine (pair_is a b X a0 a1 b0 b1 HX.out _).mono ?_); rintro e w2 ⟨rfl, hb2⟩)
    go_wp2_with (go_at_call 14; (with_reducible refine (pair_is c d Y c0 c1 d0 d1 HY.out _).mono ?_); rintro e w3 ⟨rfl, hb3⟩)
    go_wp2_with (go_at_call 11; (with_reducible refine (phase_is n (p % 8) U (by omega) (by omega) HU.out _).mono ?_); rintro e w4 ⟨rfl, hb4⟩)
    go_wp2_with (go_at_call 11; (with_reducible refine (phase_is (n + 1) (q % 8) V (by omega) (by omega) HV.out _).mono ?_); rintro e w5 ⟨rfl, hb5⟩)
    go_ret
    have c2 := below_step hb1 hb1.size hb2
    have c3 := below_step c2 c2.size hb3
    have c4 := below_step c3 c3.size hb4
    exact ⟨rfl, below_step c4 c4.size hb5⟩
  · have l1 : X < Y := by have := HX.out; have := HY.out; omega
    have e1 : (X == Y) = false := by simp; omega
    have e2 : decide (X < Y) = true := by simpa using l1
    have e3 : decide (b < d) = true := by simpa using h
    have e4 : (b == d) = false := by simp; omega
    go_enter Try.func8, Try.ntmps8
    go_wp2_with (go_at_call 9; refine (awake_any _).mono ?_; rintro e w1 ⟨rfl, hb1⟩)
    go_wp2_with (go_at_call 14; (with_reducible refine (pair_is a b X a0 a1 b0 b1 HX.out _).mono ?_); rintro e w2 ⟨rfl, hb2⟩)
    go_wp2_with (go_at_call 14; (with_reducible refine (pair_is a d Y a0 a1 d0 d1 HY.out _).mono ?_); rintro e w3 ⟨rfl, hb3⟩)
    go_wp2_with (go_at_call 11; (with_reducible refine (phase_is n (p % 8) U (by omega) (by omega) HU.out _).mono ?_); rintro e w4 ⟨rfl, hb4⟩)
    go_wp2_with (go_at_call 11; (with_reducible refine (phase_is (n + 1) (q % 8) V (by omega) (by omega) HV.out _).mono ?_); rintro e w5 ⟨rfl, hb5⟩)
    go_ret
    have c2 := below_step hb1 hb1.size hb2
    have c3 := below_step c2 c2.size hb3
    have c4 := below_step c3 c3.size hb4
    exact ⟨rfl, below_step c4 c4.size hb5⟩
  · have l1 : Y < X := by have := HX.out; have := HY.out; omega
    have e1 : (X == Y) = false := by simp; omega
    have e2 : decide (X < Y) = false := by simp; omega
    have e3 : decide (b < d) = false := by simp; omega
    have e4 : (b == d) = false := by simp; omega
    go_enter Try.func8, Try.ntmps8
    go_wp2_with (go_at_call 9; refine (awake_any _).mono ?_; rintro e w1 ⟨rfl, hb1⟩)
    go_wp2_with (go_at_call 14; (with_reducible refine (pair_is a b X a0 a1 b0 b1 HX.out _).mono ?_); rintro e w2 ⟨rfl, hb2⟩)
    go_wp2_with (go_at_call 14; (with_reducible refine (pair_is a d Y a0 a1 d0 d1 HY.out _).mono ?_); rintro e w3 ⟨rfl, hb3⟩)
    go_wp2_with (go_at_call 11; (with_reducible refine (phase_is n (p % 8) U (by omega) (by omega) HU.out _).mono ?_); rintro e w4 ⟨rfl, hb4⟩)
    go_wp2_with (go_at_call 11; (with_reducible refine (phase_is (n + 1) (q % 8) V (by omega) (by omega) HV.out _).mono ?_); rintro e w5 ⟨rfl, hb5⟩)
    go_ret
    have c2 := below_step hb1 hb1.size hb2
    have c3 := below_step c2 c2.size hb3
    have c4 := below_step c3 c3.size hb4
    exact ⟨rfl, below_step c4 c4.size hb5⟩
  · obtain rfl : X = Y := by have := HX.out; have := HY.out; omega
    go_enter Try.func8, Try.ntmps8
    go_wp2_with (go_at_call 9; refine (awake_any _).mono ?_; rintro e w1 ⟨rfl, hb1⟩)
    go_wp2_with (go_at_call 14; (with_reducible refine (pair_is a b X a0 a1 b0 b1 HX.out _).mono ?_); rintro e w3 ⟨rfl, hb3⟩; have hb1 := below_step hb1 hb1.size hb3)
    go_wp2_with (go_at_call 11; (with_reducible refine (phase_is n (p % 8) U (by omega) (by omega) HU.out _).mono ?_); rintro e w4 ⟨rfl, hb4⟩)
    go_wp2_with (go_at_call 11; (with_reducible refine (phase_is (n + 1) (q % 8) V (by omega) (by omega) HV.out _).mono ?_); rintro e w5 ⟨rfl, hb5⟩)
    go_ret
    have c4 := below_step hb1 hb1.size hb4
    exact ⟨rfl, below_step c4 c4.size hb5⟩

set_option maxHeartbeats 1000000 in
theorem walkTurn (v y n : Int) (w : World) (w0 : (Lit.int .u64 v).wf = true) (w1 : (Lit.int .u32 y).wf = true) (w2 : (Lit.int .u8 n).wf = true) :
    Calls Try.prog 7 #[.int .u64 v, .int .u32 y, .int .u8 n] w fun e w' => e = .returned (.bool true) ∧ Below w.heap.size w w' := by
  obtain ⟨v0, v1⟩ := bounds_u64 w0
  obtain ⟨y0, y1⟩ := bounds_u32 w1
  obtain ⟨n0, n1⟩ := bounds_u8 w2
  clear w0 w1 w2
  go_enter Try.func7, Try.ntmps7
  go_wp2_with (go_at_call 9; refine (awake_any _).mono ?_; rintro e w1 ⟨rfl, hb1⟩)
  go_wp2_with (go_at_call 13; (with_reducible refine (split_any v v0 v1 _).mono ?_); rintro e w2 ⟨rfl, hb2⟩; have hb1 := below_step hb1 hb1.size hb2)
  go_loopw [9, 8, 11] (fun h x i wr => ∃ (k : Nat) (a b : Int), (k : Int) ≤ n ∧ i = .int .i64 k ∧ x = .int .u64 a ∧ h = .int .u32 b ∧ 0 ≤ a ∧ a ≤ 18446744073709551615 ∧ Hid (a / 4294967296 = b) ∧ Below w.heap.size w wr)
    (fun _ _ i _ => (n - intOf i).toNat)
  case atStart => exact ⟨0, v, v / 4294967296, by omega, rfl, rfl, rfl, v0, v1, rfl, hb1⟩
  case round =>
    obtain ⟨k, a, b, hk, rfl, rfl, rfl, a0, a1, hab, hbw⟩ := hrel
    obtain ⟨Q, hQ⟩ := named ((a / 4294967296 + 1) % 4294967296 * 4294967296 + y)
    unfold Named at hQ
    have eb := hab.out
    have ew := IntKind.wrap_u32 (b + 1)
    have Q0 : 0 ≤ Q := by omega
    have Q1 : Q ≤ 18446744073709551615 := by omega
    have Q2 := Lib.hid (show Q / 4294967296 = IntKind.u32.wrap (b + 1) by omega)
    have Q3 := Lib.hid (show Q % 4294967296 = y by omega)
    have Q4 : (Q == a) = false := by simp; omega
    have HQ := Lib.hid hQ
    clear hQ eb ew
    go_wp2_with (go_at_call 18; (with_reducible refine (turn_is a y Q a0 a1 y0 y1 HQ.out _).mono ?_); rintro e w3 ⟨rfl, hb3⟩; have hbw := below_step hbw hbw.size hb3)
    all_goals try go_wp2_with (go_at_call 13; (with_reducible refine (split_is Q (IntKind.u32.wrap (b + 1)) y Q0 Q1 Q2.out Q3.out _).mono ?_); rintro e w4 ⟨rfl, hb4⟩; have hbw := below_step hbw hbw.size hb4)
    · go_roundw
      case rel => exact ⟨k + 1, Q, (b + 1) % 4294967296, by omega, by go_num, rfl, rfl, Q0, Q1, Q2.out.trans (IntKind.wrap_u32 _), hbw⟩
      case measure => simp [intOf]; omega
    · go_ret
      exact ⟨rfl, hbw⟩

end Go.Proofs.Ytchphadkjoidjaa
