/- The document's own answers for the package words, walked; and the six laws' calls, each of which returns true and leaves all memory that was there as it was. -/
import Derived.Test.YtchphadkjoidjaaWords
import Derived.OpenShut
namespace Go.Proofs.Ytchphadkjoidjaa
open Go.RowKit

set_option maxHeartbeats 400000 in
theorem refPhase_any (x p : Int) (hx : 0 ≤ x) (hx2 : x ≤ 18446744073709551615) (w : World) :
    Calls Try.prog 12 #[.int .u64 x, .int .i64 p] w fun e w' => e = .returned (.int .u64 ((x * 8 + p % 8) % 18446744073709551616)) ∧ w = w' := by
  have d0 : 0 ≤ IntKind.u64.wrap p := by rw [IntKind.wrap_u64]; omega
  go_enter Try.func12, Try.ntmps12
  go_wp2
  go_ret
  exact ⟨ret_int (by rw [IntKind.wrap_u64]; omega), rfl⟩

set_option maxHeartbeats 400000 in
theorem refPair_any (x y : Int) (hx : 0 ≤ x) (hx2 : x ≤ 4294967295) (hy : 0 ≤ y) (hy2 : y ≤ 4294967295) (w : World) :
    Calls Try.prog 15 #[.int .u32 x, .int .u32 y] w fun e w' => e = .returned (.int .u64 (x * 4294967296 + y)) ∧ w = w' := by
  go_enter Try.func15, Try.ntmps15
  go_wp2
  go_ret
  exact ⟨rfl, rfl⟩

set_option maxHeartbeats 400000 in
theorem refHigh_any (x : Int) (hx : 0 ≤ x) (hx2 : x ≤ 18446744073709551615) (w : World) :
    Calls Try.prog 16 #[.int .u64 x] w fun e w' => e = .returned (.int .u32 (x / 4294967296)) ∧ w = w' := by
  go_enter Try.func16, Try.ntmps16
  go_wp2
  go_ret
  exact ⟨rfl, rfl⟩

set_option maxHeartbeats 400000 in
theorem refLow_any (x : Int) (hx : 0 ≤ x) (hx2 : x ≤ 18446744073709551615) (w : World) :
    Calls Try.prog 17 #[.int .u64 x] w fun e w' => e = .returned (.int .u32 (x % 4294967296)) ∧ w = w' := by
  go_enter Try.func17, Try.ntmps17
  go_wp2
  go_ret
  exact ⟨rfl, rfl⟩

set_option maxHeartbeats 400000 in
theorem refAhead_any (a b : Int) (w : World) :
    Calls Try.prog 20 #[.int .u64 a, .int .u64 b] w fun e w' => e = .returned (.int .i64 (aheadOf a b)) ∧ w = w' := by
  have ew : IntKind.u64.wrap (a - b) = (a - b) % 18446744073709551616 := IntKind.wrap_u64 _
  have d0 : 0 ≤ IntKind.u64.wrap (a - b) := by omega
  have d1 : IntKind.u64.wrap (a - b) ≤ 18446744073709551615 := by omega
  by_cases hl : IntKind.u64.wrap (a - b) < 9223372036854775808
  · have hz : aheadOf a b = IntKind.u64.wrap (a - b) := by unfold aheadOf; split <;> omega
    have HZ := Lib.hid hz; clear hz ew
    go_enter Try.func20, Try.ntmps20
    go_wp2
    go_ret
    exact ⟨ret_int HZ.out.symm, rfl⟩
  · have hz : aheadOf a b = - (18446744073709551615 - IntKind.u64.wrap (a - b)) - 1 := by unfold aheadOf; split <;> omega
    have HZ := Lib.hid hz; clear hz ew
    go_enter Try.func20, Try.ntmps20
    go_wp2
    go_ret
    exact ⟨ret_int HZ.out.symm, rfl⟩

set_option maxHeartbeats 400000 in
theorem walkPhase (x p v : Int) (w : World) (w0 : (Lit.int .u64 x).wf = true) (_w1 : (Lit.int .i64 p).wf = true) (w2 : (Lit.int .u64 v).wf = true) :
    Calls Try.prog 3 #[.int .u64 x, .int .i64 p, .int .u64 v] w fun e w' => e = .returned (.bool true) ∧ Below w.heap.size w w' := by
  obtain ⟨x0, x1⟩ := bounds_u64 w0
  obtain ⟨v0, v1⟩ := bounds_u64 w2
  clear w0 w2
  go_enter Try.func3, Try.ntmps3
  go_wp2_with (first | (go_at_call 9; refine (awake_any _).mono ?_; rintro e w1 ⟨rfl, hb1⟩) | (go_at_call 10; refine (cycle_any v v0 v1 _).mono ?_; rintro e w2 ⟨rfl, hb2⟩) | (go_at_call 11; refine (phase_any x p x0 x1 _).mono ?_; rintro e w3 ⟨rfl, hb3⟩) | (go_at_call 12; refine (refPhase_any x p x0 x1 _).mono ?_; rintro e w4 ⟨rfl, rfl⟩))
  go_ret
  have c2 := below_step hb1 hb1.size hb2
  exact ⟨rfl, below_step c2 c2.size hb3⟩

set_option maxHeartbeats 400000 in
theorem walkPair (x y v : Int) (w : World) (w0 : (Lit.int .u32 x).wf = true) (w1 : (Lit.int .u32 y).wf = true) (w2 : (Lit.int .u64 v).wf = true) :
    Calls Try.prog 4 #[.int .u32 x, .int .u32 y, .int .u64 v] w fun e w' => e = .returned (.bool true) ∧ Below w.heap.size w w' := by
  obtain ⟨x0, x1⟩ := bounds_u32 w0
  obtain ⟨y0, y1⟩ := bounds_u32 w1
  obtain ⟨v0, v1⟩ := bounds_u64 w2
  clear w0 w1 w2
  have u0 : 0 ≤ IntKind.u32.wrap (v / 4294967296 + 1) := by rw [IntKind.wrap_u32]; omega
  have u1 : IntKind.u32.wrap (v / 4294967296 + 1) ≤ 4294967295 := by rw [IntKind.wrap_u32]; omega
  have hu : ((v / 4294967296 + 1) % 4294967296 * 4294967296 + y == IntKind.u32.wrap (v / 4294967296 + 1) * 4294967296 + y) = true := by rw [IntKind.wrap_u32]; simp
  go_enter Try.func4, Try.ntmps4
  go_wp2_with (go_at_call 9; refine (awake_any _).mono ?_; rintro e w1 ⟨rfl, hb1⟩)
  go_wp2_with (go_at_call 13; refine (split_any v v0 v1 _).mono ?_; rintro e w2 ⟨rfl, hb2⟩)
  go_wp2_with (go_at_call 14; refine (pair_any x y x0 x1 y0 y1 _).mono ?_; rintro e w3 ⟨rfl, hb3⟩)
  go_wp2_with (go_at_call 15; refine (refPair_any x y x0 x1 y0 y1 _).mono ?_; rintro e w4 ⟨rfl, rfl⟩)
  go_wp2_with (go_at_call 16; refine (refHigh_any v v0 v1 _).mono ?_; rintro e w4 ⟨rfl, rfl⟩)
  go_wp2_with (go_at_call 17; refine (refLow_any v v0 v1 _).mono ?_; rintro e w4 ⟨rfl, rfl⟩)
  go_wp2_with (go_at_call 18; refine (turn_any v y v0 v1 y0 y1 _).mono ?_; rintro e w5 ⟨rfl, hb5⟩)
  go_wp2_with (go_at_call 15; refine (refPair_any (IntKind.u32.wrap (v / 4294967296 + 1)) y u0 u1 y0 y1 _).mono ?_; rintro e w4 ⟨rfl, rfl⟩)
  go_ret
  have c2 := below_step hb1 hb1.size hb2
  have c3 := below_step c2 c2.size hb3
  exact ⟨rfl, below_step c3 c3.size hb5⟩

set_option maxHeartbeats 400000 in
theorem walkAhead (a b : Int) (w : World) (w0 : (Lit.int .u64 a).wf = true) (w1 : (Lit.int .u64 b).wf = true) :
    Calls Try.prog 5 #[.int .u64 a, .int .u64 b] w fun e w' => e = .returned (.bool true) ∧ Below w.heap.size w w' := by
  obtain ⟨a0, a1⟩ := bounds_u64 w0
  obtain ⟨b0, b1⟩ := bounds_u64 w1
  clear w0 w1
  have f1 : (IntKind.u64.wrap (aheadOf a b) == IntKind.u64.wrap (a - b)) = true := by
    rw [IntKind.wrap_u64, IntKind.wrap_u64]; unfold aheadOf; simp; split <;> omega
  have f2 : (aheadOf b a == wrap64 (-aheadOf a b)) = true := by
    unfold wrap64 aheadOf; simp; split <;> split <;> omega
  have f3 : ((aheadOf a b == 0) == (a == b)) = true := by
    have : aheadOf a b = 0 ↔ a = b := by unfold aheadOf; split <;> omega
    rw [beq_iff_eq, Bool.eq_iff_iff]; simpa using this
  clear a0 a1 b0 b1
  go_enter Try.func5, Try.ntmps5
  go_wp2_with (go_at_call 9; refine (awake_any _).mono ?_; rintro e w1 ⟨rfl, hb1⟩)
  go_wp2_with (go_at_call 19; refine (ahead_walk a b _).mono ?_; rintro e w2 ⟨rfl, hb2⟩)
  go_wp2_with (go_at_call 20; refine (refAhead_any a b _).mono ?_; rintro e w3 ⟨rfl, rfl⟩)
  go_wp2_with (go_at_call 19; refine (ahead_walk b a _).mono ?_; rintro e w3 ⟨rfl, hb3⟩)
  go_ret
  have c2 := below_step hb1 hb1.size hb2
  exact ⟨rfl, below_step c2 c2.size hb3⟩

theorem phase_is (x p Q : Int) (hx : 0 ≤ x) (hx2 : x ≤ 18446744073709551615) (hQ : (x * 8 + p % 8) % 18446744073709551616 = Q) (w : World) :
    Calls Try.prog 11 #[.int .u64 x, .int .i64 p] w fun e w' => e = .returned (.int .u64 Q) ∧ Below w.heap.size w w' :=
  (phase_any x p hx hx2 w).mono fun _ _ ⟨he, hb⟩ => ⟨by rw [he, hQ], hb⟩

theorem cycle_is (x q r : Int) (hx : 0 ≤ x) (hx2 : x ≤ 18446744073709551615) (hq : x / 8 = q) (hr : x % 8 = r) (w : World) :
    Calls Try.prog 10 #[.int .u64 x] w fun e w' => e = .returned (.tuple #[.int .u64 q, .int .i64 r]) ∧ Below w.heap.size w w' :=
  (cycle_any x hx hx2 w).mono fun _ _ ⟨he, hb⟩ => ⟨by rw [he, hq, hr], hb⟩

theorem pair_is (x y Q : Int) (hx : 0 ≤ x) (hx2 : x ≤ 4294967295) (hy : 0 ≤ y) (hy2 : y ≤ 4294967295) (hQ : x * 4294967296 + y = Q) (w : World) :
    Calls Try.prog 14 #[.int .u32 x, .int .u32 y] w fun e w' => e = .returned (.int .u64 Q) ∧ Below w.heap.size w w' :=
  (pair_any x y hx hx2 hy hy2 w).mono fun _ _ ⟨he, hb⟩ => ⟨by rw [he, hQ], hb⟩

theorem split_is (x q r : Int) (hx : 0 ≤ x) (hx2 : x ≤ 18446744073709551615) (hq : x / 4294967296 = q) (hr : x % 4294967296 = r) (w : World) :
    Calls Try.prog 13 #[.int .u64 x] w fun e w' => e = .returned (.tuple #[.int .u32 q, .int .u32 r]) ∧ Below w.heap.size w w' :=
  (split_any x hx hx2 w).mono fun _ _ ⟨he, hb⟩ => ⟨by rw [he, hq, hr], hb⟩

theorem turn_is (x y Q : Int) (hx : 0 ≤ x) (hx2 : x ≤ 18446744073709551615) (hy : 0 ≤ y) (hy2 : y ≤ 4294967295) (hQ : (x / 4294967296 + 1) % 4294967296 * 4294967296 + y = Q) (w : World) :
    Calls Try.prog 18 #[.int .u64 x, .int .u32 y] w fun e w' => e = .returned (.int .u64 Q) ∧ Below w.heap.size w w' :=
  (turn_any x y hx hx2 hy hy2 w).mono fun _ _ ⟨he, hb⟩ => ⟨by rw [he, hQ], hb⟩

/-- A number that has a name of its own. -/
def Named (x y : Int) : Prop := x = y
theorem named (x : Int) : ∃ q, Named x q := ⟨x, rfl⟩

set_option maxHeartbeats 400000 in
theorem walkBack (c p x y v : Int) (w : World) (w0 : (Lit.int .u64 c).wf = true) (w1 : (Lit.int .u8 p).wf = true) (w2 : (Lit.int .u32 x).wf = true) (w3 : (Lit.int .u32 y).wf = true) (w4 : (Lit.int .u64 v).wf = true) :
    Calls Try.prog 6 #[.int .u64 c, .int .u8 p, .int .u32 x, .int .u32 y, .int .u64 v] w fun e w' => e = .returned (.bool true) ∧ Below w.heap.size w w' := by
  obtain ⟨c0, c1⟩ := bounds_u64 w0
  obtain ⟨p0, p1⟩ := bounds_u8 w1
  obtain ⟨x0, x1⟩ := bounds_u32 w2
  obtain ⟨y0, y1⟩ := bounds_u32 w3
  obtain ⟨v0, v1⟩ := bounds_u64 w4
  clear w0 w1 w2 w3 w4
  obtain ⟨Q, hQ⟩ := named ((c % 2305843009213693952 * 8 + p % 8 % 8) % 18446744073709551616)
  obtain ⟨X, hX⟩ := named (x * 4294967296 + y)
  obtain ⟨q, hq⟩ := named (v / 8)
  obtain ⟨r, hr⟩ := named (v % 8)
  obtain ⟨s, hs⟩ := named (v / 4294967296)
  obtain ⟨t, ht⟩ := named (v % 4294967296)
  unfold Named at *
  have Q0 : 0 ≤ Q := by omega
  have Q1 : Q ≤ 18446744073709551615 := by omega
  have Q2 := Lib.hid (show Q / 8 = c % 2305843009213693952 by omega)
  have Q3 := Lib.hid (show Q % 8 = p % 8 by omega)
  have X0 : 0 ≤ X := by omega
  have X1 : X ≤ 18446744073709551615 := by omega
  have X2 := Lib.hid (show X / 4294967296 = x by omega)
  have X3 := Lib.hid (show X % 4294967296 = y by omega)
  have q0 : 0 ≤ q := by omega
  have q1 : q ≤ 18446744073709551615 := by omega
  have q2 := Lib.hid (show (q * 8 + r % 8) % 18446744073709551616 = v by omega)
  have s0 : 0 ≤ s := by omega
  have s1 : s ≤ 4294967295 := by omega
  have t0 : 0 ≤ t := by omega
  have t1 : t ≤ 4294967295 := by omega
  have s2 := Lib.hid (show s * 4294967296 + t = v by omega)
  have HQ := Lib.hid hQ; have HX := Lib.hid hX; have Hq := Lib.hid hq; have Hr := Lib.hid hr; have Hs := Lib.hid hs; have Ht := Lib.hid ht
  clear hQ hX hq hr hs ht
  go_enter Try.func6, Try.ntmps6
  go_wp2_with (go_at_call 9; refine (awake_any _).mono ?_; rintro e w1 ⟨rfl, hb1⟩)
  go_wp2_with (go_at_call 11; refine (phase_is (c % 2305843009213693952) (p % 8) Q (by omega) (by omega) HQ.out _).mono ?_; rintro e w2 ⟨rfl, hb2⟩)
  go_wp2_with (go_at_call 10; refine (cycle_is Q (c % 2305843009213693952) (p % 8) Q0 Q1 Q2.out Q3.out _).mono ?_; rintro e w3 ⟨rfl, hb3⟩)
  go_wp2_with (go_at_call 14; refine (pair_is x y X x0 x1 y0 y1 HX.out _).mono ?_; rintro e w4 ⟨rfl, hb4⟩)
  go_wp2_with (go_at_call 13; refine (split_is X x y X0 X1 X2.out X3.out _).mono ?_; rintro e w5 ⟨rfl, hb5⟩)
  go_wp2_with (go_at_call 10; refine (cycle_is v q r v0 v1 Hq.out Hr.out _).mono ?_; rintro e w6 ⟨rfl, hb6⟩)
  go_wp2_with (go_at_call 13; refine (split_is v s t v0 v1 Hs.out Ht.out _).mono ?_; rintro e w7 ⟨rfl, hb7⟩)
  go_wp2_with (go_at_call 11; refine (phase_is q r v q0 q1 q2.out _).mono ?_; rintro e w8 ⟨rfl, hb8⟩)
  go_wp2_with (go_at_call 14; refine (pair_is s t v s0 s1 t0 t1 s2.out _).mono ?_; rintro e w9 ⟨rfl, hb9⟩)
  go_ret
  have c2 := below_step hb1 hb1.size hb2
  have c3 := below_step c2 c2.size hb3
  have c4 := below_step c3 c3.size hb4
  have c5 := below_step c4 c4.size hb5
  have c6 := below_step c5 c5.size hb6
  have c7 := below_step c6 c6.size hb7
  have c8 := below_step c7 c7.size hb8
  exact ⟨rfl, below_step c8 c8.size hb9⟩

end Go.Proofs.Ytchphadkjoidjaa
