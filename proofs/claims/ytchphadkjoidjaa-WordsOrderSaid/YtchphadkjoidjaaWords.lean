/- The functions of the package words, walked: what each call answers, for whatever arguments, and that it leaves all memory that was there as it was. -/
import Derived.Test.YtchphadkjoidjaaRows
import Derived.WalkKit
import Derived.WalkSpells
import Derived.WalkLawsBesides
import Derived.WalkSmall
import Derived.BigQuiet
import Derived.BigRegion
import Derived.Deep.QuietTactic
import Derived.Deep.RegionWith
import Derived.Lib.Hide
import Derived.Handy
import Derived.Laws.ResultCell
namespace Go.Proofs.Ytchphadkjoidjaa
open Go.RowKit

theorem ret_int {k : IntKind} {a b : Int} (h : a = b) : Ending.returned (.int k a) = .returned (.int k b) := by rw [h]

/-- Below a block's number, through a callee's own. -/
theorem below_step {B : Nat} {a w w' : World} (h : Below B a w) (hB : B ≤ w.heap.size) (k : Below w.heap.size w w') : Below B a w' := h.trans (k.mono hB)

set_option maxHeartbeats 400000 in
theorem part_any (b x : Int) (hb : 1 ≤ b) (hb2 : b ≤ 18446744073709551615) (hx : 0 ≤ x) (hx2 : x ≤ 18446744073709551615) (w : World) :
    Calls Try.prog 21 #[.int .u64 b, .int .u64 x] w fun e w' => e = .returned (.agg #[.int .u64 (x / b), .int .u64 (x % b)]) ∧ Below w.heap.size w w' := by
  go_enter Try.func21, Try.ntmps21
  go_wp2
  go_region
  all_goals go_wp2
  all_goals (refine bodyPost_ret (v := .agg #[.int .u64 (x / b), .int .u64 (x % b)]) (by simp [results, Try.results21, go_sem]) rfl ⟨rfl, ?_⟩)
  all_goals exact ((Below.refl _ _).alloc (Nat.le_refl _) _).drew

set_option linter.unusedVariables false in
set_option maxHeartbeats 400000 in
theorem join_any (b x y : Int) (hb : 1 ≤ b) (hb2 : b ≤ 18446744073709551615) (hx : 0 ≤ x) (hx2 : x ≤ 18446744073709551615) (hy : 0 ≤ y) (hy2 : y ≤ 18446744073709551615) (w : World) :
    Calls Try.prog 22 #[.int .u64 b, .agg #[.int .u64 x, .int .u64 y]] w fun e w' => e = .returned (.int .u64 (IntKind.u64.wrap (IntKind.u64.wrap (x * b) + y % b))) ∧ Below w.heap.size w w' := by
  go_enter Try.func22, Try.ntmps22
  go_wp2
  go_quiet (fail)
  go_wp2
  go_ret
  exact ⟨rfl, below_drewN ((Below.refl _ _).alloc (Nat.le_refl _) _) _⟩

set_option maxHeartbeats 400000 in
theorem cycle_any (x : Int) (hx : 0 ≤ x) (hx2 : x ≤ 18446744073709551615) (w : World) :
    Calls Try.prog 10 #[.int .u64 x] w fun e w' => e = .returned (.tuple #[.int .u64 (x / 8), .int .i64 (x % 8)]) ∧ Below w.heap.size w w' := by
  go_enter Try.func10, Try.ntmps10
  go_wp2_with (go_at_call 21; refine (part_any 8 x (by omega) (by omega) hx hx2 _).mono ?_; rintro e w1 ⟨rfl, hb⟩)
  go_quiet (fail)
  go_wp2
  go_ret2
  exact ⟨rfl, below_drewN ((hb.alloc hb.size _)) _⟩

set_option maxHeartbeats 400000 in
theorem phase_any (x p : Int) (hx : 0 ≤ x) (hx2 : x ≤ 18446744073709551615) (w : World) :
    Calls Try.prog 11 #[.int .u64 x, .int .i64 p] w fun e w' => e = .returned (.int .u64 ((x * 8 + p % 8) % 18446744073709551616)) ∧ Below w.heap.size w w' := by
  go_enter Try.func11, Try.ntmps11
  go_wp2_with (go_at_call 22; refine (join_any 8 x (IntKind.u64.wrap p) (by omega) (by omega) hx hx2 (by rw [IntKind.wrap_u64]; omega) (by rw [IntKind.wrap_u64]; omega) _).mono ?_; rintro e w1 ⟨rfl, hb⟩)
  go_ret
  exact ⟨ret_int (by rw [IntKind.wrap_u64, IntKind.wrap_u64, IntKind.wrap_u64]; omega), hb⟩

set_option maxHeartbeats 400000 in
theorem split_any (x : Int) (hx : 0 ≤ x) (hx2 : x ≤ 18446744073709551615) (w : World) :
    Calls Try.prog 13 #[.int .u64 x] w fun e w' => e = .returned (.tuple #[.int .u32 (x / 4294967296), .int .u32 (x % 4294967296)]) ∧ Below w.heap.size w w' := by
  go_enter Try.func13, Try.ntmps13
  go_wp2_with (go_at_call 21; refine (part_any 4294967296 x (by omega) (by omega) hx hx2 _).mono ?_; rintro e w1 ⟨rfl, hb⟩)
  go_quiet (fail)
  go_wp2
  go_ret2
  exact ⟨rfl, below_drewN ((hb.alloc hb.size _)) _⟩

set_option maxHeartbeats 400000 in
theorem pair_any (x y : Int) (hx : 0 ≤ x) (hx2 : x ≤ 4294967295) (hy : 0 ≤ y) (hy2 : y ≤ 4294967295) (w : World) :
    Calls Try.prog 14 #[.int .u32 x, .int .u32 y] w fun e w' => e = .returned (.int .u64 (x * 4294967296 + y)) ∧ Below w.heap.size w w' := by
  go_enter Try.func14, Try.ntmps14
  go_wp2_with (go_at_call 22; refine (join_any 4294967296 x y (by omega) (by omega) hx (by omega) hy (by omega) _).mono ?_; rintro e w1 ⟨rfl, hb⟩)
  go_ret
  exact ⟨ret_int (by rw [IntKind.wrap_u64, IntKind.wrap_u64]; omega), hb⟩

set_option maxHeartbeats 400000 in
theorem turn_any (x y : Int) (hx : 0 ≤ x) (hx2 : x ≤ 18446744073709551615) (hy : 0 ≤ y) (hy2 : y ≤ 4294967295) (w : World) :
    Calls Try.prog 18 #[.int .u64 x, .int .u32 y] w fun e w' => e = .returned (.int .u64 ((x / 4294967296 + 1) % 4294967296 * 4294967296 + y)) ∧ Below w.heap.size w w' := by
  go_enter Try.func18, Try.ntmps18
  go_wp2_with (first | (go_at_call 13; refine (split_any x hx hx2 _).mono ?_; rintro e w1 ⟨rfl, hb⟩) | (go_at_call 14; refine (pair_any (IntKind.u32.wrap (x / 4294967296 + 1)) y (by rw [IntKind.wrap_u32]; omega) (by rw [IntKind.wrap_u32]; omega) hy hy2 _).mono ?_; rintro e w2 ⟨rfl, hb2⟩))
  go_ret
  exact ⟨ret_int (by rw [IntKind.wrap_u32]), below_step hb hb.size hb2⟩

/-- How far x is ahead of y. -/
def aheadOf (x y : Int) : Int := if (x - y) % 18446744073709551616 < 9223372036854775808 then (x - y) % 18446744073709551616 else (x - y) % 18446744073709551616 - 18446744073709551616

theorem bcell {W w1 : World} (hb : Below W.heap.size W w1) : (∀ b o, b < W.heap.size → w1.cell? ⟨b, o, none⟩ = W.cell? ⟨b, o, none⟩) ∧ (∀ b o, b < W.heap.size → w1.frozen? ⟨b, o, none⟩ = W.frozen? ⟨b, o, none⟩) :=
  ⟨fun b o h => hb.cell (p := ⟨b, o, none⟩) h, fun b o h => hb.frozen (p := ⟨b, o, none⟩) h⟩

@[go_sem] theorem eq40 (a b c d : Int) (w : World) : (Op.equalIn 10000 40 (.agg #[.int .u64 a, .int .u64 b]) (.agg #[.int .u64 c, .int .u64 d])).run Try.prog w = .ok (a == c && b == d) w := by
  have u3 := Try.underlying22
  have a3 := Try.isAgg22
  have z3 := Try.sizeOf22
  rw [show (10000 : Nat) = 9999 + 1 from rfl, Op.equalIn]
  simp only [Sem.run_bind, run_underlying Try.underlying40, Result.andThen_ok]
  simp only [Std.Legacy.Range.forIn_eq_forIn_range', Std.Legacy.Range.size, Nat.sub_zero, Nat.add_sub_cancel, Nat.div_one, List.range'_succ, List.range'_zero, List.forIn_cons, List.forIn_nil]
  go_simp
  by_cases h1 : a = c <;> by_cases h2 : b = d <;> simp [h1, h2]

set_option maxHeartbeats 400000 in
theorem holds_any (d x y : Int) (hd : 0 ≤ d) (hd2 : d ≤ 18446744073709551615) (w : World) :
    Calls Try.prog 23 #[.func (.func 21) #[.int .u64 4294967296] #[], .int .u64 d, .agg #[.int .u64 x, .int .u64 y]] w fun e w' => e = .returned (.bool (d / 4294967296 == x && d % 4294967296 == y)) ∧ Below w.heap.size w w' := by
  go_enter Try.func23, Try.ntmps23
  go_wp2
  go_region_with (first | (go_at_call 21; refine (part_any 4294967296 d (by omega) (by omega) hd hd2 _).mono ?_; rintro e w1 ⟨rfl, hb⟩; obtain ⟨hc, hf⟩ := bcell hb))
  all_goals go_wp2
  all_goals go_ret
  all_goals exact ⟨rfl, below_step ((Below.refl _ _).alloc (Nat.le_refl _) _).drew (by simp) hb⟩

theorem holds_is (d x y : Int) (t : Bool) (hd : 0 ≤ d) (hd2 : d ≤ 18446744073709551615) (ht : (d / 4294967296 == x && d % 4294967296 == y) = t) (w : World) :
    Calls Try.prog 23 #[.func (.func 21) #[.int .u64 4294967296] #[], .int .u64 d, .agg #[.int .u64 x, .int .u64 y]] w fun e w' => e = .returned (.bool t) ∧ Below w.heap.size w w' :=
  (holds_any d x y hd hd2 w).mono fun _ _ ⟨he, hb⟩ => ⟨by rw [he, ht], hb⟩

set_option maxHeartbeats 400000 in
theorem ahead_walk (a b : Int) (w : World) :
    Calls Try.prog 19 #[.int .u64 a, .int .u64 b] w fun e w' => e = .returned (.int .i64 (aheadOf a b)) ∧ Below w.heap.size w w' := by
  have ew : IntKind.u64.wrap (a - b) = (a - b) % 18446744073709551616 := IntKind.wrap_u64 _
  have ew2 : IntKind.u64.wrap (b - a) = (b - a) % 18446744073709551616 := IntKind.wrap_u64 _
  have d0 : 0 ≤ IntKind.u64.wrap (a - b) := by omega
  have d1 : IntKind.u64.wrap (a - b) ≤ 18446744073709551615 := by omega
  have hmf : ∀ (fn : Fn) (first cap : Array Value) (w : World), (Instr.makeFunc fn first cap).run Try.prog w = .ok (.func fn first cap) w := fun _ _ _ _ => rfl
  by_cases h : IntKind.u64.wrap (a - b) = 9223372036854775808
  · have hz : aheadOf a b = -9223372036854775808 := by unfold aheadOf; split <;> omega
    have ht : (IntKind.u64.wrap (a - b) / 4294967296 == 2147483648 && IntKind.u64.wrap (a - b) % 4294967296 == 0) = true := by rw [h]; decide
    clear h ew ew2
    have HT := Lib.hid ht; clear ht
    have HZ := Lib.hid hz; clear hz
    go_enter Try.func19, Try.ntmps19
    go_wp2_with (go_at_call 23; refine (holds_is _ _ _ true d0 d1 HT.out _).mono ?_; rintro e w1 ⟨rfl, hb⟩)
    go_ret
    exact ⟨ret_int HZ.out.symm, hb⟩
  · have ht : (IntKind.u64.wrap (a - b) / 4294967296 == 2147483648 && IntKind.u64.wrap (a - b) % 4294967296 == 0) = false := by
      rw [Bool.eq_false_iff]; intro h2; simp at h2; omega
    have HT := Lib.hid ht; clear ht
    by_cases hl : IntKind.u64.wrap (a - b) < 9223372036854775808
    · have hz : aheadOf a b = IntKind.u64.wrap (a - b) := by unfold aheadOf; split <;> omega
      have HZ := Lib.hid hz; clear hz ew ew2 h
      go_enter Try.func19, Try.ntmps19
      go_wp2_with (go_at_call 23; refine (holds_is _ _ _ false d0 d1 HT.out _).mono ?_; rintro e w1 ⟨rfl, hb⟩)
      go_ret
      exact ⟨ret_int HZ.out.symm, hb⟩
    · have hz : aheadOf a b = - IntKind.u64.wrap (b - a) := by unfold aheadOf; split <;> omega
      have e0 : 0 ≤ IntKind.u64.wrap (b - a) := by omega
      have e1 : IntKind.u64.wrap (b - a) ≤ 9223372036854775807 := by omega
      have HZ := Lib.hid hz; clear hz ew ew2 h
      go_enter Try.func19, Try.ntmps19
      go_wp2_with (go_at_call 23; refine (holds_is _ _ _ false d0 d1 HT.out _).mono ?_; rintro e w1 ⟨rfl, hb⟩)
      go_ret
      exact ⟨ret_int HZ.out.symm, hb⟩

set_option maxHeartbeats 400000 in
theorem awake_any (w : World) : Calls Try.prog 9 #[] w fun e w' => e = .returned (.bool true) ∧ Below w.heap.size w w' := by
  have ha : (aheadOf 0 1 == -1) = true := by decide
  go_enter Try.func9, Try.ntmps9
  go_wp2_with (go_at_call 10; refine (cycle_any 28 (by omega) (by omega) _).mono ?_; rintro e w1 ⟨rfl, hb1⟩)
  go_wp2_with (go_at_call 11; refine (phase_any 3 4 (by omega) (by omega) _).mono ?_; rintro e w2 ⟨rfl, hb2⟩)
  go_wp2_with (go_at_call 14; refine (pair_any 1 2 (by omega) (by omega) (by omega) (by omega) _).mono ?_; rintro e w3 ⟨rfl, hb3⟩)
  go_wp2_with (go_at_call 19; refine (ahead_walk 0 1 _).mono ?_; rintro e w4 ⟨rfl, hb4⟩)
  go_wp2_with (go_at_call 14; refine (pair_any 1 2 (by omega) (by omega) (by omega) (by omega) _).mono ?_; rintro e w5 ⟨rfl, hb5⟩)
  go_wp2_with (go_at_call 18; refine (turn_any 4294967298 9 (by omega) (by omega) (by omega) (by omega) _).mono ?_; rintro e w6 ⟨rfl, hb6⟩)
  go_wp2_with (go_at_call 14; refine (pair_any 2 9 (by omega) (by omega) (by omega) (by omega) _).mono ?_; rintro e w7 ⟨rfl, hb7⟩)
  go_ret
  refine ⟨rfl, ?_⟩
  have c2 := below_step hb1 hb1.size hb2
  have c3 := below_step c2 c2.size hb3
  have c4 := below_step c3 c3.size hb4
  have c5 := below_step c4 c4.size hb5
  have c6 := below_step c5 c5.size hb6
  exact below_step c6 c6.size hb7

end Go.Proofs.Ytchphadkjoidjaa
