/- How far a number is ahead of another one, walked. -/
import Derived.Test.YtjnenpflpckimaaBase
namespace Go.Proofs.Ytjnenpflpckimaa
open Go.RowKit
set_option linter.unusedVariables false

set_option maxHeartbeats 400000 in
theorem part_any (b x : Int) (hb : 1 ≤ b) (hb2 : b ≤ 18446744073709551615) (hx : 0 ≤ x) (hx2 : x ≤ 18446744073709551615) (w : World) :
    Calls Try.prog 44 #[.int .u64 b, .int .u64 x] w fun e w' => e = .returned (.agg #[.int .u64 (x / b), .int .u64 (x % b)]) ∧ Below w.heap.size w w' := by
  go_enter Try.func44, Try.ntmps44
  go_wp2
  go_region
  all_goals go_wp2
  all_goals (refine bodyPost_ret (v := .agg #[.int .u64 (x / b), .int .u64 (x % b)]) (by simp [results, Try.results44, go_sem]) rfl ⟨rfl, ?_⟩)
  all_goals exact ((Below.refl _ _).alloc (Nat.le_refl _) _).drew

/-- How far x is ahead of y. -/
def aheadOf (x y : Int) : Int := if (x - y) % 18446744073709551616 < 9223372036854775808 then (x - y) % 18446744073709551616 else (x - y) % 18446744073709551616 - 18446744073709551616

theorem bcell {W w1 : World} (hb : Below W.heap.size W w1) : (∀ b o, b < W.heap.size → w1.cell? ⟨b, o, none⟩ = W.cell? ⟨b, o, none⟩) ∧ (∀ b o, b < W.heap.size → w1.frozen? ⟨b, o, none⟩ = W.frozen? ⟨b, o, none⟩) :=
  ⟨fun b o h => hb.cell (p := ⟨b, o, none⟩) h, fun b o h => hb.frozen (p := ⟨b, o, none⟩) h⟩

@[go_sem] theorem eq72 (a b c d : Int) (w : World) : (Op.equalIn 10000 72 (.agg #[.int .u64 a, .int .u64 b]) (.agg #[.int .u64 c, .int .u64 d])).run Try.prog w = .ok (a == c && b == d) w := by
  have u3 := Try.underlying29
  have a3 := Try.isAgg29
  have z3 := Try.sizeOf29
  rw [show (10000 : Nat) = 9999 + 1 from rfl, Op.equalIn]
  simp only [Sem.run_bind, run_underlying Try.underlying72, Result.andThen_ok]
  simp only [Std.Legacy.Range.forIn_eq_forIn_range', Std.Legacy.Range.size, Nat.sub_zero, Nat.add_sub_cancel, Nat.div_one, List.range'_succ, List.range'_zero, List.forIn_cons, List.forIn_nil]
  go_simp
  by_cases h1 : a = c <;> by_cases h2 : b = d <;> simp [h1, h2]

set_option maxHeartbeats 400000 in
theorem holds_any (d x y : Int) (hd : 0 ≤ d) (hd2 : d ≤ 18446744073709551615) (w : World) :
    Calls Try.prog 43 #[.func (.func 44) #[.int .u64 4294967296] #[], .int .u64 d, .agg #[.int .u64 x, .int .u64 y]] w fun e w' => e = .returned (.bool (d / 4294967296 == x && d % 4294967296 == y)) ∧ Below w.heap.size w w' := by
  go_enter Try.func43, Try.ntmps43
  go_wp2
  go_region_with (first | (go_at_call 44; refine (part_any 4294967296 d (by omega) (by omega) hd hd2 _).mono ?_; rintro e w1 ⟨rfl, hb⟩; obtain ⟨hc, hf⟩ := bcell hb))
  all_goals go_wp2
  all_goals go_ret
  all_goals exact ⟨rfl, below_step ((Below.refl _ _).alloc (Nat.le_refl _) _).drew (by simp) hb⟩

theorem holds_is (d x y : Int) (t : Bool) (hd : 0 ≤ d) (hd2 : d ≤ 18446744073709551615) (ht : (d / 4294967296 == x && d % 4294967296 == y) = t) (w : World) :
    Calls Try.prog 43 #[.func (.func 44) #[.int .u64 4294967296] #[], .int .u64 d, .agg #[.int .u64 x, .int .u64 y]] w fun e w' => e = .returned (.bool t) ∧ Below w.heap.size w w' :=
  (holds_any d x y hd hd2 w).mono fun _ _ ⟨he, hb⟩ => ⟨by rw [he, ht], hb⟩

set_option maxHeartbeats 400000 in
theorem ahead_walk (a b : Int) (w : World) :
    Calls Try.prog 38 #[.int .u64 a, .int .u64 b] w fun e w' => e = .returned (.int .i64 (aheadOf a b)) ∧ Below w.heap.size w w' := by
  have ew : IntKind.u64.wrap (a - b) = (a - b) % 18446744073709551616 := IntKind.wrap_u64 _
  have ew2 : IntKind.u64.wrap (b - a) = (b - a) % 18446744073709551616 := IntKind.wrap_u64 _
  have d0 : 0 ≤ IntKind.u64.wrap (a - b) := by omega
  have d1 : IntKind.u64.wrap (a - b) ≤ 18446744073709551615 := by omega
  have hmf : ∀ (fn : Fn) (first cap : Array Value) (w : World), (Instr.makeFunc fn first cap).run Try.prog w = .ok (.func fn first cap) w := fun _ _ _ _ => rfl
  by_cases h : IntKind.u64.wrap (a - b) = 9223372036854775808
  · have hz : aheadOf a b = -9223372036854775808 := by unfold aheadOf; split <;> omega
    have ht : (IntKind.u64.wrap (a - b) / 4294967296 == 2147483648 && IntKind.u64.wrap (a - b) % 4294967296 == 0) = true := by rw [h]; decide
    clear h ew ew2
    have HT := Lib.hid ht; clear ht
    have HZ := Lib.hid hz; clear hz
    go_enter Try.func38, Try.ntmps38
    go_wp2_with (go_at_call 43; refine (holds_is _ _ _ true d0 d1 HT.out _).mono ?_; rintro e w1 ⟨rfl, hb⟩)
    go_ret
    exact ⟨ret_int HZ.out.symm, hb⟩
  · have ht : (IntKind.u64.wrap (a - b) / 4294967296 == 2147483648 && IntKind.u64.wrap (a - b) % 4294967296 == 0) = false := by
      rw [Bool.eq_false_iff]; intro h2; simp at h2; omega
    have HT := Lib.hid ht; clear ht
    by_cases hl : IntKind.u64.wrap (a - b) < 9223372036854775808
    · have hz : aheadOf a b = IntKind.u64.wrap (a - b) := by unfold aheadOf; split <;> omega
      have HZ := Lib.hid hz; clear hz ew ew2 h
      go_enter Try.func38, Try.ntmps38
      go_wp2_with (go_at_call 43; refine (holds_is _ _ _ false d0 d1 HT.out _).mono ?_; rintro e w1 ⟨rfl, hb⟩)
      go_ret
      exact ⟨ret_int HZ.out.symm, hb⟩
    · have hz : aheadOf a b = - IntKind.u64.wrap (b - a) := by unfold aheadOf; split <;> omega
      have e0 : 0 ≤ IntKind.u64.wrap (b - a) := by omega
      have e1 : IntKind.u64.wrap (b - a) ≤ 9223372036854775807 := by omega
      have HZ := Lib.hid hz; clear hz ew ew2 h
      go_enter Try.func38, Try.ntmps38
      go_wp2_with (go_at_call 43; refine (holds_is _ _ _ false d0 d1 HT.out _).mono ?_; rintro e w1 ⟨rfl, hb⟩)
      go_ret
      exact ⟨ret_int HZ.out.symm, hb⟩

end Go.Proofs.Ytjnenpflpckimaa
