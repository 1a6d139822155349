/- Words of two numbers: parted, put together, turned; walked. -/
import Derived.Test.YtgnnhjadmepipaaBase
namespace Go.Proofs.Ytgnnhjadmepipaa
open Go.RowKit
set_option linter.unusedVariables false

theorem bcell {W w1 : World} (hb : Below W.heap.size W w1) : (∀ b o, b < W.heap.size → w1.cell? ⟨b, o, none⟩ = W.cell? ⟨b, o, none⟩) ∧ (∀ b o, b < W.heap.size → w1.frozen? ⟨b, o, none⟩ = W.frozen? ⟨b, o, none⟩) :=
  ⟨fun b o h => hb.cell (p := ⟨b, o, none⟩) h, fun b o h => hb.frozen (p := ⟨b, o, none⟩) h⟩

set_option maxHeartbeats 400000 in
theorem part_any (b x : Int) (hb : 1 ≤ b) (hb2 : b ≤ 18446744073709551615) (hx : 0 ≤ x) (hx2 : x ≤ 18446744073709551615) (w : World) :
    Calls Try.prog 58 #[.int .u64 b, .int .u64 x] w fun e w' => e = .returned (.agg #[.int .u64 (x / b), .int .u64 (x % b)]) ∧ Below w.heap.size w w' := by
  go_enter Try.func58, Try.ntmps58
  go_wp2
  go_region
  all_goals go_wp2
  all_goals (refine bodyPost_ret (v := .agg #[.int .u64 (x / b), .int .u64 (x % b)]) (by simp [results, Try.results58, go_sem]) rfl ⟨rfl, ?_⟩)
  all_goals exact ((Below.refl _ _).alloc (Nat.le_refl _) _).drew

set_option linter.unusedVariables false in
set_option maxHeartbeats 400000 in
theorem join_any (b x y : Int) (hb : 1 ≤ b) (hb2 : b ≤ 18446744073709551615) (hx : 0 ≤ x) (hx2 : x ≤ 18446744073709551615) (hy : 0 ≤ y) (hy2 : y ≤ 18446744073709551615) (w : World) :
    Calls Try.prog 62 #[.int .u64 b, .agg #[.int .u64 x, .int .u64 y]] w fun e w' => e = .returned (.int .u64 (IntKind.u64.wrap (IntKind.u64.wrap (x * b) + y % b))) ∧ Below w.heap.size w w' := by
  go_enter Try.func62, Try.ntmps62
  go_wp2
  go_quiet (fail)
  go_wp2
  go_ret
  exact ⟨rfl, below_drewN ((Below.refl _ _).alloc (Nat.le_refl _) _) _⟩

set_option maxHeartbeats 400000 in
theorem split_any (x : Int) (hx : 0 ≤ x) (hx2 : x ≤ 18446744073709551615) (w : World) :
    Calls Try.prog 56 #[.int .u64 x] w fun e w' => e = .returned (.tuple #[.int .u32 (x / 4294967296), .int .u32 (x % 4294967296)]) ∧ Below w.heap.size w w' := by
  go_enter Try.func56, Try.ntmps56
  go_wp2_with (go_at_call 58; refine (part_any 4294967296 x (by omega) (by omega) hx hx2 _).mono ?_; rintro e w1 ⟨rfl, hb⟩)
  go_quiet (fail)
  go_wp2
  go_ret2
  exact ⟨rfl, below_drewN ((hb.alloc hb.size _)) _⟩

set_option maxHeartbeats 400000 in
theorem pair_any (x y : Int) (hx : 0 ≤ x) (hx2 : x ≤ 4294967295) (hy : 0 ≤ y) (hy2 : y ≤ 4294967295) (w : World) :
    Calls Try.prog 61 #[.int .u32 x, .int .u32 y] w fun e w' => e = .returned (.int .u64 (x * 4294967296 + y)) ∧ Below w.heap.size w w' := by
  go_enter Try.func61, Try.ntmps61
  go_wp2_with (go_at_call 62; refine (join_any 4294967296 x y (by omega) (by omega) hx (by omega) hy (by omega) _).mono ?_; rintro e w1 ⟨rfl, hb⟩)
  go_ret
  exact ⟨ret_int (by rw [IntKind.wrap_u64, IntKind.wrap_u64]; omega), hb⟩

set_option maxHeartbeats 400000 in
theorem turn_any (x y : Int) (hx : 0 ≤ x) (hx2 : x ≤ 18446744073709551615) (hy : 0 ≤ y) (hy2 : y ≤ 4294967295) (w : World) :
    Calls Try.prog 60 #[.int .u64 x, .int .u32 y] w fun e w' => e = .returned (.int .u64 ((x / 4294967296 + 1) % 4294967296 * 4294967296 + y)) ∧ Below w.heap.size w w' := by
  go_enter Try.func60, Try.ntmps60
  go_wp2_with (first | (go_at_call 56; refine (split_any x hx hx2 _).mono ?_; rintro e w1 ⟨rfl, hb⟩) | (go_at_call 61; refine (pair_any (IntKind.u32.wrap (x / 4294967296 + 1)) y (by rw [IntKind.wrap_u32]; omega) (by rw [IntKind.wrap_u32]; omega) hy hy2 _).mono ?_; rintro e w2 ⟨rfl, hb2⟩))
  go_ret
  exact ⟨ret_int (by rw [IntKind.wrap_u32]), below_step hb hb.size hb2⟩

set_option maxHeartbeats 400000 in
theorem refPair_any (x y : Int) (hx : 0 ≤ x) (hx2 : x ≤ 4294967295) (hy : 0 ≤ y) (hy2 : y ≤ 4294967295) (w : World) :
    Calls Try.prog 48 #[.int .u32 x, .int .u32 y] w fun e w' => e = .returned (.int .u64 (x * 4294967296 + y)) ∧ w = w' := by
  go_enter Try.func48, Try.ntmps48
  go_wp2
  go_ret
  exact ⟨rfl, rfl⟩

set_option maxHeartbeats 400000 in
theorem refHigh_any (x : Int) (hx : 0 ≤ x) (hx2 : x ≤ 18446744073709551615) (w : World) :
    Calls Try.prog 49 #[.int .u64 x] w fun e w' => e = .returned (.int .u32 (x / 4294967296)) ∧ w = w' := by
  go_enter Try.func49, Try.ntmps49
  go_wp2
  go_ret
  exact ⟨rfl, rfl⟩

set_option maxHeartbeats 400000 in
theorem refLow_any (x : Int) (hx : 0 ≤ x) (hx2 : x ≤ 18446744073709551615) (w : World) :
    Calls Try.prog 37 #[.int .u64 x] w fun e w' => e = .returned (.int .u32 (x % 4294967296)) ∧ w = w' := by
  go_enter Try.func37, Try.ntmps37
  go_wp2
  go_ret
  exact ⟨rfl, rfl⟩

/-- A word's low number. -/
def lowOf (x : Int) : Int := x % 4294967296
def hiOf (x : Int) : Int := x / 4294967296
def turnOf (x n : Int) : Int := (hiOf x + 1) % 4294967296 * 4294967296 + n
theorem lowOf_rng (x : Int) : 0 ≤ lowOf x ∧ lowOf x ≤ 4294967295 := by unfold lowOf; omega

set_option maxHeartbeats 400000 in
theorem low_any (x : Int) (hx : 0 ≤ x) (hx2 : x ≤ 18446744073709551615) (w : World) :
    Calls Try.prog 52 #[.int .u64 x] w fun e w' => e = .returned (.int .u32 (lowOf x)) ∧ Below w.heap.size w w' := by
  go_enter Try.func52, Try.ntmps52
  go_wp2_with (first | (go_at_call 56; (with_reducible refine (split_any x hx hx2 _).mono ?_); rintro e w1 ⟨rfl, hb⟩) | fail)
  go_ret
  exact ⟨rfl, hb⟩
theorem turnw_any (x y : Int) (hx : 0 ≤ x) (hx2 : x ≤ 18446744073709551615) (hy : 0 ≤ y) (hy2 : y ≤ 4294967295) (w : World) :
    Calls Try.prog 60 #[.int .u64 x, .int .u32 y] w fun e w' => e = .returned (.int .u64 (turnOf x y)) ∧ Below w.heap.size w w' := turn_any x y hx hx2 hy hy2 w
end Go.Proofs.Ytgnnhjadmepipaa
