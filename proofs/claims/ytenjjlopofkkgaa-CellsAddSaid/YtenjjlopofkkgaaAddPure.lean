/- Sums that go round: of words in whatever order. -/
import Derived.Test.YtenjjlopofkkgaaAwake
namespace Go.Proofs.Ytenjjlopofkkgaa
set_option linter.unusedVariables false

/-- The sum of the first words, as it goes round. -/
def sumTo (f : Nat → Int) : Nat → Int
  | 0 => 0
  | k + 1 => IntKind.u64.wrap (sumTo f k + f k)
def psum (f : Nat → Int) : Nat → Int
  | 0 => 0
  | k + 1 => psum f k + f k
theorem sum_psum (f : Nat → Int) (k : Nat) : sumTo f k = IntKind.u64.wrap (psum f k) := by
  induction k with
  | zero => rfl
  | succ k ih => simp only [sumTo, psum]; rw [ih]; simp only [IntKind.wrap_u64]; omega
theorem psum_congr (f g : Nat → Int) (k : Nat) (h : ∀ i, i < k → f i = g i) : psum f k = psum g k := by
  induction k with
  | zero => rfl
  | succ k ih => simp only [psum]; rw [ih (fun i hi => h i (by omega)), h k (by omega)]
theorem psum_shift (f : Nat → Int) (k : Nat) : psum (fun i => f (i + 1)) k = psum f k + f k - f 0 := by
  induction k with
  | zero => simp [psum]
  | succ k ih => simp only [psum]; rw [ih]; omega
/-- The words of a ring, begun anywhere. -/
theorem psum_turn (f : Nat → Int) (n : Nat) (hn : 0 < n) (t : Nat) : psum (fun i => f ((i + t) % n)) n = psum f n := by
  induction t with
  | zero => exact psum_congr _ _ _ fun i hi => by rw [Nat.add_zero, Nat.mod_eq_of_lt hi]
  | succ t ih =>
    have e : (fun i => f ((i + (t + 1)) % n)) = fun i => (fun j => f ((j + t) % n)) (i + 1) := by
      funext i; show f _ = f _; rw [show i + (t + 1) = i + 1 + t by omega]
    rw [e, psum_shift (fun j => f ((j + t) % n)), ih]
    have : (n + t) % n = (0 + t) % n := by rw [Nat.add_mod_left, Nat.zero_add]
    simp only [this]; omega
theorem sum_turn (f : Nat → Int) (n : Nat) (hn : 0 < n) (t : Nat) : sumTo (fun i => f ((i + t) % n)) n = sumTo f n := by
  rw [sum_psum, sum_psum, psum_turn f n hn t]
theorem adv_one (z v : Int) : adv [z] 0 v = [IntKind.u64.wrap (z + v)] := by simp [adv, ptv, ldv, inB]
end Go.Proofs.Ytenjjlopofkkgaa
