/- Small functions of the package layout, walked: pieces, rows, their places; and a word of two numbers. -/
import Derived.Test.YtbjhciccpkbmoaaLayAll
namespace Go.Proofs.Ytbjhciccpkbmoaa.Lay
open Go.RowKit
set_option linter.unusedVariables false

theorem bcell {W w1 : World} (hb : Below W.heap.size W w1) : (∀ b o, b < W.heap.size → w1.cell? ⟨b, o, none⟩ = W.cell? ⟨b, o, none⟩) ∧ (∀ b o, b < W.heap.size → w1.frozen? ⟨b, o, none⟩ = W.frozen? ⟨b, o, none⟩) :=
  ⟨fun b o h => hb.cell (p := ⟨b, o, none⟩) h, fun b o h => hb.frozen (p := ⟨b, o, none⟩) h⟩

theorem mul_bd {x y a b : Int} (hx : 0 ≤ x) (hxa : x ≤ a) (hy : 0 ≤ y) (hyb : y ≤ b) : 0 ≤ x * y ∧ x * y ≤ a * b :=
  ⟨Int.mul_nonneg hx hy, Int.mul_le_mul hxa hyb hy (Int.le_trans hx hxa)⟩

theorem within_yes (n lo hi : Int) (h : lo ≤ n ∧ n ≤ hi) (w : World) : Calls Try.prog 59 #[.int .i64 n, .int .i64 lo, .int .i64 hi] w fun e w' => e = .returned (.bool true) ∧ w = w' := by
  obtain ⟨h1, h2⟩ := h
  go_enter Try.func59, Try.ntmps59
  go_wp2
  go_ret
  exact ⟨rfl, rfl⟩
theorem within_no (n lo hi : Int) (h : ¬ (lo ≤ n ∧ n ≤ hi)) (w : World) : Calls Try.prog 59 #[.int .i64 n, .int .i64 lo, .int .i64 hi] w fun e w' => e = .returned (.bool false) ∧ w = w' := by
  by_cases h1 : lo ≤ n
  · have h2 : ¬ n ≤ hi := fun h3 => h ⟨h1, h3⟩
    clear h
    go_enter Try.func59, Try.ntmps59
    go_wp2
    go_ret
    exact ⟨rfl, rfl⟩
  · clear h
    go_enter Try.func59, Try.ntmps59
    go_wp2
    go_ret
    exact ⟨rfl, rfl⟩
/-- Whether a number is one from low to high. -/
theorem in_any (n lo hi : Int) (w : World) : Calls Try.prog 59 #[.int .i64 n, .int .i64 lo, .int .i64 hi] w fun e w' => e = .returned (.bool (decide (lo ≤ n ∧ n ≤ hi))) ∧ w = w' := by
  by_cases h : lo ≤ n ∧ n ≤ hi
  · rw [decide_eq_true h]; exact within_yes n lo hi h w
  · rw [decide_eq_false h]; exact within_no n lo hi h w
theorem rin_any (n lo hi : Int) (w : World) : Calls Try.prog 58 #[.int .i64 n, .int .i64 lo, .int .i64 hi] w fun e w' => e = .returned (.bool (decide (lo ≤ n ∧ n ≤ hi))) ∧ w = w' := by
  by_cases h : lo ≤ n ∧ n ≤ hi
  · rw [decide_eq_true h]
    obtain ⟨h1, h2⟩ := h
    go_enter Try.func58, Try.ntmps58
    go_wp2
    go_ret
    exact ⟨rfl, rfl⟩
  · rw [decide_eq_false h]
    by_cases h1 : lo ≤ n
    · have h2 : ¬ n ≤ hi := fun h3 => h ⟨h1, h3⟩
      clear h
      go_enter Try.func58, Try.ntmps58
      go_wp2
      go_ret
      exact ⟨rfl, rfl⟩
    · clear h
      go_enter Try.func58, Try.ntmps58
      go_wp2
      go_ret
      exact ⟨rfl, rfl⟩

/-- How many pieces of at most 'of' there are of n. -/
def piecesOf (n d : Int) : Int := if d < 1 then 0 else (n + d - 1) / d
theorem pieces_any (n d : Int) (h0 : 0 ≤ n) (h1 : n ≤ 1000) (h2 : d ≤ 1000) (w : World) : Calls Try.prog 62 #[.int .i64 n, .int .i64 d] w fun e w' => e = .returned (.int .i64 (piecesOf n d)) ∧ w = w' := by
  by_cases h : d < 1
  · have hp : piecesOf n d = 0 := by unfold piecesOf; rw [if_pos h]
    rw [hp]; clear hp
    go_enter Try.func62, Try.ntmps62
    go_wp2
    go_ret
    exact ⟨rfl, rfl⟩
  · have hp : (n + d - 1).tdiv d = piecesOf n d := by unfold piecesOf; rw [if_neg h, Int.tdiv_eq_ediv_of_nonneg (by omega)]
    have hq : 0 ≤ piecesOf n d ∧ piecesOf n d ≤ 2000 := by
      unfold piecesOf; rw [if_neg h]
      exact ⟨Int.ediv_nonneg (by omega) (by omega), Int.le_trans (Int.ediv_le_self _ (by omega)) (by omega)⟩
    obtain ⟨q0, q1⟩ := hq
    have hd : ¬ d = 0 := by omega
    have h3 : 1 ≤ d := by omega
    clear h
    go_enter Try.func62, Try.ntmps62
    go_wp2
    go_ret
    exact ⟨rfl, rfl⟩

/-- The end of a row. -/
def endL (at_ mn wd it : Int) : Int := at_ + mn * (wd + it)
abbrev rowV (at_ fr mn wd it : Int) : Value := .agg #[.int .i64 at_, .int .i64 fr, .int .i64 mn, .int .i64 wd, .int .i64 it]
/-- A row whose numbers are small. -/
structure RowOk (at_ fr mn wd it : Int) : Prop where
  a0 : 0 ≤ at_
  a1 : at_ ≤ 100000
  f0 : 0 ≤ fr
  f1 : fr ≤ 1000
  m0 : 0 ≤ mn
  m1 : mn ≤ 1000
  w0 : 0 ≤ wd
  w1 : wd ≤ 10
  i0 : 0 ≤ it
  i1 : it ≤ 100

theorem end_any {at_ fr mn wd it : Int} (h : RowOk at_ fr mn wd it) (w : World) : Calls Try.prog 61 #[rowV at_ fr mn wd it] w fun e w' => e = .returned (.int .i64 (endL at_ mn wd it)) ∧ Below w.heap.size w w' := by
  obtain ⟨a0, a1, f0, f1, m0, m1, w0, w1, i0, i1⟩ := h
  obtain ⟨p0, p1⟩ := mul_bd m0 m1 (by omega : 0 ≤ wd + it) (by omega : wd + it ≤ 110)
  go_enter Try.func61, Try.ntmps61
  go_wp2
  go_ret
  exact ⟨rfl, (Below.refl _ _).alloc (Nat.le_refl _) _⟩

set_option maxHeartbeats 400000 in
theorem then_any {at_ fr mn wd it : Int} (f m s i : Int) (h : RowOk at_ fr mn wd it) (w : World) : Calls Try.prog 31 #[rowV at_ fr mn wd it, .int .i64 f, .int .i64 m, .int .i64 s, .int .i64 i] w fun e w' => e = .returned (rowV (endL at_ mn wd it) f m s i) ∧ Below w.heap.size w w' := by
  have H := Lib.hid h
  have HB := Below.refl w.heap.size w
  go_enter Try.func31, Try.ntmps31
  go_wp2_with (go_at_call 61; (with_reducible refine (end_any H.out _).mono ?_); rintro e w1 ⟨rfl, hb1⟩; obtain ⟨hc, hf⟩ := bcell hb1)
  have HB1 := below_step (below_alloc0 (below_alloc0 HB _) _) (by simp; omega) hb1
  have hz := hb1.size
  refine bodyPost_ret (v := rowV (endL at_ mn wd it) f m s i) (by simp [results, Try.results31, go_sem, hc]) rfl ⟨rfl, ?_⟩
  go_grown

/-- The place of a row's word. -/
def wordL (at_ fr mn wd it i j : Int) : Int := if fr ≤ i ∧ i ≤ fr + mn - 1 then at_ + (i - fr) * (wd + it) + j else -1
def itemL (at_ fr mn wd it i j : Int) : Int := if 0 ≤ j ∧ j ≤ it - 1 then wordL at_ fr mn wd it i (wd + j) else -1

theorem word_any {at_ fr mn wd it : Int} (i j : Int) (h : RowOk at_ fr mn wd it) (hi : (Lit.int .i64 i).wf = true) (hj : 0 ≤ j ∧ j ≤ 1000) (w : World) : Calls Try.prog 51 #[rowV at_ fr mn wd it, .int .i64 i, .int .i64 j] w fun e w' => e = .returned (.int .i64 (wordL at_ fr mn wd it i j)) ∧ Below w.heap.size w w' := by
  obtain ⟨a0, a1, f0, f1, m0, m1, w0, w1, i0, i1⟩ := h
  obtain ⟨j0, j1⟩ := hj
  obtain ⟨x0, x1⟩ := bounds_i64 hi; clear hi
  by_cases hw : fr ≤ i ∧ i ≤ fr + mn - 1
  · have hL : wordL at_ fr mn wd it i j = at_ + (i - fr) * (wd + it) + j := by unfold wordL; rw [if_pos hw]
    rw [hL]; clear hL
    obtain ⟨p0, p1⟩ := mul_bd (by omega : 0 ≤ i - fr) (by omega : i - fr ≤ 1000) (by omega : 0 ≤ wd + it) (by omega : wd + it ≤ 110)
    have HW := Lib.hid hw
    have hw1 := hw.1
    have hw2 := hw.2
    clear hw
    go_enter Try.func51, Try.ntmps51
    go_wp2_with (go_at_call 59; (with_reducible refine (within_yes _ _ _ HW.out _).mono ?_); rintro e w1 ⟨rfl, rfl⟩)
    go_ret
    exact ⟨rfl, (Below.refl _ _).alloc (Nat.le_refl _) _⟩
  · have hL : wordL at_ fr mn wd it i j = -1 := by unfold wordL; rw [if_neg hw]
    rw [hL]; clear hL
    have HW := Lib.hid hw
    clear hw
    go_enter Try.func51, Try.ntmps51
    go_wp2_with (go_at_call 59; (with_reducible refine (within_no _ _ _ HW.out _).mono ?_); rintro e w1 ⟨rfl, rfl⟩)
    go_ret
    exact ⟨rfl, (Below.refl _ _).alloc (Nat.le_refl _) _⟩

set_option maxHeartbeats 400000 in
theorem join_any (b x y : Int) (hb : 1 ≤ b) (hb2 : b ≤ 18446744073709551615) (hx : 0 ≤ x) (hx2 : x ≤ 18446744073709551615) (hy : 0 ≤ y) (hy2 : y ≤ 18446744073709551615) (w : World) :
    Calls Try.prog 76 #[.int .u64 b, .agg #[.int .u64 x, .int .u64 y]] w fun e w' => e = .returned (.int .u64 (IntKind.u64.wrap (IntKind.u64.wrap (x * b) + y % b))) ∧ Below w.heap.size w w' := by
  go_enter Try.func76, Try.ntmps76
  go_wp2
  go_quiet (fail)
  go_wp2
  go_ret
  exact ⟨rfl, below_drewN ((Below.refl _ _).alloc (Nat.le_refl _) _) _⟩
set_option maxHeartbeats 400000 in
/-- A pair of turn 0 is its number. -/
theorem pair_any (y : Int) (hy : 0 ≤ y) (hy2 : y ≤ 4294967295) (w : World) :
    Calls Try.prog 66 #[.int .u32 0, .int .u32 y] w fun e w' => e = .returned (.int .u64 y) ∧ Below w.heap.size w w' := by
  go_enter Try.func66, Try.ntmps66
  go_wp2_with (go_at_call 76; refine (join_any 4294967296 0 y (by omega) (by omega) (by omega) (by omega) hy (by omega) _).mono ?_; rintro e w1 ⟨rfl, hb⟩)
  go_ret
  exact ⟨ret_int (by rw [IntKind.wrap_u64, IntKind.wrap_u64]; omega), hb⟩
end Go.Proofs.Ytbjhciccpkbmoaa.Lay
