/- Small functions of the package layout, walked: pieces, rows, their places; and a word of two numbers. Configurations: what may be, the program's check and the document's; their numbers. -/
import Derived.Test.YtbpkcoemehmpbaaGreatJ5
namespace Go.Proofs.YtbpkcoemehmpbaaGreat.Lay
open Go.RowKit
set_option linter.unusedVariables false

theorem bcell {W w1 : World} (hb : Below W.heap.size W w1) : (∀ b o, b < W.heap.size → w1.cell? ⟨b, o, none⟩ = W.cell? ⟨b, o, none⟩) ∧ (∀ b o, b < W.heap.size → w1.frozen? ⟨b, o, none⟩ = W.frozen? ⟨b, o, none⟩) :=
  ⟨fun b o h => hb.cell (p := ⟨b, o, none⟩) h, fun b o h => hb.frozen (p := ⟨b, o, none⟩) h⟩

theorem mul_bd {x y a b : Int} (hx : 0 ≤ x) (hxa : x ≤ a) (hy : 0 ≤ y) (hyb : y ≤ b) : 0 ≤ x * y ∧ x * y ≤ a * b :=
  ⟨Int.mul_nonneg hx hy, Int.mul_le_mul hxa hyb hy (Int.le_trans hx hxa)⟩

theorem within_yes (n lo hi : Int) (h : lo ≤ n ∧ n ≤ hi) (w : World) : Calls Tryz.prog 66 #[.int .i64 n, .int .i64 lo, .int .i64 hi] w fun e w' => e = .returned (.bool true) ∧ w = w' := by
  obtain ⟨h1, h2⟩ := h
  go_enter Tryz.func66, Tryz.ntmps66
  go_wp2
  go_ret
  exact ⟨rfl, rfl⟩
theorem within_no (n lo hi : Int) (h : ¬ (lo ≤ n ∧ n ≤ hi)) (w : World) : Calls Tryz.prog 66 #[.int .i64 n, .int .i64 lo, .int .i64 hi] w fun e w' => e = .returned (.bool false) ∧ w = w' := by
  by_cases h1 : lo ≤ n
  · have h2 : ¬ n ≤ hi := fun h3 => h ⟨h1, h3⟩
    clear h
    go_enter Tryz.func66, Tryz.ntmps66
    go_wp2
    go_ret
    exact ⟨rfl, rfl⟩
  · clear h
    go_enter Tryz.func66, Tryz.ntmps66
    go_wp2
    go_ret
    exact ⟨rfl, rfl⟩
/-- Whether a number is one from low to high. -/
theorem in_any (n lo hi : Int) (w : World) : Calls Tryz.prog 66 #[.int .i64 n, .int .i64 lo, .int .i64 hi] w fun e w' => e = .returned (.bool (decide (lo ≤ n ∧ n ≤ hi))) ∧ w = w' := by
  by_cases h : lo ≤ n ∧ n ≤ hi
  · rw [decide_eq_true h]; exact within_yes n lo hi h w
  · rw [decide_eq_false h]; exact within_no n lo hi h w
theorem rin_any (n lo hi : Int) (w : World) : Calls Tryz.prog 65 #[.int .i64 n, .int .i64 lo, .int .i64 hi] w fun e w' => e = .returned (.bool (decide (lo ≤ n ∧ n ≤ hi))) ∧ w = w' := by
  by_cases h : lo ≤ n ∧ n ≤ hi
  · rw [decide_eq_true h]
    obtain ⟨h1, h2⟩ := h
    go_enter Tryz.func65, Tryz.ntmps65
    go_wp2
    go_ret
    exact ⟨rfl, rfl⟩
  · rw [decide_eq_false h]
    by_cases h1 : lo ≤ n
    · have h2 : ¬ n ≤ hi := fun h3 => h ⟨h1, h3⟩
      clear h
      go_enter Tryz.func65, Tryz.ntmps65
      go_wp2
      go_ret
      exact ⟨rfl, rfl⟩
    · clear h
      go_enter Tryz.func65, Tryz.ntmps65
      go_wp2
      go_ret
      exact ⟨rfl, rfl⟩

/-- How many pieces of at most 'of' there are of n. -/
def piecesOf (n d : Int) : Int := if d < 1 then 0 else (n + d - 1) / d
theorem pieces_any (n d : Int) (h0 : 0 ≤ n) (h1 : n ≤ 1000) (h2 : d ≤ 1000) (w : World) : Calls Tryz.prog 69 #[.int .i64 n, .int .i64 d] w fun e w' => e = .returned (.int .i64 (piecesOf n d)) ∧ w = w' := by
  by_cases h : d < 1
  · have hp : piecesOf n d = 0 := by unfold piecesOf; rw [if_pos h]
    rw [hp]; clear hp
    go_enter Tryz.func69, Tryz.ntmps69
    go_wp2
    go_ret
    exact ⟨rfl, rfl⟩
  · have hp : (n + d - 1).tdiv d = piecesOf n d := by unfold piecesOf; rw [if_neg h, Int.tdiv_eq_ediv_of_nonneg (by omega)]
    have hq : 0 ≤ piecesOf n d ∧ piecesOf n d ≤ 2000 := by
      unfold piecesOf; rw [if_neg h]
      exact ⟨Int.ediv_nonneg (by omega) (by omega), Int.le_trans (Int.ediv_le_self _ (by omega)) (by omega)⟩
    obtain ⟨q0, q1⟩ := hq
    have hd : ¬ d = 0 := by omega
    have h3 : 1 ≤ d := by omega
    clear h
    go_enter Tryz.func69, Tryz.ntmps69
    go_wp2
    go_ret
    exact ⟨rfl, rfl⟩

/-- The end of a row. -/
def endL (at_ mn wd it : Int) : Int := at_ + mn * (wd + it)
abbrev rowV (at_ fr mn wd it : Int) : Value := .agg #[.int .i64 at_, .int .i64 fr, .int .i64 mn, .int .i64 wd, .int .i64 it]
/-- A row whose numbers are small. -/
structure RowOk (at_ fr mn wd it : Int) : Prop where
  a0 : 0 ≤ at_
  a1 : at_ ≤ 100000
  f0 : 0 ≤ fr
  f1 : fr ≤ 1000
  m0 : 0 ≤ mn
  m1 : mn ≤ 1000
  w0 : 0 ≤ wd
  w1 : wd ≤ 10
  i0 : 0 ≤ it
  i1 : it ≤ 100

theorem end_any {at_ fr mn wd it : Int} (h : RowOk at_ fr mn wd it) (w : World) : Calls Tryz.prog 68 #[rowV at_ fr mn wd it] w fun e w' => e = .returned (.int .i64 (endL at_ mn wd it)) ∧ Below w.heap.size w w' := by
  obtain ⟨a0, a1, f0, f1, m0, m1, w0, w1, i0, i1⟩ := h
  obtain ⟨p0, p1⟩ := mul_bd m0 m1 (by omega : 0 ≤ wd + it) (by omega : wd + it ≤ 110)
  go_enter Tryz.func68, Tryz.ntmps68
  go_wp2
  go_ret
  exact ⟨rfl, (Below.refl _ _).alloc (Nat.le_refl _) _⟩

set_option maxHeartbeats 400000 in
theorem then_any {at_ fr mn wd it : Int} (f m s i : Int) (h : RowOk at_ fr mn wd it) (w : World) : Calls Tryz.prog 32 #[rowV at_ fr mn wd it, .int .i64 f, .int .i64 m, .int .i64 s, .int .i64 i] w fun e w' => e = .returned (rowV (endL at_ mn wd it) f m s i) ∧ Below w.heap.size w w' := by
  have H := Lib.hid h
  have HB := Below.refl w.heap.size w
  go_enter Tryz.func32, Tryz.ntmps32
  go_wp2_with (go_at_call 68; (with_reducible refine (end_any H.out _).mono ?_); rintro e w1 ⟨rfl, hb1⟩; obtain ⟨hc, hf⟩ := bcell hb1)
  have HB1 := below_step (below_alloc0 (below_alloc0 HB _) _) (by simp; omega) hb1
  have hz := hb1.size
  refine bodyPost_ret (v := rowV (endL at_ mn wd it) f m s i) (by simp [results, Tryz.results32, go_sem, hc]) rfl ⟨rfl, ?_⟩
  go_grown

/-- The place of a row's word. -/
def wordL (at_ fr mn wd it i j : Int) : Int := if fr ≤ i ∧ i ≤ fr + mn - 1 then at_ + (i - fr) * (wd + it) + j else -1
def itemL (at_ fr mn wd it i j : Int) : Int := if 0 ≤ j ∧ j ≤ it - 1 then wordL at_ fr mn wd it i (wd + j) else -1

theorem word_any {at_ fr mn wd it : Int} (i j : Int) (h : RowOk at_ fr mn wd it) (hi : (Lit.int .i64 i).wf = true) (hj : 0 ≤ j ∧ j ≤ 1000) (w : World) : Calls Tryz.prog 62 #[rowV at_ fr mn wd it, .int .i64 i, .int .i64 j] w fun e w' => e = .returned (.int .i64 (wordL at_ fr mn wd it i j)) ∧ Below w.heap.size w w' := by
  obtain ⟨a0, a1, f0, f1, m0, m1, w0, w1, i0, i1⟩ := h
  obtain ⟨j0, j1⟩ := hj
  obtain ⟨x0, x1⟩ := bounds_i64 hi; clear hi
  by_cases hw : fr ≤ i ∧ i ≤ fr + mn - 1
  · have hL : wordL at_ fr mn wd it i j = at_ + (i - fr) * (wd + it) + j := by unfold wordL; rw [if_pos hw]
    rw [hL]; clear hL
    obtain ⟨p0, p1⟩ := mul_bd (by omega : 0 ≤ i - fr) (by omega : i - fr ≤ 1000) (by omega : 0 ≤ wd + it) (by omega : wd + it ≤ 110)
    have HW := Lib.hid hw
    have hw1 := hw.1
    have hw2 := hw.2
    clear hw
    go_enter Tryz.func62, Tryz.ntmps62
    go_wp2_with (go_at_call 66; (with_reducible refine (within_yes _ _ _ HW.out _).mono ?_); rintro e w1 ⟨rfl, rfl⟩)
    go_ret
    exact ⟨rfl, (Below.refl _ _).alloc (Nat.le_refl _) _⟩
  · have hL : wordL at_ fr mn wd it i j = -1 := by unfold wordL; rw [if_neg hw]
    rw [hL]; clear hL
    have HW := Lib.hid hw
    clear hw
    go_enter Tryz.func62, Tryz.ntmps62
    go_wp2_with (go_at_call 66; (with_reducible refine (within_no _ _ _ HW.out _).mono ?_); rintro e w1 ⟨rfl, rfl⟩)
    go_ret
    exact ⟨rfl, (Below.refl _ _).alloc (Nat.le_refl _) _⟩

set_option maxHeartbeats 400000 in
theorem join_any (b x y : Int) (hb : 1 ≤ b) (hb2 : b ≤ 18446744073709551615) (hx : 0 ≤ x) (hx2 : x ≤ 18446744073709551615) (hy : 0 ≤ y) (hy2 : y ≤ 18446744073709551615) (w : World) :
    Calls Tryz.prog 63 #[.int .u64 b, .agg #[.int .u64 x, .int .u64 y]] w fun e w' => e = .returned (.int .u64 (IntKind.u64.wrap (IntKind.u64.wrap (x * b) + y % b))) ∧ Below w.heap.size w w' := by
  go_enter Tryz.func63, Tryz.ntmps63
  go_wp2
  go_quiet (fail)
  go_wp2
  go_ret
  exact ⟨rfl, below_drewN ((Below.refl _ _).alloc (Nat.le_refl _) _) _⟩
set_option maxHeartbeats 400000 in
/-- A pair of turn 0 is its number. -/
theorem pair_any (y : Int) (hy : 0 ≤ y) (hy2 : y ≤ 4294967295) (w : World) :
    Calls Tryz.prog 24 #[.int .u32 0, .int .u32 y] w fun e w' => e = .returned (.int .u64 y) ∧ Below w.heap.size w w' := by
  go_enter Tryz.func24, Tryz.ntmps24
  go_wp2_with (go_at_call 63; refine (join_any 4294967296 0 y (by omega) (by omega) (by omega) (by omega) hy (by omega) _).mono ?_; rintro e w1 ⟨rfl, hb⟩)
  go_ret
  exact ⟨ret_int (by rw [IntKind.wrap_u64, IntKind.wrap_u64]; omega), hb⟩
end Go.Proofs.YtbpkcoemehmpbaaGreat.Lay

namespace Go.Proofs.YtbpkcoemehmpbaaGreat.Lay
open Go.RowKit
set_option linter.unusedVariables false

/-- A configuration's numbers. -/
structure Cfg where
  a : Int
  b : Int
  c : Int
  d : Int
  e : Int
  mr : Int
  mu : Int
  dq : Int
  ch : Int
  bf : Int
  rt : Int
  sw : Int
abbrev cfgV (c : Cfg) : Value := .agg #[.int .i64 c.a, .int .i64 c.b, .int .i64 c.c, .int .i64 c.d, .int .i64 c.e, .int .i64 c.mr, .int .i64 c.mu, .int .i64 c.dq, .int .i64 c.ch, .int .i64 c.bf, .int .i64 c.rt, .int .i64 c.sw]
abbrev cfgO (c : Cfg) (t : TypeId) : Obj := .cells #[.int .i64 c.a, .int .i64 c.b, .int .i64 c.c, .int .i64 c.d, .int .i64 c.e, .int .i64 c.mr, .int .i64 c.mu, .int .i64 c.dq, .int .i64 c.ch, .int .i64 c.bf, .int .i64 c.rt, .int .i64 c.sw] t

/-- How many nodes there are. -/
def nodesN (c : Cfg) : Int := c.a + c.b + c.c + c.d + c.e
structure OkC (c : Cfg) : Prop where
  a0 : 0 ≤ c.a
  a1 : c.a ≤ 12
  b0 : 0 ≤ c.b
  b1 : c.b ≤ 12
  c0 : 0 ≤ c.c
  c1 : c.c ≤ 12
  d0 : 0 ≤ c.d
  d1 : c.d ≤ 12
  e0 : 0 ≤ c.e
  e1 : c.e ≤ 12
  s0 : c.a + c.b + c.c + c.d + c.e ≠ 0
  k0 : 1 ≤ c.mr
  k1 : c.mr ≤ 4
  u0 : 1 ≤ c.mu
  u1 : c.mu ≤ 4
  q0 : 2 ≤ c.dq
  q1 : c.dq ≤ 8
  h0 : 1 ≤ c.ch
  h1 : c.ch ≤ 16
  f0 : 1 ≤ c.bf
  f1 : c.bf ≤ 4
  r0 : 1 ≤ c.rt
  r1 : c.rt ≤ 8
  w0 : 1 ≤ c.sw
  w1 : c.sw ≤ 16
theorem nodes_ok {c : Cfg} (h : OkC c) (w : World) : Calls Tryz.prog 67 #[.agg #[.int .i64 c.a, .int .i64 c.b, .int .i64 c.c, .int .i64 c.d, .int .i64 c.e]] w fun r w' => r = .returned (.int .i64 (nodesN c)) ∧ Below w.heap.size w w' :=
  (nodes_any _ _ _ _ _ w).mono fun _ _ ⟨he, hb⟩ => ⟨by rw [he, many_is ⟨h.a0, h.a1⟩, many_is ⟨h.b0, h.b1⟩, many_is ⟨h.c0, h.c1⟩, many_is ⟨h.d0, h.d1⟩, many_is ⟨h.e0, h.e1⟩]; rfl, hb⟩

@[go_sem] theorem ix22_0 (a b c d e : Int) (w : World) : (Instr.index 22 (.agg #[.int .i64 a, .int .i64 b, .int .i64 c, .int .i64 d, .int .i64 e]) (.int .i64 0)).run Tryz.prog w = .ok (.int .i64 a) w := by kernel_rfl
@[go_sem] theorem ix22_1 (a b c d e : Int) (w : World) : (Instr.index 22 (.agg #[.int .i64 a, .int .i64 b, .int .i64 c, .int .i64 d, .int .i64 e]) (.int .i64 1)).run Tryz.prog w = .ok (.int .i64 b) w := by kernel_rfl
@[go_sem] theorem ix22_2 (a b c d e : Int) (w : World) : (Instr.index 22 (.agg #[.int .i64 a, .int .i64 b, .int .i64 c, .int .i64 d, .int .i64 e]) (.int .i64 2)).run Tryz.prog w = .ok (.int .i64 c) w := by kernel_rfl
@[go_sem] theorem ix22_3 (a b c d e : Int) (w : World) : (Instr.index 22 (.agg #[.int .i64 a, .int .i64 b, .int .i64 c, .int .i64 d, .int .i64 e]) (.int .i64 3)).run Tryz.prog w = .ok (.int .i64 d) w := by kernel_rfl
@[go_sem] theorem ix22_4 (a b c d e : Int) (w : World) : (Instr.index 22 (.agg #[.int .i64 a, .int .i64 b, .int .i64 c, .int .i64 d, .int .i64 e]) (.int .i64 4)).run Tryz.prog w = .ok (.int .i64 e) w := by kernel_rfl

set_option maxHeartbeats 1000000 in
theorem check_yes {c : Cfg} (h : OkC c) (w : World) : Calls Tryz.prog 30 #[cfgV c] w fun r w' => r = .returned (.int .i64 0) ∧ Below w.heap.size w w' := by
  have H := Lib.hid h
  obtain ⟨a0, a1, b0, b1, c0, c1, d0, d1, e0, e1, s0, k0, k1, u0, u1, q0, q1, h0, h1, f0, f1, r0, r1, w0, w1⟩ := h
  have hn : (nodesN c == 0) = false := by unfold nodesN; rw [beq_eq_false_iff_ne]; exact s0
  clear s0
  go_enter Tryz.func30, Tryz.ntmps30
  go_wp2_with (go_at_call 66; (with_reducible refine (within_yes _ _ _ (by omega) _).mono ?_); rintro r w1 ⟨rfl, rfl⟩)
  refine wp_loop_rounds 6 ?_
  rw [rounds_succ]; go_wp2_with (go_at_call 66; (with_reducible refine (within_yes _ _ _ (by omega) _).mono ?_); rintro r w1 ⟨rfl, rfl⟩)
  rw [rounds_succ]; go_wp2_with (go_at_call 66; (with_reducible refine (within_yes _ _ _ (by omega) _).mono ?_); rintro r w1 ⟨rfl, rfl⟩)
  rw [rounds_succ]; go_wp2_with (go_at_call 66; (with_reducible refine (within_yes _ _ _ (by omega) _).mono ?_); rintro r w1 ⟨rfl, rfl⟩)
  rw [rounds_succ]; go_wp2_with (go_at_call 66; (with_reducible refine (within_yes _ _ _ (by omega) _).mono ?_); rintro r w1 ⟨rfl, rfl⟩)
  rw [rounds_succ]; go_wp2_with (go_at_call 66; (with_reducible refine (within_yes _ _ _ (by omega) _).mono ?_); rintro r w1 ⟨rfl, rfl⟩)
  rw [rounds_succ]; go_wp2_with (go_at_call 67; (with_reducible refine (nodes_ok H.out _).mono ?_); rintro r w1 ⟨rfl, hb1⟩)
  go_ret
  exact ⟨rfl, below_step ((Below.refl _ _).alloc (Nat.le_refl _) _) (by simp) hb1⟩

theorem first_bad {c : Cfg} (h : ¬ OkC c) : ¬ (1 ≤ c.mr ∧ c.mr ≤ 4) ∨ ((1 ≤ c.mr ∧ c.mr ≤ 4) ∧ (¬ (1 ≤ c.mu ∧ c.mu ≤ 4) ∨ ((1 ≤ c.mu ∧ c.mu ≤ 4) ∧ (¬ (2 ≤ c.dq ∧ c.dq ≤ 8) ∨ ((2 ≤ c.dq ∧ c.dq ≤ 8) ∧ (¬ (1 ≤ c.ch ∧ c.ch ≤ 16) ∨ ((1 ≤ c.ch ∧ c.ch ≤ 16) ∧
    (¬ (1 ≤ c.bf ∧ c.bf ≤ 4) ∨ ((1 ≤ c.bf ∧ c.bf ≤ 4) ∧ (¬ (1 ≤ c.rt ∧ c.rt ≤ 8) ∨ ((1 ≤ c.rt ∧ c.rt ≤ 8) ∧ (¬ (1 ≤ c.sw ∧ c.sw ≤ 16) ∨ ((1 ≤ c.sw ∧ c.sw ≤ 16) ∧
    (¬ (0 ≤ c.a ∧ c.a ≤ 12) ∨ ((0 ≤ c.a ∧ c.a ≤ 12) ∧ (¬ (0 ≤ c.b ∧ c.b ≤ 12) ∨ ((0 ≤ c.b ∧ c.b ≤ 12) ∧ (¬ (0 ≤ c.c ∧ c.c ≤ 12) ∨ ((0 ≤ c.c ∧ c.c ≤ 12) ∧ (¬ (0 ≤ c.d ∧ c.d ≤ 12) ∨ ((0 ≤ c.d ∧ c.d ≤ 12) ∧ (¬ (0 ≤ c.e ∧ c.e ≤ 12) ∨ ((0 ≤ c.e ∧ c.e ≤ 12) ∧ c.a + c.b + c.c + c.d + c.e = 0))))))))))))))))))))))) := by
  apply Classical.byContradiction
  intro g
  exact h ⟨by omega, by omega, by omega, by omega, by omega, by omega, by omega, by omega, by omega, by omega, by omega, by omega, by omega, by omega, by omega, by omega, by omega, by omega, by omega, by omega, by omega, by omega, by omega, by omega, by omega⟩

set_option maxHeartbeats 4000000 in
theorem check_no {c : Cfg} (h : ¬ OkC c) (w : World) : Calls Tryz.prog 30 #[cfgV c] w fun r w' => r = .returned (.int .i64 21) ∧ Below w.heap.size w w' := by
  have hz : c.a + c.b + c.c + c.d + c.e = 0 → (0 ≤ c.a ∧ c.a ≤ 12) → (0 ≤ c.b ∧ c.b ≤ 12) → (0 ≤ c.c ∧ c.c ≤ 12) → (0 ≤ c.d ∧ c.d ≤ 12) → (0 ≤ c.e ∧ c.e ≤ 12) → many c.a + many c.b + many c.c + many c.d + many c.e = 0 := by
    intro h0 ha hb hc hd he; rw [many_is ha, many_is hb, many_is hc, many_is hd, many_is he, h0]
  have HZ := Lib.hid hz; clear hz
  rcases first_bad h with g | ⟨g1, g | ⟨g2, g | ⟨g3, g | ⟨g4, g | ⟨g5, g | ⟨g6, g | ⟨g7, g | ⟨g8, g | ⟨g9, g | ⟨g10, g | ⟨g11, g | ⟨g12, g⟩⟩⟩⟩⟩⟩⟩⟩⟩⟩⟩⟩
  all_goals clear h
  all_goals go_enter Tryz.func30, Tryz.ntmps30
  all_goals go_wp2_with (first
    | (go_at_call 66; (with_reducible refine (within_yes _ _ _ (by assumption) _).mono ?_); rintro r w1 ⟨rfl, rfl⟩)
    | (go_at_call 66; (with_reducible refine (within_no _ _ _ (by assumption) _).mono ?_); rintro r w1 ⟨rfl, rfl⟩))
  all_goals refine wp_loop_rounds 6 ?_
  all_goals (rw [rounds_succ]; go_wp2_with (first
    | (go_at_call 66; (with_reducible refine (within_yes _ _ _ (by assumption) _).mono ?_); rintro r w1 ⟨rfl, rfl⟩)
    | (go_at_call 66; (with_reducible refine (within_no _ _ _ (by assumption) _).mono ?_); rintro r w1 ⟨rfl, rfl⟩)))
  all_goals (rw [rounds_succ]; go_wp2_with (first
    | (go_at_call 66; (with_reducible refine (within_yes _ _ _ (by assumption) _).mono ?_); rintro r w1 ⟨rfl, rfl⟩)
    | (go_at_call 66; (with_reducible refine (within_no _ _ _ (by assumption) _).mono ?_); rintro r w1 ⟨rfl, rfl⟩)))
  all_goals (rw [rounds_succ]; go_wp2_with (first
    | (go_at_call 66; (with_reducible refine (within_yes _ _ _ (by assumption) _).mono ?_); rintro r w1 ⟨rfl, rfl⟩)
    | (go_at_call 66; (with_reducible refine (within_no _ _ _ (by assumption) _).mono ?_); rintro r w1 ⟨rfl, rfl⟩)))
  all_goals (rw [rounds_succ]; go_wp2_with (first
    | (go_at_call 66; (with_reducible refine (within_yes _ _ _ (by assumption) _).mono ?_); rintro r w1 ⟨rfl, rfl⟩)
    | (go_at_call 66; (with_reducible refine (within_no _ _ _ (by assumption) _).mono ?_); rintro r w1 ⟨rfl, rfl⟩)))
  all_goals (rw [rounds_succ]; go_wp2_with (first
    | (go_at_call 66; (with_reducible refine (within_yes _ _ _ (by assumption) _).mono ?_); rintro r w1 ⟨rfl, rfl⟩)
    | (go_at_call 66; (with_reducible refine (within_no _ _ _ (by assumption) _).mono ?_); rintro r w1 ⟨rfl, rfl⟩)))
  all_goals (rw [rounds_succ]; go_wp2_with (first
    | (go_at_call 67; (with_reducible refine (nodes_any _ _ _ _ _ _).mono ?_); rintro r w1 ⟨rfl, hb1⟩; have hzz := HZ.out (by assumption) (by assumption) (by assumption) (by assumption) (by assumption) (by assumption))))
  all_goals go_ret
  all_goals first
    | exact ⟨rfl, (Below.refl _ _).alloc (Nat.le_refl _) _⟩
    | exact ⟨rfl, below_step ((Below.refl _ _).alloc (Nat.le_refl _) _) (by simp) hb1⟩

set_option maxHeartbeats 400000 in
theorem numbersOf_any (c : Cfg) (w : World) : Calls Tryz.prog 31 #[cfgV c] w fun r w' => r = .returned (cfgV c) ∧ Below w.heap.size w w' := by
  go_enter Tryz.func31, Tryz.ntmps31
  go_wp2
  exact bodyPost_ret (v := cfgV c) (by simp [results, Tryz.results31, go_sem]) rfl ⟨rfl, by go_grown⟩
set_option maxHeartbeats 400000 in
theorem model_any (c : Cfg) (w : World) : Calls Tryz.prog 8 #[cfgV c] w fun r w' => r = .returned (cfgV c) ∧ Below w.heap.size w w' := by
  go_enter Tryz.func8, Tryz.ntmps8
  go_wp2
  exact bodyPost_ret (v := cfgV c) (by simp [results, Tryz.results8, go_sem]) rfl ⟨rfl, by go_grown⟩
end Go.Proofs.YtbpkcoemehmpbaaGreat.Lay
