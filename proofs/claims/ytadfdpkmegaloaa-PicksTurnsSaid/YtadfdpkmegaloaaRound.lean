/- Picks by turns: Round, walked. -/
import Derived.Test.YtadfdpkmegaloaaModel
namespace Go.Proofs.Ytadfdpkmegaloaa
open Go.RowKit
set_option linter.unusedVariables false

theorem quo_lt {all rounds : Int} (h1 : 1 ≤ all) : 10000 / all < rounds ↔ 10000 < all * rounds := by
  rw [Int.ediv_lt_iff_lt_mul (by omega), Int.mul_comm]

set_option maxHeartbeats 1000000 in
theorem round_none (all rounds from_ draw : Int) (w : World) (h : all < 1 ∨ rounds < 1 ∨ 10000 < all * rounds) :
    Calls Try.prog 17 #[.int .i64 all, .int .i64 rounds, .int .i64 from_, .int .i64 draw] w (SomeP 36 [] w) := by
  by_cases h1 : all < 1
  · clear h
    go_enter Try.func17, Try.ntmps17
    go_wp2
    go_ret
    exact ⟨_, rfl, OwnP.nil (Below.refl _ _)⟩
  by_cases h2 : rounds < 1
  · clear h
    go_enter Try.func17, Try.ntmps17
    go_wp2
    go_ret
    exact ⟨_, rfl, OwnP.nil (Below.refl _ _)⟩
  have h3 : 10000 / all < rounds := (quo_lt (by omega)).2 (by omega)
  have e0 : (all == 0) = false := by rw [beq_eq_false_iff_ne]; omega
  have h4 : 1 ≤ all := by omega
  have h5 : 1 ≤ rounds := by omega
  clear h h1 h2
  go_enter Try.func17, Try.ntmps17
  go_wp2
  go_ret
  exact ⟨_, rfl, OwnP.nil (Below.refl _ _)⟩

theorem made_flat (n : Nat) : (madeCells (Value.agg #[.int .i64 0, .int .i64 0]).cells (n * 2)).toList = flat (List.replicate n (0, 0)) := by
  apply List.ext_getElem?
  intro j
  by_cases hj : j < n * 2
  · obtain ⟨f0, f1⟩ := flat_get (List.replicate n ((0 : Int), (0 : Int))) (j / 2) (by simp; omega)
    have e : at_ (List.replicate n ((0 : Int), (0 : Int))) (j / 2) = (0, 0) := by simp [at_, List.getD, show j / 2 < n by omega]
    rw [e] at f0 f1
    have : j % 2 = 0 ∨ j % 2 = 1 := by omega
    rcases this with e | e
    · rw [show j / 2 * 2 = j by omega] at f0
      rw [f0]; simp [madeCells, hj, Value.cells, e]
    · rw [show j / 2 * 2 + 1 = j by omega] at f1
      rw [f1]; simp [madeCells, hj, Value.cells, e]
  · have h1 : (flat (List.replicate n ((0 : Int), (0 : Int)))).length ≤ j := by rw [flat_len]; simp; omega
    have h2 : (madeCells (Value.agg #[.int .i64 0, .int .i64 0]).cells (n * 2)).toList.length ≤ j := by simp [madeCells]; omega
    rw [List.getElem?_eq_none h1, List.getElem?_eq_none h2]

/-- The call's own row of picks, of one block. -/
def RowP (w : World) (a : Nat) (wr : World) (B : List Pk) : Prop :=
  wr.ownsRow w.heap.size 36 2 (.slice (some ⟨w.heap.size, 0, none⟩) a a) a (flat B) ∧ Below w.heap.size w wr
theorem RowP.cell {w wr : World} {a : Nat} {B : List Pk} (h : RowP w a wr B) (hB : B.length = a) (k : Nat) (hk : k < a) :
    wr.cell? ⟨w.heap.size, k * 2, none⟩ = some (.int .i64 (at_ B k).1) ∧ wr.cell? ⟨w.heap.size, k * 2 + 1, none⟩ = some (.int .i64 (at_ B k).2) ∧ wr.frozen? ⟨w.heap.size, k * 2, none⟩ = false ∧ wr.frozen? ⟨w.heap.size, k * 2 + 1, none⟩ = false := by
  obtain ⟨f0, f1⟩ := flat_get B k (by omega)
  exact ⟨(h.1.cellAt _ (by omega)).trans f0, (h.1.cellAt _ (by omega)).trans f1, h.1.frozenAt _, h.1.frozenAt _⟩
theorem RowP.put {w wr : World} {a : Nat} {B : List Pk} (h : RowP w a wr B) (hB : B.length = a) (k : Nat) (hk : k < a) (p : Pk) :
    RowP w a ((wr.setCell ⟨w.heap.size, k * 2, none⟩ (.int .i64 p.1)).setCell ⟨w.heap.size, k * 2 + 1, none⟩ (.int .i64 p.2)) (B.set k p) := by
  have s1 := (h.1.stored (k * 2) (.int .i64 p.1)).1
  have s2 := (s1.stored (k * 2 + 1) (.int .i64 p.2)).1
  rw [← flat_set B k p (by omega)] at s2
  exact ⟨s2, (h.2.setCell (p := ⟨w.heap.size, k * 2, none⟩) (Nat.le_refl _) _).setCell (p := ⟨w.heap.size, k * 2 + 1, none⟩) (Nat.le_refl _) _⟩

set_option maxHeartbeats 2000000 in
set_option maxRecDepth 100000 in
theorem round_some (a r N : Nat) (from_ draw : Int) (w : World) (ha : 1 ≤ a) (hr : 1 ≤ r) (hN : a * r = N) (hb : N ≤ 10000) (h3 : -9223372036854775808 ≤ from_) (h4 : from_ ≤ 9223372036854775807) :
    Calls Try.prog 17 #[.int .i64 a, .int .i64 r, .int .i64 from_, .int .i64 draw] w (SomeP 36 (roundTo a (from_ % a) draw N) w) := by
  have ha2 : a ≤ 10000 := by have := Nat.le_mul_of_pos_right a (show 0 < r by omega); omega
  have hr2 : r ≤ 10000 := by have := Nat.le_mul_of_pos_left r (show 0 < a by omega); omega
  have hN1 : 1 ≤ N := by have := Nat.le_mul_of_pos_right a (show 0 < r by omega); omega
  have hm : (a : Int) * (r : Int) = (N : Int) := by rw [← hN]; simp
  have hq : ¬ (10000 / (a : Int) < (r : Int)) := by rw [quo_lt (by omega), hm]; omega
  have e0 : ((a : Int) == 0) = false := by rw [beq_eq_false_iff_ne]; omega
  have e1 : (a == 0) = false := by rw [beq_eq_false_iff_ne]; omega
  have f0 := Int.emod_nonneg from_ (show (a : Int) ≠ 0 by omega)
  have f1 := Int.emod_lt_of_pos from_ (show 0 < (a : Int) by omega)
  have HC := rest_any from_ a w (by omega) (by omega) h3 h4
  obtain ⟨f, hf⟩ : ∃ f, f = from_ % (a : Int) := ⟨_, rfl⟩
  rw [← hf] at f0 f1 HC ⊢
  obtain ⟨i0, hi, hz0, hz1, hz2⟩ := info_parts info36
  clear hN hf
  have hq2 : (r : Int) ≤ 10000 / (a : Int) := by omega
  have ha3 : (1 : Int) ≤ (a : Int) := by omega
  have hr3 : (1 : Int) ≤ (r : Int) := by omega
  clear hq
  go_enter Try.func17, Try.ntmps17
  go_wp2_with (first
    | (go_at_call 27; (with_reducible refine HC.mono ?_); rintro e w1 ⟨rfl, rfl⟩)
    | (at_make; refine wpList_make_full w rfl _ _ 23 rfl w.heap.size 36 i0 (.agg #[.int .i64 0, .int .i64 0]) 2 Try.underlying23 hi hz0 hz1 .i64 .i64 _ _ N rfl rfl ?m1 ?m2 (by rw [hz2]; omega) (by unfold maxLen; omega) (Nat.le_refl _) ?_))
  case m1 => first | rfl | exact hm | omega
  case m2 => first | rfl | exact hm | omega
  intro w1 hown hgrow
  have hO : RowP w N w1 (List.replicate N (0, 0)) := ⟨by rw [← made_flat]; exact hown, (Below.refl _ _).grown hgrow (Nat.le_refl _) (fun k hk => by cases hk)⟩
  clear hown hgrow hi hz0 hz1 hz2 hm HC hq2
  go_wp2
  go_loopw [33] (fun i wr => ∃ (k : Nat) (B : List Pk), k ≤ N ∧ i = .int .i64 (k : Int) ∧ B.length = N ∧ (∀ j : Nat, j < k → at_ B j = ((f + (j : Int)) % (a : Int), draw)) ∧ RowP w N wr B) (fun i _ => N - (intOf i).toNat)
  case atStart => exact ⟨0, _, Nat.zero_le _, rfl, by simp, fun j hj => by omega, hO⟩
  case round =>
    clear hO
    obtain ⟨k, B, hk, rfl, hB, hg, hO⟩ := hrel
    by_cases hlt : k < N
    · obtain ⟨c0, c1, z0, z1⟩ := hO.cell hB k hlt
      have HO := Lib.hid (hO.put hB k hlt ((f + (k : Int)) % (a : Int), draw))
      have HG := Lib.hid hg
      have HBL := Lib.hid hB
      generalize at_ B k = q at c0 c1
      obtain ⟨q0, q1⟩ := q
      have hblk := (hO.1.lt w.heap.size rfl).2
      clear hO hg hB
      go_wp2
      go_roundw
      case rel =>
        refine ⟨k + 1, _, by omega, by go_num, by rw [List.length_set]; exact HBL.out, fun j hj => ?_, HO.out⟩
        by_cases e : j = k
        · subst e; simp [at_, List.getD, HBL.out, hlt]
        · rw [← HG.out j (by omega)]; simp [at_, List.getD, List.getElem?_set_ne (Ne.symm e)]
      case measure => simp [intOf]; omega
    · obtain rfl : k = N := by omega
      have e : B = roundTo a f draw k := list_ext (by rw [hB, roundTo_len]) (fun j hj => by rw [hg j (by omega), roundTo_get _ _ _ _ _ (by omega)])
      have HF : Hid (OwnP 36 w.heap.size w wr (.slice (some ⟨w.heap.size, 0, none⟩) k k) (roundTo a f draw k)) := Lib.hid ⟨by rw [roundTo_len, ← e]; exact hO.1, hO.2⟩
      clear hO hB hg e
      go_wp2
      go_ret
      exact ⟨_, rfl, HF.out⟩
end Go.Proofs.Ytadfdpkmegaloaa
