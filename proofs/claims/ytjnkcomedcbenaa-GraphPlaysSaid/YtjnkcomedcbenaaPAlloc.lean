/- The program's graph: Alloc, walked; lists copied to new memory. -/
import Derived.Test.YtjnkcomedcbenaaPMade
namespace Go.Proofs.Ytjnkcomedcbenaa
open Go.RowKit
set_option linter.unusedVariables false

section
variable {w w1 w' : World} {S R : Nat} {t : Nat → Tag} {rv sv : List Value} {N : Value} {g g' g2 : Gr}
theorem someP_trans {t1 : Nat → Tag} {r2 : Value} {e2 : Ending} (h1 : UpdF (fun k => t k ≠ .out) w w1 ∧ (∀ k, t k ≠ .out → t1 k = t k) ∧ ∀ k, t1 k ≠ .out → t k ≠ .out ∨ w.heap.size ≤ k) (h2 : SomeP S R t1 g2 r2 w1 e2 w') : SomeP S R t g2 r2 w e2 w' := by
  obtain ⟨hu, ho, hn⟩ := h1
  obtain ⟨t', rv', sv', N', he, hp', hu', ho', hn'⟩ := h2
  refine ⟨t', rv', sv', N', he, hp', ⟨hu'.os.trans hu.os, hu'.tape.trans hu.tape, hu'.output.trans hu.output, Nat.le_trans hu.size hu'.size, fun k hk hno => ?_⟩, fun k hk => (ho' k (by rw [ho k hk]; exact hk)).trans (ho k hk), fun k hk => ?_⟩
  · refine (hu'.block k (Nat.lt_of_lt_of_le hk hu.size) fun h => ?_).trans (hu.block k hk hno)
    rcases hn k h with h | h
    · exact hno h
    · omega
  · rcases hn' k hk with h | h
    · exact hn k h
    · exact .inr (Nat.le_trans hu.size h)
set_option maxHeartbeats 1600000 in
theorem allocP (h : PM w S R t rv sv N g) (hk : Ok g) (hmo : g.most ≤ 1000) (hnn : g.nodes.length ≤ 1000) (m n : Int) : Calls Try.prog 29 #[ptr S, .int .i64 m, .int .i64 n] w (SomeP S R t (gAlloc g m n).1 (.tuple #[.int .i64 (gAlloc g m n).2.1, .bool (gAlloc g m n).2.2]) w) := by
  by_cases h0 : 0 ≤ n ∧ n ≤ 64
  · obtain ⟨k, rfl⟩ : ∃ k : Nat, n = (k : Int) := ⟨n.toNat, by omega⟩
    have k0 : decide ((k : Int) < 0) = false := by simp
    have k1 : decide ((64 : Int) < (k : Int)) = false := by simp; omega
    cases hr : gRoom g m
    · have e : gAlloc g m (k : Int) = (g, 0, false) := by unfold gAlloc; rw [hr]; rfl
      rw [e]
      have H := Lib.hid h; have HR := Lib.hid hr
      clear h hr e hk hmo hnn h0
      go_enter Try.func29, Try.ntmps29
      go_wp2_with (first
        | (go_at_call 46; (with_reducible refine (takes_b H.out m HR.out).mono ?_); rintro r w1 ⟨rfl, hb⟩; have HB := Lib.hid hb; clear hb)
        | fail)
      go_ret2
      exact someP_same H.out HB.out
    · obtain ⟨x, hx⟩ : ∃ x, x = (g.nodes.length : Int) + 1 := ⟨_, rfl⟩
      have e : gAlloc g m (k : Int) = (gPush ⟨g.roots, g.nodes ++ [List.replicate k 0], g.most⟩ m x, x, true) := by unfold gAlloc; rw [hr, decide_eq_true h0, hx]; rfl
      rw [e]
      obtain ⟨i, rfl, hil, hlen⟩ := room_row hk hmo hr
      have H := Lib.hid h; have HR := Lib.hid hr; have HX := Lib.hid hx; have HN := Lib.hid hnn
      have HI := Lib.hid hil; have HL := Lib.hid hlen; have HK := Lib.hid (show k ≤ 64 by omega)
      clear h hr hx e hk hmo hil hlen hnn h0
      go_enter Try.func29, Try.ntmps29
      go_wp2_with (first
        | (go_at_call 46; (with_reducible refine (takes_b H.out (i : Int) HR.out).mono ?_); rintro r w1 ⟨rfl, hb⟩; have HB := Lib.hid hb; have H1 := Lib.hid (H.out.below hb); clear hb)
        | (go_at_call 31; (with_reducible refine (madeP H1.out HN.out k HK.out).mono ?_); rintro r w2 hq; rw [← HX.out] at hq; obtain ⟨t2, rv2, sv2, N2, rfl, hp2, hu2⟩ := hq; have H2 := Lib.hid hp2; have HU2 := Lib.hid hu2; clear hp2 hu2)
        | (go_at_call 47; (with_reducible refine (pushP H2.out i HI.out HL.out x).mono ?_); rintro r w3 hq; have HQ := Lib.hid hq; obtain ⟨_, _, rfl, -⟩ := hq)
        | fail)
      go_ret2
      exact someP_pre HB.out (someP_trans HU2.out (HQ.out.some rfl))
  · have e : gAlloc g m n = (g, 0, false) := by unfold gAlloc; rw [decide_eq_false h0, Bool.and_false]; rfl
    rw [e]
    have H := Lib.hid h
    by_cases h1 : n < 0
    · have d1 : decide (n < 0) = true := by simpa using h1
      clear h e hk hmo hnn h0
      go_enter Try.func29, Try.ntmps29
      go_wp2_with (fail)
      go_ret2
      exact someP_same H.out (Below.refl _ _)
    · have d1 : decide (n < 0) = false := by simpa using h1
      have d2 : decide (64 < n) = true := by simp; omega
      clear h e hk hmo hnn h0
      go_enter Try.func29, Try.ntmps29
      go_wp2_with (fail)
      go_ret2
      exact someP_same H.out (Below.refl _ _)
end
end Go.Proofs.Ytjnkcomedcbenaa
