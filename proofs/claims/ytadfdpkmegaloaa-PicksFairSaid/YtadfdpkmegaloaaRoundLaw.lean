/- The law of picks by turns and of those that leave nobody out, walked. -/
import Derived.Test.YtadfdpkmegaloaaAwake
import Derived.Test.YtadfdpkmegaloaaAid
namespace Go.Proofs.Ytadfdpkmegaloaa
open Go.RowKit
set_option linter.unusedVariables false

theorem wf64 {a : Int} (h : (Lit.int .i64 a).wf = true) : -9223372036854775808 ≤ a ∧ a ≤ 9223372036854775807 := by
  simp [Lit.wf, IntKind.min, IntKind.max, IntKind.bits, IntKind.signed] at h
  omega

theorem roundL_no {all rounds from_ draw : Int} (h : all < 1 ∨ rounds < 1 ∨ 10000 < all * rounds) : roundL all rounds from_ draw = [] := by unfold roundL; rw [if_pos h]
theorem roundL_yes {a r N : Nat} {from_ draw : Int} (ha : 1 ≤ a) (hr : 1 ≤ r) (hN : a * r = N) (hb : N ≤ 10000) : roundL a r from_ draw = roundTo a (from_ % a) draw N := by
  have hm : (a : Int) * (r : Int) = (N : Int) := by rw [← hN]; simp
  unfold roundL
  rw [hm, if_neg (by omega)]
  rfl
theorem round_split (all rounds : Int) (h : ¬ (all < 1 ∨ rounds < 1 ∨ 10000 < all * rounds)) : ∃ a r N : Nat, all = a ∧ rounds = r ∧ 1 ≤ a ∧ 1 ≤ r ∧ a * r = N ∧ N ≤ 10000 := by
  refine ⟨all.toNat, rounds.toNat, all.toNat * rounds.toNat, by omega, by omega, by omega, by omega, rfl, ?_⟩
  have e1 : (all.toNat : Int) = all := by omega
  have e2 : (rounds.toNat : Int) = rounds := by omega
  have : ((all.toNat * rounds.toNat : Nat) : Int) = all * rounds := by rw [Int.natCast_mul, e1, e2]
  omega
theorem roundL_len (all rounds from_ draw : Int) : (roundL all rounds from_ draw).length ≤ 10000 := by
  by_cases h : all < 1 ∨ rounds < 1 ∨ 10000 < all * rounds
  · rw [roundL_no h]; simp
  · obtain ⟨a, r, N, rfl, rfl, h1, h2, h3, h4⟩ := round_split all rounds h
    rw [roundL_yes h1 h2 h3 h4, roundTo_len]; exact h4

theorem round_at (all rounds from_ draw : Int) (r : List Pk) (m : Nat) (w : World) (h3 : -9223372036854775808 ≤ from_) (h4 : from_ ≤ 9223372036854775807) (hr : roundL all rounds from_ draw = r) (hm : m = r.length) :
    Calls Try.prog 17 #[.int .i64 all, .int .i64 rounds, .int .i64 from_, .int .i64 draw] w (SomeR r m w) := by
  by_cases h : all < 1 ∨ rounds < 1 ∨ 10000 < all * rounds
  · exact somep_at (round_none all rounds from_ draw w h) (by rw [← hr, roundL_no h]) hm
  · obtain ⟨a, q, N, rfl, rfl, h1, h2, h5, h6⟩ := round_split all rounds h
    exact somep_at (round_some a q N from_ draw w h1 h2 h5 h6 h3 h4) (by rw [← hr, roundL_yes h1 h2 h5 h6]) hm
theorem refround_at (all rounds from_ draw : Int) (r : List Pk) (m : Nat) (w : World) (h3 : -9223372036854775808 ≤ from_) (h4 : from_ ≤ 9223372036854775807) (hr : roundL all rounds from_ draw = r) (hm : m = r.length) :
    Calls Try.prog 18 #[.int .i64 all, .int .i64 rounds, .int .i64 from_, .int .i64 draw] w (SomeR r m w) := by
  by_cases h : all < 1 ∨ rounds < 1 ∨ 10000 < all * rounds
  · exact somep_at (refround_none all rounds from_ draw w h) (by rw [← hr, roundL_no h]) hm
  · obtain ⟨a, q, N, rfl, rfl, h1, h2, h5, h6⟩ := round_split all rounds h
    exact somep_at (refround_some a q N from_ draw w h1 h2 h5 h6 h3 h4) (by rw [← hr, roundL_yes h1 h2 h5 h6]) hm
theorem reffair_at (A : Option Addr) (cap n m : Nat) (l : List Pk) (all : Int) (r : List Pk) (w : World) (hn : n = l.length) (h : ReadsP w A l) (hb : n ≤ 300) (hr : fairL l (fairN all) = r) (hm : m = r.length) :
    Calls Try.prog 20 #[.slice A n cap, .int .i64 all] w (SomeR r m w) := somep_at (reffair_any A cap n l all w hn h hb) hr hm
theorem model_is (A : Option Addr) (cap n : Nat) (l : List Pk) (w : World) (hn : n = l.length) (h : ReadsP w A l) (hb : n ≤ 1000) :
    Calls Try.prog 15 #[.slice A n cap] w (SomeR l n w) := somep_at (model_any A cap n l w hn h hb) rfl hn
/-- A slice of numbers that reads as these. -/
def SomeRI (l : List Int) (m : Nat) (w : World) (e : Ending) (w' : World) : Prop := ∃ A c, e = .returned (.slice A m c) ∧ Reads .i64 w' A l ∧ Below w.heap.size w w'
theorem who_at (A : Option Addr) (cap n : Nat) (l : List Pk) (r : List Int) (w : World) (hn : n = l.length) (h : ReadsP w A l) (hb : n ≤ 10000) (hr : whos l = r) :
    Calls Try.prog 16 #[.slice A n cap] w (SomeRI r n w) := by
  subst hr
  exact (who_any A cap n l w hn h hb).mono fun e w' ⟨A', c, he, h1, h2⟩ => ⟨A', c, by rw [he, whos_len, hn], h1, h2⟩
theorem fairL_len (l : List Pk) (n : Nat) : (fairL l n).length ≤ l.length * (n + 1) := by
  rw [← fairTo_done]; exact fairTo_len l n l.length (Nat.le_refl _)

set_option maxHeartbeats 4000000 in
set_option maxRecDepth 100000 in
theorem walkRound (a0 a1 a2 a3 : Int) (a4 : Option Addr) (len4 cap4 : Nat) (l4 : List Pk) (w : World) (w0 : (Lit.int .i64 a0).wf = true) (w1 : (Lit.int .i64 a1).wf = true) (w2 : (Lit.int .i64 a2).wf = true) (w3 : (Lit.int .i64 a3).wf = true) (w4 : IsPks w a4 len4 cap4 l4) :
    Calls Try.prog 4 #[.int .i64 a0, .int .i64 a1, .int .i64 a2, .int .i64 a3, .slice a4 len4 cap4] w fun e w' => e = .returned (.bool true) ∧ Below w.heap.size w w' := by
  obtain ⟨hP, hpl, p1, p2, p3⟩ := w4
  obtain ⟨f0, f1⟩ := wf64 w2
  unfold maxLen at p2
  clear w0 w1 w2 w3
  have HPL := Lib.hid hpl.symm
  have hb : Below w.heap.size w w := Below.refl _ _
  by_cases c1 : 60 < len4
  · clear hP hpl
    go_enter Try.func4, Try.ntmps4
    go_wp2_with (go_at_call 9; (with_reducible refine (awake_true _).mono ?_); rintro e w1 ⟨rfl, hb1⟩)
    go_ret
    exact ⟨rfl, hb1⟩
  obtain ⟨r, hr⟩ : ∃ r, roundL a0 a1 a2 a3 = r := ⟨_, rfl⟩
  obtain ⟨m, hm⟩ : ∃ m, m = r.length := ⟨_, rfl⟩
  have hmb : m ≤ 100000 := by rw [hm, ← hr]; have := roundL_len a0 a1 a2 a3; omega
  obtain ⟨f, hf⟩ : ∃ f, fairL l4 (fairN a0) = f := ⟨_, rfl⟩
  obtain ⟨q, hq⟩ : ∃ q, q = f.length := ⟨_, rfl⟩
  have hqb : q ≤ 100000 := by
    rw [hq, ← hf]
    have h1 := fairL_len l4 (fairN a0)
    have h2 := fairN_le a0
    have h3 : l4.length * (fairN a0 + 1) ≤ 60 * 17 := Nat.mul_le_mul (by omega) (by omega)
    omega
  obtain ⟨ws, hws⟩ : ∃ ws, whos l4 = ws := ⟨_, rfl⟩
  have HRR := Lib.hid hr
  have HM := Lib.hid hm
  have HF := Lib.hid hf
  have HQ := Lib.hid hq
  have HW := Lib.hid hws
  have HPD := Lib.hid hP
  have hn4 : len4 ≤ 300 := by omega
  have hn5 : len4 ≤ 1000 := by omega
  have hn6 : len4 ≤ 10000 := by omega
  clear hP hpl hr hm hf hq hws
  go_enter Try.func4, Try.ntmps4
  go_wp2_with (first
    | (go_at_call 9; (with_reducible refine (awake_true _).mono ?_); rintro e w1 ⟨rfl, hb1⟩; have hb := below_step hb hb.size hb1; clear hb1)
    | (go_at_call 16; (with_reducible refine (who_at _ _ _ l4 ws _ HPL.out (HPD.out.below hb) hn6 HW.out).mono ?_); rintro e w2 ⟨A1, k1, rfl, hA1, hb1⟩; have hb := below_step hb hb.size hb1; clear hb1))
  have HA1 := Lib.hid hA1
  clear hA1
  go_loopw [13] (fun i wr => ∃ (k t : Nat), k ≤ len4 ∧ i = .int .i64 (k : Int) ∧ wr = w2.drewN t) (fun i _ => len4 - (intOf i).toNat)
  case atStart => exact ⟨0, 0, Nat.zero_le _, rfl, rfl⟩
  case round =>
    obtain ⟨k, t, hk, rfl, rfl⟩ := hrel
    by_cases hlt : k < len4
    · obtain ⟨b, off, rfl, hbl, hc⟩ := HA1.out (by rw [← HW.out, whos_len]; have := HPL.out; omega)
      obtain ⟨b', off', rfl, hbl', hc'⟩ := HPD.out (by have := HPL.out; omega)
      have d1 := hc k (by rw [← HW.out, whos_len]; have := HPL.out; omega)
      rw [← HW.out, whos_get l4 k (by have := HPL.out; omega)] at d1
      have d2 := (hb.cell (p := ⟨b', off' + k * 2, none⟩) hbl').trans (hc' k (by have := HPL.out; omega)).1
      obtain ⟨x, hx⟩ : ∃ x, x = (at_ l4 k).1 := ⟨_, rfl⟩
      rw [← hx] at d1 d2
      have ht : (x != x) = false := by simp
      have hk0 : (0 : Int) ≤ (k : Int) := by omega
      have hk1 : (k : Int) < (len4 : Int) := by omega
      clear hc hc' hx
      go_wp2
      go_quiet (fail)
      go_wp2
      go_roundw
      case rel => exact ⟨k + 1, _, by omega, by go_num, rfl⟩
      case measure => simp [intOf]; omega
    · have hb : Below w.heap.size w (w2.drewN t) := below_drewN hb t
      generalize w2.drewN t = w3 at hb ⊢
      go_wp2_with (first
        | (go_at_call 17; (with_reducible refine (round_at _ _ _ _ r m _ f0 f1 HRR.out HM.out).mono ?_); rintro e w4 ⟨A2, k2, rfl, hA2, _, hb1⟩; have hb := below_step hb hb.size hb1; clear hb1)
        | (go_at_call 18; (with_reducible refine (refround_at _ _ _ _ r m _ f0 f1 HRR.out HM.out).mono ?_); rintro e w5 ⟨A3, k3, rfl, hA3, _, hb1⟩; have hA2 := hA2.below hb1; have hb := below_step hb hb.size hb1; clear hb1)
        | (go_at_call 19; (with_reducible refine (fair_at _ _ _ q l4 _ f _ HPL.out (HPD.out.below hb) hn4 HF.out HQ.out).mono ?_); rintro e w6 ⟨A4, k4, rfl, hA4, _, hb1⟩; have hb := below_step hb hb.size hb1; clear hb1)
        | (go_at_call 15; (with_reducible refine (model_is _ _ _ l4 _ HPL.out (HPD.out.below hb) hn5).mono ?_); rintro e w7 ⟨A5, k5, rfl, hA5, _, hb1⟩; have hA4 := hA4.below hb1; have hb := below_step hb hb.size hb1; clear hb1)
        | (go_at_call 20; (with_reducible refine (reffair_at _ _ _ q l4 _ f _ HPL.out hA5 hn4 HF.out HQ.out).mono ?_); rintro e w8 ⟨A6, k6, rfl, hA6, _, hb1⟩; have hA4 := hA4.below hb1; have hb := below_step hb hb.size hb1; clear hb1)
        | (go_at_call 10; (with_reducible refine (same_yes _ _ _ _ _ _ r _ HM.out HM.out hA2 hA3 hmb hmb).mono ?_); rintro e w9 ⟨rfl, hb1⟩; have hb := below_step hb hb.size hb1; clear hb1)
        | (go_at_call 10; (with_reducible refine (same_yes _ _ _ _ _ _ f _ HQ.out HQ.out hA4 hA6 hqb hqb).mono ?_); rintro e w9 ⟨rfl, hb1⟩; have hb := below_step hb hb.size hb1; clear hb1))
      go_ret
      exact ⟨rfl, hb⟩
end Go.Proofs.Ytadfdpkmegaloaa
