/- The law of gaps, walked. -/
import Derived.Test.YtmeiohmdiklepaaLaws
import Derived.Test.YtmeiohmdiklepaaFacts
namespace Go.Proofs.Ytmeiohmdiklepaa
open Go.RowKit
set_option linter.unusedVariables false

theorem wf8 {a : Int} (h : (Lit.int .u8 a).wf = true) : 0 ≤ a ∧ a ≤ 255 := by
  simp [Lit.wf, IntKind.min, IntKind.max, IntKind.bits, IntKind.signed] at h
  omega
theorem win_yes (A : Option Addr) (L cap : Nat) (zs : List Int) (all wide : Int) (w : World) (hL : L = zs.length) (h : Reads w A zs) (hb : L ≤ 100000) (ha : all ≤ 100000) (hw : wide ≤ 9223372036854775807) (hy : IsWin zs all wide) :
    Calls Try.prog 13 #[.slice A L cap, .int .i64 all, .int .i64 wide] w fun e w' => e = .returned (.bool true) ∧ Below w.heap.size w w' :=
  (win_at A L cap zs all wide w hL h hb ha hw).mono fun e w' ⟨b, h1, h2, h3⟩ => ⟨by rw [h2, h1.2 hy], h3⟩
theorem win_no (A : Option Addr) (L cap : Nat) (zs : List Int) (all wide : Int) (w : World) (hL : L = zs.length) (h : Reads w A zs) (hb : L ≤ 100000) (ha : all ≤ 100000) (hw : wide ≤ 9223372036854775807) (hy : ¬ IsWin zs all wide) :
    Calls Try.prog 13 #[.slice A L cap, .int .i64 all, .int .i64 wide] w fun e w' => e = .returned (.bool false) ∧ Below w.heap.size w w' :=
  (win_at A L cap zs all wide w hL h hb ha hw).mono fun e w' ⟨b, h1, h2, h3⟩ => ⟨by rw [h2]; cases b; rfl; exact absurd (h1.1 rfl) hy, h3⟩

/-- The longest gap of the first u. -/
def MostTo (l : List Int) (u m : Nat) : Prop := m ≤ l.length ∧ (∀ v, v < u → ∃ g, IsGap l v g ∧ g ≤ m) ∧ (m = 0 ∨ ∃ v, v < u ∧ IsGap l v m)
theorem most_step {l : List Int} {u m g : Nat} (h : MostTo l u m) (hg : IsGap l u g) : MostTo l (u + 1) (if g > m then g else m) := by
  obtain ⟨h0, h1, h2⟩ := h
  have := gap_le hg
  refine ⟨by split <;> omega, fun v hv => ?_, ?_⟩
  · by_cases e : v = u
    · subst e; exact ⟨g, hg, by split <;> omega⟩
    · obtain ⟨k, a, b⟩ := h1 v (by omega)
      exact ⟨k, a, by split <;> omega⟩
  · split
    · exact .inr ⟨u, by omega, hg⟩
    · rcases h2 with e | ⟨v, a, b⟩
      · exact .inl e
      · exact .inr ⟨v, by omega, b⟩

set_option maxHeartbeats 2000000 in
theorem walkGap (a0 : Option Addr) (len0 cap0 : Nat) (z0 : List Int) (a1 : Int) (w : World) (w0 : IsRow .i64 w a0 len0 cap0 z0) (w1 : (Lit.int .u8 a1).wf = true) :
    Calls Try.prog 7 #[.slice a0 len0 cap0, .int .u8 a1] w fun e w' => e = .returned (.bool true) ∧ Below w.heap.size w w' := by
  obtain ⟨hR, hlen, h1, h2⟩ := reads_row w0
  unfold maxLen at h2
  have b1 := wf8 w1
  clear w0 w1
  generalize z0.take len0 = zs at hR hlen
  have HL := Lib.hid hlen.symm; clear hlen
  have hb : Below w.heap.size w w := Below.refl _ _
  by_cases c1 : 60 < len0
  · clear hR
    go_enter Try.func7, Try.ntmps7
    go_wp2_with (go_at_call 9; (with_reducible refine (awake_true _).mono ?_); rintro e w1 ⟨rfl, hb1⟩)
    go_ret
    exact ⟨rfl, hb1⟩
  by_cases c2 : len0 = 0
  · clear hR
    subst c2
    go_enter Try.func7, Try.ntmps7
    go_wp2_with (go_at_call 9; (with_reducible refine (awake_true _).mono ?_); rintro e w1 ⟨rfl, hb1⟩)
    go_ret
    exact ⟨rfl, hb1⟩
  have e1 : (len0 == 0) = false := by rw [beq_eq_false_iff_ne]; omega
  have e2 : ((len0 : Int) == 0) = false := by rw [beq_eq_false_iff_ne]; omega
  obtain ⟨n, hn⟩ : ∃ n : Nat, a1 % 4 + 1 = (n : Int) := ⟨(a1 % 4 + 1).toNat, by omega⟩
  have hn1 : 1 ≤ n := by omega
  have hn2 : n ≤ 4 := by omega
  clear c2
  go_enter Try.func7, Try.ntmps7
  go_wp2_with (go_at_call 9; (with_reducible refine (awake_true _).mono ?_); rintro e w1 ⟨rfl, hb1⟩; have hR := hR.below hb1; have hb := below_step hb hb.size hb1; clear hb1)
  clear hn e1 e2
  go_loop [7, 8] (fun a b => ∃ u m : Nat, u ≤ n ∧ a = .int .i64 m ∧ b = .int .i64 u ∧ MostTo zs u m) (fun _ b => n - (intOf b).toNat)
  case atStart => exact ⟨0, 0, Nat.zero_le _, rfl, rfl, Nat.zero_le _, fun v hv => by omega, .inl rfl⟩
  case round =>
    obtain ⟨u, m, hu, rfl, rfl, hm⟩ := hrel
    have hml : m ≤ len0 := by have := hm.1; have := HL.out; omega
    by_cases hun : u < n
    · have HM := Lib.hid hm; clear hm
      go_wp2_with (go_at_call 15; (with_reducible refine (gap_at _ _ _ zs _ _ HL.out hR (by omega)).mono ?_); rintro e w4 ⟨g, hg, rfl, rfl⟩; have HG := Lib.hid (most_step HM.out hg); clear hg)
      go_round
      case rel => exact ⟨u + 1, if g > m then g else m, by omega, by unfold imax; congr 1; split <;> split <;> omega, by go_num, HG.out⟩
      case measure => simp [intOf]; omega
    · obtain rfl : u = n := by omega
      have hy := gap_win hm.2.1
      by_cases hm0 : m = 0
      · subst hm0
        have hy' : IsWin zs u 1 := by have := hy; simpa using this
        have HY := Lib.hid hy'
        clear hy hy' hm
        go_wp2_with (go_at_call 13; (with_reducible refine (win_yes _ _ _ zs _ _ _ HL.out hR (by omega) (by omega) (by omega) HY.out).mono ?_); rintro e w5 ⟨rfl, hb1⟩; have hR := hR.below hb1; have hb := below_step hb hb.size hb1; clear hb1)
        go_ret
        exact ⟨rfl, hb⟩
      · have hno : ¬ IsWin zs u (m : Int) := by
          rcases hm.2.2 with e | ⟨v, hv, hg⟩
          · exact absurd e hm0
          · exact gap_nowin (by omega) hv hg
        have e1 : (m == 0) = false := by rw [beq_eq_false_iff_ne]; omega
        have e2 : ((m : Int) == 0) = false := by rw [beq_eq_false_iff_ne]; omega
        have HY := Lib.hid hy
        have HNO := Lib.hid hno
        clear hy hm hno hm0
        go_wp2_with (first
          | (go_at_call 13; (with_reducible refine (win_yes _ _ _ zs _ _ _ HL.out hR (by omega) (by omega) (by omega) HY.out).mono ?_); rintro e w5 ⟨rfl, hb1⟩; have hR := hR.below hb1; have hb := below_step hb hb.size hb1; clear hb1)
          | (go_at_call 13; (with_reducible refine (win_no _ _ _ zs _ _ _ HL.out hR (by omega) (by omega) (by omega) HNO.out).mono ?_); rintro e w5 ⟨rfl, hb1⟩; have hR := hR.below hb1; have hb := below_step hb hb.size hb1; clear hb1))
        go_ret
        exact ⟨rfl, hb⟩
end Go.Proofs.Ytmeiohmdiklepaa
