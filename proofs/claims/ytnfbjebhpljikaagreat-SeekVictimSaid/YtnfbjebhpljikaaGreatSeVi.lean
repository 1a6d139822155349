/- The law of victims: walked. -/
import Derived.Test.YtnfbjebhpljikaaGreatSeAw
namespace Go.Proofs.YtnfbjebhpljikaaGreat
open Go.RowKit
set_option linter.unusedVariables false
set_option linter.unusedSimpArgs false

theorem kvic_facts {all i draw : Int} (h : 2 ≤ all) : 0 ≤ kvic all i draw ∧ kvic all i draw < all ∧ kvic all i draw ≠ i := by
  have h3 := Int.emod_nonneg draw (show all ≠ 0 by omega)
  have h4 := Int.emod_lt_of_pos draw (show 0 < all by omega)
  unfold kvic kback
  rw [if_neg (by omega)]
  split
  · split <;> omega
  · omega
set_option maxHeartbeats 2000000 in
theorem ref_victim (all i draw : Int) (w : World) (ha : all ≤ 1000000) :
    Calls Tryz.prog 7 #[.int .i64 all, .int .i64 i, .int .i64 draw] w fun e w' => e = .returned (.int .i64 (kvic all i draw)) ∧ w = w' := by
  by_cases h2 : all < 2
  · rw [show kvic all i draw = -1 by unfold kvic; rw [if_pos h2]]
    clear ha
    go_enter Tryz.func7, Tryz.ntmps7
    go_wp2
    go_ret
    exact ⟨rfl, rfl⟩
  · have e := tmod_rest (n := draw) (by' := all) (by omega)
    have h1 := Int.tmod_lt_of_pos draw (show 0 < all by omega)
    have h2' := Int.lt_tmod_of_pos draw (show 0 < all by omega)
    have h3 := Int.emod_nonneg draw (show all ≠ 0 by omega)
    have h4 := Int.emod_lt_of_pos draw (show 0 < all by omega)
    have hb0 : all ≠ 0 := by omega
    have hb1 : all ≠ -1 := by omega
    have ew : IntKind.i64.wrap (Int.tmod draw all) = Int.tmod draw all := IntWalk.i64_in _ (by omega)
    obtain ⟨v, hv⟩ : ∃ v, v = draw % all := ⟨_, rfl⟩
    have hk : kvic all i draw = if v = i then kback all v else v := by unfold kvic; rw [if_neg h2, ← hv]
    rw [← hv] at e h3 h4
    have ew3 : IntKind.i64.wrap (v + 1) = v + 1 := IntWalk.i64_in _ (by omega)
    have hva : ¬ v = all := by omega
    by_cases hi : v = i
    · rw [if_pos hi] at hk
      subst hi
      by_cases hl : v + 1 = all
      · rw [show kback all v = 0 by unfold kback; rw [if_pos hl]] at hk
        rw [hk]
        subst hl
        by_cases h : Int.tmod draw (v + 1) < 0
        · rw [if_pos h] at e
          have ew2 : IntKind.i64.wrap (Int.tmod draw (v + 1) + (v + 1)) = v := by rw [e]; exact IntWalk.i64_in _ (by omega)
          clear ha e h1 h2' h3 h4 hk hv
          go_enter Tryz.func7, Tryz.ntmps7
          go_wp2
          go_ret
          exact ⟨rfl, rfl⟩
        · rw [if_neg h] at e
          clear ha h1 h2' h3 h4 hk hv
          go_enter Tryz.func7, Tryz.ntmps7
          go_wp2
          go_ret
          exact ⟨rfl, rfl⟩
      · rw [show kback all v = v + 1 by unfold kback; rw [if_neg hl]] at hk
        rw [hk]
        by_cases h : Int.tmod draw all < 0
        · rw [if_pos h] at e
          have ew2 : IntKind.i64.wrap (Int.tmod draw all + all) = v := by rw [e]; exact IntWalk.i64_in _ (by omega)
          clear ha e h1 h2' h3 h4 hk hv
          go_enter Tryz.func7, Tryz.ntmps7
          go_wp2
          go_ret
          exact ⟨rfl, rfl⟩
        · rw [if_neg h] at e
          clear ha h1 h2' h3 h4 hk hv
          go_enter Tryz.func7, Tryz.ntmps7
          go_wp2
          go_ret
          exact ⟨rfl, rfl⟩
    · rw [if_neg hi] at hk
      rw [hk]
      by_cases h : Int.tmod draw all < 0
      · rw [if_pos h] at e
        have ew2 : IntKind.i64.wrap (Int.tmod draw all + all) = v := by rw [e]; exact IntWalk.i64_in _ (by omega)
        clear ha e h1 h2' h3 h4 hk hv
        go_enter Tryz.func7, Tryz.ntmps7
        go_wp2
        go_ret
        exact ⟨rfl, rfl⟩
      · rw [if_neg h] at e
        clear ha h1 h2' h3 h4 hk hv
        go_enter Tryz.func7, Tryz.ntmps7
        go_wp2
        go_ret
        exact ⟨rfl, rfl⟩
set_option maxHeartbeats 4000000 in
theorem walkVictim (all i draw : Int) (w : World) (hall : (Lit.int .i64 all).wf = true) (hi : (Lit.int .i64 i).wf = true) (hd : (Lit.int .i64 draw).wf = true) :
    Calls Tryz.prog 3 #[.int .i64 all, .int .i64 i, .int .i64 draw] w fun e w' => e = .returned (.bool true) ∧ Below w.heap.size w w' := by
  have HA : Hid (-9223372036854775808 ≤ all ∧ all ≤ 9223372036854775807) := Lib.hid (by
    simp [Lit.wf, IntKind.min, IntKind.max, IntKind.bits, IntKind.signed] at hall; omega)
  have HD : Hid (-9223372036854775808 ≤ draw ∧ draw ≤ 9223372036854775807) := Lib.hid (by
    simp [Lit.wf, IntKind.min, IntKind.max, IntKind.bits, IntKind.signed] at hd; omega)
  clear hall hi hd
  by_cases h6 : all > 1000000
  · go_enter Tryz.func3, Tryz.ntmps3
    go_wp2_with (first
      | (go_at_call 5; (with_reducible refine (awake_true _).mono ?_); rintro e w1 ⟨rfl, hb⟩; have HB := Lib.hid hb; clear hb)
      | fail)
    go_ret
    exact ⟨rfl, HB.out⟩
  · have H6 := Lib.hid (show all ≤ 1000000 by omega)
    obtain ⟨v, hv⟩ : ∃ v, kvic all i draw = v := ⟨_, rfl⟩
    have HV := Lib.hid hv
    by_cases h2 : all < 2
    · have hv1 : v = -1 := by rw [← hv]; unfold kvic; rw [if_pos h2]
      have HV1 := Lib.hid hv1
      have g2 : ¬ 2 ≤ all := by omega
      have d2 : decide (all ≥ 2) = false := by simp; omega
      clear hv hv1
      go_enter Tryz.func3, Tryz.ntmps3
      go_wp2_with (first
        | (go_at_call 5; (with_reducible refine (awake_true _).mono ?_); rintro e w1 ⟨rfl, hb⟩; have HB := Lib.hid hb; clear hb)
        | (go_at_call 6; (with_reducible refine (victim_any _ _ _ _ HA.out HD.out).mono ?_); rintro r w2 ⟨rfl, rfl⟩; rw [HV.out, HV1.out])
        | (go_at_call 7; (with_reducible refine (ref_victim _ _ _ _ H6.out).mono ?_); rintro r w2 ⟨rfl, rfl⟩; rw [HV.out, HV1.out])
        | fail)
      go_ret
      exact ⟨rfl, HB.out⟩
    · obtain ⟨f1, f2, f3⟩ := kvic_facts (i := i) (draw := draw) (show 2 ≤ all by omega)
      rw [hv] at f1 f2 f3
      have d2 : decide (all ≥ 2) = true := by simp; omega
      have hbn : (v != i) = true := by simpa using f3
      clear hv
      go_enter Tryz.func3, Tryz.ntmps3
      go_wp2_with (first
        | (go_at_call 5; (with_reducible refine (awake_true _).mono ?_); rintro e w1 ⟨rfl, hb⟩; have HB := Lib.hid hb; clear hb)
        | (go_at_call 6; (with_reducible refine (victim_any _ _ _ _ HA.out HD.out).mono ?_); rintro r w2 ⟨rfl, rfl⟩; rw [HV.out])
        | (go_at_call 7; (with_reducible refine (ref_victim _ _ _ _ H6.out).mono ?_); rintro r w2 ⟨rfl, rfl⟩; rw [HV.out])
        | fail)
      go_ret
      exact ⟨rfl, HB.out⟩
end Go.Proofs.YtnfbjebhpljikaaGreat
