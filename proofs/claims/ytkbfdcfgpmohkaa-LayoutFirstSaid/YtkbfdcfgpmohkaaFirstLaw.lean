/- The call of the law of the first words. -/
import Derived.Test.YtkbfdcfgpmohkaaChecks
import Derived.Test.YtkbfdcfgpmohkaaSame
namespace Go.Proofs.Ytkbfdcfgpmohkaa
open Go.RowKit
set_option linter.unusedVariables false

set_option maxHeartbeats 8000000 in
set_option maxRecDepth 100000 in
theorem walkFirst (c : Cfg) (w : World) : Calls Try.prog 6 #[cfgV c] w fun e w' => e = .returned (.bool true) ∧ Below w.heap.size w w' := by
  have HK := Lib.hid (KC.start c 24 w w (Below.refl _ _))
  by_cases h : OkC c
  case neg =>
    have H := Lib.hid h; clear h
    go_enter Try.func6, Try.ntmps6
    go_wp2_with (first
      | (go_at_call 10; (with_reducible refine (awake_any _).mono ?_); rintro r w1 ⟨rfl, hb1⟩; have HK := Lib.hid (HK.out.step hb1); clear hb1; obtain ⟨klt, q0, q1, q2, q3, q4, q5, q6, q7, q8, q9, q10, q11, qb⟩ := HK.out)
      | (go_at_call 12; (with_reducible refine (model_any c _).mono ?_); rintro r w2 ⟨rfl, hb2⟩; have HK := Lib.hid (HK.out.step hb2); clear hb2 klt q0 q1 q2 q3 q4 q5 q6 q7 q8 q9 q10 q11 qb; obtain ⟨klt, q0, q1, q2, q3, q4, q5, q6, q7, q8, q9, q10, q11, qb⟩ := HK.out)
      | (go_at_call 11; (with_reducible refine (rcheck_any c _).mono ?_); rintro r w3 ⟨x, rfl, hx, hb3⟩; obtain rfl := hx.2 H.out; have HK := Lib.hid (HK.out.step hb3); clear hb3 hx klt q0 q1 q2 q3 q4 q5 q6 q7 q8 q9 q10 q11 qb; obtain ⟨klt, q0, q1, q2, q3, q4, q5, q6, q7, q8, q9, q10, q11, qb⟩ := HK.out)
      | fail)
    go_ret
    exact ⟨rfl, HK.out.bel⟩
  case pos =>
    have H := Lib.hid h
    have hrl : (refL c).length = lenL (shOf c) := by rw [← things_len]; simp [refL]
    have HRL := Lib.hid hrl
    have hn7 : lenL (shOf c) ≤ 7000 := by have := (bds h).t55'; have := lenL_eq h; omega
    have HN7 := Lib.hid hn7
    have hsame := fun i hi => same_all h i hi
    have HSA := Lib.hid hsame
    clear h hrl hn7 hsame
    go_enter Try.func6, Try.ntmps6
    go_wp2_with (first
    | (go_at_call 10; (with_reducible refine (awake_any _).mono ?_); rintro r w1 ⟨rfl, hb1⟩; have HK := Lib.hid (HK.out.step hb1); clear hb1; obtain ⟨klt, q0, q1, q2, q3, q4, q5, q6, q7, q8, q9, q10, q11, qb⟩ := HK.out)
    | (go_at_call 12; (with_reducible refine (model_any c _).mono ?_); rintro r w2 ⟨rfl, hb2⟩; have HK := Lib.hid (HK.out.step hb2); (try have HL := Lib.hid (HL.out.below hb2)); clear hb2 klt q0 q1 q2 q3 q4 q5 q6 q7 q8 q9 q10 q11 qb; obtain ⟨klt, q0, q1, q2, q3, q4, q5, q6, q7, q8, q9, q10, q11, qb⟩ := HK.out)
    | (go_at_call 11; (with_reducible refine (rcheck_any c _).mono ?_); rintro r w3 ⟨x, rfl, hx, hb3⟩; obtain rfl := hx.1 H.out; have HK := Lib.hid (HK.out.step hb3); clear hb3 hx klt q0 q1 q2 q3 q4 q5 q6 q7 q8 q9 q10 q11 qb; obtain ⟨klt, q0, q1, q2, q3, q4, q5, q6, q7, q8, q9, q10, q11, qb⟩ := HK.out)
    | (go_at_call 13; (with_reducible refine (new_yes H.out _).mono ?_); rintro r w4 ⟨N, rfl, hm, hb4⟩; have HK := Lib.hid (HK.out.step hb4); have HQ : Hid (KQ w w.heap.size N c _) := Lib.hid ⟨hm, HK.out⟩; clear hb4 hm klt q0 q1 q2 q3 q4 q5 q6 q7 q8 q9 q10 q11 qb; obtain ⟨klt, q0, q1, q2, q3, q4, q5, q6, q7, q8, q9, q10, q11, qb⟩ := HK.out)
    | (go_at_call 30; (with_reducible refine (first_m H.out _ _ HQ.out.m).mono ?_); rintro r w5 ⟨G, n, L, rfl, hn, hLn, hl, hg, hR, hb5⟩; have HL : Hid (Reads .u64 w5 (some ⟨G, 0, none⟩) L) := Lib.hid (fun _ => ⟨G, 0, rfl, hg, fun i hi => (by rw [Nat.zero_add]; exact hl i (by omega))⟩); have HRR := Lib.hid hR; have HN := Lib.hid hn; have HLN := Lib.hid hLn; have HK := Lib.hid (HK.out.step hb5); clear hn hl hg hR hb5 hLn klt q0 q1 q2 q3 q4 q5 q6 q7 q8 q9 q10 q11 qb; obtain ⟨klt, q0, q1, q2, q3, q4, q5, q6, q7, q8, q9, q10, q11, qb⟩ := HK.out)
    | (go_at_call 31; (with_reducible refine (rfirst_any H.out _).mono ?_); rintro r w6 ⟨v6, rfl, ho6⟩; obtain ⟨A2, cap2, rfl, hl6, _, _, _⟩ := ho6.reads; rw [HRL.out, ← HN.out]; have HL2 := Lib.hid hl6; have HL := Lib.hid (HL.out.below ho6.2); have HK := Lib.hid (HK.out.step ho6.2); clear ho6 hl6 klt q0 q1 q2 q3 q4 q5 q6 q7 q8 q9 q10 q11 qb; obtain ⟨klt, q0, q1, q2, q3, q4, q5, q6, q7, q8, q9, q10, q11, qb⟩ := HK.out)
    | fail)
    clear klt q0 q1 q2 q3 q4 q5 q6 q7 q8 q9 q10 q11 qb
    have hn7 : n ≤ 7000 := by have := HN7.out; have := HN.out; omega
    have heq : ∀ i, i < n → (refL c).getD i 0 = L.getD i 0 := fun i hi => by
      have hit : i < (things (shOf c)).length := by rw [things_len]; have := HN.out; omega
      have hp := thing_plc hit
      have hnm := mem_norm (gt_in hit)
      have e := HRR.out.2 _ hnm (by omega)
      rw [hp] at e
      rw [refL_get c i hit, ← HSA.out i hit, ← e]; rfl
    have HEQ := Lib.hid heq
    have HRL2 : Hid ((refL c).length = n) := Lib.hid (by rw [HRL.out]; exact HN.out.symm)
    clear heq
    go_loopw [8] (fun i wr => ∃ k : Nat, k ≤ n ∧ i = .int .i64 (k : Int) ∧ Below w6.heap.size w6 wr) (fun i _ => n - (intOf i).toNat)
    case atStart => exact ⟨0, Nat.zero_le _, rfl, Below.refl _ _⟩
    case round =>
      obtain ⟨k, hk, rfl, hB⟩ := hrel
      by_cases hlt : k < n
      · obtain ⟨b1, off1, hA1, hbl1, hc1⟩ := HL.out (by rw [HLN.out]; omega)
        obtain ⟨b2, off2, rfl, hbl2, hc2⟩ := HL2.out (by rw [HRL2.out]; omega)
        injection hA1 with hA1
        injection hA1 with hA1 hA2
        subst hA1; subst hA2
        have t1 := (hB.cell (p := ⟨G, 0 + k, none⟩) hbl1).trans (hc1 k (by rw [HLN.out]; exact hlt))
        have t2 := (hB.cell (p := ⟨b2, off2 + k, none⟩) hbl2).trans (hc2 k (by rw [HRL2.out]; exact hlt))
        rw [Nat.zero_add] at t1
        rw [HEQ.out k hlt] at t2
        obtain ⟨X, hX⟩ : ∃ X, X = L.getD k 0 := ⟨_, rfl⟩
        rw [← hX] at t1 t2
        have HBB := Lib.hid hB
        have hk0 : (0 : Int) ≤ (k : Int) := by omega
        have hk1 : (k : Int) < (n : Int) := by omega
        clear hB hX hc1 hc2 hbl1 hbl2
        go_wp2_with (fail)
        go_quiet (fail)
        go_wp2_with (fail)
        go_roundw
        case rel => exact ⟨k + 1, by omega, by go_num, below_drewN HBB.out _⟩
        case measure => simp [intOf]; omega
      · have hkn : ¬ (k : Int) < (n : Int) := by omega
        have HBB := Lib.hid hB
        clear hB hlt
        go_wp2_with (fail)
        go_ret
        exact ⟨rfl, below_then HK.out.bel HBB.out⟩
end Go.Proofs.Ytkbfdcfgpmohkaa
