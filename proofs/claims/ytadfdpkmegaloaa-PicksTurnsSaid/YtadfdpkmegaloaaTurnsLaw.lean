/- The law of picks by turns, how often each is picked, walked. -/
import Derived.Test.YtadfdpkmegaloaaFairLaw
namespace Go.Proofs.Ytadfdpkmegaloaa
open Go.RowKit
set_option linter.unusedVariables false

theorem roundL_is (N R : Nat) (f draw : Int) (h1 : 1 ≤ N) (h2 : N * R ≤ 10000) : roundL N R f draw = roundTo N (f % N) draw (N * R) := by
  by_cases hr : R = 0
  · subst hr
    rw [roundL_no (.inr (.inl (by omega))), Nat.mul_zero]
    rfl
  · exact roundL_yes h1 (by omega) rfl h2

set_option maxHeartbeats 4000000 in
set_option maxRecDepth 100000 in
theorem walkTurns (a0 a1 a2 a3 : Int) (w : World) (w0 : (Lit.int .u8 a0).wf = true) (w1 : (Lit.int .u8 a1).wf = true) (w2 : (Lit.int .i64 a2).wf = true) (w3 : (Lit.int .i64 a3).wf = true) :
    Calls Try.prog 8 #[.int .u8 a0, .int .u8 a1, .int .i64 a2, .int .i64 a3] w fun e w' => e = .returned (.bool true) ∧ Below w.heap.size w w' := by
  obtain ⟨b0, b1⟩ := wfu w0
  obtain ⟨b2, b3⟩ := wfu w1
  obtain ⟨f0, f1⟩ := wf64 w2
  clear w0 w1 w2 w3
  have hb : Below w.heap.size w w := Below.refl _ _
  obtain ⟨N, hN⟩ : ∃ N : Nat, a0 % 8 + 1 = (N : Int) := ⟨(a0 % 8 + 1).toNat, by omega⟩
  obtain ⟨R, hR⟩ : ∃ R : Nat, a1 % 20 = (R : Int) := ⟨(a1 % 20).toNat, by omega⟩
  have hN1 : 1 ≤ N := by omega
  have hN8 : N ≤ 8 := by omega
  have hR20 : R ≤ 19 := by omega
  have hNR : N * R ≤ 8 * 19 := Nat.mul_le_mul hN8 hR20
  obtain ⟨m, hm⟩ : ∃ m, m = N * R := ⟨_, rfl⟩
  obtain ⟨r, hr⟩ : ∃ r, roundL N R a2 a3 = r := ⟨_, rfl⟩
  have hrr := hr
  rw [roundL_is N R a2 a3 hN1 (by omega), ← hm] at hrr
  have hrl : m = r.length := by rw [← hrr, roundTo_len]
  obtain ⟨f, hf⟩ : ∃ f, f = a2 % (N : Int) := ⟨_, rfl⟩
  rw [← hf] at hrr
  have hget : ∀ k : Nat, k < m → at_ r k = ((f + (k : Int)) % (N : Int), a3) := fun k hk => by rw [← hrr, roundTo_get _ _ _ _ _ hk]
  have hwin : IsWin (whos r) (N : Int) (N : Int) := by rw [← hrr]; exact round_win N m f a3 hN1
  have hall : ∀ g : Int, cntT N g m = R := fun g => by rw [hm, Int.natCast_mul]; exact cnt_all N g R (by omega)
  have hmb : m ≤ 152 := by omega
  have hm2 : m ≤ 100000 := by omega
  have hm4 : m ≤ 10000 := by omega
  obtain ⟨ws, hws⟩ : ∃ ws, whos r = ws := ⟨_, rfl⟩
  rw [hws] at hwin
  have hwl : m = ws.length := by rw [← hws, whos_len]; exact hrl
  have HR := Lib.hid hr
  have HM := Lib.hid hrl
  have HG := Lib.hid hget
  have HWIN := Lib.hid hwin
  have HALL := Lib.hid hall
  have HW := Lib.hid hws
  have HWL := Lib.hid hwl
  obtain ⟨i0, hi, hz0, hz1, hz2⟩ := info_parts info3
  clear hr hrr hrl hget hwin hall hws hwl hm hf hNR
  go_enter Try.func8, Try.ntmps8
  go_wp2_with (first
    | (go_at_call 9; (with_reducible refine (awake_true _).mono ?_); rintro e w1 ⟨rfl, hb1⟩; have hb := below_step hb hb.size hb1; clear hb1)
    | (go_at_call 17; (with_reducible refine (round_at _ _ _ _ r m _ f0 f1 HR.out HM.out).mono ?_); rintro e w2 ⟨A1, k1, rfl, hA1, _, hb1⟩; have hb := below_step hb hb.size hb1; clear hb1)
    | (at_make; refine wpList_make_full w2 rfl _ _ 33 rfl w2.heap.size 3 i0 (.int .i64 0) 1 Try.underlying33 hi hz0 hz1 .i64 .i64 _ _ N rfl rfl rfl rfl (by rw [hz2]; omega) (by unfold maxLen; omega) (Nat.le_refl _) ?_))
  intro w3 hown hgrow
  have hO : RowB w2 N w3 (List.replicate N 0) := ⟨by simpa [toList_madeCells_one, Value.cells] using hown, (Below.refl _ _).grown hgrow (Nat.le_refl _) (fun k hk => by cases hk)⟩
  have HA1 := Lib.hid hA1
  clear hown hgrow hi hz0 hz1 hz2 hN hR hA1
  go_wp2
  go_loopw [14] (fun i wr => ∃ (k : Nat) (B : List Int), k ≤ m ∧ i = .int .i64 (k : Int) ∧ B.length = N ∧ (∀ u : Nat, u < N → B.getD u 0 = cntT N (f - (u : Int)) (k : Int)) ∧ RowB w2 N wr B) (fun i _ => m - (intOf i).toNat)
  case atStart => exact ⟨0, _, Nat.zero_le _, rfl, by simp, fun u hu => by rw [Int.natCast_zero, cnt_zero]; simp [List.getD, hu], hO⟩
  case round =>
    clear hO
    obtain ⟨k, B, hk, rfl, hB, hc, hO⟩ := hrel
    by_cases hlt : k < m
    · obtain ⟨b, off, rfl, hbl, hcell⟩ := HA1.out (by have := HM.out; omega)
      have c1 := (hO.2.cell (p := ⟨b, off + k * 2, none⟩) hbl).trans (hcell k (by have := HM.out; omega)).1
      have c2 : wr.cell? ⟨b, off + k * 2 + 1, none⟩ = _ := (hO.2.cell (p := ⟨b, off + (k * 2 + 1), none⟩) hbl).trans (hcell k (by have := HM.out; omega)).2
      rw [HG.out k hlt] at c1 c2
      have u0 := Int.emod_nonneg (f + (k : Int)) (show (N : Int) ≠ 0 by omega)
      have u1 := Int.emod_lt_of_pos (f + (k : Int)) (show 0 < (N : Int) by omega)
      obtain ⟨u, hu⟩ : ∃ u : Nat, (f + (k : Int)) % (N : Int) = u := ⟨_, (Int.toNat_of_nonneg u0).symm⟩
      simp only [hu] at c1 c2
      have huN : u < N := by omega
      have hcb := hO.1.cellAt u (by omega)
      rw [map_get .i64 B u (by omega)] at hcb
      have hfb : wr.frozen? ⟨w2.heap.size, u, none⟩ = false := hO.1.frozenAt u
      have hx := cnt_bd N (f - (u : Int)) (k : Int) hN1 hN8 (by omega)
      rw [← hc u huN] at hx
      obtain ⟨x, hxe⟩ : ∃ x, x = B.getD u 0 := ⟨_, rfl⟩
      rw [← hxe] at hcb hx
      have hst := (hO.1.stored u (.int .i64 (x + 1))).1
      rw [← List.map_set] at hst
      have hbe := hO.2.setCell (p := ⟨w2.heap.size, u, none⟩) (Nat.le_refl _) (.int .i64 (x + 1))
      have HO : Hid (RowB w2 N (wr.setCell ⟨w2.heap.size, u, none⟩ (.int .i64 (x + 1))) (B.set u (x + 1))) := Lib.hid ⟨hst, hbe⟩
      have hnew : ∀ v : Nat, v < N → (B.set u (x + 1)).getD v 0 = cntT N (f - (v : Int)) ((k + 1 : Nat) : Int) := fun v hv => by
        have ek : ((k + 1 : Nat) : Int) = (k : Int) + 1 := by omega
        rw [ek]
        by_cases e : v = u
        · subst e
          rw [cnt_hit N _ _ hN1 hN8 ((hit_iff N v f k hv).1 hu), ← hc v hv, ← hxe]
          simp [List.getD, hB, hv]
        · rw [cnt_miss N _ _ hN1 hN8 (fun h => e (by have := (hit_iff N v f k hv).2 h; omega)), ← hc v hv]
          simp [List.getD, List.getElem?_set_ne (Ne.symm e)]
      have HNEW := Lib.hid hnew
      have HBL : Hid ((B.set u (x + 1)).length = N) := Lib.hid (by rw [List.length_set]; exact hB)
      have hne : (a3 != a3) = false := by simp
      have t1 : ¬ ((u : Int) < 0) := by omega
      have t2 : (u : Int) < (N : Int) := by omega
      clear hst hbe hO hnew hxe hc hB hcell hbl hu u0 u1
      go_wp2
      go_roundw
      case rel => exact ⟨k + 1, _, by omega, by go_num, HBL.out, HNEW.out, HO.out⟩
      case measure => simp [intOf]; omega
    · obtain rfl : k = m := by omega
      have hc2 : ∀ j, j < N → wr.cell? ⟨w2.heap.size, j, none⟩ = some (.int .i64 (R : Int)) := fun j hj => by
        rw [hO.1.cellAt j (by omega), map_get .i64 B j (by omega), hc j hj, HALL.out]
      have HC := Lib.hid hc2
      have hA : ReadsP wr A1 r := HA1.out.below hO.2
      have hbw := below_step hb hb.size hO.2
      clear hO hB hc hc2
      go_wp2
      go_loop [15] (fun i => ∃ j : Nat, j ≤ N ∧ i = .int .i64 (j : Int)) (fun i => N - (intOf i).toNat)
      case atStart => exact ⟨0, Nat.zero_le _, rfl⟩
      case round =>
        obtain ⟨j, hj, rfl⟩ := hrel
        by_cases hjN : j < N
        · have hcj := HC.out j hjN
          have hne : ((R : Int) != (R : Int)) = false := by simp
          go_wp2
          go_round
          case rel => exact ⟨j + 1, by omega, by go_num⟩
          case measure => simp [intOf]; omega
        · go_wp2_with (first
            | (go_at_call 16; (with_reducible refine (who_at _ _ _ r ws _ HM.out hA hm4 HW.out).mono ?_); rintro e w4 ⟨A2, k2, rfl, hA2, hb1⟩; have hbw := below_step hbw hbw.size hb1; clear hb1)
            | (go_at_call 21; (with_reducible refine (refwin_yes _ _ _ ws _ _ _ HWL.out hA2 hm2 (by omega) (by omega) HWIN.out).mono ?_); rintro e w5 ⟨rfl, rfl⟩))
          go_ret
          exact ⟨rfl, hbw⟩
end Go.Proofs.Ytadfdpkmegaloaa
