/- The library's heap over the line of those who wait, walked: down, Init, Fix; the line's next. -/
import Derived.Test.YtmeiohmdiklepaaSift
namespace Go.Proofs.Ytmeiohmdiklepaa
open Go.RowKit
set_option linter.unusedVariables false

theorem less_at (N : Nat) (a b : Int) (i j : Nat) (w : World) (ws : List Wt) (q : Bool) (ha : a = (i : Int)) (hb : b = (j : Int)) (h : Line N w ws) (hi : i < ws.length) (hj : j < ws.length) (hn : ws.length ≤ 100) (hq : ltB (at_ ws i) (at_ ws j) = q) :
    Calls Try.prog 42 #[.pointer (some ⟨N+1, 0, none⟩), .int .i64 a, .int .i64 b] w fun e w' => e = .returned (.bool q) ∧ Below w.heap.size w w' := by
  subst ha hb hq
  exact less_any N i j w ws h hi hj hn
theorem swap_at (N : Nat) (a b : Int) (i j : Nat) (w : World) (ws : List Wt) (ha : a = (i : Int)) (hb : b = (j : Int)) (h : Line N w ws) (hi : i < ws.length) (hj : j < ws.length) (hij : i ≠ j) (hn : ws.length ≤ 100) :
    Calls Try.prog 43 #[.pointer (some ⟨N+1, 0, none⟩), .int .i64 a, .int .i64 b] w fun e w' => e = .returned (.tuple #[]) ∧ Line N w' (swp ws i j) ∧ w.grownBy w' (some N) := by
  subst ha hb
  exact swap_any N i j w ws h hi hj hij hn

/-- What a sift leaves. -/
def Sifted (N k : Nat) (w : World) (ws : List Wt) (w' : World) : Prop := ∃ ws', Line N w' ws' ∧ w.grownBy w' (some N) ∧ ws'.Perm ws ∧ HeapFrom k ws'
def SomeSift (N k : Nat) (w : World) (ws : List Wt) (e : Ending) (w' : World) : Prop := ∃ b : Bool, e = .returned (.bool b) ∧ Sifted N k w ws w'

set_option maxHeartbeats 4000000 in
set_option maxRecDepth 100000 in
theorem down_any (N k n : Nat) (w : World) (ws : List Wt) (h : Line N w ws) (hk : k < ws.length) (hn : ws.length ≤ 100) (hh : HeapFrom (k + 1) ws) (hnn : n = ws.length) :
    Calls Try.prog 23 #[.iface 36 (.pointer (some ⟨N+1, 0, none⟩)), .int .i64 k, .int .i64 n] w (SomeSift N k w ws) := by
  have HN := Lib.hid hnn
  have hk' : k < n := by omega
  have hn' : n ≤ 100 := by omega
  clear hnn hk hn
  have HD := down_start hh
  clear hh
  go_enter Try.func23, Try.ntmps23
  go_wp2
  go_loopw [7] (fun v wr => ∃ (i : Nat) (l : List Wt), v = .int .i64 i ∧ i < n ∧ k ≤ i ∧ Hid (n = l.length) ∧ Line N wr l ∧ w.grownBy wr (some N) ∧ l.Perm ws ∧ Down k l i) (fun v _ => n - (intOf v).toNat)
  case atStart => exact ⟨k, ws, rfl, hk', Nat.le_refl _, HN, h, World.grownBy.refl _ _, List.Perm.refl _, HD⟩
  case round =>
    clear h HN HD
    obtain ⟨i, l, rfl, hin, hki, HN, hL, hG, hP, hD⟩ := hrel
    by_cases j1 : 2 * i + 1 < n
    · by_cases j2 : 2 * i + 2 < n
      · have c1 : 2 * (i : Int) + 1 + 1 < (n : Int) := by omega
        cases q1 : ltB (at_ l (2 * i + 2)) (at_ l (2 * i + 1))
        · skip
          have HC : Hid (∀ j, 0 < j → j < l.length → (j - 1) / 2 = i → Le (at_ l (2 * i + 1)) (at_ l j)) := Lib.hid (fun j h0 h1 h2 => by
            rcases kids h0 h2 with rfl | rfl
            · exact le_refl _
            · exact le_of_not q1)
          cases q2 : ltB (at_ l (2 * i + 1)) (at_ l i)
          · have HS := Lib.hid (down_stop hD HC.out (le_of_not q2))
            clear hD HC
            go_wp2_with (first | (go_at_call 42; (with_reducible refine (less_at N _ _ (2 * i + 2) (2 * i + 1) _ l false (by omega) (by omega) hL (by have := HN.out; omega) (by have := HN.out; omega) (by have := HN.out; omega) q1).mono ?_); rintro e w2 ⟨rfl, hb⟩; have hG := grown_trans hG (grown_of_below hb); have hL := hL.keep hb; clear hb) | (go_at_call 42; (with_reducible refine (less_at N _ _ (2 * i + 1) (i) _ l false (by omega) (by omega) hL (by have := HN.out; omega) (by have := HN.out; omega) (by have := HN.out; omega) q2).mono ?_); rintro e w2 ⟨rfl, hb⟩; have hG := grown_trans hG (grown_of_below hb); have hL := hL.keep hb; clear hb))
            go_ret
            exact ⟨_, rfl, l, hL, hG, hP, HS.out⟩
          · have HS := Lib.hid (down_step (c := 2 * i + 1) hD (by have := HN.out; omega) (by have := HN.out; omega) (by omega) (by omega) HC.out (le_of_lt q2))
            have HP := Lib.hid ((swp_perm l i (2 * i + 1) (by have := HN.out; omega) (by have := HN.out; omega)).trans hP)
            clear hD HC hP
            go_wp2_with (first | (go_at_call 42; (with_reducible refine (less_at N _ _ (2 * i + 2) (2 * i + 1) _ l false (by omega) (by omega) hL (by have := HN.out; omega) (by have := HN.out; omega) (by have := HN.out; omega) q1).mono ?_); rintro e w2 ⟨rfl, hb⟩; have hG := grown_trans hG (grown_of_below hb); have hL := hL.keep hb; clear hb) | (go_at_call 42; (with_reducible refine (less_at N _ _ (2 * i + 1) (i) _ l true (by omega) (by omega) hL (by have := HN.out; omega) (by have := HN.out; omega) (by have := HN.out; omega) q2).mono ?_); rintro e w2 ⟨rfl, hb⟩; have hG := grown_trans hG (grown_of_below hb); have hL := hL.keep hb; clear hb) | (go_at_call 43; (with_reducible refine (swap_at N _ _ i (2 * i + 1) _ l (by omega) (by omega) hL (by have := HN.out; omega) (by have := HN.out; omega) (by omega) (by have := HN.out; omega)).mono ?_); rintro e w2 ⟨rfl, hL, hg⟩; have hG := grown_trans hG hg; clear hg))
            go_roundw
            case rel => exact ⟨2 * i + 1, _, by go_num, by omega, by omega, Lib.hid (by rw [swp_len]; exact HN.out), hL, hG, HP.out, HS.out⟩
            case measure => simp [intOf]; omega
        · skip
          have HC : Hid (∀ j, 0 < j → j < l.length → (j - 1) / 2 = i → Le (at_ l (2 * i + 2)) (at_ l j)) := Lib.hid (fun j h0 h1 h2 => by
            rcases kids h0 h2 with rfl | rfl
            · exact le_of_lt q1
            · exact le_refl _)
          cases q2 : ltB (at_ l (2 * i + 2)) (at_ l i)
          · have HS := Lib.hid (down_stop hD HC.out (le_of_not q2))
            clear hD HC
            go_wp2_with (first | (go_at_call 42; (with_reducible refine (less_at N _ _ (2 * i + 2) (2 * i + 1) _ l true (by omega) (by omega) hL (by have := HN.out; omega) (by have := HN.out; omega) (by have := HN.out; omega) q1).mono ?_); rintro e w2 ⟨rfl, hb⟩; have hG := grown_trans hG (grown_of_below hb); have hL := hL.keep hb; clear hb) | (go_at_call 42; (with_reducible refine (less_at N _ _ (2 * i + 2) (i) _ l false (by omega) (by omega) hL (by have := HN.out; omega) (by have := HN.out; omega) (by have := HN.out; omega) q2).mono ?_); rintro e w2 ⟨rfl, hb⟩; have hG := grown_trans hG (grown_of_below hb); have hL := hL.keep hb; clear hb))
            go_ret
            exact ⟨_, rfl, l, hL, hG, hP, HS.out⟩
          · have HS := Lib.hid (down_step (c := 2 * i + 2) hD (by have := HN.out; omega) (by have := HN.out; omega) (by omega) (by omega) HC.out (le_of_lt q2))
            have HP := Lib.hid ((swp_perm l i (2 * i + 2) (by have := HN.out; omega) (by have := HN.out; omega)).trans hP)
            clear hD HC hP
            go_wp2_with (first | (go_at_call 42; (with_reducible refine (less_at N _ _ (2 * i + 2) (2 * i + 1) _ l true (by omega) (by omega) hL (by have := HN.out; omega) (by have := HN.out; omega) (by have := HN.out; omega) q1).mono ?_); rintro e w2 ⟨rfl, hb⟩; have hG := grown_trans hG (grown_of_below hb); have hL := hL.keep hb; clear hb) | (go_at_call 42; (with_reducible refine (less_at N _ _ (2 * i + 2) (i) _ l true (by omega) (by omega) hL (by have := HN.out; omega) (by have := HN.out; omega) (by have := HN.out; omega) q2).mono ?_); rintro e w2 ⟨rfl, hb⟩; have hG := grown_trans hG (grown_of_below hb); have hL := hL.keep hb; clear hb) | (go_at_call 43; (with_reducible refine (swap_at N _ _ i (2 * i + 2) _ l (by omega) (by omega) hL (by have := HN.out; omega) (by have := HN.out; omega) (by omega) (by have := HN.out; omega)).mono ?_); rintro e w2 ⟨rfl, hL, hg⟩; have hG := grown_trans hG hg; clear hg))
            go_roundw
            case rel => exact ⟨2 * i + 2, _, by go_num, by omega, by omega, Lib.hid (by rw [swp_len]; exact HN.out), hL, hG, HP.out, HS.out⟩
            case measure => simp [intOf]; omega
      · have c1 : ¬ (2 * (i : Int) + 1 + 1 < (n : Int)) := by omega
        have HC : Hid (∀ j, 0 < j → j < l.length → (j - 1) / 2 = i → Le (at_ l (2 * i + 1)) (at_ l j)) := Lib.hid (fun j h0 h1 h2 => by
          rcases kids h0 h2 with rfl | rfl
          · exact le_refl _
          · exact absurd h1 (by have := HN.out; omega))
        cases q2 : ltB (at_ l (2 * i + 1)) (at_ l i)
        · have HS := Lib.hid (down_stop hD HC.out (le_of_not q2))
          clear hD HC
          go_wp2_with ((go_at_call 42; (with_reducible refine (less_at N _ _ (2 * i + 1) (i) _ l false (by omega) (by omega) hL (by have := HN.out; omega) (by have := HN.out; omega) (by have := HN.out; omega) q2).mono ?_); rintro e w2 ⟨rfl, hb⟩; have hG := grown_trans hG (grown_of_below hb); have hL := hL.keep hb; clear hb))
          go_ret
          exact ⟨_, rfl, l, hL, hG, hP, HS.out⟩
        · have HS := Lib.hid (down_step (c := 2 * i + 1) hD (by have := HN.out; omega) (by have := HN.out; omega) (by omega) (by omega) HC.out (le_of_lt q2))
          have HP := Lib.hid ((swp_perm l i (2 * i + 1) (by have := HN.out; omega) (by have := HN.out; omega)).trans hP)
          clear hD HC hP
          go_wp2_with (first | (go_at_call 42; (with_reducible refine (less_at N _ _ (2 * i + 1) (i) _ l true (by omega) (by omega) hL (by have := HN.out; omega) (by have := HN.out; omega) (by have := HN.out; omega) q2).mono ?_); rintro e w2 ⟨rfl, hb⟩; have hG := grown_trans hG (grown_of_below hb); have hL := hL.keep hb; clear hb) | (go_at_call 43; (with_reducible refine (swap_at N _ _ i (2 * i + 1) _ l (by omega) (by omega) hL (by have := HN.out; omega) (by have := HN.out; omega) (by omega) (by have := HN.out; omega)).mono ?_); rintro e w2 ⟨rfl, hL, hg⟩; have hG := grown_trans hG hg; clear hg))
          go_roundw
          case rel => exact ⟨2 * i + 1, _, by go_num, by omega, by omega, Lib.hid (by rw [swp_len]; exact HN.out), hL, hG, HP.out, HS.out⟩
          case measure => simp [intOf]; omega
    · go_wp2
      go_ret
      exact ⟨_, rfl, l, hL, hG, hP, down_none hD (by have := HN.out; omega)⟩
end Go.Proofs.Ytmeiohmdiklepaa
