/- The law of picks that leave nobody out, walked. -/
import Derived.Test.YtadfdpkmegaloaaRoundLaw
import Derived.Test.YtadfdpkmegaloaaWin
import Derived.Test.YtadfdpkmegaloaaFairPure
namespace Go.Proofs.Ytadfdpkmegaloaa
open Go.RowKit
set_option linter.unusedVariables false

theorem wfu {a : Int} (h : (Lit.int .u8 a).wf = true) : 0 ≤ a ∧ a ≤ 255 := by
  simp [Lit.wf, IntKind.min, IntKind.max, IntKind.bits, IntKind.signed] at h
  omega
theorem refwin_yes (A : Option Addr) (L cap : Nat) (zs : List Int) (all wide : Int) (w : World) (hL : L = zs.length) (h : Reads .i64 w A zs) (hb : L ≤ 100000) (ha : all ≤ 100000) (hw : wide ≤ 9223372036854775807) (hy : IsWin zs all wide) :
    Calls Try.prog 21 #[.slice A L cap, .int .i64 all, .int .i64 wide] w fun e w' => e = .returned (.bool true) ∧ w = w' := by
  subst hL
  exact (refwin_any A cap zs all wide w h hb ha hw).mono fun e w' ⟨b, hbt, he, hw⟩ => ⟨by rw [he, hbt.2 hy], hw⟩
theorem win_yes (A : Option Addr) (L cap : Nat) (zs : List Int) (all wide : Int) (w : World) (hL : L = zs.length) (h : Reads .i64 w A zs) (hb : L ≤ 100000) (ha : all ≤ 100000) (hw : wide ≤ 9223372036854775807) (hy : IsWin zs all wide) :
    Calls Try.prog 22 #[.slice A L cap, .int .i64 all, .int .i64 wide] w fun e w' => e = .returned (.bool true) ∧ Below w.heap.size w w' := by
  subst hL
  exact (win_any A cap zs all wide w h hb ha hw).mono fun e w' ⟨b, hbt, he, hw⟩ => ⟨by rw [he, hbt.2 hy], hw⟩

set_option maxHeartbeats 4000000 in
set_option maxRecDepth 100000 in
theorem walkFair (a0 : Option Addr) (len0 cap0 : Nat) (l0 : List Pk) (a1 : Int) (w : World) (w0 : IsPks w a0 len0 cap0 l0) (w1 : (Lit.int .u8 a1).wf = true) :
    Calls Try.prog 6 #[.slice a0 len0 cap0, .int .u8 a1] w fun e w' => e = .returned (.bool true) ∧ Below w.heap.size w w' := by
  obtain ⟨hP, hpl, p1, p2, p3⟩ := w0
  obtain ⟨b0, b1⟩ := wfu w1
  unfold maxLen at p2
  clear w1
  have HPL := Lib.hid hpl.symm
  have hb : Below w.heap.size w w := Below.refl _ _
  by_cases c1 : 60 < len0
  · clear hP hpl
    go_enter Try.func6, Try.ntmps6
    go_wp2_with (go_at_call 9; (with_reducible refine (awake_true _).mono ?_); rintro e w1 ⟨rfl, hb1⟩)
    go_ret
    exact ⟨rfl, hb1⟩
  obtain ⟨N, hN⟩ : ∃ N : Nat, a1 % 6 + 1 = (N : Int) := ⟨(a1 % 6 + 1).toNat, by omega⟩
  have hN1 : 1 ≤ N := by omega
  have hN6 : N ≤ 6 := by omega
  have hfn : fairN (N : Int) = N := by unfold fairN; rw [if_neg (by omega), if_neg (by omega)]; omega
  obtain ⟨f, hf⟩ : ∃ f, fairL l0 N = f := ⟨_, rfl⟩
  obtain ⟨q, hq⟩ : ∃ q, q = f.length := ⟨_, rfl⟩
  have hqb : q ≤ 1000 := by
    rw [hq, ← hf]
    have h1 := fairL_len l0 N
    have h3 : l0.length * (N + 1) ≤ 60 * 7 := Nat.mul_le_mul (by omega) (by omega)
    omega
  have hsub : (l0.drop 0).Sublist (f.drop 0) := by rw [List.drop_zero, List.drop_zero, ← hf]; exact fair_sub l0 N
  have hwin : IsWin (whos f) (N : Int) (2 * (N : Int) + 1) := by rw [← hf]; exact fair_win l0 N
  obtain ⟨ws, hws⟩ : ∃ ws, whos f = ws := ⟨_, rfl⟩
  rw [hws] at hwin
  have hwl : q = ws.length := by rw [← hws, whos_len]; exact hq
  have HF : Hid (fairL l0 (fairN (N : Int)) = f) := Lib.hid (by rw [hfn]; exact hf)
  have HQ := Lib.hid hq
  have HSUB := Lib.hid hsub
  have HWIN := Lib.hid hwin
  have HW := Lib.hid hws
  have HWL := Lib.hid hwl
  have HPD := Lib.hid hP
  have hn4 : len0 ≤ 300 := by omega
  clear hP hpl hf hq hsub hwin hws hwl hfn
  go_enter Try.func6, Try.ntmps6
  go_wp2_with (first
    | (go_at_call 9; (with_reducible refine (awake_true _).mono ?_); rintro e w1 ⟨rfl, hb1⟩; have hb := below_step hb hb.size hb1; clear hb1)
    | (go_at_call 19; (with_reducible refine (fair_at _ _ _ q l0 _ f _ HPL.out (HPD.out.below hb) hn4 HF.out HQ.out).mono ?_); rintro e w2 ⟨A1, k1, rfl, hA1, _, hb1⟩; have hb := below_step hb hb.size hb1; clear hb1))
  have HA1 := Lib.hid hA1
  clear hA1 hN
  go_loopw [8, 9] (fun kk i wr => ∃ (k j t : Nat), j ≤ q ∧ k ≤ len0 ∧ kk = .int .i64 (k : Int) ∧ i = .int .i64 (j : Int) ∧ (l0.drop k).Sublist (f.drop j) ∧ wr = w2.drewN t) (fun _ i _ => q - (intOf i).toNat)
  case atStart => exact ⟨0, 0, 0, Nat.zero_le _, Nat.zero_le _, rfl, rfl, HSUB.out, rfl⟩
  case round =>
    obtain ⟨k, j, t, hj, hk, rfl, rfl, hs, rfl⟩ := hrel
    by_cases hlt : j < q ∧ k < len0
    · obtain ⟨h1, h2⟩ := hlt
      obtain ⟨b, off, rfl, hbl, hc⟩ := HA1.out (by have := HQ.out; omega)
      obtain ⟨b', off', rfl, hbl', hc'⟩ := HPD.out (by have := HPL.out; omega)
      obtain ⟨d1, d2⟩ := hc j (by have := HQ.out; omega)
      have e1 := (hb.cell (p := ⟨b', off' + k * 2, none⟩) hbl').trans (hc' k (by have := HPL.out; omega)).1
      have e2 : w2.cell? ⟨b', off' + k * 2 + 1, none⟩ = _ := (hb.cell (p := ⟨b', off' + (k * 2 + 1), none⟩) hbl').trans (hc' k (by have := HPL.out; omega)).2
      have hkl : k < l0.length := by have := HPL.out; omega
      rw [drop_at f j (by have := HQ.out; omega), drop_at l0 k hkl] at hs
      have hhit := sub_hit hs
      have hmiss : at_ f j ≠ at_ l0 k → (l0.drop k).Sublist (f.drop (j + 1)) := fun e => by rw [drop_at l0 k hkl]; exact sub_miss hs e
      obtain ⟨p, hp⟩ : ∃ p, p = at_ f j := ⟨_, rfl⟩
      obtain ⟨r, hr⟩ : ∃ r, r = at_ l0 k := ⟨_, rfl⟩
      rw [← hp] at d1 d2 hmiss
      rw [← hr] at e1 e2 hmiss
      obtain ⟨x, d⟩ := p
      obtain ⟨y, e⟩ := r
      simp only at d1 d2 e1 e2
      have d2' : w2.cell? ⟨b, off + j * 2 + 1, none⟩ = some (.int .i64 d) := d2
      have hj0 : (0 : Int) ≤ (j : Int) := by omega
      have hj1 : (j : Int) < (q : Int) := by omega
      have hk0 : (0 : Int) ≤ (k : Int) := by omega
      have hk1 : (k : Int) < (len0 : Int) := by omega
      have HHIT := Lib.hid hhit
      have HMISS := Lib.hid hmiss
      clear hc hc' hp hr d2 hs hhit hmiss hkl
      by_cases hxy : x = y
      · have txy : (x = y) = True := eq_true hxy
        by_cases hde : d = e
        · have tde : (d = e) = True := eq_true hde
          clear hxy hde
          go_wp2
          go_quiet (fail)
          go_wp2
          go_roundw
          case rel => exact ⟨k + 1, j + 1, _, by omega, by omega, by go_num, by go_num, HHIT.out, rfl⟩
          case measure => simp [intOf]; omega
        · have HSS : Hid ((l0.drop k).Sublist (f.drop (j + 1))) := Lib.hid (HMISS.out (fun h => hde (congrArg Prod.snd h)))
          clear hxy
          go_wp2
          go_quiet (fail)
          go_wp2
          go_roundw
          case rel => exact ⟨k, j + 1, _, by omega, by omega, by go_num, by go_num, HSS.out, rfl⟩
          case measure => simp [intOf]; omega
      · have HSS : Hid ((l0.drop k).Sublist (f.drop (j + 1))) := Lib.hid (HMISS.out (fun h => hxy (congrArg Prod.fst h)))
        go_wp2
        go_quiet (fail)
        go_wp2
        go_roundw
        case rel => exact ⟨k, j + 1, _, by omega, by omega, by go_num, by go_num, HSS.out, rfl⟩
        case measure => simp [intOf]; omega
    · have hkk : k = len0 := by
        by_cases hjq : j < q
        · omega
        · rw [List.drop_of_length_le (show f.length ≤ j by have := HQ.out; omega)] at hs
          have h1 := List.eq_nil_of_sublist_nil hs
          have h2 : l0.length ≤ k := by simpa using h1
          have := HPL.out
          omega
      have hb : Below w.heap.size w (w2.drewN t) := below_drewN hb t
      have hA1 : ReadsP (w2.drewN t) A1 f := HA1.out
      generalize w2.drewN t = w3 at hb hA1 ⊢
      subst hkk
      have hq4 : q ≤ 10000 := by omega
      have hq5 : q ≤ 100000 := by omega
      clear hs hlt
      by_cases hjq : j < q
      all_goals
        go_wp2_with (first
          | (go_at_call 16; (with_reducible refine (who_at _ _ _ f ws _ HQ.out hA1 hq4 HW.out).mono ?_); rintro e w4 ⟨A2, k2, rfl, hA2, hb1⟩; have hA1 := hA1.below hb1; have hb := below_step hb hb.size hb1; clear hb1)
          | (go_at_call 21; (with_reducible refine (refwin_yes _ _ _ ws _ _ _ HWL.out hA2 hq5 (by omega) (by omega) HWIN.out).mono ?_); rintro e w5 ⟨rfl, rfl⟩)
          | (go_at_call 22; (with_reducible refine (win_yes _ _ _ ws _ _ _ HWL.out hA2 hq5 (by omega) (by omega) HWIN.out).mono ?_); rintro e w6 ⟨rfl, hb1⟩; have hb := below_step hb hb.size hb1; clear hb1))
        go_ret
        exact ⟨rfl, hb⟩
end Go.Proofs.Ytadfdpkmegaloaa
