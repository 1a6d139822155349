/- The call of the law of what was written last. -/
import Derived.Test.YtjnkcomedcbenaaGTwo
import Derived.Test.YtjnkcomedcbenaaGGone
namespace Go.Proofs.Ytjnkcomedcbenaa
open Go.RowKit
set_option linter.unusedVariables false

/-- The first mutator's root. -/
theorem root0 {g : Gr} (h : 0 < g.roots.length) (a : Int) : gRoot g 0 a = if isIn (row g.roots 0).length a = true then num (row g.roots 0) a.toNat else -1 := by
  unfold gRoot
  rw [show isIn g.roots.length 0 = true from isIn_iff.2 (by omega)]
  simp
theorem rootsL0 {g : Gr} (h : 0 < g.roots.length) : rootsL g 0 = row g.roots 0 := by
  unfold rootsL
  rw [if_pos (isIn_iff.2 (by omega))]; rfl
/-- Behind a pop of the first mutator's, which had one. -/
theorem pop0 {g : Gr} (h : 0 < g.roots.length) (hr : 0 < (row g.roots 0).length) : gPop g 0 = (⟨g.roots.set 0 (row g.roots 0).dropLast, g.nodes, g.most⟩, true) := by
  unfold gPop
  rw [show isIn g.roots.length 0 = true from isIn_iff.2 (by omega), Int.toNat_zero, decide_eq_true hr]; rfl
theorem write_none {g : Gr} (a i b : Int) (h : gHas g 0 a i = false ∨ gRoot g 0 b < 0) : gWrite g 0 a i b = (g, false) := by
  unfold gWrite
  rw [if_neg]
  intro hc
  rw [Bool.and_eq_true] at hc
  rcases h with h | h
  · rw [h] at hc; cases hc.1
  · have : 0 ≤ gRoot g 0 b := by simpa using hc.2
    omega
theorem has_none {g : Gr} (a i : Int) (h : gRoot g 0 a ≤ 0) : gHas g 0 a i = false := by
  unfold gHas
  rw [decide_eq_false (by omega)]; rfl
/-- All that is wanted of a write, and of a read behind it, where both may be. -/
theorem written {g : Gr} (hk : Ok g) (h3 : 0 < g.roots.length) (hm : ((row g.roots 0).length : Int) < g.most) (a b : Nat) (i : Nat) (ha : a < (row g.roots 0).length) (hb : b < (row g.roots 0).length) (hz : 0 < num (row g.roots 0) a) (hi : i < (row g.nodes (num (row g.roots 0) a - 1).toNat).length) :
    ∃ W W', gWrite g 0 a i b = (W, true) ∧ gRead W 0 a i = (W', num (row g.roots 0) b, true) ∧ slotsL W (num (row g.roots 0) a) = (row g.nodes (num (row g.roots 0) a - 1).toNat).set i (num (row g.roots 0) b) ∧ W.nodes.length = g.nodes.length := by
  have ra : gRoot g 0 a = num (row g.roots 0) a := by rw [root0 h3, if_pos (isIn_iff.2 (by omega))]; simp
  have rb : gRoot g 0 b = num (row g.roots 0) b := by rw [root0 h3, if_pos (isIn_iff.2 (by omega))]; simp
  have hra := hk.r 0 a h3 ha
  have hrb := hk.r 0 b h3 hb
  obtain ⟨z, hzz⟩ : ∃ z, z = num (row g.roots 0) a := ⟨_, rfl⟩
  obtain ⟨y, hyy⟩ : ∃ y, y = num (row g.roots 0) b := ⟨_, rfl⟩
  rw [← hzz] at ra hz hi hra ⊢
  rw [← hyy] at rb hrb ⊢
  have hu : (z - 1).toNat < g.nodes.length := by omega
  have hh : gHas g 0 a i = true := by unfold gHas; rw [ra, decide_eq_true hz, isIn_iff.2 (by omega)]; rfl
  have hw : gWrite g 0 a i b = (gPut g 0 a i b, true) := by unfold gWrite; rw [hh, rb, decide_eq_true hrb.1]; rfl
  have hput : gPut g 0 a i b = ⟨g.roots, g.nodes.set (z - 1).toNat ((row g.nodes (z - 1).toNat).set i y), g.most⟩ := by unfold gPut; rw [ra, rb]; simp
  have ra2 : gRoot (gPut g 0 a i b) 0 a = z := by rw [hput]; rw [← ra]; rfl
  have hrow : row (gPut g 0 a i b).nodes (z - 1).toNat = (row g.nodes (z - 1).toNat).set i y := by rw [hput, row_set, if_pos ⟨rfl, hu⟩]
  have hh2 : gHas (gPut g 0 a i b) 0 a i = true := by unfold gHas; rw [ra2, decide_eq_true hz, hrow, isIn_iff.2 (by rw [List.length_set]; omega)]; rfl
  have hroom : gRoom (gPut g 0 a i b) 0 = true := by
    rw [hput]; unfold gRoom
    rw [isIn_iff.2 (by simp; omega)]
    simpa using hm
  have hslot : gSlot (gPut g 0 a i b) 0 a i = y := by
    unfold gSlot
    rw [ra2, hrow, Int.toNat_natCast, num_set, if_pos ⟨rfl, hi⟩]
  refine ⟨gPut g 0 a i b, gPush (gPut g 0 a i b) 0 y, hw, ?_, ?_, by rw [hput]; simp⟩
  · unfold gRead
    rw [hroom, hh2, hslot]; rfl
  · unfold slotsL
    have : isIn (gPut g 0 a i b).nodes.length (z - 1) = true := isIn_iff.2 (by rw [hput]; simp; omega)
    rw [if_pos this, hrow]

set_option maxHeartbeats 16000000 in
set_option maxRecDepth 100000 in
theorem walkWritten (A : Option Addr) (n capA : Nat) (l : List Op5) (a i b : Int) (w : World) (ha : IsOps w A n capA l) :
    Calls Try.prog 8 #[.slice A n capA, .int .i64 a, .int .i64 i, .int .i64 b] w fun e w' => e = .returned (.bool true) ∧ Below w.heap.size w w' := by
  obtain ⟨hra, hal, _, _, hwa⟩ := ha
  by_cases h60 : 40 < n
  · have h60' : (40 : Int) < (n : Int) := by omega
    clear hra hal hwa
    go_enter Try.func8, Try.ntmps8
    go_wp2_with (first
      | (go_at_call 10; (with_reducible refine (awake_any _).mono ?_); rintro r w1 ⟨rfl, hb⟩)
      | fail)
    go_ret
    exact ⟨rfl, hb⟩
  have h60' : ¬ (40 : Int) < (n : Int) := by omega
  have hn60 : n ≤ 40 := by omega
  have HA := Lib.hid hra; have HAL := Lib.hid hal
  obtain ⟨G0, hG0⟩ : ∃ G0, G0 = gNew 3 6 3 := ⟨_, rfl⟩
  have HG0 := Lib.hid hG0
  have HN0 : Hid (G0.nodes.length = 1) := Lib.hid (by rw [hG0]; rfl)
  clear hra hal hwa h60 hG0
  go_enter Try.func8, Try.ntmps8
  go_wp2_with (first
    | (go_at_call 10; (with_reducible refine (awake_any _).mono ?_); rintro r w1 ⟨rfl, hb⟩; have HBW := Lib.hid hb; clear hb)
    | (go_at_call 11; (with_reducible refine (new_q HBW.out 3 6 3 (by decide) (by decide)).mono ?_); rintro r w2 ⟨S, T, F, rfl, hg, -⟩; rw [← HG0.out] at hg; have HK := Lib.hid hg; clear hg HBW)
    | fail)
  go_loopw [11] (fun iv wr => ∃ (k : Nat) (T' F' : Nat → Prop), k ≤ n ∧ iv = .int .i64 (k : Int) ∧ GOwn w wr S T' F' (opsTo G0 l k)) (fun iv _ => n - (RowKit.intOf iv).toNat)
  case atStart => exact ⟨0, T, F, Nat.zero_le _, rfl, HK.out⟩
  case round =>
    clear HK
    obtain ⟨k, T', F', hk, rfl, hg⟩ := hrel
    by_cases hlt : k < n
    · obtain ⟨b', off, hA, c0, c1, c2, c3, c4⟩ := (HA.out.below hg.bel).at' k (by rw [HAL.out]; exact hlt)
      subst hA
      obtain ⟨x, hx⟩ : ∃ x, x = atO l k := ⟨_, rfl⟩
      rw [← hx] at c0 c1 c2 c3 c4
      have hsucc : (gPlay (opsTo G0 l k) x).1 = opsTo G0 l (k + 1) := by rw [hx]; rfl
      obtain ⟨g', y, z, hp⟩ : ∃ g' y z, gPlay (opsTo G0 l k) x = (g', y, z) := ⟨_, _, _, rfl⟩
      rw [hp] at hsucc
      have HP := Lib.hid hp; have HS : Hid (g' = opsTo G0 l (k + 1)) := Lib.hid hsucc
      have HNN : Hid ((opsTo G0 l k).nodes.length ≤ 1000) := Lib.hid (by have := (opsTo_near G0 l k).1; have := HN0.out; omega)
      have HG := Lib.hid hg
      obtain ⟨xd, xm, xa, xi, xb⟩ := x
      have hk0 : (0 : Int) ≤ (k : Int) := by omega
      have hk1 : (k : Int) < (n : Int) := by omega
      clear hx hp hsucc hg hlt
      go_wp2_with (first
        | (go_at_call 13; (with_reducible refine (play_q HG.out HNN.out ⟨xd, xm, xa, xi, xb⟩ HP.out).mono ?_); rintro r w3 ⟨T2, F2, rfl, hg, -⟩; rw [HS.out] at hg; have HG2 := Lib.hid hg; clear hg c0 c1 c2 c3 c4)
        | fail)
      go_roundw
      case rel => exact ⟨k + 1, T2, F2, by omega, by go_num, HG2.out⟩
      case measure => simp [RowKit.intOf]; omega
    · obtain rfl : k = n := by omega
      obtain ⟨G, hG⟩ : ∃ G, G = opsTo G0 l k := ⟨_, rfl⟩
      rw [← hG] at hg
      have hn1 : G.nodes.length ≤ 61 := by have := (opsTo_near G0 l k).1; have := HN0.out; rw [hG]; omega
      have hr3 : G.roots.length = 3 := by have := (opsTo_near G0 l k).2.2.1; have h2 : G0.roots.length = 3 := by rw [HG0.out]; rfl
                                          rw [hG]; omega
      have hm6 : G.most = 6 := by have := (opsTo_near G0 l k).2.2.2; have h2 : G0.most = 6 := by rw [HG0.out]; rfl
                                  rw [hG]; omega
      have hR0 := rootsL0 (g := G) (by omega)
      obtain ⟨P, pb, hP⟩ : ∃ P pb, gPop G 0 = (P, pb) := ⟨_, _, rfl⟩
      have N0 : Hid (G.nodes.length ≤ 1000) := Lib.hid (by omega)
      have HP := Lib.hid hP
      obtain ⟨R0, hRR⟩ : ∃ R0, R0 = rootsL G 0 := ⟨_, rfl⟩
      have HR0 := Lib.hid hRR.symm
      have hlenR : R0.length ≤ 6 := by rw [hRR]; have := rootsL_le hg.ok (by omega) 0; omega
      by_cases hemp : R0.length = 0
      · have HG := Lib.hid hg
        have he1 : R0 = [] := List.eq_nil_of_length_eq_zero hemp
        subst he1
        clear hg hG hn1 hr3 hm6 hR0 hP hRR hlenR hemp hlt
        go_wp2_with (first
          | (go_at_call 23; (with_reducible refine (roots_q (S := S) HG.out N0.out 0).mono ?_); rintro r w3 ⟨v3, rfl, hv, hb⟩; rw [HR0.out] at hv; obtain ⟨A3, c3, rfl, -⟩ := hv; have HG3 := Lib.hid (HG.out.step hb); clear hb)
          | (go_at_call 25; (with_reducible refine (pop_q (S := S) HG3.out N0.out 0 HP.out).mono ?_); rintro r w4 ⟨T4, F4, rfl, hg, -⟩; have HG4 := Lib.hid hg; clear hg)
          | fail)
        go_ret
        exact ⟨rfl, HG4.out.bel⟩
      · have hpos : 0 < (row G.roots 0).length := by rw [← hR0, ← hRR]; omega
        have hpop := pop0 (by omega) hpos
        rw [hP] at hpop
        obtain ⟨hP2, -⟩ := Prod.mk.inj hpop
        obtain ⟨R, hR⟩ : ∃ R, R = row P.roots 0 := ⟨_, rfl⟩
        have hPr : 0 < P.roots.length := by rw [hP2]; simp; omega
        have hRL : rootsL P 0 = R := by rw [rootsL0 hPr, hR]
        have hRd : R.length < 6 := by
          rw [hR, hP2]; simp only; rw [row_set, if_pos ⟨rfl, by omega⟩, List.length_dropLast, ← hR0, ← hRR]; omega
        have hPn : P.nodes.length = G.nodes.length := by rw [hP2]
        have hPm : P.most = 6 := by rw [hP2]; exact hm6
        have hPok : Ok P := by have := ok_pop hg.ok 0; rw [hP] at this; exact this
        have N1 : Hid (P.nodes.length ≤ 1000) := Lib.hid (by omega)
        have HRL := Lib.hid hRL
        obtain ⟨p, hp⟩ : ∃ p, p = R.length := ⟨_, rfl⟩
        obtain ⟨p0, hp0⟩ : ∃ p0, p0 = R0.length := ⟨_, rfl⟩
        have hp1 : p ≤ 6 := by omega
        have hp02 : p0 ≤ 6 := by omega
        have HPL := Lib.hid hp; have HP0 := Lib.hid hp0
        have he1 : ((p0 : Int) == 0) = false := by rw [beq_eq_false_iff_ne]; omega
        have he2 : (p0 == 0) = false := by rw [beq_eq_false_iff_ne]; omega
        have HG := Lib.hid hg
        obtain ⟨W, wb, hW⟩ : ∃ W wb, gWrite P 0 a i b = (W, wb) := ⟨_, _, rfl⟩
        have HW := Lib.hid hW
        clear hg hG hn1 hr3 hm6 hR0 hP hRR hlenR hemp hlt hpos hpop hp0
        have hR' := hR
        by_cases hmay : (0 ≤ a ∧ a < (p : Int)) ∧ 0 ≤ b ∧ b < (p : Int)
        · obtain ⟨⟨ha0, ha1⟩, hb0, hb1⟩ := hmay
          obtain ⟨j, rfl⟩ : ∃ j : Nat, a = (j : Int) := ⟨a.toNat, by omega⟩
          obtain ⟨h, rfl⟩ : ∃ h : Nat, b = (h : Int) := ⟨b.toNat, by omega⟩
          have hjR : j < R.length := by omega
          have hhR : h < R.length := by omega
          obtain ⟨z, hz⟩ : ∃ z, z = num R j := ⟨_, rfl⟩
          have hrj := hPok.r 0 j (by omega) (by rw [← hR]; exact hjR)
          rw [← hR, ← hz] at hrj
          have HZ := Lib.hid hz
          have HJ := Lib.hid hjR
          by_cases hz0 : z = 0
          · have hwf : wb = false := by
              have h1 : gHas P 0 j i = false := has_none _ _ (by rw [root0 hPr, ← hR, if_pos (by rw [isIn_iff]; omega), Int.toNat_natCast, ← hz]; omega)
              have := write_none (j : Int) i (h : Int) (.inl h1)
              rw [hW] at this
              exact (Prod.mk.inj this).2
            subst hwf
            subst hz0
            clear hW hR hPr hRL hRd hPn hPm hPok hp hP2 hR' hrj hz hjR hhR
            go_wp2_with (first
              | (go_at_call 23; (with_reducible refine (roots_q (S := S) HG.out N0.out 0).mono ?_); rintro r w3 ⟨v3, rfl, hv, hb⟩; rw [HR0.out] at hv; obtain ⟨A3, c3, rfl, -⟩ := hv; rw [← HP0.out]; have HG3 := Lib.hid (HG.out.step hb); clear hb HG)
              | (go_at_call 25; (with_reducible refine (pop_q (S := S) HG3.out N0.out 0 HP.out).mono ?_); rintro r w4 ⟨T4, F4, rfl, hg, -⟩; have HG4 := Lib.hid hg; clear hg HG3)
              | (go_at_call 23; (with_reducible refine (roots_q (S := S) HG4.out N1.out 0).mono ?_); rintro r w5 ⟨v5, rfl, hv, hb⟩; rw [HRL.out] at hv; obtain ⟨A5, c5, rfl, -⟩ := id hv; rw [← HPL.out] at hv ⊢; have HV := Lib.hid hv; have HG5 := Lib.hid (HG4.out.step hb); clear hb hv HG4)
              | (go_at_call 26; (with_reducible refine (write_q (S := S) HG5.out N1.out 0 (j : Int) i (h : Int) HW.out).mono ?_); rintro r w6 ⟨T6, F6, rfl, hg, hu, hF, -⟩; have HV6 := Lib.hid (row_op HV.out hu hF); have HG6 := Lib.hid hg; clear hg hu hF HG5 HV; have hc := row_cell HV6.out j HJ.out; rw [← HZ.out] at hc; obtain ⟨b5, off5, rfl, hcj⟩ := hc)
              | fail)
            go_ret
            exact ⟨rfl, HG6.out.bel⟩
          · have hzp : 0 < z := by omega
            have hzb : (z == 0) = false := by rw [beq_eq_false_iff_ne]; exact hz0
            obtain ⟨u, hu⟩ : ∃ u : Nat, (z - 1).toNat = u := ⟨_, rfl⟩
            have hun : u < P.nodes.length := by omega
            have BD : Bd z := ⟨by omega, by have := N1.out; omega⟩
            obtain ⟨t, ht⟩ : ∃ t, t = (row P.nodes u).length := ⟨_, rfl⟩
            have ht64 : t ≤ 64 := by rw [ht]; exact hPok.sz u hun
            by_cases hi : 0 ≤ i ∧ i < (t : Int)
            · obtain ⟨e, rfl⟩ : ∃ e : Nat, i = (e : Int) := ⟨i.toNat, by omega⟩
              have hnr : num (row P.roots 0) j = z := by rw [← hR, hz]
              obtain ⟨W2, W', hw2, hread, hslots, hlenW⟩ := written hPok hPr (by rw [← hR]; omega) j h e (by rw [← hR]; exact hjR) (by rw [← hR]; exact hhR) (by rw [hnr]; exact hzp) (by rw [hnr, hu, ← ht]; omega)
              rw [hW] at hw2
              obtain ⟨rfl, rfl⟩ := Prod.mk.inj hw2
              obtain ⟨y, hy⟩ : ∃ y, y = num R h := ⟨_, rfl⟩
              rw [← hR, ← hy, ← hz] at hslots
              rw [← hR, ← hy] at hread
              rw [hu] at hslots
              obtain ⟨SL, hSL⟩ : ∃ SL, SL = slotsL W z := ⟨_, rfl⟩
              rw [← hSL] at hslots
              have HSE := Lib.hid hSL.symm
              have HSL : Hid (t = SL.length) := Lib.hid (by rw [hslots, List.length_set]; exact ht)
              have HSY : Hid (num SL e = y) := Lib.hid (by rw [hslots, num_set, if_pos ⟨rfl, by rw [← ht]; omega⟩])
              have HY := Lib.hid hy
              have N2 : Hid (W.nodes.length ≤ 1000) := Lib.hid (by rw [hlenW]; exact N1.out)
              have HRD := Lib.hid hread
              have HH := Lib.hid hhR
              have he0 : (0 : Int) ≤ (e : Int) := by omega
              have he3 : (e : Int) < (t : Int) := by omega
              have he4 : decide (t ≤ e) = false := by simp; omega
              have HE : Hid (e < t) := Lib.hid (by omega)
              have hj2 : decide (j < p) = true := by simp; omega
              have hh2 : decide (h < p) = true := by simp; omega
              clear hW hw2 hR hPr hRL hRd hPn hPm hPok hp hP2 hR' hrj hz hjR hhR hu hun ht hz0 hnr hread hslots hlenW hSL hy hi
              go_wp2_with (first
                | (go_at_call 23; (with_reducible refine (roots_q (S := S) HG.out N0.out 0).mono ?_); rintro r w3 ⟨v3, rfl, hv, hb⟩; rw [HR0.out] at hv; obtain ⟨A3, c3, rfl, -⟩ := hv; rw [← HP0.out]; have HG3 := Lib.hid (HG.out.step hb); clear hb HG)
                | (go_at_call 25; (with_reducible refine (pop_q (S := S) HG3.out N0.out 0 HP.out).mono ?_); rintro r w4 ⟨T4, F4, rfl, hg, -⟩; have HG4 := Lib.hid hg; clear hg HG3)
                | (go_at_call 23; (with_reducible refine (roots_q (S := S) HG4.out N1.out 0).mono ?_); rintro r w5 ⟨v5, rfl, hv, hb⟩; rw [HRL.out] at hv; obtain ⟨A5, c5, rfl, -⟩ := id hv; rw [← HPL.out] at hv ⊢; have HV := Lib.hid hv; have HG5 := Lib.hid (HG4.out.step hb); clear hb hv HG4)
                | (go_at_call 26; (with_reducible refine (write_q (S := S) HG5.out N1.out 0 (j : Int) (e : Int) (h : Int) HW.out).mono ?_); rintro r w6 ⟨T6, F6, rfl, hg, hu, hF, -⟩; have HV6 := Lib.hid (row_op HV.out hu hF); have HG6 := Lib.hid hg; clear hg hu hF HG5 HV; have hc := row_cell HV6.out j HJ.out; rw [← HZ.out] at hc; obtain ⟨b5, off5, rfl, hcj⟩ := hc)
                | (go_at_call 24; (with_reducible refine (slots_q (S := S) HG6.out N2.out z BD).mono ?_); rintro r w7 ⟨v7, rfl, hv, hb⟩; rw [HSE.out] at hv; obtain ⟨A7, c7, rfl, -⟩ := id hv; rw [← HSL.out] at hv ⊢; have HS7 := Lib.hid hv; have HG7 := Lib.hid (HG6.out.step hb); have HV7 := Lib.hid (HV6.out.kept (Kept.below hb)); clear hb hv hcj HG6)
                | (go_at_call 27; (with_reducible refine (read_q (S := S) HG7.out N2.out 0 (j : Int) (e : Int) HRD.out).mono ?_); rintro r w8 ⟨T8, F8, rfl, hg, hu, hF, -⟩; have HS8 := Lib.hid (row_op HS7.out hu hF); have HV8 := Lib.hid (row_op HV7.out hu hF); have HG8 := Lib.hid hg; clear hg hu hF HG7)
                | fail)
              obtain ⟨b7, off7, e7, hcs⟩ := row_cell HS8.out e (by rw [← HSL.out]; exact HE.out)
              subst e7
              rw [HSY.out] at hcs
              obtain ⟨b8, off8, e8, hch⟩ := row_cell HV8.out h HH.out
              cases e8
              rw [← HY.out] at hch
              have hh0 : (0 : Int) ≤ (h : Int) := hb0
              have hh1 : (h : Int) < (p : Int) := hb1
              go_quiet (fail)
              go_wp2_with (fail)
              go_ret
              exact ⟨rfl, below_drewN HG8.out.bel _⟩
            · have hwf : wb = false ∧ W = P := by
                have h1 : gHas P 0 j i = false := by
                  unfold gHas
                  rw [root0 hPr, ← hR, if_pos (by rw [isIn_iff]; omega), Int.toNat_natCast, ← hz, hu]
                  have : isIn (row P.nodes u).length i = false := by
                    cases e : isIn (row P.nodes u).length i
                    · rfl
                    · have := isIn_iff.1 e; omega
                  rw [this]; simp
                have := write_none (j : Int) i (h : Int) (.inl h1)
                rw [hW] at this
                exact ⟨(Prod.mk.inj this).2, (Prod.mk.inj this).1⟩
              obtain ⟨rfl, rfl⟩ := hwf
              have HSL : Hid (t = (slotsL W z).length) := Lib.hid (by unfold slotsL; rw [if_pos (by rw [isIn_iff]; omega), hu]; exact ht)
              clear hW hR hPr hRL hRd hPn hPm hPok hp hP2 hR' hrj hz hjR hhR hu hun ht hz0
              by_cases hi0 : i < 0
              · have hid : decide (i < 0) = true := by simpa using hi0
                clear hi
                go_wp2_with (first
                  | (go_at_call 23; (with_reducible refine (roots_q (S := S) HG.out N0.out 0).mono ?_); rintro r w3 ⟨v3, rfl, hv, hb⟩; rw [HR0.out] at hv; obtain ⟨A3, c3, rfl, -⟩ := hv; rw [← HP0.out]; have HG3 := Lib.hid (HG.out.step hb); clear hb HG)
                  | (go_at_call 25; (with_reducible refine (pop_q (S := S) HG3.out N0.out 0 HP.out).mono ?_); rintro r w4 ⟨T4, F4, rfl, hg, -⟩; have HG4 := Lib.hid hg; clear hg HG3)
                  | (go_at_call 23; (with_reducible refine (roots_q (S := S) HG4.out N1.out 0).mono ?_); rintro r w5 ⟨v5, rfl, hv, hb⟩; rw [HRL.out] at hv; obtain ⟨A5, c5, rfl, -⟩ := id hv; rw [← HPL.out] at hv ⊢; have HV := Lib.hid hv; have HG5 := Lib.hid (HG4.out.step hb); clear hb hv HG4)
                  | (go_at_call 26; (with_reducible refine (write_q (S := S) HG5.out N1.out 0 (j : Int) i (h : Int) HW.out).mono ?_); rintro r w6 ⟨T6, F6, rfl, hg, hu, hF, -⟩; have HV6 := Lib.hid (row_op HV.out hu hF); have HG6 := Lib.hid hg; clear hg hu hF HG5 HV; have hc := row_cell HV6.out j HJ.out; rw [← HZ.out] at hc; obtain ⟨b5, off5, rfl, hcj⟩ := hc)
                  | (go_at_call 24; (with_reducible refine (slots_q (S := S) HG6.out N1.out z BD).mono ?_); rintro r w7 ⟨v7, rfl, hv, hb⟩; obtain ⟨A7, c7, rfl, -⟩ := hv; rw [← HSL.out]; have HG7 := Lib.hid (HG6.out.step hb); clear hb hcj)
                  | fail)
                go_ret
                exact ⟨rfl, HG7.out.bel⟩
              · have hid : decide (i < 0) = false := by simpa using hi0
                have hi1 : 0 ≤ i := by omega
                have hi2 : (t : Int) ≤ i := by omega
                clear hi hi0
                go_wp2_with (first
                  | (go_at_call 23; (with_reducible refine (roots_q (S := S) HG.out N0.out 0).mono ?_); rintro r w3 ⟨v3, rfl, hv, hb⟩; rw [HR0.out] at hv; obtain ⟨A3, c3, rfl, -⟩ := hv; rw [← HP0.out]; have HG3 := Lib.hid (HG.out.step hb); clear hb HG)
                  | (go_at_call 25; (with_reducible refine (pop_q (S := S) HG3.out N0.out 0 HP.out).mono ?_); rintro r w4 ⟨T4, F4, rfl, hg, -⟩; have HG4 := Lib.hid hg; clear hg HG3)
                  | (go_at_call 23; (with_reducible refine (roots_q (S := S) HG4.out N1.out 0).mono ?_); rintro r w5 ⟨v5, rfl, hv, hb⟩; rw [HRL.out] at hv; obtain ⟨A5, c5, rfl, -⟩ := id hv; rw [← HPL.out] at hv ⊢; have HV := Lib.hid hv; have HG5 := Lib.hid (HG4.out.step hb); clear hb hv HG4)
                  | (go_at_call 26; (with_reducible refine (write_q (S := S) HG5.out N1.out 0 (j : Int) i (h : Int) HW.out).mono ?_); rintro r w6 ⟨T6, F6, rfl, hg, hu, hF, -⟩; have HV6 := Lib.hid (row_op HV.out hu hF); have HG6 := Lib.hid hg; clear hg hu hF HG5 HV; have hc := row_cell HV6.out j HJ.out; rw [← HZ.out] at hc; obtain ⟨b5, off5, rfl, hcj⟩ := hc)
                  | (go_at_call 24; (with_reducible refine (slots_q (S := S) HG6.out N1.out z BD).mono ?_); rintro r w7 ⟨v7, rfl, hv, hb⟩; obtain ⟨A7, c7, rfl, -⟩ := hv; rw [← HSL.out]; have HG7 := Lib.hid (HG6.out.step hb); clear hb hcj)
                  | fail)
                go_ret
                exact ⟨rfl, HG7.out.bel⟩
        · have hwf : wb = false := by
            have h1 : gHas P 0 a i = false ∨ gRoot P 0 b < 0 := by
              by_cases h2 : 0 ≤ a ∧ a < (p : Int)
              · right
                rw [root0 hPr, ← hR, if_neg (by rw [isIn_iff]; omega)]; omega
              · left
                apply has_none
                rw [root0 hPr, ← hR, if_neg (by rw [isIn_iff]; omega)]; omega
            have := write_none a i b h1
            rw [hW] at this
            exact (Prod.mk.inj this).2
          subst hwf
          clear hW hR hPr hRL hRd hPn hPm hPok hp hP2 hR'
          have hq : a < 0 ∨ (0 ≤ a ∧ (p : Int) ≤ a) ∨ (0 ≤ a ∧ a < (p : Int) ∧ b < 0) ∨ (0 ≤ a ∧ a < (p : Int) ∧ 0 ≤ b ∧ (p : Int) ≤ b) := by omega
          clear hmay
          rcases hq with h1 | ⟨h1, h2⟩ | ⟨h1, h2, h3⟩ | ⟨h1, h2, h3, h4⟩
          all_goals
            (try have t1 : decide (a < (p : Int)) = false := by simp; omega)
            (try have t2 : decide (a < (p : Int)) = true := by simp; omega)
            (try have t3 : decide (b < (p : Int)) = false := by simp; omega)
            (try have t4 : decide (b < (p : Int)) = true := by simp; omega)
            (try have t5 : decide (a ≥ 0) = false := by simp; omega)
            (try have t6 : decide (b ≥ 0) = false := by simp; omega)
            go_wp2_with (first
              | (go_at_call 23; (with_reducible refine (roots_q (S := S) HG.out N0.out 0).mono ?_); rintro r w3 ⟨v3, rfl, hv, hb⟩; rw [HR0.out] at hv; obtain ⟨A3, c3, rfl, -⟩ := hv; rw [← HP0.out]; have HG3 := Lib.hid (HG.out.step hb); clear hb HG)
              | (go_at_call 25; (with_reducible refine (pop_q (S := S) HG3.out N0.out 0 HP.out).mono ?_); rintro r w4 ⟨T4, F4, rfl, hg, -⟩; have HG4 := Lib.hid hg; clear hg HG3)
              | (go_at_call 23; (with_reducible refine (roots_q (S := S) HG4.out N1.out 0).mono ?_); rintro r w5 ⟨v5, rfl, hv, hb⟩; rw [HRL.out] at hv; obtain ⟨A5, c5, rfl, -⟩ := id hv; rw [← HPL.out] at hv ⊢; have HV := Lib.hid hv; have HG5 := Lib.hid (HG4.out.step hb); clear hb hv HG4)
              | (go_at_call 26; (with_reducible refine (write_q (S := S) HG5.out N1.out 0 a i b HW.out).mono ?_); rintro r w6 ⟨T6, F6, rfl, hg, hu, hF, -⟩; have HV6 := Lib.hid (row_op HV.out hu hF); have HG6 := Lib.hid hg; clear hg hu hF HG5 HV)
              | fail)
            go_ret
            exact ⟨rfl, HG6.out.bel⟩
end Go.Proofs.Ytjnkcomedcbenaa
