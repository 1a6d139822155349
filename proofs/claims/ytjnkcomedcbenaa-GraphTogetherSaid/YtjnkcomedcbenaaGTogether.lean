/- The call of the law of two mutators in either order. -/
import Derived.Test.YtjnkcomedcbenaaGTwo
namespace Go.Proofs.Ytjnkcomedcbenaa
open Go.RowKit
set_option linter.unusedVariables false

theorem set_len (l : List (List Int)) (i : Nat) (x : List Int) : (l.set i x).length = l.length := by simp
/-- A pop of one and a dup of another in either order. -/
theorem pop_dup (g : Gr) (x y a : Int) (hx : 0 ≤ x) (hy : 0 ≤ y) (hne : x ≠ y) :
    (gDup (gPop g x).1 y a).1 = (gPop (gDup g y a).1 x).1 ∧ (gDup (gPop g x).1 y a).2 = (gDup g y a).2 ∧ (gPop (gDup g y a).1 x).2 = (gPop g x).2 := by
  have hn : x.toNat ≠ y.toNat := by omega
  have r1 : ∀ v, row (g.roots.set x.toNat v) y.toNat = row g.roots y.toNat := fun v => by rw [row_set, if_neg (fun h => hn h.1)]
  have r2 : ∀ v, row (g.roots.set y.toNat v) x.toNat = row g.roots x.toNat := fun v => by rw [row_set, if_neg (fun h => hn h.1.symm)]
  by_cases hp : (isIn g.roots.length x && decide (0 < (row g.roots x.toNat).length)) = true
  · have ep : gPop g x = (⟨g.roots.set x.toNat (row g.roots x.toNat).dropLast, g.nodes, g.most⟩, true) := by unfold gPop; rw [if_pos hp]
    have e1 : gRoot (gPop g x).1 y a = gRoot g y a := by rw [ep]; unfold gRoot; simp only [set_len, r1]
    have e2 : gRoom (gPop g x).1 y = gRoom g y := by rw [ep]; unfold gRoom; simp only [set_len, r1]
    by_cases hd : (gRoom g y && decide (0 ≤ gRoot g y a)) = true
    · have ed : gDup g y a = (gPush g y (gRoot g y a), true) := by unfold gDup; rw [if_pos hd]
      have ed2 : gDup (gPop g x).1 y a = (gPush (gPop g x).1 y (gRoot g y a), true) := by unfold gDup; rw [e1, e2, if_pos hd]
      have hp2 : (isIn (gPush g y (gRoot g y a)).roots.length x && decide (0 < (row (gPush g y (gRoot g y a)).roots x.toNat).length)) = true := by
        simp only [gPush, set_len, r2]; exact hp
      have ep2 : gPop (gPush g y (gRoot g y a)) x = (⟨(gPush g y (gRoot g y a)).roots.set x.toNat (row (gPush g y (gRoot g y a)).roots x.toNat).dropLast, g.nodes, g.most⟩, true) := by unfold gPop; rw [if_pos hp2]; rfl
      rw [ed, ed2, ep2, ep]
      refine ⟨?_, rfl, rfl⟩
      simp only [gPush, r1, r2]
      rw [List.set_comm _ _ hn]
    · have ed : gDup g y a = (g, false) := by unfold gDup; rw [if_neg hd]
      have ed2 : gDup (gPop g x).1 y a = ((gPop g x).1, false) := by unfold gDup; rw [e1, e2, if_neg hd]
      rw [ed, ed2]; exact ⟨rfl, rfl, rfl⟩
  · have ep : gPop g x = (g, false) := by unfold gPop; rw [if_neg hp]
    rw [ep]
    by_cases hd : (gRoom g y && decide (0 ≤ gRoot g y a)) = true
    · have ed : gDup g y a = (gPush g y (gRoot g y a), true) := by unfold gDup; rw [if_pos hd]
      have hp2 : ¬ (isIn (gPush g y (gRoot g y a)).roots.length x && decide (0 < (row (gPush g y (gRoot g y a)).roots x.toNat).length)) = true := by
        simp only [gPush, set_len, r2]; exact hp
      have ep2 : gPop (gPush g y (gRoot g y a)) x = (gPush g y (gRoot g y a), false) := by unfold gPop; rw [if_neg hp2]
      rw [ed, ep2]; exact ⟨rfl, rfl, rfl⟩
    · have ed : gDup g y a = (g, false) := by unfold gDup; rw [if_neg hd]
      rw [ed, ep]; exact ⟨rfl, rfl, rfl⟩

set_option maxHeartbeats 16000000 in
set_option maxRecDepth 100000 in
theorem walkTogether (A : Option Addr) (n capA : Nat) (l : List Op5) (b0 a : Int) (w : World) (ha : IsOps w A n capA l) (wb : (Lit.int .u8 b0).wf = true) :
    Calls Try.prog 9 #[.slice A n capA, .int .u8 b0, .int .i64 a] w fun e w' => e = .returned (.bool true) ∧ Below w.heap.size w w' := by
  obtain ⟨hra, hal, _, _, hwa⟩ := ha
  have hab : 0 ≤ b0 ∧ b0 ≤ 255 := by
    have h := wb
    simp [Lit.wf] at h
    exact ⟨h.1, h.2⟩
  by_cases h60 : 40 < n
  · have h60' : (40 : Int) < (n : Int) := by omega
    clear hra hal hwa hab wb
    go_enter Try.func9, Try.ntmps9
    go_wp2_with (first
      | (go_at_call 10; (with_reducible refine (awake_any _).mono ?_); rintro r w1 ⟨rfl, hb⟩)
      | fail)
    go_ret
    exact ⟨rfl, hb⟩
  have h60' : ¬ (40 : Int) < (n : Int) := by omega
  have hn60 : n ≤ 40 := by omega
  obtain ⟨q, hq⟩ : ∃ q : Int, q = b0 % 3 := ⟨_, rfl⟩
  obtain ⟨y, hy⟩ : ∃ y : Int, y = (q + 1) % 3 := ⟨_, rfl⟩
  have hq0 : 0 ≤ q := by omega
  have hq2 : q < 3 := by omega
  have hy0 : 0 ≤ y := by omega
  have hy2 : y < 3 := by omega
  have HNE : Hid (q ≠ y) := Lib.hid (by omega)
  have hqe := hq.symm
  have hye := hy.symm
  have HA := Lib.hid hra; have HAL := Lib.hid hal
  obtain ⟨G0, hG0⟩ : ∃ G0, G0 = gNew 3 6 3 := ⟨_, rfl⟩
  have HG0 := Lib.hid hG0
  have HN0 : Hid (G0.nodes.length = 1) := Lib.hid (by rw [hG0]; rfl)
  have hb00 := hab.1
  have hb01 := hab.2
  clear hra hal hwa h60 hG0 wb hab hq hy
  go_enter Try.func9, Try.ntmps9
  go_wp2_with (first
    | (go_at_call 10; (with_reducible refine (awake_any _).mono ?_); rintro r w1 ⟨rfl, hb⟩; have HBW := Lib.hid hb; clear hb)
    | (go_at_call 11; (with_reducible refine (new_q HBW.out 3 6 3 (by decide) (by decide)).mono ?_); rintro r w2 ⟨S, T, F, rfl, hg, -⟩; rw [← HG0.out] at hg; have HK := Lib.hid hg; clear hg HBW)
    | (go_at_call 11; (with_reducible refine (new_q HK.out.bel 3 6 3 (by decide) (by decide)).mono ?_); rintro r w3 ⟨S2, T2, F2, rfl, hg, hb, hT⟩; rw [← HG0.out] at hg; have HT := Lib.hid (TwoG.of_new HK.out hg hb hT); clear hg hb hT HK)
    | fail)
  clear hqe hye
  go_loopw [12] (fun iv wr => ∃ (k : Nat) (T F T2 F2 : Nat → Prop), k ≤ n ∧ iv = .int .i64 (k : Int) ∧ TwoG w wr S T F (opsTo G0 l k) S2 T2 F2 (opsTo G0 l k)) (fun iv _ => n - (RowKit.intOf iv).toNat)
  case atStart => exact ⟨0, T, F, T2, F2, Nat.zero_le _, rfl, HT.out⟩
  case round =>
    clear HT
    obtain ⟨k, T3, F3, T4, F4, hk, rfl, hg⟩ := hrel
    by_cases hlt : k < n
    · obtain ⟨b, off, hA, c0, c1, c2, c3, c4⟩ := (HA.out.below hg.one.bel).at' k (by rw [HAL.out]; exact hlt)
      subst hA
      obtain ⟨x, hx⟩ : ∃ x, x = atO l k := ⟨_, rfl⟩
      rw [← hx] at c0 c1 c2 c3 c4
      have hsucc : (gPlay (opsTo G0 l k) x).1 = opsTo G0 l (k + 1) := by rw [hx]; rfl
      obtain ⟨g', y', z, hp⟩ : ∃ g' y z, gPlay (opsTo G0 l k) x = (g', y, z) := ⟨_, _, _, rfl⟩
      rw [hp] at hsucc
      have HP := Lib.hid hp; have HS : Hid (g' = opsTo G0 l (k + 1)) := Lib.hid hsucc
      have HNN : Hid ((opsTo G0 l k).nodes.length ≤ 1000) := Lib.hid (by have := (opsTo_near G0 l k).1; have := HN0.out; omega)
      have HG := Lib.hid hg
      have HCC : Hid (∀ wz, Below w.heap.size w wz → wz.cell? ⟨b, off + k * 5, none⟩ = some (.int .u8 x.d) ∧ wz.cell? ⟨b, off + k * 5 + 1, none⟩ = some (.int .i64 x.m) ∧ wz.cell? ⟨b, off + k * 5 + 2, none⟩ = some (.int .i64 x.a) ∧ wz.cell? ⟨b, off + k * 5 + 3, none⟩ = some (.int .i64 x.i) ∧ wz.cell? ⟨b, off + k * 5 + 4, none⟩ = some (.int .i64 x.b)) := Lib.hid fun wz hbz => by
        obtain ⟨b', off', e, d0, d1, d2, d3, d4⟩ := (HA.out.below hbz).at' k (by rw [HAL.out]; exact hlt)
        cases e
        rw [← hx] at d0 d1 d2 d3 d4
        exact ⟨d0, d1, d2, d3, d4⟩
      obtain ⟨xd, xm, xa, xi, xb⟩ := x
      have hk0 : (0 : Int) ≤ (k : Int) := by omega
      have hk1 : (k : Int) < (n : Int) := by omega
      clear hx hp hsucc hg hlt
      go_wp2_with (first
        | (go_at_call 13; (with_reducible refine (play_q HG.out.one HNN.out ⟨xd, xm, xa, xi, xb⟩ HP.out).mono ?_); rintro r w3 ⟨T5, F5, rfl, hg, hu, hF, hT⟩; rw [HS.out] at hg; have HG2 := Lib.hid (HG.out.left hg hu hF hT); clear hg hu hF hT c0 c1 c2 c3 c4; obtain ⟨c0, c1, c2, c3, c4⟩ := HCC.out _ HG2.out.one.bel)
        | (go_at_call 13; (with_reducible refine (play_q HG2.out.two HNN.out ⟨xd, xm, xa, xi, xb⟩ HP.out).mono ?_); rintro r w4 ⟨T6, F6, rfl, hg, hu, hF, hT⟩; rw [HS.out] at hg; have HG3 := Lib.hid (HG2.out.right hg hu hF hT); clear hg hu hF hT c0 c1 c2 c3 c4)
        | fail)
      go_roundw
      case rel => exact ⟨k + 1, T5, F5, T6, F6, by omega, by go_num, HG3.out⟩
      case measure => simp [RowKit.intOf]; omega
    · obtain rfl : k = n := by omega
      obtain ⟨G, hG⟩ : ∃ G, G = opsTo G0 l k := ⟨_, rfl⟩
      rw [← hG] at hg
      have hn1 : G.nodes.length ≤ 61 := by have := (opsTo_near G0 l k).1; have := HN0.out; rw [hG]; omega
      obtain ⟨h1, h2, h3⟩ := pop_dup G q y a hq0 hy0 HNE.out
      obtain ⟨P1, pb, hP⟩ : ∃ P1 pb, gPop G q = (P1, pb) := ⟨_, _, rfl⟩
      obtain ⟨D1, db, hD⟩ : ∃ D1 db, gDup G y a = (D1, db) := ⟨_, _, rfl⟩
      obtain ⟨E, eb, hE⟩ : ∃ E eb, gDup P1 y a = (E, eb) := ⟨_, _, rfl⟩
      rw [hP, hD] at h1 h2 h3
      simp only at h1 h2 h3
      rw [hE] at h1 h2
      simp only at h1 h2
      subst h2
      have hE2 : gPop D1 q = (E, pb) := by rw [h1, ← h3]
      have n1 : P1.nodes.length ≤ 1000 := by
        have := (play_near G ⟨3, q, 0, 0, 0⟩).2.1
        rw [show gPlay G ⟨3, q, 0, 0, 0⟩ = ((gPop G q).1, 0, (gPop G q).2) from rfl, hP] at this
        simp only at this; omega
      have n2 : D1.nodes.length ≤ 1000 := by
        have := (play_near G ⟨4, y, a, 0, 0⟩).2.1
        rw [show gPlay G ⟨4, y, a, 0, 0⟩ = ((gDup G y a).1, 0, (gDup G y a).2) from rfl, hD] at this
        simp only at this; omega
      have n3 : E.nodes.length ≤ 1000 := by
        have h4 := (play_near P1 ⟨4, y, a, 0, 0⟩).2.1
        rw [show gPlay P1 ⟨4, y, a, 0, 0⟩ = ((gDup P1 y a).1, 0, (gDup P1 y a).2) from rfl, hE] at h4
        have h5 := (play_near G ⟨3, q, 0, 0, 0⟩).2.1
        rw [show gPlay G ⟨3, q, 0, 0, 0⟩ = ((gPop G q).1, 0, (gPop G q).2) from rfl, hP] at h5
        simp only at h4 h5; omega
      have hokE : Ok E := by
        have := ok_dup (ok_pop hg.one.ok q) y a
        rw [hP, hE] at this; exact this
      have hmoE : E.most = 6 := by
        have h4 := (play_near P1 ⟨4, y, a, 0, 0⟩).2.2.2
        rw [show gPlay P1 ⟨4, y, a, 0, 0⟩ = ((gDup P1 y a).1, 0, (gDup P1 y a).2) from rfl, hE] at h4
        have h5 := (play_near G ⟨3, q, 0, 0, 0⟩).2.2.2
        rw [show gPlay G ⟨3, q, 0, 0, 0⟩ = ((gPop G q).1, 0, (gPop G q).2) from rfl, hP] at h5
        have h6 := (opsTo_near G0 l k).2.2.2
        have h7 : G0.most = 6 := by rw [HG0.out]; rfl
        simp only at h4 h5
        rw [h4, h5, hG, h6, h7]
      have HP := Lib.hid hP; have HD := Lib.hid hD; have HE := Lib.hid hE; have HE2 := Lib.hid hE2
      have N0 : Hid (G.nodes.length ≤ 1000) := Lib.hid (by omega)
      have N1 := Lib.hid n1; have N2 := Lib.hid n2; have N3 := Lib.hid n3
      obtain ⟨R1, hR1⟩ : ∃ R, R = rootsL E q := ⟨_, rfl⟩
      obtain ⟨R2, hR2⟩ : ∃ R, R = rootsL E y := ⟨_, rfl⟩
      obtain ⟨R3, hR3⟩ : ∃ R, R = reachL E := ⟨_, rfl⟩
      have L1 : Hid (R1.length ≤ 1000000) := Lib.hid (by rw [hR1]; have := rootsL_le hokE (by omega) q; omega)
      have L2 : Hid (R2.length ≤ 1000000) := Lib.hid (by rw [hR2]; have := rootsL_le hokE (by omega) y; omega)
      have L3 : Hid (R3.length ≤ 1000000) := Lib.hid (by rw [hR3]; have := reachL_le E; omega)
      have HR1 := Lib.hid hR1.symm; have HR2 := Lib.hid hR2.symm; have HR3 := Lib.hid hR3.symm
      have HG := Lib.hid hg
      clear hg hG hn1 h1 h3 hP hD hE hE2 n1 n2 n3 hokE hmoE hR1 hR2 hR3 hlt
      go_wp2_with (first
        | (go_at_call 25; (with_reducible refine (pop_q (S := S) HG.out.one N0.out q HP.out).mono ?_); rintro r w3 ⟨T5, F5, rfl, hg, hu, hF, hT⟩; have HA1 := Lib.hid (HG.out.left hg hu hF hT); clear hg hu hF hT HG)
        | (go_at_call 28; (with_reducible refine (dup_q (S := S) HA1.out.one N1.out y a HE.out).mono ?_); rintro r w4 ⟨T6, F6, rfl, hg, hu, hF, hT⟩; have HA2 := Lib.hid (HA1.out.left hg hu hF hT); clear hg hu hF hT HA1)
        | (go_at_call 28; (with_reducible refine (dup_q (S := S2) HA2.out.two N0.out y a HD.out).mono ?_); rintro r w5 ⟨T7, F7, rfl, hg, hu, hF, hT⟩; have HA3 := Lib.hid (HA2.out.right hg hu hF hT); clear hg hu hF hT HA2)
        | (go_at_call 25; (with_reducible refine (pop_q (S := S2) HA3.out.two N2.out q HE2.out).mono ?_); rintro r w6 ⟨T8, F8, rfl, hg, hu, hF, hT⟩; have HB1 := Lib.hid (HA3.out.right hg hu hF hT); clear hg hu hF hT HA3)
        | (go_at_call 23; (with_reducible refine (roots_q (S := S) HB1.out.one N3.out q).mono ?_); rintro r w9 ⟨v9, rfl, hv, hb⟩; rw [HR1.out] at hv; have HV9 := Lib.hid hv; have HB2 := Lib.hid (HB1.out.step hb); clear hv hb HB1)
        | (go_at_call 23; (with_reducible refine (roots_q (S := S2) HB2.out.two N3.out q).mono ?_); rintro r w10 ⟨v10, rfl, hv, hb⟩; rw [HR1.out] at hv; have HV10 := Lib.hid hv; have HV9 := Lib.hid (HV9.out.kept (Kept.below hb)); have HB3 := Lib.hid (HB2.out.step hb); clear hv hb HB2)
        | (go_at_call 20; (with_reducible refine (same_yes v9 v10 R1 _ HV9.out HV10.out L1.out).mono ?_); rintro r w11 ⟨rfl, hb⟩; have HB4 := Lib.hid (HB3.out.step hb); clear hb HB3)
        | (go_at_call 23; (with_reducible refine (roots_q (S := S) HB4.out.one N3.out y).mono ?_); rintro r w12 ⟨v12, rfl, hv, hb⟩; rw [HR2.out] at hv; have HV12 := Lib.hid hv; have HB5 := Lib.hid (HB4.out.step hb); clear hv hb HB4)
        | (go_at_call 23; (with_reducible refine (roots_q (S := S2) HB5.out.two N3.out y).mono ?_); rintro r w13 ⟨v13, rfl, hv, hb⟩; rw [HR2.out] at hv; have HV13 := Lib.hid hv; have HV12 := Lib.hid (HV12.out.kept (Kept.below hb)); have HB6 := Lib.hid (HB5.out.step hb); clear hv hb HB5)
        | (go_at_call 20; (with_reducible refine (same_yes v12 v13 R2 _ HV12.out HV13.out L2.out).mono ?_); rintro r w14 ⟨rfl, hb⟩; have HB7 := Lib.hid (HB6.out.step hb); clear hb HB6)
        | (go_at_call 21; (with_reducible refine (reach_q (S := S) HB7.out.one N3.out).mono ?_); rintro r w15 ⟨v15, rfl, hv, hb⟩; rw [HR3.out] at hv; have HV15 := Lib.hid hv; have HB8 := Lib.hid (HB7.out.step hb); clear hv hb HB7)
        | (go_at_call 21; (with_reducible refine (reach_q (S := S2) HB8.out.two N3.out).mono ?_); rintro r w16 ⟨v16, rfl, hv, hb⟩; rw [HR3.out] at hv; have HV16 := Lib.hid hv; have HV15 := Lib.hid (HV15.out.kept (Kept.below hb)); have HB9 := Lib.hid (HB8.out.step hb); clear hv hb HB8)
        | (go_at_call 20; (with_reducible refine (same_yes v15 v16 R3 _ HV15.out HV16.out L3.out).mono ?_); rintro r w17 ⟨rfl, hb⟩; have HC := Lib.hid (HB9.out.step hb); clear hb HB9)
        | fail)
      go_ret
      exact ⟨rfl, HC.out.one.bel⟩
end Go.Proofs.Ytjnkcomedcbenaa
