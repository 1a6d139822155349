/- The call of the law of lists. -/
import Derived.Test.YtkbfdcfgpmohkaaChecks
import Derived.Test.YtkbfdcfgpmohkaaListsPure
namespace Go.Proofs.Ytkbfdcfgpmohkaa
open Go.RowKit
set_option linter.unusedVariables false

/-- The map, the configuration and the words. -/
structure KL (w : World) (B N G : Nat) (c : Cfg) (L : List Int) (w' : World) : Prop where
  q : KQ w B N c w'
  g : G < w'.heap.size
  l : ∀ i, i < L.length → w'.cell? ⟨G, i, none⟩ = some (.int .u64 (L.getD i 0))
theorem KL.step {w : World} {B N G : Nat} {c : Cfg} {L : List Int} {w' w2 : World} (h : KL w B N G c L w') (hb : Below w'.heap.size w' w2) : KL w B N G c L w2 :=
  ⟨h.q.step hb, Nat.lt_of_lt_of_le h.g hb.size, fun i hi => (hb.cell (p := ⟨G, i, none⟩) h.g).trans (h.l i hi)⟩
/-- The word at a thing's place. -/
theorem KL.at {w : World} {B N G : Nat} {c : Cfg} {L : List Int} {w' : World} (h : KL w B N G c L w') (hR : Rep (shOf c) L (firstV c)) {t : Th} {q : Nat} (ht : Norm t) (hq : plc (shOf c) t = (q : Int)) : w'.cell? ⟨G, q, none⟩ = some (.int .u64 (firstV c t)) ∧ q < L.length := by
  have hp : 0 ≤ plc (shOf c) t := by omega
  have hl := plc_lt ht hp
  have hlt : q < L.length := by rw [hR.1]; omega
  have e := hR.2 t ht hp
  rw [show (plc (shOf c) t).toNat = q by omega] at e
  exact ⟨by rw [h.l q hlt, e], hlt⟩
theorem plc_nat {c : Cfg} {t : Th} (h : 0 ≤ plc (shOf c) t) : ∃ q : Nat, plc (shOf c) t = (q : Int) := ⟨(plc (shOf c) t).toNat, by omega⟩
/-- The two words that the last statement loads. -/
abbrev LW (G q15 q14 : Nat) (x : Int) (w' : World) : Prop := w'.cell? ⟨G, q15, none⟩ = some (.int .u64 1) ∧ w'.cell? ⟨G, q14, none⟩ = some (.int .u64 x)

set_option maxHeartbeats 16000000 in
set_option maxRecDepth 100000 in
theorem walkLists (c : Cfg) (w : World) : Calls Try.prog 8 #[cfgV c] w fun e w' => e = .returned (.bool true) ∧ Below w.heap.size w w' := by
  have HK := Lib.hid (KC.start c 24 w w (Below.refl _ _))
  by_cases h : OkC c
  case neg =>
    have H := Lib.hid h; clear h
    go_enter Try.func8, Try.ntmps8
    go_wp2_with (first
      | (go_at_call 10; (with_reducible refine (awake_any _).mono ?_); rintro r w1 ⟨rfl, hb1⟩; have HK := Lib.hid (HK.out.step hb1); clear hb1; obtain ⟨klt, q0, q1, q2, q3, q4, q5, q6, q7, q8, q9, q10, q11, qb⟩ := HK.out)
      | (go_at_call 12; (with_reducible refine (model_any c _).mono ?_); rintro r w2 ⟨rfl, hb2⟩; have HK := Lib.hid (HK.out.step hb2); clear hb2 klt q0 q1 q2 q3 q4 q5 q6 q7 q8 q9 q10 q11 qb; obtain ⟨klt, q0, q1, q2, q3, q4, q5, q6, q7, q8, q9, q10, q11, qb⟩ := HK.out)
      | (go_at_call 11; (with_reducible refine (rcheck_any c _).mono ?_); rintro r w3 ⟨x, rfl, hx, hb3⟩; obtain rfl := hx.2 H.out; have HK := Lib.hid (HK.out.step hb3); clear hb3 hx klt q0 q1 q2 q3 q4 q5 q6 q7 q8 q9 q10 q11 qb; obtain ⟨klt, q0, q1, q2, q3, q4, q5, q6, q7, q8, q9, q10, q11, qb⟩ := HK.out)
      | fail)
    go_ret
    exact ⟨rfl, HK.out.bel⟩
  case pos =>
    have H := Lib.hid h
    have hb := bds h
    have n0 := hb.n0; have n1 := hb.n1; have p0 := hb.p0; have p1 := hb.p1
    have ht := hb.t55'
    obtain ⟨z4, hq4⟩ := plc_nat (c := c) (t := ⟨4, 0, 0⟩) (by have := single_pos c 4 (by decide) (by decide); rw [show plc (shOf c) ⟨4, 0, 0⟩ = 4 from this]; decide)
    obtain ⟨z5, hq5⟩ := plc_nat (c := c) (t := ⟨5, 0, 0⟩) (by have := single_pos c 5 (by decide) (by decide); rw [show plc (shOf c) ⟨5, 0, 0⟩ = 5 from this]; decide)
    have HP4 : Hid (plcc c 4 0 0 = (z4 : Int)) := Lib.hid hq4
    have HP5 : Hid (plcc c 5 0 0 = (z5 : Int)) := Lib.hid hq5
    obtain ⟨C, hC⟩ : ∃ C, C = nodesN c := ⟨_, rfl⟩
    obtain ⟨P, hP⟩ : ∃ P : Nat, packN c = (P : Int) := ⟨(packN c).toNat, by omega⟩
    have HC := Lib.hid hC; have HPP := Lib.hid hP
    have hC1 : 1 ≤ C := by omega
    have hC2 : C ≤ 60 := by omega
    have hPa : 1 ≤ P := by omega
    have hPb : P ≤ 1000 := by omega
    have hwf := wf_i64 (v := C) (by omega) (by omega)
    have HWC := Lib.hid hwf
    obtain ⟨q15, hq15⟩ := plc_nat (c := c) (t := ⟨15, C, 0⟩) (by rw [hC]; exact node_pos h 1 _ (by decide) (by decide) n0 (Int.le_refl _))
    obtain ⟨q14, hq14⟩ := plc_nat (c := c) (t := ⟨14, C, 0⟩) (by rw [hC]; exact node_pos h 0 _ (by decide) (by decide) n0 (Int.le_refl _))
    have HP15 : Hid (plcc c 15 C 0 = (q15 : Int)) := Lib.hid hq15
    have HP14 : Hid (plcc c 14 C 0 = (q14 : Int)) := Lib.hid hq14
    clear h hb hq4 hq5 hC hP hwf hq15 hq14 n0 n1 p0 p1
    go_enter Try.func8, Try.ntmps8
    go_wp2_with (first
    | (go_at_call 10; (with_reducible refine (awake_any _).mono ?_); rintro r w1 ⟨rfl, hb1⟩; have HK := Lib.hid (HK.out.step hb1); clear hb1; obtain ⟨klt, q0, q1, q2, q3, q4, q5, q6, q7, q8, q9, q10, q11, qb⟩ := HK.out)
    | (go_at_call 12; (with_reducible refine (model_any c _).mono ?_); rintro r w2 ⟨rfl, hb2⟩; have HK := Lib.hid (HK.out.step hb2); clear hb2 klt q0 q1 q2 q3 q4 q5 q6 q7 q8 q9 q10 q11 qb; obtain ⟨klt, q0, q1, q2, q3, q4, q5, q6, q7, q8, q9, q10, q11, qb⟩ := HK.out)
    | (go_at_call 11; (with_reducible refine (rcheck_any c _).mono ?_); rintro r w3 ⟨x, rfl, hx, hb3⟩; obtain rfl := hx.1 H.out; have HK := Lib.hid (HK.out.step hb3); clear hb3 hx klt q0 q1 q2 q3 q4 q5 q6 q7 q8 q9 q10 q11 qb; obtain ⟨klt, q0, q1, q2, q3, q4, q5, q6, q7, q8, q9, q10, q11, qb⟩ := HK.out)
    | (go_at_call 13; (with_reducible refine (new_yes H.out _).mono ?_); rintro r w4 ⟨N, rfl, hm, hb4⟩; have HK := Lib.hid (HK.out.step hb4); have HQ : Hid (KQ w w.heap.size N c _) := Lib.hid ⟨hm, HK.out⟩; clear hb4 hm klt q0 q1 q2 q3 q4 q5 q6 q7 q8 q9 q10 q11 qb; obtain ⟨klt, q0, q1, q2, q3, q4, q5, q6, q7, q8, q9, q10, q11, qb⟩ := HK.out)
    | (go_at_call 30; (with_reducible refine (first_m H.out _ _ HQ.out.m).mono ?_); rintro r w5 ⟨G, n, L, rfl, hn, hLn, hl, hg, hR, hb5⟩; have HKL : Hid (KL w w.heap.size N G c L w5) := Lib.hid ⟨HQ.out.step hb5, hg, by rw [hLn]; exact hl⟩; have HRR := Lib.hid hR; have HNC : Hid (at55 c = (n : Int)) := Lib.hid (by rw [hn]; exact (lenL_eq H.out).symm); have hn7 : n ≤ 7000 := (by have := HNC.out; omega); have HLN := Lib.hid hLn; clear hn hl hg hR hb5 hLn)
    | (go_at_call 17; (with_reducible refine (len_m H.out _ _ HKL.out.q.m).mono ?_); rintro r w6 ⟨rfl, hb6⟩; rw [HNC.out]; have HKL := Lib.hid (HKL.out.step hb6); clear hb6)
    | (go_at_call 32; (with_reducible refine (pool_m H.out _ _ HKL.out.q.m).mono ?_); rintro r w7 ⟨rfl, hb7⟩; have HKL := Lib.hid (HKL.out.step hb7); rw [HP4.out]; obtain ⟨g4, g4l⟩ := HKL.out.at HRR.out (norm_0 4 (by decide) (by decide)) HP4.out; rw [fv_pool] at g4; have g4a : (0 : Int) ≤ (z4 : Int) := (by omega); have g4b : (z4 : Int) < (n : Int) := (by have := HLN.out; omega); clear hb7)
    | fail)
    clear klt q0 q1 q2 q3 q6 q7 q8 q9 q10 q11 qb
    go_loopw [7, 8] (fun s k wr => ∃ K : Nat, K ≤ 5 ∧ k = .int .i64 (K : Int) ∧ s = .int .i64 (imin (sumTo c K) (nodesN c - 1)) ∧ KL w w.heap.size N G c L wr) (fun _ k _ => 5 - (intOf k).toNat)
    case atStart => exact ⟨0, by omega, rfl, by rw [show sumTo c 0 = 0 from rfl]; rw [show imin 0 (nodesN c - 1) = 0 by have := HC.out; unfold imin; omega], HKL.out⟩
    case round =>
      clear HKL
      obtain ⟨K, hK, rfl, rfl, hkl⟩ := hrel
      by_cases hlt : K < 5
      · have hcl := cls H.out K hlt
        obtain ⟨ch, cn, cd, cs, c60, cf, cs0⟩ := hcl
        obtain ⟨cf1, cf2⟩ := cf
        obtain ⟨cs1, cs2⟩ := cs0
        obtain ⟨M, hM⟩ : ∃ M, M = clsN c K := ⟨_, rfl⟩
        obtain ⟨F, hF⟩ : ∃ F, F = rF c K := ⟨_, rfl⟩
        obtain ⟨S, hS⟩ : ∃ S, S = imin (sumTo c K) (nodesN c - 1) := ⟨_, rfl⟩
        rw [← hM, ← hF] at ch cn cd
        obtain ⟨y0, hy0⟩ : ∃ y0, (if 0 < M then F else 0) = y0 := ⟨_, rfl⟩
        rw [hy0] at ch
        have HY0 := Lib.hid hy0
        rw [← hM] at cs c60
        rw [← hF] at cf1 cf2
        rw [← hS] at cs cs1 cs2 ⊢
        obtain ⟨qh, hqh⟩ := plc_nat (c := c) (t := ⟨7, (K : Int), 0⟩) (head_pos H.out K (by omega) (by omega))
        have HPH : Hid (plcc c 7 (K : Int) 0 = (qh : Int)) := Lib.hid hqh
        have HCH := Lib.hid ch; have HCN := Lib.hid cn; have HCD := Lib.hid cd; have HCS := Lib.hid cs
        have HKL := Lib.hid hkl
        have hwk := wf_i64 (v := (K : Int)) (by omega) (by omega)
        have HWK := Lib.hid hwk
        have hk0 : (K : Int) < 5 := by omega
        have hyb : 0 ≤ y0 ∧ y0 ≤ 61 := by rw [← hy0]; split <;> omega
        obtain ⟨hyb0, hyb1⟩ := hyb
        have hcv : IntKind.i64.wrap y0 = y0 := IntWalk.i64_in _ (by omega)
        clear ch cn cd cs hM hF hS hqh hkl hwk hy0
        go_wp2_with (first
          | (go_at_call 33; (with_reducible refine (head_m H.out _ _ HWK.out _ HKL.out.q.m).mono ?_); rintro r w8 ⟨rfl, hb8⟩; rw [HPH.out]; have HKL := Lib.hid (HKL.out.step hb8); obtain ⟨gh, ghl⟩ := HKL.out.at HRR.out (norm_k 7 (K : Int) (by decide) (by decide)) HPH.out; rw [HCH.out] at gh; have gha : (0 : Int) ≤ (qh : Int) := (by omega); have ghb : (qh : Int) < (n : Int) := (by have := HLN.out; omega))
          | fail)
        clear gh hcv
        go_loopw [7, 9, 10] (fun s l v wr => ∃ j : Nat, j ≤ M ∧ s = .int .i64 (S + (j : Int)) ∧ l = .int .i64 (if j = 0 then 0 else F + (j : Int) - 1) ∧ v = .int .i64 (if j < M then F + (j : Int) else 0) ∧ KL w w.heap.size N G c L wr) (fun s _ _ _ => (S + (M : Int)).toNat - (intOf s).toNat)
        case atStart => exact ⟨0, Nat.zero_le _, by simp, by simp, by rw [← HY0.out]; simp, HKL.out⟩
        case round =>
          clear HKL
          obtain ⟨j, hj, rfl, rfl, rfl, hkl⟩ := hrel
          have HKL := Lib.hid hkl
          clear hkl
          by_cases hjm : j < M
          · obtain ⟨d1, d2, d3⟩ := HCD.out j hjm
            obtain ⟨v, hv⟩ : ∃ v, F + (j : Int) = v := ⟨_, rfl⟩
            obtain ⟨l, hl⟩ : ∃ l, (if j = 0 then 0 else F + (j : Int) - 1) = l := ⟨_, rfl⟩
            have hl1 : l < v := by rw [← hl, ← hv]; split <;> omega
            have hnx := HCN.out j hjm
            rw [hv] at d1 d2 d3 hnx
            rw [if_pos hjm, hl, hv]
            have hv0 : (v != 0) = true := by simp; omega
            have hv1 : ¬ v = 0 := by omega
            have hv2 : ¬ v ≤ l := by omega
            have hv3 : ¬ v ≥ nodesN c := by omega
            have hv4 : (kindV c v != (K : Int)) = false := by rw [d1]; simp
            obtain ⟨qn, hqn⟩ := plc_nat (c := c) (t := ⟨17, v, 0⟩) (node_pos H.out 3 v (by decide) (by decide) d3 (by omega))
            have HPN : Hid (plcc c 17 v 0 = (qn : Int)) := Lib.hid hqn
            have HNX := Lib.hid hnx; have HV := Lib.hid hv; have HLL := Lib.hid hl; have HD1 := Lib.hid d1
            have hwv := wf_i64 (v := v) (by omega) (by have := HC.out; omega)
            have HWV := Lib.hid hwv
            have hvM : v ≤ 121 := by omega
            obtain ⟨x, hx⟩ : ∃ x, (if j + 1 < M then F + ((j + 1 : Nat) : Int) else 0) = x := ⟨_, rfl⟩
            have hx0 : 0 ≤ x ∧ x ≤ 122 := by rw [← hx]; split <;> omega
            obtain ⟨hx0, hx1⟩ := hx0
            have HX := Lib.hid hx
            have hcx : IntKind.i64.wrap x = x := IntWalk.i64_in _ (by omega)
            clear hqn hnx hv hl hwv d1 hx
            go_wp2_with (first
              | (go_at_call 23; (with_reducible refine (nodes_m H.out _ _ HKL.out.q.m).mono ?_); rintro r w9 ⟨rfl, hb9⟩; have HKL := Lib.hid (HKL.out.step hb9))
              | (go_at_call 28; (with_reducible refine (class_is _ _ _ HD1.out _ HKL.out.q.m).mono ?_); rintro r w9 ⟨rfl, hb9⟩; have HKL := Lib.hid (HKL.out.step hb9))
              | (go_at_call 34; (with_reducible refine (next_m H.out _ _ HWV.out _ HKL.out.q.m).mono ?_); rintro r w9 ⟨rfl, hb9⟩; rw [HPN.out]; have HKL := Lib.hid (HKL.out.step hb9); obtain ⟨gn, gnl⟩ := HKL.out.at HRR.out (norm_k 17 v (by decide) (by decide)) HPN.out; rw [HNX.out, HX.out] at gn; have gna : (0 : Int) ≤ (qn : Int) := (by omega); have gnb : (qn : Int) < (n : Int) := (by have := HLN.out; omega))
              | fail)
            go_roundw
            case rel => exact ⟨j + 1, by omega, by go_num, by rw [if_neg (by omega)]; exact congrArg (Value.int .i64) (by have := HV.out; omega), by rw [HX.out], HKL.out⟩
            case measure => simp [intOf]; omega
          · have hjM : j = M := by omega
            have HJM := Lib.hid hjM
            rw [if_neg hjm]
            obtain ⟨l, hl⟩ : ∃ l, (if j = 0 then 0 else F + (j : Int) - 1) = l := ⟨_, rfl⟩
            rw [hl]
            clear hl hjm hj hjM
            go_wp2_with (fail)
            go_roundw
            case rel => exact ⟨K + 1, by omega, by go_num, by rw [← HCS.out, HJM.out], HKL.out⟩
            case measure => simp [intOf]; omega
      · have hK5 : K = 5 := by omega
        have hk0 : ¬ (K : Int) < 5 := by omega
        have hs5 : imin (sumTo c K) (nodesN c - 1) = C - 1 := by
          have e : sumTo c 5 = nodesN c := sum5 c
          rw [hK5, e, HC.out]; unfold imin; omega
        rw [hs5]
        have HKL := Lib.hid hkl
        have hfs := fv_spare H.out
        have HFS := Lib.hid hfs
        clear hs5 hkl hlt hK hK5 hfs
        go_wp2_with (first
          | (go_at_call 35; (with_reducible refine (spare_m H.out _ _ HKL.out.q.m).mono ?_); rintro r w8 ⟨rfl, hb8⟩; rw [HP5.out]; have HKL := Lib.hid (HKL.out.step hb8); obtain ⟨gs, gsl⟩ := HKL.out.at HRR.out (norm_0 5 (by decide) (by decide)) HP5.out; rw [HFS.out] at gs; have gsa : (0 : Int) ≤ (z5 : Int) := (by omega); have gsb : (z5 : Int) < (n : Int) := (by have := HLN.out; omega))
          | fail)
        clear gs
        go_loopw [11, 12] (fun p m wr => ∃ j : Nat, j ≤ P ∧ m = .int .i64 (j : Int) ∧ p = .int .i64 (if j < P then (j : Int) + 1 else 0) ∧ KL w w.heap.size N G c L wr) (fun _ m _ => P - (intOf m).toNat)
        case atStart => exact ⟨0, Nat.zero_le _, rfl, by rw [if_pos (by omega)]; rfl, HKL.out⟩
        case round =>
          clear HKL
          obtain ⟨j, hj, rfl, rfl, hkl⟩ := hrel
          have HKL := Lib.hid hkl
          clear hkl
          by_cases hjm : j < P
          · rw [if_pos hjm]
            have hln := fv_link H.out ((j : Int) + 1) (by omega)
            obtain ⟨x, hx⟩ : ∃ x, (if (j : Int) + 1 < packN c then (j : Int) + 1 + 1 else 0) = x := ⟨_, rfl⟩
            rw [hx] at hln
            have hx0 : 0 ≤ x ∧ x ≤ 1002 := by rw [← hx]; split <;> omega
            obtain ⟨hx0, hx1⟩ := hx0
            have HX := Lib.hid hx
            obtain ⟨ql, hql⟩ := plc_nat (c := c) (t := ⟨12, (j : Int) + 1, 0⟩) (link_pos H.out _ (by omega) (by have := HPP.out; omega))
            have HPL : Hid (plcc c 12 ((j : Int) + 1) 0 = (ql : Int)) := Lib.hid hql
            have HLK := Lib.hid hln
            have hwv := wf_i64 (v := (j : Int) + 1) (by omega) (by omega)
            have HWV := Lib.hid hwv
            have hcx : IntKind.i64.wrap x = x := IntWalk.i64_in _ (by omega)
            have hjP : (j : Int) ≤ (P : Int) := by omega
            have hj1 : ((j : Int) + 1 != 0) = true := by simp; omega
            clear hln hx hql hwv
            go_wp2_with (first
              | (go_at_call 25; (with_reducible refine (packets_m _ _ HKL.out.q.m).mono ?_); rintro r w9 ⟨rfl, hb9⟩; rw [HPP.out]; have HKL := Lib.hid (HKL.out.step hb9))
              | (go_at_call 36; (with_reducible refine (link_m H.out _ _ HWV.out _ HKL.out.q.m).mono ?_); rintro r w9 ⟨rfl, hb9⟩; rw [HPL.out]; have HKL := Lib.hid (HKL.out.step hb9); obtain ⟨gn, gnl⟩ := HKL.out.at HRR.out (norm_k 12 ((j : Int) + 1) (by decide) (by decide)) HPL.out; rw [HLK.out] at gn; have gna : (0 : Int) ≤ (ql : Int) := (by omega); have gnb : (ql : Int) < (n : Int) := (by have := HLN.out; omega))
              | fail)
            go_roundw
            case rel => exact ⟨j + 1, by omega, by go_num, congrArg (Value.int .i64) (by rw [← HX.out]; have := HPP.out; split <;> split <;> omega), HKL.out⟩
            case measure => simp [intOf]; omega
          · have hjP : (j : Int) = (P : Int) := by omega
            rw [if_neg hjm]
            have HJP := Lib.hid hjP
            have hst := fv_state H.out C
            rw [if_pos HC.out] at hst
            have hhd := fv_header H.out C
            rw [if_pos HC.out, ← HC.out] at hhd
            have HST := Lib.hid hst; have HHD := Lib.hid hhd
            obtain ⟨hr0, hr1⟩ := slots_bd (kindV c C)
            obtain ⟨X, hX⟩ : ∃ X, slotsOf (kindV c C) = X := ⟨_, rfl⟩
            rw [hX] at hr0 hr1 hhd
            have HXX := Lib.hid hX
            have hcX : IntKind.u64.wrap X = X := by rw [IntKind.wrap_u64]; omega
            have h15 := HKL.out.at HRR.out (norm_k 15 C (by decide) (by decide)) HP15.out
            have h14 := HKL.out.at HRR.out (norm_k 14 C (by decide) (by decide)) HP14.out
            rw [HST.out] at h15
            rw [HHD.out, HXX.out] at h14
            have e15a : (0 : Int) ≤ (q15 : Int) := by omega
            have e15b : (q15 : Int) < (n : Int) := by have := HLN.out; have := h15.2; omega
            have e14a : (0 : Int) ≤ (q14 : Int) := by omega
            have e14b : (q14 : Int) < (n : Int) := by have := HLN.out; have := h14.2; omega
            have hmk : ∀ w', KL w w.heap.size N G c L w' → (w'.cell? ⟨G, q15, none⟩ = some (.int .u64 1) ∧ w'.cell? ⟨G, q14, none⟩ = some (.int .u64 X)) ∧ KL w w.heap.size N G c L w' := fun w' hk => by
              have a15 := hk.at HRR.out (norm_k 15 C (by decide) (by decide)) HP15.out
              have a14 := hk.at HRR.out (norm_k 14 C (by decide) (by decide)) HP14.out
              rw [HST.out] at a15
              rw [HHD.out, HXX.out] at a14
              exact ⟨⟨a15.1, a14.1⟩, hk⟩
            have HMK := Lib.hid hmk
            clear hst hhd hX h15 h14 hmk hjP hjm hj
            go_wp2_with (first
              | (go_at_call 24; (with_reducible refine (common_m H.out _ _ HKL.out.q.m).mono ?_); rintro r w9 ⟨rfl, hb9⟩; rw [← HC.out]; have HKL := Lib.hid (HKL.out.step hb9))
              | fail)
            have HKD := Lib.hid (HKL.out.step ((Below.refl _ _).drew))
            have hwC : IntKind.i64.wrap (C - 1) = C - 1 := IntWalk.i64_in _ (by omega)
            go_region_held3 (fun w' => (w'.cell? ⟨G, q15, none⟩ = some (.int .u64 1) ∧ w'.cell? ⟨G, q14, none⟩ = some (.int .u64 X)) ∧ KL w w.heap.size N G c L w')
              (first | exact HMK.out _ HKD.out | exact HMK.out _ (by assumption) | fail)
              (first
                | (go_at_call 23; (with_reducible refine (nodes_m H.out _ _ (KL.q (And.right (by assumption))).m).mono ?_); rintro r y1 ⟨rfl, hy1⟩; rw [← HC.out]; have kk := KL.step (And.right (by assumption)) hy1)
                | (go_at_call 37; (with_reducible refine (state_m H.out _ _ HWC.out _ (KL.q (And.right (by assumption))).m).mono ?_); rintro r y1 ⟨rfl, hy1⟩; rw [HP15.out]; have kk := KL.step (And.right (by assumption)) hy1)
                | (go_at_call 38; (with_reducible refine (header_m H.out _ _ HWC.out _ (KL.q (And.right (by assumption))).m).mono ?_); rintro r y1 ⟨rfl, hy1⟩; rw [HP14.out]; have kk := KL.step (And.right (by assumption)) hy1)
                | (go_at_call 29; (with_reducible refine (room_m _ _ _ (KL.q (And.right (by assumption))).m).mono ?_); rintro r y1 ⟨rfl, hy1⟩; rw [HXX.out]; have kk := KL.step (And.right (by assumption)) hy1)
                | (go_at_call 25; (with_reducible refine (packets_m _ _ (KL.q (And.right (by assumption))).m).mono ?_); rintro r y1 ⟨rfl, hy1⟩; rw [HPP.out, ← HJP.out]; have kk := KL.step (And.right (by assumption)) hy1)
                | fail)
            all_goals go_wp2_with (fail)
            all_goals go_ret
            all_goals exact ⟨ret_bool (by simp), KC.bel (KQ.k (KL.q (And.right (by assumption))))⟩
end Go.Proofs.Ytkbfdcfgpmohkaa
