/- The law of each step of a task that is put somewhere, whatever others change: walked. -/
import Derived.Test.YtponbnbgiiepdaaGreatAdSp
import Derived.Test.YtponbnbgiiepdaaGreatAdAw
import Derived.Test.YtponbnbgiiepdaaGreatJ21
import Derived.IntWalk
namespace Go.Proofs.YtponbnbgiiepdaaGreat
open Go.RowKit
set_option linter.unusedVariables false
set_option linter.unusedSimpArgs false
set_option maxRecDepth 100000
open Lay (plcc plc shOf packN nodesN OkC Cfg Norm firstV Rep lenL things)

theorem same_lenA (A A' : Option Addr) (cap cap' m : Nat) (l : List Int) (w : World) (hm : m = l.length) (h : Reads .u64 w A l) (h' : Reads .u64 w A' l) (hb : l.length ≤ 1000000) :
    Calls Tryz.prog 23 #[.slice A l.length cap, .slice A' m cap'] w fun e w' => e = .returned (.bool true) ∧ Below w.heap.size w w' := same_yes A A' cap cap' _ m l w rfl hm h h' hb
/-- The map's box. -/
theorem aboxA {w6 : World} {A : Option Addr} {n cap : Nat} {P : Int} {w' : World} (hb : Below (w6.heap.size + 1) (w6.alloc (.cells #[.slice A n cap, .int .i64 P] 35)) w') :
    w'.cell? ⟨w6.heap.size, 0, none⟩ = some (.slice A n cap) ∧ w'.cell? ⟨w6.heap.size, 1, none⟩ = some (.int .i64 P) := by
  have h : (w6.alloc (.cells #[.slice A n cap, .int .i64 P] 35)).heap[w6.heap.size]? = some (.cells #[.slice A n cap, .int .i64 P] 35 (0, 0)) := Array.getElem?_push_size
  have h2 := (hb.block _ (by omega)).trans h
  constructor <;> simp [World.cell?, h2]
/-- The machine for a marker, or one that does nothing. -/
def mN (c : Cfg) (i t : Int) : Am := if 0 ≤ i ∧ i < c.mr then aNew (eOf c i) t else aNone t
/-- The document's. -/
def mD (c : Cfg) (i t : Int) : Am := if 0 ≤ i ∧ i < c.mr then aNew (eOf c i) t else ⟨0, 0, Dg.mPush ⟨0, 0, 0, 0⟩ 0, pnone, false⟩
theorem mN_aw {c : Cfg} (hc : OkC c) (i : Int) {t : Int} (ht : 0 ≤ t ∧ t ≤ 18446744073709551615) : AW c 0 (mN c i t) ∧ AW c 0 (mD c i t) := by
  unfold mN mD
  split
  · exact ⟨AW.new (eok_of hc i) ht, AW.new (eok_of hc i) ht⟩
  · exact ⟨⟨by simp [aNone], fun e => by simp [aNone] at e, ht, fun e => by simp [aNone] at e, Int.le_refl _⟩, ⟨by simp, fun e => by simp at e, by simp, fun e => by simp at e, Int.le_refl _⟩⟩
theorem mN_twin (c : Cfg) (i t : Int) : Twin (mN c i t) (mD c i t) := by
  unfold mN mD
  split
  · exact .inl rfl
  · exact .inr ⟨rfl, rfl, rfl⟩
theorem newA_any {c : Cfg} (hc : OkC c) (N : Nat) (i t : Int) (hi : (Lit.int .i64 i).wf = true) (w : World) (hm : Lay.IsMap w N c) :
    Calls Tryz.prog 16 #[Lay.mapP N, .int .i64 i, .int .u64 t] w (NewA w c N (mN c i t)) := by
  unfold mN
  split
  · rename_i h; exact newA_yes hc N i t hi w hm h.1 h.2
  · exact newA_no hc N i t hi w hm (by omega)
theorem ranew_any (Q : Nat → Prop) (c : Cfg) (A : Option Addr) (n cap : Nat) (P i tk : Int) (w : World) (h : IsA w c A n) :
    Calls Tryz.prog 18 #[aVal A n cap P, Lay.cfgV c, .int .i64 i, .int .u64 tk] w (SomeR Q (mD c i tk) w) := by
  unfold mD
  split
  · rename_i hh; exact ranew_in Q c A n cap P i tk w h (by simp; omega) (by simp; omega)
  · by_cases h0 : i < 0
    · exact ranew_neg Q c A n cap P i tk w h _ _ (by simpa using h0)
    · exact ranew_big Q c A n cap P i tk w h _ _ (by simpa using h0) (by simp; omega)

set_option maxHeartbeats 16000000 in
theorem walkSteps (c : Cfg) (i t b : Int) (K : Option Addr) (kn capK : Nat) (ks : List Pok) (w : World) (hi : (Lit.int .i64 i).wf = true) (ht : (Lit.int .u64 t).wf = true) (hb8 : (Lit.int .u8 b).wf = true) (hK : IsPoks w K kn capK ks) :
    Calls Tryz.prog 3 #[Lay.cfgV c, .int .i64 i, .int .u64 t, .int .u8 b, .slice K kn capK] w fun e w' => e = .returned (.bool true) ∧ Below w.heap.size w w' := by
  obtain ⟨rK, lK, h5, h6, wfK⟩ := hK
  obtain ⟨b0, b1⟩ : 0 ≤ b ∧ b ≤ 255 := by
    simp [Lit.wf, IntKind.min, IntKind.max, IntKind.bits, IntKind.signed] at hb8; omega
  have HT : Hid (0 ≤ t ∧ t ≤ 18446744073709551615) := Lib.hid (by
    simp [Lit.wf, IntKind.min, IntKind.max, IntKind.bits, IntKind.signed] at ht; omega)
  have HI := Lib.hid hi
  have hm3 : kn ≤ maxLen := by omega
  obtain ⟨nb, hn⟩ : ∃ n : Nat, b % 10 = (n : Int) := ⟨(b % 10).toNat, by omega⟩
  have hn9 : nb ≤ 9 := by omega
  have HB := Lib.hid (Bw.start w c)
  obtain ⟨q0, q1, q2, q3, q4, q5, q6, q7, q8, q9, q10, q11⟩ := (Bw.start w c).cfg
  have HRK := Lib.hid rK; have HLK := Lib.hid lK; have HWK := Lib.hid wfK
  clear rK lK wfK hi ht hb8
  by_cases hbig : 20 < kn
  · have d2 : decide ((kn : Int) > 20) = true := by simp; omega
    go_enter Tryz.func3, Tryz.ntmps3
    go_wp2_with (first
      | (go_at_call 8; (with_reducible refine (awake_true _).mono ?_); rintro e w1 ⟨rfl, hb⟩; have HB := Lib.hid (HB.out.step hb); clear hb q0 q1 q2 q3 q4 q5 q6 q7 q8 q9 q10 q11; obtain ⟨q0, q1, q2, q3, q4, q5, q6, q7, q8, q9, q10, q11⟩ := HB.out.cfg)
      | (go_at_call 9; (with_reducible refine (small_any c _).mono ?_); rintro e w2 ⟨b, rfl, hs, hb⟩; have HB := Lib.hid (HB.out.step hb); clear hb; cases b)
      | fail)
    all_goals go_ret
    all_goals exact ⟨rfl, HB.out.fin⟩
  · have d2 : decide ((kn : Int) > 20) = false := by simp; omega
    have hkn : kn ≤ 20 := by omega
    clear hbig
    go_enter Tryz.func3, Tryz.ntmps3
    go_wp2_with (first
      | (go_at_call 8; (with_reducible refine (awake_true _).mono ?_); rintro e w1 ⟨rfl, hb⟩; have HB := Lib.hid (HB.out.step hb); clear hb q0 q1 q2 q3 q4 q5 q6 q7 q8 q9 q10 q11; obtain ⟨q0, q1, q2, q3, q4, q5, q6, q7, q8, q9, q10, q11⟩ := HB.out.cfg)
      | (go_at_call 9; (with_reducible refine (small_any c _).mono ?_); rintro e w2 ⟨b, rfl, hs, hb⟩; have HB := Lib.hid (HB.out.step hb); clear hb q0 q1 q2 q3 q4 q5 q6 q7 q8 q9 q10 q11; obtain ⟨q0, q1, q2, q3, q4, q5, q6, q7, q8, q9, q10, q11⟩ := HB.out.cfg; have HSS := Lib.hid hs; clear hs; cases b)
      | (go_at_call 10; (with_reducible refine (Lay.new_yes (HSS.out trivial).1 _).mono ?_); rintro e w3 ⟨N, rfl, hm, hb⟩; have HOK := Lib.hid (HSS.out trivial).1; have HM := Lib.hid hm; have HB := Lib.hid (HB.out.step hb); clear hb hm q0 q1 q2 q3 q4 q5 q6 q7 q8 q9 q10 q11; obtain ⟨q0, q1, q2, q3, q4, q5, q6, q7, q8, q9, q10, q11⟩ := HB.out.cfg)
      | (go_at_call 12; (with_reducible refine (Lay.model_any c _).mono ?_); rintro e w4 ⟨rfl, hb⟩; have HB := Lib.hid (HB.out.step hb); have HM := Lib.hid (HM.out.below hb); clear hb q0 q1 q2 q3 q4 q5 q6 q7 q8 q9 q10 q11)
      | (go_at_call 11; (with_reducible refine (rmap_any HOK.out _).mono ?_); rintro e w6 ⟨AA, an, ac, rfl, hia, hb⟩; have hb7 := below_alloc0 (Below.refl w6.heap.size w6) (.cells #[.slice AA an ac, .int .i64 (packN c)] 35); have HB7 := Lib.hid ((HB.out.step hb).step hb7); have HM := Lib.hid ((HM.out.below hb).below hb7); have HIA := Lib.hid (hia.below hb7); clear hb hia hb7)
      | (go_at_call 14; (with_reducible refine (first_any HOK.out N _ HM.out).mono ?_); rintro e w8 ⟨G, n, L, rfl, hn, hr, hrep, hb⟩; have HB8 := Lib.hid hb; have HN := Lib.hid hn; have HR := Lib.hid hr; have HRE := Lib.hid hrep; have HLE := Lib.hid (first_len HOK.out hrep); clear hb hn hr hrep)
      | (go_at_call 13; (with_reducible refine (new_any _ _ _ L _ HN.out HR.out (by have := HN.out; have := HLE.out; omega)).mono ?_); rintro e w9 hs; obtain ⟨S, D, rfl, hpo, hb⟩ := PO.start (w := w8) HB8.out (Nat.le_refl _) (HM.out.below HB8.out) HOK.out (first_ww HOK.out HRE.out) hs; have HPO := Lib.hid hpo; clear hs hpo hb)
      | fail)
    · go_ret
      exact ⟨rfl, HB.out.fin⟩
    obtain ⟨w7, hw7⟩ : ∃ w7, w7 = (w6.alloc (.cells #[.slice AA an ac, .int .i64 (packN c)] 35)) := ⟨_, rfl⟩
    have HAB : Hid (∀ w', Below w7.heap.size w7 w' → w'.cell? ⟨w6.heap.size, 0, none⟩ = some (.slice AA an ac) ∧ w'.cell? ⟨w6.heap.size, 1, none⟩ = some (.int .i64 (packN c))) := Lib.hid (fun w' hb => by rw [hw7] at hb; exact aboxA (by simpa using hb))
    have hia := HIA.out
    have hb7 := HB7.out
    have hpo := HPO.out
    have hm7 := HM.out
    clear HIA HB7 HM HPO
    rw [← hw7] at hpo hia hb7 hm7
    have HIA := Lib.hid hia
    have HM7 := Lib.hid hm7
    have HPO := Lib.hid hpo
    have HBW : Hid (∀ w', Below w7.heap.size w7 w' → Bw w c w') := Lib.hid (fun w' hb => hb7.step hb)
    obtain ⟨AB, hAB⟩ : ∃ AB, AB = w6.heap.size := ⟨_, rfl⟩
    rw [← hAB] at HAB ⊢
    clear hia hb7 hpo hm7 hw7 hAB HB8 HN HR HSS HRE HB
    go_loopw [17] (fun v wr => ∃ (j : Nat) (L : List Int), j ≤ nb ∧ v = .int .i64 (j : Int) ∧ PO w7.heap.size S D N c w7 wr L (20 * (j : Int)) ∧ L.length ≤ 10000) (fun v _ => nb - (intOf v).toNat)
    case atStart => exact ⟨0, L, Nat.zero_le _, rfl, by simpa using HPO.out, HLE.out⟩
    case round =>
      clear HPO HLE L
      obtain ⟨j, L, hj, rfl, hpo, hlen⟩ := hrel
      have HPO := Lib.hid hpo; have HLE := Lib.hid hlen
      clear hpo hlen
      by_cases hlt : j < nb
      · have hlt' : (j : Int) < (nb : Int) := by omega
        have HJ := Lib.hid hlt
        have HAW := Lib.hid (mN_aw HOK.out i (t := (j : Int)) (by omega)).1
        clear hlt
        go_wp2_with (first
          | (go_at_call 16; (with_reducible refine (newA_any HOK.out N i (j : Int) HI.out _ HPO.out.mp).mono ?_); rintro e w10 hn; obtain ⟨X, rfl, hx, hp, hb⟩ := AKX.of_new HPO.out hn; have HX := Lib.hid hx; have HP := Lib.hid hp; have HLO := Lib.hid (show S < wr.heap.size ∧ D < wr.heap.size ∧ N < wr.heap.size ∧ w7.heap.size ≤ wr.heap.size ∧ wr.heap.size ≤ w10.heap.size from ⟨HPO.out.lt.1, HPO.out.lt.2.1, HPO.out.lt.2.2, HPO.out.bel.size, hb.size⟩); clear hn hx hp hb)
          | (go_at_call 15; (with_reducible refine (whole_ad HP.out HX.out HLO.out HAW.out (by omega) (by omega)).mono ?_); rintro e w11 ⟨nn, jj, rfl, tk, r⟩; have HTK := Lib.hid tk; have HRR := Lib.hid r; clear tk r)
          | fail)
        go_roundw
        case rel => exact ⟨j + 1, _, HJ.out, by go_num, HRR.out.po.more (by have := HTK.out.2; omega), by rw [aruns_len]; exact HLE.out⟩
        case measure => have := HJ.out; simp [intOf]; omega
      · obtain rfl : j = nb := by omega
        have hnl : ¬ (j : Int) < (j : Int) := by omega
        clear hlt hj
        obtain ⟨nL, hnL⟩ : ∃ nL, nL = L.length := ⟨_, rfl⟩
        have HNL := Lib.hid hnL
        clear hnL
        go_wp2_with (first
          | (go_at_call 17; (with_reducible refine (all_po HPO.out (by have := HLE.out; omega)).mono ?_); rintro e w10 ⟨rfl, hr, hp, hb⟩; rw [← HNL.out]; have HROW := Lib.hid hr; have HP10 := Lib.hid hp; have HB10 := Lib.hid hb; clear hr hp hb)
          | (go_at_call 16; (with_reducible refine (newA_any HOK.out N i t HI.out _ HP10.out.mp).mono ?_); rintro e w11 ⟨X, O, Dp, rfl, hak, hd, hb⟩; have HAK := Lib.hid hak; have HDD := Lib.hid hd; have HB11 := Lib.hid hb; have HP11 := Lib.hid (HP10.out.step hb); clear hak hd hb)
          | fail)
        obtain ⟨ab0, ab1⟩ := HAB.out _ HP11.out.bel
        obtain ⟨q0, q1, q2, q3, q4, q5, q6, q7, q8, q9, q10, q11⟩ := (HBW.out _ HP11.out.bel).cfg
        have HD := Lib.hid (HP11.out.step (Below.refl _ _).drew)
        clear hn hnl
        have HCL : Hid (∀ (W : World) (YB : Nat) (V : Array Value), Below w11.heap.size w11 W → w11.heap.size ≤ YB → W.heap[YB]? = some (.cells V 59 (0, 0)) → RAm (fun _ => False) W (mD c i t) (.agg V) → V27 (mD c i t) V →
            ∃ (YB' : Nat) (V : Array Value) (cc : Int), Value.pointer (some ⟨YB, 0, none⟩) = .pointer (some ⟨YB', 0, none⟩) ∧ cc ≤ 1000 ∧ AP S D N X YB' c w7 W O Dp V (mN c i t) (mD c i t) L L (some ⟨wr.heap.size, 0, none⟩) cc 0) := Lib.hid (by
          intro W YB V hW hY nb hra hv
          obtain ⟨cc, cc0, cc1, hst⟩ := HP11.out.st
          have l10 := HP10.out.lt; have l := HPO.out.lt; have z10 := HP10.out.bel.size; have lo := HP11.out.lo
          have hO : ∀ b, O b → w10.heap.size ≤ b := fun b hb => HDD.out b (HAK.out.ins.2.1 b hb)
          exact ⟨YB, V, cc, rfl, by omega, AP.begin2 hW hY nb hst cc0 HP11.out.bel HM7.out HOK.out ⟨lo.1, lo.2.1⟩ HAK.out (fun b hb => by have := HDD.out b hb; exact ⟨by omega, by omega, by omega⟩) hra hv (reads_fry HROW.out HB11.out l.1 l.2.1 hO) (mN_aw HOK.out i HT.out).1 (mN_aw HOK.out i HT.out).2 HP11.out.ww⟩)
        go_cut [20] (fun s wx => ∃ (YB : Nat) (V : Array Value) (cc : Int), s = .pointer (some ⟨YB, 0, none⟩) ∧ cc ≤ 1000 ∧ AP S D N X YB c w7 wx O Dp V (mN c i t) (mD c i t) L L (some ⟨wr.heap.size, 0, none⟩) cc 0)
        case first =>
          have HBX := Lib.hid (Below.refl w11.heap.size w11).drew
          have HSZ := Lib.hid HP11.out.bel.size
          go_region_held3 (fun w' => (w'.cell? ⟨AB, 0, none⟩ = some (.slice AA an ac) ∧ w'.cell? ⟨AB, 1, none⟩ = some (.int .i64 (packN c))) ∧ CfgC w.heap.size c w')
            (first
              | (with_reducible exact ⟨HAB.out _ (HP13.out.step (new27_below hok)).bel, (HBW.out _ (HP13.out.step (new27_below hok)).bel).cfg⟩)
              | (with_reducible exact ⟨HAB.out _ (set27_below HP13.out.bel (Nat.le_refl _) (Nat.le_trans HSZ.out HLB.out) hi13 hok), (HBW.out _ (set27_below HP13.out.bel (Nat.le_refl _) (Nat.le_trans HSZ.out HLB.out) hi13 hok)).cfg⟩)
              | (with_reducible exact ⟨HAB.out _ (HP13.out).bel, (HBW.out _ (HP13.out).bel).cfg⟩)
              | (with_reducible exact ⟨HAB.out _ (HP13.out.step (below_alloc0 (Below.refl _ _) _)).bel, (HBW.out _ (HP13.out.step (below_alloc0 (Below.refl _ _) _)).bel).cfg⟩)
              | (with_reducible exact ⟨HAB.out _ (HP12.out).bel, (HBW.out _ (HP12.out).bel).cfg⟩)
              | (with_reducible exact ⟨HAB.out _ (HP12.out.step (below_alloc0 (Below.refl _ _) _)).bel, (HBW.out _ (HP12.out.step (below_alloc0 (Below.refl _ _) _)).bel).cfg⟩)
              | (with_reducible exact ⟨HAB.out _ (HD.out).bel, (HBW.out _ (HD.out).bel).cfg⟩)
              | (with_reducible exact ⟨HAB.out _ (HD.out.step (below_alloc0 (Below.refl _ _) _)).bel, (HBW.out _ (HD.out.step (below_alloc0 (Below.refl _ _) _)).bel).cfg⟩)
              | (with_reducible exact ⟨HAB.out _ (HP11.out.step (below_alloc0 (Below.refl _ _) _).drew).bel, (HBW.out _ (HP11.out.step (below_alloc0 (Below.refl _ _) _).drew).bel).cfg⟩)
              | go_keep)
            (first
              | (go_at_call 12; (with_reducible refine (Lay.model_any c _).mono ?_); rintro r w12 ⟨rfl, hb⟩; first
                  | (have HP12 := Lib.hid (HD.out.step hb); have HB12 := Lib.hid (below_step HBX.out HBX.out.size hb); clear hb)
                  | (have HBa := (below_alloc0 (Below.refl w11.heap.size w11) (.cells zero27 59)).drew; have HP12 := Lib.hid ((HP11.out.step HBa).step hb); have HB12 := Lib.hid (below_step HBa HBa.size hb); have hiC := is27_new.drew.below hb; have HLB := Lib.hid (Nat.le_refl w11.heap.size); clear hb HBa))
              | (go_at_call 18; (with_reducible refine (ranew_any (fun _ => False) c AA an ac (packN c) i t _ (HIA.out.below HP12.out.bel)).mono ?_); rintro r w13 ⟨v, rfl, hra, hb⟩; obtain ⟨V, rfl, hv⟩ := hra.cells; have HV := Lib.hid hv; have HRA := Lib.hid hra; have HP13 := Lib.hid (HP12.out.step hb); have HB13 := Lib.hid (below_step HB12.out HB12.out.size hb); have hok := hv.ok; have hsz := hv.size; first | (have hi13 := hiC.below hb; clear hiC hb) | (clear hb); clear hra hv)
              | (go_at_call 18; (with_reducible refine (ranew_any (fun _ => False) c AA an ac (packN c) i t _ (HIA.out.below (HP12.out.step (below_alloc0 (Below.refl _ _) _)).bel)).mono ?_); rintro r w13 ⟨v, rfl, hra, hb⟩; obtain ⟨V, rfl, hv⟩ := hra.cells; have HV := Lib.hid hv; have HRA := Lib.hid hra; have HP13 := Lib.hid ((HP12.out.step (below_alloc0 (Below.refl _ _) _)).step hb); have HB13 := Lib.hid (below_step (below_alloc0 HB12.out _) (below_alloc0 HB12.out _).size hb); have HLB := Lib.hid (show w11.heap.size ≤ w12.heap.size from HB12.out.size); have hok := hv.ok; have hsz := hv.size; have hi13 := is27_new.below hb; clear hb hra hv)
              | fail)
          · go_wp2_with (fail)
            go_meet
            exact HCL.out _ _ _ (below_step HB13.out HB13.out.size (new27_below HV.out.ok)) HB13.out.size (new27_row HV.out.ok) (HRA.out.none (uf_true (new27_below HV.out.ok))) HV.out
          all_goals go_wp2_with (fail)
          all_goals go_meet
          all_goals exact HCL.out _ _ _ (set27_below HB13.out (Nat.le_refl _) HLB.out hi13 hok) HLB.out (set27_upd hi13 hok).1 (HRA.out.none (UF.mono (UF.of_upd (set27_upd hi13 hok).2) (fun _ _ _ => trivial))) HV.out
        case rest =>
          clear HPO HROW HP10 HB10 HAK HDD HB11 HP11 HD HCL ab0 ab1 q0 q1 q2 q3 q4 q5 q6 q7 q8 q9 q10 q11
          obtain ⟨YB, V, cc, rfl, hcc, hap⟩ := hcut
          have HAP := Lib.hid hap; have HCC := Lib.hid hcc
          have HTW := Lib.hid (mN_twin c i t)
          have HLN : Hid (nL ≤ 10000) := Lib.hid (by rw [HNL.out]; exact HLE.out)
          obtain ⟨RB, hRB⟩ : ∃ RB, RB = wr.heap.size := ⟨_, rfl⟩
          have HRB := Lib.hid hRB
          rw [← HRB.out]
          clear hap hcc hRB
          go_wp2_with (fail)
          go_loopw [18, 21] (fun v i wr => ∃ (k : Nat) (m mx : Am) (O Dp : Nat → Prop) (V : Array Value) (L : List Int) (R : Option Addr) (cR : Nat) (cc : Int), k ≤ kn + 14 ∧ i = .int .i64 (k : Int) ∧ v = .slice R nL cR ∧ nL = L.length ∧ cc ≤ 1000 + 2 * k ∧ Twin m mx ∧ AP S D N X YB c w7 wr O Dp V m mx L L R cc k) (fun _ i _ => kn + 14 - (intOf i).toNat)
          case atStart => exact ⟨0, _, _, O, Dp, V, L, _, nL, cc, Nat.zero_le _, rfl, rfl, HNL.out, by have := HCC.out; omega, HTW.out, by rw [HRB.out]; exact HAP.out⟩
          case round =>
            clear HAP HNL HCC HTW HLE HRB
            obtain ⟨k, m, mx, O, Dp, V, L, R, cR, cc, hk, rfl, rfl, hl1, hc, htw, hs⟩ := hrel
            have H1 := Lib.hid hs; have HTW := Lib.hid htw
            obtain ⟨ab0, ab1⟩ := HAB.out _ hs.bel
            by_cases hlt : k < kn + 14
            · have e1 : decide ((k : Int) < (kn : Int) + 14) = true := by simp; omega
              obtain ⟨L2, m2, hz⟩ : ∃ L2 m2, astp (gOf c) L m = (L2, m2) := ⟨_, _, rfl⟩
              obtain ⟨mx2, hzx⟩ : ∃ mx2, astp (gOf c) L mx = (L2, mx2) := ⟨(astp (gOf c) L mx).2, by rw [← (show (astp (gOf c) L m).1 = L2 by rw [hz]), ← (htw.step (gOf c) L).1]⟩
              have htw2 : Twin m2 mx2 := by have := (htw.step (gOf c) L).2; rw [hz, hzx] at this; exact this
              have hc0 := hs.c0
              have hst := hs.stepM (by omega) (by omega)
              have hl2 := astp_len (gOf c) L m
              have hawx := (hs.awx.step hs.ww).1
              rw [hz] at hst hl2
              rw [hzx] at hawx
              dsimp only at hst hl2 hawx
              obtain ⟨c2, hc2⟩ : ∃ c2, c2 = acost m cc := ⟨_, rfl⟩
              obtain ⟨b, hb⟩ : ∃ b, b = decide (m2.pc = 0) := ⟨_, rfl⟩
              rw [← hc2, ← hb] at hst
              have hc3 : c2 ≤ cc + 1 := by rw [hc2]; unfold acost; split <;> omega
              have hpb : ((m2.pc : Int) == 0) = b := by rw [hb]; by_cases h : m2.pc = 0 <;> simp [h]
              have hcq : (c2 == cc + 1) = decide ((m.pc : Int) > 0) := by
                rw [hc2]; unfold acost
                by_cases h : m.pc = 0
                · simp [h]; omega
                · rw [if_neg h]; simp; omega
              have HST := Lib.hid hst; have HZZ := Lib.hid hzx; have HC := Lib.hid hc; have HC3 := Lib.hid hc3
              have HL1 := Lib.hid hl1; have HL2 : Hid (nL = L2.length) := Lib.hid (by omega)
              have HAX := Lib.hid hawx; have HT2 := Lib.hid htw2
              have HKK := Lib.hid hk; have hk9 : (k : Int) ≤ 1000000 := by omega
              have ew : IntKind.i64.wrap (cc + 1) = cc + 1 := IntWalk.i64_in _ (by omega)
              clear hs hst hz hzx hc hc2 hc3 hb hl1 hl2 hk hc0 hawx htw htw2
              go_wp2_with (first
                | (go_at_call 19; (with_reducible refine (AP.count H1.out).mono ?_); rintro r w8 ⟨rfl, hw⟩; cases hw)
                | (go_at_call 20; (with_reducible refine HST.out.mono ?_); rintro r w8 ⟨rfl, O', D', h⟩; have HS1 := Lib.hid h; obtain ⟨y0, y1⟩ := AP.cells2 h HTW.out; obtain ⟨ab0, ab1⟩ := HAB.out _ h.bel; clear h)
                | (go_at_call 21; (with_reducible refine (rastep_any HOK.out (t := (k : Int) + 1) (Frx S D YB O') AA an ac R nL cR L mx _ _ (HIA.out.below HS1.out.bel) HL1.out (Nat.le_trans HLN.out (by decide)) HS1.out.rd HS1.out.far HS1.out.ym.ra HS1.out.awx HS1.out.wwx (by omega)).mono ?_); rintro r w9 ⟨R2, cR2, v, rfl, hrd, hv, hb⟩; rw [HZZ.out] at hrd hv; dsimp only at hrd hv; obtain ⟨V2, rfl, hv2⟩ := hv.cells; have hok := hv2.ok; have hsz := hv2.size; have HV2 := Lib.hid hv2; have HRV := Lib.hid hv; have HS2 := Lib.hid (HS1.out.newR hb hrd HS1.out.ww); obtain ⟨hn0, hn1, hn2, hn3⟩ := HS2.out.newZ hv2; have HS3 := Lib.hid hn0; have HN3 := Lib.hid hn3; clear hrd hv hb hv2 hn0 hn1 hn2 hn3)
                | (refine wpList_load27 rfl (.tmp 20) rfl YB V rfl HS1.out.ym.bx HS1.out.ym.v ?_)
                | (refine wpList_load27 rfl (.tmp 26) rfl w9.heap.size V2 rfl (new27_row HV2.out.ok) HV2.out ?_)
                | (refine wpList_set27 rfl (.tmp 20) (.tmp 103) rfl YB V2 rfl rfl HN3.out HV2.out.ok ?_)
                | fail)
              have hs4 : AP S D N X YB c w7 (set27w (new27w w9 V2) YB V2) O' D' V2 m2 mx2 L2 L2 R2 c2 ((k : Int) + 1) := HS3.out.setY (HRV.out.newZ HV2.out.ok) HV2.out HAX.out
              obtain ⟨W4, hW4⟩ : ∃ W4, W4 = set27w (new27w w9 V2) YB V2 := ⟨_, rfl⟩
              rw [← hW4] at hs4 ⊢
              have HS5 := Lib.hid (hs4.below (Below.refl _ _).drew)
              clear hW4 ab0 ab1 y0 y1 HS2 HS3 HST HZZ H1 HN3 hok hsz e1
              obtain ⟨v0, v1⟩ := AP.cells2 hs4 HT2.out
              clear hs4
              have HLn : Hid (L2.length ≤ 1000000) := Lib.hid (by have := HL2.out; have := HLN.out; omega)
              go_region_held3 (fun w' => w'.cell? ⟨YB, 0, none⟩ = some (.int .i64 m2.pc) ∧ w'.cell? ⟨YB, 26, none⟩ = some (.bool m2.sp))
                (first | (with_reducible exact AP.cells2 HS8.out HT2.out) | (with_reducible exact AP.cells2 HS7.out HT2.out) | (with_reducible exact AP.cells2 HS6.out HT2.out) | (with_reducible exact AP.cells2 HS5.out HT2.out) | fail)
                (first
                  | (go_at_call 22; (with_reducible refine (AP.spilled HS5.out).mono ?_); rintro r w10 ⟨rfl, h⟩; have HS6 := Lib.hid h; clear h)
                  | (go_at_call 17; (with_reducible refine (AP.all HS6.out HLn.out).mono ?_); rintro r w12 ⟨rfl, hr, h⟩; have HS7 := Lib.hid h; have HRA := Lib.hid hr; clear h hr)
                  | (go_at_call 23; (with_reducible refine (same_lenA _ _ _ _ nL L2 _ HL2.out HRA.out HS7.out.rd.reads HLn.out).mono ?_); rintro r w13 ⟨rfl, hb⟩; have HS8 := Lib.hid (HS7.out.below hb); clear hb)
                  | (go_at_call 19; (with_reducible refine (AP.count HS8.out).mono ?_); rintro r w14 ⟨rfl, hw⟩; cases hw)
                  | fail)
              clear ew v0 v1 HS5 HS6 HS7 HRA
              by_cases hp : k < kn
              · obtain ⟨bp, offp, rfl, hbl, hcp⟩ := HRK.out (by have := HLK.out; omega)
                have hcj := hcp k (by have := HLK.out; omega)
                obtain ⟨g, hg⟩ : ∃ g, g = atP ks k := ⟨_, rfl⟩
                rw [← hg] at hcj
                have hgv : 0 ≤ g.v ∧ g.v ≤ 18446744073709551615 := by
                  have hl := HLK.out
                  have := HWK.out (atP ks k) (by unfold atP; rw [List.getD, List.getElem?_eq_getElem (by omega)]; exact List.getElem_mem (by omega))
                  rw [hg]; exact this
                have hpc : ∀ w', Below w7.heap.size w7 w' → (w'.cell? ⟨bp, offp + k * 2, none⟩ = some (.int .i64 g.p) ∧ w'.cell? ⟨bp, offp + k * 2 + 1, none⟩ = some (.int .u64 g.v)) := fun w' hb =>
                  ⟨((HBW.out _ hb).fin.cell (p := ⟨bp, offp + k * 2, none⟩) hbl).trans hcj.1, ((HBW.out _ hb).fin.cell (p := ⟨bp, offp + k * 2 + 1, none⟩) hbl).trans hcj.2⟩
                have HPC := Lib.hid hpc; have HGV := Lib.hid hgv
                have hp0 : (k : Int) < (kn : Int) := by omega
                have hk0 : (0 : Int) ≤ (k : Int) := by omega
                obtain ⟨p0, p1⟩ := hpc _ HS8.out.bel
                have hcc : c2 ≤ 900000000 := by have := HC3.out; have := HC.out; omega
                clear hcp hcj hg hgv hpc hp
                go_upto_region 30 with (fail)
                go_cut [146] (fun s wx => ∃ b6 : Bool, s = .bool b6 ∧ wx = w13)
                case first =>
                  skip
                  · by_cases hat : g.p > 5
                    · have d5 : decide (g.p > 5) = true := by simpa using hat
                      go_wp2_with (fail)
                      go_meet
                      exact ⟨_, rfl, rfl⟩
                    · have d5 : decide (g.p > 5) = false := by simpa using hat
                      go_wp2_with (fail)
                      go_meet
                      exact ⟨_, rfl, rfl⟩
                case rest =>
                obtain ⟨b6, rfl, hwx⟩ := hcut
                subst hwx
                go_upto_if 146 with (fail)
                go_cut [27] (fun s wx => ∃ q : Int, s = .int .i64 q ∧ AP S D N X YB c w7 wx O' D' V2 m2 mx2 L2 L2 R2 c2 ((k : Int) + 1))
                case first =>
                  skip
                  · cases b6
                    · go_wp2_with (fail)
                      go_meet
                      exact ⟨_, rfl, HS8.out⟩
                    · go_wp2_with (first
                        | (go_at_call 24; (with_reducible refine (Lay.top_m HOK.out N i HI.out _ HS8.out.mpw.1).mono ?_); rintro r w14 ⟨rfl, hb⟩; have HS9 := Lib.hid (HS8.out.below hb); clear hb)
                        | fail)
                      go_meet
                      exact ⟨_, rfl, HS9.out⟩
                case rest =>
                  clear HS8 p0 p1
                  obtain ⟨q, rfl, hsx⟩ := hcut
                  have HS8 := Lib.hid hsx
                  obtain ⟨p0, p1⟩ := HPC.out _ hsx.bel
                  clear hsx
                  go_wp2_with (first
                    | (go_at_call 25; (with_reducible refine (AP.poke HS8.out q g.v HGV.out hcc).mono ?_); rintro r w15 ⟨rfl, h⟩; have HS9 := Lib.hid h; obtain ⟨p2, p3⟩ := HPC.out _ h.bel; clear h)
                    | (go_at_call 26; (with_reducible refine (rput_any (Frx S D YB O') R2 nL cR2 L2 q g.v _ HL2.out (Nat.le_trans HLN.out (by decide)) HS9.out.rd HS9.out.far).mono ?_); rintro r w16 ⟨R3, cR3, rfl, hx, hb⟩; rw [ptv_eq] at hx; have HS10 := Lib.hid (HS9.out.newR hb hx HS9.out.ww); clear hx hb)
                    | fail)
                  go_roundw
                  case rel =>
                    have hkk := HKK.out; have hc := HC.out; have hc3 := HC3.out; have hl2 := HL2.out
                    have q1 : k + 1 ≤ kn + 14 := by omega
                    have q2 : c2 + 1 ≤ 1000 + 2 * ((k + 1 : Nat) : Int) := by omega
                    have q4 : nL = (ptq L2 q g.v).length := by rw [pt_len]; exact hl2
                    have q3 : AP S D N X YB c w7 w16 O' D' V2 m2 mx2 (ptq L2 q g.v) (ptq L2 q g.v) R3 (c2 + 1) ((k + 1 : Nat) : Int) := HS10.out
                    exact ⟨k + 1, m2, mx2, O', D', V2, ptq L2 q g.v, R3, cR3, c2 + 1, q1, by go_num, rfl, q4, q2, HT2.out, q3⟩
                  case measure => simp [intOf]; omega
              · have hp0 : ¬ (k : Int) < (kn : Int) := by omega
                clear hp
                go_wp2_with (fail)
                go_roundw
                case rel =>
                  have hkk := HKK.out; have hc := HC.out; have hc3 := HC3.out
                  have q1 : k + 1 ≤ kn + 14 := by omega
                  have q2 : c2 ≤ 1000 + 2 * ((k + 1 : Nat) : Int) := by omega
                  have q3 : AP S D N X YB c w7 w13 O' D' V2 m2 mx2 L2 L2 R2 c2 ((k + 1 : Nat) : Int) := HS8.out
                  exact ⟨k + 1, m2, mx2, O', D', V2, L2, R2, cR2, c2, q1, by go_num, rfl, HL2.out, q2, HT2.out, q3⟩
                case measure => simp [intOf]; omega
            · obtain rfl : k = kn + 14 := by omega
              have e1 : decide (((kn + 14 : Nat) : Int) < (kn : Int) + 14) = false := by simp
              have hq7 := (HBW.out _ hs.bel).cfg
              obtain ⟨q0, q1, q2, q3, q4, q5, q6, q7, q8, q9, q10, q11⟩ := hq7
              clear hs hlt hl1 hc hk htw
              go_wp2_with (first
                | (go_at_call 27; (with_reducible refine (ends_any2 HOK.out N i HI.out _ H1.out.mpw.1).mono ?_); rintro r w20 ⟨rfl, hb⟩; have HS2 := Lib.hid ((H1.out.below hb).below (below_alloc0 (Below.refl _ _) (.cells #[.int .i64 (plcc c 8 i 0), .int .i64 (plcc c 9 i 0), .int .i64 (plcc c 10 i 0), .int .i64 c.dq] 71))); clear hb ab0 ab1 q0 q1 q2 q3 q4 q5 q6 q7 q8 q9 q10 q11; obtain ⟨ab0, ab1⟩ := HAB.out _ HS2.out.bel; have q7 := (HBW.out _ HS2.out.bel).cfg.2.2.2.2.2.2.2.1)
                | (go_at_call 28; (with_reducible refine (rends_any c AA an ac (packN c) i c.dq _ (HIA.out.below HS2.out.bel)).mono ?_); rintro r w21 ⟨rfl, hb⟩; obtain ⟨z0, z1, z2, z3⟩ := box4 (below_alloc0 hb (.cells #[.int .i64 (plcc c 8 i 0), .int .i64 (plcc c 9 i 0), .int .i64 (plcc c 10 i 0), .int .i64 c.dq] 47)); have HS3 := Lib.hid ((HS2.out.below hb).below (below_alloc0 (Below.refl _ _) (.cells #[.int .i64 (plcc c 8 i 0), .int .i64 (plcc c 9 i 0), .int .i64 (plcc c 10 i 0), .int .i64 c.dq] 47))); clear hb ab0 ab1 q7)
                | (go_at_call 20; (with_reducible refine (step_niladd _ _).mono ?_); rintro r w22 ⟨rfl, hw⟩; cases hw)
                | (go_at_call 22; (with_reducible refine (spilled_nil _).mono ?_); rintro r w22 ⟨rfl, hb⟩; have HS4 := Lib.hid (HS3.out.below hb); clear hb)
                | (go_at_call 16; (with_reducible refine (new_nil i t HI.out _).mono ?_); rintro r w23 ⟨X2, rfl, hX2, hx2, hb⟩; have HS5 := Lib.hid (HS4.out.below hb); have c22 : w23.cell? ⟨X2, 2, none⟩ = some .nilFunc := cell_of_row _ _ _ _ _ _ hx2; clear hb hx2 hX2)
                | (go_at_call 20; (with_reducible refine (astep_off _ X2 _ c22).mono ?_); rintro r w24 ⟨rfl, hw⟩; cases hw)
                | fail)
              go_ret
              exact ⟨rfl, (HBW.out _ HS5.out.bel).fin⟩
end Go.Proofs.YtponbnbgiiepdaaGreat
