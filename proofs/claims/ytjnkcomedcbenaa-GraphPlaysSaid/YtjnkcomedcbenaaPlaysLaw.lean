/- The call of the law of what mutators do, step by step. -/
import Derived.Test.YtjnkcomedcbenaaPSide
namespace Go.Proofs.Ytjnkcomedcbenaa
open Go.RowKit
set_option linter.unusedVariables false

/-- At the head of the outer loop. -/
def AtP (w wr : World) (S D : Nat) (G : Gr) : Prop := ∃ T F A rn c B nn d mo, Sd w wr S D T F G A rn c B nn d mo G
/-- Behind an operation on both. -/
def BothP (w wx : World) (S D : Nat) (T F : Nat → Prop) (G : Gr) (E : Nat) (x : Op5) : Prop := ∃ A rn c B nn d mo, Rd w wx S D T F G A rn c B nn d mo G E x
theorem BothP.mk {w wx : World} {S D E : Nat} {T F : Nat → Prop} {G : Gr} {x : Op5} {A : Option Addr} {rn c : Nat} {B : Option Addr} {nn d : Nat} {mo : Int} (h : Rd w wx S D T F G A rn c B nn d mo G E x) : BothP w wx S D T F G E x := ⟨A, rn, c, B, nn, d, mo, h⟩

/-- A cell that was there. -/
structure Was1 (w : World) (b o : Nat) (v : Value) : Prop where
  lt : b < w.heap.size
  cell : w.cell? ⟨b, o, none⟩ = some v
theorem Was1.step {w w' : World} {b o : Nat} {v : Value} (h : Was1 w b o v) (hb : Below w.heap.size w w') : Was1 w' b o v := ⟨Nat.lt_of_lt_of_le h.lt hb.size, (hb.cell (p := ⟨b, o, none⟩) h.lt).trans h.cell⟩
theorem rootsL_at (g : Gr) (j : Nat) (h : j < g.roots.length) : rootsL g (j : Int) = row g.roots j := by
  unfold rootsL; rw [if_pos (isIn_iff.2 (by omega)), Int.toNat_natCast]
theorem slotsL_at (g : Gr) (j : Nat) (h : j < g.nodes.length) : slotsL g ((j : Int) + 1) = row g.nodes j := by
  unfold slotsL; rw [if_pos (isIn_iff.2 (by omega)), show (j : Int) + 1 - 1 = (j : Int) by omega, Int.toNat_natCast]
theorem Sd.start {w w2 w3 : World} {S : Nat} {T F : Nat → Prop} {G : Gr} {A : Option Addr} {rn c : Nat} {B : Option Addr} {nn d : Nat} {mo : Int} (h : GOwn w w2 S T F G) (hb : Below w2.heap.size w2 w3) (hg : GM (w2.heap.size ≤ ·) w3 A rn c B nn d mo G) :
    AtP w (w3.alloc (.cells #[.slice A rn c, .slice B nn d, .int .i64 mo] 28)) S w3.heap.size G := by
  refine ⟨T, F, A, rn, c, B, nn, d, mo, (h.step hb).step (below_alloc0 (Below.refl _ _) _), (hg.to (Q := Offs F w3.heap.size) fun b hlt hb' => ⟨fun hf => ?_, by omega⟩).below (below_alloc0 (Below.refl _ _) _), (First.start w3 _).at0, fun ht => ?_, (h.step hb).bel.size⟩
  · have := gp_lt h.gp b (gp_sub h.gp b hf); omega
  · have := gp_lt h.gp _ ht; have := hb.size; omega
set_option maxHeartbeats 16000000 in
set_option maxRecDepth 100000 in
theorem walkPlays (mu mo0 sl : Int) (A : Option Addr) (n capA : Nat) (l : List Op5) (w : World) (ha : IsOps w A n capA l) :
    Calls Try.prog 3 #[.int .i64 mu, .int .i64 mo0, .int .i64 sl, .slice A n capA] w fun e w' => e = .returned (.bool true) ∧ Below w.heap.size w w' := by
  obtain ⟨hra, hal, _, _, hwa⟩ := ha
  by_cases h60 : 60 < n
  · have h60' : (60 : Int) < (n : Int) := by omega
    clear hra hal hwa
    go_enter Try.func3, Try.ntmps3
    go_wp2_with (first
      | (go_at_call 10; (with_reducible refine (awake_any _).mono ?_); rintro r w1 ⟨rfl, hb⟩)
      | fail)
    go_ret
    exact ⟨rfl, hb⟩
  have h60' : ¬ (60 : Int) < (n : Int) := by omega
  by_cases h1000 : 1000 < mo0
  · clear hra hal hwa
    go_enter Try.func3, Try.ntmps3
    go_wp2_with (first
      | (go_at_call 10; (with_reducible refine (awake_any _).mono ?_); rintro r w1 ⟨rfl, hb⟩)
      | fail)
    go_ret
    exact ⟨rfl, hb⟩
  have hn60 : n ≤ 60 := by omega
  have HA := Lib.hid hra; have HAL := Lib.hid hal; have HMO := Lib.hid (show mo0 ≤ 1000 by omega)
  clear hra hal hwa h60
  obtain ⟨mx, hmx⟩ : ∃ mx, mx = max mo0 0 := ⟨_, rfl⟩
  have e2 : imax mo0 0 = mx := by unfold imax; split <;> omega
  have HM0 : Hid (0 ≤ mx) := Lib.hid (by omega)
  have HM1 : Hid (mx ≤ 1000) := Lib.hid (by omega)
  obtain ⟨G0, hG0⟩ : ∃ G0, G0 = gNew mu mx sl := ⟨_, rfl⟩
  have HG0 := Lib.hid hG0; have HMX := Lib.hid hmx
  have HOK : Hid (Ok G0) := Lib.hid (by rw [hG0]; exact ok_new mu mx sl HM0.out)
  have HGM : Hid (G0.most ≤ 1000) := Lib.hid (by rw [hG0]; exact HM1.out)
  have HN0 : Hid (G0.nodes.length ≤ 1) := Lib.hid (by rw [hG0]; simp only [gNew]; split <;> simp)
  clear hG0 hmx
  go_enter Try.func3, Try.ntmps3
  go_wp2_with (first
    | (go_at_call 10; (with_reducible refine (awake_any _).mono ?_); rintro r w1 ⟨rfl, hb⟩; have HBW := Lib.hid hb; clear hb)
    | (go_at_call 11; (with_reducible refine (new_p mu mo0 sl _ HMO.out).mono ?_); rintro r w2 ⟨S, T, F, rfl, hg, hb2, hT2⟩; rw [← HMX.out, ← HG0.out] at hg; have HK : Hid (GOwn w w2 S T F G0) := Lib.hid (GOwn.of_new HBW.out hg hb2 hT2 HOK.out HGM.out); clear hg hb2 hT2)
    | (go_at_call 12; (with_reducible refine (rnew_any mu mx sl _ HM0.out HM1.out).mono ?_); rintro r w3 ⟨A1, rn1, c1, B1, nn1, d1, m1, rfl, hgm, hb3⟩; rw [← HG0.out] at hgm; have HGG := Lib.hid hgm; have HB3 := Lib.hid hb3; clear hgm hb3)
    | fail)
  have HS0 := Lib.hid (Sd.start HK.out HB3.out HGG.out)
  obtain ⟨D, hD⟩ : ∃ D, D = w3.heap.size := ⟨_, rfl⟩
  rw [← hD] at HS0
  have HD := Lib.hid hD
  go_loopg [13] n (fun k s13 wr => ∃ i : Nat, i + k = n ∧ s13 = .int .i64 (i : Int) ∧ AtP w wr S w3.heap.size (opsTo G0 l i))
  case atStart => exact ⟨0, by omega, rfl, by rw [← HD.out]; exact HS0.out⟩
  case round =>
    rw [← hD]
    clear HS0 HGG HB3 HK HBW hD
    obtain ⟨i, hik, rfl, hat⟩ := hrel
    rw [← HD.out] at hat
    rename World => W
    obtain ⟨T1, F1, A1, rn1, c1, B1, nn1, d1, m1, hsd⟩ := hat
    cases gk with
    | zero =>
      obtain rfl : i = n := by omega
      obtain ⟨G, hG⟩ : ∃ G, G = opsTo G0 l i := ⟨_, rfl⟩
      rw [← hG] at hsd
      have hno := opsTo_near G0 l i
      rw [← hG] at hno
      have HNN : Hid (G.nodes.length ≤ 1000) := Lib.hid (by have := HN0.out; have := hno.1; omega)
      have E1 : Hid (rootsL G (-1) = []) := Lib.hid (by unfold rootsL; rw [if_neg (by rw [isIn_iff]; omega)])
      have E2 : Hid (rootsL G 17 = []) := Lib.hid (by have := hsd.own.ok.many; unfold rootsL; rw [if_neg (by rw [isIn_iff]; omega)])
      have E3 : Hid (slotsL G 0 = []) := Lib.hid (by unfold slotsL; rw [if_neg (by rw [isIn_iff]; omega)])
      have BD : Bd 0 := ⟨by decide, by decide⟩
      have HS := Lib.hid hsd
      have hii : ¬ (i : Int) < (i : Int) := by omega
      clear hsd hG hno hik
      go_wp2_with (first
        | (go_at_call 23; (with_reducible refine (roots_q (S := S) HS.out.own HNN.out (-1)).mono ?_); rintro r w4 ⟨v4, rfl, hv, hb⟩; rw [E1.out] at hv; obtain ⟨A4, c4, rfl, -⟩ := hv; have HS := Lib.hid (HS.out.step hb); clear hb)
        | (go_at_call 23; (with_reducible refine (roots_q (S := S) HS.out.own HNN.out 17).mono ?_); rintro r w5 ⟨v5, rfl, hv, hb⟩; rw [E2.out] at hv; obtain ⟨A5, c5, rfl, -⟩ := hv; have HS := Lib.hid (HS.out.step hb); clear hb)
        | (go_at_call 24; (with_reducible refine (slots_q (S := S) HS.out.own HNN.out 0 BD).mono ?_); rintro r w6 ⟨v6, rfl, hv, hb⟩; rw [E3.out] at hv; obtain ⟨A6, c6, rfl, -⟩ := hv; have HS := Lib.hid (HS.out.step hb); clear hb)
        | (go_at_call 19; (with_reducible refine (nodes_nil _).mono ?_); rintro r w7 ⟨rfl, rfl⟩)
        | (go_at_call 21; (with_reducible refine (reach_nil _).mono ?_); rintro r w8 ⟨rfl, rfl⟩)
        | fail)
      go_ret
      exact ⟨rfl, HS.out.own.bel⟩
    | succ k2 =>
      have hlt : i < n := by omega
      obtain ⟨b, off, hA, e0, e1, e2', e3, e4⟩ := (HA.out.below hsd.own.bel).at' i (by rw [HAL.out]; exact hlt)
      subst hA
      obtain ⟨x, hx⟩ : ∃ x, x = atO l i := ⟨_, rfl⟩
      rw [← hx] at e0 e1 e2' e3 e4
      obtain ⟨G, hG⟩ : ∃ G, G = opsTo G0 l i := ⟨_, rfl⟩
      have hsucc : (gPlay G x).1 = opsTo G0 l (i + 1) := by rw [hx, hG]; rfl
      rw [← hG] at hsd
      obtain ⟨g', y, z, hp⟩ : ∃ g' y z, gPlay G x = (g', y, z) := ⟨_, _, _, rfl⟩
      rw [hp] at hsucc
      have hno := opsTo_near G0 l i
      rw [← hG] at hno
      have hno2 := opsTo_near G0 l (i + 1)
      rw [← hsucc] at hno2
      have HP := Lib.hid hp; have HSC : Hid (g' = opsTo G0 l (i + 1)) := Lib.hid hsucc
      have HNN : Hid (G.nodes.length ≤ 1000) := Lib.hid (by have := HN0.out; have := hno.1; omega)
      have HN2 : Hid (g'.nodes.length ≤ 1000) := Lib.hid (by have := HN0.out; have := hno2.1; simp only at this; omega)
      have HNB : Hid (nn1 ≤ 1000) := Lib.hid (by have := hsd.gm.rb.1; have := HNN.out; omega)
      have HS := Lib.hid hsd
      have i0 : (0 : Int) ≤ (i : Int) := by omega
      have i1 : (i : Int) < (n : Int) := by omega
      have i2 : (i : Int) ≤ 60 := by omega
      have HIK := Lib.hid hik
      clear hx hG hsucc hp hsd hno hno2 hlt hik
      obtain ⟨xd, xm, xa, xi, xb⟩ := x
      have HR0 := Lib.hid (Rd.start HS.out ⟨xd, xm, xa, xi, xb⟩)
      go_upto_block 2 with (first
        | (go_at_call 13; (with_reducible refine (play_q HR0.out.sd.own HNN.out ⟨xd, xm, xa, xi, xb⟩ HP.out).mono ?_); rintro r w4 ⟨T2, F2, rfl, hg, hu, hF, hT⟩; have HR := Lib.hid (HR0.out.op hg hu hF hT); clear hg hu hF hT e0 e1 e2' e3 e4 HR0; obtain ⟨k0, k1, k2', k3, k4⟩ := HR.out.ecells; obtain ⟨m0, m1', m2⟩ := HR.out.sd.dcells)
        | fail)
      have HOKG := Lib.hid HS.out.own.ok; have HMG := Lib.hid HS.out.own.mo
      go_cut [17, 18] (fun s17 s18 wx => s17 = .int .i64 y ∧ s18 = .bool z ∧ BothP w wx S D T2 F2 g' W.heap.size ⟨xd, xm, xa, xi, xb⟩)
      case first =>
        by_cases d0 : xd = 0
        · subst d0
          have HE0 : Hid (gAlloc G xm xi = (g', y, z)) := Lib.hid HP.out
          go_wp2_with (first
            | (go_at_call 14; (with_reducible refine (ralloc_x HR.out.sd.gm HOKG.out HMG.out HNB.out HR.out.sd.new' xm xi HE0.out).mono ?_); rintro r w5 ⟨A2, rn2, c2, B2, nn2, dd2, mm2, rfl, hgm, hb⟩; have HR3 := Lib.hid (HR.out.ref hb hgm); have hs5 := HR.out.sd.step hb; obtain ⟨p0, p1, p2⟩ := hs5.dcells; have f0 := hs5.dfro 0; have f1 := hs5.dfro 1; have f2 := hs5.dfro 2; clear hgm hb hs5)
            | fail)
          go_meet
          exact ⟨rfl, rfl, BothP.mk HR3.out⟩
        by_cases d1 : xd = 1
        · subst d1
          have HE0 : Hid (gRead G xm xa xi = (g', y, z)) := Lib.hid HP.out
          clear d0
          go_wp2_with (first
            | (go_at_call 15; (with_reducible refine (rread_x HR.out.sd.gm HOKG.out HMG.out HNB.out HR.out.sd.new' xm xa xi HE0.out).mono ?_); rintro r w5 ⟨A2, rn2, c2, B2, nn2, dd2, mm2, rfl, hgm, hb⟩; have HR3 := Lib.hid (HR.out.ref hb hgm); have hs5 := HR.out.sd.step hb; obtain ⟨p0, p1, p2⟩ := hs5.dcells; have f0 := hs5.dfro 0; have f1 := hs5.dfro 1; have f2 := hs5.dfro 2; clear hgm hb hs5)
            | fail)
          go_meet
          exact ⟨rfl, rfl, BothP.mk HR3.out⟩
        have t0 : (xd == 0) = false := by simpa using d0
        have t1 : (xd == 1) = false := by simpa using d1
        by_cases d2 : xd = 2
        · subst d2
          have he : gPlay G ⟨2, xm, xa, xi, xb⟩ = ((gWrite G xm xa xi xb).1, 0, (gWrite G xm xa xi xb).2) := rfl
          rw [HP.out] at he
          have HE0 : Hid (gWrite G xm xa xi xb = (g', z)) := Lib.hid (by injection he with a1 a2; injection a2 with a2 a3; rw [a1, a3])
          obtain rfl : y = 0 := by injection he with a1 a2; injection a2 with a2 a3
          clear he d0 d1
          go_wp2_with (first
            | (go_at_call 16; (with_reducible refine (rwrite_x HR.out.sd.gm HOKG.out HNB.out HR.out.sd.new' xm xa xi xb HE0.out).mono ?_); rintro r w5 ⟨A2, rn2, c2, B2, nn2, dd2, mm2, rfl, hgm, hb⟩; have HR3 := Lib.hid (HR.out.ref hb hgm); have hs5 := HR.out.sd.step hb; obtain ⟨p0, p1, p2⟩ := hs5.dcells; have f0 := hs5.dfro 0; have f1 := hs5.dfro 1; have f2 := hs5.dfro 2; clear hgm hb hs5)
            | fail)
          go_meet
          exact ⟨rfl, rfl, BothP.mk HR3.out⟩
        have t2 : (xd == 2) = false := by simpa using d2
        by_cases d3 : xd = 3
        · subst d3
          have he : gPlay G ⟨3, xm, xa, xi, xb⟩ = ((gPop G xm).1, 0, (gPop G xm).2) := rfl
          rw [HP.out] at he
          have HE0 : Hid (gPop G xm = (g', z)) := Lib.hid (by injection he with a1 a2; injection a2 with a2 a3; rw [a1, a3])
          obtain rfl : y = 0 := by injection he with a1 a2; injection a2 with a2 a3
          clear he d0 d1 d2
          go_wp2_with (first
            | (go_at_call 17; (with_reducible refine (rpop_x HR.out.sd.gm HOKG.out HMG.out HR.out.sd.new' xm HE0.out).mono ?_); rintro r w5 ⟨A2, rn2, c2, B2, nn2, dd2, mm2, rfl, hgm, hb⟩; have HR3 := Lib.hid (HR.out.ref hb hgm); have hs5 := HR.out.sd.step hb; obtain ⟨p0, p1, p2⟩ := hs5.dcells; have f0 := hs5.dfro 0; have f1 := hs5.dfro 1; have f2 := hs5.dfro 2; clear hgm hb hs5)
            | fail)
          go_meet
          exact ⟨rfl, rfl, BothP.mk HR3.out⟩
        have t3 : (xd == 3) = false := by simpa using d3
        · have he : gPlay G ⟨xd, xm, xa, xi, xb⟩ = ((gDup G xm xa).1, 0, (gDup G xm xa).2) := by unfold gPlay; rw [if_neg d0, if_neg d1, if_neg d2, if_neg d3]
          rw [HP.out] at he
          have HE0 : Hid (gDup G xm xa = (g', z)) := Lib.hid (by injection he with a1 a2; injection a2 with a2 a3; rw [a1, a3])
          obtain rfl : y = 0 := by injection he with a1 a2; injection a2 with a2 a3
          clear he d0 d1 d2 d3
          go_wp2_with (first
            | (go_at_call 18; (with_reducible refine (rdup_x HR.out.sd.gm HOKG.out HMG.out HR.out.sd.new' xm xa HE0.out).mono ?_); rintro r w5 ⟨A2, rn2, c2, B2, nn2, dd2, mm2, rfl, hgm, hb⟩; have HR3 := Lib.hid (HR.out.ref hb hgm); have hs5 := HR.out.sd.step hb; obtain ⟨p0, p1, p2⟩ := hs5.dcells; have f0 := hs5.dfro 0; have f1 := hs5.dfro 1; have f2 := hs5.dfro 2; clear hgm hb hs5)
            | fail)
          go_meet
          exact ⟨rfl, rfl, BothP.mk HR3.out⟩
      case rest =>
        obtain ⟨rfl, rfl, hboth⟩ := hcut
        obtain ⟨A2, rn2, c2, B2, nn2, dd2, mm2, hr⟩ := hboth
        have HNE : Hid (g'.nodes.length = nn2) := Lib.hid hr.sd.gm.rb.1.symm
        have HRE : Hid (rn2 = g'.roots.length) := Lib.hid hr.sd.gm.ra.1
        have HOK2 := Lib.hid hr.sd.own.ok; have HMO2 := Lib.hid hr.sd.own.mo
        have HRL : Hid ((reachL g').length ≤ 1000000) := Lib.hid (by have := reachL_le g'; have := HN2.out; omega)
        have HN3 : Hid (nn2 ≤ 1000) := Lib.hid (by have := HNE.out; have := HN2.out; omega)
        have hec := hr.ecells
        have HR2 := Lib.hid hr
        clear hr HR k0 k1 k2' k3 k4 m0 m1' m2
        obtain ⟨k0, k1, k2', k3, k4⟩ := hec
        go_upto_region 27 with (first
          | (go_at_call 13; (with_reducible refine (play_nil ⟨xd, xm, xa, xi, xb⟩ _).mono ?_); rintro r w6 ⟨rfl, hb⟩; have HR := Lib.hid (HR2.out.step hb); clear hb k0 k1 k2' k3 k4 HR2)
          | fail)
        have hdc := HR.out.sd.dcells
        go_cut [155] (fun s155 wx => s155 = .bool false ∧ BothP w wx S D T2 F2 g' W.heap.size ⟨xd, xm, xa, xi, xb⟩)
        case first =>
          go_region_held3 (fun w' => w'.cell? ⟨D, 0, none⟩ = some (.slice A2 rn2 c2) ∧ w'.cell? ⟨D, 1, none⟩ = some (.slice B2 nn2 dd2) ∧ w'.cell? ⟨D, 2, none⟩ = some (.int .i64 mm2))
            (first | (with_reducible exact HR.out.sd.dcells) | (with_reducible exact (HR.out.step (Below.refl _ _).drew).sd.dcells) | fail)
            (first
              | (go_at_call 19; (with_reducible refine (nodes_q (S := S) (HR.out.step (Below.refl _ _).drew).sd.own HN2.out).mono ?_); rintro r w7 ⟨rfl, hb⟩; rw [HNE.out]; have HR := Lib.hid ((HR.out.step (Below.refl _ _).drew).step hb); clear hb)
              | (go_at_call 21; (with_reducible refine (reach_q (S := S) HR.out.sd.own HN2.out).mono ?_); rintro r w8 ⟨v8, rfl, hv, hb⟩; have HR := Lib.hid (HR.out.step hb); have HV8 := Lib.hid hv; clear hb hv)
              | (go_at_call 22; (with_reducible refine (rreach_any A2 rn2 c2 B2 nn2 dd2 mm2 g' _ HR.out.sd.gm HOK2.out HMO2.out HN3.out).mono ?_); rintro r w9 ⟨v9, rfl, hv, hb⟩; have HR := Lib.hid (HR.out.step hb); have HV9 := Lib.hid hv; have HV8 := Lib.hid (HV8.out.kept (Kept.below hb)); clear hb hv)
              | (go_at_call 20; (with_reducible refine (same_yes v8 v9 (reachL g') _ HV8.out HV9.out HRL.out).mono ?_); rintro r w10 ⟨rfl, hb⟩; have HR := Lib.hid (HR.out.step hb); clear hb)
              | fail)
          go_wp2_with (fail)
          go_meet
          exact ⟨rfl, BothP.mk HR.out⟩
        case rest =>
          obtain ⟨rfl, hboth⟩ := hcut
          obtain ⟨A3, rn3, c3, B3, nn3, dd3, mm3, hr⟩ := hboth
          have HRE3 : Hid (rn3 = g'.roots.length) := Lib.hid hr.sd.gm.ra.1
          have HNE3 : Hid (nn3 = g'.nodes.length) := Lib.hid hr.sd.gm.rb.1
          have HSZ : Hid (∀ v, v < g'.nodes.length → (row g'.nodes v).length ≤ 64) := Lib.hid HOK2.out.sz
          have hrn16 : rn3 ≤ 16 := by have := HRE3.out; have := HOK2.out.many; omega
          have hnn3 : nn3 ≤ 1000 := by have := HNE3.out; have := HN2.out; omega
          have HR3 := Lib.hid hr
          clear hr HR hdc HRE HNE HN3
          go_wp2_with (fail)
          go_loopg [21] rn3 (fun k s21 wy => ∃ j : Nat, j + k = rn3 ∧ s21 = .int .i64 (j : Int) ∧ Rd w wy S D T2 F2 g' A3 rn3 c3 B3 nn3 dd3 mm3 g' W.heap.size ⟨xd, xm, xa, xi, xb⟩)
          case atStart => exact ⟨0, by omega, rfl, HR3.out⟩
          case round =>
            clear HR3
            obtain ⟨j, hjk, rfl, hr⟩ := hrel
            rename World => Wj
            obtain ⟨q0, q1, q2⟩ := hr.sd.dcells
            cases gk with
            | succ k3 =>
              obtain ⟨b5, o5, B5, d5, rfl, hlt5, hc5, hrd5, hd5⟩ := hr.sd.gm.ra.get j (by omega)
              have HW5 : Hid (Was1 Wj b5 (o5 + j) _) := Lib.hid ⟨hlt5, hc5⟩
              have HV5 : Hid (RowV (Offs F2 D) Wj (.slice B5 (row g'.roots j).length d5) (row g'.roots j)) := Lib.hid ⟨B5, d5, rfl, hrd5, hd5⟩
              have HRO : Hid (rootsL g' (j : Int) = row g'.roots j) := Lib.hid (rootsL_at g' j (by have := HRE3.out; omega))
              have HRB : Hid ((row g'.roots j).length ≤ 1000000) := Lib.hid (by have := HOK2.out.len j (by have := HRE3.out; omega); have := HMO2.out; omega)
              obtain ⟨n5, hn5⟩ : ∃ n5, n5 = (row g'.roots j).length := ⟨_, rfl⟩
              rw [← hn5] at HW5 HV5 hc5
              have HR := Lib.hid hr
              have j0 : (0 : Int) ≤ (j : Int) := by omega
              have j1 : (j : Int) < (rn3 : Int) := by omega
              have j2 : (j : Int) ≤ 16 := by omega
              have HJK := Lib.hid hjk
              clear hr hrd5 hd5 hlt5 hn5 hjk
              go_wp2_with (fail)
              go_region_held3 (fun w' => w'.cell? ⟨D, 0, none⟩ = some (.slice (some ⟨b5, o5, none⟩) rn3 c3) ∧ w'.cell? ⟨b5, o5 + j, none⟩ = some (.slice B5 n5 d5))
                (first | (with_reducible exact ⟨HR.out.sd.dcells.1, HW5.out.cell⟩) | (with_reducible exact ⟨(HR.out.step (Below.refl _ _).drew).sd.dcells.1, (HW5.out.step (Below.refl _ _).drew).cell⟩) | fail)
                (first
                  | (go_at_call 23; (with_reducible refine (roots_q (S := S) (HR.out.step (Below.refl _ _).drew).sd.own HN2.out (j : Int)).mono ?_); rintro r w7 ⟨v7, rfl, hv, hb⟩; rw [HRO.out] at hv; have HR := Lib.hid ((HR.out.step (Below.refl _ _).drew).step hb); have HW5 := Lib.hid ((HW5.out.step (Below.refl _ _).drew).step hb); have HV5 := Lib.hid ((HV5.out.kept (Kept.below (Below.refl _ _).drew)).kept (Kept.below hb)); have HV7 := Lib.hid hv; clear hb hv)
                  | (go_at_call 20; (with_reducible refine (same_yes v7 (.slice B5 n5 d5) (row g'.roots j) _ HV7.out HV5.out HRB.out).mono ?_); rintro r w10 ⟨rfl, hb⟩; have HW5 := Lib.hid (HW5.out.step hb); have HR := Lib.hid (HR.out.step hb); clear hb)
                  | fail)
              go_wp2_with (fail)
              go_roundg k3
              case measure => omega
              case rel => exact ⟨j + 1, by have := HJK.out; omega, by go_num, HR.out⟩
            | zero =>
              obtain rfl : j = rn3 := by omega
              have HR := Lib.hid hr
              have jj : ¬ (j : Int) < (j : Int) := by omega
              clear hr hjk
              go_wp2_with (fail)
              go_loopg [22] nn3 (fun k s22 wy => ∃ q : Nat, q + k = nn3 ∧ s22 = .int .i64 (q : Int) ∧ Rd w wy S D T2 F2 g' A3 j c3 B3 nn3 dd3 mm3 g' W.heap.size ⟨xd, xm, xa, xi, xb⟩)
              case atStart => exact ⟨0, by omega, rfl, HR.out⟩
              case round =>
                clear HR q0 q1 q2
                obtain ⟨q, hqk, rfl, hr⟩ := hrel
                rename World => Wq
                obtain ⟨q0, q1, q2⟩ := hr.sd.dcells
                cases gk with
                | succ k4 =>
                  obtain ⟨b5, o5, B5, d5, rfl, hlt5, hc5, hrd5, hd5⟩ := hr.sd.gm.rb.get q (by omega)
                  have HW5 : Hid (Was1 Wq b5 (o5 + q) _) := Lib.hid ⟨hlt5, hc5⟩
                  have HV5 : Hid (RowV (Offs F2 D) Wq (.slice B5 (row g'.nodes q).length d5) (row g'.nodes q)) := Lib.hid ⟨B5, d5, rfl, hrd5, hd5⟩
                  have HRO : Hid (slotsL g' ((q : Int) + 1) = row g'.nodes q) := Lib.hid (slotsL_at g' q (by have := HNE3.out; omega))
                  have HRB : Hid ((row g'.nodes q).length ≤ 1000000) := Lib.hid (by have := HSZ.out q (by have := HNE3.out; omega); omega)
                  obtain ⟨n5, hn5⟩ : ∃ n5, n5 = (row g'.nodes q).length := ⟨_, rfl⟩
                  rw [← hn5] at HW5 HV5 hc5
                  have HR := Lib.hid hr
                  have j0 : (0 : Int) ≤ (q : Int) := by omega
                  have j1 : (q : Int) < (nn3 : Int) := by omega
                  have j2 : (q : Int) ≤ 1000 := by omega
                  have BD : Bd ((q : Int) + 1) := ⟨by omega, by omega⟩
                  have hsum : IntKind.i64.wrap ((q : Int) + 1) = (q : Int) + 1 := IntWalk.i64_in _ (by omega)
                  have HJK := Lib.hid hqk
                  clear hr hrd5 hd5 hlt5 hn5 hqk
                  go_wp2_with (fail)
                  go_region_held3 (fun w' => w'.cell? ⟨D, 1, none⟩ = some (.slice (some ⟨b5, o5, none⟩) nn3 dd3) ∧ w'.cell? ⟨b5, o5 + q, none⟩ = some (.slice B5 n5 d5))
                    (first | (with_reducible exact ⟨HR.out.sd.dcells.2.1, HW5.out.cell⟩) | (with_reducible exact ⟨(HR.out.step (Below.refl _ _).drew).sd.dcells.2.1, (HW5.out.step (Below.refl _ _).drew).cell⟩) | fail)
                    (first
                      | (go_at_call 24; (with_reducible refine (slots_q (S := S) (HR.out.step (Below.refl _ _).drew).sd.own HN2.out ((q : Int) + 1) BD).mono ?_); rintro r w7 ⟨v7, rfl, hv, hb⟩; rw [HRO.out] at hv; have HR := Lib.hid ((HR.out.step (Below.refl _ _).drew).step hb); have HW5 := Lib.hid ((HW5.out.step (Below.refl _ _).drew).step hb); have HV5 := Lib.hid ((HV5.out.kept (Kept.below (Below.refl _ _).drew)).kept (Kept.below hb)); have HV7 := Lib.hid hv; clear hb hv)
                      | (go_at_call 20; (with_reducible refine (same_yes v7 (.slice B5 n5 d5) (row g'.nodes q) _ HV7.out HV5.out HRB.out).mono ?_); rintro r w10 ⟨rfl, hb⟩; have HW5 := Lib.hid (HW5.out.step hb); have HR := Lib.hid (HR.out.step hb); clear hb)
                      | fail)
                  clear hsum
                  go_wp2_with (fail)
                  go_roundg k4
                  case measure => omega
                  case rel => exact ⟨q + 1, by have := HJK.out; omega, by go_num, HR.out⟩
                | zero =>
                  obtain rfl : q = nn3 := by omega
                  have HR := Lib.hid hr
                  have qq : ¬ (q : Int) < (q : Int) := by omega
                  clear hr hqk
                  go_wp2_with (fail)
                  have hDD := HD.out
                  subst hDD
                  go_roundg k2
                  case measure => omega
                  case rel => exact ⟨i + 1, by have := HIK.out; omega, by go_num, by rw [← HSC.out]; exact ⟨T2, F2, A3, j, c3, B3, q, dd3, mm3, HR.out.sd⟩⟩
end Go.Proofs.Ytjnkcomedcbenaa
