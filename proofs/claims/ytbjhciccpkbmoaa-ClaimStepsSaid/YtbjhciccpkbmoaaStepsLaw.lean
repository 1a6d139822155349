/- The law of a machine's steps, whatever others change, walked. -/
import Derived.Test.YtbjhciccpkbmoaaFourLaw
namespace Go.Proofs.Ytbjhciccpkbmoaa
open Go.RowKit
set_option linter.unusedVariables false
set_option linter.unusedSimpArgs false
open Lay (plcc plc shOf packN nodesN OkC Cfg Norm firstV Rep lenL things)

theorem same_len (A A' : Option Addr) (cap cap' m : Nat) (l : List Int) (w : World) (hm : m = l.length) (h : Reads .u64 w A l) (h' : Reads .u64 w A' l) (hb : l.length ≤ 1000000) :
    Calls Try.prog 25 #[.slice A l.length cap, .slice A' m cap'] w fun e w' => e = .returned (.bool true) ∧ Below w.heap.size w w' := same_yes A A' cap cap' _ m l w rfl hm h h' hb
/-- The map's box. -/
theorem abox {w6 : World} {A : Option Addr} {n cap : Nat} {P : Int} {w' : World} (hb : Below (w6.heap.size + 1) (w6.alloc (.cells #[.slice A n cap, .int .i64 P] 35)) w') :
    w'.cell? ⟨w6.heap.size, 0, none⟩ = some (.slice A n cap) ∧ w'.cell? ⟨w6.heap.size, 1, none⟩ = some (.int .i64 P) := by
  have h : (w6.alloc (.cells #[.slice A n cap, .int .i64 P] 35)).heap[w6.heap.size]? = some (.cells #[.slice A n cap, .int .i64 P] 35 (0, 0)) := Array.getElem?_push_size
  have h2 := (hb.block _ (by omega)).trans h
  constructor <;> simp [World.cell?, h2]
theorem cstp_len (L : List Int) (m : Cm) : (cstp 1 L m).1.length = L.length := by
  unfold cstp adc
  repeat' split
  all_goals (first | rfl | exact pc_len ..)
/-- All is made. -/
theorem steps_start {w7 w9 w10 w11 w12 : World} {S D N X : Nat} {c : Cfg} {V cy : Int} {L : List Int} (hb9 : Below w7.heap.size w7 w9) (hs : St w9 S D L 0) (lo : w7.heap.size ≤ S ∧ w7.heap.size ≤ D) (hr : Row w10 w9.heap.size L) (hb10 : Below w9.heap.size w9 w10)
    (hn : Nb w10 w11 X (plcc c 1 0 0) (plcc c 16 V 0) cy (fnc 49 X)) (hb12 : Below w11.heap.size w11 w12) (hm : Lay.IsMap w7 N c) (ok : OkC c) :
    CP S D N X w12.heap.size c V w7 (w12.alloc (.cells #[.int .i64 1, .int .i64 V, .int .u64 cy, .int .u64 0, .bool false] 46)) (cNew (plcc c 16 V 0) cy) (cNew (plcc c 16 V 0) cy) L L (some ⟨w9.heap.size, 0, none⟩) 0 := by
  have e1 : plcc c 1 0 0 = 1 := Lay.single_pos c 1 (by omega) (by omega)
  rw [e1] at hn
  have h1 := hs.ltS; have h2 := hs.row.lt; have h3 := hr.lt; have h4 := hn.2.1; have h5 := hb9.size; have h6 := hb10.size
  have b11 := hn.2.2
  have hst := ((hs.below hb10).below b11).below hb12
  have hcm := (CM.new hn).below hb12
  have hrd := ((hr.below b11).below hb12).reads
  refine CP.begin (w8 := w12) hst (by omega) (below_step (below_step (below_step hb9 h5 hb10) (by omega) b11) (by have := b11.size; omega) hb12) hm ok ⟨lo.1, lo.2, by omega⟩ ⟨by omega, by omega⟩ hcm (fun h0 => ?_)
  obtain ⟨b, off, e, hlt, hc⟩ := hrd h0
  refine ⟨b, off, e, hlt, ?_, hc⟩
  injection e with e; injection e with e1 e2
  subst e1
  exact ⟨by omega, by omega, by omega⟩

set_option maxHeartbeats 16000000 in
set_option maxRecDepth 100000 in
theorem walkSteps (c : Cfg) (V cy : Int) (K : Option Addr) (kn capK : Nat) (ks : List Pok) (w : World) (hv : (Lit.int .i64 V).wf = true) (hK : IsPoks w K kn capK ks) :
    Calls Try.prog 3 #[Lay.cfgV c, .int .i64 V, .int .u64 cy, .slice K kn capK] w fun e w' => e = .returned (.bool true) ∧ Below w.heap.size w w' := by
  obtain ⟨rK, lK, h5, h6, wfK⟩ := hK
  have HV := Lib.hid hv
  have hm3 : kn ≤ maxLen := by omega
  have HB := Lib.hid (Bw.start w c)
  obtain ⟨q0, q1, q2, q3, q4, q5, q6, q7, q8, q9, q10, q11⟩ := (Bw.start w c).cfg
  have HRK := Lib.hid rK; have HLK := Lib.hid lK
  clear rK lK wfK hv
  by_cases hbig : 8 < kn
  · have d2 : decide ((kn : Int) > 8) = true := by simp; omega
    go_enter Try.func3, Try.ntmps3
    go_wp2_with (first
      | (go_at_call 8; (with_reducible refine (awake_true _).mono ?_); rintro e w1 ⟨rfl, hb⟩; have HB := Lib.hid (HB.out.step hb); clear hb q0 q1 q2 q3 q4 q5 q6 q7 q8 q9 q10 q11; obtain ⟨q0, q1, q2, q3, q4, q5, q6, q7, q8, q9, q10, q11⟩ := HB.out.cfg)
      | (go_at_call 9; (with_reducible refine (small_any c _).mono ?_); rintro e w2 ⟨b, rfl, hs, hb⟩; have HB := Lib.hid (HB.out.step hb); clear hb; cases b)
      | fail)
    all_goals go_ret
    all_goals exact ⟨rfl, HB.out.fin⟩
  · have d2 : decide ((kn : Int) > 8) = false := by simp; omega
    have hkn : kn ≤ 8 := by omega
    clear hbig
    go_enter Try.func3, Try.ntmps3
    go_wp2_with (first
      | (go_at_call 8; (with_reducible refine (awake_true _).mono ?_); rintro e w1 ⟨rfl, hb⟩; have HB := Lib.hid (HB.out.step hb); clear hb q0 q1 q2 q3 q4 q5 q6 q7 q8 q9 q10 q11; obtain ⟨q0, q1, q2, q3, q4, q5, q6, q7, q8, q9, q10, q11⟩ := HB.out.cfg)
      | (go_at_call 9; (with_reducible refine (small_any c _).mono ?_); rintro e w2 ⟨b, rfl, hs, hb⟩; have HB := Lib.hid (HB.out.step hb); clear hb q0 q1 q2 q3 q4 q5 q6 q7 q8 q9 q10 q11; obtain ⟨q0, q1, q2, q3, q4, q5, q6, q7, q8, q9, q10, q11⟩ := HB.out.cfg; have HSS := Lib.hid hs; clear hs; cases b)
      | (go_at_call 10; (with_reducible refine (Lay.new_yes (HSS.out trivial).1 _).mono ?_); rintro e w3 ⟨N, rfl, hm, hb⟩; have HOK := Lib.hid (HSS.out trivial).1; have HM := Lib.hid hm; have HB := Lib.hid (HB.out.step hb); clear hb hm q0 q1 q2 q3 q4 q5 q6 q7 q8 q9 q10 q11; obtain ⟨q0, q1, q2, q3, q4, q5, q6, q7, q8, q9, q10, q11⟩ := HB.out.cfg)
      | (go_at_call 12; (with_reducible refine (Lay.model_any c _).mono ?_); rintro e w4 ⟨rfl, hb⟩; have HB := Lib.hid (HB.out.step hb); have HM := Lib.hid (HM.out.below hb); clear hb q0 q1 q2 q3 q4 q5 q6 q7 q8 q9 q10 q11)
      | (go_at_call 11; (with_reducible refine (rmap_any HOK.out _).mono ?_); rintro e w6 ⟨AA, an, ac, rfl, hia, hb⟩; have hb7 := below_alloc0 (Below.refl w6.heap.size w6) (.cells #[.slice AA an ac, .int .i64 (packN c)] 35); have HB7 := Lib.hid ((HB.out.step hb).step hb7); have HM := Lib.hid ((HM.out.below hb).below hb7); have HIA := Lib.hid (hia.below hb7); clear hb hia hb7)
      | (go_at_call 14; (with_reducible refine (first_any HOK.out N _ HM.out).mono ?_); rintro e w8 ⟨G, n, L, rfl, hn, hr, hrep, hb⟩; have HB8 := Lib.hid hb; have HN := Lib.hid hn; have HR := Lib.hid hr; have HLE := Lib.hid (first_len HOK.out hrep); clear hb hn hr hrep)
      | (go_at_call 13; (with_reducible refine (new_any _ _ _ L _ HN.out HR.out (by have := HN.out; have := HLE.out; omega)).mono ?_); rintro e w9 ⟨S, D, rfl, hS, hD, hst, hb⟩; have HLO := Lib.hid (And.intro (Nat.le_trans HB8.out.size hS) (Nat.le_trans HB8.out.size hD)); have HST := Lib.hid hst; have HB9 := Lib.hid (below_then HB8.out hb); clear hS hD hst hb; obtain ⟨nL, hnL⟩ : ∃ nL, nL = L.length := ⟨_, rfl⟩; have HNL := Lib.hid hnL; clear hnL)
      | (go_at_call 15; (with_reducible refine (all_any _ HST.out (by have := HLE.out; omega)).mono ?_); rintro e w10 ⟨rfl, hr, hb⟩; rw [← HNL.out]; have HROW := Lib.hid hr; have HB10 := Lib.hid hb; clear hr hb)
      | (go_at_call 16; (with_reducible refine (newm_any HOK.out N V cy HV.out _ ((HM.out.below HB9.out).below HB10.out)).mono ?_); rintro e w11 ⟨X, rfl, hn⟩; have HNB := Lib.hid hn; clear hn)
      | (go_at_call 17; (with_reducible refine (rnew_cl V cy _).mono ?_); rintro e w12 ⟨rfl, hb⟩; have HCP := Lib.hid (steps_start HB9.out HST.out HLO.out HROW.out HB10.out HNB.out hb HM.out HOK.out); clear hb)
      | fail)
    · go_ret
      exact ⟨rfl, HB.out.fin⟩
    obtain ⟨w7, hw7⟩ : ∃ w7, w7 = (w6.alloc (.cells #[.slice AA an ac, .int .i64 (packN c)] 35)) := ⟨_, rfl⟩
    have HAB : Hid (∀ w', Below w7.heap.size w7 w' → w'.cell? ⟨w6.heap.size, 0, none⟩ = some (.slice AA an ac) ∧ w'.cell? ⟨w6.heap.size, 1, none⟩ = some (.int .i64 (packN c))) := Lib.hid (fun w' hb => by rw [hw7] at hb; exact abox (by simpa using hb))
    have hia := HIA.out
    have hb7 := HB7.out
    have hcp := HCP.out
    clear HCP HIA HB7 HM
    rw [← hw7] at hcp hia hb7
    have HIA := Lib.hid hia
    have HBW : Hid (∀ w', Below w7.heap.size w7 w' → Bw w c w') := Lib.hid (fun w' hb => hb7.step hb)
    obtain ⟨AB, hAB⟩ : ∃ AB, AB = w6.heap.size := ⟨_, rfl⟩
    rw [← hAB] at HAB ⊢
    obtain ⟨YB, hYB⟩ : ∃ YB, YB = w12.heap.size := ⟨_, rfl⟩
    rw [← hYB] at hcp ⊢
    obtain ⟨RB, hRB⟩ : ∃ RB, RB = w9.heap.size := ⟨_, rfl⟩
    rw [← hRB] at hcp ⊢
    obtain ⟨wx0, hwx0⟩ : ∃ wx, wx = w12.alloc (.cells #[.int .i64 1, .int .i64 V, .int .u64 cy, .int .u64 0, .bool false] 46) := ⟨_, rfl⟩
    rw [← hwx0] at hcp ⊢
    have HCP := Lib.hid hcp
    have HLN : Hid (nL ≤ 10000) := Lib.hid (by rw [HNL.out]; exact HLE.out)
    clear hcp hia hb7 hw7 hAB hYB hRB hwx0 HB8 HB9 HN HR HLE HLO HST HROW HB10 HNB HSS
    go_loopw [15, 18] (fun v i wr => ∃ (k : Nat) (m : Cm) (L : List Int) (R : Option Addr) (cR : Nat) (cc : Int), k ≤ kn + 5 ∧ i = .int .i64 (k : Int) ∧ v = .slice R nL cR ∧ nL = L.length ∧ cc ≤ 2 * k ∧ cdue m ≤ 4 - k ∧ CP S D N X YB c V w7 wr m m L L R cc) (fun _ i _ => kn + 5 - (intOf i).toNat)
    case atStart => exact ⟨0, _, L, _, nL, 0, Nat.zero_le _, rfl, rfl, HNL.out, by omega, by simp [cdue, cNew], HCP.out⟩
    case round =>
      clear HCP HNL
      obtain ⟨k, m, L, R, cR, cc, hk, rfl, rfl, hl1, hc, hdu, hs⟩ := hrel
      have H1 := Lib.hid hs; have HL1 := Lib.hid hl1; have HC := Lib.hid hc; have HDU := Lib.hid hdu
      clear hs hl1 hc hdu
      by_cases hlt : k < kn + 5
      · have hlt2 : (k : Int) < (kn : Int) + 5 := by omega
        have HKK := Lib.hid hlt
        go_upto_if 69 with (fail)
        go_cut [15] (fun s wx => ∃ (L' : List Int) (R' : Option Addr) (cR' : Nat) (cc' : Int), s = .slice R' nL cR' ∧ nL = L'.length ∧ cc' ≤ 2 * k + 1 ∧ CP S D N X YB c V w7 wx m m L' L' R' cc')
        case first =>
          skip
          · by_cases hp : k < kn
            · obtain ⟨bp, offp, rfl, hbl, hcp⟩ := HRK.out (by have := HLK.out; omega)
              have hcj := hcp k (by have := HLK.out; omega)
              obtain ⟨g, hg⟩ : ∃ g, g = atP ks k := ⟨_, rfl⟩
              rw [← hg] at hcj
              have hpc : ∀ w', Below w7.heap.size w7 w' → (w'.cell? ⟨bp, offp + k * 2, none⟩ = some (.int .i64 g.p) ∧ w'.cell? ⟨bp, offp + k * 2 + 1, none⟩ = some (.int .u64 g.v)) := fun w' hb =>
                ⟨((HBW.out _ hb).fin.cell (p := ⟨bp, offp + k * 2, none⟩) hbl).trans hcj.1, ((HBW.out _ hb).fin.cell (p := ⟨bp, offp + k * 2 + 1, none⟩) hbl).trans hcj.2⟩
              have HPC := Lib.hid hpc
              have hp0 : (k : Int) < (kn : Int) := by omega
              have hk0 : (0 : Int) ≤ (k : Int) := by omega
              obtain ⟨p0, p1⟩ := hpc _ H1.out.bel
              have hcc : cc ≤ 900000000 := by have := HC.out; omega
              clear hcp hcj hg hpc hp
              by_cases hat : g.p > 1
              · obtain ⟨q, hq⟩ : ∃ q, q = plcc c 16 V 0 := ⟨_, rfl⟩
                have HQ := Lib.hid hq
                clear hq
                go_wp2_with (first
                  | (go_at_call 18; (with_reducible refine (Lay.mark_m HOK.out N V HV.out _ H1.out.mpw).mono ?_); rintro r w14 ⟨rfl, hb⟩; rw [← HQ.out]; have H2 := Lib.hid (H1.out.below hb); obtain ⟨p2, p3⟩ := HPC.out _ H2.out.bel; clear hb)
                  | (go_at_call 19; (with_reducible refine (CP.poke H2.out q g.v hcc).mono ?_); rintro r w15 ⟨rfl, h⟩; have HS9 := Lib.hid h; obtain ⟨p4, p5⟩ := HPC.out _ h.bel; clear h)
                  | (go_at_call 20; (with_reducible refine (rput_any (Fr S D X YB) R nL cR L q g.v _ HL1.out (Nat.le_trans HLN.out (by decide)) HS9.out.rd HS9.out.far).mono ?_); rintro r w16 ⟨R3, cR3, rfl, hx, hb⟩; rw [ptv_eq] at hx; have HS10 := Lib.hid (HS9.out.newR hb hx); clear hx hb)
                  | fail)
                go_meet
                exact ⟨_, R3, cR3, _, rfl, by rw [pc_len]; exact HL1.out, by have := HC.out; omega, HS10.out⟩
              · have d5 : decide (g.p > 1) = false := by simpa using hat
                go_wp2_with (first
                  | (go_at_call 19; (with_reducible refine (CP.poke H1.out g.p g.v hcc).mono ?_); rintro r w15 ⟨rfl, h⟩; have HS9 := Lib.hid h; obtain ⟨p4, p5⟩ := HPC.out _ h.bel; clear h)
                  | (go_at_call 20; (with_reducible refine (rput_any (Fr S D X YB) R nL cR L g.p g.v _ HL1.out (Nat.le_trans HLN.out (by decide)) HS9.out.rd HS9.out.far).mono ?_); rintro r w16 ⟨R3, cR3, rfl, hx, hb⟩; rw [ptv_eq] at hx; have HS10 := Lib.hid (HS9.out.newR hb hx); clear hx hb)
                  | fail)
                go_meet
                exact ⟨_, R3, cR3, _, rfl, by rw [pc_len]; exact HL1.out, by have := HC.out; omega, HS10.out⟩
            · have hp0 : ¬ (k : Int) < (kn : Int) := by omega
              clear hp
              go_wp2_with (fail)
              go_meet
              exact ⟨L, R, cR, cc, rfl, HL1.out, by have := HC.out; omega, H1.out⟩
        case rest =>
          clear H1 HL1 HC
          obtain ⟨L, R, cR, cc, rfl, hl1, hc, hs⟩ := hcut
          have H1 := Lib.hid hs
          obtain ⟨x0, x1, x2, x3, x4⟩ := hs.cells
          obtain ⟨L2, m2, hz⟩ : ∃ L2 m2, cstp 1 L m = (L2, m2) := ⟨_, _, rfl⟩
          have hc0 := hs.c0
          have hst := hs.stepM (by omega)
          have hl2 := cstp_len L m
          have hds := cdue_step 1 L m hs.yi.2.1
          have hyi2 := hst
          rw [hz] at hst hl2 hds
          dsimp only at hst hl2 hds
          clear hyi2
          obtain ⟨c2, hc2⟩ : ∃ c2, c2 = ccost m cc := ⟨_, rfl⟩
          obtain ⟨b, hb⟩ : ∃ b, b = decide (m2.pc = 0) := ⟨_, rfl⟩
          rw [← hc2, ← hb] at hst
          have hc3 : c2 ≤ cc + 1 := by rw [hc2]; unfold ccost; split <;> omega
          have hpb : ((m2.pc : Int) == 0) = b := by rw [hb]; by_cases h : m2.pc = 0 <;> simp [h]
          have hcq : (c2 == cc + 1) = decide (0 < m.pc) := by
            rw [hc2]; unfold ccost
            by_cases h : m.pc = 0
            · simp [h]; omega
            · rw [if_neg h]; simp; omega
          have HST := Lib.hid hst; have HZZ := Lib.hid hz; have HC := Lib.hid hc; have HC3 := Lib.hid hc3
          have HL1 := Lib.hid hl1; have HL2 : Hid (nL = L2.length) := Lib.hid (by omega)
          have HDS := Lib.hid hds
          have hk9 : (k : Int) ≤ 1000000 := by omega
          have ew : IntKind.i64.wrap (cc + 1) = cc + 1 := IntWalk.i64_in _ (by omega)
          obtain ⟨ab0, ab1⟩ := HAB.out _ hs.bel
          clear hs hst hz hc hc2 hc3 hb hl1 hl2 hk hc0 hds
          go_wp2_with (first
            | (go_at_call 21; (with_reducible refine (CP.count H1.out).mono ?_); rintro r w8 ⟨rfl, hw⟩; cases hw)
            | (go_at_call 22; (with_reducible refine HST.out.mono ?_); rintro r w8 ⟨rfl, h⟩; have HS1 := Lib.hid h; obtain ⟨y0, y1, y2, y3, y4⟩ := h.cells; obtain ⟨ab2, ab3⟩ := HAB.out _ h.bel; clear h)
            | (go_at_call 23; (with_reducible refine (rstep_cl (c := c) (Fr S D X YB) AA an ac (packN c) R nL cR L V m _ (HIA.out.below HS1.out.bel) HL1.out (Nat.le_trans HLN.out (by decide)) HS1.out.rd HS1.out.far HS1.out.yi.1 HS1.out.yi.2.1 HS1.out.yi.2.2).mono ?_); rintro r w9 ⟨R2, cR2, rfl, hrd, hb⟩; rw [HZZ.out] at hrd ⊢; dsimp only at hrd ⊢; have HS2 := Lib.hid (HS1.out.newR hb hrd); have HS3 := Lib.hid (HS2.out.below (below_alloc0 (Below.refl _ _) (.cells #[.int .i64 m2.pc, .int .i64 V, .int .u64 m2.cy, .int .u64 m2.k, .bool m2.won] 46))); obtain ⟨v0, v1, v2, v3, v4⟩ := HS3.out.cells; have hfx := HS3.out.fro; clear hrd hb)
            | fail)
          have hyi : m2.p = plcc c 16 V 0 ∧ m2.pc ≤ 4 ∧ (m2.pc ≠ 0 → m2.won = false) := ⟨HDS.out.2.2.1.trans H1.out.yi.1, HDS.out.2.1, HS1.out.cm.2.2⟩
          obtain ⟨W4, hW4⟩ : ∃ W4, W4 = put5 (w9.alloc (.cells #[.int .i64 m2.pc, .int .i64 V, .int .u64 m2.cy, .int .u64 m2.k, .bool m2.won] 46)) YB (.int .i64 m2.pc) (.int .i64 V) (.int .u64 m2.cy) (.int .u64 m2.k) (.bool m2.won) := ⟨_, rfl⟩
          have hs4 : CP S D N X YB c V w7 W4 m2 m2 L2 L2 R2 c2 := by rw [hW4]; exact HS3.out.putY hyi
          unfold put5 at hW4
          rw [← hW4]
          have HS5 := Lib.hid (hs4.below (Below.refl _ _).drew)
          clear x0 x1 x2 x3 x4 y0 y1 y2 y3 y4 v0 v1 v2 v3 v4 hfx hW4 ab0 ab1 ab2 ab3 HS2 HS3 HST HZZ H1 hyi
          obtain ⟨v0, v1, v2, v3, v4⟩ := hs4.cells
          clear hs4
          have HLn : Hid (L2.length ≤ 1000000) := Lib.hid (by have := HL2.out; have := HLN.out; omega)
          go_region_held3 (fun w' => w'.cell? ⟨YB, 0, none⟩ = some (.int .i64 m2.pc) ∧ w'.cell? ⟨YB, 1, none⟩ = some (.int .i64 V) ∧ w'.cell? ⟨YB, 2, none⟩ = some (.int .u64 m2.cy) ∧ w'.cell? ⟨YB, 3, none⟩ = some (.int .u64 m2.k) ∧ w'.cell? ⟨YB, 4, none⟩ = some (.bool m2.won))
            (first | (with_reducible exact CP.cells HS8.out) | (with_reducible exact CP.cells HS7.out) | (with_reducible exact CP.cells HS5.out) | fail)
            (first
              | (go_at_call 24; (with_reducible refine (CP.won HS5.out).mono ?_); rintro r w10 ⟨rfl, hw⟩; cases hw)
              | (go_at_call 15; (with_reducible refine (CP.all HS5.out HLn.out).mono ?_); rintro r w12 ⟨rfl, hr, h⟩; have HS7 := Lib.hid h; have HRA := Lib.hid (show Reads .u64 w12 (some ⟨W4.heap.size, 0, none⟩) L2 from hr); clear h hr)
              | (go_at_call 25; (with_reducible refine (same_len _ _ _ _ nL L2 _ HL2.out HRA.out HS7.out.rd.reads HLn.out).mono ?_); rintro r w13 ⟨rfl, hb⟩; have HS8 := Lib.hid (HS7.out.below hb); clear hb)
              | (go_at_call 21; (with_reducible refine (CP.count HS8.out).mono ?_); rintro r w14 ⟨rfl, hw⟩; cases hw)
              | fail)
          clear ew v0 v1 v2 v3 v4 HS5 HS7 HRA
          go_wp2_with (fail)
          go_roundw
          case rel =>
            have hkk := HKK.out; have hc := HC.out; have hc3 := HC3.out; have hd := HDU.out; have hds := HDS.out.1
            have q1 : k + 1 ≤ kn + 5 := by omega
            have q2 : c2 ≤ 2 * ((k + 1 : Nat) : Int) := by omega
            exact ⟨k + 1, m2, L2, R2, cR2, c2, q1, by go_num, rfl, HL2.out, q2, by omega, HS8.out⟩
          case measure => have := HKK.out; simp [intOf]; omega
      · obtain rfl : k = kn + 5 := by omega
        have hlt2 : ¬ (((kn + 5 : Nat) : Int) < (kn : Int) + 5) := by omega
        have hpc := cdue_zero H1.out.yi.2.1 (by have := HDU.out; omega)
        obtain ⟨y0, y1, y2, y3, y4⟩ := H1.out.cells
        rw [hpc] at y0
        have HPC := Lib.hid hpc
        clear hlt hk hpc
        go_wp2_with (first
          | (go_at_call 16; (with_reducible refine (newN_any V cy HV.out _).mono ?_); rintro e w11 ⟨X2, rfl, hn⟩; have HS2 := Lib.hid (H1.out.below hn.2.2); have n3 := hn.1.c3; have n5 := hn.1.c5; clear hn; clear y0 y1 y2 y3 y4; obtain ⟨y0, y1, y2, y3, y4⟩ := HS2.out.cells; rw [HPC.out] at y0)
          | (go_at_call 22; (with_reducible refine (step_nilc _ _).mono ?_); rintro r w12 ⟨rfl, hw⟩; cases hw)
          | (go_at_call 24; (with_reducible refine (won_nilc _).mono ?_); rintro r w12 ⟨rfl, hw⟩; cases hw)
          | (go_at_call 22; (with_reducible refine (cstep_off _ X2 _ n3).mono ?_); rintro r w12 ⟨rfl, hw⟩; cases hw)
          | (go_at_call 24; (with_reducible refine (won_raw _ X2 _ n5).mono ?_); rintro r w12 ⟨rfl, hw⟩; cases hw)
          | fail)
        go_ret
        exact ⟨rfl, (HBW.out _ HS2.out.bel).fin⟩
end Go.Proofs.Ytbjhciccpkbmoaa
