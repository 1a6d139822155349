/- The law of packets one at a time, walked. -/
import Derived.Test.YtbpfkhpnfkbacaaPkAl
import Derived.Test.YtbpfkhpnfkbacaaJ4
namespace Go.Proofs.Ytbpfkhpnfkbacaa
open Go.RowKit
set_option linter.unusedVariables false
set_option linter.unusedSimpArgs false
open Lay (plcc plc shOf packN nodesN OkC Cfg Norm firstV Rep lenL things)
attribute [local irreducible] pruns

theorem reads_four (a b c d : Int) (T : TypeId) (w : World) (n : Nat) : Reads .u64 (w.alloc (.cells #[.int .u64 a, .int .u64 b, .int .u64 c, .int .u64 d] T)) (some ⟨w.heap.size, 0, none⟩) ([a, b, c, d].take n) := fun _ => by
  refine ⟨_, _, rfl, by simp, fun j hj => ?_⟩
  rw [World.cell?_alloc_at _ _ _ _ rfl]
  have hj4 : j < 4 ∧ j < n := by simp at hj; omega
  have e : ([a, b, c, d].take n).getD j 0 = [a, b, c, d].getD j 0 := by simp [List.getD, List.getElem?_take, hj4.2]
  rw [e]
  match j, hj4 with
  | 0, _ => rfl
  | 1, _ => rfl
  | 2, _ => rfl
  | 3, _ => rfl
section
variable {B S D N : Nat} {c : Cfg} {w0 wr w1 w' : World} {L : List Int} {k : Int} {o1 o2 : Option Nat} {vl vo : Value} {rows : List Rw} {out : List Int} {X lo : Nat} {m : Pm} {i : Nat}
/-- Behind a machine that has been begun and has run. -/
theorem AS.ran (h : AS B S D N c w0 wr L k o1 o2 vl vo rows out) (hb : Below wr.heap.size wr w1) (r : PRn B S D N c w0 w1 w' wr.heap.size X L m 14 k) : AS B S D N c w0 w' (pruns (gOf c) 14 L m).1 (k + 14) o1 o2 vl vo rows out :=
  h.uf (F := fun b => b = S ∨ b = D ∨ wr.heap.size ≤ b) r.po ((UF.of_below (F := fun _ => False) hb).trans r.u (fun _ f => f.elim) (fun _ _ x => x)) (fun b hlt hf => by rcases hf with x | x | x; exact .inl x; exact .inr x; omega)
theorem row_ran {wA : World} {b0 bt : Nat} {ts : List Int} (hb : Below wA.heap.size wA w1) (r : PRn B S D N c w0 w1 w' wA.heap.size X L m 14 k) (hr : Reads .u64 wA (some ⟨b0, 0, none⟩) ts) (hbt : bt = b0) (ha : Ap4 B S D N bt) (h0 : 0 < ts.length) (o : Obj) :
    bt < (w'.alloc o).heap.size ∧ ∀ j, j < ts.length → (w'.alloc o).cell? ⟨bt, j, none⟩ = some (.int .u64 (ts.getD j 0)) := by
  subst hbt
  obtain ⟨b, off, e, hlt, hc⟩ := hr h0
  injection e with e
  injection e with e1 e2
  subst e1 e2
  have e1 : w'.heap[bt]? = wA.heap[bt]? := (r.u.block bt (Nat.lt_of_lt_of_le hlt hb.size) (fun h => by have := ha.2; omega)).trans (hb.block bt hlt)
  have hl2 : bt < w'.heap.size := Nat.lt_of_lt_of_le (Nat.lt_of_lt_of_le hlt hb.size) r.u.size
  have hbe := below_alloc0 (Below.refl w'.heap.size w') o
  refine ⟨Nat.lt_of_lt_of_le hl2 hbe.size, fun j hj => ?_⟩
  have := hc j hj
  rw [Nat.zero_add] at this
  exact ((hbe.cell (p := ⟨bt, j, none⟩) hl2).trans (World.cell?_of_block (w := wA) (a := ⟨bt, j, none⟩) e1)).trans this
theorem grow_row {v' : Value} {n b0 bt : Nat} {ts : List Int} (h : AS B S D N c w0 wr L k o1 o2 vl vo rows out) (htl : n = ts.length) (hbt : bt = b0) (ht : Ap4 B S D N bt ∧ o1 ≠ some bt ∧ o2 ≠ some bt) (hrow : bt < wr.heap.size ∧ ∀ j, j < ts.length → wr.cell? ⟨bt, j, none⟩ = some (.int .u64 (ts.getD j 0)))
    (g : GrewV 25 o1 wr w' v' (rows.map rowV ++ [.slice (some ⟨b0, 0, none⟩) n 4])) : ∃ o1', AS B S D N c w0 w' L k o1' o2 v' vo (rows ++ [(bt, ts)]) out := by
  subst htl hbt
  exact h.pushRow g ⟨ht.1, ht.2.1, ht.2.2, hrow.1, hrow.2⟩
theorem AS.hlo (h : AS B S D N c w0 wr L k o1 o2 vl vo rows out) (hs : wr.heap.size ≤ w1.heap.size) : S < wr.heap.size ∧ D < wr.heap.size ∧ N < wr.heap.size ∧ B ≤ wr.heap.size ∧ wr.heap.size ≤ w1.heap.size :=
  ⟨h.po.lt.1, h.po.lt.2.1, h.po.lt.2.2, Nat.le_trans h.po.lo.2.2 h.po.bel.size, hs⟩
end

set_option maxHeartbeats 16000000 in
set_option maxRecDepth 100000 in
theorem walkAlone (c : Cfg) (P : Option Addr) (np capP : Nat) (ps : List Int) (w : World) (hP : IsRow .u8 w P np capP ps) :
    Calls Try.prog 4 #[Lay.cfgV c, .slice P np capP] w fun e w' => e = .returned (.bool true) ∧ Below w.heap.size w w' := by
  obtain ⟨rP, lP, h1, h2, _, wfP⟩ := reads_row hP
  obtain ⟨xs, hxs⟩ : ∃ xs, xs = ps.take np := ⟨_, rfl⟩
  rw [← hxs] at rP lP wfP
  have hm1 : np ≤ maxLen := by omega
  have HB := Lib.hid (Bw.start w c)
  obtain ⟨q0, q1, q2, q3, q4, q5, q6, q7, q8, q9, q10, q11⟩ := (Bw.start w c).cfg
  have HRP := Lib.hid rP; have HLP := Lib.hid lP; have HWP := Lib.hid wfP
  clear hP rP lP wfP hxs
  by_cases hbig : 60 < np
  · have d0 : decide ((np : Int) > 60) = true := by simp; omega
    go_enter Try.func4, Try.ntmps4
    go_wp2_with (first
      | (go_at_call 7; (with_reducible refine (awake_true _).mono ?_); rintro e w1 ⟨rfl, hb⟩; have HB := Lib.hid (HB.out.step hb); clear hb q0 q1 q2 q3 q4 q5 q6 q7 q8 q9 q10 q11; obtain ⟨q0, q1, q2, q3, q4, q5, q6, q7, q8, q9, q10, q11⟩ := HB.out.cfg)
      | (go_at_call 8; (with_reducible refine (small_any c _).mono ?_); rintro e w2 ⟨b, rfl, hs, hb⟩; have HB := Lib.hid (HB.out.step hb); clear hb; cases b)
      | fail)
    all_goals go_ret
    all_goals exact ⟨rfl, HB.out.fin⟩
  · have d0 : decide ((np : Int) > 60) = false := by simp; omega
    have hn1 : np ≤ 60 := by omega
    go_enter Try.func4, Try.ntmps4
    go_wp2_with (first
      | (go_at_call 7; (with_reducible refine (awake_true _).mono ?_); rintro e w1 ⟨rfl, hb⟩; have HB := Lib.hid (HB.out.step hb); clear hb q0 q1 q2 q3 q4 q5 q6 q7 q8 q9 q10 q11; obtain ⟨q0, q1, q2, q3, q4, q5, q6, q7, q8, q9, q10, q11⟩ := HB.out.cfg)
      | (go_at_call 8; (with_reducible refine (small_any c _).mono ?_); rintro e w2 ⟨b, rfl, hs, hb⟩; have HB := Lib.hid (HB.out.step hb); clear hb q0 q1 q2 q3 q4 q5 q6 q7 q8 q9 q10 q11; obtain ⟨q0, q1, q2, q3, q4, q5, q6, q7, q8, q9, q10, q11⟩ := HB.out.cfg; have HSS := Lib.hid hs; clear hs; cases b)
      | (go_at_call 9; (with_reducible refine (Lay.new_yes (HSS.out trivial).1 _).mono ?_); rintro e w3 ⟨N, rfl, hm, hb⟩; have HOK := Lib.hid (HSS.out trivial).1; have HM := Lib.hid hm; have HB := Lib.hid (HB.out.step hb); clear hb hm q0 q1 q2 q3 q4 q5 q6 q7 q8 q9 q10 q11)
      | (go_at_call 11; (with_reducible refine (first_any HOK.out N _ HM.out).mono ?_); rintro e w4 ⟨G, n, L, rfl, hn, hr, hrep, hb⟩; have HB := Lib.hid (HB.out.step hb); have HM := Lib.hid (HM.out.below hb); have HN := Lib.hid hn; have HR := Lib.hid hr; have HRE := Lib.hid hrep; have HLE := Lib.hid (first_len HOK.out hrep); clear hb hn hr hrep)
      | (go_at_call 10; (with_reducible refine (new_any _ _ _ L _ HN.out HR.out (by have := HN.out; have := HLE.out; omega)).mono ?_); rintro e w5 hs; obtain ⟨S, D, rfl, hpo, hb⟩ := PO.start (B := w.heap.size + 1) (w0 := wcf w c) HB.out (by simp) HM.out HOK.out (first_ww HOK.out HRE.out) hs; have HPO := Lib.hid hpo; clear hs hpo hb)
      | fail)
    · go_ret
      exact ⟨rfl, HB.out.fin⟩
    have hst := stk_first HOK.out HRE.out
    have G0 : Gp (pkn c) L.length (gOf c) := by rw [HRE.out.1]; exact gp_of HOK.out
    have PA0 : PA (pkn c) (gOf c) L ((0 : Nat) : Int) [] [] := ⟨0, En (pkn c), 0, [], G0, hst.1, hst.2, by omega, by omega, by simp, trivial⟩
    have AS0 : AS (w.heap.size + 1) S D N c (wcf w c) w5 L (20 * ((0 : Nat) : Int)) none none (.slice none 0 0) (.slice none 0 0) [] [] :=
      ⟨by simpa using HPO.out, ⟨rfl, rfl⟩, ⟨rfl, rfl⟩, (fun b e => by cases e), (fun b e => by cases e), (fun x hx => by cases hx)⟩
    have HPA0 := Lib.hid PA0
    have HAS0 := Lib.hid AS0
    have HLEN := Lib.hid HLE.out
    have HPK := Lib.hid (And.intro (pkn_is HOK.out) (Lay.bds HOK.out).p1)
    clear HN HR HLE HM HB HSS HRE PA0 AS0 G0 hst HPO
    go_loopw [10, 11, 12] (fun l o i wr => ∃ (j : Nat) (L : List Int) (o1 o2 : Option Nat) (rows : List Rw) (out : List Int), j ≤ np ∧ i = .int .i64 (j : Int) ∧ AS (w.heap.size + 1) S D N c (wcf w c) wr L (20 * (j : Int)) o1 o2 l o rows out ∧ PA (pkn c) (gOf c) L (j : Int) (rows.map (·.2)).reverse out ∧ L.length ≤ 10000) (fun _ _ i _ => np - (intOf i).toNat)
    case atStart => exact ⟨0, L, none, none, [], [], Nat.zero_le _, rfl, HAS0.out, HPA0.out, HLEN.out⟩
    case round =>
      clear HPA0 HAS0 HLEN L
      obtain ⟨j, L, o1, o2, rows, out, hj, rfl, has, hpa, hlen⟩ := hrel
      obtain ⟨Al, cl, hvl⟩ := has.llen
      obtain ⟨Ao, co, hvo⟩ := has.olen
      obtain ⟨nl, hnl⟩ : ∃ nl, nl = rows.length := ⟨_, rfl⟩
      obtain ⟨no, hno⟩ : ∃ no, no = out.length := ⟨_, rfl⟩
      rw [← hnl] at hvl
      rw [← hno] at hvo
      subst hvl hvo
      have HNL := Lib.hid hnl; have HNO := Lib.hid hno
      have hsum : rows.length + out.length ≤ pkn c := by
        obtain ⟨Ts, Qs, Tp, Qp, _, _, _, _, _, p1, hct⟩ := hpa
        have h1 := p1.length_eq
        have h2 := hct.len
        simp only [List.length_append, List.length_reverse, List.length_map, len_En] at h1 h2
        omega
      have hsum2 : nl ≤ 1000 ∧ no ≤ 1000 := by have := HPK.out; omega
      obtain ⟨hsl, hso⟩ := hsum2
      have HAS := Lib.hid has; have HPA := Lib.hid hpa; have HLN := Lib.hid hlen
      clear hnl hno has hpa hlen hsum
      by_cases hlt : j < np
      · have hjx : j < xs.length := by have := HLP.out; omega
        obtain ⟨b, off, rfl, hbl, hcl⟩ := HRP.out (by omega)
        obtain ⟨a, ha⟩ : ∃ a, a = xs.getD j 0 := ⟨_, rfl⟩
        have ham : a ∈ xs := by rw [ha, List.getD, List.getElem?_eq_getElem hjx]; exact List.getElem_mem hjx
        have haw := HWP.out a ham
        obtain ⟨a0, a1⟩ : 0 ≤ a ∧ a ≤ 255 := by
          simp [Lit.wf, IntKind.min, IntKind.max, IntKind.bits, IntKind.signed] at haw
          omega
        have hsx : ∀ w', Below (w.heap.size + 1) (wcf w c) w' → w'.cell? ⟨b, off + j, none⟩ = some (.int .u8 a) := fun w' hb => by rw [ha]; exact ((Bw.fin hb).cell (p := ⟨b, off + j, none⟩) hbl).trans (hcl j hjx)
        have HSX := Lib.hid hsx
        have z0 := hsx wr HAS.out.po.bel
        have hj0 : (0 : Int) ≤ (j : Int) := by omega
        have hj1 : (j : Int) < (np : Int) := by omega
        have hj60 : (j : Int) ≤ 60 := by omega
        obtain ⟨x, hx⟩ : ∃ x : Int, (j : Int) * 10 = x := ⟨_, rfl⟩
        have hxr : 0 ≤ x ∧ x ≤ 600 := by omega
        obtain ⟨x0, x1⟩ := hxr
        obtain ⟨kk, hkk⟩ : ∃ kk : Nat, a % 3 = (kk : Int) := ⟨(a % 3).toNat, by omega⟩
        have hk3 : kk < 3 := by omega
        clear hsx hcl ha ham haw
        go_upto_region 15 with (fail)
        go_cut [63] (fun s wx => ∃ E : Bool, s = .bool E ∧ (E = true → rows.length + out.length < pkn c) ∧ AS (w.heap.size + 1) S D N c (wcf w c) wx L (20 * (j : Int)) o1 o2 (.slice Al nl cl) (.slice Ao no co) rows out)
        case first =>
          as_aux_lemma =>
            by_cases hk0 : kk = 0
            · subst hk0
              by_cases hroom : rows.length + out.length < pkn c
              · have d1 : decide ((nl : Int) + (no : Int) < packN c) = true := by have := HNL.out; have := HNO.out; have := HPK.out; simp; omega
                go_wp2_with (first
                  | (go_at_call 21; (with_reducible refine (Lay.packets_m N _ HAS.out.po.mp).mono ?_); rintro e w11 ⟨rfl, hb⟩; have HAS := Lib.hid (HAS.out.step hb); clear hb)
                  | fail)
                go_meet
                exact ⟨true, rfl, fun _ => hroom, HAS.out⟩
              · have d1 : decide ((nl : Int) + (no : Int) < packN c) = false := by have := HNL.out; have := HNO.out; have := HPK.out; simp; omega
                go_wp2_with (first
                  | (go_at_call 21; (with_reducible refine (Lay.packets_m N _ HAS.out.po.mp).mono ?_); rintro e w11 ⟨rfl, hb⟩; have HAS := Lib.hid (HAS.out.step hb); clear hb)
                  | fail)
                go_meet
                exact ⟨false, rfl, fun h => (by cases h), HAS.out⟩
            · have d1 : ((kk : Int) == 0) = false := by simp; omega
              go_wp2_with (fail)
              go_meet
              exact ⟨false, rfl, fun h => (by cases h), HAS.out⟩
        case rest =>
          obtain ⟨E, rfl, hE, has⟩ := hcut
          clear HAS z0
          have HAS := Lib.hid has
          clear has
          cases E
          · clear hE
            go_upto_region 21 with (fail)
            have z1 := HSX.out _ HAS.out.po.bel
            go_cut [104] (fun s wx => ∃ E : Bool, s = .bool E ∧ (E = true → 0 < out.length) ∧ AS (w.heap.size + 1) S D N c (wcf w c) wx L (20 * (j : Int)) o1 o2 (.slice Al nl cl) (.slice Ao no co) rows out)
            case first =>
              as_aux_lemma =>
                by_cases hk2 : kk = 2
                · subst hk2
                  go_wp2_with (fail)
                  go_meet
                  exact ⟨decide (0 < no), rfl, fun h => (by have := HNO.out; simp at h; omega), HAS.out⟩
                · have d1 : ((kk : Int) == 2) = false := by simp; omega
                  go_wp2_with (fail)
                  go_meet
                  exact ⟨false, rfl, fun h => (by cases h), HAS.out⟩
            case rest =>
              obtain ⟨E, rfl, hE, has⟩ := hcut
              clear HAS z1
              have HAS := Lib.hid has
              clear has
              cases E
              · as_aux_lemma =>
                  clear hE
                  have HW6 := Lib.hid (pw_take c)
                  by_cases h0 : rows.length = 0
                  · have hrows : rows = [] := List.eq_nil_of_length_eq_zero h0
                    subst hrows
                    have hnl0 : nl = 0 := HNL.out
                    subst hnl0
                    obtain ⟨y, hy⟩ := HPA.out.none
                    have HP : Hid (pPacket (pruns (gOf c) 14 L (pTake (gOf c))).2 = 0) := Lib.hid (by rw [hy]; rfl)
                    have HL : Hid ((pruns (gOf c) 14 L (pTake (gOf c))).1 = L) := Lib.hid (by rw [hy])
                    clear hy
                    go_wp2_with (first
                      | (go_at_call 23; (with_reducible refine (take_pk HOK.out N _ HAS.out.po.mp).mono ?_); rintro e w6 hn; obtain ⟨X, rfl, hx, hp6, hb6⟩ := PKX.of_new HAS.out.po hn (fun h => h) (fun h => h); have HP6 := Lib.hid hp6; have HX6 := Lib.hid hx; have HB6 := Lib.hid hb6; clear hn hx hp6 hb6)
                      | (go_at_call 12; (with_reducible refine (whole_pk HP6.out HX6.out (HAS.out.hlo HB6.out.size) HW6.out (by omega) (by omega)).mono ?_); rintro e w7 ⟨rfl, ho⟩; rw [HP.out]; have ha7 := HAS.out.ran HB6.out ho; rw [HL.out] at ha7; have HA7 := Lib.hid ha7; clear ho ha7)
                      | fail)
                    go_roundw
                    case rel => exact ⟨j + 1, L, o1, o2, [], out, by omega, by go_num, HA7.out.more (by omega), HPA.out.later (by omega), HLN.out⟩
                    case measure => simp [intOf]; omega
                  · obtain ⟨b1, of1, cp1, R, bt, ts, hR, hv, hcap, hlast⟩ := HAS.out.lastRow (by omega)
                    injection hv with e1 e2 e3
                    subst hR e1 e2 e3
                    have hpa := HPA.out
                    have erev : (List.map (fun x : Rw => x.2) (R ++ [(bt, ts)])).reverse = ts :: (List.map (fun x : Rw => x.2) R).reverse := by simp
                    rw [erev] at hpa
                    obtain ⟨pt0, ⟨pt1, pt2⟩, hct, hpa2⟩ := hpa.take (by omega)
                    obtain ⟨p, hp⟩ : ∃ p, (pruns (gOf c) 14 L (pTake (gOf c))).2.p = p := ⟨_, rfl⟩
                    have HP : Hid (pPacket (pruns (gOf c) 14 L (pTake (gOf c))).2 = p) := Lib.hid (by unfold pPacket; rw [pt0, if_neg (by omega)]; exact hp)
                    rw [hp] at pt1 pt2 hct hpa2
                    obtain ⟨L2, hL2⟩ : ∃ L2, L2 = (pruns (gOf c) 14 L (pTake (gOf c))).1 := ⟨_, rfl⟩
                    rw [← hL2] at hct hpa2
                    have HL2 := Lib.hid hL2
                    have hlen2 : L2.length ≤ 10000 := by rw [hL2, pruns_len]; exact HLN.out
                    have G2 : Gp (pkn c) L2.length (gOf c) := by obtain ⟨_, _, _, _, g, _⟩ := hpa2; exact g
                    have hpk : p ≤ packN c := by have := HPK.out; omega
                    have dp1 : decide (p < 1) = false := by simp; omega
                    have dp2 : decide (p > packN c) = false := by simp; omega
                    have hmany : ldq L2 (plcc c 11 p 0) = (ts.length : Int) := by
                      have m := G2.m p pt1 pt2
                      rw [ld_in (show 0 ≤ plcc c 11 p 0 ∧ plcc c 11 p 0 < L2.length from ⟨m.1, m.2.1⟩)]; exact hct.many
                    have htask : ∀ i : Nat, i < ts.length → ldq L2 (plcc c 13 p (i : Int)) = ts.getD i 0 := fun i hi => by
                      have hf := hct.few
                      have t := G2.t p i pt1 pt2 (by omega) (by omega)
                      rw [ld_in (show 0 ≤ plcc c 13 p i ∧ plcc c 13 p i < L2.length from ⟨t.1, t.2.1⟩)]; exact hct.task i hi
                    have hfew := hct.few
                    obtain ⟨tn, htn⟩ : ∃ tn, tn = ts.length := ⟨_, rfl⟩
                    rw [← htn] at hmany htask hfew
                    have ew : IntKind.u64.wrap (tn : Int) = (tn : Int) := by rw [IntKind.wrap_u64]; omega
                    have HWF : Hid ((Lit.int .i64 p).wf = true) := Lib.hid (Lay.wf_i64 (by omega) (by have := HPK.out; omega))
                    have HLAST := Lib.hid hlast; have HPA2 := Lib.hid hpa2; have HMANY := Lib.hid hmany; have HTASK := Lib.hid htask; have HLN2 := Lib.hid hlen2; have HTN := Lib.hid htn
                    have HRT := Lib.hid (fun (w2 : World) (L2 : List Int) (k2 : Int) (o2 : Option Nat) (v2 : Value) (out2 : List Int) (h2 : AS (w.heap.size + 1) S D N c (wcf w c) w2 L2 k2 o1 o2 (.slice (some ⟨b1, of1, none⟩) (R.length + 1) cl) v2 (R ++ [(bt, ts)]) out2) => (h2.r (bt, ts) (by simp)))
                    have el : ((R.length + 1 : Nat) : Int) - 1 = (R.length : Int) := by omega
                    have e4 := fun w => slice_dropV (t := 54) (e := 25) Try.underlying54 rfl (fun w => by simp [go_sem]) b1 of1 R.length cl hcap w
                    clear hp hpa hct hpa2 hL2 hlen2 G2 pt0 hmany htask htn hlast erev h0
                    go_wp2_with (first
                      | (go_at_call 23; (with_reducible refine (take_pk HOK.out N _ HAS.out.po.mp).mono ?_); rintro e w6 hn; obtain ⟨X, rfl, hx, hp6, hb6⟩ := PKX.of_new HAS.out.po hn (fun h => h) (fun h => h); have HP6 := Lib.hid hp6; have HX6 := Lib.hid hx; have HB6 := Lib.hid hb6; clear hn hx hp6 hb6)
                      | (go_at_call 12; (with_reducible refine (whole_pk HP6.out HX6.out (HAS.out.hlo HB6.out.size) HW6.out (by omega) (by omega)).mono ?_); rintro e w7 ⟨rfl, ho⟩; rw [HP.out]; have ha7 := HAS.out.ran HB6.out ho; rw [← HL2.out] at ha7; have HA7 := Lib.hid ha7; have c7 : w7.cell? ⟨b1, of1 + R.length, none⟩ = some (.slice (some ⟨bt, 0, none⟩) tn 4) := (by rw [HTN.out]; exact (HLAST.out _ _ _ _ _ _ ha7).1); clear ho ha7)
                      | (go_at_call 21; (with_reducible refine (Lay.packets_m N _ HA7.out.po.mp).mono ?_); rintro e w8 ⟨rfl, hb⟩; have HA8 := Lib.hid (HA7.out.step hb); clear hb)
                      | (go_at_call 25; (with_reducible refine (Lay.many_m HOK.out N p HWF.out _ HA8.out.po.mp).mono ?_); rintro e w9 ⟨rfl, hb⟩; have HA9 := Lib.hid (HA8.out.step hb); clear hb)
                      | (go_at_call 24; (with_reducible refine (HA9.out.load _ (by omega)).mono ?_); rintro e w10 ⟨rfl, h⟩; rw [HMANY.out]; have HA10 := Lib.hid h; clear h)
                      | fail)
                    go_loopw [18] (fun i wx => ∃ q : Nat, q ≤ tn ∧ i = .int .i64 (q : Int) ∧ AS (w.heap.size + 1) S D N c (wcf w c) wx L2 (20 * (j : Int) + 15 + q) o1 o2 (.slice (some ⟨b1, of1, none⟩) (R.length + 1) cl) (.slice Ao no co) (R ++ [(bt, ts)]) out) (fun i _ => tn - (intOf i).toNat)
                    case atStart => exact ⟨0, Nat.zero_le _, rfl, HA10.out.more (by omega)⟩
                    case round =>
                      clear HA10
                      obtain ⟨q, hq, rfl, hax⟩ := hrel
                      by_cases hql : q < tn
                      · have hq0 : (0 : Int) ≤ (q : Int) := by omega
                        have hq1 : (q : Int) < (tn : Int) := by omega
                        obtain ⟨v, hv⟩ : ∃ v, v = ts.getD q 0 := ⟨_, rfl⟩
                        have HV : Hid (ldq L2 (plcc c 13 p (q : Int)) = v) := Lib.hid (by rw [hv]; exact HTASK.out q hql)
                        have HRC := Lib.hid (fun (w2 : World) (k2 : Int) (h2 : AS (w.heap.size + 1) S D N c (wcf w c) w2 L2 k2 o1 o2 (.slice (some ⟨b1, of1, none⟩) (R.length + 1) cl) (.slice Ao no co) (R ++ [(bt, ts)]) out) => (show w2.cell? ⟨bt, q, none⟩ = some (.int .u64 v) by rw [hv]; exact (h2.r (bt, ts) (by simp)).2.2.2.2 q (by have := HTN.out; show q < ts.length; omega)))
                        have c9 := HRC.out _ _ hax
                        have HAD := Lib.hid (hax.step (Below.refl _ _).drew)
                        clear hax hv
                        go_wp2_with (fail)
                        go_region_held3 (fun w' => w'.cell? ⟨bt, q, none⟩ = some (.int .u64 v))
                          (first | with_reducible exact HRC.out _ _ HA12.out | with_reducible exact HRC.out _ _ HA11.out | with_reducible exact HRC.out _ _ HAD.out | go_keep)
                          (first
                            | (go_at_call 26; (with_reducible refine (Lay.task_m HOK.out N p _ HWF.out _ HAD.out.po.mp).mono ?_); rintro e w11 ⟨rfl, hb⟩; have HA11 := Lib.hid (HAD.out.step hb); clear hb)
                            | (go_at_call 24; (with_reducible refine (HA11.out.load _ (by omega)).mono ?_); rintro e w12 ⟨rfl, h⟩; rw [HV.out]; have HA12 := Lib.hid h; clear h)
                            | fail)
                        go_wp2_with (fail)
                        go_roundw
                        case rel => exact ⟨q + 1, by omega, by go_num, HA12.out.more (by omega)⟩
                        case measure => simp [intOf]; omega
                      · obtain rfl : q = tn := by omega
                        have HAX := Lib.hid hax
                        have HAY := Lib.hid (hax.step (below_alloc0 (Below.refl _ _) (.cells #[.int .i64 p] 3)))
                        clear hax hql
                        go_wp2_with (first
                          | (at_builtin; refine append_v (o' := o2) rfl _ _ elI rfl HAY.out.o (new_cell _ _ _) rfl (by unfold ints; rw [List.length_map]; have := HNO.out; omega) rfl rfl ?_; intro v' w9 hg; obtain ⟨o2', h9⟩ := HAY.out.pushOut hg; obtain ⟨A9, c9, hv9⟩ := h9.olen; rw [List.length_append, ← HNO.out] at hv9; subst hv9; have H9 := Lib.hid (HLAST.out _ _ _ _ _ _ h9).2; clear hg h9)
                          | fail)
                        go_roundw
                        case rel => exact ⟨j + 1, L2, o1, o2', R, out ++ [p], by omega, by go_num, H9.out.more (by have := HTN.out; omega), by have := HPA2.out; simpa using this, HLN2.out⟩
                        case measure => simp [intOf]; omega
              · as_aux_lemma =>
                  have hne := hE rfl
                  clear hE
                  obtain ⟨p, R, hR⟩ : ∃ p R, out = p :: R := by
                    cases out with
                    | nil => simp at hne
                    | cons p R => exact ⟨p, R, rfl⟩
                  subst hR
                  obtain ⟨bo, ofo, cpo, hvo, hcap, cell0, hao, hlo, hgo⟩ := HAS.out.firstOut
                  injection hvo with e1 e2 e3
                  subst e1 e2 e3
                  obtain ⟨pb0, pb1, hpa2⟩ := HPA.out.back (by omega)
                  have HP : Hid (pPacket (pruns (gOf c) 14 L (pBack (pkn c) (gOf c) p)).2 = p) := Lib.hid (by unfold pPacket; rw [pb0, if_neg (by omega)]; exact pb1)
                  have hpr : 1 ≤ p ∧ p ≤ pkn c := by
                    obtain ⟨Ts, Qs, Tp, Qp, _, _, _, _, _, p1, _⟩ := HPA.out
                    exact mem_En.1 (p1.mem_iff.1 (by simp))
                  have HWF : Hid ((Lit.int .i64 p).wf = true) := Lib.hid (Lay.wf_i64 (by omega) (by have := HPK.out; omega))
                  have HPA2 := Lib.hid hpa2; have HGO := Lib.hid hgo
                  have HAD := Lib.hid (HAS.out.step (Below.refl _ _).drew)
                  have HCO := Lib.hid (fun (w2 : World) (L2 : List Int) (k2 : Int) (h2 : AS (w.heap.size + 1) S D N c (wcf w c) w2 L2 k2 o1 o2 (.slice Al nl cl) (.slice (some ⟨bo, ofo, none⟩) (R.length + 1) co) rows (p :: R)) => h2.cellOut rfl)
                  have e4 := slice_tailV (t := 55) (e := 3) Try.underlying55 rfl (fun w => by simp [go_sem]) bo ofo (R.length + 1) co (by omega) hcap
                  obtain ⟨of1, hof⟩ : ∃ of1, of1 = if co = 1 then ofo else ofo + 1 := ⟨_, rfl⟩
                  rw [← hof] at HGO e4
                  rw [Nat.add_sub_cancel] at e4
                  clear pb0 pb1 hpa2 hgo hne hao hlo hpr hof
                  go_upto_region 22 with (fail)
                  go_region_held3 (fun w' => w'.cell? ⟨bo, ofo, none⟩ = some (.int .i64 p))
                    (first | with_reducible exact HCO.out _ _ _ HA7.out | with_reducible exact HCO.out _ _ _ HA6.out | with_reducible exact HCO.out _ _ _ HAD.out | go_keep)
                    (first
                      | (go_at_call 22; (with_reducible refine (back_pk HOK.out N p _ HAD.out.po.mp HWF.out).mono ?_); rintro e w6 hn; obtain ⟨X, rfl, hx, hp6, hb6⟩ := PKX.of_new HAD.out.po hn (fun h => h) (fun h => h); have HP6 := Lib.hid hp6; have HX6 := Lib.hid hx; have HB6 := Lib.hid hb6; have HA6 := Lib.hid (HAD.out.step hb6); clear hn hx hp6 hb6)
                      | (go_at_call 12; (with_reducible refine (whole_pk HP6.out HX6.out (HAD.out.hlo HB6.out.size) (pw_back c (pkn c) p) (by omega) (by omega)).mono ?_); rintro e w7 ⟨rfl, ho⟩; rw [HP.out]; have HA7 := Lib.hid (HAD.out.ran HB6.out ho); clear ho)
                      | fail)
                  go_wp2_with (fail)
                  go_roundw
                  case rel => exact ⟨j + 1, _, o1, o2, rows, R, by omega, by go_num, (HGO.out _ _ _ HA7.out).more (by omega), by have := HPA2.out; simpa using this, by rw [pruns_len]; exact HLN.out⟩
                  case measure => simp [intOf]; omega
          · as_aux_lemma =>
              have hroom := hE rfl
              clear hE
              obtain ⟨q, hq⟩ : ∃ q : Nat, a / 3 = (q : Int) := ⟨(a / 3).toNat, by omega⟩
              have hq85 : q ≤ 85 := by omega
              obtain ⟨r, hr⟩ : ∃ r : Nat, (q : Int) % 4 = (r : Int) := ⟨q % 4, by omega⟩
              have hr3 : r < 4 := by omega
              obtain ⟨n, hn⟩ : ∃ n : Nat, (r : Int) + 1 = (n : Int) := ⟨r + 1, by omega⟩
              have hn4 : n ≤ 4 ∧ 0 < n := by omega
              obtain ⟨ts, hts⟩ : ∃ ts, ts = [x, x + 1, x + 2, x + 3].take n := ⟨_, rfl⟩
              have htl : n = ts.length := by rw [hts]; simp; omega
              have htw : ∀ z ∈ ts, 0 ≤ z ∧ z ≤ 18446744073709551615 := fun z hz => by rw [hts] at hz; have := List.mem_of_mem_take hz; simp at this; omega
              have hpp := HPA.out.put (ts := ts) (by omega) (fun e => by rw [e] at htl; simp at htl; omega) (by omega) (by simp; exact hroom)
              obtain ⟨pp0, ⟨pp1, pp2⟩, hpa2⟩ := hpp
              obtain ⟨p, hp⟩ : ∃ p, pPacket (pruns (gOf c) 14 L (pPut (gOf c) ts)).2 = p := ⟨_, rfl⟩
              have hp1 : 1 ≤ p := by rw [← hp]; unfold pPacket; rw [pp0, if_neg (by omega)]; exact pp1
              have hp0 : (p == 0) = false := by simp; omega
              obtain ⟨bt, hbt⟩ : ∃ bt, bt = wc.heap.size := ⟨_, rfl⟩
              have HA1 := Lib.hid (HAS.out.step (below_alloc0 (Below.refl _ _) (.cells #[.int .u64 x, .int .u64 (x + 1), .int .u64 (x + 2), .int .u64 (x + 3)] 39)))
              have HR4 := Lib.hid (reads_four x (x + 1) (x + 2) (x + 3) 39 wc n)
              rw [← hts] at HR4
              have HLT := Lib.hid HAS.out.po.lt
              have HRT : Hid (Ap4 (w.heap.size + 1) S D N bt ∧ o1 ≠ some bt ∧ o2 ≠ some bt) := Lib.hid ⟨ap_new HAS.out.po (by omega), (fun e => by have := HAS.out.l.lt bt e; omega), (fun e => by have := HAS.out.o.lt bt e; omega)⟩
              have e4 : ∀ w, (Instr.slice 25 (.slice (some ⟨bt, 0, none⟩) 4 4) none (some (.int .i64 (n : Int))) none).run Try.prog w = .ok (.slice (some ⟨bt, 0, none⟩) n 4) w := slice_front _ 4 4 n hn4.1
              have HTL := Lib.hid htl; have HTW := Lib.hid htw; have HPA2 := Lib.hid hpa2; have HN4 := Lib.hid hn4; have HP := Lib.hid hp; have HBT := Lib.hid hbt
              have z2 := HSX.out _ HA1.out.po.bel
              rw [hbt] at e4
              clear hts htl htw hpa2 pp0 pp1 pp2 hroom hp hbt
              go_wp2_with (first
                | (go_at_call 13; (with_reducible refine (put_pk HOK.out N _ n 4 ts _ HA1.out.po.mp HTL.out HR4.out HTW.out (by have := HN4.out; omega) HN4.out.1).mono ?_); rintro e w6 hn; obtain ⟨X, rfl, hx, hp6, hb6⟩ := PKX.of_new HA1.out.po hn (at_no HLT.out.1) (at_no HLT.out.2.1); have HP6 := Lib.hid hp6; have HX6 := Lib.hid hx; have HB6 := Lib.hid hb6; clear hn hx hp6 hb6)
                | (go_at_call 12; (with_reducible refine (whole_pk HP6.out HX6.out (HA1.out.hlo HB6.out.size) (pw_put c ts HTW.out) (by omega) (by omega)).mono ?_); rintro e w7 ⟨rfl, ho⟩; rw [HP.out]; have HA7 := Lib.hid (HA1.out.ran HB6.out ho); have HRW := Lib.hid (row_ran HB6.out ho HR4.out HBT.out HRT.out.1 (by have := HTL.out; have := HN4.out; omega) (.cells #[.slice (some ⟨wc.heap.size, 0, none⟩) n 4] 25)); clear ho; have HA8 := Lib.hid (HA7.out.step (below_alloc0 (Below.refl _ _) (.cells #[.slice (some ⟨wc.heap.size, 0, none⟩) n 4] 25))))
                | (at_builtin; refine append_v (o' := o1) rfl _ _ elR rfl HA8.out.l (new_cell _ _ _) rfl (by rw [List.length_map]; have := HNL.out; omega) rfl rfl ?_; intro v' w9 hg; obtain ⟨o1', h9⟩ := grow_row HA8.out HTL.out HBT.out HRT.out HRW.out hg; obtain ⟨A9, c9, hv9⟩ := h9.llen; rw [List.length_append, ← HNL.out] at hv9; subst hv9; have H9 := Lib.hid h9; clear hg h9)
                | fail)
              go_roundw
              case rel => exact ⟨j + 1, _, o1', o2, rows ++ [(bt, ts)], out, by omega, by go_num, H9.out.more (by omega), by have := HPA2.out; simpa using this, by rw [pruns_len]; exact HLN.out⟩
              case measure => simp [intOf]; omega
      · obtain rfl : j = np := by omega
        clear hlt
        go_wp2_with (fail)
        go_ret
        exact ⟨rfl, (show Bw w c _ from HAS.out.po.bel).fin⟩
end Go.Proofs.Ytbpfkhpnfkbacaa
