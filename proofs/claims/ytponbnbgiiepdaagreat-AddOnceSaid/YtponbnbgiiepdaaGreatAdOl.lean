/- The law of two markers that put tasks somewhere: walked. -/
import Derived.Test.YtponbnbgiiepdaaGreatAdOf
import Derived.Test.YtponbnbgiiepdaaGreatPkH3
import Derived.Test.YtponbnbgiiepdaaGreatBools
import Derived.IntWalk
namespace Go.Proofs.YtponbnbgiiepdaaGreat
open Go.RowKit
set_option linter.unusedVariables false
set_option linter.unusedSimpArgs false
set_option maxRecDepth 100000
open Lay (plcc plc shOf packN nodesN OkC Cfg Norm firstV Rep lenL things)

theorem rep_zero (n t : Nat) : (List.replicate n (0 : Int)).getD t 0 = 0 := by
  rw [List.getD, List.getElem?_replicate]
  split <;> rfl
theorem mr_cell {w w' : World} {c : Cfg} (h : Bw w c w') : w'.cell? ⟨w.heap.size, 5, none⟩ = some (.int .i64 c.mr) := by
  obtain ⟨q0, q1, q2, q3, q4, q5, _⟩ := h.cfg; exact q5

set_option maxHeartbeats 16000000 in
theorem walkOnce (c : Cfg) (b : Int) (P : Option Addr) (np capP : Nat) (bs : List Bool) (w : World) (hb8 : (Lit.int .u8 b).wf = true) (hP : IsBools w P np capP bs) :
    Calls Tryz.prog 6 #[Lay.cfgV c, .int .u8 b, .slice P np capP] w fun e w' => e = .returned (.bool true) ∧ Below w.heap.size w w' := by
  obtain ⟨b0, b1⟩ : 0 ≤ b ∧ b ≤ 255 := by
    simp [Lit.wf, IntKind.min, IntKind.max, IntKind.bits, IntKind.signed] at hb8; omega
  obtain ⟨rP, lP, h1, h2⟩ := hP
  have hm1 : np ≤ maxLen := by omega
  have HRP := Lib.hid rP; have HLP := Lib.hid lP
  clear hb8 rP lP
  obtain ⟨many, hn⟩ : ∃ n : Nat, b % 6 = (n : Int) := ⟨(b % 6).toNat, by omega⟩
  have hn5 : many ≤ 5 := by omega
  have HB := Lib.hid (Bw.start w c)
  obtain ⟨q0, q1, q2, q3, q4, q5, q6, q7, q8, q9, q10, q11⟩ := (Bw.start w c).cfg
  by_cases hbig : 300 < np ∨ c.mr < 2
  · have hor : decide ((np : Int) > 300) = true ∨ (decide ((np : Int) > 300) = false ∧ decide (c.mr < 2) = true) := by
      by_cases h : 300 < np
      · exact .inl (by simp; omega)
      · exact .inr ⟨by simp; omega, by simp; omega⟩
    clear hbig
    rcases hor with d0 | ⟨d0, d1⟩
    · go_enter Tryz.func6, Tryz.ntmps6
      go_wp2_with (first
        | (go_at_call 8; (with_reducible refine (awake_true _).mono ?_); rintro e w1 ⟨rfl, hb⟩; have HB := Lib.hid (HB.out.step hb); clear hb q0 q1 q2 q3 q4 q5 q6 q7 q8 q9 q10 q11; obtain ⟨q0, q1, q2, q3, q4, q5, q6, q7, q8, q9, q10, q11⟩ := HB.out.cfg)
        | (go_at_call 9; (with_reducible refine (small_any c _).mono ?_); rintro e w2 ⟨b, rfl, hs, hb⟩; have HB := Lib.hid (HB.out.step hb); clear hb q0 q1 q2 q3 q4 q5 q6 q7 q8 q9 q10 q11; obtain ⟨q0, q1, q2, q3, q4, q5, q6, q7, q8, q9, q10, q11⟩ := HB.out.cfg; cases b)
        | fail)
      all_goals go_ret
      all_goals exact ⟨rfl, HB.out.fin⟩
    · go_enter Tryz.func6, Tryz.ntmps6
      go_wp2_with (first
        | (go_at_call 8; (with_reducible refine (awake_true _).mono ?_); rintro e w1 ⟨rfl, hb⟩; have HB := Lib.hid (HB.out.step hb); clear hb q0 q1 q2 q3 q4 q5 q6 q7 q8 q9 q10 q11; obtain ⟨q0, q1, q2, q3, q4, q5, q6, q7, q8, q9, q10, q11⟩ := HB.out.cfg)
        | (go_at_call 9; (with_reducible refine (small_any c _).mono ?_); rintro e w2 ⟨b, rfl, hs, hb⟩; have HB := Lib.hid (HB.out.step hb); clear hb q0 q1 q2 q3 q4 q5 q6 q7 q8 q9 q10 q11; obtain ⟨q0, q1, q2, q3, q4, q5, q6, q7, q8, q9, q10, q11⟩ := HB.out.cfg; cases b)
        | fail)
      all_goals go_ret
      all_goals exact ⟨rfl, HB.out.fin⟩
  · have d0 : decide ((np : Int) > 300) = false := by simp; omega
    have d1 : decide (c.mr < 2) = false := by simp; omega
    have hsm : np ≤ 300 ∧ 2 ≤ c.mr := by omega
    have HSM := Lib.hid hsm
    have hnp : np ≤ 300 := hsm.1
    have hmp := make_ptrs2
    have hm4 := make_ints40
    obtain ⟨U, hU⟩ : ∃ U, U = (ints .i64 (List.replicate 40 0)).toArray := ⟨_, rfl⟩
    rw [← hU] at hm4
    have HU := Lib.hid hU
    clear hU hbig hsm
    go_enter Tryz.func6, Tryz.ntmps6
    go_wp2_with (first
      | (go_at_call 8; (with_reducible refine (awake_true _).mono ?_); rintro e w1 ⟨rfl, hb⟩; have HB := Lib.hid (HB.out.step hb); clear hb q0 q1 q2 q3 q4 q5 q6 q7 q8 q9 q10 q11; obtain ⟨q0, q1, q2, q3, q4, q5, q6, q7, q8, q9, q10, q11⟩ := HB.out.cfg)
      | (go_at_call 9; (with_reducible refine (small_any c _).mono ?_); rintro e w2 ⟨b, rfl, hs, hb⟩; have HB := Lib.hid (HB.out.step hb); clear hb q0 q1 q2 q3 q4 q5 q6 q7 q8 q9 q10 q11; obtain ⟨q0, q1, q2, q3, q4, q5, q6, q7, q8, q9, q10, q11⟩ := HB.out.cfg; have HSS := Lib.hid hs; clear hs; cases b)
      | (go_at_call 10; (with_reducible refine (Lay.new_yes (HSS.out trivial).1 _).mono ?_); rintro e w3 ⟨N, rfl, hm, hb⟩; have HOK := Lib.hid (HSS.out trivial).1; have HM := Lib.hid hm; have HB := Lib.hid (HB.out.step hb); clear hb hm q0 q1 q2 q3 q4 q5 q6 q7 q8 q9 q10 q11)
      | (go_at_call 14; (with_reducible refine (first_any HOK.out N _ HM.out).mono ?_); rintro e w4 ⟨G, n', L, rfl, hn, hr, hrep, hb⟩; have HB := Lib.hid (HB.out.step hb); have HM := Lib.hid (HM.out.below hb); have HN := Lib.hid hn; have HR := Lib.hid hr; have HRE := Lib.hid hrep; have HLE := Lib.hid (first_len HOK.out hrep); clear hb hn hr hrep)
      | (go_at_call 13; (with_reducible refine (new_any _ _ _ L _ HN.out HR.out (by have := HN.out; have := HLE.out; omega)).mono ?_); rintro e w5 hs; obtain ⟨S, D, rfl, hpo, hb⟩ := PO.start (B := w.heap.size + 1) (w0 := wcf w c) HB.out (by simp) HM.out HOK.out (first_ww HOK.out HRE.out) hs; have HPO := Lib.hid hpo; clear hs hpo hb)
      | fail)
    · go_ret
      exact ⟨rfl, HB.out.fin⟩
    have hq := HA.first (len := np) HPO.out HRE.out hnp HSM.out.2 hn5
    obtain ⟨W0, hW0⟩ : ∃ W0, W0 = ((w5.alloc (.cells #[.int .i64 (many : Int), .int .i64 (many : Int)] 3)).alloc (.cells #[.pointer none, .pointer none] 44)) := ⟨_, rfl⟩
    rw [← hW0] at hq ⊢
    obtain ⟨q, hqq⟩ : ∃ q, q = qa S D N w5.heap.size := ⟨_, rfl⟩
    have ec1 : S = q.S := by rw [hqq]; rfl
    have ec2 : N = q.N := by rw [hqq]; rfl
    have ec3 : w5.heap.size = q.LF := by rw [hqq]; rfl
    have ec4 : w5.heap.size + 1 = q.WK := by rw [hqq]; rfl
    rw [← hqq] at hq
    have HQ0 := Lib.hid hq
    have HPK := Lib.hid (And.intro (pkn_is HOK.out) (Lay.bds HOK.out).p1)
    clear hq hW0 hqq
    rw [ec4, ec3, ec2, ec1]
    clear ec1 ec2 ec3 ec4 HN HR HLE HM HB HSS HRE HPO hn
    go_loopw [15, 16] (fun s15 s16 wr => ∃ (i : Nat) (p : Int) (x : Va), i ≤ np + 160 ∧ s16 = .int .i64 (i : Int) ∧ s15 = .int .u64 p ∧ HA q c (w.heap.size + 1) (wcf w c) wr np i many p x) (fun _ s16 _ => np + 160 - (intOf s16).toNat)
    case atStart => exact ⟨0, 0, _, Nat.zero_le _, rfl, rfl, HQ0.out⟩
    case round =>
      obtain ⟨i, p, x, hi, rfl, rfl, hd⟩ := hrel
      have H0 := Lib.hid hd
      obtain ⟨p0, p10, hla⟩ := hd.bnd
      have HLA := Lib.hid hla
      clear hd HQ0 hla
      by_cases hlt : i < np + 160
      · have e1 : decide ((i : Int) < (np : Int) + 160) = true := by simp; omega
        obtain ⟨k0, hk0⟩ : ∃ k0 : Nat, (i : Int) % 2 = (k0 : Int) := ⟨((i : Int) % 2).toNat, by omega⟩
        have hk03 : k0 < 2 ∧ i % 2 = k0 := by omega
        have hi0 : (0 : Int) ≤ (i : Int) := by omega
        have hi9 : (i : Int) ≤ 460 := by omega
        go_upto_if 70 with (fail)
        go_cut [17] (fun s wx => ∃ k : Nat, k < 2 ∧ (np ≤ i → i % 2 = k) ∧ s = .int .i64 (k : Int) ∧ wx = wr)
        case first =>
          as_aux_lemma =>
            by_cases hl0 : i < np
            · have e2 : decide ((i : Int) < (np : Int)) = true := by simp; omega
              have hjx : i < bs.length := by have := HLP.out; omega
              obtain ⟨bb, off, rfl, hbl, hcl⟩ := HRP.out (by omega)
              have c1 := ((show Bw w c wr from H0.out.so.po.bel).fin.cell (p := ⟨bb, off + i, none⟩) hbl).trans (hcl i hjx)
              have hii : (i : Int) < (np : Int) := by omega
              cases hbv : bs.getD i false with
              | true =>
                rw [hbv] at c1
                clear hcl hbv
                go_wp2_with (fail)
                go_meet
                exact ⟨1, by omega, (fun h => by omega), rfl, rfl⟩
              | false =>
                rw [hbv] at c1
                clear hcl hbv
                go_wp2_with (fail)
                go_meet
                exact ⟨0, by omega, (fun h => by omega), rfl, rfl⟩
            · have hil : ¬ (i : Int) < (np : Int) := by omega
              go_wp2_with (fail)
              go_meet
              exact ⟨k0, hk03.1, fun _ => hk03.2, rfl, rfl⟩
        case rest =>
          obtain ⟨k, hk3, hkm, rfl, rfl⟩ := hcut
          have hk00 : (0 : Int) ≤ (k : Int) := by omega
          have hk31 : (k : Int) < 2 := by omega
          clear hk0 hk03 k0
          have HKW := Lib.hid (Lay.wf_i64 (v := (k : Int)) (by omega) (by omega))
          apply_assumption
          refine wp_seq_k ?_
          intro KB hKB
          go_cut [15] (fun s15 wx => ∃ (p : Int) (x : Va), s15 = .int .u64 p ∧ HA q c (w.heap.size + 1) (wcf w c) wx np i many p x ∧ x.lv k = true)
          case first =>
            as_aux_lemma =>
              by_cases hl : x.lv k = true
              · have cw := H0.out.cellW hk3
                rw [if_pos hl] at cw
                go_wp2_with (fail)
                go_meet
                exact ⟨p, x, rfl, H0.out, hl⟩
              · have cw := H0.out.cellW hk3
                rw [if_neg hl] at cw
                have clf := H0.out.so.lf.cell hk3
                have flf := H0.out.so.lf.fro k
                have hlk := HLA.out k hk3
                have HHL := Lib.hid hl
                try dsimp only at clf
                obtain ⟨z, hz⟩ : ∃ z, x.la k = z := ⟨_, rfl⟩
                rw [hz] at clf hlk
                have HZ := Lib.hid hz
                obtain ⟨z0, z1, z2⟩ := hlk
                clear hl hz
                by_cases h0 : z = 0
                · have HSK := Lib.hid (H0.out.skip hk3 HHL.out (HZ.out.trans h0) hlt hkm)
                  subst h0
                  go_wp2_with (fail)
                  go_roundw
                  case rel => exact ⟨i + 1, p, x, by omega, by go_num, rfl, HSK.out⟩
                  case measure => simp [intOf]; omega
                · have d3 : (z == 0) = false := by simpa using h0
                  have HS1 := Lib.hid (H0.out.so.setLF hk3 (z - 1))
                  have ew : IntKind.u64.wrap (p + 1) = p + 1 := by rw [IntKind.wrap_u64]; omega
                  have HTT : Hid ((p + 1) * 2 + (k : Int) = 2 * (p + 1) + (k : Int)) := Lib.hid (by omega)
                  have HEN : Hid (eOf c (k : Int) = eN c k) := Lib.hid rfl
                  go_wp2_with (first
                    | (go_at_call 16; (with_reducible refine (newA_yes HOK.out q.N (k : Int) ((p + 1) * 2 + (k : Int)) HKW.out _ HS1.out.po.mp hk00 (by have := HSM.out.2; omega)).mono ?_); rintro e w6 ⟨X, O', D', rfl, hp, hd, hb⟩; rw [HTT.out, HEN.out] at hp; have HS2 := Lib.hid (HS1.out.newK hk3 hb hp hd (AW.new (eok_of HOK.out (k : Int)) (by omega)) (by omega)); clear hp hd hb; have cwk := HS2.out.wk.cell hk3; have fwk := HS2.out.wk.fro k; have HS3 := Lib.hid (HS2.out.setWK hk3 (ptr X)))
                    | fail)
                  go_meet
                  have h3 := HS3.out
                  rw [← HZ.out] at h3
                  exact ⟨p + 1, _, rfl, H0.out.begun hk3 HHL.out (by have := HZ.out; omega) h3, by simp [upd2_same]⟩
          case rest =>
            as_aux_lemma =>
              clear H0 HLA p0 p10
              obtain ⟨p, x, rfl, hd, hl⟩ := hcut
              apply hKB
              have HLV := Lib.hid hl
              have cw := hd.cellW hk3
              rw [if_pos hl] at cw
              have hlen := astp_len (gOf c) x.L (x.ms k)
              have hst := hd.so.stepK hk3 hl (by omega)
              have H0 := Lib.hid hd
              by_cases hp : (astp (gOf c) x.L (x.ms k)).2.pc = 0
              · have HGO := Lib.hid (fun (w' : World) (O' D' : Nat → Prop) s => hd.gone (w' := w') (O' := O') (D' := D') hk3 hl hlt hkm s hp hlen)
                simp only [show decide ((astp (gOf c) x.L (x.ms k)).2.pc = 0) = true from by simpa using hp] at hst
                have HST := Lib.hid hst
                have HCW : Hid (x.wv k = ptr (x.A k)) := Lib.hid (by have := (hd.ln k hk3).wv; rw [if_pos hl] at this; exact this)
                clear hst hp hd hl hlen
                go_wp2_with (first
                  | (go_at_call 20; (with_reducible refine HST.out.mono ?_); rintro r w5 ⟨rfl, O', D', h⟩; have HS1 := Lib.hid h; have cw2 := h.wk.cell hk3; simp only at cw2; rw [HCW.out] at cw2; have fw2 := h.wk.fro k; clear h)
                  | fail)
                have h1 := HGO.out _ _ _ ((HS1.out.setWK hk3 (.pointer none)).kill (k := k))
                have H1 := Lib.hid h1
                clear h1
                go_roundw
                case rel => exact ⟨i + 1, p, _, by omega, by go_num, rfl, H1.out⟩
                case measure => simp [intOf]; omega
              · have HON := Lib.hid (fun (w' : World) (O' D' : Nat → Prop) s => hd.on (w' := w') (O' := O') (D' := D') hk3 hl hlt hkm s hp hlen)
                simp only [show decide ((astp (gOf c) x.L (x.ms k)).2.pc = 0) = false from by simpa using hp] at hst
                have HST := Lib.hid hst
                clear hst hp hd hl hlen
                go_wp2_with (first
                  | (go_at_call 20; (with_reducible refine HST.out.mono ?_); rintro r w5 ⟨rfl, O', D', h⟩; have H1 := Lib.hid (HON.out _ _ _ h); clear h)
                  | fail)
                go_roundw
                case rel => exact ⟨i + 1, p, _, by omega, by go_num, rfl, H1.out⟩
                case measure => simp [intOf]; omega
      · obtain rfl : i = np + 160 := by omega
        as_aux_lemma =>
          have e1 : decide (((np + 160 : Nat) : Int) < (np : Int) + 160) = false := by simp
          have cl0 := H0.out.so.lf.cell (k := 0) (by omega)
          have cl1 := H0.out.so.lf.cell (k := 1) (by omega)
          try dsimp only at cl0 cl1
          have l0 := HLA.out 0 (by omega)
          have l1 := HLA.out 1 (by omega)
          obtain ⟨z0, hz0⟩ : ∃ z, x.la 0 = z := ⟨_, rfl⟩
          obtain ⟨z1, hz1⟩ : ∃ z, x.la 1 = z := ⟨_, rfl⟩
          rw [hz0] at cl0 l0
          rw [hz1] at cl1 l1
          obtain ⟨a0, a1, a2⟩ := l0
          obtain ⟨c0, c1, c2⟩ := l1
          have HZ0 := Lib.hid hz0; have HZ1 := Lib.hid hz1
          have ez : IntKind.i64.wrap (z0 + z1) = z0 + z1 := IntWalk.i64_in _ (by omega)
          have em : IntKind.i64.wrap (2 * (many : Int)) = 2 * (many : Int) := IntWalk.i64_in _ (by omega)
          have HD := Lib.hid (H0.out.so.drew)
          have HCL : Hid (∀ wz, SA q c (w.heap.size + 1) (wcf w c) wz (4 * ((np + 160 : Nat) : Int)) x → wz.cell? ⟨q.LF, 0, none⟩ = some (.int .i64 z0) ∧ wz.cell? ⟨q.LF, 1, none⟩ = some (.int .i64 z1)) := Lib.hid (fun wz h => by
            have u0 := h.lf.cell (k := 0) (by omega)
            have u1 := h.lf.cell (k := 1) (by omega)
            try dsimp only at u0 u1
            rw [HZ0.out] at u0
            rw [HZ1.out] at u1
            exact ⟨u0, u1⟩)
          clear hz0 hz1 hlt hi
          by_cases hs : 0 < z0 + z1
          · have d2 : decide (z0 + z1 > 0) = true := by simpa using hs
            clear hs
            go_wp2_with (fail)
            go_quiet (fail)
            go_wp2_with (fail)
            go_ret
            exact ⟨rfl, below_drewN (Bw.fin H0.out.so.po.bel) _⟩
          · have d2 : decide (z0 + z1 > 0) = false := by simpa using hs
            have hz : z0 = 0 ∧ z1 = 0 := by omega
            have HPP := Lib.hid H0.out.p
            by_cases hbp : pkn c < 2 * many
            · have d3 : decide (2 * (many : Int) > packN c) = true := by have := HPK.out; simp; omega
              clear hs hbp hz
              go_wp2_with (fail)
              go_region_held3 (fun w' => w'.cell? ⟨q.LF, 0, none⟩ = some (.int .i64 z0) ∧ w'.cell? ⟨q.LF, 1, none⟩ = some (.int .i64 z1))
                (first | exact HCL.out _ HD2.out | exact HCL.out _ HD.out | go_keep)
                (first
                  | (go_at_call 29; (with_reducible refine (Lay.packets_m q.N _ HD.out.po.mp).mono ?_); rintro r w6 ⟨rfl, hb⟩; have HD2 := Lib.hid (HD.out.below hb); clear hb)
                  | fail)
              all_goals
                go_wp2_with (fail)
                go_ret
                exact ⟨rfl, Bw.fin HD2.out.po.bel⟩
            · have d3 : decide (2 * (many : Int) > packN c) = false := by have := HPK.out; simp; omega
              have hp2 : p = 2 * (many : Int) := by have := HPP.out.1; have := HZ0.out; have := HZ1.out; omega
              obtain ⟨H, Qs, hend⟩ := PF.end HOK.out H0.out.pf ⟨HZ0.out.trans hz.1, HZ1.out.trans hz.2⟩ (by omega)
              obtain ⟨hr40, hnd, hlen⟩ := hend.all p10
              rw [hp2] at hlen
              have HEN := Lib.hid hend; have HR40 := Lib.hid hr40; have HND := Lib.hid hnd; have HLEN := Lib.hid hlen
              clear hs hbp hz hp2 hend hr40 hnd hlen
              go_wp2_with (fail)
              go_region_held3 (fun w' => w'.cell? ⟨q.LF, 0, none⟩ = some (.int .i64 z0) ∧ w'.cell? ⟨q.LF, 1, none⟩ = some (.int .i64 z1))
                (first | exact HCL.out _ HD2.out | exact HCL.out _ HD.out | go_keep)
                (first
                  | (go_at_call 29; (with_reducible refine (Lay.packets_m q.N _ HD.out.po.mp).mono ?_); rintro r w6 ⟨rfl, hb⟩; have HD2 := Lib.hid (HD.out.below hb); clear hb)
                  | fail)
              have HPA := Lib.hid (HD2.out.po.step (below_alloc0 (Below.refl _ _) (.cells U 3)))
              have HSE0 : Hid ((w6.alloc (.cells U 3)).heap[w6.heap.size]? = some (.cells U 3 (0, 0))) := Lib.hid (Go.heap_alloc_new _ _)
              have HLT := Lib.hid HD2.out.po.lt
              have HZB := Lib.hid (And.intro HD2.out.po.lo HD2.out.po.bel.size)
              clear cl0 cl1 ez em HD d2 d3 HZ0 HZ1 HCL
              go_wp2_with (first
                | (go_at_call 17; (with_reducible refine (all_po HPA.out (by have := H0.out.ll; omega)).mono ?_); rintro r w8 ⟨rfl, hr, hpo, hb⟩; rw [show (w6.alloc (.cells U 3)).heap.size = w6.heap.size + 1 from by simp] at hr; have HP8 := Lib.hid hpo; have HR8 := Lib.hid hr; have HB8 := Lib.hid hb; clear hr hpo hb)
                | (go_at_call 30; (with_reducible refine (held_pk3 HOK.out q.N _ _ _ x.L _ HP8.out.mp (Eq.refl _) HR8.out HP8.out.ww (by have := H0.out.ll; omega)).mono ?_); rintro r w9 ⟨v, rfl, ⟨o, hq, ho⟩, hb⟩; rw [HEN.out.held] at hq; have HHQ := Lib.hid hq; have HHO := Lib.hid ho; have HB9 := Lib.hid hb; clear hq ho hb)
                | fail)
              have heq : EQ q c (w.heap.size + 1) (wcf w c) w9 (4 * ((np + 160 : Nat) : Int)) x.L o v H w6.heap.size (List.replicate 40 0) := by
                have hlt := HLT.out
                have hz := HZB.out
                have h8 := HB8.out.size
                have e6 : (w6.alloc (.cells U 3)).heap.size = w6.heap.size + 1 := by simp
                refine ⟨HP8.out.step HB9.out, HHQ.out, fun b e => ?_, ?_, by omega, by omega, by omega, by omega⟩
                · have := HHO.out b e
                  exact ⟨by omega, by omega, by omega, by omega, by omega⟩
                · rw [← HU.out]
                  exact (HB9.out.block _ (by omega)).trans ((HB8.out.block _ (by omega)).trans HSE0.out)
              obtain ⟨A0, cap0, hv0⟩ := heq.len
              obtain ⟨n0, hn0⟩ : ∃ n0, n0 = H.length := ⟨_, rfl⟩
              rw [← hn0] at hv0
              subst hv0
              obtain ⟨SE, hSE⟩ : ∃ SE, SE = w6.heap.size := ⟨_, rfl⟩
              rw [← hSE] at heq ⊢
              have HEQ := Lib.hid heq
              have HN0 := Lib.hid hn0
              clear heq hSE hn0 HHQ HHO HB8 HB9 HP8 HR8 HPA HSE0 HLT HZB HD2
              go_loopw [19, 20] (fun s19 s20 wx => ∃ (k : Nat) (A : Option Addr) (n cap : Nat) (o : Option Nat) (kk : Int), k ≤ 2 ∧ s20 = .int .i64 (k : Int) ∧ s19 = .slice A n cap ∧ n = (HQs H Qs k).length ∧ kk ≤ 3000 + 100 * (k : Int) ∧ EQ q c (w.heap.size + 1) (wcf w c) wx kk x.L o (.slice A n cap) (HQs H Qs k) SE (List.replicate 40 0)) (fun _ s20 _ => 2 - (intOf s20).toNat)
              case atStart => exact ⟨0, A0, n0, cap0, o, _, by omega, rfl, rfl, HN0.out, by omega, HEQ.out⟩
              case round =>
                clear HEQ HN0
                obtain ⟨k, A, n, cap, o, kk, hk2, rfl, rfl, hn, hkk, heq⟩ := hrel
                have HEQ := Lib.hid heq
                have HNN := Lib.hid hn
                have HKK := Lib.hid hkk
                clear heq hn hkk
                by_cases hk3 : k < 2
                · obtain ⟨mq, hmq⟩ : ∃ mq, mq = (Qs k).length := ⟨_, rfl⟩
                  have hm8 : mq ≤ 8 := by have := HEN.out.len k hk3; have := dq_rng HOK.out; have := dqn_is HOK.out; omega
                  have HBOT : Hid (ldq x.L (plcc c 9 (k : Int) 0) = (mq : Int)) := Lib.hid (by rw [hmq]; exact HEN.out.bot k hk3)
                  have HMQ := Lib.hid hmq
                  have HKW := Lib.hid (Lay.wf_i64 (v := (k : Int)) (by omega) (by omega))
                  have hkz : (k : Int) < 2 := by omega
                  have HK3 := Lib.hid hk3
                  clear hmq hk3
                  go_wp2_with (fail)
                  go_loopw [19, 21] (fun s19 s21 wx => ∃ (t : Nat) (A : Option Addr) (n cap : Nat) (o : Option Nat) (kk : Int), t ≤ mq ∧ s21 = .int .u64 (t : Int) ∧ s19 = .slice A n cap ∧ n = (HQs H Qs k ++ (Qs k).take t).length ∧ kk ≤ 3000 + 100 * (k : Int) + 3 * (t : Int) ∧ EQ q c (w.heap.size + 1) (wcf w c) wx kk x.L o (.slice A n cap) (HQs H Qs k ++ (Qs k).take t) SE (List.replicate 40 0)) (fun _ s21 _ => mq - (intOf s21).toNat)
                  case atStart => exact ⟨0, A, n, cap, o, kk, by omega, rfl, rfl, by simpa using HNN.out, by have := HKK.out; omega, by simpa using HEQ.out⟩
                  case round =>
                    clear HEQ HNN HKK
                    obtain ⟨t, A, n, cap, o, kk, htm, rfl, rfl, hn, hkk, heq⟩ := hrel
                    have HEQ := Lib.hid heq
                    have HNN := Lib.hid hn
                    have HKK := Lib.hid hkk
                    clear heq hn hkk
                    by_cases htq : t < mq
                    · have htl : t < (Qs k).length := by have := HMQ.out; omega
                      obtain ⟨y, hy⟩ : ∃ y, y = (Qs k).getD t 0 := ⟨_, rfl⟩
                      have hym : y ∈ Qs k := by rw [hy, List.getD, List.getElem?_eq_getElem htl]; exact List.getElem_mem htl
                      have hpar := HEN.out.par k HK3.out y hym
                      have hyr : 2 ≤ y ∧ y < 40 := HR40.out y (by
                        have : k = 0 ∨ k = 1 := by have := HK3.out; omega
                        rcases this with rfl | rfl <;> simp [HQs, hym])
                      obtain ⟨y0, y1⟩ := hyr
                      have HENT : Hid (ldq x.L (plcc c 10 (k : Int) (t : Int)) = y) := Lib.hid (by
                        have hdq := HEN.out.len k HK3.out
                        have hdd := dqn_is HOK.out
                        have hmr := HSM.out.2
                        have e := HEN.out.ent k HK3.out t htl
                        have e0 := ent_is HOK.out (i := (k : Int)) (j := 0) (by omega) (by have := HK3.out; omega) (by omega) (by have := dq_rng HOK.out; omega)
                        have e1 := ent_is HOK.out (i := (k : Int)) (j := (t : Int)) (by omega) (by have := HK3.out; omega) (by omega) (by omega)
                        rw [hy, ← e]
                        have : plcc c 10 (k : Int) (t : Int) = (eN c k).ent + (t : Int) := by show plcc c 10 (k : Int) (t : Int) = plcc c 10 (k : Int) 0 + (t : Int); omega
                        rw [this])
                      have HTK : Hid ((Qs k).take (t + 1) = (Qs k).take t ++ [y]) := Lib.hid (by rw [List.take_add_one, hy, List.getD, List.getElem?_eq_getElem htl]; simp)
                      have ew : IntKind.i64.wrap (t : Int) = (t : Int) := by rw [IntKind.wrap_i64]; omega
                      have hl5 : (ints .u64 (HQs H Qs k ++ (Qs k).take t)).length ≤ 100000 := by
                        unfold ints; rw [List.length_map, ← HNN.out]
                        have h1 := HNN.out
                        have h2 : (HQs H Qs k).length ≤ (HQs H Qs 2).length := by
                          have : k = 0 ∨ k = 1 := by have := HK3.out; omega
                          rcases this with rfl | rfl <;> simp [HQs]
                        have h3 := HLEN.out
                        have h4 := HMQ.out
                        rw [List.length_append, List.length_take] at h1
                        omega
                      have HL5 := Lib.hid hl5
                      have htt : (t : Int) < (mq : Int) := by omega
                      have ht0 : (0 : Int) ≤ (t : Int) := by omega
                      have hk0 : (0 : Int) ≤ (k : Int) := by omega
                      have HTQ := Lib.hid htq
                      clear hy hym htl hl5 htq
                      go_wp2_with (first
                        | (go_at_call 35; (with_reducible refine (Lay.bottom_m HOK.out q.N (k : Int) HKW.out _ HEQ.out.po.mp).mono ?_); rintro e w11 ⟨rfl, hb⟩; have HE1 := Lib.hid (HEQ.out.below hb); clear hb)
                        | (go_at_call 34; (with_reducible refine (HE1.out.load (plcc c 9 (k : Int) 0) (by have := HKK.out; omega)).mono ?_); rintro e w12 ⟨rfl, h⟩; rw [HBOT.out]; have HE2 := Lib.hid h; clear h)
                        | (go_at_call 36; (with_reducible refine (Lay.entry_m HOK.out q.N (k : Int) (t : Int) HKW.out _ HE2.out.po.mp).mono ?_); rintro e w13 ⟨rfl, hb⟩; have HE3 := Lib.hid (HE2.out.below hb); clear hb)
                        | (go_at_call 34; (with_reducible refine (HE3.out.load (plcc c 10 (k : Int) (t : Int)) (by have := HKK.out; omega)).mono ?_); rintro e w14 ⟨rfl, h⟩; rw [HENT.out]; have HE4 := Lib.hid (h.below (below_alloc0 (Below.refl _ _) (.cells #[.int .u64 y] 25))); clear h)
                        | (at_builtin; refine append_v (o' := o) rfl _ _ elU rfl HE4.out.row (new_cell _ _ _) rfl HL5.out rfl rfl ?_; intro v' w9 hg; obtain ⟨o9, h9⟩ := HE4.out.grew hg; obtain ⟨A9, c9, hv9⟩ := h9.len; obtain ⟨n9, hn9⟩ : ∃ n9, n9 = ((HQs H Qs k ++ (Qs k).take t) ++ [y]).length := ⟨_, rfl⟩; rw [← hn9] at hv9; subst hv9; have HE9 := Lib.hid h9; have HN9 := Lib.hid hn9; clear hg h9 hn9)
                        | fail)
                      go_roundw
                      case rel => exact ⟨t + 1, A9, n9, c9, o9, kk + 1 + 1, by have := HTQ.out; omega, by go_num, rfl, by rw [HTK.out, ← List.append_assoc]; exact HN9.out, by have := HKK.out; omega, by rw [HTK.out, ← List.append_assoc]; exact HE9.out⟩
                      case measure => have := HTQ.out; simp [intOf]; omega
                    · obtain rfl : t = mq := by omega
                      have hnl : ¬ (t : Int) < (t : Int) := by omega
                      have HTA : Hid (HQs H Qs k ++ (Qs k).take t = HQs H Qs (k + 1)) := Lib.hid (by rw [HMQ.out, List.take_length]; rfl)
                      clear htq htm
                      go_wp2_with (first
                        | (go_at_call 35; (with_reducible refine (Lay.bottom_m HOK.out q.N (k : Int) HKW.out _ HEQ.out.po.mp).mono ?_); rintro e w11 ⟨rfl, hb⟩; have HE1 := Lib.hid (HEQ.out.below hb); clear hb)
                        | (go_at_call 34; (with_reducible refine (HE1.out.load (plcc c 9 (k : Int) 0) (by have := HKK.out; omega)).mono ?_); rintro e w12 ⟨rfl, h⟩; rw [HBOT.out]; have HE2 := Lib.hid h; clear h)
                        | fail)
                      go_roundw
                      case rel => exact ⟨k + 1, A, n, cap, o, kk + 1, by have := HK3.out; omega, by go_num, rfl, by rw [← HTA.out]; exact HNN.out, by have := HKK.out; omega, by rw [← HTA.out]; exact HE2.out⟩
                      case measure => have := HK3.out; simp [intOf]; omega
                · obtain rfl : k = 2 := by omega
                  obtain ⟨M, hM⟩ : ∃ M, M = HQs H Qs 2 := ⟨_, rfl⟩
                  rw [← hM] at HEQ HNN HR40 HND HLEN
                  clear hM hk3 hk2 HKK HEN
                  have hn10 : n ≤ 10 := by have := HNN.out; have := HLEN.out; omega
                  go_wp2_with (fail)
                  go_loopw [23] (fun s23 wx => ∃ (j : Nat) (se : List Int), j ≤ n ∧ s23 = .int .i64 (j : Int) ∧ EQ q c (w.heap.size + 1) (wcf w c) wx kk x.L o (.slice A n cap) M SE se ∧ se.length = 40 ∧ ∀ t, t < 40 → se.getD t 0 = ((M.take j).count (t : Int) : Int)) (fun s23 _ => n - (intOf s23).toNat)
                  case atStart => exact ⟨0, _, Nat.zero_le _, rfl, HEQ.out, List.length_replicate, fun t ht => by rw [rep_zero, List.take_zero]; rfl⟩
                  case round =>
                    clear HEQ
                    obtain ⟨j, se, hj, rfl, heq, hl4, hsn⟩ := hrel
                    by_cases hjn : j < n
                    · have hjq : j < M.length := by have := HNN.out; omega
                      obtain ⟨b2, o2, cap2, hv2, hc2⟩ := heq.cell (by omega)
                      rw [← HNN.out] at hv2
                      injection hv2 with ev1 ev2 ev3
                      subst ev1 ev3
                      have cq := hc2 j hjq
                      have hym : M.getD j 0 ∈ M := by rw [List.getD, List.getElem?_eq_getElem hjq]; exact List.getElem_mem hjq
                      have hyr := HR40.out _ hym
                      obtain ⟨tN, htN⟩ : ∃ tN : Nat, M.getD j 0 = (tN : Int) := ⟨(M.getD j 0).toNat, by omega⟩
                      rw [htN] at cq hyr
                      have htn9 : tN < 40 := by omega
                      obtain ⟨vN, hvN⟩ : ∃ vN : Nat, vN = (M.take j).count (tN : Int) := ⟨_, rfl⟩
                      have hv9 : vN ≤ 10 := by
                        have := List.count_le_length (a := (tN : Int)) (l := M.take j)
                        have h2 := HNN.out
                        simp only [List.length_take] at this; omega
                      obtain ⟨cse, fse⟩ := heq.seen tN (by omega)
                      rw [hsn tN htn9, ← hvN] at cse
                      have HSET := Lib.hid (seen_put hl4 hsn hvN htn9)
                      have HS1 := Lib.hid (heq.set tN ((vN : Int) + 1))
                      have HL4 : Hid ((se.set tN ((vN : Int) + 1)).length = 40) := Lib.hid (by rw [List.length_set]; exact hl4)
                      have HTK : Hid (M.take (j + 1) = M.take j ++ [(tN : Int)]) := Lib.hid (by rw [List.take_add_one, ← htN, List.getD, List.getElem?_eq_getElem hjq]; simp)
                      have hj0 : (0 : Int) ≤ (j : Int) := by omega
                      have hj1 : (j : Int) < (n : Int) := by omega
                      have htc : (tN : Int) < 40 := by omega
                      have HJN := Lib.hid hjn
                      clear heq hsn hl4 hc2 htN hvN hym hyr hjn hjq
                      go_wp2_with (fail)
                      go_roundw
                      case rel => exact ⟨j + 1, _, by have := HJN.out; omega, by go_num, HS1.out, HL4.out, by rw [HTK.out]; exact HSET.out⟩
                      case measure => have := HJN.out; simp [intOf]; omega
                    · obtain rfl : j = n := by omega
                      have hone : ∀ t : Nat, t < 40 → wr.cell? ⟨SE, t, none⟩ = some (.int .i64 (M.count (t : Int) : Int)) := fun t h1 => by
                        have e := (heq.seen t (by omega)).1
                        rw [hsn t h1] at e
                        have e2 : M.take j = M := by rw [HNN.out]; exact List.take_length
                        rw [e2] at e
                        exact e
                      have HONE := Lib.hid hone
                      have HBF := Lib.hid (Bw.fin heq.po.bel)
                      have hle1 : ∀ a : Int, M.count a ≤ 1 := fun a => List.nodup_iff_count.1 HND.out a
                      have HLE1 := Lib.hid hle1
                      have hnl : ¬ (j : Int) < (j : Int) := by omega
                      clear hone heq hsn hl4 hj hjn hle1
                      obtain ⟨wo, hwo⟩ : ∃ wo : World, wo = wr := ⟨_, rfl⟩
                      rw [← hwo]
                      rw [← hwo] at HONE HBF
                      clear hwo
                      go_wp2_with (fail)
                      go_loopw [24, 25] (fun s24 s25 wx => ∃ t : Nat, t ≤ 40 ∧ s25 = .int .i64 (t : Int) ∧ s24 = .int .i64 (cntTo M t : Int) ∧ wx = wo) (fun _ s25 _ => 40 - (intOf s25).toNat)
                      case atStart => exact ⟨0, by omega, rfl, rfl, rfl⟩
                      case round =>
                        obtain ⟨t, ht2, rfl, rfl, rfl⟩ := hrel
                        have hcl := cntTo_le M (fun a ha => by have := HR40.out a ha; omega) t ht2
                        have hcl10 : cntTo M t ≤ 10 := by have := HNN.out; omega
                        by_cases hle : t < 40
                        · have c1 := HONE.out t hle
                          have hc1 := HLE1.out (t : Int)
                          obtain ⟨ct, hct⟩ : ∃ ct, M.count (t : Int) = ct := ⟨_, rfl⟩
                          obtain ⟨cs, hcs⟩ : ∃ cs, cntTo M t = cs := ⟨_, rfl⟩
                          have HSU : Hid (cntTo M (t + 1) = cs + ct) := Lib.hid (by rw [← hct, ← hcs]; rfl)
                          rw [hct] at c1 hc1
                          rw [hcs] at hcl10 ⊢
                          have ht0 : (0 : Int) ≤ (t : Int) := by omega
                          have ht9 : (t : Int) < 40 := by omega
                          have hct1 : ¬ ((ct : Int) > 1) := by omega
                          clear hct hcs hcl
                          go_wp2_with (fail)
                          go_roundw
                          case rel => exact ⟨t + 1, by omega, by go_num, by rw [HSU.out]; go_num, trivial⟩
                          case measure => simp [intOf]; omega
                        · obtain rfl : t = 40 := by omega
                          have hall := cntTo_all (n := 40) M (fun a ha => by have := HR40.out a ha; omega)
                          have hfin : ((cntTo M 40 : Nat) : Int) = 2 * (many : Int) := by rw [hall]; exact HLEN.out
                          rw [hfin]
                          clear hall hcl hcl10 hfin
                          have em : IntKind.i64.wrap (2 * (many : Int)) = 2 * (many : Int) := IntWalk.i64_in _ (by omega)
                          go_wp2_with (fail)
                          go_ret
                          exact ⟨rfl, HBF.out⟩
end Go.Proofs.YtponbnbgiiepdaaGreat
