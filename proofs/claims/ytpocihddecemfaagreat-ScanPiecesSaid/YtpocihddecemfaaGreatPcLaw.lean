/- The law of all tasks of a node: walked. -/
import Derived.Test.YtpocihddecemfaaGreatJ25
import Derived.IntWalk
namespace Go.Proofs.YtpocihddecemfaaGreat
open Go.RowKit
set_option linter.unusedVariables false
set_option linter.unusedSimpArgs false
set_option maxRecDepth 100000
open Lay (plcc plc shOf packN nodesN OkC Cfg Norm firstV Rep lenL slotsOf kindV)

/-- Between two tasks. -/
structure Pc (B S D N : Nat) (c : Cfg) (w0 w : World) (u : Int) (rm SB : Nat) (n : Nat) (L : List Int) (A : Nat) (sl : Nat) : Prop where
  po : PO B S D N c w0 w L (4000 + 500 * (n : Int))
  ln : L.length = lenL (shOf c)
  aa : A1 (pkn c) (dqn c) (gOf c) (eOf c 0) L (300 * (n : Int)) A aIdle 0
  hd : L.getD (plcc c 14 u 0).toNat 0 = slotsOf (kindV c u)
  mks : ∀ x, 1 ≤ x → x ≤ nodesN c → L.getD (plcc c 16 x 0).toNat 0 = 5
  row : RowI w SB (ones rm sl)
  an : A ≤ n
theorem Pc.step {B S D N : Nat} {c : Cfg} {w0 w w' : World} {u : Int} {rm SB n : Nat} {L : List Int} {A sl : Nat} (h : Pc B S D N c w0 w u rm SB n L A sl) (hb : Below w.heap.size w w') : Pc B S D N c w0 w' u rm SB n L A sl :=
  ⟨h.po.step hb, h.ln, h.aa, h.hd, h.mks, h.row.below hb, h.an⟩

set_option maxHeartbeats 16000000 in
theorem walkPieces (c : Cfg) (v : Int) (F : Option Addr) (fn fc : Nat) (zf : List Int) (w : World) (hv : (Lit.int .u8 v).wf = true) (hF : IsRow .u64 w F fn fc zf) :
    Calls Tryz.prog 5 #[Lay.cfgV c, .int .u8 v, .slice F fn fc] w fun e w' => e = .returned (.bool true) ∧ Below w.heap.size w w' := by
  obtain ⟨v0, v1⟩ : 0 ≤ v ∧ v ≤ 255 := by
    simp [Lit.wf, IntKind.min, IntKind.max, IntKind.bits, IntKind.signed] at hv; omega
  obtain ⟨fs, hfn, hfr, hfx, hfm⟩ := row_words hF
  have HFN := Lib.hid hfn; have HFR := Lib.hid hfr; have HFX := Lib.hid hfx
  have HB := Lib.hid (Bw.start w c)
  obtain ⟨q0, q1, q2, q3, q4, q5, q6, q7, q8, q9, q10, q11⟩ := (Bw.start w c).cfg
  have HV := Lib.hid (And.intro v0 v1)
  clear hv hF hfn hfr hfx v0 v1
  by_cases hb1 : 40 < fn
  · have d1 : decide ((fn : Int) > 40) = true := by simp; omega
    clear hb1
    go_enter Tryz.func5, Tryz.ntmps5
    go_wp2_with (first
      | (go_at_call 7; (with_reducible refine (awake_true _).mono ?_); rintro e w1 ⟨rfl, hb⟩; have HB := Lib.hid (HB.out.step hb); clear hb q0 q1 q2 q3 q4 q5 q6 q7 q8 q9 q10 q11; obtain ⟨q0, q1, q2, q3, q4, q5, q6, q7, q8, q9, q10, q11⟩ := HB.out.cfg)
      | (go_at_call 8; (with_reducible refine (small_any c _).mono ?_); rintro e w2 ⟨b, rfl, hs, hb⟩; have HB := Lib.hid (HB.out.step hb); clear hb; cases b)
      | fail)
    all_goals go_ret
    all_goals exact ⟨rfl, HB.out.fin⟩
  by_cases hb2 : fn = 0
  · subst hb2
    go_enter Tryz.func5, Tryz.ntmps5
    go_wp2_with (first
      | (go_at_call 7; (with_reducible refine (awake_true _).mono ?_); rintro e w1 ⟨rfl, hb⟩; have HB := Lib.hid (HB.out.step hb); clear hb q0 q1 q2 q3 q4 q5 q6 q7 q8 q9 q10 q11; obtain ⟨q0, q1, q2, q3, q4, q5, q6, q7, q8, q9, q10, q11⟩ := HB.out.cfg)
      | (go_at_call 8; (with_reducible refine (small_any c _).mono ?_); rintro e w2 ⟨b, rfl, hs, hb⟩; have HB := Lib.hid (HB.out.step hb); clear hb; cases b)
      | fail)
    all_goals go_ret
    all_goals exact ⟨rfl, HB.out.fin⟩
  have d1 : decide ((fn : Int) > 40) = false := by simp; omega
  have d2 : ((fn : Int) == 0) = false := by rw [beq_eq_false_iff_ne]; omega
  have hf40 : fn ≤ 40 := by omega
  clear hb1 hb2
  obtain ⟨vq, hvq⟩ : ∃ vq : Nat, v = (vq : Int) := ⟨v.toNat, by have := HV.out; omega⟩
  subst hvq
  go_enter Tryz.func5, Tryz.ntmps5
  go_upto_region 9 with (first
    | (go_at_call 7; (with_reducible refine (awake_true _).mono ?_); rintro e w1 ⟨rfl, hb⟩; have HB := Lib.hid (HB.out.step hb); clear hb q0 q1 q2 q3 q4 q5 q6 q7 q8 q9 q10 q11; obtain ⟨q0, q1, q2, q3, q4, q5, q6, q7, q8, q9, q10, q11⟩ := HB.out.cfg)
    | (go_at_call 8; (with_reducible refine (small_any c _).mono ?_); rintro e w2 ⟨b, rfl, hs, hb⟩; have HB := Lib.hid (HB.out.step hb); clear hb q0 q1 q2 q3 q4 q5 q6 q7 q8 q9 q10 q11; obtain ⟨q0, q1, q2, q3, q4, q5, q6, q7, q8, q9, q10, q11⟩ := HB.out.cfg; have HSS := Lib.hid hs; clear hs; cases b)
    | (go_at_call 9; (with_reducible refine (Lay.new_yes (HSS.out trivial).1 _).mono ?_); rintro e w3 ⟨N, rfl, hm, hb⟩; have HOK := Lib.hid (HSS.out trivial).1; have HM := Lib.hid hm; have HB := Lib.hid (HB.out.step hb); have HB3 := HB; clear hb hm q0 q1 q2 q3 q4 q5 q6 q7 q8 q9 q10 q11)
    | (go_at_call 12; (with_reducible refine (filled_any HOK.out N F fn fc fs _ HM.out HFN.out (HB.out.reads HFR.out) HFX.out (by omega)).mono ?_); rintro e w4 ⟨S, D, L0, L, rfl, hrep, hfl, hpo, hb⟩; have HB := Lib.hid (HB.out.step hb); have HRE := Lib.hid hrep; have HFL := Lib.hid hfl; have HPO := Lib.hid hpo; clear hrep hfl hpo hb)
    | fail)
  · go_ret
    exact ⟨rfl, HB.out.fin⟩
  obtain ⟨nn, hnn⟩ : ∃ nn : Nat, nodesN c = (nn : Int) := ⟨(nodesN c).toNat, by have := nodes60 HOK.out; omega⟩
  have hn1 : ¬ nn = 0 := by have := nodes_pos HOK.out; omega
  have hn60 : nn ≤ 60 := by have := nodes60 HOK.out; omega
  obtain ⟨nd, hnd⟩ : ∃ nd, nd = vq % nn := ⟨_, rfl⟩
  have hndl : nd < nn := by rw [hnd]; exact Nat.mod_lt _ (by omega)
  have hrem : ((vq : Nat) : Int).tmod (nn : Int) = (nd : Int) := by rw [Int.tmod_eq_emod_of_nonneg (by omega), hnd]; rfl
  have hvw : IntKind.i64.wrap ((vq : Nat) : Int) = (vq : Int) := IntWalk.i64_in _ (by have := HV.out; omega)
  obtain ⟨u, hu⟩ : ∃ u : Int, u = (nd : Int) + 1 := ⟨_, rfl⟩
  have huw : IntKind.i64.wrap ((nd : Int) + 1) = u := by rw [hu]; exact IntWalk.i64_in _ (by omega)
  have HNN := Lib.hid hnn
  have HU := Lib.hid (show 1 ≤ u ∧ u ≤ nodesN c by rw [hnn]; omega)
  have hu60 : 1 ≤ u ∧ u ≤ 60 := by omega
  have hu32 : IntKind.u32.wrap u = u := by rw [IntKind.wrap_u32]; exact Int.emod_eq_of_lt (by omega) (by omega)
  have HUW : Hid ((Lit.int .i64 u).wf = true) := Lib.hid (by simp [Lit.wf, IntKind.min, IntKind.max, IntKind.bits, IntKind.signed]; omega)
  have HU60 := Lib.hid hu60
  obtain ⟨rm, hrm⟩ : ∃ rm : Nat, slotsOf (kindV c u) = (rm : Int) := ⟨(slotsOf (kindV c u)).toNat, by have := Lay.slots_bd (kindV c u); omega⟩
  have hrb : rm ≤ 16 := by have := Lay.slots_bd (kindV c u); omega
  have hrw : IntKind.u64.wrap (rm : Int) = (rm : Int) := by rw [IntKind.wrap_u64]; exact Int.emod_eq_of_lt (by omega) (by omega)
  have HRM := Lib.hid hrm
  have HRB := Lib.hid (show 0 ≤ (rm : Int) ∧ (rm : Int) ≤ 18446744073709551615 by omega)
  clear hnn hnd hndl hu hu60 hrm
  go_upto_region 12 with (first
    | (go_at_call 24; (with_reducible refine (Lay.nodes_m HOK.out N _ HPO.out.mp).mono ?_); rintro e w5 ⟨rfl, hb⟩; rw [HNN.out]; have HP1 := Lib.hid (HPO.out.step hb); clear hb)
    | (go_at_call 25; (with_reducible refine (Lay.room_m N u _ HP1.out.mp).mono ?_); rintro e w6 ⟨rfl, hb⟩; rw [HRM.out]; have HP2 := Lib.hid (HP1.out.step hb); clear hb)
    | (go_at_call 26; (with_reducible refine (Lay.header_m HOK.out N u HUW.out _ HP2.out.mp).mono ?_); rintro e w7 ⟨rfl, hb⟩; have HP3 := Lib.hid (HP2.out.step hb); clear hb)
    | (go_at_call 21; (with_reducible refine (put_po HP3.out (plcc c 14 u 0) (rm : Int) HRB.out (by decide)).mono ?_); rintro e w8 ⟨rfl, hp, _⟩; have HP4 := Lib.hid hp; clear hp)
    | fail)
  have HBW : Hid (∀ w', Below w3.heap.size w3 w' → Bw w c w') := Lib.hid (fun w' hb => HB3.out.step hb)
  have HL1 : Hid (FL c L0 (ptq L (plcc c 14 u 0) (rm : Int))) := Lib.hid (HFL.out.put ⟨u, HU.out.1, HU.out.2, .inl rfl⟩)
  obtain ⟨L1, hL1⟩ : ∃ L1, L1 = ptq L (plcc c 14 u 0) (rm : Int) := ⟨_, rfl⟩
  have hp4 := HP4.out; have hl1 := HL1.out
  rw [← hL1] at hp4 hl1
  have p14 := plc_in HOK.out (k := 14) (by omega) (by omega) HU.out.1 HU.out.2
  have hhd : L1.getD (plcc c 14 u 0).toNat 0 = slotsOf (kindV c u) := by
    have lt := Lay.plc_lt (s := shOf c) (n14 u) p14
    rw [hL1, pt_same ⟨p14, by rw [HFL.out.len, HRE.out.1]; exact lt⟩]
    exact HRM.out.symm
  clear HP4 HL1 HP1 HP2 HP3 HPO HB HB3 HM HSS
  have HP4 := Lib.hid (hp4.more (show (2000 + 1 : Int) ≤ 3001 by decide))
  have HHD := Lib.hid hhd; have HP14 := Lib.hid p14
  have HL1 := Lib.hid hl1
  have HLEN := Lib.hid (show L1.length = lenL (shOf c) from hl1.len.trans HRE.out.1)
  have HMR := Lib.hid (show (0 : Int) < c.mr from by have := HOK.out.k0; omega)
  clear hL1 hp4 hl1 hhd p14
  go_wp2_with (fail)
  go_loopw [14] (fun s14 wr => ∃ (q : Nat) (L : List Int), s14 = .int .i64 (q : Int) ∧ 1 ≤ q ∧ q ≤ nn + 1 ∧ PO w3.heap.size S D N c w3 wr L (3000 + (q : Int)) ∧ MK c 5 (q : Int) L1 L) (fun s14 _ => 100 - (intOf s14).toNat)
  case atStart => exact ⟨1, L1, rfl, by omega, by omega, HP4.out, MK.refl _ _ _⟩
  case round =>
    clear HP4
    obtain ⟨q, L, rfl, hq1, hq2, hpo, hmk⟩ := hrel
    have HPO := Lib.hid hpo; have HMK := Lib.hid hmk
    clear hpo hmk
    by_cases hqn : q ≤ nn
    · have hle : (q : Int) ≤ (nn : Int) := by omega
      have HQW : Hid ((Lit.int .i64 (q : Int)).wf = true) := Lib.hid (by simp [Lit.wf, IntKind.min, IntKind.max, IntKind.bits, IntKind.signed]; omega)
      have eq1 : IntKind.i64.wrap ((q : Int) + 1) = (q : Int) + 1 := IntWalk.i64_in _ (by omega)
      have HM1 := Lib.hid (HMK.out.one HOK.out HLEN.out (by omega) (by rw [HNN.out]; omega))
      go_wp2_with (first
        | (go_at_call 24; (with_reducible refine (Lay.nodes_m HOK.out N _ HPO.out.mp).mono ?_); rintro e w5 ⟨rfl, hb⟩; rw [HNN.out]; have HP1 := Lib.hid (HPO.out.step hb); clear hb)
        | (go_at_call 23; (with_reducible refine (Lay.mark_m HOK.out N _ HQW.out _ HP1.out.mp).mono ?_); rintro e w6 ⟨rfl, hb⟩; have HP2 := Lib.hid (HP1.out.step hb); clear hb)
        | (go_at_call 21; (with_reducible refine (put_po HP2.out (plcc c 16 (q : Int) 0) 5 (by decide) (by omega)).mono ?_); rintro e w7 ⟨rfl, hp, _⟩; have HP3 := Lib.hid hp; clear hp)
        | fail)
      go_roundw
      case rel => exact ⟨q + 1, _, by go_num, by omega, by omega, HP3.out.more (by omega), HM1.out⟩
      case measure => simp [intOf]; omega
    · have hle : ¬ (q : Int) ≤ (nn : Int) := by omega
      obtain rfl : q = nn + 1 := by omega
      clear hqn hq1 hq2
      have hmkr : ∀ w : World, (Instr.makeSlice 51 (.int .i64 (rm : Int)) (.int .i64 (rm : Int))).run Tryz.prog w = .ok (.slice (some ⟨w.heap.size, 0, none⟩) rm rm) (w.alloc (.cells ((List.replicate rm (0 : Int)).map (Value.int .i64)).toArray 3)) := fun w => make_ints rm w (by omega)
      obtain ⟨Z, hZ⟩ : ∃ Z, Z = ((List.replicate rm (0 : Int)).map (Value.int .i64)).toArray := ⟨_, rfl⟩
      rw [← hZ] at hmkr
      have HZ := Lib.hid hZ
      clear hZ
      go_upto_region 17 with (first
        | (go_at_call 24; (with_reducible refine (Lay.nodes_m HOK.out N _ HPO.out.mp).mono ?_); rintro e w5 ⟨rfl, hb⟩; rw [HNN.out]; have HP1 := Lib.hid (HPO.out.step hb); clear hb)
        | fail)
      have hpc : Pc w3.heap.size S D N c w3 (w5.alloc (.cells Z 3)) u rm w5.heap.size 0 L 0 0 := by
        have a0 := ((a1_first HOK.out (Int.le_refl 0) HMR.out HRE.out).fl HOK.out (Int.le_refl 0) HMR.out HL1.out).marks HOK.out (Int.le_refl 0) HMR.out HMK.out
        refine ⟨(HP1.out.step (below_alloc0 (Below.refl _ _) _)).more (by omega), HMK.out.len.trans HLEN.out, a0, ?_, fun x h0 h1 => HMK.out.put x h0 (by rw [HNN.out] at h1; omega) h1, ?_, Nat.le_refl _⟩
        · rw [HMK.out.same _ HP14.out (fun x e => by have := one_place (n14 u) (n16 x) HP14.out e; omega)]; exact HHD.out
        · rw [HZ.out, ones_0]; exact RowI.new w5 rm
      obtain ⟨SB, hSB⟩ : ∃ SB, SB = w5.heap.size := ⟨_, rfl⟩
      have HSB := Lib.hid (show w3.heap.size ≤ SB ∧ SB ≠ S ∧ SB ≠ D ∧ SB ≠ N by have := HP1.out.lt; have := HP1.out.bel.size; omega)
      rw [← hSB] at hpc ⊢
      have HPC := Lib.hid hpc
      clear hpc hSB hmkr HPO HP1 HMK
      go_wp2_with (fail)
      go_loopw [16, 17] (fun s16 s17 wr => ∃ (n sl A : Nat) (L : List Int), s17 = .int .i64 (n : Int) ∧ n ≤ rm + 1 ∧ Pc w3.heap.size S D N c w3 wr u rm SB n L A sl ∧
        ((s16 = .int .i64 (sl : Int) ∧ (sl : Int) = (n : Int) * c.ch ∧ (n = 0 ∨ sl < rm) ∧ sl ≤ rm) ∨ (s16 = .int .i64 (-1) ∧ sl = rm))) (fun _ s17 _ => 20 - (intOf s17).toNat)
      case atStart => exact ⟨0, 0, 0, L, rfl, by omega, HPC.out, .inl ⟨rfl, by simp, .inl rfl, by omega⟩⟩
      case round =>
        clear HPC L
        obtain ⟨n, sl, A, L, rfl, hn, hpc, hst⟩ := hrel
        have HPC := Lib.hid hpc
        clear hpc
        rcases hst with ⟨rfl, hsl, hs1, hs2⟩ | ⟨rfl, hsl⟩
        · have hch := HOK.out.h0
          have hnr : n ≤ rm := by
            have : (n : Int) * 1 ≤ (n : Int) * c.ch := Int.mul_le_mul_of_nonneg_left hch (by omega)
            omega
          have hnr2 : (n : Int) ≤ (rm : Int) := by omega
          have hs0 : (sl : Int) ≥ 0 := by omega
          have hs32 : IntKind.u32.wrap (sl : Int) = (sl : Int) := by rw [IntKind.wrap_u32]; exact Int.emod_eq_of_lt (by omega) (by omega)
          have HSL := Lib.hid (And.intro hsl (And.intro hs1 hs2))
          obtain ⟨tk, htk⟩ : ∃ tk, tk = u * 4294967296 + (sl : Int) := ⟨_, rfl⟩
          have HTK := Lib.hid htk
          have HTQ : Hid (tk / 4294967296 = u ∧ tk % 4294967296 = (sl : Int) ∧ 0 ≤ tk ∧ tk ≤ 18446744073709551615) := Lib.hid (by have := HU60.out; omega)
          clear htk hsl hs1 hch
          go_upto_region 22 with (first
            | (go_at_call 29; (with_reducible refine (pair_any u (sl : Int) (by have := HU60.out; omega) (by have := HU60.out; omega) (by omega) (by omega) _).mono ?_); rintro e w10 ⟨rfl, hb⟩; rw [← HTK.out]; have HP6 := Lib.hid (HPC.out.step hb); clear hb)
            | (go_at_call 14; (with_reducible refine (new_zo HP6.out.po 0 tk 5 HTQ.out.2.2.1 HTQ.out.2.2.2 cp00 aIdle).mono ?_); rintro e w11 ⟨X, rfl, hx, hp, hb⟩; rw [HTQ.out.1, HTQ.out.2.1] at hx; have HX := Lib.hid hx; have HP7 := Lib.hid (HP6.out.step hb); have HLO := Lib.hid (show S < w10.heap.size ∧ D < w10.heap.size ∧ N < w10.heap.size ∧ w3.heap.size ≤ w10.heap.size ∧ w10.heap.size ≤ w11.heap.size from ⟨HP6.out.po.lt.1, HP6.out.po.lt.2.1, HP6.out.po.lt.2.2, HP6.out.po.bel.size, hb.size⟩); have HSL2 := Lib.hid HP6.out.row.lt; clear hx hp hb)
            | fail)
          obtain ⟨k, hk⟩ : ∃ k, k = zkOf c 0 u (sl : Int) 5 L A 0 := ⟨_, rfl⟩
          have hsc : SC k L (300 * (n : Int)) A (zNew u (sl : Int) 5 cp00 aIdle) (sl : Int) [] (fun _ => False) 253 := by
            rw [hk]
            have hb16 := Lay.slots_bd (kindV c u)
            refine SC.start HOK.out (Int.le_refl _) HMR.out HU.out.1 HU.out.2 ⟨by omega, by rw [HRM.out]; omega⟩ ?_ (fun K hK hs => ?_) HP7.out.ln HP7.out.po.ww HP7.out.hd HP7.out.aa rfl cp00 aIdle
            · have an := HP7.out.an
              obtain ⟨hsl, hs1, hs2⟩ := HSL.out
              rcases hs1 with rfl | hs1
              · have := pk_room HOK.out
                have := nodes_pos HOK.out
                omega
              · have := pk_pieces HOK.out HU.out.1 HU.out.2 (n := n) (by rw [← hsl, HRM.out]; omega)
                omega
            · cases K with
              | nil => simp
              | cons x K =>
                have hx := hs x (by simp)
                have := HP7.out.mks x hx.1 hx.2.1
                omega
          have HK := Lib.hid (show k.b = (sl : Int) ∧ k.v = u ∧ k.T = toZ (rm : Int) (sl : Int) c.ch ∧ k.z.room k.v = (rm : Int) ∧ k.more = (if toZ (rm : Int) (sl : Int) c.ch < (rm : Int) then 1 else 0) ∧ k.A0 = A ∧ k.q = 0 from
            ⟨by rw [hk]; rfl, by rw [hk]; rfl, by rw [hk, ← HRM.out]; rfl, by rw [hk, ← HRM.out]; exact zg_room HOK.out HU.out.1 HU.out.2, by rw [hk, ← HRM.out]; rfl, by rw [hk]; rfl, by rw [hk]; rfl⟩)
          have HKM := Lib.hid (show ∀ x, 1 ≤ x → x ≤ nodesN c → k.M0 x = 5 from fun x h0 h1 => by rw [hk]; exact HP7.out.mks x h0 h1)
          have HKZ := Lib.hid (show k.z = zgOf c ∧ k.g = gOf c ∧ k.e = eOf c 0 ∧ k.n = pkn c ∧ k.r = dqn c from by rw [hk]; exact ⟨rfl, rfl, rfl, rfl, rfl⟩)
          have HSC := Lib.hid hsc
          clear hk hsc
          go_wp2_with (fail)
          obtain ⟨wo, rfl⟩ : ∃ wo : World, wo = wr := ⟨_, rfl⟩
          go_loopw [16, 19] (fun s16 s19 wr => ∃ (kk s A' : Nat) (L : List Int) (m : Zm), s19 = .int .i64 (kk : Int) ∧ s16 = .int .i64 (fvZ k m) ∧ m.pc ≠ 0 ∧
            SZ w3.heap.size S D N c w3 wr w10.heap.size X 0 k L (300 * (n : Int) + (kk : Int)) A' m (s : Int) [] (fun _ => False) (253 - (kk : Int)) (4000 + 500 * (n : Int) + (kk : Int)) ∧ RowI wr SB (ones rm s)) (fun _ s19 _ => 400 - (intOf s19).toNat)
          case atStart => exact ⟨0, sl, A, L, _, rfl, by simp [fvZ, zNew], by simp [zNew], ⟨HP7.out.po.more (by omega), HX.out, (zw_new c (by have := HU60.out; omega) (by omega) (by decide)).mono (by omega), HSC.out.more (by omega) (by omega), HLO.out, ⟨HKZ.out.1, HKZ.out.2.1, HKZ.out.2.2.1⟩, HP7.out.ln⟩, HP7.out.row⟩
          case round =>
            clear HP6 HP7 HX HSC
            obtain ⟨kk, s, A', L, m, rfl, rfl, hpc, hz, hrow⟩ := hrel
            have hkk := hz.sc.left hpc
            have HPC2 := Lib.hid hpc; have HZ := Lib.hid hz; have HRW := Lib.hid hrow
            have hk252 : kk ≤ 252 := by omega
            have hn17 : n ≤ 17 := by omega
            clear hpc hz hrow hkk
            have h400 : (kk : Int) < 400 := by omega
            go_upto_if 99 with (first
              | (go_at_call 17; (with_reducible refine (HZ.out.step HPC2.out (Int.le_refl _) HMR.out (by omega) (by omega)).mono ?_); rintro r w14 ⟨L', A2, m', s', K', rfl, hz, hev, hfv, uf⟩; have hK : K' = [] := (by have h1 := hz.sc.ok.hq K' hz.sc.kn.1 hz.sc.kn.2; rw [HK.out.2.2.2.2.2.2] at h1; exact List.eq_nil_of_length_eq_zero (Nat.le_zero.1 h1)); subst hK; obtain ⟨b, hbq⟩ : ∃ b, b = decide (m'.pc = 0) := ⟨_, rfl⟩; rw [← hbq]; have HBQ := Lib.hid hbq; have HZ1 := Lib.hid hz; have HEV := Lib.hid hev; have HFV := Lib.hid hfv; have HR1 := Lib.hid (HRW.out.keep (uf.block SB HRW.out.lt (fun e => by have := HSB.out; have := HSL2.out; omega))); clear hbq hz hev hfv uf)
              | fail)
            cases b
            · have hp0 : m'.pc ≠ 0 := by have := HBQ.out; simpa using this.symm
              have HP0 := Lib.hid hp0
              have ek : IntKind.i64.wrap ((kk : Int) + 1) = (kk : Int) + 1 := IntWalk.i64_in _ (by omega)
              have hev := HEV.out
              clear HBQ h400 HZ HEV
              rcases hev with ⟨_, _, _, e, _⟩ | ⟨e1, _, e2, e3, e4, _, e5⟩ | ⟨e1, _, e2, e3, _, e5⟩ | ⟨e1, _, _, e5⟩ | ⟨_, e, _⟩
              · simp at e
              · -- a slot
                have hsT : (s : Int) < (rm : Int) := by
                  have a := HZ1.out.sc.ok.T1
                  rw [HK.out.2.2.2.1] at a
                  omega
                have hsn : s < rm := by omega
                have hs0' : (0 : Int) ≤ (s : Int) := by omega
                have hfv := HFV.out.2 (by omega)
                subst e5
                have HE := Lib.hid (show evV m'.ek m'.ea m'.eb = evV 3 u (s : Int) by rw [e1, e2, e3, HK.out.2.1])
                have HSN := Lib.hid hsn
                clear e1 e2 e3 e4 hp0
                go_upto_region 32 with (first
                  | (go_at_call 19; (with_reducible refine (event_zo HZ1.out.zx).mono ?_); rintro r w15 ⟨rfl, hb⟩; rw [HE.out]; have HZ2 := Lib.hid ((HZ1.out.below hb).below (below_alloc0 (Below.refl _ _) (.cells #[.int .i64 3, .int .i64 0, .int .i64 u, .int .i64 (s : Int), .int .i64 0] 62))); have HR2 := Lib.hid ((HR1.out.below hb).below (below_alloc0 (Below.refl _ _) (.cells #[.int .i64 3, .int .i64 0, .int .i64 u, .int .i64 (s : Int), .int .i64 0] 62))); clear hb)
                  | fail)
                have hrc := HR2.out.cell (j := s) (by rw [ones_len]; exact hsn)
                rw [ones_at hsn, if_neg (Nat.lt_irrefl _)] at hrc
                have hrf := HR2.out.fro s
                have hr3 := HR2.out.set s 1
                rw [ones_set hsn] at hr3
                have HR3 := Lib.hid hr3
                have HZ3 := Lib.hid (HZ2.out.other (UF.set _ SB s (.int .i64 1)) (by have := HSB.out; have := HSL2.out; omega))
                have HFV2 := Lib.hid hfv
                clear hr3 hfv hsn
                go_wp2_with (fail)
                go_roundw
                case rel => exact ⟨kk + 1, s + 1, A2, L', m', by go_num, by rw [HFV2.out], HP0.out, HZ3.out.more (by omega) (by omega), HR3.out⟩
                case measure => simp [intOf]; omega
              · -- a further piece
                have hfv := HFV.out.1 e1
                subst e5
                have HE := Lib.hid (show evV m'.ek m'.ea m'.eb = evV 2 u k.T by rw [e1, e2, e3, HK.out.2.1])
                have HFV2 := Lib.hid hfv
                clear e1 e2 e3 hp0 hfv
                go_wp2_with (first
                  | (go_at_call 19; (with_reducible refine (event_zo HZ1.out.zx).mono ?_); rintro r w15 ⟨rfl, hb⟩; rw [HE.out]; have HZ2 := Lib.hid ((HZ1.out.below hb).below (below_alloc0 (Below.refl _ _) (.cells #[.int .i64 2, .int .i64 0, .int .i64 u, .int .i64 k.T, .int .i64 0] 62))); have HR2 := Lib.hid ((HR1.out.below hb).below (below_alloc0 (Below.refl _ _) (.cells #[.int .i64 2, .int .i64 0, .int .i64 u, .int .i64 k.T, .int .i64 0] 62))); clear hb)
                  | fail)
                go_roundw
                case rel => exact ⟨kk + 1, s, A2, L', m', by go_num, by rw [HFV2.out], HP0.out, HZ2.out.more (by omega) (by omega), HR2.out⟩
                case measure => simp [intOf]; omega
              · -- nothing is told
                have hfv := HFV.out.2 (by omega)
                subst e5
                obtain ⟨ea, hea⟩ : ∃ x, x = m'.ea := ⟨_, rfl⟩
                obtain ⟨eb, heb⟩ : ∃ x, x = m'.eb := ⟨_, rfl⟩
                have HE := Lib.hid (show evV m'.ek m'.ea m'.eb = evV 0 ea eb by rw [e1, hea, heb])
                have HFV2 := Lib.hid hfv
                clear e1 hp0 hfv hea heb
                go_wp2_with (first
                  | (go_at_call 19; (with_reducible refine (event_zo HZ1.out.zx).mono ?_); rintro r w15 ⟨rfl, hb⟩; rw [HE.out]; have HZ2 := Lib.hid ((HZ1.out.below hb).below (below_alloc0 (Below.refl _ _) (.cells #[.int .i64 0, .int .i64 0, .int .i64 ea, .int .i64 eb, .int .i64 0] 62))); have HR2 := Lib.hid ((HR1.out.below hb).below (below_alloc0 (Below.refl _ _) (.cells #[.int .i64 0, .int .i64 0, .int .i64 ea, .int .i64 eb, .int .i64 0] 62))); clear hb)
                  | fail)
                go_roundw
                case rel => exact ⟨kk + 1, s, A2, L', m', by go_num, by rw [HFV2.out], HP0.out, HZ2.out.more (by omega) (by omega), HR2.out⟩
                case measure => simp [intOf]; omega
              · exact absurd e hp0
            · have hp0 : m'.pc = 0 := by have := HBQ.out; simpa using this.symm
              have hsc := HZ1.out.sc
              have hs6 := hsc.s6 (.inr hp0)
              have hev := HEV.out
              have e5 : s' = (s : Int) ∧ m'.ek ≠ 2 := by
                rcases hev with ⟨_, e, _⟩ | ⟨_, e, _⟩ | ⟨_, e, _⟩ | ⟨_, e, _⟩ | ⟨e1, _, _, e5⟩
                · exact absurd hp0 e
                · exact absurd hp0 e
                · exact absurd hp0 e
                · exact absurd hp0 e
                · exact ⟨e5, by omega⟩
              have hfv := HFV.out.2 e5.2
              obtain ⟨hkb, hkv, hkT, hkr, hkm, hkA, hkq⟩ := HK.out
              obtain ⟨kz, kg, ke, kn, kr⟩ := HKZ.out
              have hsT : (s : Int) = k.T := by rw [← e5.1]; exact hs6
              have hT1 := hsc.ok.T1
              rw [hkr] at hT1
              obtain ⟨hsl, hs1, _⟩ := HSL.out
              have hTT : k.T < (rm : Int) → k.T = (sl : Int) + c.ch := fun hlt => by
                have h := hkT
                rw [toZ_is (by omega) (by omega) (by omega) HOK.out.h0 (by have := HOK.out.h1; omega)] at h
                rw [if_neg (show ¬ (rm : Int) < (sl : Int) by omega)] at h
                split at h <;> omega
              have hst : (fvZ k m = (s : Int) ∧ (s : Int) = ((n + 1 : Nat) : Int) * c.ch ∧ (n + 1 = 0 ∨ s < rm) ∧ s ≤ rm) ∨ (fvZ k m = -1 ∧ s = rm) := by
                rw [← hfv]
                unfold fvZ
                rw [if_neg (by omega), hkr]
                by_cases hlt : k.T < (rm : Int)
                · left
                  rw [if_pos hlt]
                  have := hTT hlt
                  have e : ((n + 1 : Nat) : Int) * c.ch = (n : Int) * c.ch + c.ch := by rw [Int.natCast_succ, Int.add_mul]; simp
                  exact ⟨hsT.symm, by omega, .inr (by omega), by omega⟩
                · right
                  rw [if_neg hlt]
                  exact ⟨rfl, by omega⟩
              obtain ⟨ra, ha, _⟩ := hsc.aa
              have hai : amOf m' = aIdle := by unfold amOf; rw [if_neg (by omega)]
              rw [hai, kn, kr, kg, ke] at ha
              have hpcn : Pc w3.heap.size S D N c w3 w14 u rm SB (n + 1) L' A2 s := by
                refine ⟨HZ1.out.po.more (by omega), HZ1.out.ln, (ha.more (by omega) (Int.le_refl _)).idle rfl rfl, ?_, fun x h0 h1 => ?_, HR1.out, ?_⟩
                · have h := hsc.wds.hd
                  rw [hkr, kz, hkv] at h
                  rw [HRM.out]; exact h
                · have h := (hsc.wds.ma x ⟨h0, by rw [kz, zg_nn HOK.out]; exact h1⟩).2 (by simp)
                  rw [kz, HKM.out x h0 h1] at h
                  exact h
                · have h := hsc.cnt
                  have hm := hsc.ok.more01
                  have an := HPC.out.an
                  rw [if_neg (by omega), hkA] at h
                  simp at h
                  omega
              have HPN := Lib.hid hpcn; have HST := Lib.hid hst
              clear hp0 hsc hs6 hev e5 hfv hkb hkv hkT hkr hkm hkA hkq kz kg ke kn kr hsT hT1 hsl hs1 hTT hst ha hai hpcn HZ HEV HBQ h400
              have en1 : IntKind.i64.wrap ((n : Int) + 1) = (n : Int) + 1 := IntWalk.i64_in _ (by omega)
              go_wp2_with (fail)
              go_roundw
              case rel =>
                refine ⟨n + 1, s, A2, L', by go_num, by omega, HPN.out, ?_⟩
                rcases HST.out with ⟨h, hh⟩ | ⟨h, hh⟩
                · exact .inl ⟨by rw [h], hh⟩
                · exact .inr ⟨by rw [h], hh⟩
              case measure => simp [intOf]; omega
        · subst hsl
          by_cases hnr : n ≤ sl
          · have hnr2 : (n : Int) ≤ (sl : Int) := by omega
            go_wp2_with (fail)
            go_loopw [21] (fun s21 wr => ∃ (j : Nat), j ≤ sl ∧ s21 = .int .i64 (j : Int) ∧ Pc w3.heap.size S D N c w3 wr u sl SB n L A sl) (fun s21 _ => 20 - (intOf s21).toNat)
            case atStart => exact ⟨0, Nat.zero_le _, rfl, HPC.out⟩
            case round =>
              clear HPC
              obtain ⟨j, hj, rfl, hpc⟩ := hrel
              have HPC := Lib.hid hpc
              clear hpc
              by_cases hlt : j < sl
              · have hlt2 : (j : Int) < (sl : Int) := by omega
                have hj0 : (0 : Int) ≤ (j : Int) := by omega
                have hrc := HPC.out.row.cell (j := j) (by rw [ones_len]; exact hlt)
                rw [ones_at hlt, if_pos hlt] at hrc
                have ej : IntKind.i64.wrap ((j : Int) + 1) = (j : Int) + 1 := IntWalk.i64_in _ (by omega)
                have HLT := Lib.hid hlt
                clear hlt hj
                go_wp2_with (fail)
                go_roundw
                case rel => exact ⟨j + 1, by have := HLT.out; omega, by go_num, HPC.out⟩
                case measure => simp [intOf]; have := HLT.out; omega
              · have hlt2 : ¬ (j : Int) < (sl : Int) := by omega
                clear hlt
                go_wp2_with (fail)
                go_ret
                exact ⟨rfl, (HBW.out _ HPC.out.po.bel).fin⟩
          · have hnr2 : ¬ (n : Int) ≤ (sl : Int) := by omega
            go_wp2_with (fail)
            go_loopw [21] (fun s21 wr => ∃ (j : Nat), j ≤ sl ∧ s21 = .int .i64 (j : Int) ∧ Pc w3.heap.size S D N c w3 wr u sl SB n L A sl) (fun s21 _ => 20 - (intOf s21).toNat)
            case atStart => exact ⟨0, Nat.zero_le _, rfl, HPC.out⟩
            case round =>
              clear HPC
              obtain ⟨j, hj, rfl, hpc⟩ := hrel
              have HPC := Lib.hid hpc
              clear hpc
              by_cases hlt : j < sl
              · have hlt2 : (j : Int) < (sl : Int) := by omega
                have hj0 : (0 : Int) ≤ (j : Int) := by omega
                have hrc := HPC.out.row.cell (j := j) (by rw [ones_len]; exact hlt)
                rw [ones_at hlt, if_pos hlt] at hrc
                have ej : IntKind.i64.wrap ((j : Int) + 1) = (j : Int) + 1 := IntWalk.i64_in _ (by omega)
                have HLT := Lib.hid hlt
                clear hlt hj
                go_wp2_with (fail)
                go_roundw
                case rel => exact ⟨j + 1, by have := HLT.out; omega, by go_num, HPC.out⟩
                case measure => simp [intOf]; have := HLT.out; omega
              · have hlt2 : ¬ (j : Int) < (sl : Int) := by omega
                clear hlt
                go_wp2_with (fail)
                go_ret
                exact ⟨rfl, (HBW.out _ HPC.out.po.bel).fin⟩
end Go.Proofs.YtpocihddecemfaaGreat
