/- The law of parts that are swept twice: walked. -/
import Derived.Test.YtbpkcoemehmpbaaSwOt
namespace Go.Proofs.Ytbpkcoemehmpbaa
open Go.RowKit
set_option linter.unusedVariables false
set_option linter.unusedSimpArgs false
set_option maxRecDepth 100000
open Lay (plcc plc shOf nodesN OkC Cfg Norm firstV Rep lenL partsC)

/-! Events. -/
@[go_sem ↓] theorem neq_ev (a0 a1 a2 a3 a4 b0 b1 b2 b3 b4 : Int) (w : World) : (binOp .neq 46 (.agg #[.int .i64 a0, .int .i64 a1, .int .i64 a2, .int .i64 a3, .int .i64 a4]) (.agg #[.int .i64 b0, .int .i64 b1, .int .i64 b2, .int .i64 b3, .int .i64 b4])).run Try.prog w = .ok (.bool (!decide (a0 = b0 ∧ a1 = b1 ∧ a2 = b2 ∧ a3 = b3 ∧ a4 = b4))) w := by
  by_cases h0 : a0 = b0 <;> by_cases h1 : a1 = b1 <;> by_cases h2 : a2 = b2 <;> by_cases h3 : a3 = b3 <;> by_cases h4 : a4 = b4 <;> simp [go_sem, h0, h1, h2, h3, h4]
@[go_sem] theorem fld_ev0 (a0 a1 a2 a3 a4 : Int) (w : World) : (Instr.field 46 (.agg #[.int .i64 a0, .int .i64 a1, .int .i64 a2, .int .i64 a3, .int .i64 a4]) 0).run Try.prog w = .ok (.int .i64 a0) w := by kernel_rfl
@[go_sem] theorem fld_ev2 (a0 a1 a2 a3 a4 : Int) (w : World) : (Instr.field 46 (.agg #[.int .i64 a0, .int .i64 a1, .int .i64 a2, .int .i64 a3, .int .i64 a4]) 2).run Try.prog w = .ok (.int .i64 a2) w := by kernel_rfl

/-! One that is alone. -/
/-- No node is there without the mark. -/
def NoG (c : Cfg) (L : List Int) (cy : Int) : Prop := ∀ u : Int, 1 ≤ u → u ≤ (nodn c : Int) → ¬ Gone (wOf c) L cy u
/-- Ahead of part j. -/
structure TJ (c : Cfg) (cy : Int) (q : Nat) (j : Nat) (L : List Int) : Prop where
  len : L.length = lenL (shOf c)
  sw : L.getD (wOf c).sw.toNat 0 = cy % 4294967296 * 4294967296 + j
  dn : L.getD (wOf c).dn.toNat 0 = j
  b : ∀ u : Int, 1 ≤ u → u ≤ (nodn c : Int) → u ≤ (j : Int) * (wOf c).per → ¬ Gone (wOf c) L cy u
  no : q = 1 → NoG c L cy
/-- Behind i steps with part j. -/
structure TI (c : Cfg) (cy : Int) (q : Nat) (j : Nat) (L : List Int) (m : Wn) (i : Nat) : Prop where
  wa : WA (nodn c) (wOf c) cy L j m
  ti : wtime (nodn c) m + i ≤ 6 * (nodn c : Int) + 9
  len : L.length = lenL (shOf c)
  no : q = 1 → NoG c L cy
section
variable {c : Cfg} {cy : Int} {q j i : Nat} {L : List Int} {m : Wn}
theorem TJ.start (hc : OkC c) (h : TJ c cy q j L) (hj : (j : Int) < partsC c) : TI c cy q j L (wNew cy) 0 := by
  have G := gw_is hc h.len
  refine ⟨WA.begin G ⟨by omega, by rw [parts_is hc]; exact hj⟩ h.sw h.dn h.b, ?_, h.len, h.no⟩
  simp [wtime, wNew]
theorem TI.step (h : TI c cy q j L m i) (h0 : m.pc ≠ 0) : TI c cy q j (wstp (wOf c) L m).1 (wstp (wOf c) L m).2 (i + 1) ∧ (q = 1 → (wstp (wOf c) L m).2.ek ≠ 5) := by
  obtain ⟨a, b, d, e, f⟩ := h.wa.step h0
  have ht := h.ti
  refine ⟨⟨a, by omega, by rw [f]; exact h.len, fun hq u u1 u2 => e u u1 u2 (h.no hq u u1 u2)⟩, fun hq he => ?_⟩
  obtain ⟨g1, g2, g3⟩ := d he
  exact h.no hq _ g2 g3 g1
theorem TI.few (h : TI c cy q j L m i) : (i : Int) ≤ 6 * (nodn c : Int) + 9 := by
  have := h.wa.time.1; have := h.ti; omega
theorem TI.over (h : TI c cy q j L m i) (h0 : m.pc = 0) : TJ c cy q (j + 1) L ∧ m.part = j ∧ m.ek = 6 ∧ m.ea = j := by
  have wa := h.wa
  obtain ⟨a, b, d⟩ := wa.p0 h0
  refine ⟨⟨h.len, ?_, ?_, fun u u1 u2 u3 => wa.b u u1 u2 (.inr (.inr ⟨h0, by simpa using u3⟩)), h.no⟩, a, b, d⟩
  · have := wa.sw; rw [if_neg (by omega)] at this; rw [this]; simp
  · have := wa.dn; rw [if_pos h0] at this; rw [this]; simp
/-- Behind all parts nothing is there without the mark, and one more has none. -/
theorem TJ.all (hc : OkC c) (h : TJ c cy q j L) (hj : (j : Int) = partsC c) : NoG c L cy ∧ ldq L (plcc c 3 0 0) = partsC c ∧ ∃ m', wstp (wOf c) L (wNew cy) = (L, m') ∧ m'.pc = 0 := by
  have G := gw_is hc h.len
  have en := nodn_is hc
  have hb := Lay.parts_bd' hc
  have hper := G.per
  refine ⟨fun u u1 u2 => h.b u u1 u2 ?_, ?_, ?_⟩
  · have hp := node_part hper (pt_ex hper u) u1 (by rw [G.n0]; exact u2)
    have hx := (pt_ex hper u).2
    rw [parts_is hc, ← hj] at hp
    have : ((u - 1) / (wOf c).per + 1) * (wOf c).per ≤ (j : Int) * (wOf c).per := Int.mul_le_mul_of_nonneg_right (by omega) (by omega)
    omega
  · have hd : (0 : Int) ≤ (wOf c).dn ∧ (wOf c).dn < L.length := G.dn
    have e : ldq L (wOf c).dn = j := by rw [ld_in hd]; exact h.dn
    rw [← hj]; exact e
  · obtain ⟨m', e, a, _⟩ := look_no (c := c) (L := L) (m := wNew cy) rfl (fun e => by
      have e2 := e.2
      have hs : (0 : Int) ≤ (wOf c).sw ∧ (wOf c).sw < L.length := G.sw
      rw [ld_in hs, h.sw, parts_is hc, ← hj] at e2
      unfold low at e2
      omega)
    exact ⟨m', e, a⟩
theorem TJ.begin (hc : OkC c) (hl : L.length = lenL (shOf c)) (hq : q = 1 → NoG c L cy) : TJ c cy q 0 (ptq (ptq L (plcc c 2 0 0) (cy % 4294967296 * 4294967296)) (plcc c 3 0 0) 0) := by
  have G := gw_is hc hl
  have hs : (0 : Int) ≤ (wOf c).sw ∧ (wOf c).sw < L.length := G.sw
  have hd : (0 : Int) ≤ (wOf c).dn ∧ (wOf c).dn < L.length := G.dn
  have hd2 : (0 : Int) ≤ (wOf c).dn ∧ (wOf c).dn < (ptq L (plcc c 2 0 0) (cy % 4294967296 * 4294967296)).length := by rw [pt_len]; exact hd
  have hsd := G.sd
  have same : ∀ p : Int, 0 ≤ p → p ≠ (wOf c).sw → p ≠ (wOf c).dn → (ptq (ptq L (plcc c 2 0 0) (cy % 4294967296 * 4294967296)) (plcc c 3 0 0) 0).getD p.toNat 0 = L.getD p.toNat 0 := fun p a b d =>
    (pt_other a d).trans (pt_other a b)
  refine ⟨by rw [pt_len, pt_len]; exact hl, ?_, (pt_same hd2).trans (by simp), fun u u1 u2 u3 => ?_, fun e u u1 u2 g => hq e u u1 u2 ?_⟩
  · exact (pt_other hs.1 hsd).trans ((pt_same hs).trans (by simp))
  · simp at u3; omega
  · obtain ⟨s0, s1, s2, s3⟩ := G.s u u1 u2
    obtain ⟨m0, m1, m2, m3⟩ := G.m u u1 u2
    unfold Gone at g ⊢
    rw [same _ s0 s2 s3, same _ m0 m2 m3] at g
    exact g
end
set_option maxHeartbeats 16000000 in
theorem walkTwice (c : Cfg) (cy : Int) (A : Option Addr) (n cap : Nat) (zs : List Int) (w : World) (hcy : (Lit.int .u64 cy).wf = true) (hS : IsRow .u8 w A n cap zs) :
    Calls Try.prog 5 #[Lay.cfgV c, .int .u64 cy, .slice A n cap] w fun e w' => e = .returned (.bool true) ∧ Below w.heap.size w w' := by
  have hcyr := u64_rng hcy
  obtain ⟨rN, lN, _, _, _, wfN⟩ := reads_row hS
  obtain ⟨ns, hns⟩ : ∃ xs, xs = zs.take n := ⟨_, rfl⟩
  rw [← hns] at rN lN wfN
  have HNW := Lib.hid (u8_rngs wfN); have HRN := Lib.hid rN; have HLN := Lib.hid lN
  have HCY := Lib.hid hcyr
  obtain ⟨r, hr⟩ : ∃ r, r = cy % 4294967296 := ⟨_, rfl⟩
  have er : IntKind.u32.wrap cy = r := by rw [IntKind.wrap_u32, hr]
  have HR := Lib.hid hr
  have HRR := Lib.hid (show 0 ≤ r ∧ r ≤ 4294967295 by omega)
  clear hS hns rN lN wfN hcy hcyr hr
  have HB := Lib.hid (Bw.start w c)
  obtain ⟨q0, q1, q2, q3, q4, q5, q6, q7, q8, q9, q10, q11⟩ := (Bw.start w c).cfg
  by_cases hbig : 20 < n
  · have d0 : decide ((n : Int) > 20) = true := by simp; omega
    clear hbig
    go_enter Try.func5, Try.ntmps5
    go_wp2_with (first
      | (go_at_call 6; (with_reducible refine (awake_true _).mono ?_); rintro e w1 ⟨rfl, hb⟩; have HB := Lib.hid (HB.out.step hb); clear hb q0 q1 q2 q3 q4 q5 q6 q7 q8 q9 q10 q11; obtain ⟨q0, q1, q2, q3, q4, q5, q6, q7, q8, q9, q10, q11⟩ := HB.out.cfg)
      | (go_at_call 7; (with_reducible refine (small_any c _).mono ?_); rintro e w2 ⟨b, rfl, hs, hb⟩; have HB := Lib.hid (HB.out.step hb); clear hb q0 q1 q2 q3 q4 q5 q6 q7 q8 q9 q10 q11 hs; cases b)
      | fail)
    all_goals go_ret
    all_goals exact ⟨rfl, HB.out.fin⟩
  · have d0 : decide ((n : Int) > 20) = false := by simp; omega
    have HN20 := Lib.hid (show n ≤ 20 by omega)
    clear hbig
    go_enter Try.func5, Try.ntmps5
    go_wp2_with (first
      | (go_at_call 6; (with_reducible refine (awake_true _).mono ?_); rintro e w1 ⟨rfl, hb⟩; have HB := Lib.hid (HB.out.step hb); clear hb q0 q1 q2 q3 q4 q5 q6 q7 q8 q9 q10 q11; obtain ⟨q0, q1, q2, q3, q4, q5, q6, q7, q8, q9, q10, q11⟩ := HB.out.cfg)
      | (go_at_call 7; (with_reducible refine (small_any c _).mono ?_); rintro e w2 ⟨b, rfl, hs, hb⟩; have HB := Lib.hid (HB.out.step hb); clear hb q0 q1 q2 q3 q4 q5 q6 q7 q8 q9 q10 q11; obtain ⟨q0, q1, q2, q3, q4, q5, q6, q7, q8, q9, q10, q11⟩ := HB.out.cfg; have HSS := Lib.hid hs; clear hs; cases b)
      | (go_at_call 8; (with_reducible refine (Lay.new_yes (HSS.out trivial).1 _).mono ?_); rintro e w3 ⟨N, rfl, hm, hb⟩; have HOK := Lib.hid (HSS.out trivial).1; have HM := Lib.hid hm; have HB := Lib.hid (HB.out.step hb); have HRN3 := Lib.hid (HB.out.bytes HRN.out); clear hb hm q0 q1 q2 q3 q4 q5 q6 q7 q8 q9 q10 q11)
      | (go_at_call 9; (with_reducible refine (filled_any HOK.out N cy A n cap ns _ HM.out HLN.out.symm HRN3.out HNW.out HCY.out (by have := HN20.out; omega)).mono ?_); rintro e w4 ⟨S, D, L, rfl, hfl, hpo, hb⟩; have HFI := Lib.hid hfl; have HP0 := Lib.hid hpo; have HLB := Lib.hid HB.out.lt; clear hfl hpo hb)
      | fail)
    · go_ret
      exact ⟨rfl, HB.out.fin⟩
    have HN12 := Lib.hid (HSS.out trivial).2
    have HPB := Lib.hid (Lay.parts_bd' HOK.out)
    have HND := Lib.hid (nodn_is HOK.out)
    obtain ⟨P, hP⟩ : ∃ P : Nat, partsC c = (P : Int) := ⟨(partsC c).toNat, by have := HPB.out.1; omega⟩
    have HPP := Lib.hid hP
    have HP12 : Hid (P ≤ 12) := Lib.hid (by
      have h1 := (parts_pos (gw_is HOK.out HFI.out.len)).2
      have h2 := HND.out; have h3 := HN12.out
      rw [parts_is HOK.out, hP] at h1
      omega)
    have ep64 : IntKind.u64.wrap (P : Int) = (P : Int) := IntWalk.u64_in _ (by have := HP12.out; omega)
    have HRV := Lib.hid (show 0 ≤ r * 4294967296 ∧ r * 4294967296 ≤ 18446744073709551615 by have := HRR.out; omega)
    clear hP HRN3 HRN HNW HLN
    go_loopw [12] (fun v wr => ∃ (q : Nat) (L : List Int), v = .int .i64 (q : Int) ∧ q ≤ 2 ∧ PO w3.heap.size S D N c w3 wr L (2100 + 5000 * (q : Int)) ∧ L.length = lenL (shOf c) ∧ (1 ≤ q → NoG c L cy)) (fun v _ => 2 - (intOf v).toNat)
    case atStart => exact ⟨0, L, rfl, by omega, by simpa using HP0.out, HFI.out.len, fun e => by omega⟩
    case round =>
      clear HP0 HFI L
      obtain ⟨q, L, rfl, hq, hpo, hlen, hno⟩ := hrel
      have HPO := Lib.hid hpo; have HLEN := Lib.hid hlen; have HNO := Lib.hid hno
      clear hpo hlen hno
      by_cases hlt : q < 2
      · have HQ := Lib.hid hlt
        have h2 : (q : Int) < 2 := by omega
        have eq1 : IntKind.i64.wrap ((q : Int) + 1) = (q : Int) + 1 := IntWalk.i64_in _ (by omega)
        have HTJ : Hid (TJ c cy q 0 (ptq (ptq L (plcc c 2 0 0) (r * 4294967296)) (plcc c 3 0 0) 0)) := Lib.hid (by rw [HR.out]; exact TJ.begin HOK.out HLEN.out (fun e => HNO.out (by omega)))
        clear hq hlt
        go_wp2_with (first
          | (go_at_call 25; (with_reducible refine (Lay.sweep_m HOK.out N _ HPO.out.mp).mono ?_); rintro e w7 ⟨rfl, hb⟩; have HP1 := Lib.hid (HPO.out.step hb); clear hb)
          | (go_at_call 26; (with_reducible refine (pair_any r 0 HRR.out.1 HRR.out.2 (by decide) (by decide) _).mono ?_); rintro e w8 ⟨rfl, hb⟩; have HP2 := Lib.hid (HP1.out.step hb); clear hb)
          | (go_at_call 10; (with_reducible refine (put_po HP2.out (plcc c 2 0 0) (r * 4294967296) HRV.out (by have := HQ.out; omega)).mono ?_); rintro e w9 ⟨rfl, hp, u⟩; have HP3 := Lib.hid hp; clear hp u)
          | (go_at_call 24; (with_reducible refine (Lay.done_m HOK.out N _ HP3.out.mp).mono ?_); rintro e w10 ⟨rfl, hb⟩; have HP4 := Lib.hid (HP3.out.step hb); clear hb)
          | (go_at_call 10; (with_reducible refine (put_po HP4.out (plcc c 3 0 0) 0 (by decide) (by have := HQ.out; omega)).mono ?_); rintro e w11 ⟨rfl, hp, u⟩; have HP5 := Lib.hid hp; clear hp u)
          | fail)
        clear HPO HP1 HP2 HP3 HP4
        go_loopw [13] (fun v wr => ∃ (j : Nat) (L : List Int), v = .int .i64 (j : Int) ∧ j ≤ P ∧ PO w3.heap.size S D N c w3 wr L (2102 + 5000 * (q : Int) + 100 * (j : Int)) ∧ TJ c cy q j L) (fun v _ => P - (intOf v).toNat)
        case atStart => exact ⟨0, _, rfl, by omega, HP5.out.more (by omega), HTJ.out⟩
        case round =>
          clear HP5 HTJ HLEN HNO L
          obtain ⟨j, L, rfl, hj, hpo, htj⟩ := hrel
          have HPO := Lib.hid hpo; have HTJ := Lib.hid htj
          clear hpo htj
          by_cases hlt : j < P
          · have HJ := Lib.hid hlt
            have hjp : (j : Int) < (P : Int) := by omega
            have ej1 : IntKind.i64.wrap ((j : Int) + 1) = (j : Int) + 1 := IntWalk.i64_in _ (by have := HP12.out; omega)
            have HTI : Hid (TI c cy q j L (wNew cy) 0) := Lib.hid (HTJ.out.start HOK.out (by rw [HPP.out]; exact hjp))
            clear hj hlt
            go_wp2_with (first
              | (go_at_call 14; (with_reducible refine (Lay.parts_m HOK.out N _ HPO.out.mp).mono ?_); rintro e w12 ⟨rfl, hb⟩; rw [HPP.out]; have HP1 := Lib.hid (HPO.out.step hb); clear hb)
              | (go_at_call 13; (with_reducible refine (new_wo HP1.out cy).mono ?_); rintro e w13 ⟨X, rfl, hx, hp, hb⟩; have HX := Lib.hid hx; have HP2 := Lib.hid hp; have HLO := Lib.hid (HP1.out.los hb.size); clear hx hp hb)
              | fail)
            clear HPO
            go_loopw [15] (fun v wr => ∃ (i : Nat) (L : List Int) (m : Wn), v = .int .i64 (i : Int) ∧ PO w3.heap.size S D N c w3 wr L (2102 + 5000 * (q : Int) + 100 * (j : Int) + (i : Int)) ∧ WKX w12.heap.size wr X S D N m ∧ WKW c (i : Int) m ∧ TI c cy q j L m i ∧ m.pc ≠ 0 ∧ w13.heap.size ≤ wr.heap.size) (fun v _ => 200 - (intOf v).toNat)
            case atStart => exact ⟨0, L, wNew cy, rfl, by simpa using HP2.out, HX.out, wkw_new HOK.out HCY.out, HTI.out, by simp [wNew], Nat.le_refl _⟩
            case round =>
              clear HP1 HP2 HX HTI HTJ L
              obtain ⟨i, L, m, rfl, hpo, hx, hw, hti, hpc, hsz⟩ := hrel
              have hi := hti.few
              have hi2 : (i : Int) ≤ 81 := by have := HND.out; have := HN12.out; omega
              have HPO := Lib.hid hpo; have HX := Lib.hid hx; have HW := Lib.hid hw; have HSZ := Lib.hid hsz
              obtain ⟨hti', hek⟩ := hti.step hpc
              have HL2 := Lib.hid (show S < w12.heap.size ∧ D < w12.heap.size ∧ N < w12.heap.size ∧ w3.heap.size ≤ w12.heap.size ∧ w12.heap.size ≤ wr.heap.size from ⟨HLO.out.1, HLO.out.2.1, HLO.out.2.2.1, HLO.out.2.2.2.1, Nat.le_trans HLO.out.2.2.2.2 hsz⟩)
              have hw' := (hw.step HOK.out hpo.ww).1
              obtain ⟨y, hy⟩ : ∃ y, y = wstp (wOf c) L m := ⟨_, rfl⟩
              rw [← hy] at hti' hek hw'
              obtain ⟨L', m'⟩ := y
              dsimp only at hti' hek hw'
              have HY := Lib.hid hy.symm
              have HTI := Lib.hid hti'; have HW2 := Lib.hid hw'
              have h200 : (i : Int) < 200 := by omega
              have ei1 : IntKind.i64.wrap ((i : Int) + 1) = (i : Int) + 1 := IntWalk.i64_in _ (by omega)
              have HI := Lib.hid hi2
              have HEK := Lib.hid hek
              clear hpo hx hw hti hpc hsz hti' hek hw' hy hi hi2
              by_cases hz : m'.pc = 0
              · have HZ := Lib.hid (decide_eq_true hz)
                obtain ⟨t1, t2, t3, t4⟩ := HTI.out.over hz
                have HT1 := Lib.hid t1; have HT2 := Lib.hid t2; have HT3 := Lib.hid t3; have HT4 := Lib.hid t4
                clear hz t1 t2 t3 t4
                go_wp2_with (first
                  | (go_at_call 16; (with_reducible refine (step_wo HPO.out HX.out HL2.out HW.out (by have := HQ.out; have := HJ.out; have := HP12.out; have := HI.out; omega) (by have := HI.out; omega)).mono ?_); rintro e w14 ⟨rfl, hp, hx, u⟩; rw [HY.out] at hp hx; rw [HY.out, HZ.out]; have HP3 := Lib.hid hp; have HX3 := Lib.hid hx; clear hp hx u)
                  | (go_at_call 27; (with_reducible refine (part_wo HX3.out).mono ?_); rintro e w15 ⟨rfl, rfl⟩; rw [HT2.out])
                  | (go_at_call 17; (with_reducible refine (event_wo HX3.out).mono ?_); rintro e w16 ⟨rfl, hb⟩; rw [HT3.out, HT4.out]; have HP4 := Lib.hid (HP3.out.step hb); clear hb)
                  | fail)
                go_roundw
                case rel => exact ⟨j + 1, L', by go_num, HJ.out, HP4.out.more (by have := HI.out; omega), HT1.out⟩
                case measure => simp [intOf]; have := HJ.out; omega
              · have HZ := Lib.hid (decide_eq_false hz)
                have HZ0 := Lib.hid hz
                clear hz
                by_cases hq1 : q = 1
                · subst hq1
                  have hek : (m'.ek == 5) = false := by have := HEK.out rfl; simpa using this
                  go_wp2_with (first
                    | (go_at_call 16; (with_reducible refine (step_wo HPO.out HX.out HL2.out HW.out (by have := HQ.out; have := HJ.out; have := HP12.out; have := HI.out; omega) (by have := HI.out; omega)).mono ?_); rintro e w14 ⟨rfl, hp, hx, u⟩; rw [HY.out] at hp hx; rw [HY.out, HZ.out]; have HP3 := Lib.hid hp; have HX3 := Lib.hid hx; have HS3 := Lib.hid (Nat.le_trans HSZ.out u.size); clear hp hx u)
                    | (go_at_call 17; (with_reducible refine (event_wo HX3.out).mono ?_); rintro e w16 ⟨rfl, hb⟩; have HP4 := Lib.hid (HP3.out.step hb); have HX4 := Lib.hid (HX3.out.below hb); have HS4 := Lib.hid (Nat.le_trans HS3.out hb.size); clear hb)
                    | fail)
                  go_roundw
                  case rel =>
                    iterate apply Exists.intro
                    refine And.intro ?_ rfl
                    exact ⟨i + 1, L', m', by go_num, HP4.out.more (by omega), HX4.out, HW2.out, HTI.out, HZ0.out, HS4.out⟩
                  case measure => simp [intOf]; have := HI.out; omega
                · have dq : ((q : Int) == 1) = false := by simp; omega
                  go_wp2_with (first
                    | (go_at_call 16; (with_reducible refine (step_wo HPO.out HX.out HL2.out HW.out (by have := HQ.out; have := HJ.out; have := HP12.out; have := HI.out; omega) (by have := HI.out; omega)).mono ?_); rintro e w14 ⟨rfl, hp, hx, u⟩; rw [HY.out] at hp hx; rw [HY.out, HZ.out]; have HP3 := Lib.hid hp; have HX3 := Lib.hid hx; have HS3 := Lib.hid (Nat.le_trans HSZ.out u.size); clear hp hx u)
                    | fail)
                  go_roundw
                  case rel => exact ⟨i + 1, L', m', by go_num, HP3.out.more (by omega), HX3.out, HW2.out, HTI.out, HZ0.out, HS3.out⟩
                  case measure => simp [intOf]; have := HI.out; omega
          · obtain rfl : j = P := by omega
            have hno : ¬ (j : Int) < (j : Int) := by omega
            obtain ⟨t1, t2, m', t3, t4⟩ := HTJ.out.all HOK.out HPP.out.symm
            rw [HPP.out] at t2
            have HT1 := Lib.hid t1; have HT2 := Lib.hid t2; have HT3 := Lib.hid t3; have HT4 := Lib.hid (decide_eq_true t4)
            clear hlt hj t1 t2 t3 t4
            go_wp2_with (first
              | (go_at_call 14; (with_reducible refine (Lay.parts_m HOK.out N _ HPO.out.mp).mono ?_); rintro e w12 ⟨rfl, hb⟩; rw [HPP.out]; have HP1 := Lib.hid (HPO.out.step hb); clear hb HPO)
              | (go_at_call 24; (with_reducible refine (Lay.done_m HOK.out N _ HP1.out.mp).mono ?_); rintro e w13 ⟨rfl, hb⟩; have HP2 := Lib.hid (HP1.out.step hb); clear hb)
              | (go_at_call 23; (with_reducible refine (load_po HP2.out (plcc c 3 0 0) (by have := HQ.out; have := HP12.out; omega)).mono ?_); rintro e w14 ⟨rfl, hp, u⟩; rw [HT2.out]; have HP3 := Lib.hid hp; clear hp u)
              | (go_at_call 14; (with_reducible refine (Lay.parts_m HOK.out N _ HP3.out.mp).mono ?_); rintro e w15 ⟨rfl, hb⟩; rw [HPP.out]; have HP4 := Lib.hid (HP3.out.step hb); clear hb)
              | (go_at_call 13; (with_reducible refine (new_wo HP4.out cy).mono ?_); rintro e w16 ⟨X, rfl, hx, hp, hb⟩; have HX := Lib.hid hx; have HP5 := Lib.hid hp; have HLO := Lib.hid (HP4.out.los hb.size); clear hx hp hb)
              | (go_at_call 16; (with_reducible refine (step_wo HP5.out HX.out HLO.out (wkw_new HOK.out HCY.out) (by have := HQ.out; have := HP12.out; omega) (by decide)).mono ?_); rintro e w17 ⟨rfl, hp, hx, u⟩; rw [HT3.out] at hp; rw [HT3.out, HT4.out]; have HP6 := Lib.hid hp; clear hp hx u)
              | fail)
            go_roundw
            case rel => exact ⟨q + 1, L, by go_num, HQ.out, HP6.out.more (by have := HP12.out; omega), HTJ.out.len, fun _ => HT1.out⟩
            case measure => simp [intOf]; have := HQ.out; omega
      · obtain rfl : q = 2 := by omega
        go_wp2_with (fail)
        go_ret
        exact ⟨rfl, HB.out.fin.trans (HPO.out.bel.mono (by have := HLB.out; omega))⟩
end Go.Proofs.Ytbpkcoemehmpbaa
