
import Derived.Test.YthoiaffeenhfgaaGreatMkF
import Derived.Test.YthoiaffeenhfgaaGreatJ1
import Derived.Test.YthoiaffeenhfgaaGreatJ5
namespace Go.Proofs.YthoiaffeenhfgaaGreat
open Go.RowKit
set_option linter.unusedVariables false
set_option linter.unusedSimpArgs false
set_option maxRecDepth 100000
open Lay (plcc plc shOf packN nodesN OkC Cfg Norm firstV Rep lenL things)
@[go_sem ↓] theorem neq_ev (a b c d e a' b' c' d' e' : Int) (w : World) : (binOp .neq 44 (.agg #[.int .i64 a, .int .i64 b, .int .i64 c, .int .i64 d, .int .i64 e]) (.agg #[.int .i64 a', .int .i64 b', .int .i64 c', .int .i64 d', .int .i64 e'])).run Tryz.prog w = .ok (.bool (!decide (a = a' ∧ b = b' ∧ c = c' ∧ d = d' ∧ e = e'))) w := by
  by_cases h1 : a = a' <;> by_cases h2 : b = b' <;> by_cases h3 : c = c' <;> by_cases h4 : d = d' <;> by_cases h5 : e = e' <;> simp [go_sem, h1, h2, h3, h4, h5]
section
variable {B S D N : Nat} {c : Cfg} {w0 w w' : World} {G : Nat → Prop} {L : List Int} {k t : Int} {Y : Nat} {m : Mk}
theorem MA.startG (h : PO B S D N c w0 w L k) (X : Nat → Nat) (M : Nat → Mk) (hg : ∀ b, G b → b < w.heap.size ∧ B ≤ b ∧ b ≠ S ∧ b ≠ D ∧ b ≠ N) : MA B S D N c w0 w G 0 X M L k :=
  ⟨h, ⟨fun _ _ => False, fun _ _ => False, fun i hi => absurd hi (by omega), fun i j hi => absurd hi (by omega), fun i hi => absurd hi (by omega)⟩, hg⟩
theorem M1.newG (h : PO B S D N c w0 w L k) (hg : ∀ b, G b → b < w.heap.size ∧ B ≤ b ∧ b ≠ S ∧ b ≠ D ∧ b ≠ N) (i0 : Int) (hi : (Lit.int .i64 i0).wf = true) (h0 : 0 ≤ i0) (h1 : i0 < c.mr) :
    Calls Tryz.prog 12 #[Lay.mapP N, .int .i64 i0] w fun e w' => ∃ Y, e = .returned (ptr Y) ∧ M1 B S D N c w0 w' G Y (mNew c i0) L k ∧ Below w.heap.size w w' ∧ w.heap.size ≤ Y := by
  refine ((MA.startG h (fun _ => 0) (fun _ => mNew c i0) hg).new i0 hi h0 h1).mono ?_
  rintro e w' ⟨Y, rfl, hm, hb, hY⟩
  exact ⟨Y, rfl, hm.congr fun i hi => by obtain rfl : i = 0 := by omega
                                         exact ⟨(fset_same _ _ _).symm, (fset_same _ _ _).symm⟩, hb, hY⟩
end
theorem mstp_rest {c : Cfg} {L : List Int} {i dr : Int} (h : ldq L 0 % 8 < 3) (h0 : 0 ≤ ldq L 0) : mstp c L dr (mNew c i) = (L, mNew c i) := by
  have a : ¬ Mks L := fun e => by rcases e with e | e <;> omega
  have b : ¬ ldq L 0 % 8 = 5 := by omega
  simp [mstp, mNew, mlook, a, b, mq]
theorem put0 {L : List Int} {x : Int} (h : 0 < L.length) : ldq (ptq L 0 x) 0 = x := by
  have e : (0 : Int) ≤ 0 ∧ (0 : Int) < ((ptq L 0 x).length : Int) := by rw [pt_len]; omega
  unfold ldq
  rw [if_pos e]
  exact pt_same (p := 0) ⟨by omega, by omega⟩
theorem len_pos {c : Cfg} (hc : OkC c) : 0 < lenL (shOf c) := by
  have p : plcc c 0 0 0 = 0 := phase0 c
  have := Lay.plc_lt (s := shOf c) (nrm 0 0 0 (by omega) (by omega) (fun _ => rfl) (fun _ _ _ => rfl)) (show 0 ≤ plcc c 0 0 0 by omega)
  have : plcc c 0 0 0 < (lenL (shOf c) : Int) := this
  omega
theorem u64_rngs {l : List Int} (h : ∀ x ∈ l, (Lit.int .u64 x).wf = true) : ∀ z ∈ l, 0 ≤ z ∧ z ≤ 18446744073709551615 := fun z hz => by
  have := h z hz
  simp [Lit.wf, IntKind.min, IntKind.max, IntKind.bits, IntKind.signed] at this; omega
theorem u8_rngs {l : List Int} (h : ∀ x ∈ l, (Lit.int .u8 x).wf = true) : ∀ z ∈ l, 0 ≤ z ∧ z ≤ 255 := fun z hz => by
  have := h z hz
  simp [Lit.wf, IntKind.min, IntKind.max, IntKind.bits, IntKind.signed] at this; omega
theorem reads_same {k : IntKind} {b : Nat} {w w' : World} {L : List Int} (h : Reads k w (some ⟨b, 0, none⟩) L) (hs : w.heap.size ≤ w'.heap.size) (e : w'.heap[b]? = w.heap[b]?) : Reads k w' (some ⟨b, 0, none⟩) L := fun h0 => by
  obtain ⟨b', off, e1, hlt, hc⟩ := h h0
  injection e1 with e1
  injection e1 with e2 e3
  subst e2
  subst e3
  exact ⟨b, 0, rfl, Nat.lt_of_lt_of_le hlt hs, fun j hj => (World.cell?_of_block (w := w) (a := ⟨b, 0 + j, none⟩) e).trans (hc j hj)⟩
section
variable {B S D N : Nat} {c : Cfg} {w0 w w' : World} {G : Nat → Prop} {L : List Int} {k i : Int} {Y : Nat}
theorem M1.task0 (h : M1 B S D N c w0 w G Y (mNew c i) L k) : Calls Tryz.prog 14 #[ptr Y] w fun a w' => a = .returned (.tuple #[.int .u64 0, .bool false]) ∧ Below w.heap.size w w' := M1.task h
theorem M1.doing0 (h : M1 B S D N c w0 w G Y (mNew c i) L k) : Calls Tryz.prog 15 #[ptr Y] w fun a w' => a = .returned (.int .i64 0) ∧ w = w' := M1.doing h
theorem M1.ev0 (h : M1 B S D N c w0 w G Y (mNew c i) L k) : Calls Tryz.prog 16 #[ptr Y] w fun a w' => a = .returned (.agg #[.int .i64 0, .int .i64 0, .int .i64 0, .int .i64 0, .int .i64 0]) ∧ Below w.heap.size w w' := M1.ev h
end
set_option maxHeartbeats 16000000 in
theorem walkRests (c : Cfg) (cy ar : Int) (T : Option Addr) (nt ct : Nat) (zt : List Int) (R : Option Addr) (nr cr : Nat) (zr : List Int) (w : World) (hcy : (Lit.int .u8 cy).wf = true) (har : (Lit.int .u8 ar).wf = true) (hT : IsRow .u64 w T nt ct zt) (hR : IsRow .u8 w R nr cr zr) :
    Calls Tryz.prog 5 #[Lay.cfgV c, .int .u8 cy, .int .u8 ar, .slice T nt ct, .slice R nr cr] w fun e w' => e = .returned (.bool true) ∧ Below w.heap.size w w' := by
  have hcyr : 0 ≤ cy ∧ cy ≤ 255 := by simp [Lit.wf, IntKind.min, IntKind.max, IntKind.bits, IntKind.signed] at hcy; omega
  have harr : 0 ≤ ar ∧ ar ≤ 255 := by simp [Lit.wf, IntKind.min, IntKind.max, IntKind.bits, IntKind.signed] at har; omega
  obtain ⟨rT, lT, _, _, _, wfT⟩ := reads_row hT
  obtain ⟨ts, hts⟩ : ∃ xs, xs = zt.take nt := ⟨_, rfl⟩
  rw [← hts] at rT lT wfT
  obtain ⟨rR, lR, _, _, _, wfR⟩ := reads_row hR
  obtain ⟨rs, hrs⟩ : ∃ xs, xs = zr.take nr := ⟨_, rfl⟩
  rw [← hrs] at rR lR wfR
  have HTW := Lib.hid (u64_rngs wfT); have HRT := Lib.hid rT; have HLT := Lib.hid lT
  have HRW := Lib.hid (u8_rngs wfR); have HRR := Lib.hid rR; have HLR := Lib.hid lR
  clear hT hts rT lT wfT hR hrs rR lR wfR hcy har
  have HB := Lib.hid (Bw.start w c)
  obtain ⟨q0, q1, q2, q3, q4, q5, q6, q7, q8, q9, q10, q11⟩ := (Bw.start w c).cfg
  by_cases hbig : 8 < nt ∨ 60 < nr
  · have key : decide ((nt : Int) > 8) = true ∨ (decide ((nt : Int) > 8) = false ∧ decide ((nr : Int) > 60) = true) := by
      by_cases h20 : 8 < nt
      · exact .inl (by simp; omega)
      · exact .inr ⟨by simp; omega, by simp; omega⟩
    clear hbig
    rcases key with d0 | ⟨d0, d1⟩
    all_goals
      go_enter Tryz.func5, Tryz.ntmps5
      go_wp2_with (first
        | (go_at_call 7; (with_reducible refine (awake_true _).mono ?_); rintro e w1 ⟨rfl, hb⟩; have HB := Lib.hid (HB.out.step hb); clear hb q0 q1 q2 q3 q4 q5 q6 q7 q8 q9 q10 q11; obtain ⟨q0, q1, q2, q3, q4, q5, q6, q7, q8, q9, q10, q11⟩ := HB.out.cfg)
        | (go_at_call 8; (with_reducible refine (small_any c _).mono ?_); rintro e w2 ⟨b, rfl, hs, hb⟩; have HB := Lib.hid (HB.out.step hb); clear hb q0 q1 q2 q3 q4 q5 q6 q7 q8 q9 q10 q11 hs; cases b)
        | fail)
      all_goals go_ret
      all_goals exact ⟨rfl, HB.out.fin⟩
  · have d0 : decide ((nt : Int) > 8) = false := by simp; omega
    have d1 : decide ((nr : Int) > 60) = false := by simp; omega
    have HN8 := Lib.hid (show nt ≤ 8 by omega)
    have HR60 := Lib.hid (show nr ≤ 60 by omega)
    obtain ⟨p, hp⟩ : ∃ p, p = ar % 3 := ⟨_, rfl⟩
    have ep : ar.tmod 3 = p := by rw [Int.tmod_eq_emod_of_nonneg harr.1, hp]
    have ep8 : IntKind.u8.wrap p = p := by rw [IntKind.wrap_u8]; exact Int.emod_eq_of_lt (by omega) (by omega)
    have ep64 : IntKind.i64.wrap p = p := IntWalk.i64_in _ (by omega)
    have ec64 : IntKind.u64.wrap cy = cy := by rw [IntKind.wrap_u64]; exact Int.emod_eq_of_lt (by omega) (by omega)
    have HP := Lib.hid (show 0 ≤ p ∧ p ≤ 2 by omega)
    have HCY := Lib.hid hcyr
    obtain ⟨ph, hph⟩ : ∃ ph, ph = (cy * 8 + p % 8) % 18446744073709551616 := ⟨_, rfl⟩
    have HPH := Lib.hid hph
    have HPX : Hid ((0 ≤ ph ∧ ph ≤ 18446744073709551615) ∧ ph % 8 < 3) := Lib.hid (by omega)
    have HNF : Hid (∀ w', Reads .u64 w' none []) := Lib.hid (fun w' h => by simp at h)
    have HNX : Hid (∀ x ∈ ([] : List Int), 0 ≤ x ∧ x ≤ 18446744073709551615) := Lib.hid (fun x hx => by simp at hx)
    clear hbig hp hph harr hcyr
    go_enter Tryz.func5, Tryz.ntmps5
    go_wp2_with (first
      | (go_at_call 7; (with_reducible refine (awake_true _).mono ?_); rintro e w1 ⟨rfl, hb⟩; have HB := Lib.hid (HB.out.step hb); clear hb q0 q1 q2 q3 q4 q5 q6 q7 q8 q9 q10 q11; obtain ⟨q0, q1, q2, q3, q4, q5, q6, q7, q8, q9, q10, q11⟩ := HB.out.cfg)
      | (go_at_call 8; (with_reducible refine (small_any c _).mono ?_); rintro e w2 ⟨b, rfl, hs, hb⟩; have HB := Lib.hid (HB.out.step hb); clear hb q0 q1 q2 q3 q4 q5 q6 q7 q8 q9 q10 q11; obtain ⟨q0, q1, q2, q3, q4, q5, q6, q7, q8, q9, q10, q11⟩ := HB.out.cfg; have HSS := Lib.hid hs; clear hs; cases b)
      | (go_at_call 9; (with_reducible refine (Lay.new_yes (HSS.out trivial).1 _).mono ?_); rintro e w3 ⟨N, rfl, hm, hb⟩; have HOK := Lib.hid (HSS.out trivial).1; have HM := Lib.hid hm; have HB := Lib.hid (HB.out.step hb); clear hb hm q0 q1 q2 q3 q4 q5 q6 q7 q8 q9 q10 q11)
      | (go_at_call 20; (with_reducible refine (phase_any cy p HCY.out.1 (by have := HCY.out; omega) _).mono ?_); rintro e w4 ⟨rfl, hb⟩; rw [← HPH.out]; have HB4 := Lib.hid (HB.out.step hb); have HM4 := Lib.hid (HM.out.below hb); have HRT4 := Lib.hid (HB4.out.reads HRT.out); have HRR4 := Lib.hid (HB4.out.reads HRR.out); clear hb)
      | (go_at_call 19; (with_reducible refine (filled_any HOK.out N ph none T 0 0 nt ct [] ts _ HM4.out HPX.out.1 rfl (HNF.out _) HNX.out (by omega) HLT.out.symm HRT4.out HTW.out HN8.out).mono ?_); rintro e w5 ⟨S, D, L0, L1, L2, rfl, hrep, _, _, hl2, hpo, hb⟩; have HP5 := Lib.hid hpo; have HLE := Lib.hid (And.intro hrep.1 (first_len HOK.out hrep)); have HL2 := Lib.hid hl2; clear hpo hb hrep hl2)
      | fail)
    · go_ret
      exact ⟨rfl, HB.out.fin⟩
    obtain ⟨L, hL⟩ : ∃ L, L = ptq (ptq L2 2 (ph / 8 % 4294967296 * 4294967296)) 0 ph := ⟨_, rfl⟩
    have hll : L.length = lenL (shOf c) := by rw [hL, pt_len, pt_len]; exact HL2.out
    have hl0 : ldq L 0 = ph := by rw [hL]; exact put0 (by rw [pt_len, HL2.out]; exact len_pos HOK.out)
    rw [← hL] at HP5
    have HLL : Hid (L.length ≤ 1000000) := Lib.hid (by rw [hll]; have := HLE.out.1; have := HLE.out.2; omega)
    have HST : Hid (∀ dr, mstp c L dr (mNew c 0) = (L, mNew c 0)) := Lib.hid (fun dr => mstp_rest (by rw [hl0]; exact HPX.out.2) (by rw [hl0]; exact HPX.out.1.1))
    have HMR : Hid (0 < c.mr) := Lib.hid (by have := HOK.out.k0; omega)
    have HL9 := Lib.hid hll
    clear hL hll hl0 HL2
    have HLP : Hid (0 < L.length) := Lib.hid (by rw [HL9.out]; exact len_pos HOK.out)
    have HW0 : Hid (MW c 0 (mNew c 0)) := Lib.hid (mw_new (by omega) HMR.out)
    go_wp2_with (first
      | (go_at_call 33; (with_reducible refine (all_po HP5.out HLL.out).mono ?_); rintro e w6 ⟨rfl, hr, hp, hb⟩; have HR6 := Lib.hid hr; have HP6 := Lib.hid hp; have HG6 : Hid (∀ b, b = w5.heap.size → b < w6.heap.size ∧ w4.heap.size ≤ b ∧ b ≠ S ∧ b ≠ D ∧ b ≠ N) := Lib.hid (fun b e => by obtain ⟨b', o, e1, hlt, _⟩ := hr HLP.out; injection e1 with e1; injection e1 with e2 e3; have := HP5.out.lt; have := HP5.out.bel.size; subst e2; omega); clear hr hp hb)
      | (go_at_call 12; (with_reducible refine (M1.newG HP6.out HG6.out 0 (by decide) (by decide) HMR.out).mono ?_); rintro e w7 ⟨X, rfl, hm, hb, hY⟩; have HM7 := Lib.hid hm; have HR7 := Lib.hid (HR6.out.below hb (Nat.le_refl _)); clear hm hb hY)
      | fail)
    have HBF : Hid (∀ w', Below w4.heap.size w4 w' → Below w.heap.size w w') := Lib.hid (fun w' hb => (Bw.fin (below_step HB4.out HB4.out.lt hb : Bw w c w')))
    clear HM HM4 HP5 HP6 HR6 HRT HRT4 HRR4 HB
    go_loopw [19] (fun v wr => ∃ (k : Nat), v = .int .i64 (k : Int) ∧ k ≤ nr ∧ M1 w4.heap.size S D N c w4 wr (fun b => b = w5.heap.size) X (mNew c 0) L (2000 + (k : Int)) ∧ Reads .u64 wr (some ⟨w5.heap.size, 0, none⟩) L) (fun v _ => 100 - (intOf v).toNat)
    case atStart => exact ⟨0, rfl, Nat.zero_le _, HM7.out.more (by omega), HR7.out⟩
    case round =>
      clear HM7 HR7
      obtain ⟨k, rfl, hk, hm, hr⟩ := hrel
      have HM := Lib.hid hm; have HR := Lib.hid hr
      clear hm hr
      by_cases hlt : k < nr
      · have hlt2 : (k : Int) < (nr : Int) := by omega
        obtain ⟨b, off, rfl, hblt, hcell⟩ := HRR.out (by rw [HLR.out]; omega)
        obtain ⟨x, hx⟩ : ∃ x, x = rs.getD k 0 := ⟨_, rfl⟩
        have hxr : 0 ≤ x ∧ x ≤ 255 := by rw [hx]; exact HRW.out _ (by rw [List.getD, List.getElem?_eq_getElem (by rw [HLR.out]; exact hlt)]; exact List.getElem_mem _)
        have hcx : wr.cell? ⟨b, off + k, none⟩ = some (.int .u8 x) := by rw [hx]; exact ((HBF.out wr HM.out.po.bel).cell (p := ⟨b, off + k, none⟩) hblt).trans (hcell k (by rw [HLR.out]; exact hlt))
        have exi : IntKind.i64.wrap x = x := IntWalk.i64_in _ (by omega)
        have hk0 : (0 : Int) ≤ (k : Int) := by omega
        have ek : IntKind.i64.wrap ((k : Int) + 1) = (k : Int) + 1 := IntWalk.i64_in _ (by have := HR60.out; omega)
        have HXR := Lib.hid hxr
        have HK : Hid (k < nr ∧ nr ≤ 60) := Lib.hid ⟨hlt, HR60.out⟩
        clear hx hxr hcell hblt hk hlt
        go_wp2_with (first
          | (go_at_call 13; (with_reducible refine (M1.step HM.out HW0.out x (by have := HK.out; omega) (by decide) (by have := HXR.out; omega)).mono ?_); rintro e w8 ⟨rfl, hm, hs, hg⟩; rw [HST.out] at hm; have HM8 := Lib.hid hm; have HR8 := Lib.hid (reads_same HR.out hs (hg _ rfl)); clear hm hs hg)
          | (go_at_call 14; (with_reducible refine (M1.task0 HM8.out).mono ?_); rintro e w9 ⟨rfl, hb⟩; have HM9 := Lib.hid (HM8.out.below hb); have HR9 := Lib.hid (HR8.out.below hb (Nat.le_refl _)); clear hb)
          | (go_at_call 15; (with_reducible refine (M1.doing0 HM9.out).mono ?_); rintro e w10 ⟨rfl, rfl⟩)
          | (go_at_call 16; (with_reducible refine (M1.ev0 HM9.out).mono ?_); rintro e w11 ⟨rfl, hb⟩; have HM10 := Lib.hid (HM9.out.below hb); have HR10 := Lib.hid (HR9.out.below hb (Nat.le_refl _)); clear hb)
          | fail)
        go_roundw
        case rel => exact ⟨k + 1, by go_num, HK.out.1, HM10.out.more (by omega), HR10.out⟩
        case measure => simp [intOf]; have := HK.out; omega
      · have hno : ¬ (k : Int) < (nr : Int) := by omega
        clear hlt
        go_wp2_with (first
          | (go_at_call 33; (with_reducible refine (all_po HM.out.po HLL.out).mono ?_); rintro e w12 ⟨rfl, hr, hp, hb⟩; have HR12 := Lib.hid hr; have HR13 := Lib.hid (HR.out.below hb (Nat.le_refl _)); have HP12 := Lib.hid hp; clear hr hp hb)
          | (go_at_call 34; (with_reducible refine (same_yes _ _ _ _ _ _ L _ rfl rfl HR12.out HR13.out HLL.out).mono ?_); rintro e w14 ⟨rfl, hb⟩; have HP14 := Lib.hid (HP12.out.step hb); clear hb)
          | fail)
        go_ret
        exact ⟨rfl, HBF.out _ HP14.out.bel⟩
end Go.Proofs.YthoiaffeenhfgaaGreat
