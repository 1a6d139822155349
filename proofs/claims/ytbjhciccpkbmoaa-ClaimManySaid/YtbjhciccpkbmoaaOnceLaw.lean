/- The law of many that try to mark one node, walked. -/
import Derived.Test.YtbjhciccpkbmoaaFourLaw
import Derived.Test.YtbjhciccpkbmoaaClDue
namespace Go.Proofs.Ytbjhciccpkbmoaa
open Go.RowKit
set_option linter.unusedVariables false
set_option linter.unusedSimpArgs false
set_option maxRecDepth 100000
open Lay (plcc plc shOf packN nodesN OkC Cfg Norm firstV Rep lenL things)

theorem MR.step_as {w0 wr : World} {S D N : Nat} {c : Cfg} {o : Option Nat} {v : Value} {xs : List Nat} {ms : List Cm} {L L' : List Int} {cc : Int} {x j : Nat} {m m' : Cm} {b : Bool} (h : MR w0 wr S D N c o v xs ms L cc) (hj : ms[j]? = some m) (hx : xs[j]? = some x) (hc : cc ≤ 900000000) (e : cstp 1 L m = (L', m')) (eb : decide (m'.pc = 0) = b) :
    Calls Try.prog 22 #[ptr x, ptr S] wr fun e w' => e = .returned (.bool b) ∧ MR w0 w' S D N c o v xs (ms.set j m') L' (ccost m cc) := by
  have k := h.step hj hx hc
  rw [e] at k
  rw [← eb]
  exact k.mono fun _ _ h => ⟨h.1, h.2.1⟩
theorem MR.won {w0 wr : World} {S D N : Nat} {c : Cfg} {o : Option Nat} {v : Value} {xs : List Nat} {ms : List Cm} {L : List Int} {cc : Int} {x j : Nat} {m : Cm} (h : MR w0 wr S D N c o v xs ms L cc) (hj : ms[j]? = some m) (hx : xs[j]? = some x) : Calls Try.prog 24 #[ptr x] wr fun e w' => e = .returned (.bool m.won) ∧ wr = w' := h.m.won hj hx

theorem set_same {l : List Cm} {j : Nat} {m : Cm} (h : l[j]? = some m) : l.set j m = l := by
  have hl := (List.getElem?_eq_some_iff.1 h).1
  apply List.ext_getElem?
  intro i
  rw [List.getElem?_set]
  by_cases e : j = i
  · subst e; rw [if_pos rfl, if_pos hl, h]
  · rw [if_neg e]
theorem MR.at {w0 wr : World} {S D N : Nat} {c : Cfg} {o : Option Nat} {b off n cp : Nat} {xs : List Nat} {ms : List Cm} {L : List Int} {cc : Int} {x j : Nat} (h : MR w0 wr S D N c o (.slice (some ⟨b, off, none⟩) n cp) xs ms L cc) (hx : xs[j]? = some x) : wr.cell? ⟨b, off + j, none⟩ = some (ptr x) := by
  obtain ⟨b', off', cap', e, hc⟩ := h.cell hx
  injection e with e1 e2 e3
  injection e1 with e1
  injection e1 with e4 e5
  rw [e4, e5]; exact hc
theorem MR.addr {w0 wr : World} {S D N : Nat} {c : Cfg} {o : Option Nat} {A : Option Addr} {n cp : Nat} {xs : List Nat} {ms : List Cm} {L : List Int} {cc : Int} (h : MR w0 wr S D N c o (.slice A n cp) xs ms L cc) (h0 : 0 < xs.length) : ∃ b off, A = some ⟨b, off, none⟩ := by
  obtain ⟨b, off, _, e, _⟩ := h.cell (List.getElem?_eq_getElem h0)
  injection e with e1 e2 e3
  exact ⟨b, off, e1⟩
/-- A step of one that is finished. -/
theorem MR.done {w0 wr : World} {S D N : Nat} {c : Cfg} {o : Option Nat} {v : Value} {xs : List Nat} {ms : List Cm} {L : List Int} {cc : Int} {x j : Nat} {m : Cm} (h : MR w0 wr S D N c o v xs ms L cc) (hj : ms[j]? = some m) (hx : xs[j]? = some x) (hc : cc ≤ 900000000) (hp : m.pc = 0) :
    Calls Try.prog 22 #[ptr x, ptr S] wr fun e w' => e = .returned (.bool true) ∧ MR w0 w' S D N c o v xs ms L cc := by
  have k := h.step_as (b := true) hj hx hc (cstp_done hp) (by simpa using hp)
  rw [set_same hj] at k
  have e : ccost m cc = cc := by unfold ccost; rw [if_pos hp]
  rw [e] at k
  exact k
/-- What is so at the end of all. -/
theorem once_end {L1 L : List Int} {ms : List Cm} {fl : Int → Bool} {cy old : Int} (H : CI [65] 1 cy (fun q => L1.getD q.toNat 0) 68 L ms fl) (hd : ∀ m ∈ ms, m.pc = 0) (h0 : 0 < ms.length) (hw : L1.getD (65 : Int).toNat 0 = old ∧ L1.getD (60 : Int).toNat 0 = 0) :
    sumf (wonAt 65) ms = (if old < cy then 1 else 0) ∧ ldc L 1 = (if old < cy then 1 else 0) ∧ ldc L 65 = (if old < cy then cy else old) ∧ ldc L 60 = 0 := by
  have hl := H.len
  have hp : ∀ m ∈ ms, m.p = 65 := fun m hm => by have := (H.each m hm).1; simpa using this
  obtain ⟨m, hm⟩ : ∃ m, m ∈ ms := ⟨ms[0], List.getElem_mem h0⟩
  have e := (H.end hd).1 m hm
  rw [hp m hm] at e
  simp only [hw.1] at e
  have w := H.work_end hd
  have sm : sumf (fun m => if m.won = true then 1 else 0) ms = sumf (wonAt 65) ms := sumf_same _ _ fun m hm => by unfold wonAt; simp [hp m hm]
  rw [sm, e.1] at w
  have o := H.other 60 (by decide) (by simp) (by decide)
  exact ⟨e.1, (lc_in (by omega)).trans w, (lc_in (by omega)).trans e.2, (lc_in (by omega)).trans (o.trans hw.2)⟩
theorem wonAt_01 (p : Int) (m : Cm) : 0 ≤ wonAt p m ∧ wonAt p m ≤ 1 := by unfold wonAt; split <;> omega

set_option maxHeartbeats 16000000 in
theorem walkOnce (old cy n : Int) (P : Option Addr) (pn capP : Nat) (ps : List Int) (w : World) (ho : (Lit.int .u64 old).wf = true) (hcy : (Lit.int .u64 cy).wf = true) (hn : (Lit.int .u8 n).wf = true) (hP : IsRow .u8 w P pn capP ps) :
    Calls Try.prog 4 #[.int .u64 old, .int .u64 cy, .int .u8 n, .slice P pn capP] w fun e w' => e = .returned (.bool true) ∧ Below w.heap.size w w' := by
  obtain ⟨rP, lP, h1, h2, _, wfP⟩ := reads_row hP
  obtain ⟨ts, hts⟩ : ∃ xs, xs = ps.take pn := ⟨_, rfl⟩
  rw [← hts] at rP lP wfP
  have hw0 : ∀ z ∈ ts, 0 ≤ z ∧ z ≤ 255 := fun z hz => by
    have := wfP z hz
    simp [Lit.wf, IntKind.min, IntKind.max, IntKind.bits, IntKind.signed] at this; omega
  obtain ⟨o0, o1⟩ : 0 ≤ old ∧ old ≤ 18446744073709551615 := by
    simp [Lit.wf, IntKind.min, IntKind.max, IntKind.bits, IntKind.signed] at ho; omega
  obtain ⟨y0, y1⟩ : 0 ≤ cy ∧ cy ≤ 18446744073709551615 := by
    simp [Lit.wf, IntKind.min, IntKind.max, IntKind.bits, IntKind.signed] at hcy; omega
  obtain ⟨n0, n1⟩ : 0 ≤ n ∧ n ≤ 255 := by
    simp [Lit.wf, IntKind.min, IntKind.max, IntKind.bits, IntKind.signed] at hn; omega
  have HTW := Lib.hid hw0
  have HRP := Lib.hid rP; have HLP := Lib.hid lP
  have hm1 : pn ≤ maxLen := by omega
  have HOK := Lib.hid okc2
  clear hP rP lP wfP hts hw0 ho hcy hn
  by_cases hbig : 200 < pn
  · have d0 : decide ((pn : Int) > 200) = true := by simp; omega
    go_enter Try.func4, Try.ntmps4
    go_wp2_with (first
      | (go_at_call 8; (with_reducible refine (awake_true _).mono ?_); rintro e w1 ⟨rfl, hb⟩)
      | fail)
    go_ret
    exact ⟨rfl, hb⟩
  · have d0 : decide ((pn : Int) > 200) = false := by simp; omega
    have htn : pn ≤ 200 := by omega
    obtain ⟨k0, hk0⟩ : ∃ k0 : Nat, n % 6 = (k0 : Int) := ⟨(n % 6).toNat, by omega⟩
    have hk5 : k0 ≤ 5 := by omega
    clear hbig
    go_enter Try.func4, Try.ntmps4
    go_wp2_with (first
      | (go_at_call 8; (with_reducible refine (awake_true _).mono ?_); rintro e w1 ⟨rfl, hb⟩; have HB := Lib.hid hb; clear hb)
      | (go_at_call 10; (with_reducible refine (new2 _).mono ?_); rintro e w3 ⟨N, rfl, hm, hb⟩; have HM := Lib.hid hm; have HB := Lib.hid (below_step HB.out HB.out.size hb); clear hb hm)
      | (go_at_call 14; (with_reducible refine (first_any HOK.out N _ HM.out).mono ?_); rintro e w4 ⟨G, n, L, rfl, hn, hr, hrep, hb⟩; have HB := Lib.hid (below_step HB.out HB.out.size hb); have HM := Lib.hid (HM.out.below hb); have HN := Lib.hid hn; have HR := Lib.hid hr; have HRE := Lib.hid hrep; have HLE := Lib.hid (first_len HOK.out hrep); clear hb hn hr hrep)
      | (go_at_call 13; (with_reducible refine (new_any _ _ _ L _ HN.out HR.out (by have := HN.out; have := HLE.out; omega)).mono ?_); rintro e w5 hs; obtain ⟨S, D, rfl, hms⟩ := MS.start (w9 := w) HB.out HM.out HOK.out hs; have H0 := Lib.hid hms; clear hs hms)
      | (go_at_call 18; (with_reducible refine (Lay.mark_m HOK.out N 2 (by decide) _ H0.out.mp).mono ?_); rintro r w8 ⟨rfl, hb⟩; rw [p2_2]; have H1 := Lib.hid (H0.out.below hb); clear hb)
      | (go_at_call 19; (with_reducible refine (MS.put H1.out 65 old (by decide)).mono ?_); rintro r w9 ⟨rfl, hk⟩; have H2 := Lib.hid hk; clear hk)
      | fail)
    have HL1 : Hid (∀ l : List Int, (∀ p ∈ l, p = (65 : Int)) → l.length ≤ 1000 → CI [65] 1 cy (fun q => (ptc L 65 old).getD q.toNat 0) 68 (ptc L 65 old) (l.map fun p => cNew p cy) (fun _ => false)) := Lib.hid (by
      intro l hl hf
      obtain ⟨a, b, c, d⟩ := first2 HRE.out
      refine CI.begin (by rw [pc_len]; exact a) (by omega) (fun p hp => by simp at hp; omega) ((pc_other (p := 65) (q := 1) (by decide) (by decide)).trans b) (fun _ _ _ => rfl) l (fun p hp => by simp [hl p hp]) hf)
    have HWS : Hid ((ptc L 65 old).getD (65 : Int).toNat 0 = old ∧ (ptc L 65 old).getD (60 : Int).toNat 0 = 0) := Lib.hid (by
      obtain ⟨a, b, c, d⟩ := first2 HRE.out
      exact ⟨pc_same (by omega), (pc_other (by decide) (by decide)).trans c⟩)
    obtain ⟨L1, hL1⟩ : ∃ L1, L1 = ptc L 65 old := ⟨_, rfl⟩
    rw [← hL1] at HL1 HWS H2
    clear HN HR HRE HLE HB HM H0 H1 hL1 hk0
    go_loopw [14, 15] (fun v i wr => ∃ (j : Nat) (o : Option Nat) (A : Option Addr) (cp : Nat) (xs : List Nat), j ≤ k0 + 1 ∧ v = .slice A j cp ∧ i = .int .i64 (j : Int) ∧ xs.length = j ∧ MR w wr S D N c2 o (.slice A j cp) xs (List.replicate j (cNew 65 cy)) L1 1) (fun _ i _ => k0 + 1 - (intOf i).toNat)
    case atStart => exact ⟨0, none, none, 0, [], by omega, rfl, rfl, rfl, MR.start H2.out⟩
    case round =>
      clear H2
      obtain ⟨j, o, A, cp, xs, hj, rfl, rfl, hxl, hmr⟩ := hrel
      have H0 := Lib.hid hmr
      have HXL := Lib.hid hxl
      clear hmr hxl
      by_cases hlt : j < k0 + 1
      · have d1 : decide ((j : Int) < (k0 : Int) + 1) = true := by simp; omega
        go_wp2_with (first
          | (go_at_call 16; (with_reducible refine (MS.new H0.out.m 2 cy (by decide)).mono ?_); rintro e w6 ⟨X, rfl, hms, x1, x2, hb⟩; rw [p2_2] at hms; have H1 := Lib.hid hms; have HX := Lib.hid (And.intro x1 x2); have HB := Lib.hid hb; have HA := Lib.hid ((H0.out.below hb).below (below_alloc0 (Below.refl _ _) (.cells #[ptr X] 43))).q; clear hms x1 x2 hb)
          | (at_builtin; refine append_v (o' := o) rfl _ _ elX rfl HA.out (new_cell _ _ _) rfl (by rw [List.length_map]; have := HXL.out; omega) rfl rfl ?_; intro v' w9 hg; obtain ⟨o', h9⟩ := H0.out.push H1.out HX.out HB.out (below_alloc0 (Below.refl _ _) (.cells #[ptr X] 43)) hg; obtain ⟨A9, c9, hv9⟩ := h9.len; rw [List.length_append, HXL.out] at hv9; subst hv9; have H9 := Lib.hid h9; clear hg h9)
          | fail)
        go_roundw
        case rel => exact ⟨j + 1, o', A9, c9, xs ++ [X], by omega, rfl, by go_num, by simp [HXL.out], by rw [List.replicate_succ']; exact H9.out⟩
        case measure => simp [intOf]; omega
      · obtain rfl : j = k0 + 1 := by omega
        have d1 : decide (((k0 + 1 : Nat) : Int) < (k0 : Int) + 1) = false := by simp
        clear hlt hj
        obtain ⟨b0, off0, hA⟩ := H0.out.addr (by have := HXL.out; omega)
        subst hA
        go_wp2_with (fail)
        have HCI : Hid (CI [65] 1 cy (fun q => L1.getD q.toNat 0) 68 L1 (List.replicate (k0 + 1) (cNew 65 cy)) (fun _ => false)) := Lib.hid (by
          have := HL1.out (List.replicate (k0 + 1) 65) (fun p hp => (List.mem_replicate.1 hp).2) (by simp; omega)
          rwa [List.map_replicate] at this)
        go_loopw [16] (fun i wr => ∃ (j : Nat) (ms : List Cm) (L : List Int) (cc : Int) (fl : Int → Bool), j ≤ pn + 4 * (k0 + 1) ∧ i = .int .i64 (j : Int) ∧ ms.length = k0 + 1 ∧ CI [65] 1 cy (fun q => L1.getD q.toNat 0) 68 L ms fl ∧ Due (k0 + 1) (pn + 4 * (k0 + 1)) pn j ms ∧ cc ≤ 1 + j ∧ MR w wr S D N c2 o (.slice (some ⟨b0, off0, none⟩) (k0 + 1) cp) xs ms L cc) (fun i _ => pn + 4 * (k0 + 1) - (intOf i).toNat)
        case atStart => exact ⟨0, _, L1, 1, _, by omega, rfl, by simp, HCI.out, Due.start (by simp) (fun m hm => by rw [(List.mem_replicate.1 hm).2]; simp [cdue, cNew]) (by omega), by omega, H0.out⟩
        case round =>
          clear H0 HCI
          obtain ⟨j, ms, L, cc, fl, hj, rfl, hml, hci, hdue, hcc, hmr⟩ := hrel
          have H0 := Lib.hid hmr; have HML := Lib.hid hml; have HCI := Lib.hid hci; have HDU := Lib.hid hdue; have HCC := Lib.hid hcc
          clear hmr hml hci hdue hcc
          by_cases hlt : j < pn + 4 * (k0 + 1)
          · have HJ := Lib.hid hlt
            have hlt2 : (j : Int) < (pn : Int) + 4 * ((k0 : Int) + 1) := by omega
            have hj0 : (0 : Int) ≤ (j : Int) := by omega
            have hk0 : (0 : Int) < (k0 : Int) + 1 := by omega
            go_upto_if 73 with (fail)
            go_cut [17] (fun s wx => ∃ jj : Nat, s = .int .i64 (jj : Int) ∧ jj < k0 + 1 ∧ (j < pn ∨ jj = j % (k0 + 1)) ∧ wx = wr)
            case first =>
              skip
              · by_cases hp : j < pn
                · have hjx : j < ts.length := by have := HLP.out; omega
                  obtain ⟨b, off, rfl, hbl, hcl⟩ := HRP.out (by omega)
                  obtain ⟨x, hx⟩ : ∃ x, x = ts.getD j 0 := ⟨_, rfl⟩
                  have hxm : x ∈ ts := by rw [hx, List.getD, List.getElem?_eq_getElem hjx]; exact List.getElem_mem hjx
                  obtain ⟨x0, x1⟩ := HTW.out x hxm
                  have z0 : wr.cell? ⟨b, off + j, none⟩ = some (.int .u8 x) := by rw [hx]; exact (H0.out.m.bel.cell (p := ⟨b, off + j, none⟩) hbl).trans (hcl j hjx)
                  have hp0 : (j : Int) < (pn : Int) := by omega
                  obtain ⟨xn, hxn⟩ : ∃ xn : Nat, x = (xn : Int) := ⟨x.toNat, by omega⟩
                  clear hcl hx hxm hjx
                  subst hxn
                  go_wp2_with (fail)
                  go_meet
                  exact ⟨xn % (k0 + 1), by simp, Nat.mod_lt _ (by omega), .inl hp, rfl⟩
                · have hp0 : ¬ (j : Int) < (pn : Int) := by omega
                  go_wp2_with (fail)
                  go_meet
                  exact ⟨j % (k0 + 1), by simp, Nat.mod_lt _ (by omega), .inr rfl, rfl⟩
            case rest =>
              obtain ⟨jj, rfl, hjk, hjc, hwx⟩ := hcut
              subst hwx
              obtain ⟨m, hm⟩ : ∃ m, ms[jj]? = some m := ⟨ms[jj]'(by have := HML.out; omega), List.getElem?_eq_getElem _⟩
              have hxl := H0.out.m.len
              obtain ⟨y, hy⟩ : ∃ y, xs[jj]? = some y := ⟨xs[jj]'(by have := HML.out; omega), List.getElem?_eq_getElem _⟩
              have hcell := H0.out.at hy
              have hjk0 : (0 : Int) ≤ (jj : Int) := by omega
              have hjk1 : (jj : Int) < ((k0 + 1 : Nat) : Int) := by omega
              have HM := Lib.hid hm; have HY := Lib.hid hy
              obtain ⟨fl2, hci2⟩ := HCI.out.step hm
              have hds := cdue_step 1 L m (HCI.out.each m (List.mem_of_getElem? hm)).2.2.1
              have hdue2 := HDU.out.step (Nat.succ_pos k0) hm hjc hds.1
              have HCI2 := Lib.hid hci2; have HDU2 := Lib.hid hdue2
              clear hm hy hxl hci2 hdue2 hds hjc
              go_wp2_with (first
                | (go_at_call 22; (with_reducible refine (MR.step H0.out HM.out HY.out (by have := HCC.out; omega)).mono ?_); rintro r w10 ⟨rfl, hk, _⟩; have H4 := Lib.hid hk; clear hk)
                | fail)
              go_roundw
              case rel =>
                (repeat apply Exists.intro)
                refine ⟨?_, rfl⟩
                exact ⟨j + 1, _, _, _, fl2, (by have := HJ.out; omega), by go_num, (by rw [List.length_set]; exact HML.out), HCI2.out, HDU2.out, (by have := HCC.out; unfold ccost; split <;> omega), H4.out⟩
              case measure => have := HJ.out; simp [intOf]; omega
          · obtain rfl : j = pn + 4 * (k0 + 1) := by omega
            have hz := HDU.out.end
            have hpc : ∀ m ∈ ms, m.pc = 0 := fun m hm => cdue_zero (HCI.out.each m hm).2.2.1 (hz m hm)
            have HPC := Lib.hid hpc
            have hlt2 : ¬ (((pn + 4 * (k0 + 1) : Nat) : Int) < (pn : Int) + 4 * ((k0 : Int) + 1)) := by omega
            clear hz hpc hlt hj
            go_wp2_with (fail)
            go_loopw [18, 19] (fun wn i wr => ∃ (q : Nat) (z : Int), q ≤ k0 + 1 ∧ wn = .int .i64 z ∧ i = .int .i64 (q : Int) ∧ z = sumf (wonAt 65) (ms.take q) ∧ 0 ≤ z ∧ z ≤ q ∧ MR w wr S D N c2 o (.slice (some ⟨b0, off0, none⟩) (k0 + 1) cp) xs ms L cc) (fun _ i _ => k0 + 1 - (intOf i).toNat)
            case atStart => exact ⟨0, 0, by omega, rfl, rfl, rfl, by omega, by omega, H0.out⟩
            case round =>
              clear H0
              obtain ⟨q, z, hq, rfl, rfl, hz, hz0, hz1, hmr⟩ := hrel
              have H0 := Lib.hid hmr; have HZ := Lib.hid hz
              clear hmr hz
              by_cases hlt : q < k0 + 1
              · obtain ⟨m, hm⟩ : ∃ m, ms[q]? = some m := ⟨ms[q]'(by have := HML.out; omega), List.getElem?_eq_getElem _⟩
                have hxl := H0.out.m.len
                obtain ⟨y, hy⟩ : ∃ y, xs[q]? = some y := ⟨xs[q]'(by have := HML.out; omega), List.getElem?_eq_getElem _⟩
                have hcell := H0.out.at hy
                have hq0 : (0 : Int) ≤ (q : Int) := by omega
                have hq1 : (q : Int) < ((k0 + 1 : Nat) : Int) := by omega
                have hq2 : (q : Int) < (k0 : Int) + 1 := by omega
                have HM := Lib.hid hm; have HY := Lib.hid hy
                have hpm := HPC.out m (List.mem_of_getElem? hm)
                have HPM := Lib.hid hpm
                have hzs := sumf_take (wonAt 65) hm
                rw [← HZ.out] at hzs
                have hmp : m.p = 65 := by have := (HCI.out.each m (List.mem_of_getElem? hm)).1; simpa using this
                have HQ := Lib.hid hlt
                obtain ⟨wb, hwb⟩ : ∃ wb, wb = m.won := ⟨_, rfl⟩
                have HWB := Lib.hid hwb
                have hwa : wonAt 65 m = if wb = true then 1 else 0 := by unfold wonAt; simp [hmp, hwb]
                rw [hwa] at hzs
                have HZS := Lib.hid hzs
                clear hm hy hxl hpm hzs hmp hwb hwa
                cases wb
                all_goals
                  go_wp2_with (first
                    | (go_at_call 22; (with_reducible refine (MR.done H0.out HM.out HY.out (by have := HCC.out; omega) HPM.out).mono ?_); rintro r w10 ⟨rfl, hk⟩; have H4 := Lib.hid hk; clear hk; have hcell2 := H4.out.at HY.out)
                    | (go_at_call 24; (with_reducible refine (MR.won H4.out HM.out HY.out).mono ?_); rintro r w12 ⟨rfl, hw⟩; cases hw; rw [← HWB.out])
                    | fail)
                · go_roundw
                  case rel => exact ⟨q + 1, z, by have := HQ.out; omega, rfl, by go_num, by rw [HZS.out]; simp, hz0, by omega, H4.out⟩
                  case measure => have := HQ.out; simp [intOf]; omega
                · go_roundw
                  case rel => exact ⟨q + 1, z + 1, by have := HQ.out; omega, by go_num, by go_num, by rw [HZS.out]; simp, by omega, by omega, H4.out⟩
                  case measure => have := HQ.out; simp [intOf]; omega
              · obtain rfl : q = k0 + 1 := by omega
                have hq2 : ¬ (((k0 + 1 : Nat) : Int) < (k0 : Int) + 1) := by omega
                have hz := HZ.out
                rw [List.take_of_length_le (by have := HML.out; omega)] at hz
                obtain ⟨f1, f2, f3, f4⟩ := once_end HCI.out HPC.out (by have := HML.out; omega) HWS.out
                rw [← hz] at f1
                have hcc := HCC.out
                by_cases hoc : old < cy
                · rw [if_pos hoc] at f1 f2 f3
                  subst f1
                  have F2 := Lib.hid f2; have F3 := Lib.hid f3; have F4 := Lib.hid f4
                  have d1 : decide (old ≥ cy) = false := by simpa using hoc
                  have hmx : Lay.imax old cy = cy := by unfold Lay.imax; omega
                  clear f2 f3 f4 hz HZ HML HCI HPC HDU hlt hq
                  go_wp2_with (first
                    | (go_at_call 27; (with_reducible refine (Lay.work_m HOK.out N _ H0.out.m.mp).mono ?_); rintro r w8 ⟨rfl, hb⟩; rw [p2_w]; have H5 := Lib.hid (H0.out.below hb); clear hb)
                    | (go_at_call 26; (with_reducible refine (MR.load H5.out 1 (by omega)).mono ?_); rintro r w9 ⟨rfl, hk⟩; rw [F2.out]; have H6 := Lib.hid hk; clear hk)
                    | (go_at_call 18; (with_reducible refine (Lay.mark_m HOK.out N 2 (by decide) _ H6.out.m.mp).mono ?_); rintro r w8 ⟨rfl, hb⟩; rw [p2_2]; have H7 := Lib.hid (H6.out.below hb); clear hb)
                    | (go_at_call 26; (with_reducible refine (MR.load H7.out 65 (by omega)).mono ?_); rintro r w9 ⟨rfl, hk⟩; rw [F3.out]; have H8 := Lib.hid hk; clear hk)
                    | (go_at_call 18; (with_reducible refine (Lay.mark_m HOK.out N 1 (by decide) _ H8.out.m.mp).mono ?_); rintro r w8 ⟨rfl, hb⟩; rw [p2_1]; have H9 := Lib.hid (H8.out.below hb); clear hb)
                    | (go_at_call 26; (with_reducible refine (MR.load H9.out 60 (by omega)).mono ?_); rintro r w9 ⟨rfl, hk⟩; rw [F4.out]; have H10 := Lib.hid hk; clear hk)
                    | fail)
                  go_ret
                  exact ⟨rfl, H10.out.m.bel⟩
                · rw [if_neg hoc] at f1 f2 f3
                  subst f1
                  have F2 := Lib.hid f2; have F3 := Lib.hid f3; have F4 := Lib.hid f4
                  have d1 : decide (old ≥ cy) = true := by simp; omega
                  have hmx : Lay.imax old cy = old := by unfold Lay.imax; omega
                  clear f2 f3 f4 hz HZ HML HCI HPC HDU hlt hq
                  go_wp2_with (first
                    | (go_at_call 27; (with_reducible refine (Lay.work_m HOK.out N _ H0.out.m.mp).mono ?_); rintro r w8 ⟨rfl, hb⟩; rw [p2_w]; have H5 := Lib.hid (H0.out.below hb); clear hb)
                    | (go_at_call 26; (with_reducible refine (MR.load H5.out 1 (by omega)).mono ?_); rintro r w9 ⟨rfl, hk⟩; rw [F2.out]; have H6 := Lib.hid hk; clear hk)
                    | (go_at_call 18; (with_reducible refine (Lay.mark_m HOK.out N 2 (by decide) _ H6.out.m.mp).mono ?_); rintro r w8 ⟨rfl, hb⟩; rw [p2_2]; have H7 := Lib.hid (H6.out.below hb); clear hb)
                    | (go_at_call 26; (with_reducible refine (MR.load H7.out 65 (by omega)).mono ?_); rintro r w9 ⟨rfl, hk⟩; rw [F3.out]; have H8 := Lib.hid hk; clear hk)
                    | (go_at_call 18; (with_reducible refine (Lay.mark_m HOK.out N 1 (by decide) _ H8.out.m.mp).mono ?_); rintro r w8 ⟨rfl, hb⟩; rw [p2_1]; have H9 := Lib.hid (H8.out.below hb); clear hb)
                    | (go_at_call 26; (with_reducible refine (MR.load H9.out 60 (by omega)).mono ?_); rintro r w9 ⟨rfl, hk⟩; rw [F4.out]; have H10 := Lib.hid hk; clear hk)
                    | fail)
                  go_ret
                  exact ⟨rfl, H10.out.m.bel⟩
end Go.Proofs.Ytbjhciccpkbmoaa
