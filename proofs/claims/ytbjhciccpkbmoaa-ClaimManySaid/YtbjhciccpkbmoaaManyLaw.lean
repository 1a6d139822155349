/- The law of many that try to mark nodes, walked. -/
import Derived.Test.YtbjhciccpkbmoaaClMx
namespace Go.Proofs.Ytbjhciccpkbmoaa
open Go.RowKit
set_option linter.unusedVariables false
set_option linter.unusedSimpArgs false
set_option maxRecDepth 100000
open Lay (plcc plc shOf packN nodesN OkC Cfg Norm firstV Rep lenL things)

def cntB (f : Nat → Bool) : Nat → Int
  | 0 => 0
  | v + 1 => cntB f v + if f v = true then 1 else 0
theorem cntB_bd (f : Nat → Bool) : ∀ v, 0 ≤ cntB f v ∧ cntB f v ≤ v
  | 0 => by simp [cntB]
  | v + 1 => by
    have := cntB_bd f v
    simp only [cntB]; split <;> omega
/-- What the counting goes over: none at 0. -/
def fv (g : Nat → Bool) (v : Nat) : Bool := decide (1 ≤ v) && g v

set_option maxHeartbeats 16000000 in
theorem walkMany (A0 : Option Addr) (n0 cap0 : Nat) (zs0 : List Int) (cy : Int) (A2 : Option Addr) (n2 cap2 : Nat) (zs2 : List Int) (P : Option Addr) (pn capP : Nat) (ps : List Int) (w : World) (hO : IsRow .u64 w A0 n0 cap0 zs0) (hNd : IsRow .u8 w A2 n2 cap2 zs2) (hP : IsRow .u8 w P pn capP ps) :
    Calls Try.prog 6 #[.slice A0 n0 cap0, .int .u64 cy, .slice A2 n2 cap2, .slice P pn capP] w fun e w' => e = .returned (.bool true) ∧ Below w.heap.size w w' := by
  obtain ⟨rO, lO, _, _, _, _⟩ := reads_row hO
  obtain ⟨rN, lN, _, _, _, wfN⟩ := reads_row hNd
  obtain ⟨rP, lP, _, _, _, wfP⟩ := reads_row hP
  obtain ⟨os, hos⟩ : ∃ xs, xs = zs0.take n0 := ⟨_, rfl⟩
  obtain ⟨ns, hns⟩ : ∃ xs, xs = zs2.take n2 := ⟨_, rfl⟩
  obtain ⟨ts, hts⟩ : ∃ xs, xs = ps.take pn := ⟨_, rfl⟩
  rw [← hos] at rO lO
  rw [← hns] at rN lN wfN
  rw [← hts] at rP lP wfP
  have hw0 : ∀ {l : List Int}, (∀ x ∈ l, (Lit.int .u8 x).wf = true) → ∀ z ∈ l, 0 ≤ z ∧ z ≤ 255 := fun h z hz => by
    have := h z hz
    simp [Lit.wf, IntKind.min, IntKind.max, IntKind.bits, IntKind.signed] at this; omega
  have HNW := Lib.hid (hw0 wfN); have HTW := Lib.hid (hw0 wfP)
  have HRO := Lib.hid rO; have HLO := Lib.hid lO
  have HRN := Lib.hid rN; have HLN := Lib.hid lN
  have HRP := Lib.hid rP; have HLP := Lib.hid lP
  have HOK := Lib.hid okc4
  clear hO rO lO hos hNd rN lN wfN hns hP rP lP wfP hts hw0
  by_cases hbig : 4 < n0 ∨ 8 < n2 ∨ n2 = 0 ∨ 200 < pn
  · have key : (decide ((n0 : Int) > 4) = true) ∨ (decide ((n0 : Int) > 4) = false ∧ decide ((n2 : Int) > 8) = true) ∨ (decide ((n0 : Int) > 4) = false ∧ decide ((n2 : Int) > 8) = false ∧ ((n2 : Int) == 0) = true) ∨ (decide ((n0 : Int) > 4) = false ∧ decide ((n2 : Int) > 8) = false ∧ ((n2 : Int) == 0) = false ∧ decide ((pn : Int) > 200) = true) := by
      by_cases e1 : 4 < n0
      · exact .inl (by simp; omega)
      · by_cases e2 : 8 < n2
        · exact .inr (.inl ⟨by simp; omega, by simp; omega⟩)
        · by_cases e3 : n2 = 0
          · exact .inr (.inr (.inl ⟨by simp; omega, by simp; omega, by simp; omega⟩))
          · exact .inr (.inr (.inr ⟨by simp; omega, by simp; omega, by simp; omega, by simp; omega⟩))
    clear hbig
    rcases key with d0 | ⟨d0, d1⟩ | ⟨d0, d1, d2⟩ | ⟨d0, d1, d2, d3⟩
    all_goals
      go_enter Try.func6, Try.ntmps6
      go_wp2_with (first
        | (go_at_call 8; (with_reducible refine (awake_true _).mono ?_); rintro e w1 ⟨rfl, hb⟩)
        | fail)
      all_goals go_ret
      all_goals exact ⟨rfl, hb⟩
  · have d0 : decide ((n0 : Int) > 4) = false := by simp; omega
    have d1 : decide ((n2 : Int) > 8) = false := by simp; omega
    have d2 : ((n2 : Int) == 0) = false := by simp; omega
    have d3 : decide ((pn : Int) > 200) = false := by simp; omega
    have hn0 : n0 ≤ 4 := by omega
    have hn2 : n2 ≤ 8 := by omega
    have hn2' : 0 < n2 := by omega
    have hpn : pn ≤ 200 := by omega
    clear hbig
    go_enter Try.func6, Try.ntmps6
    go_wp2_with (first
      | (go_at_call 8; (with_reducible refine (awake_true _).mono ?_); rintro e w1 ⟨rfl, hb⟩; have HB := Lib.hid hb; clear hb)
      | (go_at_call 10; (with_reducible refine (new4 _).mono ?_); rintro e w3 ⟨N, rfl, hm, hb⟩; have HM := Lib.hid hm; have HB := Lib.hid (below_step HB.out HB.out.size hb); clear hb hm)
      | (go_at_call 14; (with_reducible refine (first_any HOK.out N _ HM.out).mono ?_); rintro e w4 ⟨G, n, L, rfl, hn, hr, hrep, hb⟩; have HB := Lib.hid (below_step HB.out HB.out.size hb); have HM := Lib.hid (HM.out.below hb); have HN := Lib.hid hn; have HR := Lib.hid hr; have HRE := Lib.hid hrep; have HLE := Lib.hid (first_len HOK.out hrep); clear hb hn hr hrep)
      | (go_at_call 13; (with_reducible refine (new_any _ _ _ L _ HN.out HR.out (by have := HN.out; have := HLE.out; omega)).mono ?_); rintro e w5 hs; obtain ⟨S, D, rfl, hms⟩ := MS.start (w9 := w) HB.out HM.out HOK.out hs; have H0 := Lib.hid hms; clear hs hms)
      | fail)
    have HL0 : Hid (L.length = 102 ∧ L.getD 1 0 = 0) := Lib.hid (by obtain ⟨a, b, _⟩ := first4 HRE.out; exact ⟨a, b⟩)
    clear HB HM HN HR HRE HLE
    go_loopw [13] (fun i wr => ∃ (j : Nat) (L : List Int), j ≤ n0 ∧ i = .int .i64 (j : Int) ∧ L.length = 102 ∧ L.getD 1 0 = 0 ∧ MS w wr S D N c4 [] [] L j) (fun i _ => n0 - (intOf i).toNat)
    case atStart => exact ⟨0, L, by omega, rfl, HL0.out.1, HL0.out.2, H0.out⟩
    case round =>
      clear H0 HL0 L
      obtain ⟨j, L, hj, rfl, hll, hlw, hms⟩ := hrel
      have H0 := Lib.hid hms; have HLL := Lib.hid (And.intro hll hlw)
      clear hms hll hlw
      by_cases hlt : j < n0
      · obtain ⟨b, off, rfl, hbl, hcl⟩ := HRO.out (by have := HLO.out; omega)
        obtain ⟨x, hx⟩ : ∃ x, x = os.getD j 0 := ⟨_, rfl⟩
        have HZ : Hid (∀ wz, Below w.heap.size w wz → wz.cell? ⟨b, off + j, none⟩ = some (.int .u64 x)) := Lib.hid (fun wz hb => by rw [hx]; exact (hb.cell (p := ⟨b, off + j, none⟩) hbl).trans (hcl j (by have := HLO.out; omega)))
        have z0 := HZ.out _ H0.out.bel
        have HD := Lib.hid H0.out.drew
        have hj0 : (0 : Int) ≤ (j : Int) := by omega
        have hj1 : (j : Int) < (n0 : Int) := by omega
        have ew : IntKind.i64.wrap ((j : Int) + 1) = (j : Int) + 1 := IntWalk.i64_in _ (by omega)
        have HVP : Hid (plcc c4 16 ((j : Int) + 1) 0 = 84 + 5 * (j : Int)) := Lib.hid (by rw [p4_at (by omega) (by omega)]; omega)
        have HV := Lib.hid (Lay.wf_i64 (v := (j : Int) + 1) (by omega) (by omega))
        clear hcl hx
        go_wp2_with (fail)
        go_region_held3 (fun w' => w'.cell? ⟨b, off + j, none⟩ = some (.int .u64 x))
          (first | exact HZ.out _ H3.out.bel | exact HZ.out _ H2.out.bel | exact HZ.out _ HD.out.bel | go_keep)
          (first
            | (go_at_call 18; (with_reducible refine (Lay.mark_m HOK.out N ((j : Int) + 1) HV.out _ HD.out.mp).mono ?_); rintro r w8 ⟨rfl, hb⟩; rw [HVP.out]; have H2 := Lib.hid (HD.out.below hb); clear hb)
            | (go_at_call 19; (with_reducible refine (MS.put H2.out (84 + 5 * (j : Int)) x (by omega)).mono ?_); rintro r w9 ⟨rfl, hk⟩; have H3 := Lib.hid hk; clear hk)
            | fail)
        all_goals
          go_wp2_with (fail)
          go_roundw
          case rel => exact ⟨j + 1, ptc L (84 + 5 * (j : Int)) x, by omega, by go_num, by rw [pc_len]; exact HLL.out.1, (pc_other (p := 84 + 5 * (j : Int)) (q := 1) (by decide) (by omega)).trans HLL.out.2, by have := H3.out; simpa using this⟩
          case measure => simp [intOf]; omega
      · obtain rfl : j = n0 := by omega
        clear hlt hj
        obtain ⟨nL, hnL⟩ : ∃ nL, nL = L.length := ⟨_, rfl⟩
        have HNL := Lib.hid hnL
        have hnL2 : nL = 102 := by rw [hnL]; exact HLL.out.1
        have hmk := make_bools5
        have hmk2 := make_ints5
        have HX0 := Lib.hid (MX.start (MR.start H0.out))
        clear hnL
        go_wp2_with (first
          | (go_at_call 15; (with_reducible refine (MX.all HX0.out (by have := HLL.out; omega)).mono ?_); rintro e w6 ⟨WB, rfl, hx⟩; rw [← HNL.out]; have HX1 := Lib.hid hx; clear hx)
          | fail)
        obtain ⟨WT, hWT⟩ : ∃ WT, WT = w6.heap.size := ⟨_, rfl⟩
        have hne : WB ≠ WT := by rw [hWT]; have := HX1.out.lt (esSet_same _ WB (uO L)); omega
        have hx2 := HX1.out.alloc (bO [false, false, false, false, false])
        rw [← hWT] at hx2 ⊢
        obtain ⟨w7, hw7⟩ : ∃ w7, w7 = w6.alloc (bO [false, false, false, false, false]) := ⟨_, rfl⟩
        rw [← hw7] at hx2 ⊢
        have HX2 := Lib.hid hx2
        have HNE := Lib.hid hne
        obtain ⟨es, hes⟩ : ∃ es, es = esSet (esSet (fun _ => none) WB (uO L)) WT (bO [false, false, false, false, false]) := ⟨_, rfl⟩
        have HE1 : Hid (es WB = some (uO L)) := Lib.hid (by rw [hes, esSet_other hne, esSet_same])
        have HE2 : Hid (es WT = some (bO [false, false, false, false, false])) := Lib.hid (by rw [hes, esSet_same])
        have hx3 := HX2.out
        rw [← hes] at hx3
        have HX3 := Lib.hid hx3
        have HWL : Hid (L.length = 102) := Lib.hid HLL.out.1
        clear hx2 hx3 HX1 HX2 HX0 H0 hes hw7 hWT hne hmk
        go_loopw [15, 17] (fun l i wr => ∃ (q : Nat) (o : Option Nat) (A : Option Addr) (cp : Nat) (xs : List Nat) (ms : List Cm) (B : List Bool) (es : Nat → Option Obj), q ≤ n2 ∧ l = .slice A q cp ∧ i = .int .i64 (q : Int) ∧ xs.length = q ∧ ms = (ns.take q).map (fun x => cNew (84 + 5 * (x % 4)) cy) ∧ B.length = 5 ∧ (∀ v, 1 ≤ v → v ≤ 4 → B.getD v false = wantB (ns.take q) L cy v) ∧ es WB = some (uO L) ∧ es WT = some (bO B) ∧ MX w wr S D N c4 o (.slice A q cp) xs ms L (j : Int) es) (fun _ i _ => n2 - (intOf i).toNat)
        case atStart => exact ⟨0, none, none, 0, [], [], [false, false, false, false, false], es, by omega, rfl, rfl, rfl, by simp, rfl, (fun v v1 v4 => by
            rw [List.take_zero, want_nil]
            have hv : v = 1 ∨ v = 2 ∨ v = 3 ∨ v = 4 := by omega
            rcases hv with rfl | rfl | rfl | rfl <;> rfl), HE1.out, HE2.out, HX3.out⟩
        case round =>
          clear HX3 HE1 HE2
          obtain ⟨q, o, A, cp, xs, ms, B, es, hq, rfl, rfl, hxl, hms, hbl, hwb, he1, he2, hmx⟩ := hrel
          have H0 := Lib.hid hmx; have HXL := Lib.hid hxl; have HMS := Lib.hid hms; have HBL := Lib.hid hbl; have HWB := Lib.hid hwb; have HE1 := Lib.hid he1; have HE2 := Lib.hid he2
          clear hmx hxl hms hbl hwb he1 he2
          by_cases hlt : q < n2
          · obtain ⟨bn, offn, rfl, hbln, hcln⟩ := HRN.out (by have := HLN.out; omega)
            obtain ⟨x, hx⟩ : ∃ x, x = ns.getD q 0 := ⟨_, rfl⟩
            have hql : q < ns.length := by have := HLN.out; omega
            have hxe : ns[q]? = some x := by rw [hx, List.getD, List.getElem?_eq_getElem hql]; rfl
            have hxm : x ∈ ns := List.mem_of_getElem? hxe
            obtain ⟨x0, x1⟩ := HNW.out x hxm
            have z0 : wr.cell? ⟨bn, offn + q, none⟩ = some (.int .u8 x) := by rw [hx]; exact (H0.out.m.m.bel.cell (p := ⟨bn, offn + q, none⟩) hbln).trans (hcln q hql)
            have hq0 : (0 : Int) ≤ (q : Int) := by omega
            have hq1 : (q : Int) < (n2 : Int) := by omega
            obtain ⟨nd, hnd⟩ : ∃ nd : Nat, x % 4 = (nd : Int) := ⟨(x % 4).toNat, by omega⟩
            have hnd4 : nd < 4 := by omega
            obtain ⟨vn, hvn⟩ : ∃ vn : Nat, (nd : Int) + 1 = (vn : Int) := ⟨nd + 1, by simp⟩
            have hvn1 : 1 ≤ vn := by omega
            have hvn4 : vn ≤ 4 := by omega
            obtain ⟨q1, hq1'⟩ : ∃ q1 : Nat, q1 = 79 + 5 * vn := ⟨_, rfl⟩
            have HVC : Hid (plcc c4 16 (vn : Int) 0 = 84 + 5 * (x % 4)) := Lib.hid (by rw [p4_at (by omega) (by omega)]; omega)
            have HVP : Hid (plcc c4 16 (vn : Int) 0 = (q1 : Int)) := Lib.hid (by rw [p4_at (by omega) (by omega)]; omega)
            have HV := Lib.hid (Lay.wf_i64 (v := (vn : Int)) (by omega) (by omega))
            have hq10 : (0 : Int) ≤ (q1 : Int) := by omega
            have hq11 : (q1 : Int) < 102 := by omega
            have hv0 : (0 : Int) ≤ (vn : Int) := by omega
            have hv5 : (vn : Int) < 5 := by omega
            obtain ⟨z, hz⟩ : ∃ z, z = L.getD q1 0 := ⟨_, rfl⟩
            have HZ := Lib.hid hz; have HQ1 := Lib.hid hq1'; have HXE := Lib.hid hxe; have HXV : Hid (x % 4 + 1 = (vn : Int)) := Lib.hid (by omega)
            clear hcln hx hql hxe hxm hz hq1'
            go_wp2_with (first
              | (go_at_call 16; (with_reducible refine (MS.new H0.out.m.m (vn : Int) cy HV.out).mono ?_); rintro e w8 ⟨X, rfl, hms, x1, x2, hb⟩; rw [HVC.out] at hms; have H1 := Lib.hid hms; have HX := Lib.hid (And.intro x1 x2); have HB := Lib.hid hb; have HA := Lib.hid ((H0.out.below hb).below (below_alloc0 (Below.refl _ _) (.cells #[ptr X] 43))).m.q; clear hms x1 x2 hb)
              | (at_builtin; refine append_v (o' := o) rfl _ _ elX rfl HA.out (new_cell _ _ _) rfl (by rw [List.length_map]; have := HXL.out; omega) rfl rfl ?_; intro v' w9 hg; obtain ⟨o', h9⟩ := H0.out.push H1.out HX.out HB.out (below_alloc0 (Below.refl _ _) (.cells #[ptr X] 43)) hg; obtain ⟨A9, c9, hv9⟩ := h9.m.len; rw [List.length_append, HXL.out] at hv9; subst hv9; have H9 := Lib.hid h9; clear hg h9)
              | (go_at_call 18; (with_reducible refine (Lay.mark_m HOK.out N (vn : Int) HV.out _ H9.out.m.m.mp).mono ?_); rintro r w10 ⟨rfl, hb⟩; rw [HVP.out]; have H10 := Lib.hid (H9.out.below hb); clear hb; have hcu := H10.out.cellU HE1.out q1 (by have := HWL.out; omega); rw [← HZ.out] at hcu; obtain ⟨hcb, hfb⟩ := H10.out.cellB HE2.out vn (by have := HBL.out; omega); have H11 := Lib.hid (H10.out.setB HE2.out vn (decide (z < cy))))
              | fail)
            go_roundw
            case rel =>
              have hzz := HZ.out; rw [HQ1.out] at hzz
              have hw := want_step (cy := cy) (L1 := L) HWB.out HXE.out HXV.out HBL.out hvn4
              rw [← hzz] at hw
              refine ⟨q + 1, o', A9, c9, xs ++ [X], _, B.set vn (decide (z < cy)), _, by omega, rfl, by go_num, by simp [HXL.out], ?_, by rw [List.length_set]; exact HBL.out, hw, (esSet_other HNE.out).trans HE1.out, esSet_same _ _ _, H11.out⟩
              rw [HMS.out, List.take_add_one, HXE.out]
              simp
            case measure => simp [intOf]; omega
          · obtain rfl : q = n2 := by omega
            have hnl : ns.length = q := HLN.out
            have hms := HMS.out
            have hwb := HWB.out
            rw [List.take_of_length_le (by omega)] at hms hwb
            have hml : ms.length = q := by rw [hms, List.length_map]; exact hnl
            have hpi : ∀ (j : Nat) (m : Cm), ms[j]? = some m → m.p = 84 + 5 * (ns.getD j 0 % 4) := fun j m hm => by
              rw [hms, List.getElem?_map] at hm
              cases hn : ns[j]? with
              | none => rw [hn] at hm; cases hm
              | some x =>
                rw [hn] at hm
                cases hm
                simp [cNew, List.getD, hn]
            have hci : CI marksP 1 cy (fun q => L.getD q.toNat 0) 102 L ms (fun _ => false) := by
              have e : ms = (ns.map fun x => 84 + 5 * (x % 4)).map fun p => cNew p cy := by rw [hms, List.map_map]; rfl
              rw [e]
              refine CI.begin HLL.out.1 (by omega) (fun p hp => ?_) (show L.getD (1 : Int).toNat 0 = 0 from HLL.out.2) (fun _ _ _ => rfl) _ (fun p hp => ?_) (by rw [List.length_map]; omega)
              · simp only [List.mem_cons, List.not_mem_nil, or_false] at hp; omega
              · obtain ⟨x, _, rfl⟩ := List.mem_map.1 hp
                simp only [List.mem_cons, List.not_mem_nil, or_false]; omega
            have hdu : Due q (pn + 4 * q) pn 0 ms := Due.start hml (fun m hm => by
              rw [hms] at hm
              obtain ⟨x, _, rfl⟩ := List.mem_map.1 hm
              simp [cdue, cNew]) (by omega)
            have HML := Lib.hid hml; have HPI := Lib.hid hpi; have HCI := Lib.hid hci; have HDU := Lib.hid hdu; have HWB2 := Lib.hid hwb
            obtain ⟨b0, off0, hA⟩ := H0.out.m.addr (by have := HXL.out; omega)
            subst hA
            clear hnl hms hwb hml hpi hci hdu HMS HWB hlt hq
            go_wp2_with (fail)
            go_loopw [19] (fun i wr => ∃ (k : Nat) (ms : List Cm) (L2 : List Int) (cc : Int) (fl : Int → Bool), k ≤ pn + 4 * q ∧ i = .int .i64 (k : Int) ∧ ms.length = q ∧ (∀ (j : Nat) (m : Cm), ms[j]? = some m → m.p = 84 + 5 * (ns.getD j 0 % 4)) ∧ CI marksP 1 cy (fun q => L.getD q.toNat 0) 102 L2 ms fl ∧ Due q (pn + 4 * q) pn k ms ∧ cc ≤ 4 + k ∧ MX w wr S D N c4 o (.slice (some ⟨b0, off0, none⟩) q cp) xs ms L2 cc es) (fun i _ => pn + 4 * q - (intOf i).toNat)
            case atStart => exact ⟨0, ms, L, (j : Int), _, by omega, rfl, HML.out, HPI.out, HCI.out, HDU.out, by omega, H0.out⟩
            case round =>
              clear H0 HML HPI HCI HDU
              obtain ⟨k, ms, L2, cc, fl, hk, rfl, hml, hpi, hci, hdu, hcc, hmx⟩ := hrel
              have H0 := Lib.hid hmx; have HML := Lib.hid hml; have HPI := Lib.hid hpi; have HCI := Lib.hid hci; have HDU := Lib.hid hdu; have HCC := Lib.hid hcc
              clear hmx hml hpi hci hdu hcc
              by_cases hlt : k < pn + 4 * q
              · have HJ := Lib.hid hlt
                have hlt2 : (k : Int) < (pn : Int) + 4 * (q : Int) := by omega
                have hk0 : (0 : Int) ≤ (k : Int) := by omega
                have hq0 : (0 : Int) < (q : Int) := by omega
                go_upto_if 125 with (fail)
                go_cut [20] (fun s wx => ∃ jj : Nat, s = .int .i64 (jj : Int) ∧ jj < q ∧ (k < pn ∨ jj = k % q) ∧ wx = wr)
                case first =>
                  skip
                  · by_cases hp : k < pn
                    · have hjx : k < ts.length := by have := HLP.out; omega
                      obtain ⟨b, off, rfl, hbl, hcl⟩ := HRP.out (by omega)
                      obtain ⟨x, hx⟩ : ∃ x, x = ts.getD k 0 := ⟨_, rfl⟩
                      have hxm : x ∈ ts := by rw [hx, List.getD, List.getElem?_eq_getElem hjx]; exact List.getElem_mem hjx
                      obtain ⟨x0, x1⟩ := HTW.out x hxm
                      have z0 : wr.cell? ⟨b, off + k, none⟩ = some (.int .u8 x) := by rw [hx]; exact (H0.out.m.m.bel.cell (p := ⟨b, off + k, none⟩) hbl).trans (hcl k hjx)
                      have hp0 : (k : Int) < (pn : Int) := by omega
                      obtain ⟨xn, hxn⟩ : ∃ xn : Nat, x = (xn : Int) := ⟨x.toNat, by omega⟩
                      clear hcl hx hxm hjx
                      subst hxn
                      go_wp2_with (fail)
                      go_meet
                      exact ⟨xn % q, by simp, Nat.mod_lt _ (by omega), .inl hp, rfl⟩
                    · have hp0 : ¬ (k : Int) < (pn : Int) := by omega
                      go_wp2_with (fail)
                      go_meet
                      exact ⟨k % q, by simp, Nat.mod_lt _ (by omega), .inr rfl, rfl⟩
                case rest =>
                  obtain ⟨jj, rfl, hjk, hjc, hwx⟩ := hcut
                  subst hwx
                  obtain ⟨m, hm⟩ : ∃ m, ms[jj]? = some m := ⟨ms[jj]'(by have := HML.out; omega), List.getElem?_eq_getElem _⟩
                  have hxl := H0.out.m.m.len
                  obtain ⟨y, hy⟩ : ∃ y, xs[jj]? = some y := ⟨xs[jj]'(by have := HML.out; omega), List.getElem?_eq_getElem _⟩
                  have hcell := H0.out.m.at hy
                  have hjk0 : (0 : Int) ≤ (jj : Int) := by omega
                  have hjk1 : (jj : Int) < (q : Int) := by omega
                  have HM := Lib.hid hm; have HY := Lib.hid hy
                  obtain ⟨fl2, hci2⟩ := HCI.out.step hm
                  have hds := cdue_step 1 L2 m (HCI.out.each m (List.mem_of_getElem? hm)).2.2.1
                  have hdue2 := HDU.out.step (by omega) hm hjc hds.1
                  have hpi2 : ∀ (i : Nat) (m' : Cm), (ms.set jj (cstp 1 L2 m).2)[i]? = some m' → m'.p = 84 + 5 * (ns.getD i 0 % 4) := fun i m' h => by
                    rw [List.getElem?_set] at h
                    by_cases e : jj = i
                    · subst e
                      rw [if_pos rfl, if_pos (by have := HML.out; omega)] at h
                      cases h
                      exact hds.2.2.1.trans (HPI.out jj m hm)
                    · rw [if_neg e] at h; exact HPI.out i m' h
                  have HCI2 := Lib.hid hci2; have HDU2 := Lib.hid hdue2; have HPI2 := Lib.hid hpi2
                  clear hm hy hxl hci2 hdue2 hds hjc hpi2
                  go_wp2_with (first
                    | (go_at_call 22; (with_reducible refine (MX.step H0.out HM.out HY.out (by have := HCC.out; omega)).mono ?_); rintro r w10 ⟨rfl, hk⟩; have H4 := Lib.hid hk; clear hk)
                    | fail)
                  go_roundw
                  case rel =>
                    exact ⟨k + 1, _, _, _, fl2, (by have := HJ.out; omega), by go_num, (by rw [List.length_set]; exact HML.out), HPI2.out, HCI2.out, HDU2.out, (by have := HCC.out; unfold ccost; split <;> omega), H4.out⟩
                  case measure => have := HJ.out; simp [intOf]; omega
              · obtain rfl : k = pn + 4 * q := by omega
                have hz := HDU.out.end
                have hpc : ∀ m ∈ ms, m.pc = 0 := fun m hm => cdue_zero (HCI.out.each m hm).2.2.1 (hz m hm)
                have HPC := Lib.hid hpc
                obtain ⟨ke, kw⟩ := many_end HCI.out hpc (by have := HML.out; have := HLN.out; omega) HPI.out
                have HKE := Lib.hid ke; have HKW := Lib.hid kw
                have hlt2 : ¬ (((pn + 4 * q : Nat) : Int) < (pn : Int) + 4 * (q : Int)) := by omega
                clear hz hpc hlt hk ke kw
                go_wp2_with (fail)
                obtain ⟨WV, hWV⟩ : ∃ WV, WV = wr.heap.size := ⟨_, rfl⟩
                have hn1 : WB ≠ WV := by rw [hWV]; have := H0.out.lt HE1.out; omega
                have hn2 : WT ≠ WV := by rw [hWV]; have := H0.out.lt HE2.out; omega
                have hx2 := H0.out.alloc (iO [0, 0, 0, 0, 0])
                rw [← hWV] at hx2 ⊢
                obtain ⟨w8, hw8⟩ : ∃ w8, w8 = wr.alloc (iO [0, 0, 0, 0, 0]) := ⟨_, rfl⟩
                rw [← hw8] at hx2 ⊢
                have HN1 := Lib.hid hn1; have HN2 := Lib.hid hn2
                obtain ⟨es3, hes⟩ : ∃ es3, es3 = esSet es WV (iO [0, 0, 0, 0, 0]) := ⟨_, rfl⟩
                have HF1 : Hid (es3 WB = some (uO L)) := Lib.hid (by rw [hes, esSet_other hn1]; exact HE1.out)
                have HF2 : Hid (es3 WT = some (bO B)) := Lib.hid (by rw [hes, esSet_other hn2]; exact HE2.out)
                have HF3 : Hid (es3 WV = some (iO [0, 0, 0, 0, 0])) := Lib.hid (by rw [hes, esSet_same])
                rw [← hes] at hx2
                have HX := Lib.hid hx2
                clear hx2 hes hw8 hWV hn1 hn2 hmk2 H0 HE1 HE2
                go_loopw [22] (fun i wr => ∃ (k : Nat) (W : List Int) (es : Nat → Option Obj), k ≤ q ∧ i = .int .i64 (k : Int) ∧ W.length = 5 ∧ (∀ v : Nat, 1 ≤ v → v ≤ 4 → W.getD v 0 = sumf (wonAt (79 + 5 * (v : Int))) (ms.take k)) ∧ (∀ v : Nat, 1 ≤ v → v ≤ 4 → 0 ≤ W.getD v 0 ∧ W.getD v 0 ≤ k) ∧ es WB = some (uO L) ∧ es WT = some (bO B) ∧ es WV = some (iO W) ∧ MX w wr S D N c4 o (.slice (some ⟨b0, off0, none⟩) q cp) xs ms L2 cc es) (fun i _ => q - (intOf i).toNat)
                case atStart => exact ⟨0, [0, 0, 0, 0, 0], es3, by omega, rfl, rfl, (fun v v1 v4 => by
                    have hv : v = 1 ∨ v = 2 ∨ v = 3 ∨ v = 4 := by omega
                    rcases hv with rfl | rfl | rfl | rfl <;> rfl), (fun v v1 v4 => by
                    have hv : v = 1 ∨ v = 2 ∨ v = 3 ∨ v = 4 := by omega
                    rcases hv with rfl | rfl | rfl | rfl <;> simp), HF1.out, HF2.out, HF3.out, HX.out⟩
                case round =>
                  clear HX HF1 HF2 HF3
                  obtain ⟨k, W, es, hk, rfl, hwl, hws, hwb, he1, he2, he3, hmx⟩ := hrel
                  have H0 := Lib.hid hmx; have HWLn := Lib.hid hwl; have HWS := Lib.hid hws; have HWBd := Lib.hid hwb; have HE1 := Lib.hid he1; have HE2 := Lib.hid he2; have HE3 := Lib.hid he3
                  clear hmx hwl hws hwb he1 he2 he3
                  by_cases hlt : k < q
                  · obtain ⟨bn, offn, rfl, hbln, hcln⟩ := HRN.out (by have := HLN.out; omega)
                    obtain ⟨x, hx⟩ : ∃ x, x = ns.getD k 0 := ⟨_, rfl⟩
                    have hql : k < ns.length := by have := HLN.out; omega
                    have hxm : x ∈ ns := by rw [hx, List.getD, List.getElem?_eq_getElem hql]; exact List.getElem_mem hql
                    obtain ⟨x0, x1⟩ := HNW.out x hxm
                    have HZ0 : Hid (∀ wz, Below w.heap.size w wz → wz.cell? ⟨bn, offn + k, none⟩ = some (.int .u8 x)) := Lib.hid (fun wz hb => by rw [hx]; exact (hb.cell (p := ⟨bn, offn + k, none⟩) hbln).trans (hcln k hql))
                    have hq0 : (0 : Int) ≤ (k : Int) := by omega
                    have hq1 : (k : Int) < (q : Int) := by omega
                    obtain ⟨nd, hnd⟩ : ∃ nd : Nat, x % 4 = (nd : Int) := ⟨(x % 4).toNat, by omega⟩
                    have hnd4 : nd < 4 := by omega
                    obtain ⟨vn, hvn⟩ : ∃ vn : Nat, (nd : Int) + 1 = (vn : Int) := ⟨nd + 1, by simp⟩
                    have hvn1 : 1 ≤ vn := by omega
                    have hvn4 : vn ≤ 4 := by omega
                    have hv0 : (0 : Int) ≤ (vn : Int) := by omega
                    have hv5 : (vn : Int) < 5 := by omega
                    obtain ⟨m, hm⟩ : ∃ m, ms[k]? = some m := ⟨ms[k]'(by have := HML.out; omega), List.getElem?_eq_getElem _⟩
                    have hxl := H0.out.m.m.len
                    obtain ⟨y, hy⟩ : ∃ y, xs[k]? = some y := ⟨xs[k]'(by have := HML.out; omega), List.getElem?_eq_getElem _⟩
                    have hcell := H0.out.m.at hy
                    have HM := Lib.hid hm; have HY := Lib.hid hy
                    have HPM := Lib.hid (HPC.out m (List.mem_of_getElem? hm))
                    have HMP : Hid (m.p = 79 + 5 * (vn : Int)) := Lib.hid (by rw [HPI.out k m hm, ← hx]; omega)
                    obtain ⟨z, hz⟩ : ∃ z, z = W.getD vn 0 := ⟨_, rfl⟩
                    have hzb := HWBd.out vn hvn1 hvn4
                    rw [← hz] at hzb
                    have HZ := Lib.hid hz
                    obtain ⟨wb, hwb⟩ : ∃ wb, wb = m.won := ⟨_, rfl⟩
                    have HWb := Lib.hid hwb
                    have HJ := Lib.hid hlt
                    have ez : IntKind.i64.wrap (z + 1) = z + 1 := IntWalk.i64_in _ (by omega)
                    clear hcln hx hql hxm hm hy hxl hz hwb
                    cases wb
                    · go_wp2_with (first
                        | (go_at_call 22; (with_reducible refine (MX.done H0.out HM.out HY.out (by have := HCC.out; omega) HPM.out).mono ?_); rintro r w10 ⟨rfl, hk⟩; have H4 := Lib.hid hk; clear hk; have hcell2 := H4.out.m.at HY.out)
                        | (go_at_call 24; (with_reducible refine (MX.won H4.out HM.out HY.out).mono ?_); rintro r w12 ⟨rfl, hw⟩; cases hw; rw [← HWb.out])
                        | fail)
                      go_roundw
                      case rel => exact ⟨k + 1, W, es, by have := HJ.out; omega, by go_num, HWLn.out, won_stay HWS.out HM.out HWb.out.symm, (fun v v1 v4 => by have := HWBd.out v v1 v4; omega), HE1.out, HE2.out, HE3.out, H4.out⟩
                      case measure => have := HJ.out; simp [intOf]; omega
                    · go_wp2_with (first
                        | (go_at_call 22; (with_reducible refine (MX.done H0.out HM.out HY.out (by have := HCC.out; omega) HPM.out).mono ?_); rintro r w10 ⟨rfl, hk⟩; have H4 := Lib.hid hk; clear hk; have hcell2 := H4.out.m.at HY.out)
                        | (go_at_call 24; (with_reducible refine (MX.won H4.out HM.out HY.out).mono ?_); rintro r w12 ⟨rfl, hw⟩; cases hw; rw [← HWb.out]; have z1 := HZ0.out _ H4.out.m.m.bel; obtain ⟨hci, hfi⟩ := H4.out.cellI HE3.out vn (by have := HWLn.out; omega); rw [← HZ.out] at hci; have H5 := Lib.hid (H4.out.setI HE3.out vn (z + 1)))
                        | fail)
                      go_roundw
                      case rel =>
                        have hws := won_step HWS.out HM.out HMP.out HWLn.out hvn4 HWb.out.symm
                        rw [← HZ.out] at hws
                        refine ⟨k + 1, W.set vn (z + 1), _, by have := HJ.out; omega, by go_num, by rw [List.length_set]; exact HWLn.out, hws, (fun v v1 v4 => ?_), (esSet_other HN1.out).trans HE1.out, (esSet_other HN2.out).trans HE2.out, esSet_same _ _ _, H5.out⟩
                        by_cases hv : v = vn
                        · subst hv
                          have : (W.set v (z + 1)).getD v 0 = z + 1 := by
                            simp only [List.getD, List.getElem?_set, if_true]; rw [if_pos (by have := HWLn.out; omega)]; rfl
                          rw [this]; omega
                        · have : (W.set vn (z + 1)).getD v 0 = W.getD v 0 := by
                            simp only [List.getD, List.getElem?_set]; rw [if_neg (Ne.symm hv)]
                          rw [this]; have := HWBd.out v v1 v4; omega
                      case measure => have := HJ.out; simp [intOf]; omega
                  · obtain rfl : k = q := by omega
                    obtain ⟨K, hK⟩ : ∃ K : Nat → Bool, K = wantB ns L cy := ⟨_, rfl⟩
                    have hfv : ∀ v : Nat, 1 ≤ v → v ≤ 4 → B.getD v false = K v ∧ W.getD v 0 = (if K v = true then 1 else 0) ∧ ldc L2 (79 + 5 * (v : Int)) = if K v = true then cy else L.getD (79 + 5 * v) 0 := fun v v1 v4 => by
                      have h1 := HWB2.out v v1 v4
                      have h2 := HWS.out v v1 v4
                      rw [List.take_of_length_le (by have := HML.out; omega)] at h2
                      have h3 := HKE.out v v1 v4
                      rw [hK]
                      exact ⟨h1, h2.trans h3.1, h3.2⟩
                    have HFV := Lib.hid hfv
                    have hkw : ldc L2 1 = cntB (fv K) 5 := by
                      rw [HKW.out, hK]
                      simp [cntB, fv]
                    have HKW2 := Lib.hid hkw
                    clear hK hfv hkw HKW HKE hlt hk
                    have hkq : ¬ ((k : Int) < (k : Int)) := by omega
                    go_wp2_with (fail)
                    go_loopw [23, 24] (fun n v wr => ∃ (u : Nat) (cc : Int), 1 ≤ u ∧ u ≤ 5 ∧ n = .int .i64 (cntB (fv K) u) ∧ v = .int .i64 (u : Int) ∧ cc ≤ 1000 + u ∧ MX w wr S D N c4 o (.slice (some ⟨b0, off0, none⟩) k cp) xs ms L2 cc es) (fun _ v _ => 5 - (intOf v).toNat)
                    case atStart => exact ⟨1, cc, by omega, by omega, by simp [cntB, fv], rfl, by have := HCC.out; omega, H0.out⟩
                    case round =>
                      clear H0
                      obtain ⟨u, cc, hu1, hu5, rfl, rfl, hcc, hmx⟩ := hrel
                      have H0 := Lib.hid hmx
                      clear hmx
                      have hbd := cntB_bd (fv K) u
                      by_cases hu : u ≤ 4
                      · obtain ⟨nn, hnn⟩ : ∃ nn, nn = cntB (fv K) u := ⟨_, rfl⟩
                        have hnx : cntB (fv K) (u + 1) = nn + if K u = true then 1 else 0 := by
                          rw [hnn]; simp [cntB, fv, hu1]
                        have HNX := Lib.hid hnx
                        rw [← hnn] at hbd ⊢
                        obtain ⟨f1, f2, f3⟩ := HFV.out u hu1 hu
                        obtain ⟨q1, hq1'⟩ : ∃ q1 : Nat, q1 = 79 + 5 * u := ⟨_, rfl⟩
                        have HVP : Hid (plcc c4 16 (u : Int) 0 = (q1 : Int)) := Lib.hid (by rw [p4_at (by omega) (by omega)]; omega)
                        have HV := Lib.hid (Lay.wf_i64 (v := (u : Int)) (by omega) (by omega))
                        have hq10 : (0 : Int) ≤ (q1 : Int) := by omega
                        have hq11 : (q1 : Int) < 102 := by omega
                        have hv0 : (0 : Int) ≤ (u : Int) := by omega
                        have hv5 : (u : Int) < 5 := by omega
                        have hv6 : decide ((u : Int) ≤ 4) = true := by simp; omega
                        obtain ⟨hcb, _⟩ := H0.out.cellB HE2.out u (by have := HBL.out; omega)
                        obtain ⟨hci, _⟩ := H0.out.cellI HE3.out u (by have := HWLn.out; omega)
                        rw [f1] at hcb
                        rw [f2] at hci
                        rw [← hq1', show (79 + 5 * (u : Int)) = (q1 : Int) by omega] at f3
                        obtain ⟨z, hz⟩ : ∃ z, z = L.getD q1 0 := ⟨_, rfl⟩
                        rw [← hz] at f3
                        have HZ := Lib.hid hz
                        obtain ⟨kb, hkb⟩ : ∃ kb, kb = K u := ⟨_, rfl⟩
                        rw [← hkb] at hcb hci f3 hnx
                        have HNX := Lib.hid hnx
                        have ez : IntKind.i64.wrap (nn + 1) = nn + 1 := IntWalk.i64_in _ (by omega)
                        have HU := Lib.hid hu
                        have HQL : Hid (q1 < L.length) := Lib.hid (by have := HWL.out; omega)
                        clear f1 f2 hz hkb hnx hnn hq1'
                        cases kb
                        · simp only [Bool.false_eq_true, if_false] at hci f3 HNX
                          have HLD := Lib.hid f3
                          clear f3
                          go_wp2_with (first
                            | (go_at_call 18; (with_reducible refine (Lay.mark_m HOK.out N (u : Int) HV.out _ H5.out.m.m.mp).mono ?_); rintro r w10 ⟨rfl, hb⟩; rw [HVP.out]; have H6 := Lib.hid (H5.out.below hb); clear hb; have hcu := H6.out.cellU HE1.out q1 HQL.out; rw [← HZ.out] at hcu)
                            | (go_at_call 18; (with_reducible refine (Lay.mark_m HOK.out N (u : Int) HV.out _ H0.out.m.m.mp).mono ?_); rintro r w10 ⟨rfl, hb⟩; rw [HVP.out]; have H4 := Lib.hid (H0.out.below hb); clear hb)
                            | (go_at_call 26; (with_reducible refine (MX.load H4.out (q1 : Int) (by omega)).mono ?_); rintro r w11 ⟨rfl, hk⟩; rw [HLD.out]; have H5 := Lib.hid hk; clear hk)
                            | fail)
                          go_roundw
                          case rel => exact ⟨u + 1, _, by omega, by have := HU.out; omega, by rw [HNX.out]; simp, by go_num, by omega, H6.out⟩
                          case measure => have := HU.out; simp [intOf]; omega
                        · simp only [if_true] at hci f3 HNX
                          have HLD := Lib.hid f3
                          clear f3
                          go_wp2_with (first
                            | (go_at_call 18; (with_reducible refine (Lay.mark_m HOK.out N (u : Int) HV.out _ H0.out.m.m.mp).mono ?_); rintro r w10 ⟨rfl, hb⟩; rw [HVP.out]; have H4 := Lib.hid (H0.out.below hb); clear hb)
                            | (go_at_call 26; (with_reducible refine (MX.load H4.out (q1 : Int) (by omega)).mono ?_); rintro r w11 ⟨rfl, hk⟩; rw [HLD.out]; have H5 := Lib.hid hk; clear hk)
                            | fail)
                          go_roundw
                          case rel => exact ⟨u + 1, _, by omega, by have := HU.out; omega, by rw [HNX.out], by go_num, by omega, H5.out⟩
                          case measure => have := HU.out; simp [intOf]; omega
                      · obtain rfl : u = 5 := by omega
                        obtain ⟨nn, hnn⟩ : ∃ nn, nn = cntB (fv K) 5 := ⟨_, rfl⟩
                        have hw := HKW2.out
                        rw [← hnn] at hbd hw ⊢
                        have HW1 := Lib.hid hw
                        have ew : IntKind.u64.wrap nn = nn := by rw [IntKind.wrap_u64]; omega
                        clear hw hnn HFV HKW2
                        go_wp2_with (first
                          | (go_at_call 27; (with_reducible refine (Lay.work_m HOK.out N _ H0.out.m.m.mp).mono ?_); rintro r w10 ⟨rfl, hb⟩; rw [p4_w]; have H4 := Lib.hid (H0.out.below hb); clear hb)
                          | (go_at_call 26; (with_reducible refine (MX.load H4.out 1 (by omega)).mono ?_); rintro r w11 ⟨rfl, hk⟩; rw [HW1.out]; have H5 := Lib.hid hk; clear hk)
                          | fail)
                        go_ret
                        exact ⟨rfl, H5.out.m.m.bel⟩
end Go.Proofs.Ytbjhciccpkbmoaa
