
import Derived.Test.YthoiaffeenhfgaaGreatJ3
import Derived.Test.YthoiaffeenhfgaaGreatJ24
import Derived.Test.YthoiaffeenhfgaaGreatJ27
import Derived.Deep.CutBlock
namespace Go.Proofs.YthoiaffeenhfgaaGreat
open Go.RowKit
set_option linter.unusedVariables false
set_option linter.unusedSimpArgs false
set_option maxRecDepth 100000
open Lay (plcc plc shOf packN nodesN OkC Cfg Norm firstV Rep lenL slotsOf kindV)
def HS17 (c : Cfg) (q : Int) : Prop := ∃ v, 1 ≤ v ∧ v ≤ nodesN c ∧ (q = plcc c 14 v 0 ∨ q = plcc c 15 v 0 ∨ ∃ j, q = plcc c 18 v j)
structure FM (c : Cfg) (L0 L : List Int) (v : Nat) : Prop where
  len : L.length = L0.length
  same : ∀ q, 0 ≤ q → ¬ HS17 c q → L.getD q.toNat 0 = L0.getD q.toNat 0
  hd : ∀ u : Nat, 1 ≤ u → u < v → L.getD (plcc c 14 u 0).toNat 0 = slotsOf (kindV c u)
theorem FM.refl (c : Cfg) (L : List Int) : FM c L L 1 := ⟨rfl, fun _ _ _ => rfl, fun u a b => by omega⟩
theorem h14_ok {c : Cfg} (hc : OkC c) {v : Int} (h1 : 1 ≤ v) (h2 : v ≤ nodesN c) : 0 ≤ plcc c 14 v 0 ∧ plcc c 14 v 0 < (lenL (shOf c) : Int) ∧ Norm ⟨14, v, 0⟩ := by
  have n := nrm 14 v 0 (by omega) (by omega) (fun h => by omega) (fun _ _ _ => rfl)
  have p := Lay.node_pos hc 0 v (by omega) (by omega) h1 h2
  exact ⟨p, Lay.plc_lt n p, n⟩
theorem FM.put {c : Cfg} {L0 L : List Int} {v : Nat} (hc : OkC c) (h : FM c L0 L v) {p x : Int} (hp : HS17 c p) (hn : ∀ u : Nat, 1 ≤ u → u < v → plcc c 14 u 0 ≠ p) (hv : (v : Int) ≤ nodesN c + 1) : FM c L0 (ptq L p x) v :=
  ⟨by rw [pt_len]; exact h.len, fun q h0 hq => by rw [pt_other h0 (fun e => hq (e ▸ hp))]; exact h.same q h0 hq, fun u a b => by
    rw [pt_other (h14_ok hc (by omega) (by omega)).1 (hn u a b)]; exact h.hd u a b⟩
theorem FM.head {c : Cfg} {L0 L : List Int} {v : Nat} (hc : OkC c) (h : FM c L0 L v) (hl : L.length = lenL (shOf c)) (h1 : 1 ≤ v) (hv : (v : Int) ≤ nodesN c) : FM c L0 (ptq L (plcc c 14 v 0) (slotsOf (kindV c v))) (v + 1) := by
  have k := h14_ok hc (v := v) (by omega) hv
  refine ⟨by rw [pt_len]; exact h.len, fun q h0 hq => by rw [pt_other h0 (fun e => hq ⟨v, by omega, hv, .inl e⟩)]; exact h.same q h0 hq, fun u a b => ?_⟩
  by_cases e : u = v
  · subst e; exact pt_same (by rw [hl]; exact ⟨k.1, k.2.1⟩)
  · have k2 := h14_ok hc (v := u) (by omega) (by omega)
    rw [pt_other k2.1 (fun h => by have := (one_place k2.2.2 k.2.2 k2.1 h).2.1; omega)]
    exact h.hd u a (by omega)
theorem FM.st {c : Cfg} {L0 L : List Int} {v u : Nat} (hc : OkC c) (h : FM c L0 L v) (h1 : 1 ≤ u) (hu : (u : Int) ≤ nodesN c) (hv : (v : Int) ≤ nodesN c + 1) (x : Int) : FM c L0 (ptq L (plcc c 15 u 0) x) v :=
  h.put hc ⟨u, by omega, hu, .inr (.inl rfl)⟩ (fun z a b e => by
    have k2 := h14_ok hc (v := z) (by omega) (by omega)
    have := (one_place k2.2.2 (nrm 15 u 0 (by omega) (by omega) (fun h => by omega) (fun _ _ _ => rfl)) k2.1 e).1; omega) hv
theorem FM.sl {c : Cfg} {L0 L : List Int} {v u : Nat} (hc : OkC c) (h : FM c L0 L v) (h1 : 1 ≤ u) (hu : (u : Int) ≤ nodesN c) (hv : (v : Int) ≤ nodesN c + 1) (j x : Int) : FM c L0 (ptq L (plcc c 18 u j) x) v :=
  h.put hc ⟨u, by omega, hu, .inr (.inr ⟨j, rfl⟩)⟩ (fun z a b e => by
    have k2 := h14_ok hc (v := z) (by omega) (by omega)
    have := (one_place k2.2.2 (nrm 18 u j (by omega) (by omega) (fun h => by omega) (fun _ _ h => absurd rfl h)) k2.1 e).1; omega) hv
theorem pstp_len (g : Pg) (L : List Int) (m : Pm) : (pstp g L m).1.length = L.length := by
  have hs : ∀ m : Sm, (sstp L m).1.length = L.length := fun m => by
    unfold sstp swapS
    repeat' (first | rfl | exact pt_len _ _ _ | refine ite_ind (P := fun z : List Int × Sm => z.1.length = L.length) ?_ ?_)
  unfold pstp
  repeat' (first | rfl | exact hs _ | exact pt_len _ _ _ | refine ite_ind (P := fun z : List Int × Pm => z.1.length = L.length) ?_ ?_)
section
variable {B S D N : Nat} {c : Cfg} {w0 w w' : World} {L : List Int} {k : Int}
theorem add_po (h : PO B S D N c w0 w L k) (at' v : Int) (hk : k ≤ 900000000) :
    Calls Tryz.prog 28 #[ptr S, .int .i64 at', .int .u64 v] w fun a w' => (∃ x, a = .returned (.int .u64 x)) ∧ PO B S D N c w0 w' (adv L at' v) (k + 1) ∧ UF (fun b => b = S ∨ b = D) w w' := by
  obtain ⟨cc, h0, h1, hs⟩ := h.st
  have hl := h.lt
  have hB := h.lo
  refine (add_any at' v w hs h0 (by omega)).mono ?_
  rintro a w1 ⟨rfl, l⟩
  have u := UF.of_upd l.2
  have ww : WW (adv L at' v) := by
    unfold adv
    rw [ptv_eq]
    exact h.ww.put _ (by rw [IntKind.wrap_u64]; omega)
  exact ⟨⟨_, rfl⟩, ⟨⟨cc + 1, by omega, by omega, l.1⟩, IsMap_same h.mp u.size (u.block N hl.2.2 (by have := h.ns; omega)), h.ok, h.ns, h.lo, ww, below_uf h.bel h.lo.2.2 u (fun b hb => by omega)⟩, u⟩
end
def fmN (n nn : Nat) : Nat := if n = 0 then 1 else nn + 1
def Filled (w : World) (c : Cfg) (N : Nat) (ph : Int) (n nt : Nat) (e : Ending) (w' : World) : Prop :=
  ∃ S D L0 L1 L2, e = .returned (ptr S) ∧ Rep (shOf c) L0 (firstV c) ∧ FM c L0 L1 (fmN n (nodn c)) ∧ (nt = 0 → L2 = L1) ∧ L2.length = lenL (shOf c) ∧ PO w.heap.size S D N c w w' (ptq (ptq L2 2 (ph / 8 % 4294967296 * 4294967296)) 0 ph) 2000 ∧ Below w.heap.size w w'
set_option maxHeartbeats 16000000 in
theorem filled_any {c : Cfg} (hc : OkC c) (N : Nat) (ph : Int) (F T : Option Addr) (n cap nt capt : Nat) (fs ts : List Int) (w : World) (hm : Lay.IsMap w N c) (hph : 0 ≤ ph ∧ ph ≤ 18446744073709551615) (hn : n = fs.length) (hr : Reads .u64 w F fs) (hx : ∀ x ∈ fs, 0 ≤ x ∧ x ≤ 18446744073709551615) (h40 : n ≤ 1000)
    (hnt : nt = ts.length) (hrt : Reads .u64 w T ts) (hxt : ∀ x ∈ ts, 0 ≤ x ∧ x ≤ 18446744073709551615) (h8 : nt ≤ 8) :
    Calls Tryz.prog 19 #[Lay.mapP N, .int .u64 ph, .slice F n cap, .slice T nt capt] w (Filled w c N ph n nt) := by
  have HC := Lib.hid hc; have HM := Lib.hid hm; have HN := Lib.hid hn; have HR := Lib.hid hr; have HX := Lib.hid hx
  have HNT := Lib.hid hnt; have HRT := Lib.hid hrt; have HXT := Lib.hid hxt; have HPH := Lib.hid hph; have H8 := Lib.hid h8
  have nb := nodes60 hc
  obtain ⟨nn, hnn⟩ : ∃ nn : Nat, nodesN c = (nn : Int) := ⟨(nodesN c).toNat, by omega⟩
  have HNN := Lib.hid hnn
  have HND : Hid (nodn c = nn) := Lib.hid (by unfold nodn; omega)
  have hn60 : nn ≤ 60 := by omega
  have hmax : n ≤ maxLen := by unfold maxLen; omega
  have hmaxt : nt ≤ maxLen := by unfold maxLen; omega
  obtain ⟨cy, hcy⟩ : ∃ cy, cy = ph / 8 := ⟨_, rfl⟩
  obtain ⟨r, hrr⟩ : ∃ r, r = cy % 4294967296 := ⟨_, rfl⟩
  have er0 : IntKind.u32.wrap cy = r := by rw [IntKind.wrap_u32, hrr]
  have HCY := Lib.hid hcy; have HR2 := Lib.hid hrr
  have HRR := Lib.hid (show 0 ≤ r ∧ r ≤ 4294967295 by omega)
  have HPV : Hid (0 ≤ r * 4294967296 + 0 ∧ r * 4294967296 + 0 ≤ 18446744073709551615) := Lib.hid (by omega)
  clear hc hm hn hr hx nb hnn hnt hrt hxt hph hcy hrr
  go_enter Tryz.func19, Tryz.ntmps19
  go_upto_block 0 with (first
    | (go_at_call 11; (with_reducible refine (first_any HC.out N _ HM.out).mono ?_); rintro e w1 ⟨G, gn, L0, rfl, hgn, hrd, hrep, hb⟩; have HB := Lib.hid hb; have HG := Lib.hid hgn; have HRD := Lib.hid hrd; have HRE := Lib.hid hrep; have HLE := Lib.hid (first_len HC.out hrep); clear hb hgn hrd hrep)
    | (go_at_call 10; (with_reducible refine (new_any _ _ _ L0 _ HG.out HRD.out (by have := HG.out; have := HLE.out; omega)).mono ?_); rintro e w2 hs; obtain ⟨S, D, rfl, hpo, hb⟩ := PO.start (B := w.heap.size) (w0 := w) HB.out (Nat.le_refl _) (HM.out.below HB.out) HC.out (first_ww HC.out HRE.out) hs; have HPO := Lib.hid hpo; clear hs hpo hb)
    | fail)
  have HL0 : Hid (L0.length = lenL (shOf c)) := Lib.hid HRE.out.1
  go_cut [10, 11, 12] (fun _ _ _ wx => ∃ L1, PO w.heap.size S D N c w wx L1 1200 ∧ FM c L0 L1 (fmN n nn))
  case first =>
    go_wp2_with (fail)
    go_loopw [10, 11] (fun sk sv wr => ∃ (kk v : Nat) (L : List Int), sk = .int .i64 (kk : Int) ∧ sv = .int .i64 (v : Int) ∧ 1 ≤ v ∧ v ≤ nn + 1 ∧ kk ≤ 17 * (v - 1) ∧ (n = 0 → v = 1) ∧ PO w.heap.size S D N c w wr L (18 * ((v : Int) - 1)) ∧ FM c L0 L v) (fun _ sv _ => 100 - (intOf sv).toNat)
    case atStart => exact ⟨0, 1, L0, rfl, rfl, by omega, by omega, by omega, fun _ => rfl, by simpa using HPO.out, FM.refl _ _⟩
    case round =>
      obtain ⟨kk, v, L, rfl, rfl, hv1, hv2, hkk, hn1, hpo, hfl⟩ := hrel
      clear HPO
      have HPO := Lib.hid hpo; have HFL := Lib.hid hfl
      clear hpo hfl
      by_cases hgo : v ≤ nn ∧ 0 < n
      · obtain ⟨hvn, hn0⟩ := hgo
        have hle : (v : Int) ≤ (nn : Int) := by omega
        have hpos : (n : Int) > 0 := by omega
        have hpos2 : (0 : Int) < (n : Int) := by omega
        obtain ⟨b, off, rfl, hblt, hcell⟩ := HR.out (by rw [← HN.out]; exact hn0)
        have HCE : Hid (∀ w', Below w.heap.size w w' → ∀ j, j < n → w'.cell? ⟨b, off + j, none⟩ = some (.int .u64 (fs.getD j 0))) := Lib.hid (fun w' hb j hj => (hb.cell (p := ⟨b, off + j, none⟩) hblt).trans (hcell j (by rw [← HN.out]; exact hj)))
        have HXJ : Hid (∀ j, j < n → 0 ≤ fs.getD j 0 ∧ fs.getD j 0 ≤ 18446744073709551615) := Lib.hid (fun j hj => HX.out _ (by rw [List.getD, List.getElem?_eq_getElem (by rw [← HN.out]; exact hj)]; exact List.getElem_mem _))
        have HVW : Hid ((Lit.int .i64 (v : Int)).wf = true) := Lib.hid (by simp [Lit.wf, IntKind.min, IntKind.max, IntKind.bits, IntKind.signed]; omega)
        obtain ⟨rm, hrm⟩ : ∃ rm : Nat, slotsOf (kindV c (v : Int)) = (rm : Int) := ⟨(slotsOf (kindV c (v : Int))).toNat, by have := Lay.slots_bd (kindV c (v : Int)); omega⟩
        have hrm16 : rm ≤ 16 := by have := Lay.slots_bd (kindV c (v : Int)); omega
        have HRM := Lib.hid hrm
        have HVN : Hid (1 ≤ v ∧ (v : Int) ≤ nodesN c) := Lib.hid ⟨hv1, by rw [HNN.out]; omega⟩
        clear hcell hblt hrm
        have er : IntKind.u64.wrap (rm : Int) = (rm : Int) := by rw [IntKind.wrap_u64]; exact Int.emod_eq_of_lt (by omega) (by omega)
        obtain ⟨j, hj⟩ : ∃ j, j = kk % n := ⟨_, rfl⟩
        have hjn : j < n := by rw [hj]; exact Nat.mod_lt _ hn0
        have hrem : ((kk : Nat) : Int).tmod (n : Int) = (j : Int) := by rw [Int.tmod_eq_emod_of_nonneg (by omega), hj]; rfl
        have hj0 : (0 : Int) ≤ (j : Int) := by omega
        have hjn2 : (j : Int) < (n : Int) := by omega
        have hnz : ¬ (n : Int) = 0 := by omega
        have hz1 : ¬ n = 0 := by omega
        obtain ⟨x, hx⟩ : ∃ x, x = fs.getD j 0 := ⟨_, rfl⟩
        have HXX : Hid (0 ≤ x ∧ x ≤ 18446744073709551615) := Lib.hid (by rw [hx]; exact HXJ.out j hjn)
        have HCX : Hid (∀ w', Below w.heap.size w w' → w'.cell? ⟨b, off + j, none⟩ = some (.int .u64 x)) := Lib.hid (fun w' hb => by rw [hx]; exact HCE.out w' hb j hjn)
        obtain ⟨x2, hx2⟩ : ∃ x2, x2 = x % 2 := ⟨_, rfl⟩
        have ex2 : x.tmod 2 = x2 := by rw [Int.tmod_eq_emod_of_nonneg HXX.out.1, hx2]
        have ex3 : IntKind.u64.wrap x2 = x2 := by rw [IntKind.wrap_u64]; exact Int.emod_eq_of_lt (by omega) (by omega)
        have HX2 : Hid (0 ≤ x2 ∧ x2 ≤ 18446744073709551615) := Lib.hid (by omega)
        clear hj hx hx2
        go_wp2_with (first
          | (go_at_call 21; (with_reducible refine (Lay.nodes_m HC.out N _ HPO.out.mp).mono ?_); rintro e w3 ⟨rfl, hb⟩; rw [HNN.out]; have HP1 := Lib.hid (HPO.out.step hb); clear hb)
          | (go_at_call 48; (with_reducible refine (Lay.header_m HC.out N _ HVW.out _ HP1.out.mp).mono ?_); rintro e w4 ⟨rfl, hb⟩; have HP2 := Lib.hid (HP1.out.step hb); clear hb)
          | (go_at_call 22; (with_reducible refine (Lay.room_m N _ _ HP2.out.mp).mono ?_); rintro e w5 ⟨rfl, hb⟩; rw [HRM.out]; have HP3 := Lib.hid (HP2.out.step hb); clear hb)
          | (go_at_call 23; (with_reducible refine (put_po HP3.out _ _ (by omega) (by omega)).mono ?_); rintro e w6 ⟨rfl, hp, u⟩; have HP4 := Lib.hid hp; have HF4 : Hid (FM c L0 (ptq L (plcc c 14 v 0) (rm : Int)) (v + 1)) := Lib.hid (by rw [← HRM.out]; exact HFL.out.head HC.out (by rw [HFL.out.len]; exact HL0.out) HVN.out.1 HVN.out.2); have hcx := HCX.out _ hp.bel; clear hp u)
          | fail)
        have HD := Lib.hid (HP4.out.step (Below.refl _ _).drew)
        go_region_held3 (fun w' => w'.cell? ⟨b, off + j, none⟩ = some (.int .u64 x))
          (first | (with_reducible exact HCX.out _ HP6.out.bel) | (with_reducible exact HCX.out _ HP5.out.bel) | (with_reducible exact HCX.out _ HD.out.bel) | fail)
          (first
            | (go_at_call 47; (with_reducible refine (Lay.state_m HC.out N _ HVW.out _ HD.out.mp).mono ?_); rintro e w7 ⟨rfl, hb⟩; have HP5 := Lib.hid (HD.out.step hb); clear hb)
            | (go_at_call 23; (with_reducible refine (put_po HP5.out _ _ HX2.out (by omega)).mono ?_); rintro e w8 ⟨rfl, hp, u⟩; have HP6 := Lib.hid hp; have HF6 := Lib.hid (HF4.out.st HC.out HVN.out.1 HVN.out.2 (by have := HVN.out.2; omega) x2); clear hp u)
            | fail)
        go_wp2_with (fail)
        rename World => wo
        clear hrem hj0 hjn2 hcx
        go_loopw [10, 12] (fun sk si wr => ∃ (ii : Nat) (L2 : List Int), sk = .int .i64 ((kk : Int) + (ii : Int)) ∧ si = .int .i64 (ii : Int) ∧ ii ≤ rm ∧ PO w.heap.size S D N c w wr L2 (18 * ((v : Int) - 1) + 2 + (ii : Int)) ∧ FM c L0 L2 (v + 1)) (fun _ si _ => 20 - (intOf si).toNat)
        case atStart => exact ⟨0, _, by simp, rfl, Nat.zero_le _, HP6.out.more (by omega), HF6.out⟩
        case round =>
          clear HPO HP1 HP2 HP3 HP4 HP5 HP6 HF4 HF6 HD HXX HCX HX2 hjn ex2 ex3
          obtain ⟨ii, L2, rfl, rfl, hii, hp2, hf2⟩ := hrel
          have HP2 := Lib.hid hp2; have HF2 := Lib.hid hf2
          clear hp2 hf2
          by_cases hlt : ii < rm
          · have hlt2 : (ii : Int) < (rm : Int) := by omega
            obtain ⟨j, hj⟩ : ∃ j, j = (kk + ii) % n := ⟨_, rfl⟩
            have hjn : j < n := by rw [hj]; exact Nat.mod_lt _ hn0
            have hrem : ((kk : Int) + (ii : Int)).tmod (n : Int) = (j : Int) := by rw [Int.tmod_eq_emod_of_nonneg (by omega), hj]; simp
            have hj0 : (0 : Int) ≤ (j : Int) := by omega
            have hjn2 : (j : Int) < (n : Int) := by omega
            have ek2 : IntKind.i64.wrap ((kk : Int) + (ii : Int) + 1) = (kk : Int) + (ii : Int) + 1 := IntWalk.i64_in _ (by omega)
            obtain ⟨x, hx⟩ : ∃ x, x = fs.getD j 0 := ⟨_, rfl⟩
            have HXX : Hid (0 ≤ x ∧ x ≤ 18446744073709551615) := Lib.hid (by rw [hx]; exact HXJ.out j hjn)
            have HCX : Hid (∀ w', Below w.heap.size w w' → w'.cell? ⟨b, off + j, none⟩ = some (.int .u64 x)) := Lib.hid (fun w' hb => by rw [hx]; exact HCE.out w' hb j hjn)
            clear hj hx hlt
            go_wp2_with (first
              | (go_at_call 22; (with_reducible refine (Lay.room_m N _ _ HP2.out.mp).mono ?_); rintro e w5 ⟨rfl, hb⟩; rw [HRM.out]; have HP3 := Lib.hid (HP2.out.step hb); clear hb)
              | fail)
            have HD := Lib.hid (HP3.out.step (Below.refl _ _).drew)
            have hcx := HCX.out _ HP3.out.bel
            go_region_held3 (fun w' => w'.cell? ⟨b, off + j, none⟩ = some (.int .u64 x))
              (first | (with_reducible exact HCX.out _ HP6.out.bel) | (with_reducible exact HCX.out _ HP5.out.bel) | (with_reducible exact HCX.out _ HD.out.bel) | fail)
              (first
                | (go_at_call 24; (with_reducible refine (Lay.slot_m HC.out N _ _ HVW.out _ HD.out.mp).mono ?_); rintro e w7 ⟨rfl, hb⟩; have HP5 := Lib.hid (HD.out.step hb); clear hb)
                | (go_at_call 23; (with_reducible refine (put_po HP5.out _ _ HXX.out (by omega)).mono ?_); rintro e w8 ⟨rfl, hp, u⟩; have HP6 := Lib.hid hp; clear hp u)
                | fail)
            go_wp2_with (fail)
            go_roundw
            case rel => exact ⟨ii + 1, _, by go_num, by go_num, by omega, HP6.out.more (by omega), HF2.out.sl HC.out HVN.out.1 HVN.out.2 (by have := HVN.out.2; omega) _ _⟩
            case measure => simp [intOf]; omega
          · have hno : ¬ (ii : Int) < (rm : Int) := by omega
            obtain rfl : ii = rm := by omega
            clear hlt hii
            go_wp2_with (first
              | (go_at_call 22; (with_reducible refine (Lay.room_m N _ _ HP2.out.mp).mono ?_); rintro e w5 ⟨rfl, hb⟩; rw [HRM.out]; have HP3 := Lib.hid (HP2.out.step hb); clear hb)
              | fail)
            go_roundw
            case rel => exact ⟨kk + ii, v + 1, L2, by go_num, by go_num, by omega, by omega, by omega, fun e => absurd e hz1, HP3.out.more (by omega), HF2.out⟩
            case measure => simp [intOf]; omega
      · have hst : (¬ (v : Int) ≤ (nn : Int)) ∨ n = 0 := by omega
        rcases hst with hst | hst
        · have hvv : v = nn + 1 := by omega
          have HFX : Hid (FM c L0 L (fmN n nn)) := Lib.hid (by
            by_cases e : n = 0
            · rw [fmN, if_pos e, ← hn1 e]; exact HFL.out
            · rw [fmN, if_neg e, ← hvv]; exact HFL.out)
          clear hgo
          go_wp2_with (first
            | (go_at_call 21; (with_reducible refine (Lay.nodes_m HC.out N _ HPO.out.mp).mono ?_); rintro e w3 ⟨rfl, hb⟩; rw [HNN.out]; have HP1 := Lib.hid (HPO.out.step hb); clear hb)
            | fail)
          go_meet
          exact ⟨L, HP1.out.more (by omega), HFX.out⟩
        · have hng : ¬ ((n : Int) > 0) := by omega
          have hng2 : ¬ ((0 : Int) < (n : Int)) := by omega
          have HFX : Hid (FM c L0 L (fmN n nn)) := Lib.hid (by rw [fmN, if_pos hst, ← hn1 hst]; exact HFL.out)
          clear hgo hst hn1
          by_cases hvn : (v : Int) ≤ (nn : Int)
          all_goals
            go_wp2_with (first
              | (go_at_call 21; (with_reducible refine (Lay.nodes_m HC.out N _ HPO.out.mp).mono ?_); rintro e w3 ⟨rfl, hb⟩; rw [HNN.out]; have HP1 := Lib.hid (HPO.out.step hb); clear hb)
              | fail)
            go_meet
            exact ⟨L, HP1.out.more (by omega), HFX.out⟩
  case rest =>
    obtain ⟨L1, hpo1, hf1⟩ := hcut
    have HP1 := Lib.hid hpo1; have HF1 := Lib.hid hf1
    have HMR : Hid (1 ≤ c.mr ∧ c.mr ≤ 4) := Lib.hid ⟨HC.out.k0, HC.out.k1⟩
    have HL1 : Hid (L1.length = lenL (shOf c)) := Lib.hid (by rw [hf1.len]; exact HL0.out)
    clear hpo1 hf1 HPO
    have HTC : Hid (∀ j, j < nt → ∃ b off, T = some ⟨b, off, none⟩ ∧ 0 ≤ ts.getD j 0 ∧ ts.getD j 0 ≤ 18446744073709551615 ∧ ∀ w', Below w.heap.size w w' → w'.cell? ⟨b, off + j, none⟩ = some (.int .u64 (ts.getD j 0))) := Lib.hid (fun j hj => by
      have hl := HNT.out
      obtain ⟨b, off, e, hlt, hc⟩ := HRT.out (by omega)
      have hx := HXT.out (ts.getD j 0) (by rw [List.getD, List.getElem?_eq_getElem (by omega)]; exact List.getElem_mem _)
      exact ⟨b, off, e, hx.1, hx.2, fun w' hb => (hb.cell (p := ⟨b, off + j, none⟩) hlt).trans (hc j (by omega))⟩)
    go_wp2_with (fail)
    go_loopw [13] (fun sk wr => ∃ (j : Nat) (L : List Int), sk = .int .i64 (j : Int) ∧ j ≤ nt ∧ PO w.heap.size S D N c w wr L (1200 + 20 * (j : Int)) ∧ L.length = lenL (shOf c) ∧ (nt = 0 → L = L1)) (fun sk _ => 20 - (intOf sk).toNat)
    case atStart => exact ⟨0, L1, rfl, Nat.zero_le _, HP1.out.more (by omega), HL1.out, fun _ => rfl⟩
    case round =>
      clear HP1
      obtain ⟨j, L, rfl, hj, hpo, hlen, hz⟩ := hrel
      have HPO := Lib.hid hpo; have HLN := Lib.hid hlen
      clear hpo hlen
      by_cases hlt : j < nt
      · have hlt2 : (j : Int) < (nt : Int) := by omega
        obtain ⟨b, off, rfl, x0, x1, hcell⟩ := HTC.out j hlt
        obtain ⟨x, hx⟩ : ∃ x, x = ts.getD j 0 := ⟨_, rfl⟩
        rw [← hx] at x0 x1 hcell
        have HXX : Hid (0 ≤ x ∧ x ≤ 18446744073709551615) := Lib.hid ⟨x0, x1⟩
        have HCX : Hid (∀ w', Below w.heap.size w w' → w'.cell? ⟨b, off + j, none⟩ = some (.int .u64 x)) := Lib.hid hcell
        obtain ⟨x2, hx2⟩ : ∃ x2, x2 = x % 2 := ⟨_, rfl⟩
        have ex2 : x.tmod 2 = x2 := by rw [Int.tmod_eq_emod_of_nonneg x0, hx2]
        have ex3 : IntKind.u64.wrap x2 = x2 := by rw [IntKind.wrap_u64]; exact Int.emod_eq_of_lt (by omega) (by omega)
        have hj0 : (0 : Int) ≤ (j : Int) := by omega
        have HJ : Hid (j < nt ∧ nt ≤ 8) := Lib.hid ⟨hlt, H8.out⟩
        have HNZ : Hid (¬ nt = 0) := Lib.hid (by omega)
        have ej1 : IntKind.i64.wrap ((j : Int) + 1) = (j : Int) + 1 := IntWalk.i64_in _ (by omega)
        have h02 : x2 = 0 ∨ x2 = 1 := by omega
        clear hx hx2 x0 x1 hcell hlt hj hz
        have hcx := HCX.out _ HPO.out.bel
        go_upto_if 93 with (first
          | (go_at_call 29; (with_reducible refine (Lay.work_m HC.out N _ HPO.out.mp).mono ?_); rintro e w5 ⟨rfl, hb⟩; rw [work1]; have HP1 := Lib.hid (HPO.out.step hb); clear hb)
          | (go_at_call 28; (with_reducible refine (add_po HP1.out _ _ (by have := HJ.out; omega)).mono ?_); rintro e w6 ⟨⟨y, rfl⟩, hp, u⟩; have HP2 := Lib.hid hp; clear hp u hcx; have hcx := HCX.out _ HP2.out.bel)
          | fail)
        have HLN2 : Hid ((adv L 1 1).length = lenL (shOf c)) := Lib.hid (by rw [adv_len]; exact HLN.out)
        rcases h02 with h02 | h02
        · have hb2 : (x2 == 0) = true := by simp [h02]
          obtain ⟨jm, hjm⟩ : ∃ jm : Int, jm = (j : Int).tmod c.mr := ⟨_, rfl⟩
          have HJM : Hid (0 ≤ jm ∧ jm < c.mr) := Lib.hid (by
            have h1 := HMR.out
            have h2 : (j : Int).tmod c.mr = (j : Int) % c.mr := Int.tmod_eq_emod_of_nonneg (by omega)
            rw [hjm, h2]
            exact ⟨Int.emod_nonneg _ (by omega), Int.emod_lt_of_pos _ (by omega)⟩)
          have HJW : Hid ((Lit.int .i64 jm).wf = true) := Lib.hid (by have := HJM.out; have := HMR.out; simp [Lit.wf, IntKind.min, IntKind.max, IntKind.bits, IntKind.signed]; omega)
          have hmr0 : ¬ c.mr = 0 := by have := HMR.out; omega
          have ejm : (j : Int).tmod c.mr = jm := hjm.symm
          have ejw : IntKind.i64.wrap jm = jm := IntWalk.i64_in _ (by have := HJM.out; have := HMR.out; omega)
          clear hjm h02
          have HD := Lib.hid (HP2.out.step (Below.refl _ _).drew)
          go_wp2_with (fail)
          go_region_held3 (fun w' => w'.cell? ⟨b, off + j, none⟩ = some (.int .u64 x))
            (first | (with_reducible exact HCX.out _ HP4.out.bel) | (with_reducible exact HCX.out _ HP3.out.bel) | (with_reducible exact HCX.out _ HD.out.bel) | fail)
            (first
              | (go_at_call 58; (with_reducible refine (Lay.config_m N _ HD.out.mp).mono ?_); rintro e w7 ⟨rfl, hb⟩; have HP3 := Lib.hid (HD.out.step hb); clear hb)
              | (go_at_call 30; (with_reducible refine (newA_yes HC.out N jm x HJW.out _ HP3.out.mp HJM.out.1 HJM.out.2).mono ?_); rintro e w8 hn; obtain ⟨X, rfl, hx, hp, hb⟩ := AKX.of_new HP3.out hn; have HX := Lib.hid hx; have HP4 := Lib.hid hp; have HLO := Lib.hid (HP3.out.los hb.size); clear hn hx hp hb)
              | fail)
          go_wp2_with (fail)
          rename World => wo
          go_loopw [15] (fun si wr => ∃ (q : Nat) (L2 : List Int) (m : Am), si = .int .i64 (q : Int) ∧ q ≤ 14 ∧ PO w.heap.size S D N c w wr L2 (1200 + 20 * (j : Int) + 1 + (q : Int)) ∧ L2.length = lenL (shOf c) ∧ AKX w7.heap.size wr X S D c N m ∧ AW c (q : Int) m ∧ w7.heap.size ≤ wr.heap.size) (fun si _ => 20 - (intOf si).toNat)
          case atStart => exact ⟨0, _, _, rfl, by omega, HP4.out.more (by omega), HLN2.out, HX.out, AW.new (eok_of HC.out jm) HXX.out, HLO.out.2.2.2.2⟩
          case round =>
            clear HP1 HP2 HP3 HP4 HX HPO HD hcx
            obtain ⟨q, L2, m, rfl, hq, hpo, hln, hak, haw, hsz⟩ := hrel
            have HPO := Lib.hid hpo; have HLN3 := Lib.hid hln; have HAK := Lib.hid hak; have HAW := Lib.hid haw; have HSZ := Lib.hid hsz
            clear hpo hln hak haw hsz
            by_cases h14 : q < 14
            · have h14' : (q : Int) < 14 := by omega
              have HQ := Lib.hid h14
              clear h14 hq
              go_wp2_with (first
                | (go_at_call 32; (with_reducible refine (step_ao HPO.out HAK.out ⟨HLO.out.1, HLO.out.2.1, HLO.out.2.2.1, HLO.out.2.2.2.1, HSZ.out⟩ HAW.out (by have := HJ.out; have := HQ.out; omega) (by have := HQ.out; omega)).mono ?_); rintro e w9 ⟨rfl, hp, hx, u⟩; have HP5 := Lib.hid hp; have HX5 := Lib.hid hx; have HU5 := Lib.hid u.size; clear hp hx u)
                | fail)
              go_roundw
              case rel => exact ⟨q + 1, _, _, by go_num, by have := HQ.out; omega, HP5.out.more (by omega), by rw [astp_len]; exact HLN3.out, HX5.out, by simpa using (HAW.out.step HPO.out.ww).1, Nat.le_trans HSZ.out HU5.out⟩
              case measure => simp [intOf]; have := HQ.out; omega
            · have h14' : ¬ (q : Int) < 14 := by omega
              have HQ := Lib.hid hq
              clear h14 hq
              go_wp2_with (fail)
              go_roundw
              case rel => exact ⟨j + 1, L2, by go_num, HJ.out.1, HPO.out.more (by have := HQ.out; omega), HLN3.out, fun e => absurd e HNZ.out⟩
              case measure => simp [intOf]; have := HJ.out; omega
        · have hb2 : (x2 == 0) = false := by simp [h02]
          clear h02
          have HRD : Hid (Reads .u64 (w6.alloc (.cells #[.int .u64 x] 39)) (some ⟨w6.heap.size, 0, none⟩) [x]) := Lib.hid (fun _ => ⟨w6.heap.size, 0, rfl, by simp, fun i hi => by
            obtain rfl : i = 0 := by simpa using hi
            exact cell_of_row _ w6.heap.size 0 #[.int .u64 x] 39 _ (Go.heap_alloc_new _ _)⟩)
          have HP3 := Lib.hid (HP2.out.step (below_alloc0 (Below.refl w6.heap.size w6) (.cells #[.int .u64 x] 39)))
          have HXL : Hid (∀ z ∈ [x], 0 ≤ z ∧ z ≤ 18446744073709551615) := Lib.hid (fun z hz => by rw [List.mem_singleton] at hz; rw [hz]; exact HXX.out)
          have HSD := Lib.hid HP2.out.lt
          go_wp2_with (first
            | (go_at_call 59; (with_reducible refine (put_pk HC.out N _ 1 1 [x] _ HP3.out.mp rfl HRD.out HXL.out (by omega) (by omega)).mono ?_); rintro r w8 hn; obtain ⟨X, rfl, hx, hp, hb⟩ := PKX.of_new HP3.out hn (by rintro ⟨o, e⟩; have := HSD.out; injection e with e; injection e with e1; omega) (by rintro ⟨o, e⟩; have := HSD.out; injection e with e; injection e with e1; omega); have HX := Lib.hid hx; have HP4 := Lib.hid hp; have HLO := Lib.hid (HP3.out.los hb.size); clear hn hx hp hb)
            | fail)
          rename World => wo
          go_loopw [17] (fun si wr => ∃ (q : Nat) (L2 : List Int) (m : Pm), si = .int .i64 (q : Int) ∧ q ≤ 14 ∧ PO w.heap.size S D N c w wr L2 (1200 + 20 * (j : Int) + 1 + (q : Int)) ∧ L2.length = lenL (shOf c) ∧ PKX (w6.alloc (.cells #[.int .u64 x] 39)).heap.size wr X S D c N m ∧ PW c (q : Int) m ∧ (w6.alloc (.cells #[.int .u64 x] 39)).heap.size ≤ wr.heap.size) (fun si _ => 20 - (intOf si).toNat)
          case atStart => exact ⟨0, _, _, rfl, by omega, HP4.out.more (by omega), HLN2.out, HX.out, pw_put c [x] HXL.out, HLO.out.2.2.2.2⟩
          case round =>
            clear HP1 HP2 HP3 HP4 HX HPO hcx HRD
            obtain ⟨q, L2, m, rfl, hq, hpo, hln, hak, haw, hsz⟩ := hrel
            have HPO := Lib.hid hpo; have HLN3 := Lib.hid hln; have HAK := Lib.hid hak; have HAW := Lib.hid haw; have HSZ := Lib.hid hsz
            clear hpo hln hak haw hsz
            by_cases h14 : q < 14
            · have h14' : (q : Int) < 14 := by omega
              have HQ := Lib.hid h14
              clear h14 hq
              go_wp2_with (first
                | (go_at_call 60; (with_reducible refine (step_po HPO.out HAK.out ⟨HLO.out.1, HLO.out.2.1, HLO.out.2.2.1, HLO.out.2.2.2.1, HSZ.out⟩ HAW.out (by have := HJ.out; have := HQ.out; omega) (by have := HQ.out; omega)).mono ?_); rintro e w9 ⟨rfl, hp, hx, u⟩; have HP5 := Lib.hid hp; have HX5 := Lib.hid hx; have HU5 := Lib.hid u.size; clear hp hx u)
                | fail)
              go_roundw
              case rel => exact ⟨q + 1, _, _, by go_num, by have := HQ.out; omega, HP5.out.more (by omega), by rw [pstp_len]; exact HLN3.out, HX5.out, by simpa using (HAW.out.step HPO.out.ww).1, Nat.le_trans HSZ.out HU5.out⟩
              case measure => simp [intOf]; have := HQ.out; omega
            · have h14' : ¬ (q : Int) < 14 := by omega
              have HQ := Lib.hid hq
              clear h14 hq
              go_wp2_with (fail)
              go_roundw
              case rel => exact ⟨j + 1, L2, by go_num, HJ.out.1, HPO.out.more (by have := HQ.out; omega), HLN3.out, fun e => absurd e HNZ.out⟩
              case measure => simp [intOf]; have := HJ.out; omega
      · have hno : ¬ (j : Int) < (nt : Int) := by omega
        have HZ := Lib.hid hz; have HJ : Hid (j ≤ nt ∧ nt ≤ 8) := Lib.hid ⟨hj, H8.out⟩
        clear hlt hj hz
        go_wp2_with (first
          | (go_at_call 61; (with_reducible refine (cycle_any ph HPH.out.1 HPH.out.2 _).mono ?_); rintro e w5 ⟨rfl, hb⟩; rw [← HCY.out]; have HP1 := Lib.hid (HPO.out.step hb); clear hb)
          | (go_at_call 62; (with_reducible refine (Lay.sweep_m HC.out N _ HP1.out.mp).mono ?_); rintro e w6 ⟨rfl, hb⟩; rw [sweep2]; have HP2 := Lib.hid (HP1.out.step hb); clear hb)
          | (go_at_call 31; (with_reducible refine (pair_any r 0 HRR.out.1 HRR.out.2 (by decide) (by decide) _).mono ?_); rintro e w7 ⟨rfl, hb⟩; have HP3 := Lib.hid (HP2.out.step hb); clear hb)
          | (go_at_call 23; (with_reducible refine (put_po HP3.out _ _ (by have := HRR.out; omega) (by have := HJ.out; omega)).mono ?_); rintro e w8 ⟨rfl, hp, u⟩; have HP4 := Lib.hid hp; clear hp u HP3)
          | (go_at_call 37; (with_reducible refine (Lay.phase_m HC.out N _ HP4.out.mp).mono ?_); rintro e w9 ⟨rfl, hb⟩; rw [phase0]; have HP5 := Lib.hid (HP4.out.step hb); clear hb)
          | (go_at_call 23; (with_reducible refine (put_po HP5.out _ _ HPH.out (by have := HJ.out; omega)).mono ?_); rintro e w10 ⟨rfl, hp, u⟩; have HP6 := Lib.hid hp; clear hp u)
          | fail)
        go_ret
        have hp6 := HP6.out.more (k' := 2000) (by have := HJ.out; omega)
        try rw [Int.add_zero] at hp6
        exact ⟨S, D, L0, L1, L, rfl, HRE.out, by rw [HND.out]; exact HF1.out, HZ.out, HLN.out, by rw [← HCY.out, ← HR2.out]; exact hp6, HP6.out.bel⟩
end Go.Proofs.YthoiaffeenhfgaaGreat
