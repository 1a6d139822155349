/- A store of the call's own under a map: how it begins, its accesses; a machine that sweeps over it, step by step; walked. Memory that has been filled: the map's words at first, with nodes that are there, or not, and marks; walked. -/
import Derived.Test.YtbpkcoemehmpbaaGreatSwQ
import Derived.Test.YtbpkcoemehmpbaaGreatJ18
namespace Go.Proofs.YtbpkcoemehmpbaaGreat
open Go.RowKit
set_option linter.unusedVariables false
set_option linter.unusedSimpArgs false
set_option maxRecDepth 100000
open Lay (plcc plc shOf nodesN OkC Cfg Norm firstV Rep lenL things)

section
variable {B S D N : Nat} {c : Cfg} {w0 w w' : World} {L : List Int} {k t : Int} {X lo : Nat} {m : Wn}
theorem PO.start {a : Ending} {L : List Int} (hb : Below B w0 w) (hB : B ≤ w0.heap.size) (hm : Lay.IsMap w N c) (hok : OkC c) (ww : WW L) (h : SomeNew w L a w') : ∃ S D, a = .returned (ptr S) ∧ PO B S D N c w0 w' L 0 ∧ Below w.heap.size w w' := by
  obtain ⟨S, D, rfl, hS, hD, hs, hb'⟩ := h
  have hN := hm.1
  have hBw := Nat.le_trans hB hb.size
  exact ⟨S, D, rfl, ⟨⟨0, by omega, by omega, hs⟩, hm.below hb', hok, ⟨by omega, by omega⟩, ⟨by omega, by omega, hB⟩, ww, below_step hb hBw hb'⟩, hb'⟩
theorem put_po (h : PO B S D N c w0 w L k) (at' v : Int) (hv : 0 ≤ v ∧ v ≤ 18446744073709551615) (hk : k ≤ 900000000) :
    Calls Tryz.prog 13 #[ptr S, .int .i64 at', .int .u64 v] w fun a w' => a = .returned (.tuple #[]) ∧ PO B S D N c w0 w' (ptq L at' v) (k + 1) ∧ UF (fun b => b = S ∨ b = D) w w' := by
  obtain ⟨cc, h0, h1, hs⟩ := h.st
  have hl := h.lt
  have hB := h.lo
  refine (put_any at' v w hs h0 (by omega)).mono ?_
  rintro a w1 ⟨rfl, l⟩
  rw [ptv_eq] at l
  have u := UF.of_upd l.2
  exact ⟨rfl, ⟨⟨cc + 1, by omega, by omega, l.1⟩, IsMap_same h.mp u.size (u.block N hl.2.2 (by have := h.ns; omega)), h.ok, h.ns, h.lo, h.ww.put _ hv, below_uf h.bel h.lo.2.2 u (fun b hb => by omega)⟩, u⟩
theorem load_po (h : PO B S D N c w0 w L k) (at' : Int) (hk : k ≤ 900000000) :
    Calls Tryz.prog 27 #[ptr S, .int .i64 at'] w fun a w' => a = .returned (.int .u64 (ldq L at')) ∧ PO B S D N c w0 w' L (k + 1) ∧ UF (fun b => b = S ∨ b = D) w w' := by
  obtain ⟨cc, h0, h1, hs⟩ := h.st
  have hl := h.lt
  have hB := h.lo
  refine (load_any at' w hs h0 (by omega)).mono ?_
  rintro a w1 ⟨rfl, l⟩
  have u := UF.of_upd l.2
  exact ⟨by rw [ldv_eq], ⟨⟨cc + 1, by omega, by omega, l.1⟩, IsMap_same h.mp u.size (u.block N hl.2.2 (by have := h.ns; omega)), h.ok, h.ns, h.lo, h.ww, below_uf h.bel h.lo.2.2 u (fun b hb => by omega)⟩, u⟩
theorem all_po (h : PO B S D N c w0 w L k) (hl : L.length ≤ 1000000) :
    Calls Tryz.prog 10 #[ptr S] w fun a w' => a = .returned (.slice (some ⟨w.heap.size, 0, none⟩) L.length L.length) ∧ Reads .u64 w' (some ⟨w.heap.size, 0, none⟩) L ∧ PO B S D N c w0 w' L k ∧ Below w.heap.size w w' := by
  obtain ⟨cc, h0, h1, hs⟩ := h.st
  refine (all_any w hs hl).mono ?_
  rintro a w1 ⟨rfl, hr, hb⟩
  exact ⟨rfl, hr.reads, h.step hb, hb⟩
theorem UF.far {F : Nat → Prop} (u : UF F w w') {b : Nat} (hb : b < w.heap.size) (hF : ¬ F b) (o : Nat) : w'.cell? ⟨b, o, none⟩ = w.cell? ⟨b, o, none⟩ :=
  World.cell?_of_block (w := w) (a := ⟨b, o, none⟩) (u.block b hb hF)
/-- Other machines' blocks, and the store's, change. -/
theorem WKX.uf {lo2 : Nat} (h : WKX lo w X S D N m) (u : UF (fun b => b = S ∨ b = D ∨ lo2 ≤ b) w w') (hl : w.heap.size ≤ lo2) : WKX lo w' X S D N m := by
  obtain ⟨O, Dp, hp, ho, hS, hD⟩ := h
  refine ⟨O, Dp, hp.keep u.size (fun k hk => ?_), ho, hS, hD⟩
  have := hp.ins.2.2 k hk
  exact u.block k this (by rintro (e | e | e); exact hS (e ▸ hk); exact hD (e ▸ hk); omega)
theorem PO.los (h : PO B S D N c w0 w L k) {w1 : World} (hb : w.heap.size ≤ w1.heap.size) : S < w.heap.size ∧ D < w.heap.size ∧ N < w.heap.size ∧ B ≤ w.heap.size ∧ w.heap.size ≤ w1.heap.size :=
  ⟨h.lt.1, h.lt.2.1, h.lt.2.2, Nat.le_trans h.lo.2.2 h.bel.size, hb⟩
end
/-- Steps, one behind the other. -/
def wruns (g : Wg) : Nat → List Int → Wn → List Int × Wn
  | 0, L, m => (L, m)
  | i + 1, L, m => wstp g (wruns g i L m).1 (wruns g i L m).2
theorem wruns_succ (g : Wg) (i : Nat) (L : List Int) (m : Wn) : wruns g (i + 1) L m = wstp g (wruns g i L m).1 (wruns g i L m).2 := rfl
abbrev wrs (c : Cfg) (i : Nat) (L : List Int) (m : Wn) : List Int × Wn := wruns (wOf c) i L m
theorem wkw_runs {c : Cfg} (hc : OkC c) : ∀ (i : Nat) {L : List Int} {m : Wn} {t : Int}, WW L → WKW c t m → WW (wrs c i L m).1 ∧ WKW c (t + i) (wrs c i L m).2
  | 0, L, m, t, h, h2 => ⟨h, (show WKW c (t + ((0 : Nat) : Int)) m from h2.mono (by omega))⟩
  | i + 1, L, m, t, h, h2 => by
    have ih := wkw_runs hc i h h2
    have s := ih.2.step hc ih.1
    exact ⟨s.2, s.1.mono (by omega)⟩
/-- Behind i steps. -/
structure WRn (B S D N : Nat) (c : Cfg) (w0 w1 w : World) (lo X : Nat) (L : List Int) (m : Wn) (i : Nat) (k : Int) : Prop where
  po : PO B S D N c w0 w (wrs c i L m).1 (k + i)
  mm : WKX lo w X S D N (wrs c i L m).2
  u : UF (fun b => b = S ∨ b = D ∨ lo ≤ b) w1 w
section
variable {B S D N : Nat} {c : Cfg} {w0 w1 w w' : World} {L : List Int} {k t : Int} {X lo : Nat} {m : Wn}
theorem WRn.start (h : PO B S D N c w0 w L k) (hx : WKX lo w X S D N m) : WRn B S D N c w0 w w lo X L m 0 k := by
  refine ⟨?_, hx, .refl _ _⟩
  show PO B S D N c w0 w L (k + ((0 : Nat) : Int)); exact h.more (by omega)
theorem wrun_step {i : Nat} (h : WRn B S D N c w0 w1 w lo X L m i k) (hlo : S < lo ∧ D < lo ∧ N < lo ∧ B ≤ lo ∧ lo ≤ w1.heap.size) (wm : WKW c t m) (ww : WW L) (hk : k + i ≤ 800000000) (ht : t + i ≤ 800000000) :
    Calls Tryz.prog 16 #[ptr X, ptr S] w fun e w' => e = .returned (.bool (decide ((wrs c (i + 1) L m).2.pc = 0))) ∧ WRn B S D N c w0 w1 w' lo X L m (i + 1) k := by
  have hsz := h.u.size
  refine (step_wo h.po h.mm ⟨hlo.1, hlo.2.1, hlo.2.2.1, hlo.2.2.2.1, by omega⟩ (wkw_runs h.po.ok i ww wm).2 hk ht).mono ?_
  rintro e w' ⟨rfl, h1, h2, h3⟩
  exact ⟨rfl, h1.more (by omega), h2, h.u.trans h3 (fun _ x => x) (fun _ _ x => x)⟩
end
/-- A map's words at first, as one list. -/
theorem rep_list {c : Cfg} {L : List Int} (h : Rep (shOf c) L (firstV c)) (hn : ∀ t ∈ things (shOf c), Norm t) : L = (things (shOf c)).map (firstV c) := by
  obtain ⟨hl, hr⟩ := h
  apply List.ext_getElem
  · rw [List.length_map, Lay.things_len]; exact hl
  · intro i h1 h2
    have hi : i < (things (shOf c)).length := by rw [Lay.things_len, ← hl]; exact h1
    have e3 := Lay.seg_all (shOf c) i hi
    have e4 : Lay.gt (things (shOf c)) i = (things (shOf c))[i] := by simp [Lay.gt, List.getD, List.getElem?_eq_getElem hi]
    rw [e4] at e3
    have := hr _ (hn _ (List.getElem_mem hi)) (by rw [e3]; omega)
    rw [e3] at this
    simp only [List.getElem_map]
    rw [← this]
    simp [List.getD, List.getElem?_eq_getElem h1]
end Go.Proofs.YtbpkcoemehmpbaaGreat

namespace Go.Proofs.YtbpkcoemehmpbaaGreat
open Go.RowKit
set_option linter.unusedVariables false
set_option linter.unusedSimpArgs false
set_option maxRecDepth 100000
open Lay (plcc plc shOf packN nodesN OkC Cfg Norm firstV Rep lenL)

/-- How many words, the words Sweep and Done. -/
structure Fil (c : Cfg) (cy : Int) (L : List Int) : Prop where
  len : L.length = lenL (shOf c)
  sw : L.getD (wOf c).sw.toNat 0 = cy % 4294967296 * 4294967296
  dn : L.getD (wOf c).dn.toNat 0 = 0
theorem gw_is {c : Cfg} (hc : OkC c) {L : List Int} (h : L.length = lenL (shOf c)) : Gw (nodn c) L.length (wOf c) := by
  rw [h]; exact gw_of hc (Lay.bds hc).n0 (by have := (Lay.bds hc).n1; omega)
theorem nodn_is {c : Cfg} (hc : OkC c) : ((nodn c : Nat) : Int) = nodesN c := by have := (Lay.bds hc).n0; unfold nodn; omega
theorem Fil.first {c : Cfg} (hc : OkC c) {L : List Int} (h : Rep (shOf c) L (firstV c)) (cy : Int) : Fil c cy (ptq L (plcc c 2 0 0) (cy % 4294967296 * 4294967296)) := by
  have G := gw_is hc (L := L) h.1
  have hl : (0 : Int) ≤ (wOf c).sw ∧ (wOf c).sw < L.length := G.sw
  refine ⟨by rw [pt_len]; exact h.1, pt_same hl, ?_⟩
  have e3 : plcc c 3 0 0 = 3 := done3 c
  have e2 : plcc c 2 0 0 = 2 := sweep2 c
  rw [pt_other (show 0 ≤ (wOf c).dn from G.dn.1) (show (wOf c).dn ≠ plcc c 2 0 0 from fun e => by have : plcc c 3 0 0 = plcc c 2 0 0 := e; omega)]
  have := h.2 ⟨3, 0, 0⟩ (Lay.norm_0 3 (by omega) (by omega)) (show 0 ≤ plcc c 3 0 0 by omega)
  have e : L.getD (plcc c 3 0 0).toNat 0 = firstV c ⟨3, 0, 0⟩ := this
  show L.getD (plcc c 3 0 0).toNat 0 = 0
  rw [e]
  simp [firstV, Lay.VV, Lay.stkV, Lay.baseV, Lay.isTh]
theorem Fil.st {c : Cfg} {cy : Int} {L : List Int} (hc : OkC c) (h : Fil c cy L) {v x : Int} (h1 : 1 ≤ v) (h2 : v ≤ nodesN c) : Fil c cy (ptq L (plcc c 15 v 0) x) := by
  have G := gw_is hc h.len
  have en := nodn_is hc
  obtain ⟨_, _, a, b⟩ := G.s v h1 (by omega)
  exact ⟨by rw [pt_len]; exact h.len, (pt_other G.sw.1 (fun e => a e.symm)).trans h.sw, (pt_other G.dn.1 (fun e => b e.symm)).trans h.dn⟩
theorem Fil.ma {c : Cfg} {cy : Int} {L : List Int} (hc : OkC c) (h : Fil c cy L) {v x : Int} (h1 : 1 ≤ v) (h2 : v ≤ nodesN c) : Fil c cy (ptq L (plcc c 16 v 0) x) := by
  have G := gw_is hc h.len
  have en := nodn_is hc
  obtain ⟨_, _, a, b⟩ := G.m v h1 (by omega)
  exact ⟨by rw [pt_len]; exact h.len, (pt_other G.sw.1 (fun e => a e.symm)).trans h.sw, (pt_other G.dn.1 (fun e => b e.symm)).trans h.dn⟩
set_option maxHeartbeats 8000000 in
theorem filled_any {c : Cfg} (hc : OkC c) (N : Nat) (cy : Int) (F : Option Addr) (n cap : Nat) (fs : List Int) (w : World) (hm : Lay.IsMap w N c) (hn : n = fs.length) (hr : Reads .u8 w F fs) (hx : ∀ x ∈ fs, 0 ≤ x ∧ x ≤ 255) (hcy : 0 ≤ cy ∧ cy ≤ 18446744073709551615) (h40 : n ≤ 1000) :
    Calls Tryz.prog 9 #[Lay.mapP N, .int .u64 cy, .slice F n cap] w fun e w' => ∃ S D L, e = .returned (ptr S) ∧ Fil c cy L ∧ PO w.heap.size S D N c w w' L 2100 ∧ Below w.heap.size w w' := by
  have HC := Lib.hid hc; have HM := Lib.hid hm; have HN := Lib.hid hn; have HR := Lib.hid hr; have HX := Lib.hid hx; have HCY := Lib.hid hcy
  have nb := (Lay.bds hc).n1
  have nb0 := (Lay.bds hc).n0
  obtain ⟨nn, hnn⟩ : ∃ nn : Nat, nodesN c = (nn : Int) := ⟨(nodesN c).toNat, by omega⟩
  have HNN := Lib.hid hnn
  have hmax : n ≤ maxLen := by unfold maxLen; omega
  obtain ⟨r, hrr⟩ : ∃ r, r = cy % 4294967296 := ⟨_, rfl⟩
  have er : IntKind.u32.wrap cy = r := by rw [IntKind.wrap_u32, hrr]
  have HRR := Lib.hid (show 0 ≤ r ∧ r ≤ 4294967295 by omega)
  have HFI : Hid (∀ L, Rep (shOf c) L (firstV c) → Fil c cy (ptq L (plcc c 2 0 0) (r * 4294967296))) := Lib.hid (fun L h => by rw [hrr]; exact Fil.first hc h cy)
  have HPV : Hid (0 ≤ r * 4294967296 ∧ r * 4294967296 ≤ 18446744073709551615) := Lib.hid (by omega)
  clear hc hm hn hr hx nb hnn hcy hrr nb0
  go_enter Tryz.func9, Tryz.ntmps9
  go_wp2_with (first
    | (go_at_call 22; (with_reducible refine (first_any HC.out N _ HM.out).mono ?_); rintro e w1 ⟨G, gn, L0, rfl, hgn, hrd, hrep, hb⟩; have HB := Lib.hid hb; have HG := Lib.hid hgn; have HRD := Lib.hid hrd; have HRE := Lib.hid hrep; have HLE := Lib.hid (first_len HC.out hrep); clear hb hgn hrd hrep)
    | (go_at_call 21; (with_reducible refine (new_any _ _ _ L0 _ HG.out HRD.out (by have := HG.out; have := HLE.out; omega)).mono ?_); rintro e w2 hs; obtain ⟨S, D, rfl, hpo, hb⟩ := PO.start (B := w.heap.size) (w0 := w) HB.out (Nat.le_refl _) (HM.out.below HB.out) HC.out (first_ww HC.out HRE.out) hs; have HPO := Lib.hid hpo; clear hs hpo hb)
    | (go_at_call 23; (with_reducible refine (Lay.sweep_m HC.out N _ HPO.out.mp).mono ?_); rintro e w3 ⟨rfl, hb⟩; have HP1 := Lib.hid (HPO.out.step hb); clear hb)
    | (go_at_call 24; (with_reducible refine (pair_any r 0 HRR.out.1 HRR.out.2 (by decide) (by decide) _).mono ?_); rintro e w4 ⟨rfl, hb⟩; have HP2 := Lib.hid (HP1.out.step hb); clear hb)
    | (go_at_call 13; (with_reducible refine (put_po HP2.out _ _ HPV.out (by decide)).mono ?_); rintro e w5 ⟨rfl, hp, u⟩; have HP3 := Lib.hid hp; have HF3 := Lib.hid (HFI.out L0 HRE.out); clear hp u)
    | fail)
  clear HPO HP1 HP2
  go_loopw [8] (fun sv wr => ∃ (j : Nat) (L : List Int), sv = .int .i64 ((j : Int) + 1) ∧ j ≤ nn ∧ j ≤ 1000 ∧ PO w.heap.size S D N c w wr L (1 + 2 * (j : Int)) ∧ Fil c cy L) (fun sv _ => 2000 - (intOf sv).toNat)
  case atStart => exact ⟨0, _, rfl, by omega, by omega, by simpa using HP3.out, HF3.out⟩
  case round =>
    obtain ⟨j, L, rfl, hj1, hj2, hpo, hfl⟩ := hrel
    clear HP3 HF3
    have HPO := Lib.hid hpo; have HFL := Lib.hid hfl
    clear hpo hfl
    by_cases hvn : j < nn
    · have hle : (j : Int) + 1 ≤ (nn : Int) := by omega
      by_cases hjn : j < n
      · have hle2 : (j : Int) + 1 ≤ (n : Int) := by omega
        obtain ⟨b, off, rfl, hblt, hcell⟩ := HR.out (by rw [← HN.out]; omega)
        obtain ⟨x, hx⟩ : ∃ x, x = fs.getD j 0 := ⟨_, rfl⟩
        have HCX : Hid (∀ w', Below w.heap.size w w' → w'.cell? ⟨b, off + j, none⟩ = some (.int .u8 x)) := Lib.hid (fun w' hb => by rw [hx]; exact (hb.cell (p := ⟨b, off + j, none⟩) hblt).trans (hcell j (by rw [← HN.out]; exact hjn)))
        have hxr : 0 ≤ x ∧ x ≤ 255 := by rw [hx]; exact HX.out _ (by rw [List.getD, List.getElem?_eq_getElem (by rw [← HN.out]; exact hjn)]; exact List.getElem_mem _)
        have HVW : Hid ((Lit.int .i64 ((j : Int) + 1)).wf = true) := Lib.hid (Lay.wf_i64 (by omega) (by omega))
        have HVR : Hid (1 ≤ (j : Int) + 1 ∧ (j : Int) + 1 ≤ nodesN c) := Lib.hid (by rw [HNN.out]; omega)
        obtain ⟨a, ha⟩ : ∃ a, a = x % 3 := ⟨_, rfl⟩
        obtain ⟨a2, ha2⟩ : ∃ a2, a2 = a % 2 := ⟨_, rfl⟩
        obtain ⟨d, hd⟩ : ∃ d, d = x / 3 := ⟨_, rfl⟩
        obtain ⟨d2, hd2⟩ : ∃ d2, d2 = d % 2 := ⟨_, rfl⟩
        have t1 : x.tmod 3 = a := by rw [Int.tmod_eq_emod_of_nonneg hxr.1, ha]
        have t2 : a.tmod 2 = a2 := by rw [Int.tmod_eq_emod_of_nonneg (by omega), ha2]
        have t3 : x.tdiv 3 = d := by rw [Int.tdiv_eq_ediv_of_nonneg hxr.1, hd]
        have t4 : d.tmod 2 = d2 := by rw [Int.tmod_eq_emod_of_nonneg (by omega), hd2]
        have w1 : IntKind.u64.wrap a = a := by rw [IntKind.wrap_u64]; exact Int.emod_eq_of_lt (by omega) (by omega)
        have w2 : IntKind.u64.wrap d2 = d2 := by rw [IntKind.wrap_u64]; exact Int.emod_eq_of_lt (by omega) (by omega)
        obtain ⟨y, hy⟩ : ∃ y, y = IntKind.u64.wrap (cy - d2) := ⟨_, rfl⟩
        have HY : Hid (0 ≤ y ∧ y ≤ 18446744073709551615) := Lib.hid (by rw [hy, IntKind.wrap_u64]; omega)
        have HA2 : Hid (0 ≤ a2 ∧ a2 ≤ 18446744073709551615) := Lib.hid (by omega)
        have hy' := hy.symm
        have hj0 : (0 : Int) ≤ (j : Int) := by omega
        have hjlt : (j : Int) < (n : Int) := by omega
        have es : IntKind.i64.wrap ((j : Int) + 1 - 1) = (j : Int) := by rw [show (j : Int) + 1 - 1 = (j : Int) by omega]; exact IntWalk.i64_in _ (by omega)
        have es2 : IntKind.i64.wrap (j : Int) = (j : Int) := IntWalk.i64_in _ (by omega)
        have ej : IntKind.i64.wrap ((j : Int) + 1 + 1) = (j : Int) + 1 + 1 := IntWalk.i64_in _ (by omega)
        have w3 : IntKind.u8.wrap a = a := by rw [IntKind.wrap_u8]; exact Int.emod_eq_of_lt (by omega) (by omega)
        have w4 : IntKind.u8.wrap d = d := by rw [IntKind.wrap_u8]; exact Int.emod_eq_of_lt (by omega) (by omega)
        have w5 : IntKind.u8.wrap d2 = d2 := by rw [IntKind.wrap_u8]; exact Int.emod_eq_of_lt (by omega) (by omega)
        have w6 : IntKind.u64.wrap a2 = a2 := by rw [IntKind.wrap_u64]; exact Int.emod_eq_of_lt (by omega) (by omega)
        have HJ := Lib.hid (And.intro hvn hj2)
        have hcx := HCX.out _ HPO.out.bel
        clear hx ha ha2 hd hd2 hxr hy hcell hblt hvn hj1 hj2
        go_wp2_with (first
          | (go_at_call 37; (with_reducible refine (Lay.nodes_m HC.out N _ HPO.out.mp).mono ?_); rintro e w3 ⟨rfl, hb⟩; rw [HNN.out]; have HP1 := Lib.hid (HPO.out.step hb); have HD1 := Lib.hid ((HPO.out.step hb).step (Below.refl _ _).drew); clear hb hcx; have hcx := HCX.out _ HP1.out.bel)
          | fail)
        go_region_held3 (fun w' => w'.cell? ⟨b, off + j, none⟩ = some (.int .u8 x))
          (first | (with_reducible exact HCX.out _ HP3.out.bel) | (with_reducible exact HCX.out _ HP2.out.bel) | (with_reducible exact HCX.out _ HD1.out.bel) | fail)
          (first
            | (go_at_call 25; (with_reducible refine (Lay.state_m HC.out N _ HVW.out _ HD1.out.mp).mono ?_); rintro e w7 ⟨rfl, hb⟩; have HP2 := Lib.hid (HD1.out.step hb); clear hb)
            | (go_at_call 13; (with_reducible refine (put_po HP2.out _ _ HA2.out (by have := HJ.out; omega)).mono ?_); rintro e w8 ⟨rfl, hp, u⟩; have HP3 := Lib.hid hp; have HF3 := Lib.hid (HFL.out.st (x := a2) HC.out HVR.out.1 HVR.out.2); have HD3 := Lib.hid (hp.step (Below.refl _ _).drew); clear hp u)
            | fail)
        have hcx3 := HCX.out _ HP3.out.bel
        go_wp2_with (fail)
        go_region_held3 (fun w' => w'.cell? ⟨b, off + j, none⟩ = some (.int .u8 x))
          (first | (with_reducible exact HCX.out _ HP5.out.bel) | (with_reducible exact HCX.out _ HP4.out.bel) | (with_reducible exact HCX.out _ HD3.out.bel) | fail)
          (first
            | (go_at_call 26; (with_reducible refine (Lay.mark_m HC.out N _ HVW.out _ HD3.out.mp).mono ?_); rintro e w9 ⟨rfl, hb⟩; have HP4 := Lib.hid (HD3.out.step hb); clear hb)
            | (go_at_call 13; (with_reducible refine (put_po HP4.out _ _ HY.out (by have := HJ.out; omega)).mono ?_); rintro e w10 ⟨rfl, hp, u⟩; have HP5 := Lib.hid hp; have HF5 := Lib.hid (HF3.out.ma (x := y) HC.out HVR.out.1 HVR.out.2); clear hp u)
            | fail)
        go_wp2_with (fail)
        go_roundw
        case rel => exact ⟨j + 1, _, by go_num, HJ.out.1, by omega, HP5.out.more (by omega), HF5.out⟩
        case measure => simp [intOf]; omega
      · have hno : ¬ (j : Int) + 1 ≤ (n : Int) := by omega
        clear hjn
        go_wp2_with (first
          | (go_at_call 37; (with_reducible refine (Lay.nodes_m HC.out N _ HPO.out.mp).mono ?_); rintro e w3 ⟨rfl, hb⟩; rw [HNN.out]; have HP1 := Lib.hid (HPO.out.step hb); clear hb)
          | fail)
        go_ret
        exact ⟨S, D, L, rfl, HFL.out, HP1.out.more (by omega), HP1.out.bel⟩
    · have hno : ¬ (j : Int) + 1 ≤ (nn : Int) := by omega
      go_wp2_with (first
        | (go_at_call 37; (with_reducible refine (Lay.nodes_m HC.out N _ HPO.out.mp).mono ?_); rintro e w3 ⟨rfl, hb⟩; rw [HNN.out]; have HP1 := Lib.hid (HPO.out.step hb); clear hb)
        | fail)
      go_ret
      exact ⟨S, rfl, D, L, HFL.out, HP1.out.more (by omega), HP1.out.bel⟩
end Go.Proofs.YtbpkcoemehmpbaaGreat
