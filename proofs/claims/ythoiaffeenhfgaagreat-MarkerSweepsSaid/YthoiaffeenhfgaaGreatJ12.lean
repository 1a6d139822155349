/-  -/
import Derived.Test.YthoiaffeenhfgaaGreatLayAcc
import Derived.Test.YthoiaffeenhfgaaGreatJ7
namespace Go.Proofs.YthoiaffeenhfgaaGreat.Lay
open Go.RowKit
set_option linter.unusedVariables false
theorem IsMap.sw {w : World} {N : Nat} {c : Cfg} (h : IsMap w N c) : w.cell? ⟨N, 11, none⟩ = some (.int .i64 c.sw) ∧ IsMap w N c := ⟨h.2 11 (by omega), h⟩
theorem parts_bd' {c : Cfg} (h : OkC c) : 0 ≤ partsC c ∧ partsC c ≤ 60 ∧ (∀ j, 0 ≤ j → j < partsC c → j * c.sw + 1 ≤ nodesN c) := by
  have n0 := (bds h).n0; have n1 := (bds h).n1; have s0 := h.w0; have s1 := h.w1
  have hp : partsC c = (nodesN c + c.sw - 1) / c.sw := by unfold partsC piecesOf; rw [if_neg (by omega)]
  refine ⟨by rw [hp]; exact Int.ediv_nonneg (by omega) (by omega), ?_, fun j h0 hj => ?_⟩
  · have : partsC c < 61 := by
      rw [hp]
      refine Int.ediv_lt_of_lt_mul (by omega) ?_
      have : 61 * 1 ≤ 61 * c.sw := Int.mul_le_mul_of_nonneg_left s0 (by decide)
      have h2 : (61 : Int) * c.sw = 60 * c.sw + c.sw := by omega
      have : 60 * 1 ≤ 60 * c.sw := Int.mul_le_mul_of_nonneg_left s0 (by decide)
      omega
    omega
  · have h1 : j + 1 ≤ (nodesN c + c.sw - 1) / c.sw := by omega
    have h2 := (Int.le_ediv_iff_mul_le (by omega : 0 < c.sw)).1 h1
    rw [Int.add_mul] at h2; omega
set_option maxHeartbeats 2000000 in
set_option maxRecDepth 100000 in
theorem part_yes {c : Cfg} (hc : OkC c) (N : Nat) (j : Int) (h0 : 0 ≤ j) (hj : j < partsC c) (w : World) (hm : IsMap w N c) :
    Calls Tryz.prog 144 #[mapP N, .int .i64 j] w fun e w' => e = .returned (.tuple #[.int .i64 (j * c.sw + 1), .int .i64 (imin (j * c.sw + 1 + c.sw - 1) (nodesN c))]) ∧ Below w.heap.size w w' := by
  have H := Lib.hid hc; have HM := Lib.hid hm
  obtain ⟨p0, p1, p2⟩ := parts_bd' hc
  have p3 := p2 j h0 hj
  have s0 := hc.w0; have s1 := hc.w1; have n0 := (bds hc).n0; have n1 := (bds hc).n1
  have p4 : 0 ≤ j * c.sw := Int.mul_nonneg h0 (by omega)
  have hw1 : IntKind.i64.wrap (j * c.sw + 1 + c.sw) = j * c.sw + 1 + c.sw := IntWalk.i64_in _ (by omega)
  have hw2 : IntKind.i64.wrap (j * c.sw + 1 + c.sw - 1) = j * c.sw + 1 + c.sw - 1 := IntWalk.i64_in _ (by omega)
  clear hm hc p2
  go_enter Tryz.func144, Tryz.ntmps144
  go_wp2_with (first
    | (go_at_call 35; (with_reducible refine (parts_m H.out _ _ HM.out).mono ?_); rintro r w1 ⟨rfl, hb1⟩; have hm1 := HM.out.below hb1; have c11 := (cells7 hm1).2.2.2.2.2.2)
    | (go_at_call 77; (with_reducible refine (within_yes _ _ _ (by omega) _).mono ?_); rintro r w2 ⟨rfl, rfl⟩))
  have HM1 := Lib.hid hm1
  go_region_held3 (fun w' => w'.cell? ⟨N, 11, none⟩ = some (.int .i64 c.sw) ∧ IsMap w' N c)
    (first | exact IsMap.sw (IsMap.drew HM1.out) | exact IsMap.sw (by assumption) | fail)
    (first
      | (go_at_call 21; (with_reducible refine (nodes_m H.out _ _ (IsMap.drew HM1.out)).mono ?_); rintro r w4 ⟨rfl, hb4⟩; have hm4 := (IsMap.drew HM1.out).below hb4)
      | fail)
  all_goals go_wp2_with (fail)
  all_goals go_ret2
  all_goals exact ⟨rfl, below_then hb1 ((Below.refl _ _).drew.trans hb4)⟩
end Go.Proofs.YthoiaffeenhfgaaGreat.Lay

namespace Go.Proofs.YthoiaffeenhfgaaGreat.Lay
open Go.RowKit
set_option linter.unusedVariables false
def FS (B G n : Nat) (w0 wr : World) (L : List Int) : Prop :=
  wr.ownsRow B 39 1 (.slice (some ⟨G, 0, none⟩) n n) n (L.map (Value.int .u64)) ∧ Below B w0 wr
def Keep (G : Nat) (w w' : World) : Prop := w.heap.size ≤ w'.heap.size ∧ ∀ b o, b < w.heap.size → b ≠ G → w'.cell? ⟨b, o, none⟩ = w.cell? ⟨b, o, none⟩
theorem Keep.refl (G : Nat) (w : World) : Keep G w w := ⟨Nat.le_refl _, fun _ _ _ _ => rfl⟩
theorem Keep.below {G : Nat} {w w' w2 : World} (h : Keep G w w') (hb : Below w'.heap.size w' w2) : Keep G w w2 :=
  ⟨Nat.le_trans h.1 hb.size, fun b o hl hn => (hb.cell (p := ⟨b, o, none⟩) (Nat.lt_of_lt_of_le hl h.1)).trans (h.2 b o hl hn)⟩
theorem Keep.set {G i : Nat} {w w' : World} {v : Value} (h : Keep G w w') : Keep G w (w'.setCell ⟨G, i, none⟩ v) :=
  ⟨by simpa using h.1, fun b o hl hn => (World.cell?_setCell_other _ _ _ _ (by intro hh; injection hh with h1; exact hn h1.symm)).trans (h.2 b o hl hn)⟩
theorem FS.step {B G n : Nat} {w0 wr w' : World} {L : List Int} (h : FS B G n w0 wr L) (hB : B ≤ w0.heap.size) (k : Below wr.heap.size wr w') : FS B G n w0 w' L :=
  ⟨h.1.kept (grown_of_below (row := none) k) (.inr (by intro e; cases e)), below_step h.2 (Nat.le_trans hB h.2.size) k⟩
theorem FS.set {B G n : Nat} {w0 wr : World} {L : List Int} (h : FS B G n w0 wr L) (hB : B ≤ w0.heap.size) (i : Nat) (x : Int) : FS B G n w0 (wr.setCell ⟨G, i, none⟩ (.int .u64 x)) (L.set i x) := by
  have s := (h.1.stored i (.int .u64 x)).1
  rw [← List.map_set] at s
  exact ⟨s, h.2.setCell (h.1.lt G rfl).1 _⟩
theorem FS.cell {B G n : Nat} {w0 wr : World} {L : List Int} (h : FS B G n w0 wr L) (i : Nat) (hi : i < n) (hL : L.length = n) : wr.cell? ⟨G, i, none⟩ = some (.int .u64 (L.getD i 0)) ∧ wr.frozen? ⟨G, i, none⟩ = false := by
  refine ⟨?_, h.1.frozenAt i⟩
  rw [h.1.cellAt i (by omega)]
  exact map_get .u64 L i (by omega)
theorem IsMap.belowB {w0 w' : World} {N B : Nat} {c : Cfg} (h : IsMap w0 N c) (hb : Below B w0 w') (hN : N < B) : IsMap w' N c :=
  ⟨Nat.lt_of_lt_of_le h.1 hb.size, fun i hi => (hb.cell (p := ⟨N, i, none⟩) hN).trans (h.2 i hi)⟩
theorem next_pos {c : Cfg} (hc : OkC c) (i : Int) (h1 : 1 ≤ i) (h2 : i ≤ nodesN c) : 0 ≤ plcc c 17 i 0 := by
  rw [show plcc c 17 i 0 = _ from (plc_node hc i 3 (by decide) (by decide)).symm, node_at hc, if_pos ⟨h1, h2⟩]; omega
set_option maxHeartbeats 4000000 in
set_option maxRecDepth 100000 in
theorem stack_next {c : Cfg} (hc : OkC c) (N G n B : Nat) (w0 w : World) (L : List Int) (V : Th → Int) (H : Nat) (t : Th) (f l : Int) (ht : plc (shOf c) t = (H : Int)) (hn : Norm t) (hk : t.k ≠ 17) (hf : 1 ≤ f) (hf2 : f ≤ 1001) (hl : l ≤ nodesN c) (hl0 : -1 ≤ l)
    (hfs : FS B G n w0 w L) (hB : B ≤ w0.heap.size) (hN : N < B) (hm : IsMap w0 N c) (hR : Rep (shOf c) L V) (hnl : n = lenL (shOf c)) :
    Calls Tryz.prog 49 #[.slice (some ⟨G, 0, none⟩) n n, .int .i64 (H : Int), .func (.func 51) #[mapP N] #[], .int .i64 f, .int .i64 l] w fun e w' => e = .returned (.tuple #[]) ∧ ∃ L', FS B G n w0 w' L' ∧ Rep (shOf c) L' (stkV V t 17 f l) ∧ Keep G w w' := by
  by_cases hfl : l < f
  · have HF : Hid (∃ L', FS B G n w0 w L' ∧ Rep (shOf c) L' (stkV V t 17 f l) ∧ Keep G w w) := Lib.hid ⟨L, hfs, hR.congr (fun u _ => stk_none hfl u), Keep.refl _ _⟩
    clear hfs hR
    go_enter Tryz.func49, Tryz.ntmps49
    go_wp2_with (fail)
    go_returns
    exact ⟨rfl, HF.out⟩
  · have hlN : lenL (shOf c) ≤ 7000 := by have := lenL_eq hc; have := (bds hc).t55'; omega
    have hHn : H < n := by have := plc_lt hn (by omega : 0 ≤ plc (shOf c) t); omega
    have hl1 : l ≤ 1000 := by have := (bds hc).p1; have := (bds hc).n1; omega
    have hpos : ∀ i : Int, f ≤ i → i < l → ∃ q : Nat, plcc c 17 i 0 = (q : Int) ∧ q < n := fun i h1 h2 => by
      have hp := next_pos hc i (by omega) (by omega)
      have hlt : plcc c 17 i 0 < lenL (shOf c) := plc_lt (s := shOf c) (t := ⟨17, i, 0⟩) (norm_k _ _ (by decide) (by decide)) hp
      exact ⟨(plcc c 17 i 0).toNat, by omega, by omega⟩
    have hLn : L.length = n := by rw [hR.1, hnl]
    have hc0 := (hfs.cell H hHn hLn)
    have hwn : n ≤ 7000 := by omega
    have HH : Hid (∀ w1, Below w.heap.size w w1 → (w1.cell? ⟨G, H, none⟩ = some (.int .u64 (L.getD H 0)) ∧ w1.frozen? ⟨G, H, none⟩ = false) ∧ FS B G n w0 (w1.setCell ⟨G, H, none⟩ (.int .u64 f)) (L.set H f) ∧ Keep G w (w1.setCell ⟨G, H, none⟩ (.int .u64 f))) :=
      Lib.hid fun w1 hb => ⟨(hfs.step hB hb).cell H hHn hLn, (hfs.step hB hb).set hB H f, ((Keep.refl _ _).below hb).set⟩
    have HR1 := Lib.hid (stk_head (kd := 17) (f := f) hR hn ht)
    have hcv : IntKind.u32.wrap f = f := by rw [IntKind.wrap_u32]; omega
    have H0 := Lib.hid hc; have HM := Lib.hid hm; have HP := Lib.hid hpos; have HK := Lib.hid hk
    have hH0 : (0 : Int) ≤ (H : Int) := by omega
    have hH1 : (H : Int) < (n : Int) := by omega
    have hfl2 : f ≤ l := by omega
    clear hfs hR ht hpos hc0 hm hLn hnl hlN hn hk hc
    go_enter Tryz.func49, Tryz.ntmps49
    go_wp2_with (first
      | (go_at_call 31; (with_reducible refine (pair_any f (by omega) (by omega) _).mono ?_); rintro r w1 ⟨rfl, hb1⟩; obtain ⟨⟨hcb, hfb⟩, hfs1⟩ := HH.out _ hb1)
      | fail)
    have HF1 := Lib.hid hfs1
    clear hfs1 hcb hfb HH hb1
    go_loopw [10] (fun i wr => ∃ (k : Nat) (L' : List Int), f + k ≤ l ∧ i = .int .i64 (f + (k : Int)) ∧ FS B G n w0 wr L' ∧ Rep (shOf c) L' (stkTo V t 17 f (f + (k : Int))) ∧ Keep G w wr) (fun i _ => l.toNat - (intOf i).toNat)
    case atStart => exact ⟨0, _, by omega, by simp, HF1.out.1, by simpa using HR1.out, HF1.out.2⟩
    case round =>
      clear HF1 HR1 hcv
      obtain ⟨k, L', hk, rfl, hfs, hR, hkp⟩ := hrel
      have hLn : L'.length = n := hR.1.trans (by rw [← hR.1]; have := hfs.1.1; simpa using this)
      by_cases hlt : f + (k : Int) < l
      · obtain ⟨q, hq, hqn⟩ := HP.out (f + (k : Int)) (by omega) hlt
        have HQ := Lib.hid hq
        have HS := Lib.hid (stk_step hR HK.out (by decide) (by omega) hq)
        have HH : Hid (∀ w1, Below wr.heap.size wr w1 → (w1.cell? ⟨G, q, none⟩ = some (.int .u64 (L'.getD q 0)) ∧ w1.frozen? ⟨G, q, none⟩ = false) ∧ FS B G n w0 (w1.setCell ⟨G, q, none⟩ (.int .u64 (f + (k : Int) + 1))) (L'.set q (f + (k : Int) + 1)) ∧ Keep G w (w1.setCell ⟨G, q, none⟩ (.int .u64 (f + (k : Int) + 1)))) :=
          Lib.hid fun w1 hb => ⟨(hfs.step hB hb).cell q hqn hLn, (hfs.step hB hb).set hB q _, (hkp.below hb).set⟩
        have HMr := Lib.hid (HM.out.belowB hfs.2 hN)
        have hwf := wf_i64 (v := f + (k : Int)) (by omega) (by omega)
        have HWF := Lib.hid hwf
        have hcv2 : IntKind.u64.wrap (f + (k : Int) + 1) = f + (k : Int) + 1 := by rw [IntKind.wrap_u64]; omega
        have hq0 : (0 : Int) ≤ (q : Int) := by omega
        have hq1 : (q : Int) < (n : Int) := by omega
        clear hq hfs hR hwf hLn hkp
        go_wp2_with (first
          | (go_at_call 51; (with_reducible refine (next_m H0.out _ _ HWF.out _ HMr.out).mono ?_); rintro r w1 ⟨rfl, hb1⟩; rw [HQ.out]; obtain ⟨⟨hcb, hfb⟩, hfs1⟩ := HH.out _ hb1)
          | fail)
        have HF2 := Lib.hid hfs1
        clear hfs1 hcb hfb
        go_roundw
        case rel => exact ⟨k + 1, _, by omega, by go_num, HF2.out.1, by rw [show f + ((k + 1 : Nat) : Int) = f + (k : Int) + 1 by omega]; exact HS.out, HF2.out.2⟩
        case measure => simp [intOf]; omega
      · have he : f + (k : Int) = l := by omega
        have HE : Hid (∃ L', FS B G n w0 wr L' ∧ Rep (shOf c) L' (stkV V t 17 f l) ∧ Keep G w wr) := Lib.hid ⟨L', hfs, hR.congr (fun u _ => by rw [he]; exact stk_done (by omega) u), hkp⟩
        clear hfs hR he hLn hkp
        go_wp2_with (fail)
        go_returns
        exact ⟨rfl, HE.out⟩
theorem link_pos {c : Cfg} (hc : OkC c) (i : Int) (h1 : 1 ≤ i) (h2 : i ≤ packN c) : 0 ≤ plcc c 12 i 0 := by
  have e := b2_eq hc
  rw [show plcc c 12 i 0 = _ from (plc_link hc i).symm, wordL, if_pos (by omega)]; have := (bds hc).t4; omega
set_option maxHeartbeats 4000000 in
set_option maxRecDepth 100000 in
theorem stack_link {c : Cfg} (hc : OkC c) (N G n B : Nat) (w0 w : World) (L : List Int) (V : Th → Int) (H : Nat) (t : Th) (f l : Int) (ht : plc (shOf c) t = (H : Int)) (hn : Norm t) (hk : t.k ≠ 12) (hf : 1 ≤ f) (hf2 : f ≤ 1001) (hl : l ≤ packN c) (hl0 : -1 ≤ l)
    (hfs : FS B G n w0 w L) (hB : B ≤ w0.heap.size) (hN : N < B) (hm : IsMap w0 N c) (hR : Rep (shOf c) L V) (hnl : n = lenL (shOf c)) :
    Calls Tryz.prog 49 #[.slice (some ⟨G, 0, none⟩) n n, .int .i64 (H : Int), .func (.func 53) #[mapP N] #[], .int .i64 f, .int .i64 l] w fun e w' => e = .returned (.tuple #[]) ∧ ∃ L', FS B G n w0 w' L' ∧ Rep (shOf c) L' (stkV V t 12 f l) ∧ Keep G w w' := by
  by_cases hfl : l < f
  · have HF : Hid (∃ L', FS B G n w0 w L' ∧ Rep (shOf c) L' (stkV V t 12 f l) ∧ Keep G w w) := Lib.hid ⟨L, hfs, hR.congr (fun u _ => stk_none hfl u), Keep.refl _ _⟩
    clear hfs hR
    go_enter Tryz.func49, Tryz.ntmps49
    go_wp2_with (fail)
    go_returns
    exact ⟨rfl, HF.out⟩
  · have hlN : lenL (shOf c) ≤ 7000 := by have := lenL_eq hc; have := (bds hc).t55'; omega
    have hHn : H < n := by have := plc_lt hn (by omega : 0 ≤ plc (shOf c) t); omega
    have hl1 : l ≤ 1000 := by have := (bds hc).p1; have := (bds hc).n1; omega
    have hpos : ∀ i : Int, f ≤ i → i < l → ∃ q : Nat, plcc c 12 i 0 = (q : Int) ∧ q < n := fun i h1 h2 => by
      have hp := link_pos hc i (by omega) (by omega)
      have hlt : plcc c 12 i 0 < lenL (shOf c) := plc_lt (s := shOf c) (t := ⟨12, i, 0⟩) (norm_k _ _ (by decide) (by decide)) hp
      exact ⟨(plcc c 12 i 0).toNat, by omega, by omega⟩
    have hLn : L.length = n := by rw [hR.1, hnl]
    have hc0 := (hfs.cell H hHn hLn)
    have hwn : n ≤ 7000 := by omega
    have HH : Hid (∀ w1, Below w.heap.size w w1 → (w1.cell? ⟨G, H, none⟩ = some (.int .u64 (L.getD H 0)) ∧ w1.frozen? ⟨G, H, none⟩ = false) ∧ FS B G n w0 (w1.setCell ⟨G, H, none⟩ (.int .u64 f)) (L.set H f) ∧ Keep G w (w1.setCell ⟨G, H, none⟩ (.int .u64 f))) :=
      Lib.hid fun w1 hb => ⟨(hfs.step hB hb).cell H hHn hLn, (hfs.step hB hb).set hB H f, ((Keep.refl _ _).below hb).set⟩
    have HR1 := Lib.hid (stk_head (kd := 12) (f := f) hR hn ht)
    have hcv : IntKind.u32.wrap f = f := by rw [IntKind.wrap_u32]; omega
    have H0 := Lib.hid hc; have HM := Lib.hid hm; have HP := Lib.hid hpos; have HK := Lib.hid hk
    have hH0 : (0 : Int) ≤ (H : Int) := by omega
    have hH1 : (H : Int) < (n : Int) := by omega
    have hfl2 : f ≤ l := by omega
    clear hfs hR ht hpos hc0 hm hLn hnl hlN hn hk hc
    go_enter Tryz.func49, Tryz.ntmps49
    go_wp2_with (first
      | (go_at_call 31; (with_reducible refine (pair_any f (by omega) (by omega) _).mono ?_); rintro r w1 ⟨rfl, hb1⟩; obtain ⟨⟨hcb, hfb⟩, hfs1⟩ := HH.out _ hb1)
      | fail)
    have HF1 := Lib.hid hfs1
    clear hfs1 hcb hfb HH hb1
    go_loopw [10] (fun i wr => ∃ (k : Nat) (L' : List Int), f + k ≤ l ∧ i = .int .i64 (f + (k : Int)) ∧ FS B G n w0 wr L' ∧ Rep (shOf c) L' (stkTo V t 12 f (f + (k : Int))) ∧ Keep G w wr) (fun i _ => l.toNat - (intOf i).toNat)
    case atStart => exact ⟨0, _, by omega, by simp, HF1.out.1, by simpa using HR1.out, HF1.out.2⟩
    case round =>
      clear HF1 HR1 hcv
      obtain ⟨k, L', hk, rfl, hfs, hR, hkp⟩ := hrel
      have hLn : L'.length = n := hR.1.trans (by rw [← hR.1]; have := hfs.1.1; simpa using this)
      by_cases hlt : f + (k : Int) < l
      · obtain ⟨q, hq, hqn⟩ := HP.out (f + (k : Int)) (by omega) hlt
        have HQ := Lib.hid hq
        have HS := Lib.hid (stk_step hR HK.out (by decide) (by omega) hq)
        have HH : Hid (∀ w1, Below wr.heap.size wr w1 → (w1.cell? ⟨G, q, none⟩ = some (.int .u64 (L'.getD q 0)) ∧ w1.frozen? ⟨G, q, none⟩ = false) ∧ FS B G n w0 (w1.setCell ⟨G, q, none⟩ (.int .u64 (f + (k : Int) + 1))) (L'.set q (f + (k : Int) + 1)) ∧ Keep G w (w1.setCell ⟨G, q, none⟩ (.int .u64 (f + (k : Int) + 1)))) :=
          Lib.hid fun w1 hb => ⟨(hfs.step hB hb).cell q hqn hLn, (hfs.step hB hb).set hB q _, (hkp.below hb).set⟩
        have HMr := Lib.hid (HM.out.belowB hfs.2 hN)
        have hwf := wf_i64 (v := f + (k : Int)) (by omega) (by omega)
        have HWF := Lib.hid hwf
        have hcv2 : IntKind.u64.wrap (f + (k : Int) + 1) = f + (k : Int) + 1 := by rw [IntKind.wrap_u64]; omega
        have hq0 : (0 : Int) ≤ (q : Int) := by omega
        have hq1 : (q : Int) < (n : Int) := by omega
        clear hq hfs hR hwf hLn hkp
        go_wp2_with (first
          | (go_at_call 53; (with_reducible refine (link_m H0.out _ _ HWF.out _ HMr.out).mono ?_); rintro r w1 ⟨rfl, hb1⟩; rw [HQ.out]; obtain ⟨⟨hcb, hfb⟩, hfs1⟩ := HH.out _ hb1)
          | fail)
        have HF2 := Lib.hid hfs1
        clear hfs1 hcb hfb
        go_roundw
        case rel => exact ⟨k + 1, _, by omega, by go_num, HF2.out.1, by rw [show f + ((k + 1 : Nat) : Int) = f + (k : Int) + 1 by omega]; exact HS.out, HF2.out.2⟩
        case measure => simp [intOf]; omega
      · have he : f + (k : Int) = l := by omega
        have HE : Hid (∃ L', FS B G n w0 wr L' ∧ Rep (shOf c) L' (stkV V t 12 f l) ∧ Keep G w wr) := Lib.hid ⟨L', hfs, hR.congr (fun u _ => by rw [he]; exact stk_done (by omega) u), hkp⟩
        clear hfs hR he hLn hkp
        go_wp2_with (fail)
        go_returns
        exact ⟨rfl, HE.out⟩
end Go.Proofs.YthoiaffeenhfgaaGreat.Lay
