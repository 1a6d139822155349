/- Words told by things: a list that has at each thing's place the thing's value; with nothing of the program. Things linked one behind the other: stacked, walked, for nodes and for packets. -/
import Derived.Test.YtbpkcoemehmpbaaGreatLayPlc
import Derived.Test.YtbpkcoemehmpbaaGreatJ10
namespace Go.Proofs.YtbpkcoemehmpbaaGreat.Lay
open Go.RowKit
set_option linter.unusedVariables false

theorem norm_k (k a : Int) (h6 : 6 ≤ k) (h18 : k ≤ 18) : Norm ⟨k, a, 0⟩ := ⟨by show 0 ≤ k; omega, by show k ≤ 18; omega, fun h => by have h2 : k ≤ 5 := h; omega, fun _ _ _ => rfl⟩
def isTh (u t : Th) : Prop := u.k = t.k ∧ u.a = t.a ∧ u.b = t.b
instance (u t : Th) : Decidable (isTh u t) := by unfold isTh; infer_instance
theorem isTh_eq {u t : Th} (h : isTh u t) : u = t := Th.ext' h.1 h.2.1 h.2.2

/-- The list has at each thing's place the thing's value. -/
def Rep (s : Sh) (L : List Int) (V : Th → Int) : Prop := L.length = lenL s ∧ ∀ t, Norm t → 0 ≤ plc s t → L.getD (plc s t).toNat 0 = V t
theorem plc_lt {s : Sh} {t : Th} (hn : Norm t) (h : 0 ≤ plc s t) : plc s t < lenL s := by
  rcases plc_spec s t hn with ⟨h1, _⟩ | ⟨i, hi, h1, _⟩
  · omega
  · rw [h1]; rw [things_len] at hi; omega
theorem plc_inj {s : Sh} {t u : Th} (ht : Norm t) (hu : Norm u) (h : 0 ≤ plc s t) (he : plc s u = plc s t) : u = t := by
  rcases plc_spec s t ht with ⟨h1, _⟩ | ⟨i, hi, h1, h2, _⟩
  · omega
  · rcases plc_spec s u hu with ⟨h3, _⟩ | ⟨j, hj, h3, h4, _⟩
    · omega
    · have : j = i := by omega
      subst this; rw [← h4, ← h2]
theorem Rep.zero (s : Sh) : Rep s (List.replicate (lenL s) 0) (fun _ => 0) :=
  ⟨by simp, fun t hn h => by have := plc_lt hn h; simp only [List.getD, List.getElem?_replicate]; split <;> rfl⟩
theorem Rep.congr {s : Sh} {L : List Int} {V V' : Th → Int} (h : Rep s L V) (hv : ∀ t, Norm t → V t = V' t) : Rep s L V' := ⟨h.1, fun t hn hp => by rw [h.2 t hn hp, hv t hn]⟩
/-- One word written. -/
theorem Rep.set {s : Sh} {L : List Int} {V V' : Th → Int} {t : Th} {x : Int} {H : Nat} (h : Rep s L V) (ht : Norm t) (hH : plc s t = (H : Int)) (hx : V' t = x) (hv : ∀ u, Norm u → u ≠ t → V' u = V u) : Rep s (L.set H x) V' := by
  have hp : 0 ≤ plc s t := by omega
  have hlt := plc_lt ht hp
  refine ⟨by simpa using h.1, fun u hu hup => ?_⟩
  by_cases e : u = t
  · subst e
    rw [show (plc s u).toNat = H by omega, hx]
    simp [List.getD, show H < L.length by rw [h.1]; omega]
  · have hne : (plc s u).toNat ≠ H := fun e2 => e (plc_inj ht hu hp (by omega))
    rw [hv u hu e, ← h.2 u hu hup]
    simp [List.getD, List.getElem?_set_ne hne.symm]

/-- What the words are once things from f to l are linked behind a head. -/
def stkV (V : Th → Int) (t : Th) (kd f l : Int) (u : Th) : Int :=
  if f ≤ l ∧ isTh u t then f else if u.k = kd ∧ f ≤ u.a ∧ u.a < l then u.a + 1 else V u
/-- The same, but linked to j alone. -/
def stkTo (V : Th → Int) (t : Th) (kd f j : Int) (u : Th) : Int :=
  if isTh u t then f else if u.k = kd ∧ f ≤ u.a ∧ u.a < j then u.a + 1 else V u

theorem stk_none {V : Th → Int} {t : Th} {kd f l : Int} (h : l < f) (u : Th) : V u = stkV V t kd f l u := by
  unfold stkV; rw [if_neg (by omega), if_neg (by omega)]
theorem stk_head {s : Sh} {L : List Int} {V : Th → Int} {t : Th} {kd f : Int} {H : Nat} (h : Rep s L V) (ht : Norm t) (hH : plc s t = (H : Int)) : Rep s (L.set H f) (stkTo V t kd f f) :=
  h.set ht hH (by unfold stkTo; rw [if_pos ⟨rfl, rfl, rfl⟩]) (fun u hu hne => by unfold stkTo; rw [if_neg (fun e => hne (isTh_eq e)), if_neg (by omega)])
theorem stk_step {s : Sh} {L : List Int} {V : Th → Int} {t : Th} {kd f j : Int} {q : Nat} (h : Rep s L (stkTo V t kd f j)) (hk : t.k ≠ kd) (hkd : kd = 12 ∨ kd = 17) (hfj : f ≤ j) (hq : plc s ⟨kd, j, 0⟩ = (q : Int)) : Rep s (L.set q (j + 1)) (stkTo V t kd f (j + 1)) := by
  have hn : Norm ⟨kd, j, 0⟩ := norm_k kd j (by omega) (by omega)
  refine h.set hn hq ?_ (fun u hu hne => ?_)
  · unfold stkTo; rw [if_neg (fun e => hk e.1.symm), if_pos ⟨rfl, hfj, by show j < j + 1; omega⟩]
  · unfold stkTo
    by_cases e : isTh u t
    · rw [if_pos e, if_pos e]
    · rw [if_neg e, if_neg e]
      by_cases e2 : u.k = kd ∧ f ≤ u.a ∧ u.a < j + 1
      · have hb : u.b = 0 := by have := hu.2.2.2; omega
        have hj : u.a ≠ j := fun e3 => hne (Th.ext' e2.1 e3 hb)
        rw [if_pos e2, if_pos (by omega)]
      · rw [if_neg e2, if_neg (by omega)]
theorem stk_done {V : Th → Int} {t : Th} {kd f l : Int} (h : f ≤ l) (u : Th) : stkTo V t kd f l u = stkV V t kd f l u := by
  by_cases e : isTh u t
  · simp [stkV, stkTo, e, h]
  · simp [stkV, stkTo, e]
end Go.Proofs.YtbpkcoemehmpbaaGreat.Lay

namespace Go.Proofs.YtbpkcoemehmpbaaGreat.Lay
open Go.RowKit
set_option linter.unusedVariables false

/-- The words that are being made. -/
def FS (B G n : Nat) (w0 wr : World) (L : List Int) : Prop :=
  wr.ownsRow B 25 1 (.slice (some ⟨G, 0, none⟩) n n) n (L.map (Value.int .u64)) ∧ Below B w0 wr
/-- All other blocks are as they were. -/
def Keep (G : Nat) (w w' : World) : Prop := w.heap.size ≤ w'.heap.size ∧ ∀ b o, b < w.heap.size → b ≠ G → w'.cell? ⟨b, o, none⟩ = w.cell? ⟨b, o, none⟩
theorem Keep.refl (G : Nat) (w : World) : Keep G w w := ⟨Nat.le_refl _, fun _ _ _ _ => rfl⟩
theorem Keep.below {G : Nat} {w w' w2 : World} (h : Keep G w w') (hb : Below w'.heap.size w' w2) : Keep G w w2 :=
  ⟨Nat.le_trans h.1 hb.size, fun b o hl hn => (hb.cell (p := ⟨b, o, none⟩) (Nat.lt_of_lt_of_le hl h.1)).trans (h.2 b o hl hn)⟩
theorem Keep.set {G i : Nat} {w w' : World} {v : Value} (h : Keep G w w') : Keep G w (w'.setCell ⟨G, i, none⟩ v) :=
  ⟨by simpa using h.1, fun b o hl hn => (World.cell?_setCell_other _ _ _ _ (by intro hh; injection hh with h1; exact hn h1.symm)).trans (h.2 b o hl hn)⟩
theorem FS.step {B G n : Nat} {w0 wr w' : World} {L : List Int} (h : FS B G n w0 wr L) (hB : B ≤ w0.heap.size) (k : Below wr.heap.size wr w') : FS B G n w0 w' L :=
  ⟨h.1.kept (grown_of_below (row := none) k) (.inr (by intro e; cases e)), below_step h.2 (Nat.le_trans hB h.2.size) k⟩
theorem FS.set {B G n : Nat} {w0 wr : World} {L : List Int} (h : FS B G n w0 wr L) (hB : B ≤ w0.heap.size) (i : Nat) (x : Int) : FS B G n w0 (wr.setCell ⟨G, i, none⟩ (.int .u64 x)) (L.set i x) := by
  have s := (h.1.stored i (.int .u64 x)).1
  rw [← List.map_set] at s
  exact ⟨s, h.2.setCell (h.1.lt G rfl).1 _⟩
theorem FS.cell {B G n : Nat} {w0 wr : World} {L : List Int} (h : FS B G n w0 wr L) (i : Nat) (hi : i < n) (hL : L.length = n) : wr.cell? ⟨G, i, none⟩ = some (.int .u64 (L.getD i 0)) ∧ wr.frozen? ⟨G, i, none⟩ = false := by
  refine ⟨?_, h.1.frozenAt i⟩
  rw [h.1.cellAt i (by omega)]
  exact map_get .u64 L i (by omega)
theorem IsMap.belowB {w0 w' : World} {N B : Nat} {c : Cfg} (h : IsMap w0 N c) (hb : Below B w0 w') (hN : N < B) : IsMap w' N c :=
  ⟨Nat.lt_of_lt_of_le h.1 hb.size, fun i hi => (hb.cell (p := ⟨N, i, none⟩) hN).trans (h.2 i hi)⟩

theorem next_pos {c : Cfg} (hc : OkC c) (i : Int) (h1 : 1 ≤ i) (h2 : i ≤ nodesN c) : 0 ≤ plcc c 17 i 0 := by
  rw [show plcc c 17 i 0 = _ from (plc_node hc i 3 (by decide) (by decide)).symm, node_at hc, if_pos ⟨h1, h2⟩]; omega
set_option maxHeartbeats 4000000 in
set_option maxRecDepth 100000 in
theorem stack_next {c : Cfg} (hc : OkC c) (N G n B : Nat) (w0 w : World) (L : List Int) (V : Th → Int) (H : Nat) (t : Th) (f l : Int) (ht : plc (shOf c) t = (H : Int)) (hn : Norm t) (hk : t.k ≠ 17) (hf : 1 ≤ f) (hf2 : f ≤ 1001) (hl : l ≤ nodesN c) (hl0 : -1 ≤ l)
    (hfs : FS B G n w0 w L) (hB : B ≤ w0.heap.size) (hN : N < B) (hm : IsMap w0 N c) (hR : Rep (shOf c) L V) (hnl : n = lenL (shOf c)) :
    Calls Tryz.prog 55 #[.slice (some ⟨G, 0, none⟩) n n, .int .i64 (H : Int), .func (.func 57) #[mapP N] #[], .int .i64 f, .int .i64 l] w fun e w' => e = .returned (.tuple #[]) ∧ ∃ L', FS B G n w0 w' L' ∧ Rep (shOf c) L' (stkV V t 17 f l) ∧ Keep G w w' := by
  by_cases hfl : l < f
  · have HF : Hid (∃ L', FS B G n w0 w L' ∧ Rep (shOf c) L' (stkV V t 17 f l) ∧ Keep G w w) := Lib.hid ⟨L, hfs, hR.congr (fun u _ => stk_none hfl u), Keep.refl _ _⟩
    clear hfs hR
    go_enter Tryz.func55, Tryz.ntmps55
    go_wp2_with (fail)
    go_returns
    exact ⟨rfl, HF.out⟩
  · have hlN : lenL (shOf c) ≤ 7000 := by have := lenL_eq hc; have := (bds hc).t55'; omega
    have hHn : H < n := by have := plc_lt hn (by omega : 0 ≤ plc (shOf c) t); omega
    have hl1 : l ≤ 1000 := by have := (bds hc).p1; have := (bds hc).n1; omega
    have hpos : ∀ i : Int, f ≤ i → i < l → ∃ q : Nat, plcc c 17 i 0 = (q : Int) ∧ q < n := fun i h1 h2 => by
      have hp := next_pos hc i (by omega) (by omega)
      have hlt : plcc c 17 i 0 < lenL (shOf c) := plc_lt (s := shOf c) (t := ⟨17, i, 0⟩) (norm_k _ _ (by decide) (by decide)) hp
      exact ⟨(plcc c 17 i 0).toNat, by omega, by omega⟩
    have hLn : L.length = n := by rw [hR.1, hnl]
    have hc0 := (hfs.cell H hHn hLn)
    have hwn : n ≤ 7000 := by omega
    have HH : Hid (∀ w1, Below w.heap.size w w1 → (w1.cell? ⟨G, H, none⟩ = some (.int .u64 (L.getD H 0)) ∧ w1.frozen? ⟨G, H, none⟩ = false) ∧ FS B G n w0 (w1.setCell ⟨G, H, none⟩ (.int .u64 f)) (L.set H f) ∧ Keep G w (w1.setCell ⟨G, H, none⟩ (.int .u64 f))) :=
      Lib.hid fun w1 hb => ⟨(hfs.step hB hb).cell H hHn hLn, (hfs.step hB hb).set hB H f, ((Keep.refl _ _).below hb).set⟩
    have HR1 := Lib.hid (stk_head (kd := 17) (f := f) hR hn ht)
    have hcv : IntKind.u32.wrap f = f := by rw [IntKind.wrap_u32]; omega
    have H0 := Lib.hid hc; have HM := Lib.hid hm; have HP := Lib.hid hpos; have HK := Lib.hid hk
    have hH0 : (0 : Int) ≤ (H : Int) := by omega
    have hH1 : (H : Int) < (n : Int) := by omega
    have hfl2 : f ≤ l := by omega
    clear hfs hR ht hpos hc0 hm hLn hnl hlN hn hk hc
    go_enter Tryz.func55, Tryz.ntmps55
    go_wp2_with (first
      | (go_at_call 24; (with_reducible refine (pair_any f (by omega) (by omega) _).mono ?_); rintro r w1 ⟨rfl, hb1⟩; obtain ⟨⟨hcb, hfb⟩, hfs1⟩ := HH.out _ hb1)
      | fail)
    have HF1 := Lib.hid hfs1
    clear hfs1 hcb hfb HH hb1
    go_loopw [10] (fun i wr => ∃ (k : Nat) (L' : List Int), f + k ≤ l ∧ i = .int .i64 (f + (k : Int)) ∧ FS B G n w0 wr L' ∧ Rep (shOf c) L' (stkTo V t 17 f (f + (k : Int))) ∧ Keep G w wr) (fun i _ => l.toNat - (intOf i).toNat)
    case atStart => exact ⟨0, _, by omega, by simp, HF1.out.1, by simpa using HR1.out, HF1.out.2⟩
    case round =>
      clear HF1 HR1 hcv
      obtain ⟨k, L', hk, rfl, hfs, hR, hkp⟩ := hrel
      have hLn : L'.length = n := hR.1.trans (by rw [← hR.1]; have := hfs.1.1; simpa using this)
      by_cases hlt : f + (k : Int) < l
      · obtain ⟨q, hq, hqn⟩ := HP.out (f + (k : Int)) (by omega) hlt
        have HQ := Lib.hid hq
        have HS := Lib.hid (stk_step hR HK.out (by decide) (by omega) hq)
        have HH : Hid (∀ w1, Below wr.heap.size wr w1 → (w1.cell? ⟨G, q, none⟩ = some (.int .u64 (L'.getD q 0)) ∧ w1.frozen? ⟨G, q, none⟩ = false) ∧ FS B G n w0 (w1.setCell ⟨G, q, none⟩ (.int .u64 (f + (k : Int) + 1))) (L'.set q (f + (k : Int) + 1)) ∧ Keep G w (w1.setCell ⟨G, q, none⟩ (.int .u64 (f + (k : Int) + 1)))) :=
          Lib.hid fun w1 hb => ⟨(hfs.step hB hb).cell q hqn hLn, (hfs.step hB hb).set hB q _, (hkp.below hb).set⟩
        have HMr := Lib.hid (HM.out.belowB hfs.2 hN)
        have hwf := wf_i64 (v := f + (k : Int)) (by omega) (by omega)
        have HWF := Lib.hid hwf
        have hcv2 : IntKind.u64.wrap (f + (k : Int) + 1) = f + (k : Int) + 1 := by rw [IntKind.wrap_u64]; omega
        have hq0 : (0 : Int) ≤ (q : Int) := by omega
        have hq1 : (q : Int) < (n : Int) := by omega
        clear hq hfs hR hwf hLn hkp
        go_wp2_with (first
          | (go_at_call 57; (with_reducible refine (next_m H0.out _ _ HWF.out _ HMr.out).mono ?_); rintro r w1 ⟨rfl, hb1⟩; rw [HQ.out]; obtain ⟨⟨hcb, hfb⟩, hfs1⟩ := HH.out _ hb1)
          | fail)
        have HF2 := Lib.hid hfs1
        clear hfs1 hcb hfb
        go_roundw
        case rel => exact ⟨k + 1, _, by omega, by go_num, HF2.out.1, by rw [show f + ((k + 1 : Nat) : Int) = f + (k : Int) + 1 by omega]; exact HS.out, HF2.out.2⟩
        case measure => simp [intOf]; omega
      · have he : f + (k : Int) = l := by omega
        have HE : Hid (∃ L', FS B G n w0 wr L' ∧ Rep (shOf c) L' (stkV V t 17 f l) ∧ Keep G w wr) := Lib.hid ⟨L', hfs, hR.congr (fun u _ => by rw [he]; exact stk_done (by omega) u), hkp⟩
        clear hfs hR he hLn hkp
        go_wp2_with (fail)
        go_returns
        exact ⟨rfl, HE.out⟩

theorem link_pos {c : Cfg} (hc : OkC c) (i : Int) (h1 : 1 ≤ i) (h2 : i ≤ packN c) : 0 ≤ plcc c 12 i 0 := by
  have e := b2_eq hc
  rw [show plcc c 12 i 0 = _ from (plc_link hc i).symm, wordL, if_pos (by omega)]; have := (bds hc).t4; omega
set_option maxHeartbeats 4000000 in
set_option maxRecDepth 100000 in
theorem stack_link {c : Cfg} (hc : OkC c) (N G n B : Nat) (w0 w : World) (L : List Int) (V : Th → Int) (H : Nat) (t : Th) (f l : Int) (ht : plc (shOf c) t = (H : Int)) (hn : Norm t) (hk : t.k ≠ 12) (hf : 1 ≤ f) (hf2 : f ≤ 1001) (hl : l ≤ packN c) (hl0 : -1 ≤ l)
    (hfs : FS B G n w0 w L) (hB : B ≤ w0.heap.size) (hN : N < B) (hm : IsMap w0 N c) (hR : Rep (shOf c) L V) (hnl : n = lenL (shOf c)) :
    Calls Tryz.prog 55 #[.slice (some ⟨G, 0, none⟩) n n, .int .i64 (H : Int), .func (.func 59) #[mapP N] #[], .int .i64 f, .int .i64 l] w fun e w' => e = .returned (.tuple #[]) ∧ ∃ L', FS B G n w0 w' L' ∧ Rep (shOf c) L' (stkV V t 12 f l) ∧ Keep G w w' := by
  by_cases hfl : l < f
  · have HF : Hid (∃ L', FS B G n w0 w L' ∧ Rep (shOf c) L' (stkV V t 12 f l) ∧ Keep G w w) := Lib.hid ⟨L, hfs, hR.congr (fun u _ => stk_none hfl u), Keep.refl _ _⟩
    clear hfs hR
    go_enter Tryz.func55, Tryz.ntmps55
    go_wp2_with (fail)
    go_returns
    exact ⟨rfl, HF.out⟩
  · have hlN : lenL (shOf c) ≤ 7000 := by have := lenL_eq hc; have := (bds hc).t55'; omega
    have hHn : H < n := by have := plc_lt hn (by omega : 0 ≤ plc (shOf c) t); omega
    have hl1 : l ≤ 1000 := by have := (bds hc).p1; have := (bds hc).n1; omega
    have hpos : ∀ i : Int, f ≤ i → i < l → ∃ q : Nat, plcc c 12 i 0 = (q : Int) ∧ q < n := fun i h1 h2 => by
      have hp := link_pos hc i (by omega) (by omega)
      have hlt : plcc c 12 i 0 < lenL (shOf c) := plc_lt (s := shOf c) (t := ⟨12, i, 0⟩) (norm_k _ _ (by decide) (by decide)) hp
      exact ⟨(plcc c 12 i 0).toNat, by omega, by omega⟩
    have hLn : L.length = n := by rw [hR.1, hnl]
    have hc0 := (hfs.cell H hHn hLn)
    have hwn : n ≤ 7000 := by omega
    have HH : Hid (∀ w1, Below w.heap.size w w1 → (w1.cell? ⟨G, H, none⟩ = some (.int .u64 (L.getD H 0)) ∧ w1.frozen? ⟨G, H, none⟩ = false) ∧ FS B G n w0 (w1.setCell ⟨G, H, none⟩ (.int .u64 f)) (L.set H f) ∧ Keep G w (w1.setCell ⟨G, H, none⟩ (.int .u64 f))) :=
      Lib.hid fun w1 hb => ⟨(hfs.step hB hb).cell H hHn hLn, (hfs.step hB hb).set hB H f, ((Keep.refl _ _).below hb).set⟩
    have HR1 := Lib.hid (stk_head (kd := 12) (f := f) hR hn ht)
    have hcv : IntKind.u32.wrap f = f := by rw [IntKind.wrap_u32]; omega
    have H0 := Lib.hid hc; have HM := Lib.hid hm; have HP := Lib.hid hpos; have HK := Lib.hid hk
    have hH0 : (0 : Int) ≤ (H : Int) := by omega
    have hH1 : (H : Int) < (n : Int) := by omega
    have hfl2 : f ≤ l := by omega
    clear hfs hR ht hpos hc0 hm hLn hnl hlN hn hk hc
    go_enter Tryz.func55, Tryz.ntmps55
    go_wp2_with (first
      | (go_at_call 24; (with_reducible refine (pair_any f (by omega) (by omega) _).mono ?_); rintro r w1 ⟨rfl, hb1⟩; obtain ⟨⟨hcb, hfb⟩, hfs1⟩ := HH.out _ hb1)
      | fail)
    have HF1 := Lib.hid hfs1
    clear hfs1 hcb hfb HH hb1
    go_loopw [10] (fun i wr => ∃ (k : Nat) (L' : List Int), f + k ≤ l ∧ i = .int .i64 (f + (k : Int)) ∧ FS B G n w0 wr L' ∧ Rep (shOf c) L' (stkTo V t 12 f (f + (k : Int))) ∧ Keep G w wr) (fun i _ => l.toNat - (intOf i).toNat)
    case atStart => exact ⟨0, _, by omega, by simp, HF1.out.1, by simpa using HR1.out, HF1.out.2⟩
    case round =>
      clear HF1 HR1 hcv
      obtain ⟨k, L', hk, rfl, hfs, hR, hkp⟩ := hrel
      have hLn : L'.length = n := hR.1.trans (by rw [← hR.1]; have := hfs.1.1; simpa using this)
      by_cases hlt : f + (k : Int) < l
      · obtain ⟨q, hq, hqn⟩ := HP.out (f + (k : Int)) (by omega) hlt
        have HQ := Lib.hid hq
        have HS := Lib.hid (stk_step hR HK.out (by decide) (by omega) hq)
        have HH : Hid (∀ w1, Below wr.heap.size wr w1 → (w1.cell? ⟨G, q, none⟩ = some (.int .u64 (L'.getD q 0)) ∧ w1.frozen? ⟨G, q, none⟩ = false) ∧ FS B G n w0 (w1.setCell ⟨G, q, none⟩ (.int .u64 (f + (k : Int) + 1))) (L'.set q (f + (k : Int) + 1)) ∧ Keep G w (w1.setCell ⟨G, q, none⟩ (.int .u64 (f + (k : Int) + 1)))) :=
          Lib.hid fun w1 hb => ⟨(hfs.step hB hb).cell q hqn hLn, (hfs.step hB hb).set hB q _, (hkp.below hb).set⟩
        have HMr := Lib.hid (HM.out.belowB hfs.2 hN)
        have hwf := wf_i64 (v := f + (k : Int)) (by omega) (by omega)
        have HWF := Lib.hid hwf
        have hcv2 : IntKind.u64.wrap (f + (k : Int) + 1) = f + (k : Int) + 1 := by rw [IntKind.wrap_u64]; omega
        have hq0 : (0 : Int) ≤ (q : Int) := by omega
        have hq1 : (q : Int) < (n : Int) := by omega
        clear hq hfs hR hwf hLn hkp
        go_wp2_with (first
          | (go_at_call 59; (with_reducible refine (link_m H0.out _ _ HWF.out _ HMr.out).mono ?_); rintro r w1 ⟨rfl, hb1⟩; rw [HQ.out]; obtain ⟨⟨hcb, hfb⟩, hfs1⟩ := HH.out _ hb1)
          | fail)
        have HF2 := Lib.hid hfs1
        clear hfs1 hcb hfb
        go_roundw
        case rel => exact ⟨k + 1, _, by omega, by go_num, HF2.out.1, by rw [show f + ((k + 1 : Nat) : Int) = f + (k : Int) + 1 by omega]; exact HS.out, HF2.out.2⟩
        case measure => simp [intOf]; omega
      · have he : f + (k : Int) = l := by omega
        have HE : Hid (∃ L', FS B G n w0 wr L' ∧ Rep (shOf c) L' (stkV V t 12 f l) ∧ Keep G w wr) := Lib.hid ⟨L', hfs, hR.congr (fun u _ => by rw [he]; exact stk_done (by omega) u), hkp⟩
        clear hfs hR he hLn hkp
        go_wp2_with (fail)
        go_returns
        exact ⟨rfl, HE.out⟩
end Go.Proofs.YtbpkcoemehmpbaaGreat.Lay
