
import Derived.Test.YthoiaffeenhfgaaGreatJ12
import Derived.Test.YthoiaffeenhfgaaGreatLayChk
namespace Go.Proofs.YthoiaffeenhfgaaGreat.Lay
open Go.RowKit
set_option linter.unusedVariables false
def baseV (c : Cfg) (u : Th) : Int := if isTh u ⟨14, nodesN c, 0⟩ then slotsOf (kindV c (nodesN c)) else if isTh u ⟨15, nodesN c, 0⟩ then 1 else 0
def VV (c : Cfg) : Nat → Th → Int
  | 0 => baseV c
  | k + 1 => stkV (VV c k) ⟨7, (k : Int), 0⟩ 17 (rF c k) (imin (rF c k + rM c k) (nodesN c) - 1)
def firstV (c : Cfg) : Th → Int := stkV (VV c 5) ⟨5, 0, 0⟩ 12 1 (packN c)
@[go_sem] theorem ix64_0 (x0 x1 x2 x3 x4 x5 x6 x7 x8 x9 x10 x11 x12 x13 x14 x15 x16 x17 x18 x19 x20 x21 x22 x23 x24 : Int) (w : World) : (Instr.index 77 (.agg #[.int .i64 x0, .int .i64 x1, .int .i64 x2, .int .i64 x3, .int .i64 x4, .int .i64 x5, .int .i64 x6, .int .i64 x7, .int .i64 x8, .int .i64 x9, .int .i64 x10, .int .i64 x11, .int .i64 x12, .int .i64 x13, .int .i64 x14, .int .i64 x15, .int .i64 x16, .int .i64 x17, .int .i64 x18, .int .i64 x19, .int .i64 x20, .int .i64 x21, .int .i64 x22, .int .i64 x23, .int .i64 x24]) (.int .i64 0)).run Tryz.prog w = .ok (.agg #[.int .i64 x0, .int .i64 x1, .int .i64 x2, .int .i64 x3, .int .i64 x4]) w := by kernel_rfl
@[go_sem] theorem ix64_1 (x0 x1 x2 x3 x4 x5 x6 x7 x8 x9 x10 x11 x12 x13 x14 x15 x16 x17 x18 x19 x20 x21 x22 x23 x24 : Int) (w : World) : (Instr.index 77 (.agg #[.int .i64 x0, .int .i64 x1, .int .i64 x2, .int .i64 x3, .int .i64 x4, .int .i64 x5, .int .i64 x6, .int .i64 x7, .int .i64 x8, .int .i64 x9, .int .i64 x10, .int .i64 x11, .int .i64 x12, .int .i64 x13, .int .i64 x14, .int .i64 x15, .int .i64 x16, .int .i64 x17, .int .i64 x18, .int .i64 x19, .int .i64 x20, .int .i64 x21, .int .i64 x22, .int .i64 x23, .int .i64 x24]) (.int .i64 1)).run Tryz.prog w = .ok (.agg #[.int .i64 x5, .int .i64 x6, .int .i64 x7, .int .i64 x8, .int .i64 x9]) w := by kernel_rfl
@[go_sem] theorem ix64_2 (x0 x1 x2 x3 x4 x5 x6 x7 x8 x9 x10 x11 x12 x13 x14 x15 x16 x17 x18 x19 x20 x21 x22 x23 x24 : Int) (w : World) : (Instr.index 77 (.agg #[.int .i64 x0, .int .i64 x1, .int .i64 x2, .int .i64 x3, .int .i64 x4, .int .i64 x5, .int .i64 x6, .int .i64 x7, .int .i64 x8, .int .i64 x9, .int .i64 x10, .int .i64 x11, .int .i64 x12, .int .i64 x13, .int .i64 x14, .int .i64 x15, .int .i64 x16, .int .i64 x17, .int .i64 x18, .int .i64 x19, .int .i64 x20, .int .i64 x21, .int .i64 x22, .int .i64 x23, .int .i64 x24]) (.int .i64 2)).run Tryz.prog w = .ok (.agg #[.int .i64 x10, .int .i64 x11, .int .i64 x12, .int .i64 x13, .int .i64 x14]) w := by kernel_rfl
@[go_sem] theorem ix64_3 (x0 x1 x2 x3 x4 x5 x6 x7 x8 x9 x10 x11 x12 x13 x14 x15 x16 x17 x18 x19 x20 x21 x22 x23 x24 : Int) (w : World) : (Instr.index 77 (.agg #[.int .i64 x0, .int .i64 x1, .int .i64 x2, .int .i64 x3, .int .i64 x4, .int .i64 x5, .int .i64 x6, .int .i64 x7, .int .i64 x8, .int .i64 x9, .int .i64 x10, .int .i64 x11, .int .i64 x12, .int .i64 x13, .int .i64 x14, .int .i64 x15, .int .i64 x16, .int .i64 x17, .int .i64 x18, .int .i64 x19, .int .i64 x20, .int .i64 x21, .int .i64 x22, .int .i64 x23, .int .i64 x24]) (.int .i64 3)).run Tryz.prog w = .ok (.agg #[.int .i64 x15, .int .i64 x16, .int .i64 x17, .int .i64 x18, .int .i64 x19]) w := by kernel_rfl
@[go_sem] theorem ix64_4 (x0 x1 x2 x3 x4 x5 x6 x7 x8 x9 x10 x11 x12 x13 x14 x15 x16 x17 x18 x19 x20 x21 x22 x23 x24 : Int) (w : World) : (Instr.index 77 (.agg #[.int .i64 x0, .int .i64 x1, .int .i64 x2, .int .i64 x3, .int .i64 x4, .int .i64 x5, .int .i64 x6, .int .i64 x7, .int .i64 x8, .int .i64 x9, .int .i64 x10, .int .i64 x11, .int .i64 x12, .int .i64 x13, .int .i64 x14, .int .i64 x15, .int .i64 x16, .int .i64 x17, .int .i64 x18, .int .i64 x19, .int .i64 x20, .int .i64 x21, .int .i64 x22, .int .i64 x23, .int .i64 x24]) (.int .i64 4)).run Tryz.prog w = .ok (.agg #[.int .i64 x20, .int .i64 x21, .int .i64 x22, .int .i64 x23, .int .i64 x24]) w := by kernel_rfl
theorem IsMap.rows {w : World} {N : Nat} {c : Cfg} (h : IsMap w N c) : w.rangeAt N 37 [.int .i64 (at50 c), .int .i64 (1), .int .i64 (c.a), .int .i64 (4), .int .i64 (1), .int .i64 (at51 c), .int .i64 (1 + c.a), .int .i64 (c.b), .int .i64 (4), .int .i64 (2), .int .i64 (at52 c), .int .i64 (1 + c.a + c.b), .int .i64 (c.c), .int .i64 (4), .int .i64 (4), .int .i64 (at53 c), .int .i64 (1 + c.a + c.b + c.c), .int .i64 (c.d), .int .i64 (4), .int .i64 (8), .int .i64 (at54 c), .int .i64 (1 + c.a + c.b + c.c + c.d), .int .i64 (c.e), .int .i64 (4), .int .i64 (16)] := fun j v hj => by
  match j, hj with
  | 0, hj => injection hj with hj; rw [← hj]; exact h.2 37 (by decide)
  | 1, hj => injection hj with hj; rw [← hj]; exact h.2 38 (by decide)
  | 2, hj => injection hj with hj; rw [← hj]; exact h.2 39 (by decide)
  | 3, hj => injection hj with hj; rw [← hj]; exact h.2 40 (by decide)
  | 4, hj => injection hj with hj; rw [← hj]; exact h.2 41 (by decide)
  | 5, hj => injection hj with hj; rw [← hj]; exact h.2 42 (by decide)
  | 6, hj => injection hj with hj; rw [← hj]; exact h.2 43 (by decide)
  | 7, hj => injection hj with hj; rw [← hj]; exact h.2 44 (by decide)
  | 8, hj => injection hj with hj; rw [← hj]; exact h.2 45 (by decide)
  | 9, hj => injection hj with hj; rw [← hj]; exact h.2 46 (by decide)
  | 10, hj => injection hj with hj; rw [← hj]; exact h.2 47 (by decide)
  | 11, hj => injection hj with hj; rw [← hj]; exact h.2 48 (by decide)
  | 12, hj => injection hj with hj; rw [← hj]; exact h.2 49 (by decide)
  | 13, hj => injection hj with hj; rw [← hj]; exact h.2 50 (by decide)
  | 14, hj => injection hj with hj; rw [← hj]; exact h.2 51 (by decide)
  | 15, hj => injection hj with hj; rw [← hj]; exact h.2 52 (by decide)
  | 16, hj => injection hj with hj; rw [← hj]; exact h.2 53 (by decide)
  | 17, hj => injection hj with hj; rw [← hj]; exact h.2 54 (by decide)
  | 18, hj => injection hj with hj; rw [← hj]; exact h.2 55 (by decide)
  | 19, hj => injection hj with hj; rw [← hj]; exact h.2 56 (by decide)
  | 20, hj => injection hj with hj; rw [← hj]; exact h.2 57 (by decide)
  | 21, hj => injection hj with hj; rw [← hj]; exact h.2 58 (by decide)
  | 22, hj => injection hj with hj; rw [← hj]; exact h.2 59 (by decide)
  | 23, hj => injection hj with hj; rw [← hj]; exact h.2 60 (by decide)
  | 24, hj => injection hj with hj; rw [← hj]; exact h.2 61 (by decide)
theorem single_pos (c : Cfg) (j : Int) (h0 : 0 ≤ j) (h1 : j ≤ 5) : plcc c j 0 0 = j := by
  rw [← plc_single c j h0 h1]; unfold wordL; rw [if_pos (by omega)]; omega
theorem head_pos {c : Cfg} (hc : OkC c) (k : Int) (h0 : 0 ≤ k) (h1 : k < 5) : 0 ≤ plcc c 7 k 0 := by
  have := hc.u0
  rw [← plc_head hc k]; unfold wordL; rw [if_pos (by omega)]; unfold at2; omega
theorem node_pos {c : Cfg} (hc : OkC c) (j v : Int) (h0 : 0 ≤ j) (h3 : j ≤ 3) (h1 : 1 ≤ v) (h2 : v ≤ nodesN c) : 0 ≤ plcc c (14 + j) v 0 := by
  rw [← plc_node hc v j h0 h3, node_at hc, if_pos ⟨h1, h2⟩]; omega
theorem norm_0 (k : Int) (h0 : 0 ≤ k) (h18 : k ≤ 18) : Norm ⟨k, 0, 0⟩ := ⟨h0, h18, fun _ => rfl, fun _ _ _ => rfl⟩
theorem FS.bel {B G n : Nat} {w0 wr : World} {L : List Int} (h : FS B G n w0 wr L) : Below B w0 wr := h.2
def SomeF (c : Cfg) (w : World) (en : Ending) (w' : World) : Prop :=
  ∃ (G n : Nat) (L : List Int), en = .returned (.slice (some ⟨G, 0, none⟩) n n) ∧ n = lenL (shOf c) ∧ L.length = n ∧ (∀ i, i < n → w'.cell? ⟨G, i, none⟩ = some (.int .u64 (L.getD i 0))) ∧ G < w'.heap.size ∧ Rep (shOf c) L (firstV c) ∧ Below w.heap.size w w'
set_option maxHeartbeats 8000000 in
set_option maxRecDepth 100000 in
theorem first_m {c : Cfg} (hc : OkC c) (N : Nat) (w : World) (hm : IsMap w N c) : Calls Tryz.prog 11 #[mapP N] w (SomeF c w) := by
  have hb := bds hc
  obtain ⟨n, hn⟩ : ∃ n : Nat, n = lenL (shOf c) := ⟨_, rfl⟩
  have hnc : (n : Int) = at55 c := by rw [hn]; exact lenL_eq hc
  have hn1 : 0 < n := by have := hb.t55; have := hb.t50; omega
  have hn7 : n ≤ 7000 := by have := hb.t55'; omega
  have hn0 : ((n : Int) == 0) = false := by rw [beq_eq_false_iff_ne]; omega
  obtain ⟨i0, hi, hz0, hz1, hz2⟩ := info_parts info54
  have HN := Lib.hid hnc.symm
  have HNL := Lib.hid hn
  have H := Lib.hid hc
  have HM := Lib.hid hm
  have HB := Below.refl w.heap.size w
  have hmf : ∀ (fn : Fn) (first cap : Array Value) (w : World), (Instr.makeFunc fn first cap).run Tryz.prog w = .ok (.func fn first cap) w := fun _ _ _ _ => rfl
  obtain ⟨C, hC⟩ : ∃ C, C = nodesN c := ⟨_, rfl⟩
  have hC1 : 1 ≤ C := by rw [hC]; exact hb.n0
  have hC2 : C ≤ 60 := by rw [hC]; exact hb.n1
  have hwf := wf_i64 (v := C) (by omega) (by omega)
  have p15 : 0 ≤ plcc c 15 C 0 := by rw [hC]; exact node_pos hc 1 _ (by decide) (by decide) hb.n0 (Int.le_refl _)
  have p14 : 0 ≤ plcc c 14 C 0 := by rw [hC]; exact node_pos hc 0 _ (by decide) (by decide) hb.n0 (Int.le_refl _)
  obtain ⟨q15, hq15⟩ : ∃ q : Nat, plcc c 15 C 0 = (q : Int) := ⟨(plcc c 15 C 0).toNat, by omega⟩
  obtain ⟨q14, hq14⟩ : ∃ q : Nat, plcc c 14 C 0 = (q : Int) := ⟨(plcc c 14 C 0).toNat, by omega⟩
  have l15 : q15 < n := by have := plc_lt (s := shOf c) (t := ⟨15, C, 0⟩) (norm_k _ _ (by decide) (by decide)) p15; rw [show plc (shOf c) ⟨15, C, 0⟩ = (q15 : Int) from hq15] at this; omega
  have l14 : q14 < n := by have := plc_lt (s := shOf c) (t := ⟨14, C, 0⟩) (norm_k _ _ (by decide) (by decide)) p14; rw [show plc (shOf c) ⟨14, C, 0⟩ = (q14 : Int) from hq14] at this; omega
  have hS := slots_bd (kindV c C)
  obtain ⟨hS0, hS1⟩ := hS
  have hcvS : IntKind.u64.wrap (slotsOf (kindV c C)) = slotsOf (kindV c C) := by rw [IntKind.wrap_u64]; omega
  have R0 : Rep (shOf c) (List.replicate n 0) (fun _ => 0) := by rw [hn]; exact Rep.zero _
  have R1 : Rep (shOf c) ((List.replicate n 0).set q15 1) (fun u => if isTh u ⟨15, C, 0⟩ then 1 else 0) :=
    R0.set (norm_k _ _ (by decide) (by decide)) hq15 (if_pos ⟨rfl, rfl, rfl⟩) (fun u _ hne => if_neg (fun e => hne (isTh_eq e)))
  have R2 : Rep (shOf c) (((List.replicate n 0).set q15 1).set q14 (slotsOf (kindV c C))) (baseV c) :=
    R1.set (norm_k _ _ (by decide) (by decide)) hq14 (by unfold baseV; rw [← hC]; exact if_pos ⟨rfl, rfl, rfl⟩) (fun u _ hne => by unfold baseV; rw [← hC]; exact if_neg (fun e => hne (isTh_eq e)))
  have HR2 := Lib.hid R2
  have Q15 := Lib.hid hq15; have Q14 := Lib.hid hq14; have HC := Lib.hid hC; have HWF := Lib.hid hwf
  have e15 : (0 : Int) ≤ (q15 : Int) ∧ (q15 : Int) < (n : Int) := by omega
  have e14 : (0 : Int) ≤ (q14 : Int) ∧ (q14 : Int) < (n : Int) := by omega
  obtain ⟨e15a, e15b⟩ := e15
  obtain ⟨e14a, e14b⟩ := e14
  clear hnc hn hb p15 p14 hq15 hq14 R0 R1 R2 hwf hC
  clear hc hm
  go_enter Tryz.func11, Tryz.ntmps11
  go_wp2_with (first
    | (go_at_call 26; (with_reducible refine (len_m H.out _ _ HM.out).mono ?_); rintro r w1 ⟨rfl, hb1⟩; rw [HN.out]; have HM := Lib.hid (HM.out.below hb1); have HB := below_then HB hb1; clear hb1)
    | (at_make; refine wpList_make_full _ rfl _ _ 33 rfl (World.heap _).size 39 i0 (.int .u64 0) 1 Tryz.underlying33 hi hz0 hz1 .i64 .i64 _ _ n rfl rfl rfl rfl (by rw [hz2]; omega) (by unfold maxLen; omega) (Nat.le_refl _) ?_)
    | fail)
  intro w4 hown hgrow
  have hfs : FS w1.heap.size w1.heap.size n w1 w4 (List.replicate n 0) := ⟨by simpa [toList_madeCells_one, Value.cells] using hown, (Below.refl _ _).grown hgrow (Nat.le_refl _) (fun k hk => by cases hk)⟩
  have HF := Lib.hid hfs
  have hNG : N ≠ w1.heap.size := by have := HM.out.1; omega
  have HNL2 := Lib.hid (show N < w1.heap.size from HM.out.1)
  clear hown hgrow hfs hi hz0 hz1 hz2
  go_upto_region 7 with (first
    | (go_at_call 46; (with_reducible refine (common_m H.out _ _ (HM.out.belowB HF.out.bel HNL2.out)).mono ?_); rintro r w5 ⟨rfl, hb5⟩; rw [← HC.out]; have HF := Lib.hid (HF.out.step (Nat.le_refl _) hb5); clear hb5)
    | (go_at_call 47; (with_reducible refine (state_m H.out _ _ HWF.out _ (HM.out.belowB HF.out.bel HNL2.out)).mono ?_); rintro r w6 ⟨rfl, hb6⟩; rw [Q15.out]; have HF := Lib.hid (HF.out.step (Nat.le_refl _) hb6); obtain ⟨g15, f15⟩ := HF.out.cell q15 l15 (by simp); have HF := Lib.hid (HF.out.set (Nat.le_refl _) q15 1); clear hb6)
    | (go_at_call 48; (with_reducible refine (header_m H.out _ _ HWF.out _ (HM.out.belowB HF.out.bel HNL2.out)).mono ?_); rintro r w7 ⟨rfl, hb7⟩; rw [Q14.out]; have HF := Lib.hid (HF.out.step (Nat.le_refl _) hb7); clear hb7)
    | (go_at_call 22; (with_reducible refine (room_m _ _ _ (HM.out.belowB HF.out.bel HNL2.out)).mono ?_); rintro r w8 ⟨rfl, hb8⟩; have HF := Lib.hid (HF.out.step (Nat.le_refl _) hb8); obtain ⟨g14, f14⟩ := HF.out.cell q14 l14 (by simp); have HF := Lib.hid (HF.out.set (Nat.le_refl _) q14 (slotsOf (kindV c C))); clear hb8)
    | fail)
  have HRA := Lib.hid (HM.out.belowB HF.out.bel HNL2.out).rows
  go_wp2_with (first
    | (refine wpList_load_mid rfl 77 _ rfl N 37 rfl _ _ HRA.out Tryz.underlying77 rfl (by kernel_rfl) ?_)
    | fail)
  obtain ⟨a0, a1, b0, b1, c0, c1, d0, d1, e0, e1, s0, k0, k1, u0, u1, q0, q1, h0, h1, f0, f1, r0, r1, y0, y1⟩ := H.out
  clear s0 k0 k1 u0 u1 q0 q1 h0 h1 f0 f1 r0 r1 y0 y1
  go_loopw [34] (fun i wr => ∃ (k : Nat) (L : List Int), k ≤ 5 ∧ i = .int .i64 (k : Int) ∧ FS w1.heap.size w1.heap.size n w1 wr L ∧ Rep (shOf c) L (VV c k)) (fun i _ => 5 - (intOf i).toNat)
  case atStart => exact ⟨0, _, by omega, rfl, HF.out, HR2.out⟩
  case round =>
    clear HF HR2 HRA
    obtain ⟨k, L, hk, rfl, hfs, hR⟩ := hrel
    by_cases hlt : k < 5
    · have k5 : k = 0 ∨ k = 1 ∨ k = 2 ∨ k = 3 ∨ k = 4 := by omega
      rcases k5 with rfl | rfl | rfl | rfl | rfl
      · have hq := head_pos H.out 0 (by decide) (by decide)
        obtain ⟨qh, hqh⟩ : ∃ q : Nat, plcc c 7 0 0 = (q : Int) := ⟨(plcc c 7 0 0).toNat, by omega⟩
        have QH := Lib.hid hqh
        have hi1 : -1 ≤ imin (1 + c.a) C - 1 ∧ imin (1 + c.a) C - 1 ≤ C := by unfold imin; omega
        obtain ⟨hi2, hi3⟩ := hi1
        have hi4 : imin (1 + c.a) C - 1 ≤ nodesN c := by rw [← HC.out]; exact hi3
        have HI4 := Lib.hid hi4
        have hwr : IntKind.i64.wrap (imin (1 + c.a) C - 1) = imin (1 + c.a) C - 1 := IntWalk.i64_in _ (by omega)
        have HR := Lib.hid hR
        have hfr := hfs.step (Nat.le_refl _) ((below_alloc0 (Below.refl _ _) (.cells #[.int .i64 (at50 c), .int .i64 (1), .int .i64 (c.a), .int .i64 (4), .int .i64 (1)] 76)).drew)
        have HFR := Lib.hid hfr
        have HS0 : Hid ((wr.alloc (.cells #[.int .i64 (at50 c), .int .i64 (1), .int .i64 (c.a), .int .i64 (4), .int .i64 (1)] 76)).drew.cell? ⟨wr.heap.size, 1, none⟩ = some (.int .i64 (1)) ∧ wr.heap.size < (wr.alloc (.cells #[.int .i64 (at50 c), .int .i64 (1), .int .i64 (c.a), .int .i64 (4), .int .i64 (1)] 76)).drew.heap.size) := Lib.hid ⟨(World.cell?_alloc_at _ _ _ _ rfl).trans rfl, by simp⟩
        have hGr : wr.heap.size ≠ w1.heap.size := by have := hfs.1.lt _ rfl; omega
        clear hq hqh hfs hR hfr hi4 hk hlt
        go_wp2_with (fail)
        go_region_held3 (fun w' => w'.cell? ⟨wr.heap.size, 1, none⟩ = some (.int .i64 (1)) ∧ wr.heap.size < w'.heap.size)
          (first | exact HS0.out | exact hs5 | exact hs6 | fail)
          (first
            | (go_at_call 50; (with_reducible refine (head_m H.out _ _ (by decide) _ (HM.out.belowB HFR.out.bel HNL2.out)).mono ?_); rintro r w5 ⟨rfl, hb5⟩; rw [QH.out]; have HF5 := Lib.hid (HFR.out.step (Nat.le_refl _) hb5); have hs5 := And.intro ((hb5.cell (p := ⟨wr.heap.size, 1, none⟩) HS0.out.2).trans HS0.out.1) (Nat.lt_of_lt_of_le HS0.out.2 hb5.size))
            | (go_at_call 49; (with_reducible refine (stack_next H.out N _ n _ w1 _ L (VV c 0) qh ⟨7, 0, 0⟩ _ _ QH.out (norm_k 7 0 (by decide) (by decide)) (by decide) (by omega) (by omega) HI4.out hi2 HF5.out (Nat.le_refl _) HNL2.out HM.out HR.out HNL.out).mono ?_); rintro r w6 ⟨rfl, L6, hfs6, hR6, hkp6⟩; have HF6 := Lib.hid hfs6; have hs6 := And.intro ((hkp6.2 wr.heap.size 1 hs5.2 hGr).trans hs5.1) (Nat.lt_of_lt_of_le hs5.2 hkp6.1); rw [HC.out] at hR6; have HR6 : Hid (Rep (shOf c) L6 (VV c 1)) := Lib.hid hR6)
            | fail)
        all_goals go_wp2_with (fail)
        all_goals go_roundw
        case rel => exact ⟨1, _, by decide, by go_num, HF6.out, HR6.out⟩
        case measure => simp [intOf]
        case rel => exact ⟨1, _, by decide, by go_num, HF6.out, HR6.out⟩
        case measure => simp [intOf]
      · have hq := head_pos H.out 1 (by decide) (by decide)
        obtain ⟨qh, hqh⟩ : ∃ q : Nat, plcc c 7 1 0 = (q : Int) := ⟨(plcc c 7 1 0).toNat, by omega⟩
        have QH := Lib.hid hqh
        have hi1 : -1 ≤ imin (1 + c.a + c.b) C - 1 ∧ imin (1 + c.a + c.b) C - 1 ≤ C := by unfold imin; omega
        obtain ⟨hi2, hi3⟩ := hi1
        have hi4 : imin (1 + c.a + c.b) C - 1 ≤ nodesN c := by rw [← HC.out]; exact hi3
        have HI4 := Lib.hid hi4
        have hwr : IntKind.i64.wrap (imin (1 + c.a + c.b) C - 1) = imin (1 + c.a + c.b) C - 1 := IntWalk.i64_in _ (by omega)
        have HR := Lib.hid hR
        have hfr := hfs.step (Nat.le_refl _) ((below_alloc0 (Below.refl _ _) (.cells #[.int .i64 (at51 c), .int .i64 (1 + c.a), .int .i64 (c.b), .int .i64 (4), .int .i64 (2)] 76)).drew)
        have HFR := Lib.hid hfr
        have HS0 : Hid ((wr.alloc (.cells #[.int .i64 (at51 c), .int .i64 (1 + c.a), .int .i64 (c.b), .int .i64 (4), .int .i64 (2)] 76)).drew.cell? ⟨wr.heap.size, 1, none⟩ = some (.int .i64 (1 + c.a)) ∧ wr.heap.size < (wr.alloc (.cells #[.int .i64 (at51 c), .int .i64 (1 + c.a), .int .i64 (c.b), .int .i64 (4), .int .i64 (2)] 76)).drew.heap.size) := Lib.hid ⟨(World.cell?_alloc_at _ _ _ _ rfl).trans rfl, by simp⟩
        have hGr : wr.heap.size ≠ w1.heap.size := by have := hfs.1.lt _ rfl; omega
        clear hq hqh hfs hR hfr hi4 hk hlt
        go_wp2_with (fail)
        go_region_held3 (fun w' => w'.cell? ⟨wr.heap.size, 1, none⟩ = some (.int .i64 (1 + c.a)) ∧ wr.heap.size < w'.heap.size)
          (first | exact HS0.out | exact hs5 | exact hs6 | fail)
          (first
            | (go_at_call 50; (with_reducible refine (head_m H.out _ _ (by decide) _ (HM.out.belowB HFR.out.bel HNL2.out)).mono ?_); rintro r w5 ⟨rfl, hb5⟩; rw [QH.out]; have HF5 := Lib.hid (HFR.out.step (Nat.le_refl _) hb5); have hs5 := And.intro ((hb5.cell (p := ⟨wr.heap.size, 1, none⟩) HS0.out.2).trans HS0.out.1) (Nat.lt_of_lt_of_le HS0.out.2 hb5.size))
            | (go_at_call 49; (with_reducible refine (stack_next H.out N _ n _ w1 _ L (VV c 1) qh ⟨7, 1, 0⟩ _ _ QH.out (norm_k 7 1 (by decide) (by decide)) (by decide) (by omega) (by omega) HI4.out hi2 HF5.out (Nat.le_refl _) HNL2.out HM.out HR.out HNL.out).mono ?_); rintro r w6 ⟨rfl, L6, hfs6, hR6, hkp6⟩; have HF6 := Lib.hid hfs6; have hs6 := And.intro ((hkp6.2 wr.heap.size 1 hs5.2 hGr).trans hs5.1) (Nat.lt_of_lt_of_le hs5.2 hkp6.1); rw [HC.out] at hR6; have HR6 : Hid (Rep (shOf c) L6 (VV c 2)) := Lib.hid hR6)
            | fail)
        all_goals go_wp2_with (fail)
        all_goals go_roundw
        case rel => exact ⟨2, _, by decide, by go_num, HF6.out, HR6.out⟩
        case measure => simp [intOf]
        case rel => exact ⟨2, _, by decide, by go_num, HF6.out, HR6.out⟩
        case measure => simp [intOf]
      · have hq := head_pos H.out 2 (by decide) (by decide)
        obtain ⟨qh, hqh⟩ : ∃ q : Nat, plcc c 7 2 0 = (q : Int) := ⟨(plcc c 7 2 0).toNat, by omega⟩
        have QH := Lib.hid hqh
        have hi1 : -1 ≤ imin (1 + c.a + c.b + c.c) C - 1 ∧ imin (1 + c.a + c.b + c.c) C - 1 ≤ C := by unfold imin; omega
        obtain ⟨hi2, hi3⟩ := hi1
        have hi4 : imin (1 + c.a + c.b + c.c) C - 1 ≤ nodesN c := by rw [← HC.out]; exact hi3
        have HI4 := Lib.hid hi4
        have hwr : IntKind.i64.wrap (imin (1 + c.a + c.b + c.c) C - 1) = imin (1 + c.a + c.b + c.c) C - 1 := IntWalk.i64_in _ (by omega)
        have HR := Lib.hid hR
        have hfr := hfs.step (Nat.le_refl _) ((below_alloc0 (Below.refl _ _) (.cells #[.int .i64 (at52 c), .int .i64 (1 + c.a + c.b), .int .i64 (c.c), .int .i64 (4), .int .i64 (4)] 76)).drew)
        have HFR := Lib.hid hfr
        have HS0 : Hid ((wr.alloc (.cells #[.int .i64 (at52 c), .int .i64 (1 + c.a + c.b), .int .i64 (c.c), .int .i64 (4), .int .i64 (4)] 76)).drew.cell? ⟨wr.heap.size, 1, none⟩ = some (.int .i64 (1 + c.a + c.b)) ∧ wr.heap.size < (wr.alloc (.cells #[.int .i64 (at52 c), .int .i64 (1 + c.a + c.b), .int .i64 (c.c), .int .i64 (4), .int .i64 (4)] 76)).drew.heap.size) := Lib.hid ⟨(World.cell?_alloc_at _ _ _ _ rfl).trans rfl, by simp⟩
        have hGr : wr.heap.size ≠ w1.heap.size := by have := hfs.1.lt _ rfl; omega
        clear hq hqh hfs hR hfr hi4 hk hlt
        go_wp2_with (fail)
        go_region_held3 (fun w' => w'.cell? ⟨wr.heap.size, 1, none⟩ = some (.int .i64 (1 + c.a + c.b)) ∧ wr.heap.size < w'.heap.size)
          (first | exact HS0.out | exact hs5 | exact hs6 | fail)
          (first
            | (go_at_call 50; (with_reducible refine (head_m H.out _ _ (by decide) _ (HM.out.belowB HFR.out.bel HNL2.out)).mono ?_); rintro r w5 ⟨rfl, hb5⟩; rw [QH.out]; have HF5 := Lib.hid (HFR.out.step (Nat.le_refl _) hb5); have hs5 := And.intro ((hb5.cell (p := ⟨wr.heap.size, 1, none⟩) HS0.out.2).trans HS0.out.1) (Nat.lt_of_lt_of_le HS0.out.2 hb5.size))
            | (go_at_call 49; (with_reducible refine (stack_next H.out N _ n _ w1 _ L (VV c 2) qh ⟨7, 2, 0⟩ _ _ QH.out (norm_k 7 2 (by decide) (by decide)) (by decide) (by omega) (by omega) HI4.out hi2 HF5.out (Nat.le_refl _) HNL2.out HM.out HR.out HNL.out).mono ?_); rintro r w6 ⟨rfl, L6, hfs6, hR6, hkp6⟩; have HF6 := Lib.hid hfs6; have hs6 := And.intro ((hkp6.2 wr.heap.size 1 hs5.2 hGr).trans hs5.1) (Nat.lt_of_lt_of_le hs5.2 hkp6.1); rw [HC.out] at hR6; have HR6 : Hid (Rep (shOf c) L6 (VV c 3)) := Lib.hid hR6)
            | fail)
        all_goals go_wp2_with (fail)
        all_goals go_roundw
        case rel => exact ⟨3, _, by decide, by go_num, HF6.out, HR6.out⟩
        case measure => simp [intOf]
        case rel => exact ⟨3, _, by decide, by go_num, HF6.out, HR6.out⟩
        case measure => simp [intOf]
      · have hq := head_pos H.out 3 (by decide) (by decide)
        obtain ⟨qh, hqh⟩ : ∃ q : Nat, plcc c 7 3 0 = (q : Int) := ⟨(plcc c 7 3 0).toNat, by omega⟩
        have QH := Lib.hid hqh
        have hi1 : -1 ≤ imin (1 + c.a + c.b + c.c + c.d) C - 1 ∧ imin (1 + c.a + c.b + c.c + c.d) C - 1 ≤ C := by unfold imin; omega
        obtain ⟨hi2, hi3⟩ := hi1
        have hi4 : imin (1 + c.a + c.b + c.c + c.d) C - 1 ≤ nodesN c := by rw [← HC.out]; exact hi3
        have HI4 := Lib.hid hi4
        have hwr : IntKind.i64.wrap (imin (1 + c.a + c.b + c.c + c.d) C - 1) = imin (1 + c.a + c.b + c.c + c.d) C - 1 := IntWalk.i64_in _ (by omega)
        have HR := Lib.hid hR
        have hfr := hfs.step (Nat.le_refl _) ((below_alloc0 (Below.refl _ _) (.cells #[.int .i64 (at53 c), .int .i64 (1 + c.a + c.b + c.c), .int .i64 (c.d), .int .i64 (4), .int .i64 (8)] 76)).drew)
        have HFR := Lib.hid hfr
        have HS0 : Hid ((wr.alloc (.cells #[.int .i64 (at53 c), .int .i64 (1 + c.a + c.b + c.c), .int .i64 (c.d), .int .i64 (4), .int .i64 (8)] 76)).drew.cell? ⟨wr.heap.size, 1, none⟩ = some (.int .i64 (1 + c.a + c.b + c.c)) ∧ wr.heap.size < (wr.alloc (.cells #[.int .i64 (at53 c), .int .i64 (1 + c.a + c.b + c.c), .int .i64 (c.d), .int .i64 (4), .int .i64 (8)] 76)).drew.heap.size) := Lib.hid ⟨(World.cell?_alloc_at _ _ _ _ rfl).trans rfl, by simp⟩
        have hGr : wr.heap.size ≠ w1.heap.size := by have := hfs.1.lt _ rfl; omega
        clear hq hqh hfs hR hfr hi4 hk hlt
        go_wp2_with (fail)
        go_region_held3 (fun w' => w'.cell? ⟨wr.heap.size, 1, none⟩ = some (.int .i64 (1 + c.a + c.b + c.c)) ∧ wr.heap.size < w'.heap.size)
          (first | exact HS0.out | exact hs5 | exact hs6 | fail)
          (first
            | (go_at_call 50; (with_reducible refine (head_m H.out _ _ (by decide) _ (HM.out.belowB HFR.out.bel HNL2.out)).mono ?_); rintro r w5 ⟨rfl, hb5⟩; rw [QH.out]; have HF5 := Lib.hid (HFR.out.step (Nat.le_refl _) hb5); have hs5 := And.intro ((hb5.cell (p := ⟨wr.heap.size, 1, none⟩) HS0.out.2).trans HS0.out.1) (Nat.lt_of_lt_of_le HS0.out.2 hb5.size))
            | (go_at_call 49; (with_reducible refine (stack_next H.out N _ n _ w1 _ L (VV c 3) qh ⟨7, 3, 0⟩ _ _ QH.out (norm_k 7 3 (by decide) (by decide)) (by decide) (by omega) (by omega) HI4.out hi2 HF5.out (Nat.le_refl _) HNL2.out HM.out HR.out HNL.out).mono ?_); rintro r w6 ⟨rfl, L6, hfs6, hR6, hkp6⟩; have HF6 := Lib.hid hfs6; have hs6 := And.intro ((hkp6.2 wr.heap.size 1 hs5.2 hGr).trans hs5.1) (Nat.lt_of_lt_of_le hs5.2 hkp6.1); rw [HC.out] at hR6; have HR6 : Hid (Rep (shOf c) L6 (VV c 4)) := Lib.hid hR6)
            | fail)
        all_goals go_wp2_with (fail)
        all_goals go_roundw
        case rel => exact ⟨4, _, by decide, by go_num, HF6.out, HR6.out⟩
        case measure => simp [intOf]
        case rel => exact ⟨4, _, by decide, by go_num, HF6.out, HR6.out⟩
        case measure => simp [intOf]
      · have hq := head_pos H.out 4 (by decide) (by decide)
        obtain ⟨qh, hqh⟩ : ∃ q : Nat, plcc c 7 4 0 = (q : Int) := ⟨(plcc c 7 4 0).toNat, by omega⟩
        have QH := Lib.hid hqh
        have hi1 : -1 ≤ imin (1 + c.a + c.b + c.c + c.d + c.e) C - 1 ∧ imin (1 + c.a + c.b + c.c + c.d + c.e) C - 1 ≤ C := by unfold imin; omega
        obtain ⟨hi2, hi3⟩ := hi1
        have hi4 : imin (1 + c.a + c.b + c.c + c.d + c.e) C - 1 ≤ nodesN c := by rw [← HC.out]; exact hi3
        have HI4 := Lib.hid hi4
        have hwr : IntKind.i64.wrap (imin (1 + c.a + c.b + c.c + c.d + c.e) C - 1) = imin (1 + c.a + c.b + c.c + c.d + c.e) C - 1 := IntWalk.i64_in _ (by omega)
        have HR := Lib.hid hR
        have hfr := hfs.step (Nat.le_refl _) ((below_alloc0 (Below.refl _ _) (.cells #[.int .i64 (at54 c), .int .i64 (1 + c.a + c.b + c.c + c.d), .int .i64 (c.e), .int .i64 (4), .int .i64 (16)] 76)).drew)
        have HFR := Lib.hid hfr
        have HS0 : Hid ((wr.alloc (.cells #[.int .i64 (at54 c), .int .i64 (1 + c.a + c.b + c.c + c.d), .int .i64 (c.e), .int .i64 (4), .int .i64 (16)] 76)).drew.cell? ⟨wr.heap.size, 1, none⟩ = some (.int .i64 (1 + c.a + c.b + c.c + c.d)) ∧ wr.heap.size < (wr.alloc (.cells #[.int .i64 (at54 c), .int .i64 (1 + c.a + c.b + c.c + c.d), .int .i64 (c.e), .int .i64 (4), .int .i64 (16)] 76)).drew.heap.size) := Lib.hid ⟨(World.cell?_alloc_at _ _ _ _ rfl).trans rfl, by simp⟩
        have hGr : wr.heap.size ≠ w1.heap.size := by have := hfs.1.lt _ rfl; omega
        clear hq hqh hfs hR hfr hi4 hk hlt
        go_wp2_with (fail)
        go_region_held3 (fun w' => w'.cell? ⟨wr.heap.size, 1, none⟩ = some (.int .i64 (1 + c.a + c.b + c.c + c.d)) ∧ wr.heap.size < w'.heap.size)
          (first | exact HS0.out | exact hs5 | exact hs6 | fail)
          (first
            | (go_at_call 50; (with_reducible refine (head_m H.out _ _ (by decide) _ (HM.out.belowB HFR.out.bel HNL2.out)).mono ?_); rintro r w5 ⟨rfl, hb5⟩; rw [QH.out]; have HF5 := Lib.hid (HFR.out.step (Nat.le_refl _) hb5); have hs5 := And.intro ((hb5.cell (p := ⟨wr.heap.size, 1, none⟩) HS0.out.2).trans HS0.out.1) (Nat.lt_of_lt_of_le HS0.out.2 hb5.size))
            | (go_at_call 49; (with_reducible refine (stack_next H.out N _ n _ w1 _ L (VV c 4) qh ⟨7, 4, 0⟩ _ _ QH.out (norm_k 7 4 (by decide) (by decide)) (by decide) (by omega) (by omega) HI4.out hi2 HF5.out (Nat.le_refl _) HNL2.out HM.out HR.out HNL.out).mono ?_); rintro r w6 ⟨rfl, L6, hfs6, hR6, hkp6⟩; have HF6 := Lib.hid hfs6; have hs6 := And.intro ((hkp6.2 wr.heap.size 1 hs5.2 hGr).trans hs5.1) (Nat.lt_of_lt_of_le hs5.2 hkp6.1); rw [HC.out] at hR6; have HR6 : Hid (Rep (shOf c) L6 (VV c 5)) := Lib.hid hR6)
            | fail)
        all_goals go_wp2_with (fail)
        all_goals go_roundw
        case rel => exact ⟨5, _, by decide, by go_num, HF6.out, HR6.out⟩
        case measure => simp [intOf]
        case rel => exact ⟨5, _, by decide, by go_num, HF6.out, HR6.out⟩
        case measure => simp [intOf]
    · have hk5 : k = 5 := by omega
      have hk6 : ¬ (k : Int) < 5 := by omega
      subst hk5
      have hq : 0 ≤ plcc c 5 0 0 := by rw [single_pos c 5 (by decide) (by decide)]; decide
      obtain ⟨qs, hqs⟩ : ∃ q : Nat, plcc c 5 0 0 = (q : Int) := ⟨(plcc c 5 0 0).toNat, by omega⟩
      have QS := Lib.hid hqs
      have HFR := Lib.hid hfs
      have HR := Lib.hid hR
      have hp0 := (bds H.out).p0
      have hp1 : -1 ≤ packN c := by omega
      have HP1 := Lib.hid hp1
      clear hq hqs hfs hR hp0 hp1 hk hlt
      go_wp2_with (first
        | (go_at_call 52; (with_reducible refine (spare_m H.out _ _ (HM.out.belowB HFR.out.bel HNL2.out)).mono ?_); rintro r w5 ⟨rfl, hb5⟩; rw [QS.out]; have HF5 := Lib.hid (HFR.out.step (Nat.le_refl _) hb5))
        | (go_at_call 54; (with_reducible refine (packets_m _ _ (HM.out.belowB HF5.out.bel HNL2.out)).mono ?_); rintro r w6 ⟨rfl, hb6⟩; have HF6 := Lib.hid (HF5.out.step (Nat.le_refl _) hb6))
        | (go_at_call 49; (with_reducible refine (stack_link H.out N _ n _ w1 _ L (VV c 5) qs ⟨5, 0, 0⟩ _ _ QS.out (norm_0 5 (by decide) (by decide)) (by decide) (by decide) (by decide) (Int.le_refl _) HP1.out HF6.out (Nat.le_refl _) HNL2.out HM.out HR.out HNL.out).mono ?_); rintro r w7 ⟨rfl, L7, hfs7, hR7, hkp7⟩; have HF7 := Lib.hid hfs7; have HR7 := Lib.hid hR7; clear hfs7 hR7 hkp7)
        | fail)
      go_ret
      have hl7 : L7.length = n := HR7.out.1.trans HNL.out.symm
      exact ⟨_, n, L7, rfl, HNL.out, hl7, fun i hi => (HF7.out.cell i hi hl7).1, (HF7.out.1.lt _ rfl).2, HR7.out, below_then HB HF7.out.bel⟩
end Go.Proofs.YthoiaffeenhfgaaGreat.Lay
