/- The law of one that pushes and pops, and two that steal, walked. -/
import Derived.Test.YtjnenpflpckimaaOnEnd
namespace Go.Proofs.Ytjnenpflpckimaa
open Go.RowKit
set_option linter.unusedVariables false
set_option linter.unusedSimpArgs false
attribute [local irreducible] runs

theorem reads_boxR (w : World) (o : Obj) (L : List Int) : Reads .u64 ((w.alloc o).alloc (.cells (L.map (Value.int .u64)).toArray 29)) (some ⟨w.heap.size + 1, 0, none⟩) L := by
  have h := (row_new (w.alloc o) L).reads
  have e : (w.alloc o).heap.size = w.heap.size + 1 := by simp
  rwa [e] at h
/-- What is known at the loop's head. -/
structure OH (TK PU V M0 M1 M2 S D E : Nat) (w wr : World) (n A : Nat) (acts : List Bool) (np i : Int) (L : List Int) (own a b : Mc) (v last nx : Int) (tk : List Int) (pu : List Bool) (p1 p2 op : Value) (z : Bool) : Prop where
  o : OL [TK, PU, V] M0 M1 M2 S D E w wr n A acts L i own a b v last nx tk pu
  r : Rws wr TK PU V tk pu p1 p2
  nd : TK ≠ PU ∧ TK ≠ V ∧ PU ≠ V
  p1 : TP p1 M1 a
  p2 : TP p2 M2 b
  due : Due own np i
  bz : z = true ↔ own.pc ≠ 0
  op : own.pc ≠ 0 → op = ptr M0
section
variable {TK PU V M0 M1 M2 S D E M : Nat} {w wr w' : World} {n A : Nat} {acts : List Bool} {np i : Int} {L : List Int} {own a b : Mc} {v last nx : Int} {tk : List Int} {pu : List Bool} {p1 p2 op : Value} {z : Bool}
theorem OH.wait (h : OH TK PU V M0 M1 M2 S D E w wr n A acts np i L own a b v last nx tk pu p1 p2 op z) (hp : own.pc = 0) : OH TK PU V M0 M1 M2 S D E w wr n A acts np (i + 1) L own a b v last nx tk pu p1 p2 op z :=
  ⟨h.o.more (by omega), h.r, h.nd, h.p1, h.p2, .no hp, h.bz, h.op⟩
end

set_option maxHeartbeats 64000000 in
set_option maxRecDepth 100000 in
theorem walkOnce (a : Int) (X : Option Addr) (A capX : Nat) (acts : List Bool) (Y : Option Addr) (np capY : Nat) (zs : List Int) (w : World) (wa : (Lit.int .u8 a).wf = true) (hx : IsBools w X A capX acts) (hz : IsRow .u8 w Y np capY zs) :
    Calls Try.prog 4 #[.int .u8 a, .slice X A capX, .slice Y np capY] w fun e w' => e = .returned (.bool true) ∧ Below w.heap.size w w' := by
  obtain ⟨hr, hrl, _, _, _, hwf⟩ := reads_row hz
  clear hz
  obtain ⟨Z, hZ⟩ : ∃ Z, Z = zs.take np := ⟨_, rfl⟩
  rw [← hZ] at hr hrl hwf
  obtain ⟨hxr, hxl, _, _⟩ := hx
  have ha : 0 ≤ a ∧ a ≤ 255 := by simp [Lit.wf, IntKind.min, IntKind.max, IntKind.bits, IntKind.signed] at wa; omega
  obtain ⟨n, hn1, hn2, hn3⟩ : ∃ n : Nat, a.tmod 4 = (n : Int) ∧ a % 4 = (n : Int) ∧ n ≤ 3 := ⟨(a % 4).toNat, by rw [Int.tmod_eq_emod_of_nonneg ha.1]; omega, by omega, by omega⟩
  have HR := Lib.hid hr; have HL := Lib.hid hrl; have HW := Lib.hid hwf; have HX := Lib.hid hxr; have HXL := Lib.hid hxl
  clear hr hwf hZ wa hrl hxr hxl
  by_cases h60 : 60 < A
  · have h60' : (60 : Int) < (A : Int) := by omega
    go_enter Try.func4, Try.ntmps4
    go_wp2_with (first
      | (go_at_call 8; (with_reducible refine (awake_any _).mono ?_); rintro r w1 ⟨rfl, hb⟩)
      | fail)
    go_ret
    exact ⟨rfl, hb⟩
  have h60' : ¬ (60 : Int) < (A : Int) := by omega
  by_cases h600 : 600 < np
  · have h600' : (600 : Int) < (np : Int) := by omega
    go_enter Try.func4, Try.ntmps4
    go_wp2_with (first
      | (go_at_call 8; (with_reducible refine (awake_any _).mono ?_); rintro r w1 ⟨rfl, hb⟩)
      | fail)
    go_ret
    exact ⟨rfl, hb⟩
  have h600' : ¬ (600 : Int) < (np : Int) := by omega
  have hmk : ∀ w : World, (Instr.makeSlice 28 (.int .i64 (2 + ((n : Int) + 1))) (.int .i64 (2 + ((n : Int) + 1)))).run Try.prog w = .ok (.slice (some ⟨w.heap.size, 0, none⟩) (n + 3) (n + 3)) (w.alloc (.cells ((List.replicate (n + 3) (0 : Int)).map (Value.int .u64)).toArray 29)) := fun w => by
    have := make_words (n + 3) w (by omega)
    rwa [show ((n + 3 : Nat) : Int) = 2 + ((n : Int) + 1) by omega] at this
  have hmi : ∀ w : World, (Instr.makeSlice 37 (.int .i64 ((A : Int) + 2)) (.int .i64 ((A : Int) + 2))).run Try.prog w = .ok (.slice (some ⟨w.heap.size, 0, none⟩) (A + 2) (A + 2)) (w.alloc (.cells ((List.replicate (A + 2) (0 : Int)).map (Value.int .i64)).toArray 3)) := fun w => make_ints (A + 2) w (by omega)
  have hmb : ∀ w : World, (Instr.makeSlice 36 (.int .i64 ((A : Int) + 2)) (.int .i64 ((A : Int) + 2))).run Try.prog w = .ok (.slice (some ⟨w.heap.size, 0, none⟩) (A + 2) (A + 2)) (w.alloc (.cells ((List.replicate (A + 2) false).map Value.bool).toArray 4)) := fun w => make_bools (A + 2) w (by omega)
  have HRB := Lib.hid (fun (w : World) => reads_boxR w (.cells #[.int .i64 0, .int .i64 1, .int .i64 2, .int .i64 ((n : Int) + 1)] 25) (List.replicate (n + 3) 0))
  have HBW := Lib.hid (fun (w w1 : World) (hb : Below w.heap.size w w1) => (show Below w.heap.size w ((w1.alloc (.cells #[.int .i64 0, .int .i64 1, .int .i64 2, .int .i64 ((n : Int) + 1)] 25)).alloc (.cells ((List.replicate (n + 3) (0 : Int)).map (Value.int .u64)).toArray 29)) from below_alloc0 (below_alloc0 hb _) _))
  have HBX := Lib.hid (fun (w1 : World) => (box_kept (box_new w1 #[.int .i64 0, .int .i64 1, .int .i64 2, .int .i64 ((n : Int) + 1)] 25) (below_al _ (.cells ((List.replicate (n + 3) (0 : Int)).map (Value.int .u64)).toArray 29))))
  have HST := Lib.hid (fun (S D E : Nat) (wr : World) (h : Ok w.heap.size S D E w wr (ek n) (List.replicate (n + 3) 0) 0) => Bg.start (A := A) h)
  obtain ⟨U1, hU1⟩ : ∃ U, U = ((List.replicate (n + 3) (0 : Int)).map (Value.int .u64)).toArray := ⟨_, rfl⟩
  obtain ⟨U2, hU2⟩ : ∃ U, U = ((List.replicate (A + 2) (0 : Int)).map (Value.int .i64)).toArray := ⟨_, rfl⟩
  obtain ⟨U3', hU3⟩ : ∃ U, U = ((List.replicate (A + 2) false).map Value.bool).toArray := ⟨_, rfl⟩
  rw [← hU1] at hmk HRB HBW HBX
  rw [← hU2] at hmi HST
  rw [← hU3] at hmb HST
  have HU : Hid (n + 3 = (List.replicate (n + 3) (0 : Int)).length) := Lib.hid (by simp)
  have hn3' : n + 3 ≤ 1000000 := by omega
  clear hU1 hU2 hU3
  go_enter Try.func4, Try.ntmps4
  go_wp2_with (first
    | (go_at_call 8; (with_reducible refine (awake_any _).mono ?_); rintro r w1 ⟨rfl, hb⟩; have HB := Lib.hid hb; clear hb)
    | (go_at_call 9; (with_reducible refine (new_any _ (n + 3) (n + 3) (List.replicate (n + 3) 0) _ HU.out (HRB.out w1) hn3').mono ?_); intro a2 w2 hk; have hz : ∃ S D, a2 = .returned (ptr S) ∧ Ok w.heap.size S D w1.heap.size w w2 (ek n) (List.replicate (n + 3) 0) 0 := Ok.start (e := ek n) (HBW.out w w1 HB.out) (Nat.le_refl _) (HBX.out w1) hk; clear hk; obtain ⟨S, D, rfl, hk⟩ := hz; have HG := Lib.hid (HST.out S D w1.heap.size w2 hk); obtain ⟨x0, x1, x2, x3⟩ := HG.out.cells; clear hk)
    | (go_at_call 12; (with_reducible refine (pop_any (ek n) _).mono ?_); intro a3 w3 hk; obtain ⟨M0, rfl, hM, hm, hb⟩ := hk; have HG0 := Lib.hid (HG.out.other hM hm hb); clear hM hm hb; obtain ⟨x0, x1, x2, x3⟩ := HG0.out.cells)
    | fail)
  have HGD := Lib.hid (HG0.out.step ((Below.refl w3.heap.size w3).drew))
  clear HG HB HRB HBW HBX HST HU
  go_region_held3 (fun w' => w'.cell? ⟨w1.heap.size, 0, none⟩ = some (.int .i64 0) ∧ w'.cell? ⟨w1.heap.size, 1, none⟩ = some (.int .i64 1) ∧ w'.cell? ⟨w1.heap.size, 2, none⟩ = some (.int .i64 2) ∧ w'.cell? ⟨w1.heap.size, 3, none⟩ = some (.int .i64 ((n : Int) + 1)))
    (first | exact HG2.out.cells | exact HG1.out.cells | exact HGD.out.cells | go_keep)
    (first
      | (go_at_call 13; (with_reducible refine (steal_any (ek n) _).mono ?_); intro a4 w4 hk; obtain ⟨M2, rfl, hM, hm, hb⟩ := hk; have HG2 := Lib.hid (HG1.out.thief hM hm hb); clear hM hm hb)
      | (go_at_call 13; (with_reducible refine (steal_any (ek n) _).mono ?_); intro a4 w4 hk; obtain ⟨M1, rfl, hM, hm, hb⟩ := hk; have HG1 := Lib.hid (HGD.out.thief hM hm hb); clear hM hm hb)
      | fail)
  obtain ⟨hol, hrw, hnd⟩ := HG2.out.two (acts := acts) (by omega) (by omega)
  obtain ⟨V, hV⟩ : ∃ V, V = w4.heap.size := ⟨_, rfl⟩
  obtain ⟨W, hW⟩ : ∃ W, W = w4.alloc (.cells #[ptr M1, ptr M2] 32) := ⟨_, rfl⟩
  rw [← hW, ← hV] at hol hrw
  rw [← hV] at hnd
  rw [← hW, ← hV]
  obtain ⟨PU, hPU⟩ : ∃ PU, PU = w2.heap.size + 1 := ⟨_, rfl⟩
  obtain ⟨TK, hTK⟩ : ∃ TK, TK = w2.heap.size := ⟨_, rfl⟩
  rw [← hPU, ← hTK] at hol hrw hnd
  rw [← hPU, ← hTK]
  obtain ⟨E, hE⟩ : ∃ E, E = w1.heap.size := ⟨_, rfl⟩
  rw [← hE] at hol
  rw [← hE]
  have HO := Lib.hid (show OH TK PU V M0 M1 M2 S D E w W n A acts np 0 _ _ _ _ 0 0 0 _ _ (ptr M1) (ptr M2) (ptr M0) false from ⟨hol, hrw, hnd, .inl ⟨rfl, by simp [mSteal]⟩, .inl ⟨rfl, by simp [mSteal]⟩, .no rfl, by simp, fun _ => rfl⟩)
  clear hol hrw hnd hW hV hTK hPU hE HG0 HG1 HG2 HGD x0 x1 x2 x3
  go_wp2
  go_loopw [13, 14, 15, 16, 18, 19] (fun nx v bs op ls i wr => ∃ q : Nat, q ≤ np + 40 ∧ i = .int .i64 (q : Int) ∧ ∃ M0 M1 M2 L own a b vj nj ls' tk pu p1 p2 z, nx = .int .i64 ((nj : Nat) : Int) ∧ v = .int .u64 ((vj : Nat) : Int) ∧ bs = .bool z ∧ ls = .int .u64 ls' ∧ OH TK PU V M0 M1 M2 S D E w wr n A acts np q L own a b vj ls' nj tk pu p1 p2 op z) (fun _ _ _ _ _ i _ => np + 40 - (intOf i).toNat)
  case atStart => exact ⟨0, Nat.zero_le _, rfl, _, _, _, _, _, _, _, 0, 0, 0, _, _, _, _, _, rfl, rfl, rfl, rfl, HO.out⟩
  case round =>
    clear HO
    obtain ⟨q, hq, rfl, N0, N1, N2, L, own, t1, t2, vj, nj, ls, tk, pu, p1, p2, z, rfl, rfl, rfl, rfl, hh⟩ := hrel
    by_cases hlt : q < np + 40
    · have hq0 : (0 : Int) ≤ (q : Int) := by omega
      have hq1 : (q : Int) < (np : Int) + 40 := by omega
      have hq2 : (q : Int) ≤ 1000 := by omega
      have hmod : ∃ y : Int, (q : Int).tmod 3 = y ∧ (q : Int) % 3 = y ∧ (y = 0 ∨ y = 1 ∨ y = 2) := ⟨(q : Int) % 3, by rw [Int.tmod_eq_emod_of_nonneg hq0], rfl, by omega⟩
      obtain ⟨tl, pl, hA60, hv0, hvA, hbd⟩ := hh.o.lens
      have HBD := Lib.hid hbd; have hTL := Lib.hid tl; have hPL := Lib.hid pl
      clear hbd
      have hnxA := hh.o.nxA
      have hvj2 : (vj : Int) < (A : Int) + 2 := by omega
      have hvj3 : vj < A + 2 := by omega
      obtain ⟨x0, x1, x2, x3⟩ := hh.o.cells
      have hbel := hh.o.bel
      have HH := Lib.hid hh
      have HO := Lib.hid hh.o; have HRW := Lib.hid hh.r; have HND := Lib.hid hh.nd; have HP1 := Lib.hid hh.p1; have HP2 := Lib.hid hh.p2
      have EQ := Lib.hid (show ((q + 1 : Nat) : Int) = (q : Int) + 1 by omega)
      have ENJ := Lib.hid (show ((nj + 1 : Nat) : Int) = (nj : Int) + 1 by omega)
      by_cases hqn : q < np
      · obtain ⟨b, off, rfl, hbl, hc⟩ := HR.out (by have := HL.out; omega)
        have c1' := hc q (by have := HL.out; omega)
        have c2 := (hbel.cell (p := ⟨b, off + q, none⟩) hbl).trans c1'
        obtain ⟨u, hu⟩ : ∃ u, u = Z.getD q 0 := ⟨_, rfl⟩
        rw [← hu] at c2
        have huw : 0 ≤ u ∧ u ≤ 255 := by
          have hkz : q < Z.length := by have := HL.out; omega
          have := HW.out u (by rw [hu, List.getD, List.getElem?_eq_getElem hkz]; exact List.getElem_mem hkz)
          simp [Lit.wf, IntKind.min, IntKind.max, IntKind.bits, IntKind.signed] at this; omega
        obtain ⟨y, hy, hy2, hy3⟩ : ∃ y : Int, u.tmod 3 = y ∧ u % 3 = y ∧ (y = 0 ∨ y = 1 ∨ y = 2) := ⟨u % 3, by rw [Int.tmod_eq_emod_of_nonneg huw.1], rfl, by omega⟩
        have hqn' : (q : Int) < (np : Int) := by omega
        clear hu hc c1' hbl huw hqn hmod hlt
        rcases hy3 with rfl | rfl | rfl
        · as_aux_lemma =>
          by_cases hpc : own.pc = 0
          · obtain rfl : z = false := by cases z with | false => rfl | true => exact absurd hpc (hh.bz.1 rfl)
            have HPC := Lib.hid hpc; clear hpc
            by_cases hnA : (nj : Int) < (A : Int)
            · obtain ⟨b', off', rfl, hbl', hca⟩ := HX.out (by have := HXL.out; omega)
              have hca := hca nj (by have := HXL.out; omega)
              have cact := (hbel.cell (p := ⟨b', off' + nj, none⟩) hbl').trans hca
              have hnj0 : (0 : Int) ≤ (nj : Int) := by omega
              by_cases hab : acts.getD nj false = true
              · rw [hab] at cact hca
                have HAB := Lib.hid (show acts.getD ((nj : Int)).toNat false = true from hab)
                have HCA := Lib.hid hca
                obtain ⟨vk, hvk⟩ : ∃ vk : Nat, (vj : Int) + 1 = (vk : Int) := ⟨vj + 1, by omega⟩
                have hvk2 : (vk : Int) < (A : Int) + 2 := by omega
                have hvk3 : vk < A + 2 := by omega
                clear hca hab hbel hh
                go_wp2_with (first
                  | (go_at_call 11; (with_reducible refine (push_any (ek n) (vk : Int) _).mono ?_); intro r w7 hk; obtain ⟨M, rfl, hM, hm, hb⟩ := hk; have HOP := Lib.hid (HO.out.push2 hvk HPC.out hnA HAB.out hM hm hb); have HRW := Lib.hid (HRW.out.below hb); have hpc2 : Hid ((mPush (ek n) (vk : Int)).pc ≠ 0) := Lib.hid (by simp [mPush]); clear hM hm hb)
                  | (go_at_call 14; (with_reducible refine (ol_own HOP.out hpc2.out (by omega) true HAB.out).mono ?_); rintro r w5 ⟨bb, rfl, ev, hv⟩; have HRW := Lib.hid (HRW.out.same hv); clear hv; rcases ev with ⟨_, L', o', hp', hl', h⟩ | ⟨L', o', hp', hm', x', hr', hpu, h⟩ | ⟨L', o', hp', hm', xt, hr', hxt, h⟩ | ⟨_, L', o', hp', hm', r', x', hr', hn', h⟩ <;> (try simp only [Int.toNat_natCast] at h hpu) <;> (try have HM := Lib.hid hm') <;> (try have HRR := Lib.hid hr') <;> (try clear hm' hr') <;> have HF := Lib.hid h <;> clear h)
                  | (go_at_call 15; (with_reducible refine (res_any _ HM.out).mono ?_); rintro r w6 ⟨rfl, hb⟩; rw [HRR.out.1, HRR.out.2]; have HF := Lib.hid (HF.out.step hb); have HRW := Lib.hid (HRW.out.below hb); clear hb; have cact := (HF.out.bel.cell (p := ⟨b', off' + nj, none⟩) hbl').trans HCA.out; first | (obtain ⟨y1, y2, y3⟩ := hxt; have y1' : ¬ (xt : Int) < 1 := (by omega); have y2' : ¬ (vk : Int) < (xt : Int) := (by omega); have ctk := HRW.out.tk.cell xt y3; have hzb := HBD.out xt y1 (by omega); obtain ⟨zt, hzt⟩ : ∃ zt, zt = tk.getD xt 0 := ⟨_, rfl⟩; rw [← hzt] at ctk hzb; obtain ⟨zb1, zb2⟩ := hzb; have ftk := HRW.out.tk.fro xt; have hF := HF.out; rw [← hzt] at hF; have HFP := Lib.hid (hF.put (V := TK) (by simp) xt (.int .i64 (zt + 1))); have HRP := Lib.hid (HRW.out.stk HND.out xt (zt + 1)); clear hF hzt) | (have cpu := HRW.out.pu.cell vk (by omega); have fpu := HRW.out.pu.fro vk; have HFP := Lib.hid (HF.out.put (V := PU) (by simp) vk (.bool true)); have HRP := Lib.hid (HRW.out.spu HND.out vk true); have cact2 := (HFP.out.bel.cell (p := ⟨b', off' + nj, none⟩) hbl').trans HCA.out; clear hpu) | skip)
                  | fail)
                all_goals go_roundw
                all_goals first
                  | exact ⟨q + 1, by omega, by go_num, M, _, _, _, _, _, _, vk, nj, ls, _, _, p1, p2, true, rfl, rfl, rfl, rfl, ⟨by rw [EQ.out]; exact HF.out, HRW.out, HND.out, HP1.out, HP2.out, by rw [EQ.out]; exact Due.first (lf := 4) (by omega) hl' (by omega), ⟨fun _ => hp', fun _ => rfl⟩, fun _ => rfl⟩⟩
                  | exact ⟨q + 1, by omega, by go_num, M, _, _, _, _, _, _, vk, nj + 1, ls, _, _, p1, p2, false, by go_num, rfl, rfl, rfl, ⟨by rw [EQ.out, ENJ.out]; exact HFP.out, HRP.out, HND.out, HP1.out, HP2.out, .no hp', ⟨(fun h => by cases h), fun h => absurd hp' h⟩, fun h => absurd hp' h⟩⟩
                  | exact ⟨q + 1, by omega, by go_num, M, _, _, _, _, _, _, vk, nj + 1, ls, _, _, p1, p2, false, by go_num, rfl, rfl, rfl, ⟨by rw [EQ.out, ENJ.out]; exact HF.out, HRW.out, HND.out, HP1.out, HP2.out, .no hp', ⟨(fun h => by cases h), fun h => absurd hp' h⟩, fun h => absurd hp' h⟩⟩
                  | (simp [intOf]; omega)
              · have hab' : acts.getD nj false = false := by simpa using hab
                rw [hab'] at cact hca
                have HAB := Lib.hid (show acts.getD ((nj : Int)).toNat false = false from hab')
                have HCA := Lib.hid hca
                clear hca hab hab' hbel hh
                go_wp2_with (first
                  | (go_at_call 12; (with_reducible refine (pop_any (ek n) _).mono ?_); intro r w7 hk; obtain ⟨M, rfl, hM, hm, hb⟩ := hk; have HOP := Lib.hid (HO.out.pop HPC.out hnA HAB.out hM hm hb); have HRW := Lib.hid (HRW.out.below hb); have hpc2 : Hid ((mPop (ek n)).pc ≠ 0) := Lib.hid (by simp [mPop]); clear hM hm hb)
                  | (go_at_call 14; (with_reducible refine (ol_own HOP.out hpc2.out (by omega) false HAB.out).mono ?_); rintro r w5 ⟨bb, rfl, ev, hv⟩; have HRW := Lib.hid (HRW.out.same hv); clear hv; rcases ev with ⟨_, L', o', hp', hl', h⟩ | ⟨L', o', hp', hm', x', hr', hpu, h⟩ | ⟨L', o', hp', hm', xt, hr', hxt, h⟩ | ⟨_, L', o', hp', hm', r', x', hr', hn', h⟩ <;> (try simp only [Int.toNat_natCast] at h hpu) <;> (try have HM := Lib.hid hm') <;> (try have HRR := Lib.hid hr') <;> (try clear hm' hr') <;> have HF := Lib.hid h <;> clear h)
                  | (go_at_call 15; (with_reducible refine (res_any _ HM.out).mono ?_); rintro r w6 ⟨rfl, hb⟩; rw [HRR.out.1, HRR.out.2]; have HF := Lib.hid (HF.out.step hb); have HRW := Lib.hid (HRW.out.below hb); clear hb; have cact := (HF.out.bel.cell (p := ⟨b', off' + nj, none⟩) hbl').trans HCA.out; first | (obtain ⟨y1, y2, y3⟩ := hxt; have y1' : ¬ (xt : Int) < 1 := (by omega); have y2' : ¬ (vj : Int) < (xt : Int) := (by omega); have ctk := HRW.out.tk.cell xt y3; have hzb := HBD.out xt y1 (by omega); obtain ⟨zt, hzt⟩ : ∃ zt, zt = tk.getD xt 0 := ⟨_, rfl⟩; rw [← hzt] at ctk hzb; obtain ⟨zb1, zb2⟩ := hzb; have ftk := HRW.out.tk.fro xt; have hF := HF.out; rw [← hzt] at hF; have HFP := Lib.hid (hF.put (V := TK) (by simp) xt (.int .i64 (zt + 1))); have HRP := Lib.hid (HRW.out.stk HND.out xt (zt + 1)); clear hF hzt) | (have cpu := HRW.out.pu.cell vj (by omega); have fpu := HRW.out.pu.fro vj; have HFP := Lib.hid (HF.out.put (V := PU) (by simp) vj (.bool true)); have HRP := Lib.hid (HRW.out.spu HND.out vj true); have cact2 := (HFP.out.bel.cell (p := ⟨b', off' + nj, none⟩) hbl').trans HCA.out; clear hpu) | skip)
                  | fail)
                all_goals go_roundw
                all_goals first
                  | exact ⟨q + 1, by omega, by go_num, M, _, _, _, _, _, _, vj, nj, ls, _, _, p1, p2, true, rfl, rfl, rfl, rfl, ⟨by rw [EQ.out]; exact HF.out, HRW.out, HND.out, HP1.out, HP2.out, by rw [EQ.out]; exact Due.first (lf := 6) (by omega) hl' (by omega), ⟨fun _ => hp', fun _ => rfl⟩, fun _ => rfl⟩⟩
                  | exact ⟨q + 1, by omega, by go_num, M, _, _, _, _, _, _, vj, nj + 1, ls, _, _, p1, p2, false, by go_num, rfl, rfl, rfl, ⟨by rw [EQ.out, ENJ.out]; exact HFP.out, HRP.out, HND.out, HP1.out, HP2.out, .no hp', ⟨(fun h => by cases h), fun h => absurd hp' h⟩, fun h => absurd hp' h⟩⟩
                  | exact ⟨q + 1, by omega, by go_num, M, _, _, _, _, _, _, vj, nj + 1, ls, _, _, p1, p2, false, by go_num, rfl, rfl, rfl, ⟨by rw [EQ.out, ENJ.out]; exact HF.out, HRW.out, HND.out, HP1.out, HP2.out, .no hp', ⟨(fun h => by cases h), fun h => absurd hp' h⟩, fun h => absurd hp' h⟩⟩
                  | (simp [intOf]; omega)
            · clear hbel hh
              go_wp2
              go_roundw
              case rel => exact ⟨q + 1, by omega, by go_num, N0, N1, N2, L, own, t1, t2, vj, nj, ls, tk, pu, p1, p2, false, rfl, rfl, rfl, rfl, by rw [EQ.out]; exact HH.out.wait HPC.out⟩
              case measure => simp [intOf]; omega
          · obtain rfl : z = true := hh.bz.2 hpc
            obtain rfl := hh.op hpc
            obtain ⟨hnA, _, _⟩ := hh.o.bz hpc
            obtain ⟨b', off', rfl, hbl', hca⟩ := HX.out (by have := HXL.out; omega)
            have hca := hca nj (by have := HXL.out; omega)
            have hnj0 : (0 : Int) ≤ (nj : Int) := by omega
            obtain ⟨ab, hab⟩ : ∃ ab, ab = acts.getD nj false := ⟨_, rfl⟩
            rw [← hab] at hca
            have HAB := Lib.hid (show acts.getD ((nj : Int)).toNat false = ab from hab.symm)
            have HCA := Lib.hid hca; have HPC := Lib.hid hpc; have HDU := Lib.hid hh.due
            clear hca hab hpc hbel hh
            go_wp2_with (first
              | (go_at_call 14; (with_reducible refine (ol_own HO.out HPC.out (by omega) ab HAB.out).mono ?_); rintro r w5 ⟨bb, rfl, ev, hv⟩; have HRW := Lib.hid (HRW.out.same hv); clear hv; rcases ev with ⟨_, L', o', hp', hl', h⟩ | ⟨L', o', hp', hm', x', hr', hpu, h⟩ | ⟨L', o', hp', hm', xt, hr', hxt, h⟩ | ⟨_, L', o', hp', hm', r', x', hr', hn', h⟩ <;> (try simp only [Int.toNat_natCast] at h hpu) <;> (try have HM := Lib.hid hm') <;> (try have HRR := Lib.hid hr') <;> (try clear hm' hr') <;> have HF := Lib.hid h <;> clear h)
              | (go_at_call 15; (with_reducible refine (res_any _ HM.out).mono ?_); rintro r w6 ⟨rfl, hb⟩; rw [HRR.out.1, HRR.out.2]; have HF := Lib.hid (HF.out.step hb); have HRW := Lib.hid (HRW.out.below hb); clear hb; have cact := (HF.out.bel.cell (p := ⟨b', off' + nj, none⟩) hbl').trans HCA.out; first | (obtain ⟨y1, y2, y3⟩ := hxt; have y1' : ¬ (xt : Int) < 1 := (by omega); have y2' : ¬ (vj : Int) < (xt : Int) := (by omega); have ctk := HRW.out.tk.cell xt y3; have hzb := HBD.out xt y1 (by omega); obtain ⟨zt, hzt⟩ : ∃ zt, zt = tk.getD xt 0 := ⟨_, rfl⟩; rw [← hzt] at ctk hzb; obtain ⟨zb1, zb2⟩ := hzb; have ftk := HRW.out.tk.fro xt; have hF := HF.out; rw [← hzt] at hF; have HFP := Lib.hid (hF.put (V := TK) (by simp) xt (.int .i64 (zt + 1))); have HRP := Lib.hid (HRW.out.stk HND.out xt (zt + 1)); clear hF hzt) | (have cpu := HRW.out.pu.cell vj (by omega); have fpu := HRW.out.pu.fro vj; have HFP := Lib.hid (HF.out.put (V := PU) (by simp) vj (.bool true)); have HRP := Lib.hid (HRW.out.spu HND.out vj true); have cact2 := (HFP.out.bel.cell (p := ⟨b', off' + nj, none⟩) hbl').trans HCA.out; clear hpu) | skip)
              | fail)
            all_goals go_roundw
            all_goals first
              | exact ⟨q + 1, by omega, by go_num, N0, _, _, _, _, _, _, vj, nj, ls, _, _, p1, p2, true, rfl, rfl, rfl, rfl, ⟨by rw [EQ.out]; exact HF.out, HRW.out, HND.out, HP1.out, HP2.out, by rw [EQ.out]; exact HDU.out.own HPC.out hl' (fun h => by omega), ⟨fun _ => hp', fun _ => rfl⟩, fun _ => rfl⟩⟩
              | exact ⟨q + 1, by omega, by go_num, N0, _, _, _, _, _, _, vj, nj + 1, ls, _, _, p1, p2, false, by go_num, rfl, rfl, rfl, ⟨by rw [EQ.out, ENJ.out]; exact HFP.out, HRP.out, HND.out, HP1.out, HP2.out, .no hp', ⟨(fun h => by cases h), fun h => absurd hp' h⟩, fun h => absurd hp' h⟩⟩
              | exact ⟨q + 1, by omega, by go_num, N0, _, _, _, _, _, _, vj, nj + 1, ls, _, _, p1, p2, false, by go_num, rfl, rfl, rfl, ⟨by rw [EQ.out, ENJ.out]; exact HF.out, HRW.out, HND.out, HP1.out, HP2.out, .no hp', ⟨(fun h => by cases h), fun h => absurd hp' h⟩, fun h => absurd hp' h⟩⟩
              | (simp [intOf]; omega)
        · as_aux_lemma =>
          have HDU := Lib.hid hh.due; have HBZ := Lib.hid hh.bz; have HOP := Lib.hid hh.op
          obtain ⟨v0, v1⟩ := HRW.out.v.cells; have fv := HRW.out.v.fro 0
          rcases hh.p1 with ⟨rfl, hpc⟩ | ⟨rfl, hpc⟩
          · have HPC := Lib.hid hpc
            clear hpc hbel hh
            go_wp2_with (first
              | (go_at_call 14; (with_reducible refine (ol_th HO.out HPC.out (by omega)).mono ?_); rintro r w5 ⟨bb, rfl, ev, hv⟩; have HRW := Lib.hid (HRW.out.same hv); clear hv; rcases ev with ⟨L', a', hp', h⟩ | ⟨L', a', hp', hm', xt, hr', hxt, h⟩ | ⟨L', a', hp', hm', r', x', hr', hn', h⟩ <;> (try have HM := Lib.hid hm') <;> (try have HRR := Lib.hid hr') <;> (try clear hm' hr') <;> have HF := Lib.hid h <;> clear h)
              | (go_at_call 15; (with_reducible refine (res_any _ HM.out).mono ?_); rintro r w6 ⟨rfl, hb⟩; rw [HRR.out.1, HRR.out.2]; have HF := Lib.hid (HF.out.step hb); have HRW := Lib.hid (HRW.out.below hb); clear hb; first | (obtain ⟨y1, y2, y3, y4⟩ := hxt; have y1' : ¬ (xt : Int) < 1 := (by omega); have y2' : ¬ (vj : Int) < (xt : Int) := (by omega); have y3' : ¬ (xt : Int) ≤ ls := (by omega); have ctk := HRW.out.tk.cell xt y4; have hzb := HBD.out xt y1 (by omega); obtain ⟨zt, hzt⟩ : ∃ zt, zt = tk.getD xt 0 := ⟨_, rfl⟩; rw [← hzt] at ctk hzb; obtain ⟨zb1, zb2⟩ := hzb; have ftk := HRW.out.tk.fro xt; have hF := HF.out; rw [← hzt] at hF; have HRP1 := Lib.hid (HRW.out.stk HND.out xt (zt + 1)); obtain ⟨v0, v1⟩ := HRP1.out.v.cells; have fv := HRP1.out.v.fro 0; have HRP := Lib.hid (HRP1.out.sv0 HND.out (.pointer none)); have HFP := Lib.hid ((hF.put (V := TK) (by simp) xt (.int .i64 (zt + 1))).put (V := V) (by simp) 0 (.pointer none)); obtain ⟨x0, x1, x2, x3⟩ := HFP.out.cells; clear hF hzt HRP1) | (obtain ⟨v0, v1⟩ := HRW.out.v.cells; have fv := HRW.out.v.fro 0; have HRP := Lib.hid (HRW.out.sv0 HND.out (.pointer none)); have HFP := Lib.hid (HF.out.put (V := V) (by simp) 0 (.pointer none)); obtain ⟨x0, x1, x2, x3⟩ := HFP.out.cells))
              | (go_at_call 13; (with_reducible refine (steal_any (ek n) _).mono ?_); intro r w7 hk; obtain ⟨M, rfl, hM, hm, hb⟩ := hk; have HN := Lib.hid ((HFP.out.fresh hM hm hb).put (V := V) (by simp) 0 (ptr M)); have hrw := HRP.out.below hb; obtain ⟨v0, v1⟩ := hrw.v.cells; have fv := hrw.v.fro 0; have HRN := Lib.hid (hrw.sv0 HND.out (ptr M)); clear hM hm hb hrw)
              | fail)
            all_goals go_roundw
            all_goals first
              | exact ⟨q + 1, by omega, by go_num, N0, _, _, _, _, _, _, vj, nj, _, _, _, _, _, z, rfl, rfl, rfl, rfl, ⟨by rw [EQ.out]; exact HF.out, HRW.out, HND.out, .inl ⟨rfl, hp'⟩, HP2.out, by rw [EQ.out]; exact HDU.out.th (fun h => by omega), HBZ.out, HOP.out⟩⟩
              | exact ⟨q + 1, by omega, by go_num, N0, _, _, _, _, _, _, vj, nj, _, _, _, _, _, z, rfl, rfl, rfl, rfl, ⟨by rw [EQ.out]; exact HN.out, HRN.out, HND.out, .inl ⟨rfl, by simp [mSteal]⟩, HP2.out, by rw [EQ.out]; exact HDU.out.th (fun h => by omega), HBZ.out, HOP.out⟩⟩
              | (simp [intOf]; omega)
          · have HPC := Lib.hid hpc
            have HRP := Lib.hid (HRW.out.sv0 HND.out (.pointer none)); have HFP := Lib.hid (HO.out.put (V := V) (by simp) 0 (.pointer none)); obtain ⟨x0, x1, x2, x3⟩ := HFP.out.cells
            clear hpc hbel hh
            go_wp2_with (first
              | (go_at_call 14; (with_reducible refine (step_nil S _).mono ?_); rintro r w5 ⟨rfl, rfl⟩)
              | (go_at_call 15; (with_reducible refine (res_nil _).mono ?_); rintro r w5 ⟨rfl, rfl⟩)
              | (go_at_call 13; (with_reducible refine (steal_any (ek n) _).mono ?_); intro r w7 hk; obtain ⟨M, rfl, hM, hm, hb⟩ := hk; have HN := Lib.hid ((HFP.out.fresh hM hm hb).put (V := V) (by simp) 0 (ptr M)); have hrw := HRP.out.below hb; obtain ⟨v0, v1⟩ := hrw.v.cells; have fv := hrw.v.fro 0; have HRN := Lib.hid (hrw.sv0 HND.out (ptr M)); clear hM hm hb hrw)
              | fail)
            go_roundw
            case rel => exact ⟨q + 1, by omega, by go_num, N0, _, _, _, _, _, _, vj, nj, _, _, _, _, _, z, rfl, rfl, rfl, rfl, ⟨by rw [EQ.out]; exact HN.out.more (by omega), HRN.out, HND.out, .inl ⟨rfl, by simp [mSteal]⟩, HP2.out, by rw [EQ.out]; exact HDU.out.th (fun h => by omega), HBZ.out, HOP.out⟩⟩
            case measure => simp [intOf]; omega
        · as_aux_lemma =>
          have HO2 := Lib.hid HO.out.th
          have HDU := Lib.hid hh.due; have HBZ := Lib.hid hh.bz; have HOP := Lib.hid hh.op
          obtain ⟨v0, v1⟩ := HRW.out.v.cells; have fv := HRW.out.v.fro 1
          rcases hh.p2 with ⟨rfl, hpc⟩ | ⟨rfl, hpc⟩
          · have HPC := Lib.hid hpc
            clear hpc hbel hh
            go_wp2_with (first
              | (go_at_call 14; (with_reducible refine (ol_th HO2.out HPC.out (by omega)).mono ?_); rintro r w5 ⟨bb, rfl, ev, hv⟩; have HRW := Lib.hid (HRW.out.same hv); clear hv; rcases ev with ⟨L', a', hp', h⟩ | ⟨L', a', hp', hm', xt, hr', hxt, h⟩ | ⟨L', a', hp', hm', r', x', hr', hn', h⟩ <;> (try have HM := Lib.hid hm') <;> (try have HRR := Lib.hid hr') <;> (try clear hm' hr') <;> have HF := Lib.hid h <;> clear h)
              | (go_at_call 15; (with_reducible refine (res_any _ HM.out).mono ?_); rintro r w6 ⟨rfl, hb⟩; rw [HRR.out.1, HRR.out.2]; have HF := Lib.hid (HF.out.step hb); have HRW := Lib.hid (HRW.out.below hb); clear hb; first | (obtain ⟨y1, y2, y3, y4⟩ := hxt; have y1' : ¬ (xt : Int) < 1 := (by omega); have y2' : ¬ (vj : Int) < (xt : Int) := (by omega); have y3' : ¬ (xt : Int) ≤ ls := (by omega); have ctk := HRW.out.tk.cell xt y4; have hzb := HBD.out xt y1 (by omega); obtain ⟨zt, hzt⟩ : ∃ zt, zt = tk.getD xt 0 := ⟨_, rfl⟩; rw [← hzt] at ctk hzb; obtain ⟨zb1, zb2⟩ := hzb; have ftk := HRW.out.tk.fro xt; have hF := HF.out; rw [← hzt] at hF; have HRP1 := Lib.hid (HRW.out.stk HND.out xt (zt + 1)); obtain ⟨v0, v1⟩ := HRP1.out.v.cells; have fv := HRP1.out.v.fro 1; have HRP := Lib.hid (HRP1.out.sv1 HND.out (.pointer none)); have HFP := Lib.hid ((hF.put (V := TK) (by simp) xt (.int .i64 (zt + 1))).put (V := V) (by simp) 1 (.pointer none)); obtain ⟨x0, x1, x2, x3⟩ := HFP.out.cells; clear hF hzt HRP1) | (obtain ⟨v0, v1⟩ := HRW.out.v.cells; have fv := HRW.out.v.fro 1; have HRP := Lib.hid (HRW.out.sv1 HND.out (.pointer none)); have HFP := Lib.hid (HF.out.put (V := V) (by simp) 1 (.pointer none)); obtain ⟨x0, x1, x2, x3⟩ := HFP.out.cells))
              | (go_at_call 13; (with_reducible refine (steal_any (ek n) _).mono ?_); intro r w7 hk; obtain ⟨M, rfl, hM, hm, hb⟩ := hk; have HN := Lib.hid ((HFP.out.fresh hM hm hb).put (V := V) (by simp) 1 (ptr M)); have hrw := HRP.out.below hb; obtain ⟨v0, v1⟩ := hrw.v.cells; have fv := hrw.v.fro 1; have HRN := Lib.hid (hrw.sv1 HND.out (ptr M)); clear hM hm hb hrw)
              | fail)
            all_goals go_roundw
            all_goals first
              | exact ⟨q + 1, by omega, by go_num, N0, _, _, _, _, _, _, vj, nj, _, _, _, _, _, z, rfl, rfl, rfl, rfl, ⟨by rw [EQ.out]; exact HF.out.th, HRW.out, HND.out, HP1.out, .inl ⟨rfl, hp'⟩, by rw [EQ.out]; exact HDU.out.th (fun h => by omega), HBZ.out, HOP.out⟩⟩
              | exact ⟨q + 1, by omega, by go_num, N0, _, _, _, _, _, _, vj, nj, _, _, _, _, _, z, rfl, rfl, rfl, rfl, ⟨by rw [EQ.out]; exact HN.out.th, HRN.out, HND.out, HP1.out, .inl ⟨rfl, by simp [mSteal]⟩, by rw [EQ.out]; exact HDU.out.th (fun h => by omega), HBZ.out, HOP.out⟩⟩
              | (simp [intOf]; omega)
          · have HPC := Lib.hid hpc
            have HRP := Lib.hid (HRW.out.sv1 HND.out (.pointer none)); have HFP := Lib.hid (HO2.out.put (V := V) (by simp) 1 (.pointer none)); obtain ⟨x0, x1, x2, x3⟩ := HFP.out.cells
            clear hpc hbel hh
            go_wp2_with (first
              | (go_at_call 14; (with_reducible refine (step_nil S _).mono ?_); rintro r w5 ⟨rfl, rfl⟩)
              | (go_at_call 15; (with_reducible refine (res_nil _).mono ?_); rintro r w5 ⟨rfl, rfl⟩)
              | (go_at_call 13; (with_reducible refine (steal_any (ek n) _).mono ?_); intro r w7 hk; obtain ⟨M, rfl, hM, hm, hb⟩ := hk; have HN := Lib.hid ((HFP.out.fresh hM hm hb).put (V := V) (by simp) 1 (ptr M)); have hrw := HRP.out.below hb; obtain ⟨v0, v1⟩ := hrw.v.cells; have fv := hrw.v.fro 1; have HRN := Lib.hid (hrw.sv1 HND.out (ptr M)); clear hM hm hb hrw)
              | fail)
            go_roundw
            case rel => exact ⟨q + 1, by omega, by go_num, N0, _, _, _, _, _, _, vj, nj, _, _, _, _, _, z, rfl, rfl, rfl, rfl, ⟨by rw [EQ.out]; exact HN.out.th.more (by omega), HRN.out, HND.out, HP1.out, .inl ⟨rfl, by simp [mSteal]⟩, by rw [EQ.out]; exact HDU.out.th (fun h => by omega), HBZ.out, HOP.out⟩⟩
            case measure => simp [intOf]; omega
      · obtain ⟨y, hy, hy2, hy3⟩ := hmod
        have hqn' : ¬ (q : Int) < (np : Int) := by omega
        clear hqn hlt
        rcases hy3 with rfl | rfl | rfl
        · as_aux_lemma =>
          by_cases hpc : own.pc = 0
          · obtain rfl : z = false := by cases z with | false => rfl | true => exact absurd hpc (hh.bz.1 rfl)
            have HPC := Lib.hid hpc; clear hpc
            clear hbel hh
            by_cases hnA : (nj : Int) < (A : Int)
            · skip
              go_wp2
              go_roundw
              case rel => exact ⟨q + 1, by omega, by go_num, N0, N1, N2, L, own, t1, t2, vj, nj, ls, tk, pu, p1, p2, false, rfl, rfl, rfl, rfl, by rw [EQ.out]; exact HH.out.wait HPC.out⟩
              case measure => simp [intOf]; omega
            · skip
              go_wp2
              go_roundw
              case rel => exact ⟨q + 1, by omega, by go_num, N0, N1, N2, L, own, t1, t2, vj, nj, ls, tk, pu, p1, p2, false, rfl, rfl, rfl, rfl, by rw [EQ.out]; exact HH.out.wait HPC.out⟩
              case measure => simp [intOf]; omega
          · obtain rfl : z = true := hh.bz.2 hpc
            obtain rfl := hh.op hpc
            obtain ⟨hnA, _, _⟩ := hh.o.bz hpc
            obtain ⟨b', off', rfl, hbl', hca⟩ := HX.out (by have := HXL.out; omega)
            have hca := hca nj (by have := HXL.out; omega)
            have hnj0 : (0 : Int) ≤ (nj : Int) := by omega
            obtain ⟨ab, hab⟩ : ∃ ab, ab = acts.getD nj false := ⟨_, rfl⟩
            rw [← hab] at hca
            have HAB := Lib.hid (show acts.getD ((nj : Int)).toNat false = ab from hab.symm)
            have HCA := Lib.hid hca; have HPC := Lib.hid hpc; have HDU := Lib.hid hh.due
            clear hca hab hpc hbel hh
            go_wp2_with (first
              | (go_at_call 14; (with_reducible refine (ol_own HO.out HPC.out (by omega) ab HAB.out).mono ?_); rintro r w5 ⟨bb, rfl, ev, hv⟩; have HRW := Lib.hid (HRW.out.same hv); clear hv; rcases ev with ⟨_, L', o', hp', hl', h⟩ | ⟨L', o', hp', hm', x', hr', hpu, h⟩ | ⟨L', o', hp', hm', xt, hr', hxt, h⟩ | ⟨_, L', o', hp', hm', r', x', hr', hn', h⟩ <;> (try simp only [Int.toNat_natCast] at h hpu) <;> (try have HM := Lib.hid hm') <;> (try have HRR := Lib.hid hr') <;> (try clear hm' hr') <;> have HF := Lib.hid h <;> clear h)
              | (go_at_call 15; (with_reducible refine (res_any _ HM.out).mono ?_); rintro r w6 ⟨rfl, hb⟩; rw [HRR.out.1, HRR.out.2]; have HF := Lib.hid (HF.out.step hb); have HRW := Lib.hid (HRW.out.below hb); clear hb; have cact := (HF.out.bel.cell (p := ⟨b', off' + nj, none⟩) hbl').trans HCA.out; first | (obtain ⟨y1, y2, y3⟩ := hxt; have y1' : ¬ (xt : Int) < 1 := (by omega); have y2' : ¬ (vj : Int) < (xt : Int) := (by omega); have ctk := HRW.out.tk.cell xt y3; have hzb := HBD.out xt y1 (by omega); obtain ⟨zt, hzt⟩ : ∃ zt, zt = tk.getD xt 0 := ⟨_, rfl⟩; rw [← hzt] at ctk hzb; obtain ⟨zb1, zb2⟩ := hzb; have ftk := HRW.out.tk.fro xt; have hF := HF.out; rw [← hzt] at hF; have HFP := Lib.hid (hF.put (V := TK) (by simp) xt (.int .i64 (zt + 1))); have HRP := Lib.hid (HRW.out.stk HND.out xt (zt + 1)); clear hF hzt) | (have cpu := HRW.out.pu.cell vj (by omega); have fpu := HRW.out.pu.fro vj; have HFP := Lib.hid (HF.out.put (V := PU) (by simp) vj (.bool true)); have HRP := Lib.hid (HRW.out.spu HND.out vj true); have cact2 := (HFP.out.bel.cell (p := ⟨b', off' + nj, none⟩) hbl').trans HCA.out; clear hpu) | skip)
              | fail)
            all_goals go_roundw
            all_goals first
              | exact ⟨q + 1, by omega, by go_num, N0, _, _, _, _, _, _, vj, nj, ls, _, _, p1, p2, true, rfl, rfl, rfl, rfl, ⟨by rw [EQ.out]; exact HF.out, HRW.out, HND.out, HP1.out, HP2.out, by rw [EQ.out]; exact HDU.out.own HPC.out hl' (fun _ => by omega), ⟨fun _ => hp', fun _ => rfl⟩, fun _ => rfl⟩⟩
              | exact ⟨q + 1, by omega, by go_num, N0, _, _, _, _, _, _, vj, nj + 1, ls, _, _, p1, p2, false, by go_num, rfl, rfl, rfl, ⟨by rw [EQ.out, ENJ.out]; exact HFP.out, HRP.out, HND.out, HP1.out, HP2.out, .no hp', ⟨(fun h => by cases h), fun h => absurd hp' h⟩, fun h => absurd hp' h⟩⟩
              | exact ⟨q + 1, by omega, by go_num, N0, _, _, _, _, _, _, vj, nj + 1, ls, _, _, p1, p2, false, by go_num, rfl, rfl, rfl, ⟨by rw [EQ.out, ENJ.out]; exact HF.out, HRW.out, HND.out, HP1.out, HP2.out, .no hp', ⟨(fun h => by cases h), fun h => absurd hp' h⟩, fun h => absurd hp' h⟩⟩
              | (simp [intOf]; omega)
        · as_aux_lemma =>
          have HDU := Lib.hid hh.due; have HBZ := Lib.hid hh.bz; have HOP := Lib.hid hh.op
          obtain ⟨v0, v1⟩ := HRW.out.v.cells; have fv := HRW.out.v.fro 0
          rcases hh.p1 with ⟨rfl, hpc⟩ | ⟨rfl, hpc⟩
          · have HPC := Lib.hid hpc
            clear hpc hbel hh
            go_wp2_with (first
              | (go_at_call 14; (with_reducible refine (ol_th HO.out HPC.out (by omega)).mono ?_); rintro r w5 ⟨bb, rfl, ev, hv⟩; have HRW := Lib.hid (HRW.out.same hv); clear hv; rcases ev with ⟨L', a', hp', h⟩ | ⟨L', a', hp', hm', xt, hr', hxt, h⟩ | ⟨L', a', hp', hm', r', x', hr', hn', h⟩ <;> (try have HM := Lib.hid hm') <;> (try have HRR := Lib.hid hr') <;> (try clear hm' hr') <;> have HF := Lib.hid h <;> clear h)
              | (go_at_call 15; (with_reducible refine (res_any _ HM.out).mono ?_); rintro r w6 ⟨rfl, hb⟩; rw [HRR.out.1, HRR.out.2]; have HF := Lib.hid (HF.out.step hb); have HRW := Lib.hid (HRW.out.below hb); clear hb; first | (obtain ⟨y1, y2, y3, y4⟩ := hxt; have y1' : ¬ (xt : Int) < 1 := (by omega); have y2' : ¬ (vj : Int) < (xt : Int) := (by omega); have y3' : ¬ (xt : Int) ≤ ls := (by omega); have ctk := HRW.out.tk.cell xt y4; have hzb := HBD.out xt y1 (by omega); obtain ⟨zt, hzt⟩ : ∃ zt, zt = tk.getD xt 0 := ⟨_, rfl⟩; rw [← hzt] at ctk hzb; obtain ⟨zb1, zb2⟩ := hzb; have ftk := HRW.out.tk.fro xt; have hF := HF.out; rw [← hzt] at hF; have HRP1 := Lib.hid (HRW.out.stk HND.out xt (zt + 1)); obtain ⟨v0, v1⟩ := HRP1.out.v.cells; have fv := HRP1.out.v.fro 0; have HRP := Lib.hid (HRP1.out.sv0 HND.out (.pointer none)); have HFP := Lib.hid ((hF.put (V := TK) (by simp) xt (.int .i64 (zt + 1))).put (V := V) (by simp) 0 (.pointer none)); obtain ⟨x0, x1, x2, x3⟩ := HFP.out.cells; clear hF hzt HRP1) | (obtain ⟨v0, v1⟩ := HRW.out.v.cells; have fv := HRW.out.v.fro 0; have HRP := Lib.hid (HRW.out.sv0 HND.out (.pointer none)); have HFP := Lib.hid (HF.out.put (V := V) (by simp) 0 (.pointer none)); obtain ⟨x0, x1, x2, x3⟩ := HFP.out.cells))
              | fail)
            all_goals go_roundw
            all_goals first
              | exact ⟨q + 1, by omega, by go_num, N0, _, _, _, _, _, _, vj, nj, _, _, _, _, _, z, rfl, rfl, rfl, rfl, ⟨by rw [EQ.out]; exact HF.out, HRW.out, HND.out, .inl ⟨rfl, hp'⟩, HP2.out, by rw [EQ.out]; exact HDU.out.th (fun h => by omega), HBZ.out, HOP.out⟩⟩
              | exact ⟨q + 1, by omega, by go_num, N0, _, _, _, _, _, _, vj, nj, _, _, _, _, _, z, rfl, rfl, rfl, rfl, ⟨by rw [EQ.out]; exact HFP.out, HRP.out, HND.out, .inr ⟨rfl, hp'⟩, HP2.out, by rw [EQ.out]; exact HDU.out.th (fun h => by omega), HBZ.out, HOP.out⟩⟩
              | (simp [intOf]; omega)
          · have HPC := Lib.hid hpc
            have HRP := Lib.hid (HRW.out.sv0 HND.out (.pointer none)); have HFP := Lib.hid (HO.out.put (V := V) (by simp) 0 (.pointer none)); obtain ⟨x0, x1, x2, x3⟩ := HFP.out.cells
            clear hpc hbel hh
            go_wp2_with (first
              | (go_at_call 14; (with_reducible refine (step_nil S _).mono ?_); rintro r w5 ⟨rfl, rfl⟩)
              | (go_at_call 15; (with_reducible refine (res_nil _).mono ?_); rintro r w5 ⟨rfl, rfl⟩)
              | fail)
            go_roundw
            case rel => exact ⟨q + 1, by omega, by go_num, N0, _, _, _, _, _, _, vj, nj, _, _, _, _, _, z, rfl, rfl, rfl, rfl, ⟨by rw [EQ.out]; exact HFP.out.more (by omega), HRP.out, HND.out, .inr ⟨rfl, HPC.out⟩, HP2.out, by rw [EQ.out]; exact HDU.out.th (fun h => by omega), HBZ.out, HOP.out⟩⟩
            case measure => simp [intOf]; omega
        · as_aux_lemma =>
          have HO2 := Lib.hid HO.out.th
          have HDU := Lib.hid hh.due; have HBZ := Lib.hid hh.bz; have HOP := Lib.hid hh.op
          obtain ⟨v0, v1⟩ := HRW.out.v.cells; have fv := HRW.out.v.fro 1
          rcases hh.p2 with ⟨rfl, hpc⟩ | ⟨rfl, hpc⟩
          · have HPC := Lib.hid hpc
            clear hpc hbel hh
            go_wp2_with (first
              | (go_at_call 14; (with_reducible refine (ol_th HO2.out HPC.out (by omega)).mono ?_); rintro r w5 ⟨bb, rfl, ev, hv⟩; have HRW := Lib.hid (HRW.out.same hv); clear hv; rcases ev with ⟨L', a', hp', h⟩ | ⟨L', a', hp', hm', xt, hr', hxt, h⟩ | ⟨L', a', hp', hm', r', x', hr', hn', h⟩ <;> (try have HM := Lib.hid hm') <;> (try have HRR := Lib.hid hr') <;> (try clear hm' hr') <;> have HF := Lib.hid h <;> clear h)
              | (go_at_call 15; (with_reducible refine (res_any _ HM.out).mono ?_); rintro r w6 ⟨rfl, hb⟩; rw [HRR.out.1, HRR.out.2]; have HF := Lib.hid (HF.out.step hb); have HRW := Lib.hid (HRW.out.below hb); clear hb; first | (obtain ⟨y1, y2, y3, y4⟩ := hxt; have y1' : ¬ (xt : Int) < 1 := (by omega); have y2' : ¬ (vj : Int) < (xt : Int) := (by omega); have y3' : ¬ (xt : Int) ≤ ls := (by omega); have ctk := HRW.out.tk.cell xt y4; have hzb := HBD.out xt y1 (by omega); obtain ⟨zt, hzt⟩ : ∃ zt, zt = tk.getD xt 0 := ⟨_, rfl⟩; rw [← hzt] at ctk hzb; obtain ⟨zb1, zb2⟩ := hzb; have ftk := HRW.out.tk.fro xt; have hF := HF.out; rw [← hzt] at hF; have HRP1 := Lib.hid (HRW.out.stk HND.out xt (zt + 1)); obtain ⟨v0, v1⟩ := HRP1.out.v.cells; have fv := HRP1.out.v.fro 1; have HRP := Lib.hid (HRP1.out.sv1 HND.out (.pointer none)); have HFP := Lib.hid ((hF.put (V := TK) (by simp) xt (.int .i64 (zt + 1))).put (V := V) (by simp) 1 (.pointer none)); obtain ⟨x0, x1, x2, x3⟩ := HFP.out.cells; clear hF hzt HRP1) | (obtain ⟨v0, v1⟩ := HRW.out.v.cells; have fv := HRW.out.v.fro 1; have HRP := Lib.hid (HRW.out.sv1 HND.out (.pointer none)); have HFP := Lib.hid (HF.out.put (V := V) (by simp) 1 (.pointer none)); obtain ⟨x0, x1, x2, x3⟩ := HFP.out.cells))
              | fail)
            all_goals go_roundw
            all_goals first
              | exact ⟨q + 1, by omega, by go_num, N0, _, _, _, _, _, _, vj, nj, _, _, _, _, _, z, rfl, rfl, rfl, rfl, ⟨by rw [EQ.out]; exact HF.out.th, HRW.out, HND.out, HP1.out, .inl ⟨rfl, hp'⟩, by rw [EQ.out]; exact HDU.out.th (fun h => by omega), HBZ.out, HOP.out⟩⟩
              | exact ⟨q + 1, by omega, by go_num, N0, _, _, _, _, _, _, vj, nj, _, _, _, _, _, z, rfl, rfl, rfl, rfl, ⟨by rw [EQ.out]; exact HFP.out.th, HRP.out, HND.out, HP1.out, .inr ⟨rfl, hp'⟩, by rw [EQ.out]; exact HDU.out.th (fun h => by omega), HBZ.out, HOP.out⟩⟩
              | (simp [intOf]; omega)
          · have HPC := Lib.hid hpc
            have HRP := Lib.hid (HRW.out.sv1 HND.out (.pointer none)); have HFP := Lib.hid (HO2.out.put (V := V) (by simp) 1 (.pointer none)); obtain ⟨x0, x1, x2, x3⟩ := HFP.out.cells
            clear hpc hbel hh
            go_wp2_with (first
              | (go_at_call 14; (with_reducible refine (step_nil S _).mono ?_); rintro r w5 ⟨rfl, rfl⟩)
              | (go_at_call 15; (with_reducible refine (res_nil _).mono ?_); rintro r w5 ⟨rfl, rfl⟩)
              | fail)
            go_roundw
            case rel => exact ⟨q + 1, by omega, by go_num, N0, _, _, _, _, _, _, vj, nj, _, _, _, _, _, z, rfl, rfl, rfl, rfl, ⟨by rw [EQ.out]; exact HFP.out.th.more (by omega), HRP.out, HND.out, HP1.out, .inr ⟨rfl, HPC.out⟩, by rw [EQ.out]; exact HDU.out.th (fun h => by omega), HBZ.out, HOP.out⟩⟩
            case measure => simp [intOf]; omega
    · obtain rfl : q = np + 40 := by omega
      have hpc : own.pc = 0 := by
        have hd := hh.due
        have e : (((np + 40 : Nat)) : Int) = (np : Int) + 40 := by omega
        rw [e] at hd
        exact hd.end
      have hfin : ¬ ((np : Int) + 40 < (np : Int) + 40) := by omega
      have hA60 : A ≤ 60 := by omega
      have hvA := hh.o.lens.2.2.2.2.1
      have he := (OE.start hh.o hh.r hh.nd.1 hpc).more (show ((np + 40 : Nat) : Int) ≤ 1000 by omega)
      obtain ⟨x0, x1, x2, x3⟩ := he.cells
      have HE := Lib.hid he
      clear hh hpc he hlt
      as_aux_lemma =>
      go_wp2_with (fail)
      go_loopw [26] (fun i wr => ∃ j : Nat, j ≤ n + 2 ∧ i = .int .i64 (j : Int) ∧ ∃ L lf tk, 0 ≤ lf ∧ (lf = 0 ∨ lf ≤ (n : Int) + 1 - j) ∧ OE TK PU S D E w wr n A (1000 + 8 * j) L ((n : Int) + 2 - j) lf vj ls tk tk pu) (fun i _ => n + 2 - (intOf i).toNat)
      case atStart => exact ⟨0, Nat.zero_le _, rfl, L, (n : Int) + 1, tk, by omega, .inr (by omega), by simpa using HE.out⟩
      case round =>
        clear HE
        obtain ⟨j, hj, rfl, L2, lf, tk2, hlf0, hlf, he⟩ := hrel
        by_cases hlt : j < n + 2
        · have hj0 : (0 : Int) ≤ (j : Int) := by omega
          have hj1 : (j : Int) ≤ (n : Int) + 1 := by omega
          have hj2 : (j : Int) ≤ 5 := by omega
          obtain ⟨tl, pl, hbd⟩ := he.lens
          have HBD := Lib.hid hbd
          obtain ⟨x0, x1, x2, x3⟩ := he.cells
          have HE := Lib.hid he
          have HLF := Lib.hid hlf
          have EJ := Lib.hid (show (1000 + 8 * ((j + 1 : Nat) : Int)) = 1000 + 8 * (j : Int) + 8 by omega)
          have EJ2 := Lib.hid (show ((n : Int) + 2 - ((j + 1 : Nat) : Int)) = (n : Int) + 2 - (j : Int) - 1 by omega)
          clear he hbd hlf hlt
          go_wp2_with (first
            | (go_at_call 12; (with_reducible refine (pop_any (ek n) _).mono ?_); intro r w7 hk; obtain ⟨M, rfl, hM, hm, hb⟩ := hk; have HF := Lib.hid (HE.out.begin hM hm hb); clear hM hm hb)
            | (go_at_call 10; (with_reducible refine (of_whole HF.out (by omega) (by omega) hlf0).mono ?_); rintro r w8 ⟨o, x, rfl, ev⟩; rcases ev with ⟨L', xt, hxt, h⟩ | ⟨L', o', x', ho, h⟩ <;> first | (obtain ⟨y1, y2, y3, y4⟩ := hxt; have y1' : ¬ (xt : Int) < 1 := (by omega); have y2' : ¬ (vj : Int) < (xt : Int) := (by omega); have hvj2 : (xt : Int) < (A : Int) + 2 := (by omega); have ctk := h.rt.cell xt y3; have hzb := HBD.out xt y1 (by omega); obtain ⟨zt, hzt⟩ : ∃ zt, zt = tk2.getD xt 0 := ⟨_, rfl⟩; rw [← hzt] at ctk hzb h; obtain ⟨zb1, zb2⟩ := hzb; have ftk := h.rt.fro xt; have HP := Lib.hid (h.put xt (zt + 1)); clear h hzt) | (have HN := Lib.hid h; clear h))
            | fail)
          all_goals go_roundw
          all_goals first
            | exact ⟨j + 1, by omega, by go_num, _, lf - 1, _, by omega, by rcases HLF.out with h | h <;> omega, by rw [EJ.out, EJ2.out]; exact HP.out⟩
            | exact ⟨j + 1, by omega, by go_num, _, _, _, Int.le_refl 0, .inl rfl, by rw [EJ.out, EJ2.out]; exact HN.out⟩
            | (simp [intOf]; omega)
        · obtain rfl : j = n + 2 := by omega
          have hl0 : lf = 0 := by omega
          subst hl0
          obtain ⟨tl, pl, _⟩ := he.lens
          have hdone := he.en.done
          have HDN := Lib.hid hdone
          have hfin2 : ¬ ((n : Int) + 2 ≤ (n : Int) + 1) := by omega
          have hRT := he.rt; have hRP := he.rp; have hbel := he.ok.bel
          have HRT := Lib.hid hRT; have HRP := Lib.hid hRP; have HBL := Lib.hid hbel
          clear he hdone hlf hlt hRT hRP hbel
          go_wp2_with (fail)
          go_loopw [29] (fun i wr2 => ∃ j : Nat, 1 ≤ j ∧ j ≤ A + 2 ∧ i = .int .i64 (j : Int) ∧ IR wr2 TK tk2 ∧ BR wr2 PU pu ∧ Below w.heap.size w wr2) (fun i _ => A + 2 - (intOf i).toNat)
          case atStart => exact ⟨1, Nat.le_refl _, by omega, rfl, HRT.out, HRP.out, HBL.out⟩
          case round =>
            clear HRT HRP HBL
            obtain ⟨j, hj1, hj2, rfl, ht, hp, hb⟩ := hrel
            by_cases hlt : j < A + 2
            · have hj0 : (0 : Int) ≤ (j : Int) := by omega
              have hj3 : (j : Int) < (A : Int) + 2 := by omega
              have ctk := ht.cell j (by omega)
              have cpu := hp.cell j (by omega)
              have hd := HDN.out j hj1 (by omega)
              obtain ⟨pb, hpb⟩ : ∃ pb, pb = pu.getD j false := ⟨_, rfl⟩
              rw [← hpb] at cpu hd
              have HT := Lib.hid ht; have HP := Lib.hid hp; have HB := Lib.hid hb
              clear ht hp hb hpb hlt
              cases pb
              · rw [if_neg (by simp)] at hd
                rw [hd] at ctk
                clear hd
                go_wp2_with (fail)
                go_quiet (fail)
                go_wp2_with (fail)
                go_roundw
                case rel => exact ⟨j + 1, by omega, by omega, by go_num, HT.out.below (below_drewN (Below.refl _ _) _), HP.out.below (below_drewN (Below.refl _ _) _), below_drewN HB.out _⟩
                case measure => simp [intOf]; omega
              · rw [if_pos rfl] at hd
                rw [hd] at ctk
                clear hd
                go_wp2_with (fail)
                go_quiet (fail)
                go_wp2_with (fail)
                go_roundw
                case rel => exact ⟨j + 1, by omega, by omega, by go_num, HT.out.below (below_drewN (Below.refl _ _) _), HP.out.below (below_drewN (Below.refl _ _) _), below_drewN HB.out _⟩
                case measure => simp [intOf]; omega
            · obtain rfl : j = A + 2 := by omega
              go_wp2_with (fail)
              go_ret
              exact ⟨rfl, hb⟩
end Go.Proofs.Ytjnenpflpckimaa
