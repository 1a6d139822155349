/- The document's own machine's steps, walked. -/
import Derived.Test.YtbpkcoemehmpbaaGreatJ17
namespace Go.Proofs.YtbpkcoemehmpbaaGreat
open Go.RowKit
set_option linter.unusedVariables false
set_option linter.unusedSimpArgs false

/-- A step's answer. -/
def SomeStep (P : Nat → Prop) (w : World) (n' : Nat) (L : List Int) (v : Value) (e : Ending) (w' : World) : Prop :=
  ∃ R cap, e = .returned (.tuple #[.slice R n' cap, v]) ∧ ReadsW P w' R L ∧ Below w.heap.size w w'

set_option maxHeartbeats 4000000 in
theorem rstep1_pop (R : Option Addr) (n' capR : Nat) (L : List Int) (hd : Int) (A : Option Addr) (n cap : Nat) (it h li tr : Int) (w : World) (hn : n' = L.length) (hR : Reads .u64 w R L) (ww : WW L) (t0 : 0 ≤ tr) (t1 : tr ≤ 1000000000) :
    Calls Tryz.prog 49 #[.slice R n' capR, mV 2 1 hd A n cap it h li tr] w fun a w' => a = .returned (.tuple #[.slice R n' capR, mV 2 (if low (ldq L hd) = 0 then 0 else 2) hd A n cap (low (ldq L hd)) (ldq L hd) li (tr + 1)]) ∧ Below w.heap.size w w' := by
  obtain ⟨g, hg⟩ : ∃ g, g = ldq L hd := ⟨_, rfl⟩
  have hgr := ww.ldq hd
  rw [← hg] at hgr
  obtain ⟨g0, g1⟩ := hgr
  have hg2 : g = ldv L hd := by rw [hg, ldv_eq]
  rw [← hg]
  obtain ⟨x, hx⟩ : ∃ x, x = low g := ⟨_, rfl⟩
  rw [← hx]
  have hx2 : x = g % 4294967296 := hx
  have HG := Lib.hid hg2; have HX := Lib.hid hx2; have HN := Lib.hid hn; have HR := Lib.hid hR
  clear hg hx hg2 hx2 hn hR ww
  by_cases hz : x = 0
  · rw [if_pos hz]
    subst hz
    go_enter Tryz.func49, Tryz.ntmps49
    go_wp2_with (first
      | (go_at_call 43; (with_reducible refine (rload_any R n' capR L hd _ HN.out (HR.out.below (below_two _ _ _) (Nat.le_refl _))).mono ?_); rintro r w1 ⟨rfl, hw⟩; cases hw; rw [← HG.out])
      | (go_at_call 77; (with_reducible refine (refLow_any g g0 g1 _).mono ?_); rintro r w1 ⟨rfl, hw⟩; cases hw; rw [← HX.out])
      | fail)
    go_region
    go_wp2
    exact bodyPost_ret (v := .tuple #[.slice R n' capR, mV 2 0 hd A n cap 0 g li (tr + 1)]) (by simp [results, Tryz.results49, go_sem]) rfl ⟨rfl, (below_two _ _ _).drew⟩
  · rw [if_neg hz]
    have hz2 : (x == 0) = false := by simpa using hz
    go_enter Tryz.func49, Tryz.ntmps49
    go_wp2_with (first
      | (go_at_call 43; (with_reducible refine (rload_any R n' capR L hd _ HN.out (HR.out.below (below_two _ _ _) (Nat.le_refl _))).mono ?_); rintro r w1 ⟨rfl, hw⟩; cases hw; rw [← HG.out])
      | (go_at_call 77; (with_reducible refine (refLow_any g g0 g1 _).mono ?_); rintro r w1 ⟨rfl, hw⟩; cases hw; rw [← HX.out])
      | fail)
    go_region
    go_wp2
    exact bodyPost_ret (v := .tuple #[.slice R n' capR, mV 2 2 hd A n cap x g li (tr + 1)]) (by simp [results, Tryz.results49, go_sem]) rfl ⟨rfl, (below_two _ _ _).drew⟩

set_option maxHeartbeats 4000000 in
theorem rstep2_push (P : Nat → Prop) (R : Option Addr) (n' capR : Nat) (L : List Int) (hd : Int) (A : Option Addr) (n cap : Nat) (zs : List Int) (it h li tr : Int) (w : World) (hn : n' = L.length) (hn2 : n' ≤ 1000000) (hR : ReadsW P w R L) (hP : ∀ b, w.heap.size ≤ b → P b)
    (hz : n = zs.length) (hK : Reads .i64 w A zs) (hl : n ≤ 1000000) (i0 : 0 ≤ it) (i1 : it ≤ 4294967295) (l0 : 0 ≤ li) (l1 : li ≤ 4294967295) :
    Calls Tryz.prog 49 #[.slice R n' capR, mV 1 2 hd A n cap it h li tr] w (SomeStep P w n' (ptq L (atOf zs it) li) (mV 1 3 hd A n cap it h li tr)) := by
  have hkm := KM.new w 1 3 hd A n cap it h li tr
  have hb0 := hkm.bel
  have hlt := hkm.lt
  have HN := Lib.hid hn; have HZ := Lib.hid hz; have HP := Lib.hid hP
  have HR0 : Hid (ReadsW (fun b => P b ∧ b ≠ w.heap.size + 1) w R L) := Lib.hid (fun h0 => by
    obtain ⟨b, off, e, hb, hp, hc⟩ := hR h0
    exact ⟨b, off, e, hb, ⟨hp, by omega⟩, hc⟩)
  have HK0 := Lib.hid hK
  have ew : IntKind.u64.wrap li = li := by rw [IntKind.wrap_u64]; omega
  have e1 : ptq L (atOf zs it) li = ptv L (atOf zs it) li := (ptv_eq ..).symm
  rw [e1]
  clear hn hz hR hK hP e1
  go_enter Tryz.func49, Tryz.ntmps49
  go_wp2_with (fail)
  obtain ⟨W, hW⟩ : ∃ W, W = ((w.alloc (.cells #[.int .i64 1, .int .i64 3, .int .i64 hd, .slice A n cap, .int .u32 it, .int .u64 h, .int .u32 li, .int .i64 tr] 51)).alloc (.cells #[.int .i64 0, .int .i64 0, .int .i64 0, .slice none 0 0, .int .u32 0, .int .u64 0, .int .u32 0, .int .i64 0] 51)) := ⟨_, rfl⟩
  rw [← hW] at hkm hb0 hlt ⊢
  clear hW
  obtain ⟨x0, x1, x2, x3, x4, x5, x6, x7⟩ := hkm.cells
  have HKD := Lib.hid (hkm.step ((Below.refl W.heap.size W).drew))
  have HRD := Lib.hid (HR0.out.below (hb0.drew))
  have HAD := Lib.hid (HK0.out.below (hb0.drew) (Nat.le_refl _))
  clear hkm hb0
  go_region_held3 (fun w' => w'.cell? ⟨w.heap.size, 0, none⟩ = some (.int .i64 1) ∧ w'.cell? ⟨w.heap.size, 1, none⟩ = some (.int .i64 3) ∧ w'.cell? ⟨w.heap.size, 2, none⟩ = some (.int .i64 hd) ∧ w'.cell? ⟨w.heap.size, 3, none⟩ = some (.slice A n cap) ∧ w'.cell? ⟨w.heap.size, 4, none⟩ = some (.int .u32 it) ∧ w'.cell? ⟨w.heap.size, 5, none⟩ = some (.int .u64 h) ∧ w'.cell? ⟨w.heap.size, 6, none⟩ = some (.int .u32 li) ∧ w'.cell? ⟨w.heap.size, 7, none⟩ = some (.int .i64 tr))
    (first | (with_reducible exact HK2.out.putc) | (with_reducible exact HK2.out.cells) | (with_reducible exact HK1.out.cells) | (with_reducible exact HKD.out.cells) | fail)
    (first
      | (go_at_call 82; (with_reducible refine (refAt_any hd A n cap zs it _ HZ.out HAD.out hl i0 i1).mono ?_); rintro r w3 ⟨rfl, hb⟩; have HK1 := Lib.hid (HKD.out.step hb); have HR1 := Lib.hid (HRD.out.below hb); clear hb)
      | (go_at_call 14; (with_reducible refine (rput_any (fun b => P b ∧ b ≠ w.heap.size + 1) R n' capR L (atOf zs it) li _ HN.out hn2 HR1.out (fun b hb => ⟨HP.out b (Nat.le_trans HK1.out.bel.size hb), Nat.ne_of_gt (Nat.lt_of_lt_of_le HK1.out.lt hb)⟩)).mono ?_); rintro r w4 ⟨R2, cap2, rfl, hx, hb⟩; have HK2 := Lib.hid (HK1.out.step hb); have HR2 := Lib.hid hx; clear hb hx; obtain ⟨r0, r1, r2, r3, r4, r5, r6, r7⟩ := HK2.out.res; have hfr := HK2.out.fro)
      | fail)
  go_wp2
  obtain ⟨e0, e1, e2, e3, e4, e5, e6, e7⟩ := HK2.out.putr (u0 := .int .i64 1) (u1 := .int .i64 3) (u2 := .int .i64 hd) (u3 := .slice A n cap) (u4 := .int .u32 it) (u5 := .int .u64 h) (u6 := .int .u32 li) (u7 := .int .i64 tr)
  exact bodyPost_ret (v := .tuple #[.slice R2 n' cap2, mV 1 3 hd A n cap it h li tr]) (by simp [results, Tryz.results49, go_sem, e0, e1, e2, e3, e4, e5, e6, e7]) rfl ⟨R2, cap2, rfl, KM.putd HR2.out, HK2.out.putb⟩

set_option maxHeartbeats 4000000 in
theorem rstep2_pop (P : Nat → Prop) (R : Option Addr) (n' capR : Nat) (L : List Int) (hd : Int) (A : Option Addr) (n cap : Nat) (zs : List Int) (it h li tr : Int) (w : World) (hn : n' = L.length) (hR : ReadsW P w R L) (ww : WW L)
    (hz : n = zs.length) (hK : Reads .i64 w A zs) (hl : n ≤ 1000000) (i0 : 0 ≤ it) (i1 : it ≤ 4294967295) :
    Calls Tryz.prog 49 #[.slice R n' capR, mV 2 2 hd A n cap it h li tr] w (SomeStep P w n' L (mV 2 3 hd A n cap it h (low (ldq L (atOf zs it))) tr)) := by
  have hkm := KM.new w 2 3 hd A n cap it h li tr
  have hb0 := hkm.bel
  have hlt := hkm.lt
  obtain ⟨g, hg⟩ : ∃ g, g = ldq L (atOf zs it) := ⟨_, rfl⟩
  have hgr := ww.ldq (atOf zs it)
  rw [← hg] at hgr
  obtain ⟨g0, g1⟩ := hgr
  have hg2 : g = ldv L (atOf zs it) := by rw [hg, ldv_eq]
  rw [← hg]
  obtain ⟨x, hx⟩ : ∃ x, x = low g := ⟨_, rfl⟩
  rw [← hx]
  have hx2 : x = g % 4294967296 := hx
  have HG := Lib.hid hg2; have HX := Lib.hid hx2
  have HN := Lib.hid hn; have HZ := Lib.hid hz
  have HR0 : Hid (ReadsW (fun b => P b ∧ b ≠ w.heap.size + 1) w R L) := Lib.hid (fun h0 => by
    obtain ⟨b, off, e, hb, hp, hc⟩ := hR h0
    exact ⟨b, off, e, hb, ⟨hp, by omega⟩, hc⟩)
  have HK0 := Lib.hid hK
  clear hn hz hR hK hg hg2 hx hx2 ww
  go_enter Tryz.func49, Tryz.ntmps49
  obtain ⟨W, hW⟩ : ∃ W, W = ((w.alloc (.cells #[.int .i64 2, .int .i64 3, .int .i64 hd, .slice A n cap, .int .u32 it, .int .u64 h, .int .u32 li, .int .i64 tr] 51)).alloc (.cells #[.int .i64 0, .int .i64 0, .int .i64 0, .slice none 0 0, .int .u32 0, .int .u64 0, .int .u32 0, .int .i64 0] 51)) := ⟨_, rfl⟩
  rw [← hW] at hkm hb0 hlt
  have HKM := Lib.hid hkm; have HB0 := Lib.hid hb0; have HW := Lib.hid hW
  clear hkm hb0 hW
  go_wp2_with (first
    | (go_at_call 82; rw [← HW.out]; (with_reducible refine (refAt_any hd A n cap zs it _ HZ.out (HK0.out.below HB0.out (Nat.le_refl _)) hl i0 i1).mono ?_); rintro r w3 ⟨rfl, hb⟩; have HK1 := Lib.hid (HKM.out.step hb); have HR1 := Lib.hid (HR0.out.below HK1.out.bel); clear hb; obtain ⟨x0, x1, x2, x3, x4, x5, x6, x7⟩ := HK1.out.cells; have hfr0 := HK1.out.fro0)
    | (go_at_call 43; (with_reducible refine (rload_any R n' capR L _ _ HN.out HR1.out.reads).mono ?_); rintro r w4 ⟨rfl, hw⟩; cases hw; rw [← HG.out])
    | (go_at_call 77; (with_reducible refine (refLow_any g g0 g1 _).mono ?_); rintro r w5 ⟨rfl, hw⟩; cases hw; rw [← HX.out])
    | fail)
  have hkl := HK1.out.liS x
  obtain ⟨W2, hW2⟩ : ∃ W2, W2 = (w3.setCell ⟨w.heap.size, 6, none⟩ (.int .u32 x)) := ⟨_, rfl⟩
  have hrl : ReadsW (fun b => P b ∧ b ≠ w.heap.size + 1) W2 R L := HR0.out.below (by rw [hW2]; exact hkl.bel)
  rw [← hW2] at hkl ⊢
  clear hW2 x0 x1 x2 x3 x4 x5 x6 x7 hfr0
  obtain ⟨x0, x1, x2, x3, x4, x5, x6, x7⟩ := hkl.cells
  obtain ⟨r0, r1, r2, r3, r4, r5, r6, r7⟩ := hkl.res
  have hfr := hkl.fro
  have HKL := Lib.hid hkl
  have HRL := Lib.hid hrl
  clear hkl hrl
  go_region
  go_wp2
  obtain ⟨e0, e1, e2, e3, e4, e5, e6, e7⟩ := HKL.out.putr (u0 := .int .i64 2) (u1 := .int .i64 3) (u2 := .int .i64 hd) (u3 := .slice A n cap) (u4 := .int .u32 it) (u5 := .int .u64 h) (u6 := .int .u32 x) (u7 := .int .i64 tr)
  exact bodyPost_ret (v := .tuple #[.slice R n' capR, mV 2 3 hd A n cap it h x tr]) (by simp [results, Tryz.results49, go_sem, e0, e1, e2, e3, e4, e5, e6, e7]) rfl ⟨R, capR, rfl, (KM.putd HRL.out).below (Below.refl _ _).drew, HKL.out.putb.drew⟩

theorem KM.far {P : Nat → Prop} {w w' : World} {kd pc hd : Int} {A : Option Addr} {n cap : Nat} {it h li tr : Int} (k : KM w w' kd pc hd A n cap it h li tr) (hP : ∀ b, w.heap.size ≤ b → P b) {b : Nat} (hb : w'.heap.size ≤ b) : P b ∧ b ≠ w.heap.size ∧ b ≠ w.heap.size + 1 := by
  have := k.lt
  exact ⟨hP b (by omega), by omega, by omega⟩
theorem ReadsW.off {P Q : Nat → Prop} {w w' : World} {A : Option Addr} {zs : List Int} (h : ReadsW P w A zs) (b : Nat) (u : Upd b b w w') (hP : ∀ c, P c → c ≠ b ∧ Q c) : ReadsW Q w' A zs := h.upd u fun c hc _ => ⟨(hP c hc).1, (hP c hc).1, (hP c hc).2⟩
theorem upd_one (w : World) (b i : Nat) (v : Value) : Upd b b w (w.setCell ⟨b, i, none⟩ v) := ⟨rfl, rfl, rfl, by simp, fun k hk h1 _ => heap_setCell_other w ⟨b, i, none⟩ k v h1⟩

set_option maxHeartbeats 8000000 in
theorem rturn_any (P : Nat → Prop) (R : Option Addr) (n' capR : Nat) (L : List Int) (kd pc hd : Int) (A : Option Addr) (n cap : Nat) (it h li tr x : Int) (w : World) (hn : n' = L.length) (hn2 : n' ≤ 1000000) (hR : ReadsW P w R L) (hP : ∀ b, w.heap.size ≤ b → P b)
    (h0 : 0 ≤ h) (h1 : h ≤ 18446744073709551615) (x0' : 0 ≤ x) (x1' : x ≤ 4294967295) :
    Calls Tryz.prog 83 #[.slice R n' capR, mV kd pc hd A n cap it h li tr, .int .u32 x] w (SomeStep P w n' (swv L hd h (turnw h x)) (mV kd (if swB L hd h = true then 0 else 1) hd A n cap it h li tr)) := by
  have hkm := KM.new w kd pc hd A n cap it h li tr
  have hb0 := hkm.bel
  have hlt := hkm.lt
  have HN := Lib.hid hn; have HP := Lib.hid hP
  have HR0 : Hid (ReadsW (fun b => P b ∧ b ≠ w.heap.size ∧ b ≠ w.heap.size + 1) w R L) := Lib.hid (fun h0 => by
    obtain ⟨b, off, e, hb, hp, hc⟩ := hR h0
    exact ⟨b, off, e, hb, ⟨hp, by omega, by omega⟩, hc⟩)
  obtain ⟨y, hy⟩ : ∃ y, y = (hiw h + 1) % 4294967296 := ⟨_, rfl⟩
  have y0 : 0 ≤ y := by omega
  have y1 : y ≤ 4294967295 := by omega
  have ew : IntKind.u32.wrap (h / 4294967296 + 1) = y := by rw [IntKind.wrap_u32, hy]; rfl
  obtain ⟨N, hN⟩ : ∃ N, N = turnw h x := ⟨_, rfl⟩
  have hNN : N = y * 4294967296 + x := by rw [hN, hy]; rfl
  obtain ⟨b, hb⟩ : ∃ b, b = swB L hd h := ⟨_, rfl⟩
  obtain ⟨L', hL'⟩ : ∃ L', L' = swv L hd h N := ⟨_, rfl⟩
  rw [← hN, ← hb, ← hL']
  have HNN := Lib.hid hNN; have HB := Lib.hid hb; have HW := Lib.hid hL'
  clear hn hR hP hy hN hNN hb hL'
  cases b
  · simp only [Bool.false_eq_true, if_false]
    go_enter Tryz.func83, Tryz.ntmps83
    go_wp2_with (fail)
    obtain ⟨W, hW⟩ : ∃ W, W = ((w.alloc (.cells #[.int .i64 kd, .int .i64 pc, .int .i64 hd, .slice A n cap, .int .u32 it, .int .u64 h, .int .u32 li, .int .i64 tr] 51)).alloc (.cells #[.int .i64 0, .int .i64 0, .int .i64 0, .slice none 0 0, .int .u32 0, .int .u64 0, .int .u32 0, .int .i64 0] 51)) := ⟨_, rfl⟩
    rw [← hW] at hkm hb0 hlt ⊢
    clear hW
    obtain ⟨x0, x1, x2, x3, x4, x5, x6, x7⟩ := hkm.cells
    have HKD := Lib.hid (hkm.step ((Below.refl W.heap.size W).drew))
    have HRD := Lib.hid (HR0.out.below (hb0.drew))
    clear hkm hb0
    go_region_held3 (fun w' => w'.cell? ⟨w.heap.size, 0, none⟩ = some (.int .i64 kd) ∧ w'.cell? ⟨w.heap.size, 1, none⟩ = some (.int .i64 pc) ∧ w'.cell? ⟨w.heap.size, 2, none⟩ = some (.int .i64 hd) ∧ w'.cell? ⟨w.heap.size, 3, none⟩ = some (.slice A n cap) ∧ w'.cell? ⟨w.heap.size, 4, none⟩ = some (.int .u32 it) ∧ w'.cell? ⟨w.heap.size, 5, none⟩ = some (.int .u64 h) ∧ w'.cell? ⟨w.heap.size, 6, none⟩ = some (.int .u32 li) ∧ w'.cell? ⟨w.heap.size, 7, none⟩ = some (.int .i64 tr))
      (first | (with_reducible exact HK1.out.cells) | (with_reducible exact HKD.out.cells) | fail)
      (first
        | (go_at_call 78; (with_reducible refine (refHigh_any h h0 h1 _).mono ?_); rintro r w3 ⟨rfl, hw⟩; cases hw)
        | (go_at_call 91; (with_reducible refine (refPair_any y x y0 y1 x0' x1' _).mono ?_); rintro r w3 ⟨rfl, hw⟩; cases hw; rw [← HNN.out])
        | (go_at_call 80; (with_reducible refine (rswap_any (fun b => P b ∧ b ≠ w.heap.size ∧ b ≠ w.heap.size + 1) R n' capR L hd h N _ HN.out hn2 HRD.out (fun b hb => HKD.out.far HP.out hb)).mono ?_); rintro r w4 ⟨R2, cap2, rfl, hx, hb⟩; rw [← HB.out]; rw [← HW.out] at hx; have HK1 := Lib.hid (HKD.out.step hb); have HR2 := Lib.hid hx; clear hb hx; have hfr0 := HK1.out.fro0)
        | fail)
    clear x0 x1 x2 x3 x4 x5 x6 x7
    obtain ⟨x0, x1, x2, x3, x4, x5, x6, x7⟩ := HK1.out.cells
    go_wp2_with (fail)
    have hkl := (HK1.out.pcS 1)
    obtain ⟨W2, hW2⟩ : ∃ W2, W2 = (w4.setCell ⟨w.heap.size, 1, none⟩ (.int .i64 1)) := ⟨_, rfl⟩
    have hrl : ReadsW (fun b => P b ∧ b ≠ w.heap.size + 1) W2 R2 L' := by
      rw [hW2]; exact HR2.out.off _ (upd_one _ _ _ _) (fun c hc => ⟨hc.2.1, hc.1, hc.2.2⟩)
    rw [← hW2] at hkl ⊢
    clear hW2 x0 x1 x2 x3 x4 x5 x6 x7 hfr0
    obtain ⟨x0, x1, x2, x3, x4, x5, x6, x7⟩ := hkl.cells
    obtain ⟨r0, r1, r2, r3, r4, r5, r6, r7⟩ := hkl.res
    have hfr := hkl.fro
    have HKL := Lib.hid hkl
    have HRL := Lib.hid hrl
    clear hkl hrl
    go_region
    go_wp2
    obtain ⟨e0, e1, e2, e3, e4, e5, e6, e7⟩ := HKL.out.putr (u0 := .int .i64 kd) (u1 := .int .i64 1) (u2 := .int .i64 hd) (u3 := .slice A n cap) (u4 := .int .u32 it) (u5 := .int .u64 h) (u6 := .int .u32 li) (u7 := .int .i64 tr)
    exact bodyPost_ret (v := .tuple #[.slice R2 n' cap2, mV kd 1 hd A n cap it h li tr]) (by simp [results, Tryz.results83, go_sem, e0, e1, e2, e3, e4, e5, e6, e7]) rfl ⟨R2, cap2, rfl, (KM.putd HRL.out).below (Below.refl _ _).drew, HKL.out.putb.drew⟩
  · simp only [if_true]
    go_enter Tryz.func83, Tryz.ntmps83
    go_wp2_with (fail)
    obtain ⟨W, hW⟩ : ∃ W, W = ((w.alloc (.cells #[.int .i64 kd, .int .i64 pc, .int .i64 hd, .slice A n cap, .int .u32 it, .int .u64 h, .int .u32 li, .int .i64 tr] 51)).alloc (.cells #[.int .i64 0, .int .i64 0, .int .i64 0, .slice none 0 0, .int .u32 0, .int .u64 0, .int .u32 0, .int .i64 0] 51)) := ⟨_, rfl⟩
    rw [← hW] at hkm hb0 hlt ⊢
    clear hW
    obtain ⟨x0, x1, x2, x3, x4, x5, x6, x7⟩ := hkm.cells
    have HKD := Lib.hid (hkm.step ((Below.refl W.heap.size W).drew))
    have HRD := Lib.hid (HR0.out.below (hb0.drew))
    clear hkm hb0
    go_region_held3 (fun w' => w'.cell? ⟨w.heap.size, 0, none⟩ = some (.int .i64 kd) ∧ w'.cell? ⟨w.heap.size, 1, none⟩ = some (.int .i64 pc) ∧ w'.cell? ⟨w.heap.size, 2, none⟩ = some (.int .i64 hd) ∧ w'.cell? ⟨w.heap.size, 3, none⟩ = some (.slice A n cap) ∧ w'.cell? ⟨w.heap.size, 4, none⟩ = some (.int .u32 it) ∧ w'.cell? ⟨w.heap.size, 5, none⟩ = some (.int .u64 h) ∧ w'.cell? ⟨w.heap.size, 6, none⟩ = some (.int .u32 li) ∧ w'.cell? ⟨w.heap.size, 7, none⟩ = some (.int .i64 tr))
      (first | (with_reducible exact HK1.out.cells) | (with_reducible exact HKD.out.cells) | fail)
      (first
        | (go_at_call 78; (with_reducible refine (refHigh_any h h0 h1 _).mono ?_); rintro r w3 ⟨rfl, hw⟩; cases hw)
        | (go_at_call 91; (with_reducible refine (refPair_any y x y0 y1 x0' x1' _).mono ?_); rintro r w3 ⟨rfl, hw⟩; cases hw; rw [← HNN.out])
        | (go_at_call 80; (with_reducible refine (rswap_any (fun b => P b ∧ b ≠ w.heap.size ∧ b ≠ w.heap.size + 1) R n' capR L hd h N _ HN.out hn2 HRD.out (fun b hb => HKD.out.far HP.out hb)).mono ?_); rintro r w4 ⟨R2, cap2, rfl, hx, hb⟩; rw [← HB.out]; rw [← HW.out] at hx; have HK1 := Lib.hid (HKD.out.step hb); have HR2 := Lib.hid hx; clear hb hx; have hfr0 := HK1.out.fro0)
        | fail)
    clear x0 x1 x2 x3 x4 x5 x6 x7
    obtain ⟨x0, x1, x2, x3, x4, x5, x6, x7⟩ := HK1.out.cells
    go_wp2_with (fail)
    have hkl := (HK1.out.pcS 1).pcS 0
    obtain ⟨W2, hW2⟩ : ∃ W2, W2 = ((w4.setCell ⟨w.heap.size, 1, none⟩ (.int .i64 1)).setCell ⟨w.heap.size, 1, none⟩ (.int .i64 0)) := ⟨_, rfl⟩
    have hrl : ReadsW (fun b => P b ∧ b ≠ w.heap.size + 1) W2 R2 L' := by
      rw [hW2]; exact HR2.out.off _ ((upd_one _ _ _ _).trans (upd_one _ _ _ _)) (fun c hc => ⟨hc.2.1, hc.1, hc.2.2⟩)
    rw [← hW2] at hkl ⊢
    clear hW2 x0 x1 x2 x3 x4 x5 x6 x7 hfr0
    obtain ⟨x0, x1, x2, x3, x4, x5, x6, x7⟩ := hkl.cells
    obtain ⟨r0, r1, r2, r3, r4, r5, r6, r7⟩ := hkl.res
    have hfr := hkl.fro
    have HKL := Lib.hid hkl
    have HRL := Lib.hid hrl
    clear hkl hrl
    go_region
    go_wp2
    obtain ⟨e0, e1, e2, e3, e4, e5, e6, e7⟩ := HKL.out.putr (u0 := .int .i64 kd) (u1 := .int .i64 0) (u2 := .int .i64 hd) (u3 := .slice A n cap) (u4 := .int .u32 it) (u5 := .int .u64 h) (u6 := .int .u32 li) (u7 := .int .i64 tr)
    exact bodyPost_ret (v := .tuple #[.slice R2 n' cap2, mV kd 0 hd A n cap it h li tr]) (by simp [results, Tryz.results83, go_sem, e0, e1, e2, e3, e4, e5, e6, e7]) rfl ⟨R2, cap2, rfl, (KM.putd HRL.out).below (Below.refl _ _).drew, HKL.out.putb.drew⟩

set_option maxHeartbeats 8000000 in
theorem rstep3_push (P : Nat → Prop) (R : Option Addr) (n' capR : Nat) (L : List Int) (hd : Int) (A : Option Addr) (n cap : Nat) (it h li tr : Int) (w : World) (hn : n' = L.length) (hn2 : n' ≤ 1000000) (hR : ReadsW P w R L) (hP : ∀ b, w.heap.size ≤ b → P b)
    (h0 : 0 ≤ h) (h1 : h ≤ 18446744073709551615) (x0' : 0 ≤ it) (x1' : it ≤ 4294967295) :
    Calls Tryz.prog 49 #[.slice R n' capR, mV 1 3 hd A n cap it h li tr] w (SomeStep P w n' (swv L hd h (turnw h it)) (mV 1 (if swB L hd h = true then 0 else 1) hd A n cap it h li tr)) := by
  have hkm := KM.new w 1 3 hd A n cap it h li tr
  have hb0 := hkm.bel
  have HN := Lib.hid hn; have HP := Lib.hid hP
  have HR0 : Hid (ReadsW (fun b => P b ∧ b ≠ w.heap.size + 1) w R L) := Lib.hid (fun h0 => by
    obtain ⟨b, off, e, hb, hp, hc⟩ := hR h0
    exact ⟨b, off, e, hb, ⟨hp, by omega⟩, hc⟩)
  obtain ⟨q, hq⟩ : ∃ q : Int, q = if swB L hd h = true then 0 else 1 := ⟨_, rfl⟩
  obtain ⟨L', hL'⟩ : ∃ L', L' = swv L hd h (turnw h it) := ⟨_, rfl⟩
  rw [← hq, ← hL']
  have HQ := Lib.hid hq; have HL := Lib.hid hL'
  clear hn hR hP hq hL'
  go_enter Tryz.func49, Tryz.ntmps49
  obtain ⟨W, hW⟩ : ∃ W, W = ((w.alloc (.cells #[.int .i64 1, .int .i64 3, .int .i64 hd, .slice A n cap, .int .u32 it, .int .u64 h, .int .u32 li, .int .i64 tr] 51)).alloc (.cells #[.int .i64 0, .int .i64 0, .int .i64 0, .slice none 0 0, .int .u32 0, .int .u64 0, .int .u32 0, .int .i64 0] 51)) := ⟨_, rfl⟩
  rw [← hW] at hkm hb0
  have HKM := Lib.hid hkm; have HB0 := Lib.hid hb0; have HW := Lib.hid hW
  clear hkm hb0 hW
  go_wp2_with (first
    | (go_at_call 83; rw [← HW.out]; (with_reducible refine (rturn_any (fun b => P b ∧ b ≠ w.heap.size + 1) R n' capR L 1 3 hd A n cap it h li tr it _ HN.out hn2 (HR0.out.below HB0.out) (fun b hb => ⟨(HKM.out.far HP.out hb).1, (HKM.out.far HP.out hb).2.2⟩) h0 h1 x0' x1').mono ?_); rintro r w3 ⟨R2, cap2, rfl, hx, hb⟩; rw [← HQ.out]; rw [← HL.out] at hx; have HK1 := Lib.hid (HKM.out.step hb); have HR2 := Lib.hid hx; clear hb hx; obtain ⟨r0, r1, r2, r3, r4, r5, r6, r7⟩ := HK1.out.res; have hfr := HK1.out.fro)
    | fail)
  obtain ⟨e0, e1, e2, e3, e4, e5, e6, e7⟩ := HK1.out.putr (u0 := .int .i64 1) (u1 := .int .i64 q) (u2 := .int .i64 hd) (u3 := .slice A n cap) (u4 := .int .u32 it) (u5 := .int .u64 h) (u6 := .int .u32 li) (u7 := .int .i64 tr)
  exact bodyPost_ret (v := .tuple #[.slice R2 n' cap2, mV 1 q hd A n cap it h li tr]) (by simp [results, Tryz.results49, go_sem, e0, e1, e2, e3, e4, e5, e6, e7]) rfl ⟨R2, cap2, rfl, KM.putd HR2.out, HK1.out.putb⟩

set_option maxHeartbeats 8000000 in
theorem rstep3_pop (P : Nat → Prop) (R : Option Addr) (n' capR : Nat) (L : List Int) (hd : Int) (A : Option Addr) (n cap : Nat) (it h li tr : Int) (w : World) (hn : n' = L.length) (hn2 : n' ≤ 1000000) (hR : ReadsW P w R L) (hP : ∀ b, w.heap.size ≤ b → P b)
    (h0 : 0 ≤ h) (h1 : h ≤ 18446744073709551615) (x0' : 0 ≤ li) (x1' : li ≤ 4294967295) :
    Calls Tryz.prog 49 #[.slice R n' capR, mV 2 3 hd A n cap it h li tr] w (SomeStep P w n' (swv L hd h (turnw h li)) (mV 2 (if swB L hd h = true then 0 else 1) hd A n cap it h li tr)) := by
  have hkm := KM.new w 2 3 hd A n cap it h li tr
  have hb0 := hkm.bel
  have HN := Lib.hid hn; have HP := Lib.hid hP
  have HR0 : Hid (ReadsW (fun b => P b ∧ b ≠ w.heap.size + 1) w R L) := Lib.hid (fun h0 => by
    obtain ⟨b, off, e, hb, hp, hc⟩ := hR h0
    exact ⟨b, off, e, hb, ⟨hp, by omega⟩, hc⟩)
  obtain ⟨q, hq⟩ : ∃ q : Int, q = if swB L hd h = true then 0 else 1 := ⟨_, rfl⟩
  obtain ⟨L', hL'⟩ : ∃ L', L' = swv L hd h (turnw h li) := ⟨_, rfl⟩
  rw [← hq, ← hL']
  have HQ := Lib.hid hq; have HL := Lib.hid hL'
  clear hn hR hP hq hL'
  go_enter Tryz.func49, Tryz.ntmps49
  obtain ⟨W, hW⟩ : ∃ W, W = ((w.alloc (.cells #[.int .i64 2, .int .i64 3, .int .i64 hd, .slice A n cap, .int .u32 it, .int .u64 h, .int .u32 li, .int .i64 tr] 51)).alloc (.cells #[.int .i64 0, .int .i64 0, .int .i64 0, .slice none 0 0, .int .u32 0, .int .u64 0, .int .u32 0, .int .i64 0] 51)) := ⟨_, rfl⟩
  rw [← hW] at hkm hb0
  have HKM := Lib.hid hkm; have HB0 := Lib.hid hb0; have HW := Lib.hid hW
  clear hkm hb0 hW
  go_wp2_with (first
    | (go_at_call 83; rw [← HW.out]; (with_reducible refine (rturn_any (fun b => P b ∧ b ≠ w.heap.size + 1) R n' capR L 2 3 hd A n cap it h li tr li _ HN.out hn2 (HR0.out.below HB0.out) (fun b hb => ⟨(HKM.out.far HP.out hb).1, (HKM.out.far HP.out hb).2.2⟩) h0 h1 x0' x1').mono ?_); rintro r w3 ⟨R2, cap2, rfl, hx, hb⟩; rw [← HQ.out]; rw [← HL.out] at hx; have HK1 := Lib.hid (HKM.out.step hb); have HR2 := Lib.hid hx; clear hb hx; obtain ⟨r0, r1, r2, r3, r4, r5, r6, r7⟩ := HK1.out.res; have hfr := HK1.out.fro)
    | fail)
  obtain ⟨e0, e1, e2, e3, e4, e5, e6, e7⟩ := HK1.out.putr (u0 := .int .i64 2) (u1 := .int .i64 q) (u2 := .int .i64 hd) (u3 := .slice A n cap) (u4 := .int .u32 it) (u5 := .int .u64 h) (u6 := .int .u32 li) (u7 := .int .i64 tr)
  exact bodyPost_ret (v := .tuple #[.slice R2 n' cap2, mV 2 q hd A n cap it h li tr]) (by simp [results, Tryz.results49, go_sem, e0, e1, e2, e3, e4, e5, e6, e7]) rfl ⟨R2, cap2, rfl, KM.putd HR2.out, HK1.out.putb⟩

/-- A step of the document's machine is that of the one over words. -/
theorem rstep_any {t : Int} (P : Nat → Prop) (R : Option Addr) (n' capR : Nat) (L : List Int) (m : Sm) (A : Option Addr) (n cap : Nat) (w : World) (hn : n' = L.length) (hn2 : n' ≤ 1000000) (hR : ReadsW P w R L) (hP : ∀ b, w.heap.size ≤ b → P b)
    (hz : n = m.k.links.length) (hK : Reads .i64 w A m.k.links) (hl : n ≤ 1000000) (wm : Wm t m) (ww : WW L) (ht : t ≤ 1000000000) :
    Calls Tryz.prog 49 #[.slice R n' capR, smV m A n cap] w (SomeStep P w n' (sstp L m).1 (smV (sstp L m).2 A n cap)) := by
  obtain ⟨kd, pc, k, it, h, li, tr⟩ := m
  have hpc : pc ≤ 3 := wm.pc
  have hkd : kd = 1 ∨ kd = 2 := .inl wm.kd
  have hi := wm.i; have hh := wm.h; have hli := wm.l; have htr := wm.t
  simp only at hi hh hli htr hz hK
  by_cases p0 : pc = 0
  · subst p0
    rw [sstp_no rfl]
    refine (rstep0_any R n' capR kd k.head A n cap it h li tr w).mono ?_
    rintro e w' ⟨rfl, hb⟩
    exact ⟨R, capR, rfl, hR.below hb, hb⟩
  by_cases p1 : pc = 1
  · subst p1
    rcases hkd with rfl | rfl
    · rw [push_first (m := ⟨1, 1, k, it, h, li, tr⟩) rfl rfl rfl]
      refine (rstep1_push R n' capR L k.head A n cap it h li tr w hn hR.reads ww htr.1 (by omega)).mono ?_
      rintro e w' ⟨rfl, hb⟩
      exact ⟨R, capR, rfl, hR.below hb, hb⟩
    · rw [pop_first (m := ⟨2, 1, k, it, h, li, tr⟩) rfl rfl rfl]
      refine (rstep1_pop R n' capR L k.head A n cap it h li tr w hn hR.reads ww htr.1 (by omega)).mono ?_
      rintro e w' ⟨rfl, hb⟩
      by_cases hz0 : low (ldq L k.head) = 0
      · simp only [hz0, if_true]
        exact ⟨R, capR, rfl, hR.below hb, hb⟩
      · simp only [hz0, if_false]
        exact ⟨R, capR, rfl, hR.below hb, hb⟩
  by_cases p2 : pc = 2
  · subst p2
    rcases hkd with rfl | rfl
    · rw [push_link (m := ⟨1, 2, k, it, h, li, tr⟩) rfl rfl]
      exact rstep2_push P R n' capR L k.head A n cap k.links it h li tr w hn hn2 hR hP hz hK hl hi.1 hi.2 hli.1 hli.2
    · rw [pop_link (m := ⟨2, 2, k, it, h, li, tr⟩) rfl rfl]
      exact rstep2_pop P R n' capR L k.head A n cap k.links it h li tr w hn hR ww hz hK hl hi.1 hi.2
  have p3 : pc = 3 := by omega
  subst p3
  have key : ∀ x kd', SomeStep P w n' (swv L k.head h (turnw h x)) (mV kd' (if swB L k.head h = true then 0 else 1) k.head A n cap it h li tr) = SomeStep P w n' (swapS L ⟨kd, 3, k, it, h, li, tr⟩ x).1 (mV kd' ((swapS L ⟨kd, 3, k, it, h, li, tr⟩ x).2.pc : Int) k.head A n cap it h li tr) := by
    intro x kd'
    rw [swv_eq]
    unfold swapS
    by_cases hc : (0 ≤ k.head ∧ k.head < L.length) ∧ L.getD k.head.toNat 0 = h
    · rw [if_pos hc, if_pos hc, if_pos ((swB_iff ..).2 hc)]; rfl
    · rw [if_neg hc, if_neg hc, if_neg (fun h2 => hc ((swB_iff ..).1 h2))]; rfl
  have key2 : ∀ x, (swapS L ⟨kd, 3, k, it, h, li, tr⟩ x).2 = ⟨kd, (swapS L ⟨kd, 3, k, it, h, li, tr⟩ x).2.pc, k, it, h, li, tr⟩ := by
    intro x
    unfold swapS
    exact ite_ind (P := fun z : List Int × Sm => z.2 = ⟨kd, z.2.pc, k, it, h, li, tr⟩) rfl rfl
  rcases hkd with rfl | rfl
  · rw [push_swap (m := ⟨1, 3, k, it, h, li, tr⟩) rfl rfl]
    have := rstep3_push P R n' capR L k.head A n cap it h li tr w hn hn2 hR hP hh.1 hh.2 hi.1 hi.2
    rw [key] at this
    rw [key2 it]
    exact this
  · rw [pop_swap (m := ⟨2, 3, k, it, h, li, tr⟩) rfl rfl]
    have := rstep3_pop P R n' capR L k.head A n cap it h li tr w hn hn2 hR hP hh.1 hh.2 hli.1 hli.2
    rw [key] at this
    rw [key2 li]
    exact this
end Go.Proofs.YtbpkcoemehmpbaaGreat
