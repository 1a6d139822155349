/- The document's graph: which nodes can be come to, marked; walked. -/
import Derived.Test.YtjnkcomedcbenaaGPush
namespace Go.Proofs.Ytjnkcomedcbenaa
open Go.RowKit
set_option linter.unusedVariables false

theorem made_bools (n : Nat) : (madeCells (Value.bool false).cells n).toList = List.replicate n (.bool false) := by
  apply List.ext_getElem?
  intro j
  by_cases hj : j < n
  · simp [madeCells, hj, Value.cells, Nat.mod_one]
  · simp [madeCells, hj]
theorem make_bools (n : Nat) (w : World) (hn : n ≤ 1000000) : (Instr.makeSlice 49 (.int .i64 (n : Int)) (.int .i64 (n : Int))).run Try.prog w = .ok (.slice (some ⟨w.heap.size, 0, none⟩) n n) (w.alloc (.cells ((List.replicate n false).map Value.bool).toArray 4)) := by
  obtain ⟨i0, hi, hz0, hz1, hz2⟩ := info_parts info4
  have := run_make w 49 4 i0 (.bool false) Try.underlying49 hi hz0 .i64 .i64 n n (by omega) (Int.le_refl _) (by rw [hz2]; omega) (by omega)
  have e : madeCells (Value.bool false).cells n = ((List.replicate n false).map Value.bool).toArray := by
    apply Array.ext'
    rw [made_bools]; simp
  simpa [hz1, e] using this

/-- A block of marks. -/
def BRow (w : World) (D : Nat) (is : List Bool) : Prop := w.heap[D]? = some (.cells (is.map Value.bool).toArray 4 (0, 0))
theorem BRow.cell {w : World} {D : Nat} {is : List Bool} (h : BRow w D is) (j : Nat) (hj : j < is.length) : w.cell? ⟨D, j, none⟩ = some (.bool (getB is j)) ∧ w.frozen? ⟨D, j, none⟩ = false := by
  refine ⟨?_, frozen_of_row w D j _ _ h⟩
  have h' : w.heap[D]? = _ := h
  simp only [World.cell?, h']
  simp [getB, List.getD, hj]
theorem BRow.set {w : World} {D : Nat} {is : List Bool} (h : BRow w D is) (j : Nat) (b : Bool) : BRow (w.setCell ⟨D, j, none⟩ (.bool b)) D (is.set j b) := by
  have := heap_setCell_same w D j _ 4 (.bool b) h
  unfold BRow
  rw [this, List.map_set]
  simp
theorem brow_new (w : World) (is : List Bool) : BRow (w.alloc (.cells (is.map Value.bool).toArray 4)) w.heap.size is := by
  show (w.heap.push _)[w.heap.size]? = _
  simp
theorem BRow.kept {w w' : World} {D : Nat} {is : List Bool} (h : BRow w D is) (hb : Below w.heap.size w w') : BRow w' D is := (hb.block D (Array.getElem?_eq_some_iff.1 h).1).trans h

/-- What is known while marks are set. -/
structure Rs (w wr : World) (A : Option Addr) (rn c : Nat) (B : Option Addr) (nn d : Nat) (mo : Int) (g : Gr) (D : Nat) (is : List Bool) : Prop where
  bel : Below w.heap.size w wr
  b0 : wr.cell? ⟨w.heap.size, 0, none⟩ = some (.slice A rn c)
  b1 : wr.cell? ⟨w.heap.size, 1, none⟩ = some (.slice B nn d)
  gm : GM (· < w.heap.size) wr A rn c B nn d mo g
  row : BRow wr D is
  hD : w.heap.size < D
theorem Rs.set {w wr : World} {A : Option Addr} {rn c : Nat} {B : Option Addr} {nn d : Nat} {mo : Int} {g : Gr} {D : Nat} {is : List Bool} (h : Rs w wr A rn c B nn d mo g D is) (j : Nat) : Rs w (wr.setCell ⟨D, j, none⟩ (.bool true)) A rn c B nn d mo g D (is.set j true) := by
  have hD := h.hD
  exact ⟨h.bel.setCell (by show w.heap.size ≤ D; omega) _, (World.cell?_setCell_other _ _ _ _ (by intro e; injection e with e1; omega)).trans h.b0, (World.cell?_setCell_other _ _ _ _ (by intro e; injection e with e1; omega)).trans h.b1,
    h.gm.kept ((Kept.refl _ _).set (by omega) _ _), h.row.set j true, hD⟩
theorem Rs.start {P : Nat → Prop} {w : World} {A : Option Addr} {rn c : Nat} {B : Option Addr} {nn d : Nat} {mo : Int} {g : Gr} (h : GM P w A rn c B nn d mo g) (is : List Bool) :
    Rs w ((w.alloc (.cells #[.slice A rn c, .slice B nn d, .int .i64 mo] 28)).alloc (.cells (is.map Value.bool).toArray 4)) A rn c B nn d mo g (w.heap.size + 1) is := by
  have hb : Below w.heap.size w ((w.alloc (.cells #[.slice A rn c, .slice B nn d, .int .i64 mo] 28)).alloc (.cells (is.map Value.bool).toArray 4)) := below_alloc0 (below_alloc0 (Below.refl _ _) _) _
  refine ⟨hb, ?_, ?_, (h.to fun b hlt _ => hlt).below hb, ?_, by omega⟩
  · rw [World.cell?_alloc_lt _ _ _ (by simp), World.cell?_alloc_at _ _ _ _ rfl]; rfl
  · rw [World.cell?_alloc_lt _ _ _ (by simp), World.cell?_alloc_at _ _ _ _ rfl]; rfl
  · have := brow_new (w.alloc (.cells #[.slice A rn c, .slice B nn d, .int .i64 mo] 28)) is
    simpa using this

/-- Marks that are those of who can be come to. -/
def SomeMarks (w : World) (nn : Nat) (g : Gr) (e : Ending) (w' : World) : Prop :=
  ∃ D is, e = .returned (.slice (some ⟨D, 0, none⟩) nn nn) ∧ BRow w' D is ∧ is.length = nn ∧ (∀ i : Nat, getB is i = rchB g ((i : Int) + 1)) ∧ Below w.heap.size w w'

set_option maxHeartbeats 16000000 in
set_option maxRecDepth 100000 in
theorem reached_any {P : Nat → Prop} (A : Option Addr) (rn c : Nat) (B : Option Addr) (nn d : Nat) (mo : Int) (g : Gr) (w : World) (h : GM P w A rn c B nn d mo g) (hk : Ok g) (hmo : g.most ≤ 1000) (hnn : nn ≤ 1000) :
    Calls Try.prog 41 #[gV A rn c B nn d mo] w (SomeMarks w nn g) := by
  have hrn := h.ra.1
  have hnl := h.rb.1
  have hmk := fun w => make_bools nn w (by omega)
  have hst := Rs.start h (List.replicate nn false)
  obtain ⟨C, hC⟩ : ∃ C, C = ((List.replicate nn false).map Value.bool).toArray := ⟨_, rfl⟩
  rw [← hC] at hmk hst
  have HST := Lib.hid hst
  have HRN := Lib.hid hrn; have HNL := Lib.hid hnl; have HOK := Lib.hid hk
  have hr16 : rn ≤ 16 := by have := hk.many; omega
  have HMO := Lib.hid hmo
  clear hst hC h hrn hnl hk hmo
  go_enter Try.func41, Try.ntmps41
  go_wp2_with (fail)
  obtain ⟨D, hD⟩ : ∃ D, D = w.heap.size + 1 := ⟨_, rfl⟩
  rw [← hD] at HST ⊢
  clear hmk
  go_loopw [4] (fun mv wr => ∃ (m : Nat) (is : List Bool), m ≤ rn ∧ mv = .int .i64 (m : Int) ∧ Rs w wr A rn c B nn d mo g D is ∧ RootsTo g m 0 is) (fun mv _ => rn - (intOf mv).toNat)
  case atStart => exact ⟨0, _, Nat.zero_le _, rfl, HST.out, by rw [HNL.out]; exact roots_start g⟩
  case round =>
    clear HST hD
    obtain ⟨m, is, hm, rfl, hrs, hrt⟩ := hrel
    by_cases hlt : m < rn
    · obtain ⟨b, off, R, q, rfl, hbl, hcell, hrd, hq, hqm, hqn⟩ := hrs.gm.ra.get m hlt
      obtain ⟨l, hl⟩ : ∃ l, l = row g.roots m := ⟨_, rfl⟩
      rw [← hl] at hcell hrd hq
      obtain ⟨n, hn⟩ : ∃ n, n = l.length := ⟨_, rfl⟩
      rw [← hn] at hcell hq
      have hb0 := hrs.b0
      have hm0 : (0 : Int) ≤ (m : Int) := by omega
      have hm1 : (m : Int) < (rn : Int) := by omega
      have hn1 : n ≤ 1000 := by have h1 := HOK.out.len m (by have := HRN.out; omega); have h2 := HMO.out; rw [← hl] at h1; omega
      have HN := Lib.hid hn; have HLL := Lib.hid hl
      have HRS := Lib.hid hrs; have HRT := Lib.hid hrt
      clear hrs hrt hn hl hrd hqn hlt
      go_wp2_with (fail)
      clear hcell hb0
      go_loopw [5] (fun av wx => ∃ (a : Nat) (is : List Bool), a ≤ n ∧ av = .int .i64 (a : Int) ∧ Rs w wx (some ⟨b, off, none⟩) rn c B nn d mo g D is ∧ RootsTo g m a is) (fun av _ => n - (intOf av).toNat)
      case atStart => exact ⟨0, is, Nat.zero_le _, rfl, HRS.out, HRT.out⟩
      case round =>
        clear HRS HRT
        obtain ⟨a, is, ha, rfl, hrs, hrt⟩ := hrel
        have hb0 := hrs.b0
        obtain ⟨b', off', R', q', hbo, hbl', hcell, hrd, hq', hqm', hqn'⟩ := hrs.gm.ra.get m (by omega)
        cases hbo
        rw [← HLL.out] at hcell hrd hq'
        rw [← HN.out] at hcell hq'
        by_cases hlt : a < n
        · obtain ⟨b2, off2, rfl, hlt2, hc2⟩ := hrd (by have := HN.out; omega)
          have hck := hc2 a (by have := HN.out; omega)
          obtain ⟨z, hz⟩ : ∃ z, z = num l a := ⟨_, rfl⟩
          rw [show l.getD a 0 = z from hz.symm] at hck
          have ha0 : (0 : Int) ≤ (a : Int) := by omega
          have ha1 : (a : Int) < (n : Int) := by omega
          have hzb : z ≤ (nn : Int) := by
            have h1 := (HOK.out.r m a (by have := HRN.out; omega) (by rw [← HLL.out, ← HN.out]; exact hlt)).2
            rw [← HLL.out, ← hz, ← HNL.out] at h1
            exact h1
          have hstep := roots_step HOK.out hrt (by have := HRN.out; omega) (by rw [← HLL.out, ← HN.out]; exact hlt)
          rw [← HLL.out, ← hz] at hstep
          by_cases hz0 : 0 < z
          · obtain ⟨j, hj⟩ : ∃ j : Nat, z = (j : Int) + 1 := ⟨(z - 1).toNat, by omega⟩
            have hjn : j < nn := by omega
            obtain ⟨hcj, hfj⟩ := hrs.row.cell j (by have := hrs.row; have := hrt.1.1; have := HNL.out; omega)
            have hmke : mk is z = is.set j true := by unfold mk; rw [if_pos hz0]; rw [show (z - 1).toNat = j by omega]
            rw [hmke] at hstep
            have HS := Lib.hid hstep; have HRS := Lib.hid (hrs.set j)
            subst hj
            have hj0 : (0 : Int) ≤ (j : Int) := by omega
            have hj1 : (j : Int) < (nn : Int) := by omega
            have hw2 : IntKind.i64.wrap ((j : Int) + 1 - 1) = (j : Int) := by rw [IntKind.wrap_i64]; omega
            have hw3 : IntKind.i64.wrap (j : Int) = (j : Int) := by rw [IntKind.wrap_i64]; omega
            clear hrs hrt hrd hstep hc2 hz hmke hqn' hlt hzb
            go_wp2_with (fail)
            clear hb0 hcell hck hcj hfj
            go_roundw
            case rel => exact ⟨a + 1, _, by omega, by go_num, HRS.out, HS.out⟩
            case measure => simp [intOf]; omega
          · have hz1 : z ≤ 0 := by omega
            have hmke : mk is z = is := by unfold mk; rw [if_neg hz0]
            rw [hmke] at hstep
            have HS := Lib.hid hstep; have HRS := Lib.hid hrs
            clear hrs hrt hrd hstep hc2 hz hmke hqn' hlt hzb hz0
            go_wp2_with (fail)
            clear hb0 hcell hck
            go_roundw
            case rel => exact ⟨a + 1, _, by omega, by go_num, HRS.out, HS.out⟩
            case measure => simp [intOf]; omega
        · obtain rfl : a = n := by omega
          have HS := Lib.hid (roots_next hrt (by rw [← HLL.out, ← HN.out]; exact Nat.le_refl _))
          have HRS := Lib.hid hrs
          clear hrs hrt hrd hqn' hlt
          go_wp2_with (fail)
          clear hb0 hcell
          go_roundw
          case rel => exact ⟨m + 1, is, by omega, by go_num, HRS.out, HS.out⟩
          case measure => simp [intOf]; omega
    · obtain rfl : m = rn := by omega
      have HH : Hid (Head g 0 is) := Lib.hid (roots_end (by rw [← HRN.out]; exact hrt))
      have HRS := Lib.hid hrs
      have hb0 := hrs.b0
      clear hrs hrt hlt
      go_wp2_with (fail)
      clear hb0
      go_loopw [6] (fun nv wx => ∃ (n : Nat) (is : List Bool), n ≤ nn ∧ nv = .int .i64 (n : Int) ∧ Rs w wx A m c B nn d mo g D is ∧ Head g n is) (fun nv _ => nn - (intOf nv).toNat)
      case atStart => exact ⟨0, is, Nat.zero_le _, rfl, HRS.out, HH.out⟩
      case round =>
        clear HRS HH
        obtain ⟨n, is, hn, rfl, hrs, hh⟩ := hrel
        have hb1 := hrs.b1
        by_cases hlt : n < nn
        · have HRS := Lib.hid hrs
          have HW := Lib.hid (within_start hh); have HH := Lib.hid hh
          have hn1 : (n : Int) < (nn : Int) := by omega
          clear hrs hh hlt
          go_wp2_with (fail)
          clear hb1
          go_loopw [7] (fun vv wy => ∃ (v : Nat) (js : List Bool), v ≤ nn ∧ vv = .int .i64 (v : Int) ∧ Rs w wy A m c B nn d mo g D js ∧ Within g is v 0 js) (fun vv _ => nn - (intOf vv).toNat)
          case atStart => exact ⟨0, is, Nat.zero_le _, rfl, HRS.out, HW.out⟩
          case round =>
            clear HRS HW
            obtain ⟨v, js, hv, rfl, hrs, hw⟩ := hrel
            have hb1 := hrs.b1
            by_cases hlt : v < nn
            · obtain ⟨b, off, R, q, rfl, hbl, hcell, hrd, hq, hqm, hqn⟩ := hrs.gm.rb.get v hlt
              obtain ⟨l, hl⟩ : ∃ l, l = row g.nodes v := ⟨_, rfl⟩
              rw [← hl] at hcell hrd hq
              obtain ⟨k, hk⟩ : ∃ k, k = l.length := ⟨_, rfl⟩
              rw [← hk] at hcell hq
              have hk1 : k ≤ 64 := by have h1 := HOK.out.sz v (by have := HNL.out; omega); rw [← hl] at h1; omega
              have hv1 : (v : Int) < (nn : Int) := by omega
              have hv0 : (0 : Int) ≤ (v : Int) := by omega
              have HKL := Lib.hid hk; have HLL := Lib.hid hl
              have HRS := Lib.hid hrs; have HW := Lib.hid hw
              clear hrs hw hl hk hrd hqn hlt
              go_wp2_with (fail)
              clear hb1 hcell
              go_loopw [8] (fun iv wz => ∃ (i : Nat) (ks : List Bool), i ≤ k ∧ iv = .int .i64 (i : Int) ∧ Rs w wz A m c (some ⟨b, off, none⟩) nn d mo g D ks ∧ Within g is v i ks) (fun iv _ => k - (intOf iv).toNat)
              case atStart => exact ⟨0, js, Nat.zero_le _, rfl, HRS.out, HW.out⟩
              case round =>
                clear HRS HW
                obtain ⟨i, ks, hi, rfl, hrs, hw⟩ := hrel
                have hb1 := hrs.b1
                obtain ⟨b', off', R', q', hbo, hbl', hcell, hrd, hq', hqm', hqn'⟩ := hrs.gm.rb.get v (by omega)
                cases hbo
                rw [← HLL.out] at hcell hrd hq'
                rw [← HKL.out] at hcell hq'
                have hksl : ks.length = nn := by have := hw.1.1; have := HNL.out; omega
                obtain ⟨hcv, hfv⟩ := hrs.row.cell v (by omega)
                obtain ⟨mkd, hmkd⟩ : ∃ x, x = getB ks v := ⟨_, rfl⟩
                rw [← hmkd] at hcv
                by_cases hlt : i < k
                · have hi0 : (0 : Int) ≤ (i : Int) := by omega
                  have hi1 : (i : Int) < (k : Int) := by omega
                  have hi2 : decide (i < k) = true := by simpa using hlt
                  cases mkd
                  · have HS := Lib.hid (within_next hw (.inr hmkd.symm))
                    have HRS := Lib.hid hrs
                    clear hrs hw hrd hqn' hlt hmkd hksl hfv
                    go_wp2_with (fail)
                    clear hb1 hcell hcv
                    go_roundw
                    case rel => exact ⟨v + 1, ks, by omega, by go_num, HRS.out, HS.out⟩
                    case measure => simp [intOf]; omega
                  · obtain ⟨b2, off2, rfl, hlt2, hc2⟩ := hrd (by have := HKL.out; omega)
                    have hck := hc2 i (by have := HKL.out; omega)
                    obtain ⟨z, hz⟩ : ∃ z, z = num l i := ⟨_, rfl⟩
                    rw [show l.getD i 0 = z from hz.symm] at hck
                    have hzb : z ≤ (nn : Int) := by
                      have h1 := (HOK.out.n v i (by have := HNL.out; omega) (by rw [← HLL.out, ← HKL.out]; exact hlt)).2
                      rw [← HLL.out, ← hz, ← HNL.out] at h1
                      exact h1
                    have hstep := within_step HOK.out hw (by have := HNL.out; omega) (by rw [← HLL.out, ← HKL.out]; exact hlt) hmkd.symm
                    rw [← HLL.out, ← hz] at hstep
                    by_cases hz0 : 0 < z
                    · obtain ⟨j, hj⟩ : ∃ j : Nat, z = (j : Int) + 1 := ⟨(z - 1).toNat, by omega⟩
                      have hjn : j < nn := by omega
                      obtain ⟨hcj, hfj⟩ := hrs.row.cell j (by omega)
                      have hmke : mk ks z = ks.set j true := by unfold mk; rw [if_pos hz0]; rw [show (z - 1).toNat = j by omega]
                      rw [hmke] at hstep
                      have HS := Lib.hid hstep; have HRS := Lib.hid (hrs.set j)
                      subst hj
                      have hj0 : (0 : Int) ≤ (j : Int) := by omega
                      have hj1 : (j : Int) < (nn : Int) := by omega
                      have hw2 : IntKind.i64.wrap ((j : Int) + 1 - 1) = (j : Int) := by rw [IntKind.wrap_i64]; omega
                      have hw3 : IntKind.i64.wrap (j : Int) = (j : Int) := by rw [IntKind.wrap_i64]; omega
                      clear hrs hw hrd hstep hc2 hz hmke hqn' hlt hzb hmkd hksl hfv
                      go_wp2_with (fail)
                      clear hb1 hcell hck hcj hfj hcv
                      go_roundw
                      case rel => exact ⟨i + 1, _, by omega, by go_num, HRS.out, HS.out⟩
                      case measure => simp [intOf]; omega
                    · have hz1 : z ≤ 0 := by omega
                      have hmke : mk ks z = ks := by unfold mk; rw [if_neg hz0]
                      rw [hmke] at hstep
                      have HS := Lib.hid hstep; have HRS := Lib.hid hrs
                      clear hrs hw hrd hstep hc2 hz hmke hqn' hlt hzb hz0 hmkd hksl hfv
                      go_wp2_with (fail)
                      clear hb1 hcell hck hcv
                      go_roundw
                      case rel => exact ⟨i + 1, _, by omega, by go_num, HRS.out, HS.out⟩
                      case measure => simp [intOf]; omega
                · obtain rfl : i = k := by omega
                  have HS := Lib.hid (within_next hw (.inl (by rw [← HLL.out, ← HKL.out]; exact Nat.le_refl _)))
                  have HRS := Lib.hid hrs
                  clear hrs hw hrd hqn' hlt hmkd hksl hfv
                  go_wp2_with (fail)
                  clear hb1 hcell hcv
                  go_roundw
                  case rel => exact ⟨v + 1, ks, by omega, by go_num, HRS.out, HS.out⟩
                  case measure => simp [intOf]; omega
            · obtain rfl : v = nn := by omega
              have HS : Hid (Head g (n + 1) js) := Lib.hid (within_end HH.out (by rw [← HNL.out]; exact hw))
              have HRS := Lib.hid hrs
              clear hrs hw hlt
              go_wp2_with (fail)
              clear hb1
              go_roundw
              case rel => exact ⟨n + 1, js, by omega, by go_num, HRS.out, HS.out⟩
              case measure => simp [intOf]; omega
        · obtain rfl : n = nn := by omega
          have HS := Lib.hid (head_end HOK.out (by rw [← HNL.out]; exact hh))
          have HL : Hid (is.length = n) := Lib.hid (by have := hh.1.1; have := HNL.out; omega)
          have HRS := Lib.hid hrs
          clear hrs hh hlt
          go_wp2_with (fail)
          go_ret
          exact ⟨D, is, rfl, HRS.out.row, HL.out, HS.out, HRS.out.bel⟩
end Go.Proofs.Ytjnkcomedcbenaa
