/- The document's own map and what its pool holds, walked. May a configuration be, and has it few cells: walked. Words that others change, as they came in. How a law begins that takes a configuration: its box, and what came in beside it. A store of the call's own under a map: how it begins, its accesses; a machine that sweeps over it, step by step; walked. -/
import Derived.Test.YtbpkcoemehmpbaaJ10
import Derived.Test.YtbpkcoemehmpbaaJ7
import Derived.Test.YtbpkcoemehmpbaaLayChk
import Derived.Test.YtbpkcoemehmpbaaLayNew
import Derived.Test.YtbpkcoemehmpbaaLayFirst
import Derived.Test.YtbpkcoemehmpbaaJ6
import Derived.Deep.SlicePairs
import Derived.ProofKit
import Derived.OpenShut
import Derived.ChangeOld
import Derived.Test.YtbpkcoemehmpbaaJ13
import Derived.Test.YtbpkcoemehmpbaaSwQ
namespace Go.Proofs.Ytbpkcoemehmpbaa
open Go.RowKit
set_option linter.unusedVariables false
open Lay (plcc plc shOf packN nodesN OkC Cfg Norm firstV Rep lenL things)

/-- The cells of a configuration in its box. -/
abbrev CfgC (B : Nat) (c : Cfg) (w' : World) : Prop := w'.cell? ⟨B, 0, none⟩ = some (.int .i64 c.a) ∧ w'.cell? ⟨B, 1, none⟩ = some (.int .i64 c.b) ∧ w'.cell? ⟨B, 2, none⟩ = some (.int .i64 c.c) ∧ w'.cell? ⟨B, 3, none⟩ = some (.int .i64 c.d) ∧ w'.cell? ⟨B, 4, none⟩ = some (.int .i64 c.e) ∧ w'.cell? ⟨B, 5, none⟩ = some (.int .i64 c.mr) ∧ w'.cell? ⟨B, 6, none⟩ = some (.int .i64 c.mu) ∧ w'.cell? ⟨B, 7, none⟩ = some (.int .i64 c.dq) ∧ w'.cell? ⟨B, 8, none⟩ = some (.int .i64 c.ch) ∧ w'.cell? ⟨B, 9, none⟩ = some (.int .i64 c.bf) ∧ w'.cell? ⟨B, 10, none⟩ = some (.int .i64 c.rt) ∧ w'.cell? ⟨B, 11, none⟩ = some (.int .i64 c.sw)
theorem kc_cells {w : World} {B : Nat} {c : Cfg} {w' : World} (h : Lay.KC w B c w') : CfgC B c w' := ⟨h.c0, h.c1, h.c2, h.c3, h.c4, h.c5, h.c6, h.c7, h.c8, h.c9, h.c10, h.c11⟩
/-- A configuration's box, and behind it that of an answer of two cells. -/
structure KR (w : World) (c : Cfg) (w' : World) : Prop where
  k : Lay.KC w w.heap.size c w'
  r0 : w'.cell? ⟨w.heap.size + 1, 0, none⟩ = some (.slice none 0 0)
  r1 : w'.cell? ⟨w.heap.size + 1, 1, none⟩ = some (.int .i64 0)
  f : ∀ j, w'.frozen? ⟨w.heap.size + 1, j, none⟩ = false
  lt : w.heap.size + 1 < w'.heap.size
theorem KR.step {w : World} {c : Cfg} {w' w2 : World} (h : KR w c w') (hb : Below w'.heap.size w' w2) : KR w c w2 :=
  ⟨h.k.step hb, (hb.cell (p := ⟨w.heap.size + 1, 0, none⟩) h.lt).trans h.r0, (hb.cell (p := ⟨w.heap.size + 1, 1, none⟩) h.lt).trans h.r1, fun j => (hb.frozen (p := ⟨w.heap.size + 1, j, none⟩) h.lt).trans (h.f j), Nat.lt_of_lt_of_le h.lt hb.size⟩
theorem KR.drew {w : World} {c : Cfg} {w' : World} (h : KR w c w') : KR w c w'.drew := h.step (Below.refl _ _).drew
theorem KR.set {w : World} {c : Cfg} {w' : World} (h : KR w c w') (u0 u1 : Value) : CfgC w.heap.size c ((w'.setCell ⟨w.heap.size + 1, 0, none⟩ u0).setCell ⟨w.heap.size + 1, 1, none⟩ u1) := by
  have far : ∀ i, ((w'.setCell ⟨w.heap.size + 1, 0, none⟩ u0).setCell ⟨w.heap.size + 1, 1, none⟩ u1).cell? ⟨w.heap.size, i, none⟩ = w'.cell? ⟨w.heap.size, i, none⟩ := fun i => by
    rw [World.cell?_setCell_other _ _ _ _ (adr_ne (.inl (by omega))), World.cell?_setCell_other _ _ _ _ (adr_ne (.inl (by omega)))]
  have k := kc_cells h.k
  unfold CfgC at k ⊢
  simp only [far]
  exact k
theorem KR.start (w : World) (c : Cfg) (t T : TypeId) : KR w c ((w.alloc (Lay.cfgO c t)).alloc (.cells #[.slice none 0 0, .int .i64 0] T)) := by
  have hk := (Lay.KC.start c t w w (Below.refl _ _)).step (below_alloc0 (Below.refl _ _) (.cells #[.slice none 0 0, .int .i64 0] T))
  have e : w.heap.size + 1 = (w.alloc (Lay.cfgO c t)).heap.size := by simp
  refine ⟨hk, ?_, ?_, fun j => ?_, by simp⟩
  · rw [e, World.cell?_alloc_at _ _ _ _ rfl]; rfl
  · rw [e, World.cell?_alloc_at _ _ _ _ rfl]; rfl
  · rw [e]; exact World.frozen?_alloc_new _ _ _ _

/-- What it reads stands in other blocks. -/
def Off (w : World) (A : Option Addr) (k : Nat) : Prop := ∀ b off, A = some ⟨b, off, none⟩ → b ≠ k
theorem reads_off {w : World} {A : Option Addr} {l : List Lay.Th} {k : Nat} {w0 : World} (h : Lay.ReadsT w A l) (ho : Off w0 A k) {u0 u1 : Value} : Lay.ReadsT ((w.setCell ⟨k, 0, none⟩ u0).setCell ⟨k, 1, none⟩ u1) A l := fun h0 => by
  obtain ⟨b, off, e, hlt, hc⟩ := h h0
  have hne := ho b off e
  have far : ∀ i, ((w.setCell ⟨k, 0, none⟩ u0).setCell ⟨k, 1, none⟩ u1).cell? ⟨b, i, none⟩ = w.cell? ⟨b, i, none⟩ := fun i => by
    rw [World.cell?_setCell_other _ _ _ _ (adr_ne (.inl (by omega))), World.cell?_setCell_other _ _ _ _ (adr_ne (.inl (by omega)))]
  exact ⟨b, off, e, by simpa using hlt, fun j hj => by rw [far, far, far]; exact hc j hj⟩

end Go.Proofs.Ytbpkcoemehmpbaa

namespace Go.Proofs.Ytbpkcoemehmpbaa
open Go.RowKit
set_option linter.unusedVariables false
open Lay (plcc plc shOf packN nodesN OkC Cfg Norm firstV Rep lenL things cnt sumTo cfgO)

/-- What small tells. -/
def SmallP (c : Cfg) (w : World) (e : Ending) (w' : World) : Prop := ∃ b, e = .returned (.bool b) ∧ (b = true → OkC c ∧ nodesN c ≤ 12) ∧ Below w.heap.size w w'

set_option maxHeartbeats 4000000 in
theorem small_any (c : Cfg) (w : World) : Calls Try.prog 7 #[Lay.cfgV c] w (SmallP c w) := by
  obtain ⟨w0, hw0⟩ : ∃ w0 : World, w0 = w.alloc (cfgO c 24) := ⟨_, rfl⟩
  have hc0 : ∀ K, K < 5 → w0.cell? ⟨w.heap.size, K, none⟩ = some (.int .i64 (cnt c.a c.b c.c c.d c.e K)) := fun K hK => by rw [hw0]; exact Lay.cfg_cell c 24 w K hK
  have hbe : Below w.heap.size w w0 := by rw [hw0]; exact below_alloc0 (Below.refl _ _) _
  have hkc : Lay.KC w w.heap.size c w0 := by rw [hw0]; exact Lay.KC.start c _ w w (Below.refl _ _)
  have HK := Lib.hid hkc
  have HW := Lib.hid hw0
  have HC := Lib.hid hc0
  have HBE := Lib.hid hbe
  have hs5 := Lay.sum5 c
  have HS5 := Lib.hid hs5
  clear hw0 hc0 hbe hkc hs5
  go_enter Try.func7, Try.ntmps7
  go_wp2
  rw [← HW.out]
  go_loopw [3, 4] (fun s i wr => ∃ (K : Nat), K ≤ 5 ∧ i = .int .i64 K ∧ s = .int .i64 (sumTo c K) ∧ 0 ≤ sumTo c K ∧ sumTo c K ≤ 6 * K ∧ wr = w0) (fun _ i _ => 5 - (intOf i).toNat)
  case atStart => exact ⟨0, by omega, rfl, rfl, by simp [sumTo], by simp [sumTo], rfl⟩
  case round =>
    obtain ⟨K, hK, rfl, rfl, h0, h6, rfl⟩ := hrel
    by_cases hlt : K < 5
    · have hcell := HC.out K hlt
      obtain ⟨C, hC⟩ : ∃ C, C = cnt c.a c.b c.c c.d c.e K := ⟨_, rfl⟩
      rw [← hC] at hcell
      have hst : sumTo c (K + 1) = sumTo c K + C := by rw [hC]; rfl
      obtain ⟨T, hT⟩ : ∃ T, T = sumTo c K := ⟨_, rfl⟩
      rw [← hT] at h0 h6 hst ⊢
      have HST := Lib.hid hst
      clear hC hst hT
      by_cases hlo : C < 0
      · go_wp2_with (fail)
        go_ret
        exact ⟨false, rfl, (fun h => by cases h), HBE.out⟩
      · by_cases hhi : 6 < C
        · go_wp2_with (fail)
          go_ret
          exact ⟨false, rfl, (fun h => by cases h), HBE.out⟩
        · go_wp2_with (fail)
          go_roundw
          case rel => exact ⟨K + 1, by omega, by go_num, by rw [HST.out], by rw [HST.out]; omega, by rw [HST.out]; omega, trivial⟩
          case measure => simp [intOf]; omega
    · obtain rfl : K = 5 := by omega
      clear hlt hK
      obtain ⟨q0, q1, q2, q3, q4, q5, q6, q7, q8, q9, q10, q11⟩ := kc_cells HK.out
      obtain ⟨T, hT⟩ : ∃ T, T = sumTo c 5 := ⟨_, rfl⟩
      have HTT := Lib.hid hT
      rw [← hT] at h0 h6 ⊢
      clear hT
      by_cases h12 : T ≤ 12
      · have d1 : decide (T ≤ 12) = true := by simpa using h12
        by_cases hok : OkC c
        · have HOK := Lib.hid hok; clear hok
          go_wp2_with (first
            | (go_at_call 32; (with_reducible refine (Lay.model_any c _).mono ?_); rintro r w2 ⟨rfl, hb2⟩; have HB := Lib.hid (HBE.out.trans (hb2.mono HBE.out.size)); clear hb2)
            | (go_at_call 31; (with_reducible refine (Lay.rcheck_any c _).mono ?_); rintro r w3 ⟨x, rfl, hx, hb3⟩; obtain rfl := hx.1 HOK.out; have HB := Lib.hid (below_step HB.out HB.out.size hb3); clear hb3 hx)
            | fail)
          go_ret
          exact ⟨true, rfl, fun _ => ⟨HOK.out, by have := HTT.out; have := HS5.out; show c.a + c.b + c.c + c.d + c.e ≤ 12; omega⟩, HB.out⟩
        · have HOK := Lib.hid hok; clear hok
          go_wp2_with (first
            | (go_at_call 32; (with_reducible refine (Lay.model_any c _).mono ?_); rintro r w2 ⟨rfl, hb2⟩; have HB := Lib.hid (HBE.out.trans (hb2.mono HBE.out.size)); clear hb2)
            | (go_at_call 31; (with_reducible refine (Lay.rcheck_any c _).mono ?_); rintro r w3 ⟨x, rfl, hx, hb3⟩; obtain rfl := hx.2 HOK.out; have HB := Lib.hid (below_step HB.out HB.out.size hb3); clear hb3 hx)
            | fail)
          go_ret
          exact ⟨false, rfl, (fun h => by cases h), HB.out⟩
      · have d1 : decide (T ≤ 12) = false := by simpa using h12
        go_wp2_with (fail)
        go_ret
        exact ⟨false, rfl, (fun h => by cases h), HBE.out⟩
end Go.Proofs.Ytbpkcoemehmpbaa

namespace Go.Proofs.Ytbpkcoemehmpbaa
open Go.ChangeShapes Go.WideShapes Go.RowKit
set_option linter.unusedVariables false
set_option maxRecDepth 100000

/-- A word that another one changes. -/
structure Pok where
  p : Int
  v : Int
def WfPok (x : Pok) : Prop := 0 ≤ x.v ∧ x.v ≤ 18446744073709551615
section
variable {H : Type} {enc : TypeId × Value → H} {w : World} {base : Nat} {spare : Nat → Bool} {held : Bool}
/-- The i-th one. -/
def atP (l : List Pok) (i : Nat) : Pok := l.getD i ⟨0, 0⟩
def ReadsP (w : World) (A : Option Addr) (l : List Pok) : Prop :=
  0 < l.length → ∃ b off, A = some ⟨b, off, none⟩ ∧ b < w.heap.size ∧ ∀ j, j < l.length → w.cell? ⟨b, off + j * 2, none⟩ = some (.int .i64 (atP l j).p) ∧ w.cell? ⟨b, off + (j * 2 + 1), none⟩ = some (.int .u64 (atP l j).v)
def IsPoks (w : World) (a : Option Addr) (len cap : Nat) (l : List Pok) : Prop := ReadsP w a l ∧ l.length = len ∧ len ≤ cap ∧ cap ≤ maxLen ∧ ∀ x ∈ l, WfPok x
end
section
variable {H : Type} {enc : TypeId × Value → H} {w : World} {held : Bool}
end
end Go.Proofs.Ytbpkcoemehmpbaa

namespace Go.Proofs.Ytbpkcoemehmpbaa
open Go.RowKit
set_option linter.unusedVariables false
open Lay (plcc plc shOf packN nodesN OkC Cfg Norm firstV Rep lenL things)

theorem cfg_start (c : Cfg) (w : World) (t : TypeId) : CfgC w.heap.size c (w.alloc (Lay.cfgO c t)) := kc_cells (Lay.KC.start c t w w (Below.refl _ _))
theorem cfg_below {B : Nat} {c : Cfg} {w w' : World} (h : CfgC B c w) (hb : Below w.heap.size w w') : CfgC B c w' := by
  obtain ⟨h0, h1, h2, h3, h4, h5, h6, h7, h8, h9, h10, h11⟩ := h
  have hB := World.block_lt_of_cell? w _ h0
  have e : ∀ i, w'.cell? ⟨B, i, none⟩ = w.cell? ⟨B, i, none⟩ := fun i => hb.cell (p := ⟨B, i, none⟩) hB
  exact ⟨(e 0).trans h0, (e 1).trans h1, (e 2).trans h2, (e 3).trans h3, (e 4).trans h4, (e 5).trans h5, (e 6).trans h6, (e 7).trans h7, (e 8).trans h8, (e 9).trans h9, (e 10).trans h10, (e 11).trans h11⟩
/-- The first words of a map, as a row of words. -/
theorem first_any {c : Cfg} (hc : OkC c) (N : Nat) (w : World) (hm : Lay.IsMap w N c) : Calls Try.prog 30 #[Lay.mapP N] w fun e w' => ∃ G n L, e = .returned (.slice (some ⟨G, 0, none⟩) n n) ∧ n = L.length ∧ Reads .u64 w' (some ⟨G, 0, none⟩) L ∧ Rep (shOf c) L (firstV c) ∧ Below w.heap.size w w' := by
  refine (Lay.first_m hc N w hm).mono ?_
  rintro e w' ⟨G, n, L, rfl, hn, hl, hcell, hG, hr, hb⟩
  exact ⟨G, n, L, rfl, hl.symm, fun _ => ⟨G, 0, rfl, hG, fun j hj => by rw [Nat.zero_add]; exact hcell j (by omega)⟩, hr, hb⟩
theorem first_len {c : Cfg} (hc : OkC c) {L : List Int} (h : Rep (shOf c) L (firstV c)) : L.length ≤ 10000 := by
  have := h.1; have := Lay.lenL_eq hc; have := (Lay.bds hc).t55'; omega

/-- The world with the configuration's box. -/
abbrev wcf (w : World) (c : Cfg) : World := w.alloc (Lay.cfgO c 24)
/-- What was there, and the box, are as they were. -/
def Bw (w : World) (c : Cfg) (w' : World) : Prop := Below (w.heap.size + 1) (wcf w c) w'
section
variable {w w' w2 : World} {c : Cfg}
theorem Bw.start (w : World) (c : Cfg) : Bw w c (wcf w c) := Below.refl _ _
theorem Bw.lt (h : Bw w c w') : w.heap.size + 1 ≤ w'.heap.size := by have := h.size; simpa using this
theorem Bw.step (h : Bw w c w') (hb : Below w'.heap.size w' w2) : Bw w c w2 := below_step h h.lt hb
theorem Bw.fin (h : Bw w c w') : Below w.heap.size w w' := (below_alloc0 (Below.refl _ _) _).trans (h.mono (Nat.le_succ _))
theorem Bw.cfg (h : Bw w c w') : CfgC w.heap.size c w' := by
  have h0 := cfg_start c w 24
  obtain ⟨h0, h1, h2, h3, h4, h5, h6, h7, h8, h9, h10, h11⟩ := h0
  have e : ∀ i, w'.cell? ⟨w.heap.size, i, none⟩ = (wcf w c).cell? ⟨w.heap.size, i, none⟩ := fun i => h.cell (p := ⟨w.heap.size, i, none⟩) (Nat.lt_succ_self _)
  exact ⟨(e 0).trans h0, (e 1).trans h1, (e 2).trans h2, (e 3).trans h3, (e 4).trans h4, (e 5).trans h5, (e 6).trans h6, (e 7).trans h7, (e 8).trans h8, (e 9).trans h9, (e 10).trans h10, (e 11).trans h11⟩
theorem Bw.reads {k : IntKind} {A : Option Addr} {zs : List Int} (h : Bw w c w') (r : Reads k w A zs) : Reads k w' A zs := r.below h.fin (Nat.le_refl _)
theorem Bw.poks {A : Option Addr} {l : List Pok} (h : Bw w c w') (r : ReadsP w A l) : ReadsP w' A l := fun h0 => by
  obtain ⟨b, off, e, hlt, hc⟩ := r h0
  have hb := h.fin
  exact ⟨b, off, e, Nat.lt_of_lt_of_le hlt hb.size, fun j hj => ⟨(hb.cell (p := ⟨b, off + j * 2, none⟩) hlt).trans (hc j hj).1, (hb.cell (p := ⟨b, off + (j * 2 + 1), none⟩) hlt).trans (hc j hj).2⟩⟩
end
end Go.Proofs.Ytbpkcoemehmpbaa

namespace Go.Proofs.Ytbpkcoemehmpbaa
open Go.RowKit
set_option linter.unusedVariables false
set_option linter.unusedSimpArgs false
set_option maxRecDepth 100000
open Lay (plcc plc shOf nodesN OkC Cfg Norm firstV Rep lenL things)

section
variable {B S D N : Nat} {c : Cfg} {w0 w w' : World} {L : List Int} {k t : Int} {X lo : Nat} {m : Wn}
theorem PO.start {a : Ending} {L : List Int} (hb : Below B w0 w) (hB : B ≤ w0.heap.size) (hm : Lay.IsMap w N c) (hok : OkC c) (ww : WW L) (h : SomeNew w L a w') : ∃ S D, a = .returned (ptr S) ∧ PO B S D N c w0 w' L 0 ∧ Below w.heap.size w w' := by
  obtain ⟨S, D, rfl, hS, hD, hs, hb'⟩ := h
  have hN := hm.1
  have hBw := Nat.le_trans hB hb.size
  exact ⟨S, D, rfl, ⟨⟨0, by omega, by omega, hs⟩, hm.below hb', hok, ⟨by omega, by omega⟩, ⟨by omega, by omega, hB⟩, ww, below_step hb hBw hb'⟩, hb'⟩
theorem put_po (h : PO B S D N c w0 w L k) (at' v : Int) (hv : 0 ≤ v ∧ v ≤ 18446744073709551615) (hk : k ≤ 900000000) :
    Calls Try.prog 10 #[ptr S, .int .i64 at', .int .u64 v] w fun a w' => a = .returned (.tuple #[]) ∧ PO B S D N c w0 w' (ptq L at' v) (k + 1) ∧ UF (fun b => b = S ∨ b = D) w w' := by
  obtain ⟨cc, h0, h1, hs⟩ := h.st
  have hl := h.lt
  have hB := h.lo
  refine (put_any at' v w hs h0 (by omega)).mono ?_
  rintro a w1 ⟨rfl, l⟩
  rw [ptv_eq] at l
  have u := UF.of_upd l.2
  exact ⟨rfl, ⟨⟨cc + 1, by omega, by omega, l.1⟩, IsMap_same h.mp u.size (u.block N hl.2.2 (by have := h.ns; omega)), h.ok, h.ns, h.lo, h.ww.put _ hv, below_uf h.bel h.lo.2.2 u (fun b hb => by omega)⟩, u⟩
theorem load_po (h : PO B S D N c w0 w L k) (at' : Int) (hk : k ≤ 900000000) :
    Calls Try.prog 23 #[ptr S, .int .i64 at'] w fun a w' => a = .returned (.int .u64 (ldq L at')) ∧ PO B S D N c w0 w' L (k + 1) ∧ UF (fun b => b = S ∨ b = D) w w' := by
  obtain ⟨cc, h0, h1, hs⟩ := h.st
  have hl := h.lt
  have hB := h.lo
  refine (load_any at' w hs h0 (by omega)).mono ?_
  rintro a w1 ⟨rfl, l⟩
  have u := UF.of_upd l.2
  exact ⟨by rw [ldv_eq], ⟨⟨cc + 1, by omega, by omega, l.1⟩, IsMap_same h.mp u.size (u.block N hl.2.2 (by have := h.ns; omega)), h.ok, h.ns, h.lo, h.ww, below_uf h.bel h.lo.2.2 u (fun b hb => by omega)⟩, u⟩
theorem all_po (h : PO B S D N c w0 w L k) (hl : L.length ≤ 1000000) :
    Calls Try.prog 12 #[ptr S] w fun a w' => a = .returned (.slice (some ⟨w.heap.size, 0, none⟩) L.length L.length) ∧ Reads .u64 w' (some ⟨w.heap.size, 0, none⟩) L ∧ PO B S D N c w0 w' L k ∧ Below w.heap.size w w' := by
  obtain ⟨cc, h0, h1, hs⟩ := h.st
  refine (all_any w hs hl).mono ?_
  rintro a w1 ⟨rfl, hr, hb⟩
  exact ⟨rfl, hr.reads, h.step hb, hb⟩
theorem UF.far {F : Nat → Prop} (u : UF F w w') {b : Nat} (hb : b < w.heap.size) (hF : ¬ F b) (o : Nat) : w'.cell? ⟨b, o, none⟩ = w.cell? ⟨b, o, none⟩ :=
  World.cell?_of_block (w := w) (a := ⟨b, o, none⟩) (u.block b hb hF)
/-- Other machines' blocks, and the store's, change. -/
theorem WKX.uf {lo2 : Nat} (h : WKX lo w X S D N m) (u : UF (fun b => b = S ∨ b = D ∨ lo2 ≤ b) w w') (hl : w.heap.size ≤ lo2) : WKX lo w' X S D N m := by
  obtain ⟨O, Dp, hp, ho, hS, hD⟩ := h
  refine ⟨O, Dp, hp.keep u.size (fun k hk => ?_), ho, hS, hD⟩
  have := hp.ins.2.2 k hk
  exact u.block k this (by rintro (e | e | e); exact hS (e ▸ hk); exact hD (e ▸ hk); omega)
theorem PO.los (h : PO B S D N c w0 w L k) {w1 : World} (hb : w.heap.size ≤ w1.heap.size) : S < w.heap.size ∧ D < w.heap.size ∧ N < w.heap.size ∧ B ≤ w.heap.size ∧ w.heap.size ≤ w1.heap.size :=
  ⟨h.lt.1, h.lt.2.1, h.lt.2.2, Nat.le_trans h.lo.2.2 h.bel.size, hb⟩
end
/-- Steps, one behind the other. -/
def wruns (g : Wg) : Nat → List Int → Wn → List Int × Wn
  | 0, L, m => (L, m)
  | i + 1, L, m => wstp g (wruns g i L m).1 (wruns g i L m).2
theorem wruns_succ (g : Wg) (i : Nat) (L : List Int) (m : Wn) : wruns g (i + 1) L m = wstp g (wruns g i L m).1 (wruns g i L m).2 := rfl
abbrev wrs (c : Cfg) (i : Nat) (L : List Int) (m : Wn) : List Int × Wn := wruns (wOf c) i L m
theorem wkw_runs {c : Cfg} (hc : OkC c) : ∀ (i : Nat) {L : List Int} {m : Wn} {t : Int}, WW L → WKW c t m → WW (wrs c i L m).1 ∧ WKW c (t + i) (wrs c i L m).2
  | 0, L, m, t, h, h2 => ⟨h, (show WKW c (t + ((0 : Nat) : Int)) m from h2.mono (by omega))⟩
  | i + 1, L, m, t, h, h2 => by
    have ih := wkw_runs hc i h h2
    have s := ih.2.step hc ih.1
    exact ⟨s.2, s.1.mono (by omega)⟩
/-- Behind i steps. -/
structure WRn (B S D N : Nat) (c : Cfg) (w0 w1 w : World) (lo X : Nat) (L : List Int) (m : Wn) (i : Nat) (k : Int) : Prop where
  po : PO B S D N c w0 w (wrs c i L m).1 (k + i)
  mm : WKX lo w X S D N (wrs c i L m).2
  u : UF (fun b => b = S ∨ b = D ∨ lo ≤ b) w1 w
section
variable {B S D N : Nat} {c : Cfg} {w0 w1 w w' : World} {L : List Int} {k t : Int} {X lo : Nat} {m : Wn}
theorem WRn.start (h : PO B S D N c w0 w L k) (hx : WKX lo w X S D N m) : WRn B S D N c w0 w w lo X L m 0 k := by
  refine ⟨?_, hx, .refl _ _⟩
  show PO B S D N c w0 w L (k + ((0 : Nat) : Int)); exact h.more (by omega)
theorem wrun_step {i : Nat} (h : WRn B S D N c w0 w1 w lo X L m i k) (hlo : S < lo ∧ D < lo ∧ N < lo ∧ B ≤ lo ∧ lo ≤ w1.heap.size) (wm : WKW c t m) (ww : WW L) (hk : k + i ≤ 800000000) (ht : t + i ≤ 800000000) :
    Calls Try.prog 16 #[ptr X, ptr S] w fun e w' => e = .returned (.bool (decide ((wrs c (i + 1) L m).2.pc = 0))) ∧ WRn B S D N c w0 w1 w' lo X L m (i + 1) k := by
  have hsz := h.u.size
  refine (step_wo h.po h.mm ⟨hlo.1, hlo.2.1, hlo.2.2.1, hlo.2.2.2.1, by omega⟩ (wkw_runs h.po.ok i ww wm).2 hk ht).mono ?_
  rintro e w' ⟨rfl, h1, h2, h3⟩
  exact ⟨rfl, h1.more (by omega), h2, h.u.trans h3 (fun _ x => x) (fun _ _ x => x)⟩
end
/-- A map's words at first, as one list. -/
theorem rep_list {c : Cfg} {L : List Int} (h : Rep (shOf c) L (firstV c)) (hn : ∀ t ∈ things (shOf c), Norm t) : L = (things (shOf c)).map (firstV c) := by
  obtain ⟨hl, hr⟩ := h
  apply List.ext_getElem
  · rw [List.length_map, Lay.things_len]; exact hl
  · intro i h1 h2
    have hi : i < (things (shOf c)).length := by rw [Lay.things_len, ← hl]; exact h1
    have e3 := Lay.seg_all (shOf c) i hi
    have e4 : Lay.gt (things (shOf c)) i = (things (shOf c))[i] := by simp [Lay.gt, List.getD, List.getElem?_eq_getElem hi]
    rw [e4] at e3
    have := hr _ (hn _ (List.getElem_mem hi)) (by rw [e3]; omega)
    rw [e3] at this
    simp only [List.getElem_map]
    rw [← this]
    simp [List.getD, List.getElem?_eq_getElem h1]
end Go.Proofs.Ytbpkcoemehmpbaa
