/- The document's own map and what its pool holds, walked. May a configuration be, and has it few cells: walked. Words that others change, as they came in. How a law begins that takes a configuration: its box, and what came in beside it. -/
import Derived.Test.YtbpkcoemehmpbaaGreatRefPk
import Derived.Test.YtbpkcoemehmpbaaGreatJ9
import Derived.Test.YtbpkcoemehmpbaaGreatLayChk
import Derived.Test.YtbpkcoemehmpbaaGreatLayNew
import Derived.Test.YtbpkcoemehmpbaaGreatLayFirst
import Derived.Test.YtbpkcoemehmpbaaGreatJ21
import Derived.Deep.SlicePairs
import Derived.ProofKit
import Derived.OpenShut
import Derived.ChangeOld
import Derived.Test.YtbpkcoemehmpbaaGreatJ16
namespace Go.Proofs.YtbpkcoemehmpbaaGreat
open Go.RowKit
set_option linter.unusedVariables false
open Lay (plcc plc shOf packN nodesN OkC Cfg Norm firstV Rep lenL things)

/-- The cells of a configuration in its box. -/
abbrev CfgC (B : Nat) (c : Cfg) (w' : World) : Prop := w'.cell? ⟨B, 0, none⟩ = some (.int .i64 c.a) ∧ w'.cell? ⟨B, 1, none⟩ = some (.int .i64 c.b) ∧ w'.cell? ⟨B, 2, none⟩ = some (.int .i64 c.c) ∧ w'.cell? ⟨B, 3, none⟩ = some (.int .i64 c.d) ∧ w'.cell? ⟨B, 4, none⟩ = some (.int .i64 c.e) ∧ w'.cell? ⟨B, 5, none⟩ = some (.int .i64 c.mr) ∧ w'.cell? ⟨B, 6, none⟩ = some (.int .i64 c.mu) ∧ w'.cell? ⟨B, 7, none⟩ = some (.int .i64 c.dq) ∧ w'.cell? ⟨B, 8, none⟩ = some (.int .i64 c.ch) ∧ w'.cell? ⟨B, 9, none⟩ = some (.int .i64 c.bf) ∧ w'.cell? ⟨B, 10, none⟩ = some (.int .i64 c.rt) ∧ w'.cell? ⟨B, 11, none⟩ = some (.int .i64 c.sw)
theorem kc_cells {w : World} {B : Nat} {c : Cfg} {w' : World} (h : Lay.KC w B c w') : CfgC B c w' := ⟨h.c0, h.c1, h.c2, h.c3, h.c4, h.c5, h.c6, h.c7, h.c8, h.c9, h.c10, h.c11⟩
/-- A configuration's box, and behind it that of an answer of two cells. -/
structure KR (w : World) (c : Cfg) (w' : World) : Prop where
  k : Lay.KC w w.heap.size c w'
  r0 : w'.cell? ⟨w.heap.size + 1, 0, none⟩ = some (.slice none 0 0)
  r1 : w'.cell? ⟨w.heap.size + 1, 1, none⟩ = some (.int .i64 0)
  f : ∀ j, w'.frozen? ⟨w.heap.size + 1, j, none⟩ = false
  lt : w.heap.size + 1 < w'.heap.size
theorem KR.step {w : World} {c : Cfg} {w' w2 : World} (h : KR w c w') (hb : Below w'.heap.size w' w2) : KR w c w2 :=
  ⟨h.k.step hb, (hb.cell (p := ⟨w.heap.size + 1, 0, none⟩) h.lt).trans h.r0, (hb.cell (p := ⟨w.heap.size + 1, 1, none⟩) h.lt).trans h.r1, fun j => (hb.frozen (p := ⟨w.heap.size + 1, j, none⟩) h.lt).trans (h.f j), Nat.lt_of_lt_of_le h.lt hb.size⟩
theorem KR.drew {w : World} {c : Cfg} {w' : World} (h : KR w c w') : KR w c w'.drew := h.step (Below.refl _ _).drew
theorem KR.set {w : World} {c : Cfg} {w' : World} (h : KR w c w') (u0 u1 : Value) : CfgC w.heap.size c ((w'.setCell ⟨w.heap.size + 1, 0, none⟩ u0).setCell ⟨w.heap.size + 1, 1, none⟩ u1) := by
  have far : ∀ i, ((w'.setCell ⟨w.heap.size + 1, 0, none⟩ u0).setCell ⟨w.heap.size + 1, 1, none⟩ u1).cell? ⟨w.heap.size, i, none⟩ = w'.cell? ⟨w.heap.size, i, none⟩ := fun i => by
    rw [World.cell?_setCell_other _ _ _ _ (adr_ne (.inl (by omega))), World.cell?_setCell_other _ _ _ _ (adr_ne (.inl (by omega)))]
  have k := kc_cells h.k
  unfold CfgC at k ⊢
  simp only [far]
  exact k
theorem KR.start (w : World) (c : Cfg) (t T : TypeId) : KR w c ((w.alloc (Lay.cfgO c t)).alloc (.cells #[.slice none 0 0, .int .i64 0] T)) := by
  have hk := (Lay.KC.start c t w w (Below.refl _ _)).step (below_alloc0 (Below.refl _ _) (.cells #[.slice none 0 0, .int .i64 0] T))
  have e : w.heap.size + 1 = (w.alloc (Lay.cfgO c t)).heap.size := by simp
  refine ⟨hk, ?_, ?_, fun j => ?_, by simp⟩
  · rw [e, World.cell?_alloc_at _ _ _ _ rfl]; rfl
  · rw [e, World.cell?_alloc_at _ _ _ _ rfl]; rfl
  · rw [e]; exact World.frozen?_alloc_new _ _ _ _

/-- What it reads stands in other blocks. -/
def Off (w : World) (A : Option Addr) (k : Nat) : Prop := ∀ b off, A = some ⟨b, off, none⟩ → b ≠ k
theorem OwnT_far {w w' : World} {A : Option Addr} {n cp k B : Nat} {l : List Lay.Th} (h : Lay.OwnT B w w' (.slice A n cp) l) (hk : k < B) : Off w A k := fun b off e => by
  have := h.1.lt b (by rw [e]; rfl)
  omega
theorem reads_off {w : World} {A : Option Addr} {l : List Lay.Th} {k : Nat} {w0 : World} (h : Lay.ReadsT w A l) (ho : Off w0 A k) {u0 u1 : Value} : Lay.ReadsT ((w.setCell ⟨k, 0, none⟩ u0).setCell ⟨k, 1, none⟩ u1) A l := fun h0 => by
  obtain ⟨b, off, e, hlt, hc⟩ := h h0
  have hne := ho b off e
  have far : ∀ i, ((w.setCell ⟨k, 0, none⟩ u0).setCell ⟨k, 1, none⟩ u1).cell? ⟨b, i, none⟩ = w.cell? ⟨b, i, none⟩ := fun i => by
    rw [World.cell?_setCell_other _ _ _ _ (adr_ne (.inl (by omega))), World.cell?_setCell_other _ _ _ _ (adr_ne (.inl (by omega)))]
  exact ⟨b, off, e, by simpa using hlt, fun j hj => by rw [far, far, far]; exact hc j hj⟩

set_option maxHeartbeats 4000000 in
set_option maxRecDepth 100000 in
theorem rmap_any {c : Cfg} (hc : OkC c) (w : World) :
    Calls Tryz.prog 7 #[Lay.cfgV c] w fun e w' => ∃ A n cap, e = .returned (aVal A n cap (packN c)) ∧ IsA w' c A n ∧ Below w.heap.size w w' := by
  have HC := Lib.hid hc
  have hk := KR.start w c 38 36
  have HKD := Lib.hid hk.drew
  obtain ⟨q0, q1, q2, q3, q4, q5, q6, q7, q8, q9, q10, q11⟩ := kc_cells hk.k
  have HLE : Hid ((things (shOf c)).length ≤ 10000) := Lib.hid (by have := Lay.things_len (shOf c); have := Lay.lenL_eq hc; have := (Lay.bds hc).t55'; omega)
  clear hc hk
  go_enter Tryz.func7, Tryz.ntmps7
  go_wp2_with (fail)
  go_region_held3 (fun w' => CfgC w.heap.size c w')
    (first | with_reducible exact HZ.out | with_reducible exact kc_cells HK5.out.k | with_reducible exact kc_cells HK4.out.k | with_reducible exact kc_cells HKD.out.k | go_keep)
    (first
      | (go_at_call 35; (with_reducible refine (Lay.things_any HC.out _).mono ?_); rintro r w4 ⟨v, rfl, hT⟩; obtain ⟨A', cp, hv, hr, _⟩ := hT.reads; subst hv; have hb := hT.2; have HK4 := Lib.hid (HKD.out.step hb); have HT := Lib.hid hr; have HNE := Lib.hid (OwnT_far hT HKD.out.lt); clear hb hT hr)
      | (go_at_call 36; (with_reducible refine (Lay.rpackets_any HC.out _).mono ?_); rintro r w5 ⟨rfl, hb⟩; have HK5 := Lib.hid (HK4.out.step hb); have HT5 := Lib.hid (HT.out.below hb); clear hb; have r0 := HK5.out.r0; have r1 := HK5.out.r1; have f0 := HK5.out.f 0; have f1 := HK5.out.f 1; have HZ := Lib.hid (HK5.out.set (.slice A' (things (shOf c)).length cp) (.int .i64 (packN c))); have HFB := Lib.hid HK5.out.k.bel)
      | fail)
  obtain ⟨e0, e1⟩ := put2_cells r0 r1 (.slice A' (things (shOf c)).length cp) (.int .i64 (packN c))
  go_wp2_with (fail)
  exact bodyPost_ret (v := aVal A' (things (shOf c)).length cp (packN c)) (by simp [results, Tryz.results7, go_sem, e0, e1]) rfl ⟨A', _, cp, rfl, ⟨rfl, reads_off HT5.out HNE.out, HLE.out⟩, (HFB.out.setCell (by show w.heap.size ≤ w.heap.size + 1; omega) _).setCell (by show w.heap.size ≤ w.heap.size + 1; omega) _⟩
end Go.Proofs.YtbpkcoemehmpbaaGreat

namespace Go.Proofs.YtbpkcoemehmpbaaGreat
open Go.RowKit
set_option linter.unusedVariables false
open Lay (plcc plc shOf packN nodesN OkC Cfg Norm firstV Rep lenL things cnt sumTo cfgO)

/-- What small tells. -/
def SmallP (c : Cfg) (w : World) (e : Ending) (w' : World) : Prop := ∃ b, e = .returned (.bool b) ∧ (b = true → OkC c ∧ nodesN c ≤ 12) ∧ Below w.heap.size w w'

set_option maxHeartbeats 4000000 in
theorem small_any (c : Cfg) (w : World) : Calls Tryz.prog 5 #[Lay.cfgV c] w (SmallP c w) := by
  obtain ⟨w0, hw0⟩ : ∃ w0 : World, w0 = w.alloc (cfgO c 24) := ⟨_, rfl⟩
  have hc0 : ∀ K, K < 5 → w0.cell? ⟨w.heap.size, K, none⟩ = some (.int .i64 (cnt c.a c.b c.c c.d c.e K)) := fun K hK => by rw [hw0]; exact Lay.cfg_cell c 24 w K hK
  have hbe : Below w.heap.size w w0 := by rw [hw0]; exact below_alloc0 (Below.refl _ _) _
  have hkc : Lay.KC w w.heap.size c w0 := by rw [hw0]; exact Lay.KC.start c _ w w (Below.refl _ _)
  have HK := Lib.hid hkc
  have HW := Lib.hid hw0
  have HC := Lib.hid hc0
  have HBE := Lib.hid hbe
  have hs5 := Lay.sum5 c
  have HS5 := Lib.hid hs5
  clear hw0 hc0 hbe hkc hs5
  go_enter Tryz.func5, Tryz.ntmps5
  go_wp2
  rw [← HW.out]
  go_loopw [3, 4] (fun s i wr => ∃ (K : Nat), K ≤ 5 ∧ i = .int .i64 K ∧ s = .int .i64 (sumTo c K) ∧ 0 ≤ sumTo c K ∧ sumTo c K ≤ 6 * K ∧ wr = w0) (fun _ i _ => 5 - (intOf i).toNat)
  case atStart => exact ⟨0, by omega, rfl, rfl, by simp [sumTo], by simp [sumTo], rfl⟩
  case round =>
    obtain ⟨K, hK, rfl, rfl, h0, h6, rfl⟩ := hrel
    by_cases hlt : K < 5
    · have hcell := HC.out K hlt
      obtain ⟨C, hC⟩ : ∃ C, C = cnt c.a c.b c.c c.d c.e K := ⟨_, rfl⟩
      rw [← hC] at hcell
      have hst : sumTo c (K + 1) = sumTo c K + C := by rw [hC]; rfl
      obtain ⟨T, hT⟩ : ∃ T, T = sumTo c K := ⟨_, rfl⟩
      rw [← hT] at h0 h6 hst ⊢
      have HST := Lib.hid hst
      clear hC hst hT
      by_cases hlo : C < 0
      · go_wp2_with (fail)
        go_ret
        exact ⟨false, rfl, (fun h => by cases h), HBE.out⟩
      · by_cases hhi : 6 < C
        · go_wp2_with (fail)
          go_ret
          exact ⟨false, rfl, (fun h => by cases h), HBE.out⟩
        · go_wp2_with (fail)
          go_roundw
          case rel => exact ⟨K + 1, by omega, by go_num, by rw [HST.out], by rw [HST.out]; omega, by rw [HST.out]; omega, trivial⟩
          case measure => simp [intOf]; omega
    · obtain rfl : K = 5 := by omega
      clear hlt hK
      obtain ⟨q0, q1, q2, q3, q4, q5, q6, q7, q8, q9, q10, q11⟩ := kc_cells HK.out
      obtain ⟨T, hT⟩ : ∃ T, T = sumTo c 5 := ⟨_, rfl⟩
      have HTT := Lib.hid hT
      rw [← hT] at h0 h6 ⊢
      clear hT
      by_cases h12 : T ≤ 12
      · have d1 : decide (T ≤ 12) = true := by simpa using h12
        by_cases hok : OkC c
        · have HOK := Lib.hid hok; clear hok
          go_wp2_with (first
            | (go_at_call 8; (with_reducible refine (Lay.model_any c _).mono ?_); rintro r w2 ⟨rfl, hb2⟩; have HB := Lib.hid (HBE.out.trans (hb2.mono HBE.out.size)); clear hb2)
            | (go_at_call 29; (with_reducible refine (Lay.rcheck_any c _).mono ?_); rintro r w3 ⟨x, rfl, hx, hb3⟩; obtain rfl := hx.1 HOK.out; have HB := Lib.hid (below_step HB.out HB.out.size hb3); clear hb3 hx)
            | fail)
          go_ret
          exact ⟨true, rfl, fun _ => ⟨HOK.out, by have := HTT.out; have := HS5.out; show c.a + c.b + c.c + c.d + c.e ≤ 12; omega⟩, HB.out⟩
        · have HOK := Lib.hid hok; clear hok
          go_wp2_with (first
            | (go_at_call 8; (with_reducible refine (Lay.model_any c _).mono ?_); rintro r w2 ⟨rfl, hb2⟩; have HB := Lib.hid (HBE.out.trans (hb2.mono HBE.out.size)); clear hb2)
            | (go_at_call 29; (with_reducible refine (Lay.rcheck_any c _).mono ?_); rintro r w3 ⟨x, rfl, hx, hb3⟩; obtain rfl := hx.2 HOK.out; have HB := Lib.hid (below_step HB.out HB.out.size hb3); clear hb3 hx)
            | fail)
          go_ret
          exact ⟨false, rfl, (fun h => by cases h), HB.out⟩
      · have d1 : decide (T ≤ 12) = false := by simpa using h12
        go_wp2_with (fail)
        go_ret
        exact ⟨false, rfl, (fun h => by cases h), HBE.out⟩
end Go.Proofs.YtbpkcoemehmpbaaGreat

namespace Go.Proofs.YtbpkcoemehmpbaaGreat
open Go.ChangeShapes Go.WideShapes Go.RowKit
set_option linter.unusedVariables false
set_option maxRecDepth 100000

/-- A word that another one changes. -/
structure Pok where
  p : Int
  v : Int
def WfPok (x : Pok) : Prop := 0 ≤ x.v ∧ x.v ≤ 18446744073709551615
section
variable {H : Type} {enc : TypeId × Value → H} {w : World} {base : Nat} {spare : Nat → Bool} {held : Bool}
theorem pok_cells {fuel : Nat} {cs : List Value} {y : DataW H × List MemPlace} (hn : cs.length = 2) (hf : DataW.trod enc Tryz.prog w base spare held fuel 58 cs = some y) :
    ∃ x : Pok, cs = [.int .i64 x.p, .int .u64 x.v] ∧ WfPok x := by
  obtain ⟨xs, m, _, _, _, hl, hel⟩ := DataW.trod_struct Tryz.underlying58 hf
  have g0 : DataW.trod enc Tryz.prog w base spare held m 3 (List.take (Tryz.prog.cellsOf 3) (List.drop 0 _)) = xs[0]? := hel 0 _ rfl
  have g1 : DataW.trod enc Tryz.prog w base spare held m 25 (List.take (Tryz.prog.cellsOf 25) (List.drop 1 _)) = xs[1]? := hel 1 _ rfl
  have hc3 : Tryz.prog.cellsOf 3 = 1 := by kernel_rfl
  have hc34 : Tryz.prog.cellsOf 25 = 1 := by kernel_rfl
  have hx2 : xs.length = 2 := hl
  rw [hc3] at g0
  rw [hc34] at g1
  match cs, hn with
  | [v0, v1], _ =>
    rw [List.getElem?_eq_getElem (by omega)] at g0 g1
    obtain ⟨p, hp, _, _⟩ := DataW.trod_int Tryz.underlying3 g0
    obtain ⟨v, hv, _, wv⟩ := DataW.trod_int Tryz.underlying25 g1
    simp at hp hv
    refine ⟨⟨p, v⟩, by rw [hp, hv], ?_⟩
    simp [Lit.wf, IntKind.min, IntKind.max, IntKind.bits, IntKind.signed] at wv
    show 0 ≤ v ∧ v ≤ 18446744073709551615
    omega
/-- The i-th one. -/
def atP (l : List Pok) (i : Nat) : Pok := l.getD i ⟨0, 0⟩
def ReadsP (w : World) (A : Option Addr) (l : List Pok) : Prop :=
  0 < l.length → ∃ b off, A = some ⟨b, off, none⟩ ∧ b < w.heap.size ∧ ∀ j, j < l.length → w.cell? ⟨b, off + j * 2, none⟩ = some (.int .i64 (atP l j).p) ∧ w.cell? ⟨b, off + (j * 2 + 1), none⟩ = some (.int .u64 (atP l j).v)
def IsPoks (w : World) (a : Option Addr) (len cap : Nat) (l : List Pok) : Prop := ReadsP w a l ∧ l.length = len ∧ len ≤ cap ∧ cap ≤ maxLen ∧ ∀ x ∈ l, WfPok x
end
section
variable {H : Type} {enc : TypeId × Value → H} {w : World} {held : Bool}
theorem open_poks {a : Option Addr} {len cap : Nat} {d : DataW H} {p : List MemPlace} (h : DataW.Trod enc Tryz.prog w 0 (fun _ => true) held 27 (.slice a len cap) d p) : ∃ l, IsPoks w a len cap l := by
  obtain ⟨fuel, hf⟩ := h
  rcases Go.Deep.open_slice Tryz.underlying27 hf with ⟨hcs, _⟩ | ⟨x, l, c, m, n, D, Pl, hcs, _, hl, hm, hmm, _, hc⟩
  · simp [Value.cells] at hcs
    obtain ⟨rfl, rfl, rfl⟩ := hcs
    exact ⟨[], fun h => by simp at h, rfl, Nat.le_refl _, Nat.zero_le _, fun x hx => by simp at hx⟩
  · simp [Value.cells] at hcs
    obtain ⟨rfl, e1, e2⟩ := hcs
    simp at hmm
    rw [hmm] at hc
    clear hmm
    rw [← e1] at hl
    rw [← e2] at hl hm hc
    clear e1 e2
    have hc51 : Tryz.prog.cellsOf 58 = 2 := by kernel_rfl
    have key : ∀ i, i < cap → ∃ q : Pok, (w.cell? (x.add (i * 2)) = some (.int .i64 q.p) ∧ w.cell? ((x.add (i * 2)).add 1) = some (.int .u64 q.v)) ∧ WfPok q := fun i hi => by
      obtain ⟨cs', h1, h2⟩ := hc i hi
      rw [hc51] at h1
      obtain ⟨_, hlen, hcell⟩ := World.cells?_some h1
      obtain ⟨q, hq, hw⟩ := pok_cells hlen h2
      subst hq
      have e0 := hcell 0 (by omega)
      have e1 := hcell 1 (by omega)
      refine ⟨q, ⟨?_, e1⟩, hw⟩
      have : (x.add (i * 2)).add 0 = x.add (i * 2) := by simp [Addr.add]
      rw [this] at e0
      exact e0
    refine ⟨(List.range len).map fun i => if h : i < cap then (key i h).choose else ⟨0, 0⟩, fun h0 => ?_, by simp, hl, hm, ?_⟩
    · have h0' : 0 < len := by simpa using h0
      obtain ⟨b, off, sp⟩ := x
      obtain ⟨q0, ⟨c0, _⟩, _⟩ := key 0 (by omega)
      have hs : sp = none := by
        cases sp with
        | none => rfl
        | some s =>
          exfalso
          simp only [Nat.zero_mul, Addr.add, if_true] at c0
          unfold World.cell? at c0
          simp only [Option.isSome_some, if_true] at c0
          split at c0 <;> simp at c0
      subst hs
      rw [add_off] at c0
      refine ⟨b, off, rfl, World.block_lt_of_cell? w _ c0, fun j hj => ?_⟩
      have hj' : j < len := by simpa using hj
      have hjc : j < cap := by omega
      have e : atP ((List.range len).map fun i => if h : i < cap then (key i h).choose else ⟨0, 0⟩) j = (key j hjc).choose := by
        simp [atP, List.getD, hj', hjc]
      rw [e]
      have hk := (key j hjc).choose_spec.1
      generalize (key j hjc).choose = q at hk ⊢
      rw [add_off, add_off] at hk
      exact hk
    · intro y hy
      obtain ⟨i, hi, rfl⟩ := List.mem_map.1 hy
      have hi' : i < cap := by have := List.mem_range.1 hi; omega
      rw [dif_pos hi']
      exact (key i hi').choose_spec.2
end
end Go.Proofs.YtbpkcoemehmpbaaGreat

namespace Go.Proofs.YtbpkcoemehmpbaaGreat
open Go.RowKit
set_option linter.unusedVariables false
open Lay (plcc plc shOf packN nodesN OkC Cfg Norm firstV Rep lenL things)

theorem cfg_start (c : Cfg) (w : World) (t : TypeId) : CfgC w.heap.size c (w.alloc (Lay.cfgO c t)) := kc_cells (Lay.KC.start c t w w (Below.refl _ _))
theorem cfg_below {B : Nat} {c : Cfg} {w w' : World} (h : CfgC B c w) (hb : Below w.heap.size w w') : CfgC B c w' := by
  obtain ⟨h0, h1, h2, h3, h4, h5, h6, h7, h8, h9, h10, h11⟩ := h
  have hB := World.block_lt_of_cell? w _ h0
  have e : ∀ i, w'.cell? ⟨B, i, none⟩ = w.cell? ⟨B, i, none⟩ := fun i => hb.cell (p := ⟨B, i, none⟩) hB
  exact ⟨(e 0).trans h0, (e 1).trans h1, (e 2).trans h2, (e 3).trans h3, (e 4).trans h4, (e 5).trans h5, (e 6).trans h6, (e 7).trans h7, (e 8).trans h8, (e 9).trans h9, (e 10).trans h10, (e 11).trans h11⟩
/-- The first words of a map, as a row of words. -/
theorem first_any {c : Cfg} (hc : OkC c) (N : Nat) (w : World) (hm : Lay.IsMap w N c) : Calls Tryz.prog 22 #[Lay.mapP N] w fun e w' => ∃ G n L, e = .returned (.slice (some ⟨G, 0, none⟩) n n) ∧ n = L.length ∧ Reads .u64 w' (some ⟨G, 0, none⟩) L ∧ Rep (shOf c) L (firstV c) ∧ Below w.heap.size w w' := by
  refine (Lay.first_m hc N w hm).mono ?_
  rintro e w' ⟨G, n, L, rfl, hn, hl, hcell, hG, hr, hb⟩
  exact ⟨G, n, L, rfl, hl.symm, fun _ => ⟨G, 0, rfl, hG, fun j hj => by rw [Nat.zero_add]; exact hcell j (by omega)⟩, hr, hb⟩
theorem first_len {c : Cfg} (hc : OkC c) {L : List Int} (h : Rep (shOf c) L (firstV c)) : L.length ≤ 10000 := by
  have := h.1; have := Lay.lenL_eq hc; have := (Lay.bds hc).t55'; omega

/-- The world with the configuration's box. -/
abbrev wcf (w : World) (c : Cfg) : World := w.alloc (Lay.cfgO c 24)
/-- What was there, and the box, are as they were. -/
def Bw (w : World) (c : Cfg) (w' : World) : Prop := Below (w.heap.size + 1) (wcf w c) w'
section
variable {w w' w2 : World} {c : Cfg}
theorem Bw.start (w : World) (c : Cfg) : Bw w c (wcf w c) := Below.refl _ _
theorem Bw.lt (h : Bw w c w') : w.heap.size + 1 ≤ w'.heap.size := by have := h.size; simpa using this
theorem Bw.step (h : Bw w c w') (hb : Below w'.heap.size w' w2) : Bw w c w2 := below_step h h.lt hb
theorem Bw.fin (h : Bw w c w') : Below w.heap.size w w' := (below_alloc0 (Below.refl _ _) _).trans (h.mono (Nat.le_succ _))
theorem Bw.cfg (h : Bw w c w') : CfgC w.heap.size c w' := by
  have h0 := cfg_start c w 24
  obtain ⟨h0, h1, h2, h3, h4, h5, h6, h7, h8, h9, h10, h11⟩ := h0
  have e : ∀ i, w'.cell? ⟨w.heap.size, i, none⟩ = (wcf w c).cell? ⟨w.heap.size, i, none⟩ := fun i => h.cell (p := ⟨w.heap.size, i, none⟩) (Nat.lt_succ_self _)
  exact ⟨(e 0).trans h0, (e 1).trans h1, (e 2).trans h2, (e 3).trans h3, (e 4).trans h4, (e 5).trans h5, (e 6).trans h6, (e 7).trans h7, (e 8).trans h8, (e 9).trans h9, (e 10).trans h10, (e 11).trans h11⟩
theorem Bw.reads {k : IntKind} {A : Option Addr} {zs : List Int} (h : Bw w c w') (r : Reads k w A zs) : Reads k w' A zs := r.below h.fin (Nat.le_refl _)
theorem Bw.poks {A : Option Addr} {l : List Pok} (h : Bw w c w') (r : ReadsP w A l) : ReadsP w' A l := fun h0 => by
  obtain ⟨b, off, e, hlt, hc⟩ := r h0
  have hb := h.fin
  exact ⟨b, off, e, Nat.lt_of_lt_of_le hlt hb.size, fun j hj => ⟨(hb.cell (p := ⟨b, off + j * 2, none⟩) hlt).trans (hc j hj).1, (hb.cell (p := ⟨b, off + (j * 2 + 1), none⟩) hlt).trans (hc j hj).2⟩⟩
end
end Go.Proofs.YtbpkcoemehmpbaaGreat
