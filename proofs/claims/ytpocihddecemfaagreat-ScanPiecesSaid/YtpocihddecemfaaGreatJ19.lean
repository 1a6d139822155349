/- Where a marker's deque stands, by a configuration. May a configuration be, and has it few cells: walked. Words that others change, as they came in. How a law begins that takes a configuration: its box, and what came in beside it. The law of what the pool holds: walked. What a task's machine knows are words. Where a marker's deque stands among a map's words: apart from other markers' deques, and from the packets. -/
import Derived.Test.YtpocihddecemfaaGreatJ10
import Derived.Test.YtpocihddecemfaaGreatAdPure
import Derived.Test.YtpocihddecemfaaGreatJ14
import Derived.Test.YtpocihddecemfaaGreatJ2
import Derived.Test.YtpocihddecemfaaGreatLayNew
import Derived.Test.YtpocihddecemfaaGreatLayFirst
import Derived.Test.YtpocihddecemfaaGreatJ5
import Derived.Deep.SlicePairs
import Derived.ProofKit
import Derived.OpenShut
import Derived.ChangeOld
import Derived.Test.YtpocihddecemfaaGreatJ18
import Derived.Test.YtpocihddecemfaaGreatJ16
namespace Go.Proofs.YtpocihddecemfaaGreat
open Lay (plcc Cfg)
def eOf (c : Cfg) (i : Int) : Dg.En := ⟨plcc c 8 i 0, plcc c 9 i 0, plcc c 10 i 0, c.dq⟩
end Go.Proofs.YtpocihddecemfaaGreat

namespace Go.Proofs.YtpocihddecemfaaGreat
open Go.RowKit
set_option linter.unusedVariables false
open Lay (plcc plc shOf packN nodesN OkC Cfg Norm firstV Rep lenL things cnt sumTo cfgO)

/-- What small tells. -/
def SmallP (c : Cfg) (w : World) (e : Ending) (w' : World) : Prop := ∃ b, e = .returned (.bool b) ∧ (b = true → OkC c ∧ nodesN c ≤ 12) ∧ Below w.heap.size w w'

set_option maxHeartbeats 4000000 in
theorem small_any (c : Cfg) (w : World) : Calls Tryz.prog 8 #[Lay.cfgV c] w (SmallP c w) := by
  obtain ⟨w0, hw0⟩ : ∃ w0 : World, w0 = w.alloc (cfgO c 24) := ⟨_, rfl⟩
  have hc0 : ∀ K, K < 5 → w0.cell? ⟨w.heap.size, K, none⟩ = some (.int .i64 (cnt c.a c.b c.c c.d c.e K)) := fun K hK => by rw [hw0]; exact Lay.cfg_cell c 24 w K hK
  have hbe : Below w.heap.size w w0 := by rw [hw0]; exact below_alloc0 (Below.refl _ _) _
  have hkc : Lay.KC w w.heap.size c w0 := by rw [hw0]; exact Lay.KC.start c _ w w (Below.refl _ _)
  have HK := Lib.hid hkc
  have HW := Lib.hid hw0
  have HC := Lib.hid hc0
  have HBE := Lib.hid hbe
  have hs5 := Lay.sum5 c
  have HS5 := Lib.hid hs5
  clear hw0 hc0 hbe hkc hs5
  go_enter Tryz.func8, Tryz.ntmps8
  go_wp2
  rw [← HW.out]
  go_loopw [3, 4] (fun s i wr => ∃ (K : Nat), K ≤ 5 ∧ i = .int .i64 K ∧ s = .int .i64 (sumTo c K) ∧ 0 ≤ sumTo c K ∧ sumTo c K ≤ 6 * K ∧ wr = w0) (fun _ i _ => 5 - (intOf i).toNat)
  case atStart => exact ⟨0, by omega, rfl, rfl, by simp [sumTo], by simp [sumTo], rfl⟩
  case round =>
    obtain ⟨K, hK, rfl, rfl, h0, h6, rfl⟩ := hrel
    by_cases hlt : K < 5
    · have hcell := HC.out K hlt
      obtain ⟨C, hC⟩ : ∃ C, C = cnt c.a c.b c.c c.d c.e K := ⟨_, rfl⟩
      rw [← hC] at hcell
      have hst : sumTo c (K + 1) = sumTo c K + C := by rw [hC]; rfl
      obtain ⟨T, hT⟩ : ∃ T, T = sumTo c K := ⟨_, rfl⟩
      rw [← hT] at h0 h6 hst ⊢
      have HST := Lib.hid hst
      clear hC hst hT
      by_cases hlo : C < 0
      · go_wp2_with (fail)
        go_ret
        exact ⟨false, rfl, (fun h => by cases h), HBE.out⟩
      · by_cases hhi : 6 < C
        · go_wp2_with (fail)
          go_ret
          exact ⟨false, rfl, (fun h => by cases h), HBE.out⟩
        · go_wp2_with (fail)
          go_roundw
          case rel => exact ⟨K + 1, by omega, by go_num, by rw [HST.out], by rw [HST.out]; omega, by rw [HST.out]; omega, trivial⟩
          case measure => simp [intOf]; omega
    · obtain rfl : K = 5 := by omega
      clear hlt hK
      obtain ⟨q0, q1, q2, q3, q4, q5, q6, q7, q8, q9, q10, q11⟩ := kc_cells HK.out
      obtain ⟨T, hT⟩ : ∃ T, T = sumTo c 5 := ⟨_, rfl⟩
      have HTT := Lib.hid hT
      rw [← hT] at h0 h6 ⊢
      clear hT
      by_cases h12 : T ≤ 12
      · have d1 : decide (T ≤ 12) = true := by simpa using h12
        by_cases hok : OkC c
        · have HOK := Lib.hid hok; clear hok
          go_wp2_with (first
            | (go_at_call 11; (with_reducible refine (Lay.model_any c _).mono ?_); rintro r w2 ⟨rfl, hb2⟩; have HB := Lib.hid (HBE.out.trans (hb2.mono HBE.out.size)); clear hb2)
            | (go_at_call 34; (with_reducible refine (Lay.rcheck_any c _).mono ?_); rintro r w3 ⟨x, rfl, hx, hb3⟩; obtain rfl := hx.1 HOK.out; have HB := Lib.hid (below_step HB.out HB.out.size hb3); clear hb3 hx)
            | fail)
          go_ret
          exact ⟨true, rfl, fun _ => ⟨HOK.out, by have := HTT.out; have := HS5.out; show c.a + c.b + c.c + c.d + c.e ≤ 12; omega⟩, HB.out⟩
        · have HOK := Lib.hid hok; clear hok
          go_wp2_with (first
            | (go_at_call 11; (with_reducible refine (Lay.model_any c _).mono ?_); rintro r w2 ⟨rfl, hb2⟩; have HB := Lib.hid (HBE.out.trans (hb2.mono HBE.out.size)); clear hb2)
            | (go_at_call 34; (with_reducible refine (Lay.rcheck_any c _).mono ?_); rintro r w3 ⟨x, rfl, hx, hb3⟩; obtain rfl := hx.2 HOK.out; have HB := Lib.hid (below_step HB.out HB.out.size hb3); clear hb3 hx)
            | fail)
          go_ret
          exact ⟨false, rfl, (fun h => by cases h), HB.out⟩
      · have d1 : decide (T ≤ 12) = false := by simpa using h12
        go_wp2_with (fail)
        go_ret
        exact ⟨false, rfl, (fun h => by cases h), HBE.out⟩
end Go.Proofs.YtpocihddecemfaaGreat

namespace Go.Proofs.YtpocihddecemfaaGreat
open Go.ChangeShapes Go.WideShapes Go.RowKit
set_option linter.unusedVariables false
set_option maxRecDepth 100000

/-- A word that another one changes. -/
structure Pok where
  p : Int
  v : Int
def WfPok (x : Pok) : Prop := 0 ≤ x.v ∧ x.v ≤ 18446744073709551615
section
variable {H : Type} {enc : TypeId × Value → H} {w : World} {base : Nat} {spare : Nat → Bool} {held : Bool}
theorem pok_cells {fuel : Nat} {cs : List Value} {y : DataW H × List MemPlace} (hn : cs.length = 2) (hf : DataW.trod enc Tryz.prog w base spare held fuel 73 cs = some y) :
    ∃ x : Pok, cs = [.int .i64 x.p, .int .u64 x.v] ∧ WfPok x := by
  obtain ⟨xs, m, _, _, _, hl, hel⟩ := DataW.trod_struct Tryz.underlying73 hf
  have g0 : DataW.trod enc Tryz.prog w base spare held m 3 (List.take (Tryz.prog.cellsOf 3) (List.drop 0 _)) = xs[0]? := hel 0 _ rfl
  have g1 : DataW.trod enc Tryz.prog w base spare held m 25 (List.take (Tryz.prog.cellsOf 25) (List.drop 1 _)) = xs[1]? := hel 1 _ rfl
  have hc3 : Tryz.prog.cellsOf 3 = 1 := by kernel_rfl
  have hc34 : Tryz.prog.cellsOf 25 = 1 := by kernel_rfl
  have hx2 : xs.length = 2 := hl
  rw [hc3] at g0
  rw [hc34] at g1
  match cs, hn with
  | [v0, v1], _ =>
    rw [List.getElem?_eq_getElem (by omega)] at g0 g1
    obtain ⟨p, hp, _, _⟩ := DataW.trod_int Tryz.underlying3 g0
    obtain ⟨v, hv, _, wv⟩ := DataW.trod_int Tryz.underlying25 g1
    simp at hp hv
    refine ⟨⟨p, v⟩, by rw [hp, hv], ?_⟩
    simp [Lit.wf, IntKind.min, IntKind.max, IntKind.bits, IntKind.signed] at wv
    show 0 ≤ v ∧ v ≤ 18446744073709551615
    omega
/-- The i-th one. -/
def atP (l : List Pok) (i : Nat) : Pok := l.getD i ⟨0, 0⟩
def ReadsP (w : World) (A : Option Addr) (l : List Pok) : Prop :=
  0 < l.length → ∃ b off, A = some ⟨b, off, none⟩ ∧ b < w.heap.size ∧ ∀ j, j < l.length → w.cell? ⟨b, off + j * 2, none⟩ = some (.int .i64 (atP l j).p) ∧ w.cell? ⟨b, off + (j * 2 + 1), none⟩ = some (.int .u64 (atP l j).v)
def IsPoks (w : World) (a : Option Addr) (len cap : Nat) (l : List Pok) : Prop := ReadsP w a l ∧ l.length = len ∧ len ≤ cap ∧ cap ≤ maxLen ∧ ∀ x ∈ l, WfPok x
end
section
variable {H : Type} {enc : TypeId × Value → H} {w : World} {held : Bool}
theorem open_poks {a : Option Addr} {len cap : Nat} {d : DataW H} {p : List MemPlace} (h : DataW.Trod enc Tryz.prog w 0 (fun _ => true) held 27 (.slice a len cap) d p) : ∃ l, IsPoks w a len cap l := by
  obtain ⟨fuel, hf⟩ := h
  rcases Go.Deep.open_slice Tryz.underlying27 hf with ⟨hcs, _⟩ | ⟨x, l, c, m, n, D, Pl, hcs, _, hl, hm, hmm, _, hc⟩
  · simp [Value.cells] at hcs
    obtain ⟨rfl, rfl, rfl⟩ := hcs
    exact ⟨[], fun h => by simp at h, rfl, Nat.le_refl _, Nat.zero_le _, fun x hx => by simp at hx⟩
  · simp [Value.cells] at hcs
    obtain ⟨rfl, e1, e2⟩ := hcs
    simp at hmm
    rw [hmm] at hc
    clear hmm
    rw [← e1] at hl
    rw [← e2] at hl hm hc
    clear e1 e2
    have hc51 : Tryz.prog.cellsOf 73 = 2 := by kernel_rfl
    have key : ∀ i, i < cap → ∃ q : Pok, (w.cell? (x.add (i * 2)) = some (.int .i64 q.p) ∧ w.cell? ((x.add (i * 2)).add 1) = some (.int .u64 q.v)) ∧ WfPok q := fun i hi => by
      obtain ⟨cs', h1, h2⟩ := hc i hi
      rw [hc51] at h1
      obtain ⟨_, hlen, hcell⟩ := World.cells?_some h1
      obtain ⟨q, hq, hw⟩ := pok_cells hlen h2
      subst hq
      have e0 := hcell 0 (by omega)
      have e1 := hcell 1 (by omega)
      refine ⟨q, ⟨?_, e1⟩, hw⟩
      have : (x.add (i * 2)).add 0 = x.add (i * 2) := by simp [Addr.add]
      rw [this] at e0
      exact e0
    refine ⟨(List.range len).map fun i => if h : i < cap then (key i h).choose else ⟨0, 0⟩, fun h0 => ?_, by simp, hl, hm, ?_⟩
    · have h0' : 0 < len := by simpa using h0
      obtain ⟨b, off, sp⟩ := x
      obtain ⟨q0, ⟨c0, _⟩, _⟩ := key 0 (by omega)
      have hs : sp = none := by
        cases sp with
        | none => rfl
        | some s =>
          exfalso
          simp only [Nat.zero_mul, Addr.add, if_true] at c0
          unfold World.cell? at c0
          simp only [Option.isSome_some, if_true] at c0
          split at c0 <;> simp at c0
      subst hs
      rw [add_off] at c0
      refine ⟨b, off, rfl, World.block_lt_of_cell? w _ c0, fun j hj => ?_⟩
      have hj' : j < len := by simpa using hj
      have hjc : j < cap := by omega
      have e : atP ((List.range len).map fun i => if h : i < cap then (key i h).choose else ⟨0, 0⟩) j = (key j hjc).choose := by
        simp [atP, List.getD, hj', hjc]
      rw [e]
      have hk := (key j hjc).choose_spec.1
      generalize (key j hjc).choose = q at hk ⊢
      rw [add_off, add_off] at hk
      exact hk
    · intro y hy
      obtain ⟨i, hi, rfl⟩ := List.mem_map.1 hy
      have hi' : i < cap := by have := List.mem_range.1 hi; omega
      rw [dif_pos hi']
      exact (key i hi').choose_spec.2
end
end Go.Proofs.YtpocihddecemfaaGreat

namespace Go.Proofs.YtpocihddecemfaaGreat
open Go.RowKit
set_option linter.unusedVariables false
open Lay (plcc plc shOf packN nodesN OkC Cfg Norm firstV Rep lenL things)

theorem cfg_start (c : Cfg) (w : World) (t : TypeId) : CfgC w.heap.size c (w.alloc (Lay.cfgO c t)) := kc_cells (Lay.KC.start c t w w (Below.refl _ _))
theorem cfg_below {B : Nat} {c : Cfg} {w w' : World} (h : CfgC B c w) (hb : Below w.heap.size w w') : CfgC B c w' := by
  obtain ⟨h0, h1, h2, h3, h4, h5, h6, h7, h8, h9, h10, h11⟩ := h
  have hB := World.block_lt_of_cell? w _ h0
  have e : ∀ i, w'.cell? ⟨B, i, none⟩ = w.cell? ⟨B, i, none⟩ := fun i => hb.cell (p := ⟨B, i, none⟩) hB
  exact ⟨(e 0).trans h0, (e 1).trans h1, (e 2).trans h2, (e 3).trans h3, (e 4).trans h4, (e 5).trans h5, (e 6).trans h6, (e 7).trans h7, (e 8).trans h8, (e 9).trans h9, (e 10).trans h10, (e 11).trans h11⟩
/-- The first words of a map, as a row of words. -/
theorem first_any {c : Cfg} (hc : OkC c) (N : Nat) (w : World) (hm : Lay.IsMap w N c) : Calls Tryz.prog 32 #[Lay.mapP N] w fun e w' => ∃ G n L, e = .returned (.slice (some ⟨G, 0, none⟩) n n) ∧ n = L.length ∧ Reads .u64 w' (some ⟨G, 0, none⟩) L ∧ Rep (shOf c) L (firstV c) ∧ Below w.heap.size w w' := by
  refine (Lay.first_m hc N w hm).mono ?_
  rintro e w' ⟨G, n, L, rfl, hn, hl, hcell, hG, hr, hb⟩
  exact ⟨G, n, L, rfl, hl.symm, fun _ => ⟨G, 0, rfl, hG, fun j hj => by rw [Nat.zero_add]; exact hcell j (by omega)⟩, hr, hb⟩
theorem first_len {c : Cfg} (hc : OkC c) {L : List Int} (h : Rep (shOf c) L (firstV c)) : L.length ≤ 10000 := by
  have := h.1; have := Lay.lenL_eq hc; have := (Lay.bds hc).t55'; omega

/-- The world with the configuration's box. -/
abbrev wcf (w : World) (c : Cfg) : World := w.alloc (Lay.cfgO c 24)
/-- What was there, and the box, are as they were. -/
def Bw (w : World) (c : Cfg) (w' : World) : Prop := Below (w.heap.size + 1) (wcf w c) w'
section
variable {w w' w2 : World} {c : Cfg}
theorem Bw.start (w : World) (c : Cfg) : Bw w c (wcf w c) := Below.refl _ _
theorem Bw.lt (h : Bw w c w') : w.heap.size + 1 ≤ w'.heap.size := by have := h.size; simpa using this
theorem Bw.step (h : Bw w c w') (hb : Below w'.heap.size w' w2) : Bw w c w2 := below_step h h.lt hb
theorem Bw.fin (h : Bw w c w') : Below w.heap.size w w' := (below_alloc0 (Below.refl _ _) _).trans (h.mono (Nat.le_succ _))
theorem Bw.cfg (h : Bw w c w') : CfgC w.heap.size c w' := by
  have h0 := cfg_start c w 24
  obtain ⟨h0, h1, h2, h3, h4, h5, h6, h7, h8, h9, h10, h11⟩ := h0
  have e : ∀ i, w'.cell? ⟨w.heap.size, i, none⟩ = (wcf w c).cell? ⟨w.heap.size, i, none⟩ := fun i => h.cell (p := ⟨w.heap.size, i, none⟩) (Nat.lt_succ_self _)
  exact ⟨(e 0).trans h0, (e 1).trans h1, (e 2).trans h2, (e 3).trans h3, (e 4).trans h4, (e 5).trans h5, (e 6).trans h6, (e 7).trans h7, (e 8).trans h8, (e 9).trans h9, (e 10).trans h10, (e 11).trans h11⟩
theorem Bw.reads {k : IntKind} {A : Option Addr} {zs : List Int} (h : Bw w c w') (r : Reads k w A zs) : Reads k w' A zs := r.below h.fin (Nat.le_refl _)
theorem Bw.poks {A : Option Addr} {l : List Pok} (h : Bw w c w') (r : ReadsP w A l) : ReadsP w' A l := fun h0 => by
  obtain ⟨b, off, e, hlt, hc⟩ := r h0
  have hb := h.fin
  exact ⟨b, off, e, Nat.lt_of_lt_of_le hlt hb.size, fun j hj => ⟨(hb.cell (p := ⟨b, off + j * 2, none⟩) hlt).trans (hc j hj).1, (hb.cell (p := ⟨b, off + (j * 2 + 1), none⟩) hlt).trans (hc j hj).2⟩⟩
end
end Go.Proofs.YtpocihddecemfaaGreat

namespace Go.Proofs.YtpocihddecemfaaGreat
open Go.RowKit
set_option linter.unusedVariables false
set_option linter.unusedSimpArgs false
open Lay (plcc plc shOf packN nodesN OkC Cfg Norm firstV Rep lenL things)

/-! How machines begin. -/
theorem pw_idle (c : Cfg) (kd : Nat) (hk : kd = 1 ∨ kd = 2 ∨ kd = 3) : PW c 0 ⟨kd, 0, [], 0, 0, mnone⟩ :=
  ⟨hk, by simp, fun _ => .inl rfl, fun e => by simp at e, fun e => by simp at e, ⟨by simp, by simp⟩, by simp, by simp, ⟨by simp, by simp, fun e => by simp at e⟩, fun e => by simp at e, by omega⟩
theorem pw_put (c : Cfg) (ts : List Int) (h : ∀ z ∈ ts, 0 ≤ z ∧ z ≤ 18446744073709551615) : PW c 0 (pPut (gOf c) ts) := by
  unfold pPut
  split
  · exact pw_idle c 1 (.inl rfl)
  · rename_i hne
    have hl : (ts.take 4).length ≤ 4 := by simp; omega
    have hne' : ts.take 4 ≠ [] := by
      intro e
      cases ts with
      | nil => exact hne rfl
      | cons a l => simp at e
    have hp := List.length_pos_iff.2 hne'
    exact ⟨.inl rfl, by simp, fun e => absurd rfl e, fun _ => ⟨wm_pop _, rfl, rfl, by simp [mPop]⟩, fun e => by simp at e, ⟨by simp, by simp⟩, fun z hz => h z (List.mem_of_mem_take hz), hl, ⟨by simp, by simp, fun _ => by simp only; omega⟩, fun _ => ⟨hne', fun _ => rfl⟩, by omega⟩
theorem pw_take (c : Cfg) : PW c 0 (pTake (gOf c)) :=
  ⟨.inr (.inl rfl), by simp [pTake], fun _ => .inr rfl, fun e => by simp [pTake] at e, fun _ => ⟨wm_pop _, rfl, by simp [pTake, mPop]⟩, ⟨by simp [pTake], by simp [pTake]⟩, by simp [pTake], by simp [pTake], ⟨by simp [pTake], by simp [pTake], fun e => by simp [pTake] at e⟩, fun e => by simp [pTake] at e, by omega⟩
theorem pw_back (c : Cfg) (n : Nat) (p : Int) : PW c 0 (pBack n (gOf c) p) := by
  unfold pBack
  split
  · exact pw_idle c 3 (.inr (.inr rfl))
  · exact ⟨.inr (.inr rfl), by simp, fun _ => .inr rfl, fun e => by simp at e, fun _ => ⟨wm_push _ _, rfl, by simp [mPush]⟩, ⟨by simp, by simp⟩, by simp, by simp, ⟨by simp, by simp, fun e => by simp at e⟩, fun e => by simp at e, by omega⟩

section
variable {B S D N : Nat} {c : Cfg} {w0 w w' : World} {L : List Int} {k t : Int}
theorem PO.start {a : Ending} {L : List Int} (hb : Below B w0 w) (hB : B ≤ w0.heap.size) (hm : Lay.IsMap w N c) (hok : OkC c) (ww : WW L) (h : SomeNew w L a w') : ∃ S D, a = .returned (ptr S) ∧ PO B S D N c w0 w' L 0 ∧ Below w.heap.size w w' := by
  obtain ⟨S, D, rfl, hS, hD, hs, hb'⟩ := h
  have hN := hm.1
  have hBw := Nat.le_trans hB hb.size
  exact ⟨S, D, rfl, ⟨⟨0, by omega, by omega, hs⟩, hm.below hb', hok, ⟨by omega, by omega⟩, ⟨by omega, by omega, hB⟩, ww, below_step hb hBw hb'⟩, hb'⟩
theorem put_po (h : PO B S D N c w0 w L k) (at' v : Int) (hv : 0 ≤ v ∧ v ≤ 18446744073709551615) (hk : k ≤ 900000000) :
    Calls Tryz.prog 21 #[ptr S, .int .i64 at', .int .u64 v] w fun a w' => a = .returned (.tuple #[]) ∧ PO B S D N c w0 w' (ptq L at' v) (k + 1) ∧ UF (fun b => b = S ∨ b = D) w w' := by
  obtain ⟨cc, h0, h1, hs⟩ := h.st
  have hl := h.lt
  have hB := h.lo
  refine (put_any at' v w hs h0 (by omega)).mono ?_
  rintro a w1 ⟨rfl, l⟩
  rw [ptv_eq] at l
  have u := UF.of_upd l.2
  exact ⟨rfl, ⟨⟨cc + 1, by omega, by omega, l.1⟩, IsMap_same h.mp u.size (u.block N hl.2.2 (by have := h.ns; omega)), h.ok, h.ns, h.lo, h.ww.put _ hv, below_uf h.bel h.lo.2.2 u (fun b hb => by omega)⟩, u⟩
theorem load_po (h : PO B S D N c w0 w L k) (at' : Int) (hk : k ≤ 900000000) :
    Calls Tryz.prog 27 #[ptr S, .int .i64 at'] w fun a w' => a = .returned (.int .u64 (ldq L at')) ∧ PO B S D N c w0 w' L (k + 1) ∧ UF (fun b => b = S ∨ b = D) w w' := by
  obtain ⟨cc, h0, h1, hs⟩ := h.st
  have hl := h.lt
  have hB := h.lo
  refine (load_any at' w hs h0 (by omega)).mono ?_
  rintro a w1 ⟨rfl, l⟩
  have u := UF.of_upd l.2
  exact ⟨by rw [ldv_eq], ⟨⟨cc + 1, by omega, by omega, l.1⟩, IsMap_same h.mp u.size (u.block N hl.2.2 (by have := h.ns; omega)), h.ok, h.ns, h.lo, h.ww, below_uf h.bel h.lo.2.2 u (fun b hb => by omega)⟩, u⟩
theorem all_po (h : PO B S D N c w0 w L k) (hl : L.length ≤ 1000000) :
    Calls Tryz.prog 13 #[ptr S] w fun a w' => a = .returned (.slice (some ⟨w.heap.size, 0, none⟩) L.length L.length) ∧ Reads .u64 w' (some ⟨w.heap.size, 0, none⟩) L ∧ PO B S D N c w0 w' L k ∧ Below w.heap.size w w' := by
  obtain ⟨cc, h0, h1, hs⟩ := h.st
  refine (all_any w hs hl).mono ?_
  rintro a w1 ⟨rfl, hr, hb⟩
  exact ⟨rfl, hr.reads, h.step hb, hb⟩
/-- A machine that puts, taken through all its steps. -/
theorem UF.far {F : Nat → Prop} (u : UF F w w') {b : Nat} (hb : b < w.heap.size) (hF : ¬ F b) (o : Nat) : w'.cell? ⟨b, o, none⟩ = w.cell? ⟨b, o, none⟩ :=
  World.cell?_of_block (w := w) (a := ⟨b, o, none⟩) (u.block b hb hF)
end
end Go.Proofs.YtpocihddecemfaaGreat

namespace Go.Proofs.YtpocihddecemfaaGreat
open Go.RowKit
set_option linter.unusedVariables false
set_option linter.unusedSimpArgs false
set_option maxRecDepth 100000
open Lay (plcc plc shOf packN nodesN OkC Cfg Norm firstV Rep lenL things)

/-- What a push knows are words. -/
structure DW (d : Dg.Mc) : Prop where
  kd : d.kind = 1
  pc : d.pc ≤ 4
  ok : Dg.EnOk d.e
  b : 0 ≤ d.b ∧ d.b ≤ 18446744073709551615
  w : 0 ≤ d.w ∧ d.w ≤ 18446744073709551615
  t : 0 ≤ d.t
theorem u64w_rng (a : Int) : 0 ≤ Dg.u64w a ∧ Dg.u64w a ≤ 18446744073709551615 := by unfold Dg.u64w; omega
theorem DW.push {e : Dg.En} {x : Int} (ok : Dg.EnOk e) (hx : 0 ≤ x ∧ x ≤ 18446744073709551615) : DW (Dg.mPush e x) := ⟨rfl, by simp [Dg.mPush], ok, by simp [Dg.mPush], hx, by simp [Dg.mPush]⟩
theorem DW.step {d : Dg.Mc} {L : List Int} (h : DW d) (ww : WW L) : DW (Dg.stp L d).2 ∧ WW (Dg.stp L d).1 := by
  obtain ⟨kd, pc, e, b, t, x, won, out⟩ := d
  obtain ⟨h1, h2, h3, h4, h5, h6⟩ := h
  dsimp only at h1 h2 h3 h4 h5 h6
  subst h1
  have hp : pc = 0 ∨ pc = 1 ∨ pc = 2 ∨ pc = 3 ∨ pc = 4 := by omega
  rcases hp with rfl | rfl | rfl | rfl | rfl
  · have es : Dg.stp L ⟨1, 0, e, b, t, x, won, out⟩ = (L, ⟨1, 0, e, b, t, x, won, out⟩) := by simp [Dg.stp]
    rw [es]; exact ⟨⟨rfl, by simp, h3, h4, h5, h6⟩, ww⟩
  · have es : Dg.stp L ⟨1, 1, e, b, t, x, won, out⟩ = (L, ⟨1, 2, e, ldq L e.bot, t, x, won, out⟩) := by simp [Dg.stp, Dg.pushS]
    rw [es]; exact ⟨⟨rfl, by simp, h3, ww.ldq _, h5, h6⟩, ww⟩
  · by_cases hc : Dg.roomOf e ≤ Dg.ahead b (ldq L e.top)
    · have es : Dg.stp L ⟨1, 2, e, b, t, x, won, out⟩ = (L, ⟨1, 0, e, b, t, 0, won, 2⟩) := by simp [Dg.stp, Dg.pushS, hc, Dg.fin]
      rw [es]; exact ⟨⟨rfl, by simp, h3, h4, by simp, h6⟩, ww⟩
    · have es : Dg.stp L ⟨1, 2, e, b, t, x, won, out⟩ = (L, ⟨1, 3, e, b, ldq L e.top, x, won, out⟩) := by simp [Dg.stp, Dg.pushS, hc]
      rw [es]; exact ⟨⟨rfl, by simp, h3, h4, h5, (ww.ldq _).1⟩, ww⟩
  · have es : Dg.stp L ⟨1, 3, e, b, t, x, won, out⟩ = (ptq L (Dg.entOf e b) x, ⟨1, 4, e, b, t, x, won, out⟩) := by simp [Dg.stp, Dg.pushS]
    rw [es]; exact ⟨⟨rfl, by simp, h3, h4, h5, h6⟩, ww.put _ h5⟩
  · have es : Dg.stp L ⟨1, 4, e, b, t, x, won, out⟩ = (ptq L e.bot (Dg.u64w (b + 1)), ⟨1, 0, e, b, t, 0, won, 1⟩) := by simp [Dg.stp, Dg.pushS, Dg.fin]
    rw [es]; exact ⟨⟨rfl, by simp, h3, h4, by simp, h6⟩, ww.put _ (u64w_rng _)⟩
/-- What a task's machine knows are words; t: how often a part of the pool's has begun at most. -/
structure AW (c : Cfg) (t : Int) (m : Am) : Prop where
  pc : m.pc ≤ 2
  d : m.pc = 1 → DW m.d
  tk : 0 ≤ m.task ∧ m.task ≤ 18446744073709551615
  p : m.pc = 2 → PW c t m.p
  t0 : 0 ≤ t
theorem AW.new {c : Cfg} {e : Dg.En} {x : Int} (ok : Dg.EnOk e) (hx : 0 ≤ x ∧ x ≤ 18446744073709551615) : AW c 0 (aNew e x) := ⟨by simp [aNew], fun _ => DW.push ok hx, hx, fun e => by simp [aNew] at e, by omega⟩
theorem AW.mono {c : Cfg} {t u : Int} {m : Am} (h : AW c t m) (k : t ≤ u) : AW c u m := ⟨h.pc, h.d, h.tk, fun e => (h.p e).mono k, by have := h.t0; omega⟩
theorem AW.step {c : Cfg} {t : Int} {m : Am} {L : List Int} (h : AW c t m) (ww : WW L) : AW c (t + 1) (astp (gOf c) L m).2 ∧ WW (astp (gOf c) L m).1 := by
  have t0 := h.t0
  unfold astp
  by_cases p1 : m.pc = 1
  · rw [if_pos p1]
    obtain ⟨k1, k2⟩ := (h.d p1).step ww
    refine ⟨?_, k2⟩
    by_cases e1 : (Dg.stp L m.d).2.pc = 0
    · rw [if_pos e1]
      by_cases e2 : (Dg.stp L m.d).2.out = 2
      · rw [if_pos e2]
        exact ⟨by simp, fun e => by simp at e, h.tk, fun _ => (pw_put c [m.task] (by simpa using h.tk)).mono (by omega), by omega⟩
      · rw [if_neg e2]
        exact ⟨by simp, fun e => by simp at e, h.tk, fun e => by simp at e, by omega⟩
    · rw [if_neg e1]
      exact ⟨h.pc, fun _ => k1, h.tk, fun e => by simp only at e; omega, by omega⟩
  · rw [if_neg p1]
    by_cases p2 : m.pc = 2
    · rw [if_pos p2]
      obtain ⟨k1, k2⟩ := (h.p p2).step ww
      refine ⟨?_, k2⟩
      by_cases e1 : (pstp (gOf c) L m.p).2.pc = 0
      · rw [if_pos e1]
        exact ⟨by simp, fun e => by simp at e, h.tk, fun e => by simp at e, by omega⟩
      · rw [if_neg e1]
        exact ⟨h.pc, fun e => absurd e p1, h.tk, fun _ => k1, by omega⟩
    · rw [if_neg p2]
      exact ⟨h.mono (by omega), ww⟩

end Go.Proofs.YtpocihddecemfaaGreat

namespace Go.Proofs.YtpocihddecemfaaGreat
open Go.RowKit
set_option linter.unusedVariables false
open Lay (plcc plc shOf packN nodesN OkC Cfg Norm firstV Rep lenL)

theorem top_is {c : Cfg} (hc : OkC c) {i : Int} (h0 : 0 ≤ i) (h1 : i < c.mr) : plcc c 8 i 0 = Lay.at3 c + i * (2 + c.dq) := by
  rw [← Lay.plc_top hc i, Lay.wordL, if_pos (by omega)]; simp
theorem bot_is {c : Cfg} (hc : OkC c) {i : Int} (h0 : 0 ≤ i) (h1 : i < c.mr) : plcc c 9 i 0 = Lay.at3 c + i * (2 + c.dq) + 1 := by
  rw [← Lay.plc_bottom hc i, Lay.wordL, if_pos (by omega)]; simp
theorem ent_is {c : Cfg} (hc : OkC c) {i j : Int} (h0 : 0 ≤ i) (h1 : i < c.mr) (h2 : 0 ≤ j) (h3 : j < c.dq) : plcc c 10 i j = Lay.at3 c + i * (2 + c.dq) + (2 + j) := by
  rw [← Lay.plc_entry hc i j, Lay.itemL, if_pos (by omega), Lay.wordL, if_pos (by omega)]; simp
theorem dq_rng {c : Cfg} (hc : OkC c) : 1 ≤ c.dq ∧ c.dq ≤ 8 ∧ 1 ≤ c.mr := by
  obtain ⟨a0, a1, b0, b1, c0, c1, d0, d1, e0, e1, s0, k0, k1, u0, u1, q0, q1, h0, h1, f0, f1, r0, r1, w0, w1⟩ := hc
  exact ⟨by omega, by omega, by omega⟩
theorem mk_pos {c : Cfg} (hc : OkC c) {i : Int} (h0 : 0 ≤ i) : 0 ≤ Lay.at3 c + i * (2 + c.dq) := by
  have := (Lay.bds hc).t3
  have := dq_rng hc
  have := Int.mul_nonneg h0 (by omega : 0 ≤ 2 + c.dq)
  omega
def dqn (c : Cfg) : Nat := c.dq.toNat
theorem dqn_is {c : Cfg} (hc : OkC c) : ((dqn c : Nat) : Int) = c.dq := by have := dq_rng hc; unfold dqn; omega
theorem n8 (i : Int) : Norm ⟨8, i, 0⟩ := nrm 8 i 0 (by omega) (by omega) (fun h => by omega) (fun _ _ _ => rfl)
theorem n9 (i : Int) : Norm ⟨9, i, 0⟩ := nrm 9 i 0 (by omega) (by omega) (fun h => by omega) (fun _ _ _ => rfl)
theorem n10 (i j : Int) : Norm ⟨10, i, j⟩ := nrm 10 i j (by omega) (by omega) (fun h => by omega) (fun h _ _ => absurd rfl h)
theorem ge_of {c : Cfg} (hc : OkC c) {i : Int} (h0 : 0 ≤ i) (h1 : i < c.mr) : Dg.Ge (dqn c) (lenL (shOf c)) (eOf c i) := by
  have hd := dq_rng hc
  have hn := dqn_is hc
  have hp := mk_pos hc h0
  have t := top_is hc h0 h1
  have b := bot_is hc h0 h1
  have e := ent_is hc h0 h1 (Int.le_refl 0) (by omega)
  have l := ent_is hc h0 h1 (j := c.dq - 1) (by omega) (by omega)
  have lt := Lay.plc_lt (s := shOf c) (n8 i) (show 0 ≤ plcc c 8 i 0 by omega)
  have lb := Lay.plc_lt (s := shOf c) (n9 i) (show 0 ≤ plcc c 9 i 0 by omega)
  have ll := Lay.plc_lt (s := shOf c) (n10 i (c.dq - 1)) (show 0 ≤ plcc c 10 i (c.dq - 1) by omega)
  refine ⟨by omega, by omega, hn.symm, ⟨?_, lt⟩, ⟨?_, lb⟩, ?_, ⟨?_, ?_⟩, ?_, ?_⟩
  · show 0 ≤ plcc c 8 i 0; omega
  · show 0 ≤ plcc c 9 i 0; omega
  · show plcc c 8 i 0 ≠ plcc c 9 i 0; omega
  · show 0 ≤ plcc c 10 i 0; omega
  · show plcc c 10 i 0 + _ ≤ _
    have ll' : plcc c 10 i (c.dq - 1) < lenL (shOf c) := ll
    omega
  · show plcc c 8 i 0 < plcc c 10 i 0 ∨ _; left; omega
  · show plcc c 9 i 0 < plcc c 10 i 0 ∨ _; left; omega
/-- A word of a marker's deque is a thing of that marker. -/
theorem ine_thing {c : Cfg} (hc : OkC c) {i q : Int} (h0 : 0 ≤ i) (h1 : i < c.mr) (h : InE (dqn c) (eOf c i) q) : 0 ≤ q ∧ ∃ k j, (k = 8 ∨ k = 9 ∨ k = 10) ∧ Norm ⟨k, i, j⟩ ∧ q = plcc c k i j := by
  have hd := dq_rng hc
  have hn := dqn_is hc
  have hp := mk_pos hc h0
  rcases h with h | h | ⟨h2, h3⟩
  · have h' : q = plcc c 8 i 0 := h
    exact ⟨by rw [h', top_is hc h0 h1]; omega, 8, 0, .inl rfl, n8 i, h'⟩
  · have h' : q = plcc c 9 i 0 := h
    exact ⟨by rw [h', bot_is hc h0 h1]; omega, 9, 0, .inr (.inl rfl), n9 i, h'⟩
  · have h2' : plcc c 10 i 0 ≤ q := h2
    have h3' : q < plcc c 10 i 0 + (dqn c : Nat) := h3
    have e := ent_is hc h0 h1 (Int.le_refl 0) (by omega)
    have l := ent_is hc h0 h1 (j := q - plcc c 10 i 0) (by omega) (by omega)
    exact ⟨by omega, 10, q - plcc c 10 i 0, .inr (.inr rfl), n10 _ _, by omega⟩
theorem ine_apart {c : Cfg} (hc : OkC c) {i j : Int} (h0 : 0 ≤ i) (h1 : i < c.mr) (g0 : 0 ≤ j) (g1 : j < c.mr) (hne : i ≠ j) (q : Int) (h : InE (dqn c) (eOf c i) q) : ¬ InE (dqn c) (eOf c j) q := fun h' => by
  obtain ⟨p, k, x, _, nk, e⟩ := ine_thing hc h0 h1 h
  obtain ⟨_, k', x', _, nk', e'⟩ := ine_thing hc g0 g1 h'
  have := one_place nk nk' (e ▸ p) (e.symm.trans e')
  exact hne this.2.1
theorem ine_inp {c : Cfg} (hc : OkC c) {i : Int} (h0 : 0 ≤ i) (h1 : i < c.mr) (q : Int) (h : InE (dqn c) (eOf c i) q) : ¬ InP (pkn c) (gOf c) q := fun h' => by
  obtain ⟨p, k, x, hk, nk, e⟩ := ine_thing hc h0 h1 h
  have no : ∀ k' a' b', Norm ⟨k', a', b'⟩ → k' ≠ 8 → k' ≠ 9 → k' ≠ 10 → q ≠ plcc c k' a' b' := fun k' a' b' n' n1 n2 n3 e' => by
    have := one_place nk n' (e ▸ p) (e.symm.trans e')
    omega
  rcases h' with h' | h' | ⟨y, _, h' | h' | h'⟩
  · exact no 5 0 0 (nrm 5 0 0 (by omega) (by omega) (fun _ => rfl) (fun _ _ _ => rfl)) (by omega) (by omega) (by omega) h'
  · exact no 4 0 0 (nrm 4 0 0 (by omega) (by omega) (fun _ => rfl) (fun _ _ _ => rfl)) (by omega) (by omega) (by omega) h'
  · have h2 : q = atOf (lnkL c) y := h'
    rw [lnk_at hc] at h2
    exact no 12 y 0 (nrm 12 y 0 (by omega) (by omega) (fun h => by omega) (fun _ _ _ => rfl)) (by omega) (by omega) (by omega) h2
  · exact no 11 y 0 (nrm 11 y 0 (by omega) (by omega) (fun h => by omega) (fun _ _ _ => rfl)) (by omega) (by omega) (by omega) h'
  · exact no 13 y 0 (nrm 13 y 0 (by omega) (by omega) (fun h => by omega) (fun _ h _ => absurd rfl h)) (by omega) (by omega) (by omega) h'
theorem eok_of {c : Cfg} (hc : OkC c) (i : Int) : Dg.EnOk (eOf c i) := by
  have hd := dq_rng hc
  have h1 := Lay.plc_lo (shOf c) ⟨10, i, 0⟩
  have h2 := (Lay.bds hc).t55'
  have h3 := Lay.lenL_eq hc
  refine ⟨?_, ?_, ?_⟩
  · show -1000000000 ≤ plcc c 10 i 0
    have : plcc c 10 i 0 = plc (shOf c) ⟨10, i, 0⟩ := rfl
    omega
  · show plcc c 10 i 0 ≤ 1000000000
    by_cases h : 0 ≤ plcc c 10 i 0
    · have ll : plcc c 10 i 0 < lenL (shOf c) := Lay.plc_lt (s := shOf c) (n10 i 0) h
      omega
    · omega
  · show c.dq ≤ 1000000000; omega
/-- At first a deque is empty. -/
theorem fv_ends {c : Cfg} (k i : Int) (hk : k = 8 ∨ k = 9) : Lay.firstV c ⟨k, i, 0⟩ = 0 := by
  rcases hk with rfl | rfl <;> simp [Lay.firstV, Lay.stkV, Lay.VV, Lay.isTh, Lay.baseV]
theorem ends_first {c : Cfg} (hc : OkC c) {L : List Int} (h : Rep (shOf c) L (firstV c)) {i : Int} (h0 : 0 ≤ i) (h1 : i < c.mr) : L.getD (eOf c i).top.toNat 0 = 0 ∧ L.getD (eOf c i).bot.toNat 0 = 0 := by
  have hp := mk_pos hc h0
  constructor
  · show L.getD (plcc c 8 i 0).toNat 0 = 0
    rw [first_word h (n8 i) (by rw [top_is hc h0 h1]; omega), fv_ends 8 i (.inl rfl)]
  · show L.getD (plcc c 9 i 0).toNat 0 = 0
    rw [first_word h (n9 i) (by rw [bot_is hc h0 h1]; omega), fv_ends 9 i (.inr rfl)]
theorem dq_first {c : Cfg} (hc : OkC c) {L : List Int} (h : Rep (shOf c) L (firstV c)) {i : Int} (h0 : 0 ≤ i) (h1 : i < c.mr) : Dg.Dq (dqn c) (eOf c i) L 0 0 0 [] := by
  obtain ⟨z1, z2⟩ := ends_first hc h h0 h1
  exact ⟨by rw [h.1]; exact ge_of hc h0 h1, z1, by rw [z2]; rfl, by omega, by simp, by omega, by omega, fun i hi => by simp at hi⟩
end Go.Proofs.YtpocihddecemfaaGreat
