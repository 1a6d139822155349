/-  -/
import Derived.Test.YthoiaffeenhfgaaGreatJ12
import Derived.Test.YthoiaffeenhfgaaGreatJ11
import Derived.Test.YthoiaffeenhfgaaGreatJ6
import Derived.Test.YthoiaffeenhfgaaGreatJ2
import Derived.Test.YthoiaffeenhfgaaGreatJ18
import Derived.Test.YthoiaffeenhfgaaGreatJ9
import Derived.Test.YthoiaffeenhfgaaGreatJ5
import Derived.Test.YthoiaffeenhfgaaGreatLayNew
import Derived.Test.YthoiaffeenhfgaaGreatLayFirst
import Derived.Deep.SlicePairs
import Derived.ProofKit
import Derived.OpenShut
import Derived.ChangeOld
namespace Go.Proofs.YthoiaffeenhfgaaGreat
set_option linter.unusedVariables false
open Lay (plcc plc shOf packN nodesN OkC Cfg Norm firstV Rep lenL things stkV)
theorem mark1_norm (D i : Nat) : ∀ t ∈ Lay.mark1 D i, Norm t := by
  intro t ht
  simp only [Lay.mark1, Lay.entries, List.mem_append, List.mem_cons, List.mem_map, List.mem_range, List.not_mem_nil, or_false] at ht
  rcases ht with (rfl | rfl) | ⟨j, _, rfl⟩ <;> exact ⟨by simp, by simp, by simp, by simp⟩
theorem pack1_norm (p : Nat) : ∀ t ∈ Lay.pack1 p, Norm t := by
  intro t ht
  simp only [Lay.pack1, Lay.tasks, List.mem_append, List.mem_cons, List.mem_map, List.mem_range, List.not_mem_nil, or_false] at ht
  rcases ht with (rfl | rfl) | ⟨j, _, rfl⟩ <;> exact ⟨by simp, by simp, by simp, by simp⟩
theorem node1_norm (r : List Nat) (v : Nat) : ∀ t ∈ Lay.node1 r v, Norm t := by
  intro t ht
  simp only [Lay.node1, Lay.slots, List.mem_append, List.mem_cons, List.mem_map, List.mem_range, List.not_mem_nil, or_false] at ht
  rcases ht with (rfl | rfl | rfl | rfl) | ⟨j, _, rfl⟩ <;> exact ⟨by simp, by simp, by simp, by simp⟩
theorem marks_norm (D : Nat) : ∀ n, ∀ t ∈ Lay.marksTo D n, Norm t
  | 0, t, h => by simp [Lay.marksTo] at h
  | n + 1, t, h => by
    rcases List.mem_append.1 (show t ∈ Lay.marksTo D n ++ Lay.mark1 D n from h) with h | h
    · exact marks_norm D n t h
    · exact mark1_norm D n t h
theorem packs_norm : ∀ n, ∀ t ∈ Lay.packsTo n, Norm t
  | 0, t, h => by simp [Lay.packsTo] at h
  | n + 1, t, h => by
    rcases List.mem_append.1 (show t ∈ Lay.packsTo n ++ Lay.pack1 (n + 1) from h) with h | h
    · exact packs_norm n t h
    · exact pack1_norm _ t h
theorem nodes_norm (r : List Nat) : ∀ n, ∀ t ∈ Lay.nodesTo r n, Norm t
  | 0, t, h => by simp [Lay.nodesTo] at h
  | n + 1, t, h => by
    rcases List.mem_append.1 (show t ∈ Lay.nodesTo r n ++ Lay.node1 r (n + 1) from h) with h | h
    · exact nodes_norm r n t h
    · exact node1_norm r _ t h
theorem things_norm (s : Lay.Sh) : ∀ t ∈ things s, Norm t := by
  intro t ht
  simp only [things, Lay.singles, Lay.acks, Lay.heads, List.mem_append, List.mem_map, List.mem_range] at ht
  rcases ht with ((((⟨k, hk, rfl⟩ | ⟨k, hk, rfl⟩) | ⟨k, hk, rfl⟩) | h) | h) | h
  · exact ⟨by simp, by simp; omega, by simp, by simp⟩
  · exact ⟨by simp, by simp, by simp, by simp⟩
  · exact ⟨by simp, by simp, by simp, by simp⟩
  · exact marks_norm _ _ t h
  · exact packs_norm _ t h
  · exact nodes_norm _ _ t h
theorem stkV_bd {V : Lay.Th → Int} {t u : Lay.Th} {kd f l : Int} (h : 0 ≤ V u ∧ V u ≤ 10000) (f0 : 0 ≤ f) (f1 : f ≤ 10000) (l1 : l ≤ 10000) : 0 ≤ stkV V t kd f l u ∧ stkV V t kd f l u ≤ 10000 := by
  unfold stkV
  split
  · exact ⟨f0, f1⟩
  · split
    · omega
    · exact h
theorem firstV_bd {c : Cfg} (hc : OkC c) (u : Lay.Th) : 0 ≤ firstV c u ∧ firstV c u ≤ 10000 := by
  have hb := Lay.bds hc
  have p1 := hb.p1
  have n1 := hb.n1
  have hV : ∀ k : Nat, k ≤ 5 → 0 ≤ Lay.VV c k u ∧ Lay.VV c k u ≤ 10000 := by
    intro k
    induction k with
    | zero =>
      intro _
      show 0 ≤ Lay.baseV c u ∧ Lay.baseV c u ≤ 10000
      unfold Lay.baseV
      have := Lay.slots_bd (Lay.kindV c (nodesN c))
      split
      · omega
      · split <;> omega
    | succ k ih =>
      intro hk
      have h5 := Lay.cls_five hc k (by omega)
      refine stkV_bd (ih (by omega)) (by omega) (by omega) ?_
      have := Lay.imin_le (Lay.rF c k + Lay.rM c k) (nodesN c)
      omega
  exact stkV_bd (hV 5 (by omega)) (by omega) (by omega) (by omega)
theorem first_ww {c : Cfg} (hc : OkC c) {L : List Int} (h : Rep (shOf c) L (firstV c)) : WW L := by
  intro x hx
  obtain ⟨i, hi, rfl⟩ := List.getElem_of_mem hx
  have hl : i < (things (shOf c)).length := by rw [Lay.things_len, ← h.1]; exact hi
  obtain ⟨t, ht⟩ : ∃ t, t = Lay.gt (things (shOf c)) i := ⟨_, rfl⟩
  have hm : t ∈ things (shOf c) := by rw [ht, Lay.gt, List.getD, List.getElem?_eq_getElem hl]; exact List.getElem_mem hl
  have hn := things_norm _ t hm
  have hp := Lay.place_spec hn hl ht.symm
  have e := h.2 t hn (by omega)
  rw [hp] at e
  have e2 : L[i] = firstV c t := by rw [← e]; simp [List.getD, hi]
  rw [e2]
  have := firstV_bd hc t
  omega
end Go.Proofs.YthoiaffeenhfgaaGreat

namespace Go.Proofs.YthoiaffeenhfgaaGreat
open Go.RowKit
set_option linter.unusedVariables false
set_option linter.unusedSimpArgs false
open Lay (plcc plc shOf packN nodesN OkC Cfg Norm firstV Rep lenL things)
structure PO (B S D N : Nat) (c : Cfg) (w0 w : World) (L : List Int) (k : Int) : Prop where
  st : ∃ cc, 0 ≤ cc ∧ cc ≤ k ∧ St w S D L cc
  mp : Lay.IsMap w N c
  ok : OkC c
  ns : N ≠ S ∧ N ≠ D
  lo : B ≤ S ∧ B ≤ D ∧ B ≤ w0.heap.size
  ww : WW L
  bel : Below B w0 w
section
variable {B S D N : Nat} {c : Cfg} {w0 w w' : World} {L : List Int} {k t : Int} {X lo : Nat} {m : Pm}
theorem PO.lt (h : PO B S D N c w0 w L k) : S < w.heap.size ∧ D < w.heap.size ∧ N < w.heap.size := by
  obtain ⟨cc, _, _, hs⟩ := h.st; exact ⟨hs.ltS, hs.row.lt, h.mp.1⟩
theorem PO.step (h : PO B S D N c w0 w L k) (hb : Below w.heap.size w w') : PO B S D N c w0 w' L k := by
  obtain ⟨cc, h0, h1, hs⟩ := h.st
  exact ⟨⟨cc, h0, h1, hs.below hb⟩, h.mp.below hb, h.ok, h.ns, h.lo, h.ww, below_step h.bel (Nat.le_trans h.lo.2.2 h.bel.size) hb⟩
theorem PO.more (h : PO B S D N c w0 w L k) {k' : Int} (hk : k ≤ k') : PO B S D N c w0 w L k' := by
  obtain ⟨cc, h0, h1, hs⟩ := h.st
  exact ⟨⟨cc, h0, by omega, hs⟩, h.mp, h.ok, h.ns, h.lo, h.ww, h.bel⟩
end
end Go.Proofs.YthoiaffeenhfgaaGreat

namespace Go.Proofs.YthoiaffeenhfgaaGreat
open Go.RowKit
set_option linter.unusedVariables false
set_option linter.unusedSimpArgs false
open Lay (plcc plc shOf packN nodesN OkC Cfg Norm firstV Rep lenL things)
def ints (k : IntKind) (l : List Int) : List Value := l.map (Value.int k)
structure HS (S D N bq off : Nat) (Q : List Int) (c : Cfg) (w0 wr : World) (L : List Int) (k : Int) (v : Value) (l : List Int) : Prop where
  po : PO w0.heap.size S D N c w0 wr L k
  q : 0 < Q.length → bq < wr.heap.size ∧ bq ≠ S ∧ bq ≠ D ∧ w0.heap.size ≤ bq
  qc : ∀ j, j < Q.length → wr.cell? ⟨bq, off + j, none⟩ = some (.int .i64 (Q.getD j 0))
  o : ∃ o, QVO 39 o wr v (ints .u64 l) ∧ ∀ b, o = some b → w0.heap.size ≤ b ∧ b ≠ S ∧ b ≠ D ∧ b ≠ N ∧ (0 < Q.length → b ≠ bq)
section
variable {S D N bq off : Nat} {Q : List Int} {c : Cfg} {w0 wr w' : World} {L : List Int} {k : Int} {v : Value} {l : List Int}
end
end Go.Proofs.YthoiaffeenhfgaaGreat

namespace Go.Proofs.YthoiaffeenhfgaaGreat
open Go.RowKit
set_option linter.unusedVariables false
set_option linter.unusedSimpArgs false
open Lay (plcc plc shOf packN nodesN OkC Cfg Norm firstV Rep lenL things)
section
variable {B S D N : Nat} {c : Cfg} {w0 w w' : World} {L : List Int} {k t : Int} {X lo : Nat} {m : Pm}
def PKX (lo : Nat) (w : World) (X S D : Nat) (c : Cfg) (N : Nat) (m : Pm) : Prop := ∃ O Dp, PKM w X O Dp c N m ∧ (∀ b, O b → lo ≤ b) ∧ ¬ Dp S ∧ ¬ Dp D
theorem PKX.of_new {E : Nat → Prop} {e : Ending} (h : PO B S D N c w0 w L k) (hn : NewP w c N E m e w') (e1 : ¬ E S) (e2 : ¬ E D) : ∃ X, e = .returned (ptr X) ∧ PKX w.heap.size w' X S D c N m ∧ PO B S D N c w0 w' L k ∧ Below w.heap.size w w' := by
  obtain ⟨X, O, Dp, rfl, hp, ho, hd, hb⟩ := hn
  have hl := h.lt
  exact ⟨X, rfl, ⟨O, Dp, hp, ho, fun d => by rcases hd S d with x | x; omega; exact e1 x, fun d => by rcases hd D d with x | x; omega; exact e2 x⟩, h.step hb, hb⟩
theorem step_po (h : PO B S D N c w0 w L k) (hx : PKX lo w X S D c N m) (hlo : S < lo ∧ D < lo ∧ N < lo ∧ B ≤ lo ∧ lo ≤ w.heap.size) (wm : PW c t m) (hk : k ≤ 800000000) (ht : t ≤ 800000000) :
    Calls Tryz.prog 60 #[ptr X, ptr S] w fun e w' => e = .returned (.bool (decide ((pstp (gOf c) L m).2.pc = 0))) ∧ PO B S D N c w0 w' (pstp (gOf c) L m).1 (k + 1) ∧ PKX lo w' X S D c N (pstp (gOf c) L m).2 ∧
      UF (fun b => b = S ∨ b = D ∨ lo ≤ b) w w' := by
  obtain ⟨cc, h0, h1, hs⟩ := h.st
  obtain ⟨O, Dp, hp, ho, hS, hD⟩ := hx
  have hl := h.lt
  have hB := h.lo
  refine (step_pk h.ok hp hs h.mp hS hD (fun hh => by have := ho N hh; omega) h.ns.1 h.ns.2 wm h.ww h0 (by omega) (by omega)).mono ?_
  rintro e w' ⟨rfl, ⟨O', D', hp', ho', hd'⟩, hs', u⟩
  have u2 : UF (fun b => b = S ∨ b = D ∨ lo ≤ b) w w' := u.mono fun b _ hb => by
    rcases hb with hb | hb | hb
    · exact .inl hb
    · exact .inr (.inl hb)
    · exact .inr (.inr (ho b hb))
  refine ⟨rfl, ⟨⟨pcost m cc, ?_, ?_, hs'⟩, IsMap_same h.mp u2.size (u2.block N hl.2.2 (by have := h.ns; omega)), h.ok, h.ns, h.lo, (wm.step h.ww).2, below_uf h.bel h.lo.2.2 u2 (fun b hb => by omega)⟩, ⟨O', D', hp', fun b hb => ?_, fun hh => ?_, fun hh => ?_⟩, u2⟩
  · unfold pcost; split <;> omega
  · unfold pcost; split <;> omega
  · rcases ho' b hb with x | x
    · exact ho b x
    · omega
  · rcases hd' S hh with x | x
    · exact hS x
    · omega
  · rcases hd' D hh with x | x
    · exact hD x
    · omega
end
attribute [local irreducible] pruns
end Go.Proofs.YthoiaffeenhfgaaGreat

namespace Go.Proofs.YthoiaffeenhfgaaGreat
open Go.RowKit
set_option linter.unusedVariables false
open Lay (plcc plc shOf packN nodesN OkC Cfg Norm firstV Rep lenL things cnt sumTo cfgO)
def SmallP (c : Cfg) (w : World) (e : Ending) (w' : World) : Prop := ∃ b, e = .returned (.bool b) ∧ (b = true → OkC c ∧ nodesN c ≤ 12) ∧ Below w.heap.size w w'
set_option maxHeartbeats 4000000 in
theorem small_any (c : Cfg) (w : World) : Calls Tryz.prog 8 #[Lay.cfgV c] w (SmallP c w) := by
  obtain ⟨w0, hw0⟩ : ∃ w0 : World, w0 = w.alloc (cfgO c 24) := ⟨_, rfl⟩
  have hc0 : ∀ K, K < 5 → w0.cell? ⟨w.heap.size, K, none⟩ = some (.int .i64 (cnt c.a c.b c.c c.d c.e K)) := fun K hK => by rw [hw0]; exact Lay.cfg_cell c 24 w K hK
  have hbe : Below w.heap.size w w0 := by rw [hw0]; exact below_alloc0 (Below.refl _ _) _
  have hkc : Lay.KC w w.heap.size c w0 := by rw [hw0]; exact Lay.KC.start c _ w w (Below.refl _ _)
  have HK := Lib.hid hkc
  have HW := Lib.hid hw0
  have HC := Lib.hid hc0
  have HBE := Lib.hid hbe
  have hs5 := Lay.sum5 c
  have HS5 := Lib.hid hs5
  clear hw0 hc0 hbe hkc hs5
  go_enter Tryz.func8, Tryz.ntmps8
  go_wp2
  rw [← HW.out]
  go_loopw [3, 4] (fun s i wr => ∃ (K : Nat), K ≤ 5 ∧ i = .int .i64 K ∧ s = .int .i64 (sumTo c K) ∧ 0 ≤ sumTo c K ∧ sumTo c K ≤ 6 * K ∧ wr = w0) (fun _ i _ => 5 - (intOf i).toNat)
  case atStart => exact ⟨0, by omega, rfl, rfl, by simp [sumTo], by simp [sumTo], rfl⟩
  case round =>
    obtain ⟨K, hK, rfl, rfl, h0, h6, rfl⟩ := hrel
    by_cases hlt : K < 5
    · have hcell := HC.out K hlt
      obtain ⟨C, hC⟩ : ∃ C, C = cnt c.a c.b c.c c.d c.e K := ⟨_, rfl⟩
      rw [← hC] at hcell
      have hst : sumTo c (K + 1) = sumTo c K + C := by rw [hC]; rfl
      obtain ⟨T, hT⟩ : ∃ T, T = sumTo c K := ⟨_, rfl⟩
      rw [← hT] at h0 h6 hst ⊢
      have HST := Lib.hid hst
      clear hC hst hT
      by_cases hlo : C < 0
      · go_wp2_with (fail)
        go_ret
        exact ⟨false, rfl, (fun h => by cases h), HBE.out⟩
      · by_cases hhi : 6 < C
        · go_wp2_with (fail)
          go_ret
          exact ⟨false, rfl, (fun h => by cases h), HBE.out⟩
        · go_wp2_with (fail)
          go_roundw
          case rel => exact ⟨K + 1, by omega, by go_num, by rw [HST.out], by rw [HST.out]; omega, by rw [HST.out]; omega, trivial⟩
          case measure => simp [intOf]; omega
    · obtain rfl : K = 5 := by omega
      clear hlt hK
      obtain ⟨q0, q1, q2, q3, q4, q5, q6, q7, q8, q9, q10, q11⟩ := kc_cells HK.out
      obtain ⟨T, hT⟩ : ∃ T, T = sumTo c 5 := ⟨_, rfl⟩
      have HTT := Lib.hid hT
      rw [← hT] at h0 h6 ⊢
      clear hT
      by_cases h12 : T ≤ 12
      · have d1 : decide (T ≤ 12) = true := by simpa using h12
        by_cases hok : OkC c
        · have HOK := Lib.hid hok; clear hok
          go_wp2_with (first
            | (go_at_call 39; (with_reducible refine (Lay.model_any c _).mono ?_); rintro r w2 ⟨rfl, hb2⟩; have HB := Lib.hid (HBE.out.trans (hb2.mono HBE.out.size)); clear hb2)
            | (go_at_call 38; (with_reducible refine (Lay.rcheck_any c _).mono ?_); rintro r w3 ⟨x, rfl, hx, hb3⟩; obtain rfl := hx.1 HOK.out; have HB := Lib.hid (below_step HB.out HB.out.size hb3); clear hb3 hx)
            | fail)
          go_ret
          exact ⟨true, rfl, fun _ => ⟨HOK.out, by have := HTT.out; have := HS5.out; show c.a + c.b + c.c + c.d + c.e ≤ 12; omega⟩, HB.out⟩
        · have HOK := Lib.hid hok; clear hok
          go_wp2_with (first
            | (go_at_call 39; (with_reducible refine (Lay.model_any c _).mono ?_); rintro r w2 ⟨rfl, hb2⟩; have HB := Lib.hid (HBE.out.trans (hb2.mono HBE.out.size)); clear hb2)
            | (go_at_call 38; (with_reducible refine (Lay.rcheck_any c _).mono ?_); rintro r w3 ⟨x, rfl, hx, hb3⟩; obtain rfl := hx.2 HOK.out; have HB := Lib.hid (below_step HB.out HB.out.size hb3); clear hb3 hx)
            | fail)
          go_ret
          exact ⟨false, rfl, (fun h => by cases h), HB.out⟩
      · have d1 : decide (T ≤ 12) = false := by simpa using h12
        go_wp2_with (fail)
        go_ret
        exact ⟨false, rfl, (fun h => by cases h), HBE.out⟩
end Go.Proofs.YthoiaffeenhfgaaGreat

namespace Go.Proofs.YthoiaffeenhfgaaGreat
open Go.RowKit
set_option linter.unusedVariables false
open Lay (plcc plc shOf packN nodesN OkC Cfg Norm firstV Rep lenL things)
theorem cfg_start (c : Cfg) (w : World) (t : TypeId) : CfgC w.heap.size c (w.alloc (Lay.cfgO c t)) := kc_cells (Lay.KC.start c t w w (Below.refl _ _))
theorem first_any {c : Cfg} (hc : OkC c) (N : Nat) (w : World) (hm : Lay.IsMap w N c) : Calls Tryz.prog 11 #[Lay.mapP N] w fun e w' => ∃ G n L, e = .returned (.slice (some ⟨G, 0, none⟩) n n) ∧ n = L.length ∧ Reads .u64 w' (some ⟨G, 0, none⟩) L ∧ Rep (shOf c) L (firstV c) ∧ Below w.heap.size w w' := by
  refine (Lay.first_m hc N w hm).mono ?_
  rintro e w' ⟨G, n, L, rfl, hn, hl, hcell, hG, hr, hb⟩
  exact ⟨G, n, L, rfl, hl.symm, fun _ => ⟨G, 0, rfl, hG, fun j hj => by rw [Nat.zero_add]; exact hcell j (by omega)⟩, hr, hb⟩
theorem first_len {c : Cfg} (hc : OkC c) {L : List Int} (h : Rep (shOf c) L (firstV c)) : L.length ≤ 10000 := by
  have := h.1; have := Lay.lenL_eq hc; have := (Lay.bds hc).t55'; omega
abbrev wcf (w : World) (c : Cfg) : World := w.alloc (Lay.cfgO c 24)
def Bw (w : World) (c : Cfg) (w' : World) : Prop := Below (w.heap.size + 1) (wcf w c) w'
section
variable {w w' w2 : World} {c : Cfg}
theorem Bw.start (w : World) (c : Cfg) : Bw w c (wcf w c) := Below.refl _ _
theorem Bw.lt (h : Bw w c w') : w.heap.size + 1 ≤ w'.heap.size := by have := h.size; simpa using this
theorem Bw.step (h : Bw w c w') (hb : Below w'.heap.size w' w2) : Bw w c w2 := below_step h h.lt hb
theorem Bw.fin (h : Bw w c w') : Below w.heap.size w w' := (below_alloc0 (Below.refl _ _) _).trans (h.mono (Nat.le_succ _))
theorem Bw.cfg (h : Bw w c w') : CfgC w.heap.size c w' := by
  have h0 := cfg_start c w 24
  obtain ⟨h0, h1, h2, h3, h4, h5, h6, h7, h8, h9, h10, h11⟩ := h0
  have e : ∀ i, w'.cell? ⟨w.heap.size, i, none⟩ = (wcf w c).cell? ⟨w.heap.size, i, none⟩ := fun i => h.cell (p := ⟨w.heap.size, i, none⟩) (Nat.lt_succ_self _)
  exact ⟨(e 0).trans h0, (e 1).trans h1, (e 2).trans h2, (e 3).trans h3, (e 4).trans h4, (e 5).trans h5, (e 6).trans h6, (e 7).trans h7, (e 8).trans h8, (e 9).trans h9, (e 10).trans h10, (e 11).trans h11⟩
theorem Bw.reads {k : IntKind} {A : Option Addr} {zs : List Int} (h : Bw w c w') (r : Reads k w A zs) : Reads k w' A zs := r.below h.fin (Nat.le_refl _)
end
end Go.Proofs.YthoiaffeenhfgaaGreat
