/- The document's own map and what its pool holds, walked. -/
import Derived.Test.YtbjhciccpkbmoaaRefPk
import Derived.Test.YtbjhciccpkbmoaaLayRooms
namespace Go.Proofs.Ytbjhciccpkbmoaa
open Go.RowKit
set_option linter.unusedVariables false
open Lay (plcc plc shOf packN nodesN OkC Cfg Norm firstV Rep lenL things)

/-- The cells of a configuration in its box. -/
abbrev CfgC (B : Nat) (c : Cfg) (w' : World) : Prop := w'.cell? ⟨B, 0, none⟩ = some (.int .i64 c.a) ∧ w'.cell? ⟨B, 1, none⟩ = some (.int .i64 c.b) ∧ w'.cell? ⟨B, 2, none⟩ = some (.int .i64 c.c) ∧ w'.cell? ⟨B, 3, none⟩ = some (.int .i64 c.d) ∧ w'.cell? ⟨B, 4, none⟩ = some (.int .i64 c.e) ∧ w'.cell? ⟨B, 5, none⟩ = some (.int .i64 c.mr) ∧ w'.cell? ⟨B, 6, none⟩ = some (.int .i64 c.mu) ∧ w'.cell? ⟨B, 7, none⟩ = some (.int .i64 c.dq) ∧ w'.cell? ⟨B, 8, none⟩ = some (.int .i64 c.ch) ∧ w'.cell? ⟨B, 9, none⟩ = some (.int .i64 c.bf) ∧ w'.cell? ⟨B, 10, none⟩ = some (.int .i64 c.rt) ∧ w'.cell? ⟨B, 11, none⟩ = some (.int .i64 c.sw)
theorem kc_cells {w : World} {B : Nat} {c : Cfg} {w' : World} (h : Lay.KC w B c w') : CfgC B c w' := ⟨h.c0, h.c1, h.c2, h.c3, h.c4, h.c5, h.c6, h.c7, h.c8, h.c9, h.c10, h.c11⟩
/-- A configuration's box, and behind it that of an answer of two cells. -/
structure KR (w : World) (c : Cfg) (w' : World) : Prop where
  k : Lay.KC w w.heap.size c w'
  r0 : w'.cell? ⟨w.heap.size + 1, 0, none⟩ = some (.slice none 0 0)
  r1 : w'.cell? ⟨w.heap.size + 1, 1, none⟩ = some (.int .i64 0)
  f : ∀ j, w'.frozen? ⟨w.heap.size + 1, j, none⟩ = false
  lt : w.heap.size + 1 < w'.heap.size
theorem KR.step {w : World} {c : Cfg} {w' w2 : World} (h : KR w c w') (hb : Below w'.heap.size w' w2) : KR w c w2 :=
  ⟨h.k.step hb, (hb.cell (p := ⟨w.heap.size + 1, 0, none⟩) h.lt).trans h.r0, (hb.cell (p := ⟨w.heap.size + 1, 1, none⟩) h.lt).trans h.r1, fun j => (hb.frozen (p := ⟨w.heap.size + 1, j, none⟩) h.lt).trans (h.f j), Nat.lt_of_lt_of_le h.lt hb.size⟩
theorem KR.drew {w : World} {c : Cfg} {w' : World} (h : KR w c w') : KR w c w'.drew := h.step (Below.refl _ _).drew
theorem KR.set {w : World} {c : Cfg} {w' : World} (h : KR w c w') (u0 u1 : Value) : CfgC w.heap.size c ((w'.setCell ⟨w.heap.size + 1, 0, none⟩ u0).setCell ⟨w.heap.size + 1, 1, none⟩ u1) := by
  have far : ∀ i, ((w'.setCell ⟨w.heap.size + 1, 0, none⟩ u0).setCell ⟨w.heap.size + 1, 1, none⟩ u1).cell? ⟨w.heap.size, i, none⟩ = w'.cell? ⟨w.heap.size, i, none⟩ := fun i => by
    rw [World.cell?_setCell_other _ _ _ _ (adr_ne (.inl (by omega))), World.cell?_setCell_other _ _ _ _ (adr_ne (.inl (by omega)))]
  have k := kc_cells h.k
  unfold CfgC at k ⊢
  simp only [far]
  exact k
theorem KR.start (w : World) (c : Cfg) (t T : TypeId) : KR w c ((w.alloc (Lay.cfgO c t)).alloc (.cells #[.slice none 0 0, .int .i64 0] T)) := by
  have hk := (Lay.KC.start c t w w (Below.refl _ _)).step (below_alloc0 (Below.refl _ _) (.cells #[.slice none 0 0, .int .i64 0] T))
  have e : w.heap.size + 1 = (w.alloc (Lay.cfgO c t)).heap.size := by simp
  refine ⟨hk, ?_, ?_, fun j => ?_, by simp⟩
  · rw [e, World.cell?_alloc_at _ _ _ _ rfl]; rfl
  · rw [e, World.cell?_alloc_at _ _ _ _ rfl]; rfl
  · rw [e]; exact World.frozen?_alloc_new _ _ _ _

/-- What it reads stands in other blocks. -/
def Off (w : World) (A : Option Addr) (k : Nat) : Prop := ∀ b off, A = some ⟨b, off, none⟩ → b ≠ k
theorem OwnT_far {w w' : World} {A : Option Addr} {n cp k B : Nat} {l : List Lay.Th} (h : Lay.OwnT B w w' (.slice A n cp) l) (hk : k < B) : Off w A k := fun b off e => by
  have := h.1.lt b (by rw [e]; rfl)
  omega
theorem reads_off {w : World} {A : Option Addr} {l : List Lay.Th} {k : Nat} {w0 : World} (h : Lay.ReadsT w A l) (ho : Off w0 A k) {u0 u1 : Value} : Lay.ReadsT ((w.setCell ⟨k, 0, none⟩ u0).setCell ⟨k, 1, none⟩ u1) A l := fun h0 => by
  obtain ⟨b, off, e, hlt, hc⟩ := h h0
  have hne := ho b off e
  have far : ∀ i, ((w.setCell ⟨k, 0, none⟩ u0).setCell ⟨k, 1, none⟩ u1).cell? ⟨b, i, none⟩ = w.cell? ⟨b, i, none⟩ := fun i => by
    rw [World.cell?_setCell_other _ _ _ _ (adr_ne (.inl (by omega))), World.cell?_setCell_other _ _ _ _ (adr_ne (.inl (by omega)))]
  exact ⟨b, off, e, by simpa using hlt, fun j hj => by rw [far, far, far]; exact hc j hj⟩

set_option maxHeartbeats 4000000 in
set_option maxRecDepth 100000 in
theorem rmap_any {c : Cfg} (hc : OkC c) (w : World) :
    Calls Try.prog 11 #[Lay.cfgV c] w fun e w' => ∃ A n cap, e = .returned (aVal A n cap (packN c)) ∧ IsA w' c A n ∧ Below w.heap.size w w' := by
  have HC := Lib.hid hc
  have hk := KR.start w c 37 35
  have HKD := Lib.hid hk.drew
  obtain ⟨q0, q1, q2, q3, q4, q5, q6, q7, q8, q9, q10, q11⟩ := kc_cells hk.k
  have HLE : Hid ((things (shOf c)).length ≤ 10000) := Lib.hid (by have := Lay.things_len (shOf c); have := Lay.lenL_eq hc; have := (Lay.bds hc).t55'; omega)
  clear hc hk
  go_enter Try.func11, Try.ntmps11
  go_wp2_with (fail)
  go_region_held3 (fun w' => CfgC w.heap.size c w')
    (first | with_reducible exact HZ.out | with_reducible exact kc_cells HK5.out.k | with_reducible exact kc_cells HK4.out.k | with_reducible exact kc_cells HKD.out.k | go_keep)
    (first
      | (go_at_call 34; (with_reducible refine (Lay.things_any HC.out _).mono ?_); rintro r w4 ⟨v, rfl, hT⟩; obtain ⟨A', cp, hv, hr, _⟩ := hT.reads; subst hv; have hb := hT.2; have HK4 := Lib.hid (HKD.out.step hb); have HT := Lib.hid hr; have HNE := Lib.hid (OwnT_far hT HKD.out.lt); clear hb hT hr)
      | (go_at_call 35; (with_reducible refine (Lay.rpackets_any HC.out _).mono ?_); rintro r w5 ⟨rfl, hb⟩; have HK5 := Lib.hid (HK4.out.step hb); have HT5 := Lib.hid (HT.out.below hb); clear hb; have r0 := HK5.out.r0; have r1 := HK5.out.r1; have f0 := HK5.out.f 0; have f1 := HK5.out.f 1; have HZ := Lib.hid (HK5.out.set (.slice A' (things (shOf c)).length cp) (.int .i64 (packN c))); have HFB := Lib.hid HK5.out.k.bel)
      | fail)
  obtain ⟨e0, e1⟩ := put2_cells r0 r1 (.slice A' (things (shOf c)).length cp) (.int .i64 (packN c))
  go_wp2_with (fail)
  exact bodyPost_ret (v := aVal A' (things (shOf c)).length cp (packN c)) (by simp [results, Try.results11, go_sem, e0, e1]) rfl ⟨A', _, cp, rfl, ⟨rfl, reads_off HT5.out HNE.out, HLE.out⟩, (HFB.out.setCell (by show w.heap.size ≤ w.heap.size + 1; omega) _).setCell (by show w.heap.size ≤ w.heap.size + 1; omega) _⟩
end Go.Proofs.Ytbjhciccpkbmoaa
