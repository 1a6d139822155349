
import Derived.Test.YtpocihddecemfaaGreatJ22
import Derived.Test.YtpocihddecemfaaGreatJ18
namespace Go.Proofs.YtpocihddecemfaaGreat
open Go.RowKit
set_option linter.unusedVariables false
set_option linter.unusedSimpArgs false
set_option maxRecDepth 100000
open Lay (plcc plc shOf packN nodesN OkC Cfg Norm firstV Rep lenL things)
structure PE (w w' : World) (A : Option Addr) (n cap : Nat) (P : Int) : Prop where
  bel : Below w.heap.size w w'
  ba : w'.heap[w.heap.size]? = some (.cells #[.slice A n cap, .int .i64 P] 36 (0, 0))
  br : w'.heap[w.heap.size + 1]? = some (.cells #[.int .i64 0, .int .i64 0, .int .i64 0, .int .i64 0] 48 (0, 0))
section
variable {w w' w2 : World} {A : Option Addr} {n cap : Nat} {P : Int}
theorem PE.step (k : PE w w' A n cap P) (hb : Below w'.heap.size w' w2) : PE w w2 A n cap P :=
  ⟨below_step k.bel k.bel.size hb, (hb.block _ (Array.getElem?_eq_some_iff.1 k.ba).1).trans k.ba, (hb.block _ (Array.getElem?_eq_some_iff.1 k.br).1).trans k.br⟩
theorem PE.cells (k : PE w w' A n cap P) : w'.cell? ⟨w.heap.size, 0, none⟩ = some (.slice A n cap) ∧ w'.cell? ⟨w.heap.size, 1, none⟩ = some (.int .i64 P) := by
  have := k.ba
  constructor <;> simp [World.cell?, this]
theorem PE.res (k : PE w w' A n cap P) : w'.cell? ⟨w.heap.size + 1, 0, none⟩ = some (.int .i64 0) ∧ w'.cell? ⟨w.heap.size + 1, 1, none⟩ = some (.int .i64 0) ∧ w'.cell? ⟨w.heap.size + 1, 2, none⟩ = some (.int .i64 0) ∧ w'.cell? ⟨w.heap.size + 1, 3, none⟩ = some (.int .i64 0) := by
  have := k.br
  refine ⟨?_, ?_, ?_, ?_⟩ <;> simp [World.cell?, this]
theorem PE.fro (k : PE w w' A n cap P) (j : Nat) : w'.frozen? ⟨w.heap.size + 1, j, none⟩ = false := frozen_of_row w' _ j _ _ k.br
theorem PE.new (w : World) (A : Option Addr) (n cap : Nat) (P : Int) : PE w ((w.alloc (.cells #[.slice A n cap, .int .i64 P] 36)).alloc (.cells #[.int .i64 0, .int .i64 0, .int .i64 0, .int .i64 0] 48)) A n cap P := by
  obtain ⟨W, hW⟩ : ∃ W, W = w.alloc (.cells #[.slice A n cap, .int .i64 P] 36) := ⟨_, rfl⟩
  have e1 : W.heap.size = w.heap.size + 1 := by rw [hW]; simp
  have h0 : W.heap[w.heap.size]? = some (.cells #[.slice A n cap, .int .i64 P] 36 (0, 0)) := by
    rw [hW]; exact Go.heap_alloc_new _ _
  have hb0 : Below w.heap.size w W := by rw [hW]; exact below_alloc0 (Below.refl _ _) _
  rw [← hW]
  have h2 : (W.alloc (.cells #[.int .i64 0, .int .i64 0, .int .i64 0, .int .i64 0] 48)).heap[w.heap.size + 1]? = some (.cells #[.int .i64 0, .int .i64 0, .int .i64 0, .int .i64 0] 48 (0, 0)) := by
    rw [← e1]; exact Go.heap_alloc_new _ _
  have hb2 : Below W.heap.size W (W.alloc (.cells #[.int .i64 0, .int .i64 0, .int .i64 0, .int .i64 0] 48)) := below_alloc0 (Below.refl _ _) _
  exact ⟨below_step hb0 hb0.size hb2, (hb2.block _ (by rw [e1]; omega)).trans h0, h2⟩
theorem PE.keep (k : PE w w' A n cap P) {v0 v1 v2 v3 : Value} : (((((w'.setCell ⟨w.heap.size + 1, 0, none⟩ v0).setCell ⟨w.heap.size + 1, 1, none⟩ v1).setCell ⟨w.heap.size + 1, 2, none⟩ v2).setCell ⟨w.heap.size + 1, 3, none⟩ v3).cell? ⟨w.heap.size, 0, none⟩ = some (.slice A n cap) ∧ ((((w'.setCell ⟨w.heap.size + 1, 0, none⟩ v0).setCell ⟨w.heap.size + 1, 1, none⟩ v1).setCell ⟨w.heap.size + 1, 2, none⟩ v2).setCell ⟨w.heap.size + 1, 3, none⟩ v3).cell? ⟨w.heap.size, 1, none⟩ = some (.int .i64 P)) := by
  have k0 := k.cells
  have far : ∀ i, ((((w'.setCell ⟨w.heap.size + 1, 0, none⟩ v0).setCell ⟨w.heap.size + 1, 1, none⟩ v1).setCell ⟨w.heap.size + 1, 2, none⟩ v2).setCell ⟨w.heap.size + 1, 3, none⟩ v3).cell? ⟨w.heap.size, i, none⟩ = w'.cell? ⟨w.heap.size, i, none⟩ := fun i => by
    rw [World.cell?_setCell_other _ _ _ _ (adr_ne (.inl (by omega))), World.cell?_setCell_other _ _ _ _ (adr_ne (.inl (by omega))), World.cell?_setCell_other _ _ _ _ (adr_ne (.inl (by omega))), World.cell?_setCell_other _ _ _ _ (adr_ne (.inl (by omega)))]
  rw [far, far]
  exact k0
theorem PE.bel4 (k : PE w w' A n cap P) {v0 v1 v2 v3 : Value} : Below w.heap.size w ((((w'.setCell ⟨w.heap.size + 1, 0, none⟩ v0).setCell ⟨w.heap.size + 1, 1, none⟩ v1).setCell ⟨w.heap.size + 1, 2, none⟩ v2).setCell ⟨w.heap.size + 1, 3, none⟩ v3) :=
  below_upd (below_upd (below_upd (below_upd k.bel (Nat.le_refl _) (upd_set1 _ (w.heap.size + 1) 0 v0) (by omega) (by omega)) (Nat.le_refl _) (upd_set1 _ (w.heap.size + 1) 1 v1) (by omega) (by omega)) (Nat.le_refl _) (upd_set1 _ (w.heap.size + 1) 2 v2) (by omega) (by omega)) (Nat.le_refl _) (upd_set1 _ (w.heap.size + 1) 3 v3) (by omega) (by omega)
end
set_option maxHeartbeats 8000000 in
theorem rends_any (c : Cfg) (A : Option Addr) (n cap : Nat) (P i rm : Int) (w : World) (h : IsA w c A n) :
    Calls Tryz.prog 107 #[aVal A n cap P, .int .i64 rm, .int .i64 i] w fun e w' => e = .returned (.agg #[.int .i64 (plcc c 8 i 0), .int .i64 (plcc c 9 i 0), .int .i64 (plcc c 10 i 0), .int .i64 rm]) ∧ Below w.heap.size w w' := by
  have hp := PE.new w A n cap P
  have HPD := Lib.hid (hp.step (Below.refl _ _).drew)
  have HA := Lib.hid h
  obtain ⟨a0, a1⟩ := hp.cells
  have HN8 : Hid (Norm ⟨8, i, 0⟩) := Lib.hid (nrm 8 i 0 (by omega) (by omega) (fun h => by omega) (fun _ _ _ => rfl))
  have HN9 : Hid (Norm ⟨9, i, 0⟩) := Lib.hid (nrm 9 i 0 (by omega) (by omega) (fun h => by omega) (fun _ _ _ => rfl))
  have HN10 : Hid (Norm ⟨10, i, 0⟩) := Lib.hid (nrm 10 i 0 (by omega) (by omega) (fun h => by omega) (fun _ _ _ => rfl))
  obtain ⟨x8, h8⟩ : ∃ x, x = plcc c 8 i 0 := ⟨_, rfl⟩
  obtain ⟨x9, h9⟩ : ∃ x, x = plcc c 9 i 0 := ⟨_, rfl⟩
  obtain ⟨x10, h10⟩ : ∃ x, x = plcc c 10 i 0 := ⟨_, rfl⟩
  rw [← h8, ← h9, ← h10]
  have H8 := Lib.hid h8; have H9 := Lib.hid h9; have H10 := Lib.hid h10
  clear h hp h8 h9 h10
  go_enter Tryz.func107, Tryz.ntmps107
  go_wp2_with (fail)
  go_region_held3 (fun w' => w'.cell? ⟨w.heap.size, 0, none⟩ = some (.slice A n cap) ∧ w'.cell? ⟨w.heap.size, 1, none⟩ = some (.int .i64 P))
    (first | (with_reducible exact HP3.out.keep) | (with_reducible exact HP3.out.cells) | (with_reducible exact HP2.out.cells) | (with_reducible exact HP1.out.cells) | (with_reducible exact HPD.out.cells) | go_keep)
    (first
      | (go_at_call 54; (with_reducible refine (rat_any c A n cap P 8 i 0 _ (HA.out.below HPD.out.bel) HN8.out).mono ?_); rintro r w3 ⟨rfl, hb⟩; rw [← H8.out]; have HP1 := Lib.hid (HPD.out.step hb); clear hb)
      | (go_at_call 54; (with_reducible refine (rat_any c A n cap P 9 i 0 _ (HA.out.below HP1.out.bel) HN9.out).mono ?_); rintro r w4 ⟨rfl, hb⟩; rw [← H9.out]; have HP2 := Lib.hid (HP1.out.step hb); clear hb)
      | (go_at_call 54; (with_reducible refine (rat_any c A n cap P 10 i 0 _ (HA.out.below HP2.out.bel) HN10.out).mono ?_); rintro r w5 ⟨rfl, hb⟩; rw [← H10.out]; have HP3 := Lib.hid (HP2.out.step hb); clear hb; obtain ⟨r0, r1, r2, r3⟩ := HP3.out.res; have hfr := HP3.out.fro)
      | fail)
  all_goals
    go_wp2_with (fail)
    exact bodyPost_ret (v := .agg #[.int .i64 x8, .int .i64 x9, .int .i64 x10, .int .i64 rm]) (by simp [results, Tryz.results107, go_sem, r0, r1, r2, r3]) rfl ⟨rfl, HP3.out.bel4⟩
structure PN (w w' : World) (A : Option Addr) (n cap : Nat) (P : Int) (c : Cfg) : Prop where
  bel : Below w.heap.size w w'
  ba : w'.heap[w.heap.size]? = some (.cells #[.slice A n cap, .int .i64 P] 36 (0, 0))
  bc : w'.heap[w.heap.size + 1]? = some (.cells #[.int .i64 c.a, .int .i64 c.b, .int .i64 c.c, .int .i64 c.d, .int .i64 c.e, .int .i64 c.mr, .int .i64 c.mu, .int .i64 c.dq, .int .i64 c.ch, .int .i64 c.bf, .int .i64 c.rt, .int .i64 c.sw] 38 (0, 0))
  br : w'.heap[w.heap.size + 1 + 1]? = some (.cells #[.int .i64 0, .int .u64 0, .int .i64 0, .int .i64 0, .int .i64 0, .int .i64 0, .int .i64 0, .int .i64 0, .int .u64 0, .int .u64 0, .int .u64 0, .bool false, .int .i64 0, .int .i64 0, .int .i64 0, .slice none 0 0, .int .i64 0, .int .i64 0, .int .i64 0, .int .i64 0, .int .i64 0, .slice none 0 0, .int .u32 0, .int .u64 0, .int .u32 0, .int .i64 0, .bool false] 60 (0, 0))
section
variable {w w' w2 : World} {A : Option Addr} {n cap : Nat} {P : Int} {c : Cfg}
theorem PN.step (k : PN w w' A n cap P c) (hb : Below w'.heap.size w' w2) : PN w w2 A n cap P c :=
  ⟨below_step k.bel k.bel.size hb, (hb.block _ (Array.getElem?_eq_some_iff.1 k.ba).1).trans k.ba, (hb.block _ (Array.getElem?_eq_some_iff.1 k.bc).1).trans k.bc, (hb.block _ (Array.getElem?_eq_some_iff.1 k.br).1).trans k.br⟩
theorem PN.lt (k : PN w w' A n cap P c) : w.heap.size + 1 + 1 < w'.heap.size := (Array.getElem?_eq_some_iff.1 k.br).1
theorem PN.cells (k : PN w w' A n cap P c) : w'.cell? ⟨w.heap.size, 0, none⟩ = some (.slice A n cap) ∧ w'.cell? ⟨w.heap.size, 1, none⟩ = some (.int .i64 P) ∧ w'.cell? ⟨w.heap.size + 1, 5, none⟩ = some (.int .i64 c.mr) ∧ w'.cell? ⟨w.heap.size + 1, 7, none⟩ = some (.int .i64 c.dq) := by
  have := k.ba
  have := k.bc
  refine ⟨?_, ?_, ?_, ?_⟩ <;> simp [World.cell?, *]
theorem PN.there (k : PN w w' A n cap P c) : w'.there (w.heap.size + 1 + 1) 0 27 := fun j hj => by
  refine ⟨?_, ?_⟩
  · have h := cell_of_row w' (w.heap.size + 1 + 1) (0 + j) _ _ _ k.br
    rw [h, Array.getElem?_eq_getElem (by simp; omega)]; rfl
  · exact frozen_of_row w' _ _ _ _ k.br
theorem PN.put (k : PN w w' A n cap P c) (u0 u1 u2 u3 u4 u5 u6 u7 u8 u9 u10 u11 u12 u13 u14 u15 u16 u17 u18 u19 u20 u21 u22 u23 u24 u25 u26 : Value) : Below w.heap.size w (ad27 w' (w.heap.size + 1 + 1) u0 u1 u2 u3 u4 u5 u6 u7 u8 u9 u10 u11 u12 u13 u14 u15 u16 u17 u18 u19 u20 u21 u22 u23 u24 u25 u26) ∧ (ad27 w' (w.heap.size + 1 + 1) u0 u1 u2 u3 u4 u5 u6 u7 u8 u9 u10 u11 u12 u13 u14 u15 u16 u17 u18 u19 u20 u21 u22 u23 u24 u25 u26).rangeAt (w.heap.size + 1 + 1) 0 [u0, u1, u2, u3, u4, u5, u6, u7, u8, u9, u10, u11, u12, u13, u14, u15, u16, u17, u18, u19, u20, u21, u22, u23, u24, u25, u26] :=
  ⟨below_upd k.bel (Nat.le_refl _) (ad27_upd w' (w.heap.size + 1 + 1) u0 u1 u2 u3 u4 u5 u6 u7 u8 u9 u10 u11 u12 u13 u14 u15 u16 u17 u18 u19 u20 u21 u22 u23 u24 u25 u26) (by omega) (by omega), fun j v hv => by
    rw [cell_of_row _ (w.heap.size + 1 + 1) (0 + j) _ _ _ (ad27_same w' (w.heap.size + 1 + 1) 60 _ _ _ _ _ _ _ _ _ _ _ _ _ _ _ _ _ _ _ _ _ _ _ _ _ _ _ k.br u0 u1 u2 u3 u4 u5 u6 u7 u8 u9 u10 u11 u12 u13 u14 u15 u16 u17 u18 u19 u20 u21 u22 u23 u24 u25 u26), Nat.zero_add, List.getElem?_toArray]; exact hv⟩
theorem PN.new (w : World) (A : Option Addr) (n cap : Nat) (P : Int) (c : Cfg) : PN w (((w.alloc (.cells #[.slice A n cap, .int .i64 P] 36)).alloc (.cells #[.int .i64 c.a, .int .i64 c.b, .int .i64 c.c, .int .i64 c.d, .int .i64 c.e, .int .i64 c.mr, .int .i64 c.mu, .int .i64 c.dq, .int .i64 c.ch, .int .i64 c.bf, .int .i64 c.rt, .int .i64 c.sw] 38)).alloc (.cells #[.int .i64 0, .int .u64 0, .int .i64 0, .int .i64 0, .int .i64 0, .int .i64 0, .int .i64 0, .int .i64 0, .int .u64 0, .int .u64 0, .int .u64 0, .bool false, .int .i64 0, .int .i64 0, .int .i64 0, .slice none 0 0, .int .i64 0, .int .i64 0, .int .i64 0, .int .i64 0, .int .i64 0, .slice none 0 0, .int .u32 0, .int .u64 0, .int .u32 0, .int .i64 0, .bool false] 60)) A n cap P c := by
  obtain ⟨W, hW⟩ : ∃ W, W = w.alloc (.cells #[.slice A n cap, .int .i64 P] 36) := ⟨_, rfl⟩
  have e1 : W.heap.size = w.heap.size + 1 := by rw [hW]; simp
  have h0 : W.heap[w.heap.size]? = some (.cells #[.slice A n cap, .int .i64 P] 36 (0, 0)) := by
    rw [hW]; exact Go.heap_alloc_new _ _
  have hb0 : Below w.heap.size w W := by rw [hW]; exact below_alloc0 (Below.refl _ _) _
  rw [← hW]
  obtain ⟨V, hV⟩ : ∃ V, V = W.alloc (.cells #[.int .i64 c.a, .int .i64 c.b, .int .i64 c.c, .int .i64 c.d, .int .i64 c.e, .int .i64 c.mr, .int .i64 c.mu, .int .i64 c.dq, .int .i64 c.ch, .int .i64 c.bf, .int .i64 c.rt, .int .i64 c.sw] 38) := ⟨_, rfl⟩
  have e2 : V.heap.size = w.heap.size + 2 := by rw [hV]; simp [e1]
  have h1 : V.heap[w.heap.size + 1]? = some (.cells #[.int .i64 c.a, .int .i64 c.b, .int .i64 c.c, .int .i64 c.d, .int .i64 c.e, .int .i64 c.mr, .int .i64 c.mu, .int .i64 c.dq, .int .i64 c.ch, .int .i64 c.bf, .int .i64 c.rt, .int .i64 c.sw] 38 (0, 0)) := by
    rw [hV, ← e1]; exact Go.heap_alloc_new _ _
  have hb1 : Below W.heap.size W V := by rw [hV]; exact below_alloc0 (Below.refl _ _) _
  rw [← hV]
  have h2 : (V.alloc (.cells #[.int .i64 0, .int .u64 0, .int .i64 0, .int .i64 0, .int .i64 0, .int .i64 0, .int .i64 0, .int .i64 0, .int .u64 0, .int .u64 0, .int .u64 0, .bool false, .int .i64 0, .int .i64 0, .int .i64 0, .slice none 0 0, .int .i64 0, .int .i64 0, .int .i64 0, .int .i64 0, .int .i64 0, .slice none 0 0, .int .u32 0, .int .u64 0, .int .u32 0, .int .i64 0, .bool false] 60)).heap[w.heap.size + 1 + 1]? = some (.cells #[.int .i64 0, .int .u64 0, .int .i64 0, .int .i64 0, .int .i64 0, .int .i64 0, .int .i64 0, .int .i64 0, .int .u64 0, .int .u64 0, .int .u64 0, .bool false, .int .i64 0, .int .i64 0, .int .i64 0, .slice none 0 0, .int .i64 0, .int .i64 0, .int .i64 0, .int .i64 0, .int .i64 0, .slice none 0 0, .int .u32 0, .int .u64 0, .int .u32 0, .int .i64 0, .bool false] 60 (0, 0)) := by
    rw [show w.heap.size + 1 + 1 = V.heap.size from e2.symm]; exact Go.heap_alloc_new _ _
  have hb2 : Below V.heap.size V (V.alloc (.cells #[.int .i64 0, .int .u64 0, .int .i64 0, .int .i64 0, .int .i64 0, .int .i64 0, .int .i64 0, .int .i64 0, .int .u64 0, .int .u64 0, .int .u64 0, .bool false, .int .i64 0, .int .i64 0, .int .i64 0, .slice none 0 0, .int .i64 0, .int .i64 0, .int .i64 0, .int .i64 0, .int .i64 0, .slice none 0 0, .int .u32 0, .int .u64 0, .int .u32 0, .int .i64 0, .bool false] 60)) := below_alloc0 (Below.refl _ _) _
  exact ⟨below_step (below_step hb0 hb0.size hb1) (by rw [e2]; omega) hb2, (hb2.block _ (by rw [e2]; omega)).trans ((hb1.block _ (by rw [e1]; omega)).trans h0), (hb2.block _ (by rw [e2]; omega)).trans h1, h2⟩
end
def SomeR (Q : Nat → Prop) (m : Am) (w : World) (e : Ending) (w' : World) : Prop := ∃ v, e = .returned v ∧ RAm Q w' m v ∧ Below w.heap.size w w'
theorem res1 {P : Program} {fn : Func} {q : Tmp} {ty : TypeId} (h : fn.results = #[.cell q ty]) (tmps : Array Value) (w : World) (c : Value) (a : Addr) (hq : tmps.getD q undef = .pointer (some a)) (hl : (loadVar ty a).run P w = .ok c w) : (results fn tmps).run P w = .ok c w := by
  have hq' : tmps[q]?.getD undef = .pointer (some a) := by simpa using hq
  simp [results, h, hq', asAddr, hl]
set_option maxHeartbeats 16000000 in
theorem ranew_in (Q : Nat → Prop) (c : Cfg) (A : Option Addr) (n cap : Nat) (P i tk : Int) (w : World) (h : IsA w c A n) (hi : decide (i < 0) = false) (hj : decide (c.mr ≤ i) = false) :
    Calls Tryz.prog 85 #[aVal A n cap P, Lay.cfgV c, .int .i64 i, .int .u64 tk] w (SomeR Q (aNew (eOf c i) tk) w) := by
  have hp := PN.new w A n cap P c
  have HP0 := Lib.hid hp
  have HA := Lib.hid h
  obtain ⟨a0, a1, a5, a7⟩ := hp.cells
  clear h
  have hlt0 := hp.lt
  obtain ⟨W1, hW1⟩ : ∃ W1, W1 = (((w.alloc (.cells #[.slice A n cap, .int .i64 P] 36)).alloc (.cells #[.int .i64 c.a, .int .i64 c.b, .int .i64 c.c, .int .i64 c.d, .int .i64 c.e, .int .i64 c.mr, .int .i64 c.mu, .int .i64 c.dq, .int .i64 c.ch, .int .i64 c.bf, .int .i64 c.rt, .int .i64 c.sw] 38)).alloc (.cells #[.int .i64 0, .int .u64 0, .int .i64 0, .int .i64 0, .int .i64 0, .int .i64 0, .int .i64 0, .int .i64 0, .int .u64 0, .int .u64 0, .int .u64 0, .bool false, .int .i64 0, .int .i64 0, .int .i64 0, .slice none 0 0, .int .i64 0, .int .i64 0, .int .i64 0, .int .i64 0, .int .i64 0, .slice none 0 0, .int .u32 0, .int .u64 0, .int .u32 0, .int .i64 0, .bool false] 60)) := ⟨_, rfl⟩
  rw [← hW1] at HP0 a0 a1 a5 a7 hlt0
  have HW1 := Lib.hid hW1
  clear hp hW1
  go_enter Tryz.func85, Tryz.ntmps85
  have HPU : Hid (∀ w, Calls Tryz.prog 106 #[.agg #[.int .i64 (plcc c 8 i 0), .int .i64 (plcc c 9 i 0), .int .i64 (plcc c 10 i 0), .int .i64 c.dq], .int .u64 tk] w fun a w' => a = .returned (.agg #[.int .i64 1, .int .i64 1, .int .i64 (plcc c 8 i 0), .int .i64 (plcc c 9 i 0), .int .i64 (plcc c 10 i 0), .int .i64 c.dq, .int .u64 0, .int .u64 0, .int .u64 tk, .bool false, .int .i64 0]) ∧ Below w.heap.size w w') := Lib.hid (fun w => Dg.rdpush_any (eOf c i) tk w)
  go_upto_if 16 with (fail)
  rw [← HW1.out]
  clear HW1
  go_wp2_with (first
    | (go_at_call 107; (with_reducible refine (rends_any c A n cap P i c.dq _ (HA.out.below HP0.out.bel)).mono ?_); rintro r w3 ⟨rfl, hb⟩; have HP1 := Lib.hid (HP0.out.step hb); clear hb a0 a1 a5 a7)
    | (go_at_call 106; (with_reducible refine (HPU.out _).mono ?_); rintro r w4 ⟨rfl, hb⟩; have HP2 := Lib.hid (HP1.out.step hb); clear hb; rename_i hKK; refine hKK _ _ ?_; refine wpList_build rfl 60 _ rfl (by kernel_rfl) ?_; refine wpList_store_mid rfl 60 (.tmp 8) (.tmp 26) rfl (w.heap.size + 1 + 1) 0 #[.int .i64 1, .int .u64 tk, .int .i64 1, .int .i64 1, .int .i64 (plcc c 8 i 0), .int .i64 (plcc c 9 i 0), .int .i64 (plcc c 10 i 0), .int .i64 c.dq, .int .u64 0, .int .u64 0, .int .u64 tk, .bool false, .int .i64 0, .int .i64 0, .int .i64 0, .slice none 0 0, .int .i64 0, .int .i64 0, .int .i64 0, .int .i64 0, .int .i64 0, .slice none 0 0, .int .u32 0, .int .u64 0, .int .u32 0, .int .i64 0, .bool false] rfl (by kernel_rfl) HP2.out.there (by kernel_rfl) (by simp only [List.all_toArray, List.all_cons, List.all_nil, Value.oneCell', Bool.and_self]) ?_; refine wpList_nil ?_; rw [set27])
    | fail)
  obtain ⟨W3, hW3⟩ : ∃ W3, W3 = ad27 w4 (w.heap.size + 1 + 1) (.int .i64 1) (.int .u64 tk) (.int .i64 1) (.int .i64 1) (.int .i64 (plcc c 8 i 0)) (.int .i64 (plcc c 9 i 0)) (.int .i64 (plcc c 10 i 0)) (.int .i64 c.dq) (.int .u64 0) (.int .u64 0) (.int .u64 tk) (.bool false) (.int .i64 0) (.int .i64 0) (.int .i64 0) (.slice none 0 0) (.int .i64 0) (.int .i64 0) (.int .i64 0) (.int .i64 0) (.int .i64 0) (.slice none 0 0) (.int .u32 0) (.int .u64 0) (.int .u32 0) (.int .i64 0) (.bool false) := ⟨_, rfl⟩
  have hl : (loadVar 60 ⟨w.heap.size + 1 + 1, 0, none⟩).run Tryz.prog W3 = .ok (.agg #[.int .i64 1, .int .u64 tk, .int .i64 1, .int .i64 1, .int .i64 (plcc c 8 i 0), .int .i64 (plcc c 9 i 0), .int .i64 (plcc c 10 i 0), .int .i64 c.dq, .int .u64 0, .int .u64 0, .int .u64 tk, .bool false, .int .i64 0, .int .i64 0, .int .i64 0, .slice none 0 0, .int .i64 0, .int .i64 0, .int .i64 0, .int .i64 0, .int .i64 0, .slice none 0 0, .int .u32 0, .int .u64 0, .int .u32 0, .int .i64 0, .bool false]) W3 := by
    rw [hW3]; exact run_loadVar_mid _ _ 0 60 _ _ (HP2.out.put (.int .i64 1) (.int .u64 tk) (.int .i64 1) (.int .i64 1) (.int .i64 (plcc c 8 i 0)) (.int .i64 (plcc c 9 i 0)) (.int .i64 (plcc c 10 i 0)) (.int .i64 c.dq) (.int .u64 0) (.int .u64 0) (.int .u64 tk) (.bool false) (.int .i64 0) (.int .i64 0) (.int .i64 0) (.slice none 0 0) (.int .i64 0) (.int .i64 0) (.int .i64 0) (.int .i64 0) (.int .i64 0) (.slice none 0 0) (.int .u32 0) (.int .u64 0) (.int .u32 0) (.int .i64 0) (.bool false)).2 row59.choose_spec.1 row59.choose_spec.2 (by kernel_rfl)
  have hb3 : Below w.heap.size w W3 := by rw [hW3]; exact (HP2.out.put (.int .i64 1) (.int .u64 tk) (.int .i64 1) (.int .i64 1) (.int .i64 (plcc c 8 i 0)) (.int .i64 (plcc c 9 i 0)) (.int .i64 (plcc c 10 i 0)) (.int .i64 c.dq) (.int .u64 0) (.int .u64 0) (.int .u64 tk) (.bool false) (.int .i64 0) (.int .i64 0) (.int .i64 0) (.slice none 0 0) (.int .i64 0) (.int .i64 0) (.int .i64 0) (.int .i64 0) (.int .i64 0) (.slice none 0 0) (.int .u32 0) (.int .u64 0) (.int .u32 0) (.int .i64 0) (.bool false)).1
  rw [← hW3]
  clear hW3
  exact bodyPost_ret (v := .agg #[.int .i64 1, .int .u64 tk, .int .i64 1, .int .i64 1, .int .i64 (plcc c 8 i 0), .int .i64 (plcc c 9 i 0), .int .i64 (plcc c 10 i 0), .int .i64 c.dq, .int .u64 0, .int .u64 0, .int .u64 tk, .bool false, .int .i64 0, .int .i64 0, .int .i64 0, .slice none 0 0, .int .i64 0, .int .i64 0, .int .i64 0, .int .i64 0, .int .i64 0, .slice none 0 0, .int .u32 0, .int .u64 0, .int .u32 0, .int .i64 0, .bool false]) (res1 Tryz.results85 _ W3 _ _ rfl hl) rfl ⟨_, rfl, ⟨_, _, _, _, _, _, _, _, _, _, _, _, _, _, _, _, _, _, _, _, _, _, _, _, _, _, _, _, rfl, (fun _ => rfl), (fun k => by simp [aNew] at k)⟩, hb3⟩
end Go.Proofs.YtpocihddecemfaaGreat
