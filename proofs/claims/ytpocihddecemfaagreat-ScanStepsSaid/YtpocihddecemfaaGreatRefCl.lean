
import Derived.Test.YtpocihddecemfaaGreatJ1
import Derived.Test.YtpocihddecemfaaGreatJ14
import Derived.Test.YtpocihddecemfaaGreatJ3
import Derived.Test.YtpocihddecemfaaGreatJ7
namespace Go.Proofs.YtpocihddecemfaaGreat
open Go.RowKit
set_option linter.unusedVariables false
set_option linter.unusedSimpArgs false
set_option maxRecDepth 100000
open Lay (plcc plc shOf packN nodesN OkC Cfg Norm firstV Rep lenL things)
theorem nrmC (k a b : Int) (h6 : 0 ≤ k) (h18 : k ≤ 18) (ha : k ≤ 5 → a = 0) (hb : k ≠ 10 → k ≠ 13 → k ≠ 18 → b = 0) : Norm ⟨k, a, b⟩ := ⟨h6, h18, ha, hb⟩
theorem row5_cells {w : World} {B : Nat} {t : TypeId} {x0 x1 x2 x3 x4 : Value} (h : w.heap[B]? = some (.cells #[x0, x1, x2, x3, x4] t (0, 0))) : w.cell? ⟨B, 0, none⟩ = some x0 ∧ w.cell? ⟨B, 1, none⟩ = some x1 ∧ w.cell? ⟨B, 2, none⟩ = some x2 ∧ w.cell? ⟨B, 3, none⟩ = some x3 ∧ w.cell? ⟨B, 4, none⟩ = some x4 := by
  refine ⟨?_, ?_, ?_, ?_, ?_⟩ <;> simp [World.cell?, h]
structure QS (w w' : World) (A : Option Addr) (n cap : Nat) (P : Int) (x0 x1 x2 x3 x4 : Value) : Prop where
  bel : Below w.heap.size w w'
  ba : w'.heap[w.heap.size]? = some (.cells #[.slice A n cap, .int .i64 P] 36 (0, 0))
  bm : w'.heap[w.heap.size + 1]? = some (.cells #[x0, x1, x2, x3, x4] 46 (0, 0))
  br : w'.heap[w.heap.size + 1 + 1]? = some (.cells #[.int .i64 0, .int .i64 0, .int .u64 0, .int .u64 0, .bool false] 46 (0, 0))
section
variable {w w' w2 : World} {A : Option Addr} {n cap : Nat} {P : Int} {x0 x1 x2 x3 x4 u0 u1 u2 u3 u4 : Value}
theorem QS.step (k : QS w w' A n cap P x0 x1 x2 x3 x4) (hb : Below w'.heap.size w' w2) : QS w w2 A n cap P x0 x1 x2 x3 x4 :=
  ⟨below_step k.bel k.bel.size hb, (hb.block _ (Array.getElem?_eq_some_iff.1 k.ba).1).trans k.ba, (hb.block _ (Array.getElem?_eq_some_iff.1 k.bm).1).trans k.bm, (hb.block _ (Array.getElem?_eq_some_iff.1 k.br).1).trans k.br⟩
theorem QS.lt (k : QS w w' A n cap P x0 x1 x2 x3 x4) : w.heap.size + 2 < w'.heap.size := (Array.getElem?_eq_some_iff.1 k.br).1
theorem QS.frr (k : QS w w' A n cap P x0 x1 x2 x3 x4) (j : Nat) : w'.frozen? ⟨w.heap.size + 1 + 1, j, none⟩ = false := frozen_of_row w' _ j _ _ k.br
theorem QS.frm (k : QS w w' A n cap P x0 x1 x2 x3 x4) (j : Nat) : w'.frozen? ⟨w.heap.size + 1, j, none⟩ = false := frozen_of_row w' _ j _ _ k.bm
theorem QS.mc (k : QS w w' A n cap P x0 x1 x2 x3 x4) : w'.cell? ⟨w.heap.size + 1, 0, none⟩ = some x0 ∧ w'.cell? ⟨w.heap.size + 1, 1, none⟩ = some x1 ∧ w'.cell? ⟨w.heap.size + 1, 2, none⟩ = some x2 ∧ w'.cell? ⟨w.heap.size + 1, 3, none⟩ = some x3 ∧ w'.cell? ⟨w.heap.size + 1, 4, none⟩ = some x4 := row5_cells k.bm
theorem QS.res (k : QS w w' A n cap P x0 x1 x2 x3 x4) : w'.cell? ⟨w.heap.size + 1 + 1, 0, none⟩ = some (.int .i64 0) ∧ w'.cell? ⟨w.heap.size + 1 + 1, 1, none⟩ = some (.int .i64 0) ∧ w'.cell? ⟨w.heap.size + 1 + 1, 2, none⟩ = some (.int .u64 0) ∧ w'.cell? ⟨w.heap.size + 1 + 1, 3, none⟩ = some (.int .u64 0) ∧ w'.cell? ⟨w.heap.size + 1 + 1, 4, none⟩ = some (.bool false) := row5_cells k.br
theorem QS.upd (k : QS w w' A n cap P x0 x1 x2 x3 x4) (u : Upd (w.heap.size + 1) (w.heap.size + 1) w' w2) (h : w2.heap[w.heap.size + 1]? = some (.cells #[u0, u1, u2, u3, u4] 46 (0, 0))) : QS w w2 A n cap P u0 u1 u2 u3 u4 :=
  ⟨below_upd k.bel (Nat.le_refl _) u (by omega) (by omega), (u.block _ (Array.getElem?_eq_some_iff.1 k.ba).1 (by omega) (by omega)).trans k.ba, h, (u.block _ (Array.getElem?_eq_some_iff.1 k.br).1 (by omega) (by omega)).trans k.br⟩
theorem QS.set0 (k : QS w w' A n cap P x0 x1 x2 x3 x4) (v : Value) : QS w (w'.setCell ⟨w.heap.size + 1, 0, none⟩ v) A n cap P v x1 x2 x3 x4 :=
  k.upd ⟨rfl, rfl, rfl, by simp, fun k hk h1 _ => heap_setCell_other w' ⟨w.heap.size + 1, 0, none⟩ k v h1⟩ ((heap_setCell_same _ (w.heap.size + 1) 0 _ 46 v k.bm).trans (congrArg (fun c => some (Obj.cells c 46 (0, 0))) (show (#[x0, x1, x2, x3, x4] : Array Value).setIfInBounds 0 v = #[v, x1, x2, x3, x4] from rfl)))
theorem QS.set3 (k : QS w w' A n cap P x0 x1 x2 x3 x4) (v : Value) : QS w (w'.setCell ⟨w.heap.size + 1, 3, none⟩ v) A n cap P x0 x1 x2 v x4 :=
  k.upd ⟨rfl, rfl, rfl, by simp, fun k hk h1 _ => heap_setCell_other w' ⟨w.heap.size + 1, 3, none⟩ k v h1⟩ ((heap_setCell_same _ (w.heap.size + 1) 3 _ 46 v k.bm).trans (congrArg (fun c => some (Obj.cells c 46 (0, 0))) (show (#[x0, x1, x2, x3, x4] : Array Value).setIfInBounds 3 v = #[x0, x1, x2, v, x4] from rfl)))
theorem QS.set4 (k : QS w w' A n cap P x0 x1 x2 x3 x4) (v : Value) : QS w (w'.setCell ⟨w.heap.size + 1, 4, none⟩ v) A n cap P x0 x1 x2 x3 v :=
  k.upd ⟨rfl, rfl, rfl, by simp, fun k hk h1 _ => heap_setCell_other w' ⟨w.heap.size + 1, 4, none⟩ k v h1⟩ ((heap_setCell_same _ (w.heap.size + 1) 4 _ 46 v k.bm).trans (congrArg (fun c => some (Obj.cells c 46 (0, 0))) (show (#[x0, x1, x2, x3, x4] : Array Value).setIfInBounds 4 v = #[x0, x1, x2, x3, v] from rfl)))
theorem QS.putr (k : QS w w' A n cap P x0 x1 x2 x3 x4) : (put5 w' (w.heap.size + 1 + 1) u0 u1 u2 u3 u4).cell? ⟨w.heap.size + 1 + 1, 0, none⟩ = some u0 ∧ (put5 w' (w.heap.size + 1 + 1) u0 u1 u2 u3 u4).cell? ⟨w.heap.size + 1 + 1, 1, none⟩ = some u1 ∧ (put5 w' (w.heap.size + 1 + 1) u0 u1 u2 u3 u4).cell? ⟨w.heap.size + 1 + 1, 2, none⟩ = some u2 ∧ (put5 w' (w.heap.size + 1 + 1) u0 u1 u2 u3 u4).cell? ⟨w.heap.size + 1 + 1, 3, none⟩ = some u3 ∧ (put5 w' (w.heap.size + 1 + 1) u0 u1 u2 u3 u4).cell? ⟨w.heap.size + 1 + 1, 4, none⟩ = some u4 :=
  row5_cells (put5_same w' (w.heap.size + 1 + 1) 46 _ _ _ _ _ k.br u0 u1 u2 u3 u4)
theorem QS.putb (k : QS w w' A n cap P x0 x1 x2 x3 x4) : Below w.heap.size w (put5 w' (w.heap.size + 1 + 1) u0 u1 u2 u3 u4) := below_upd k.bel (Nat.le_refl _) (put5_upd w' (w.heap.size + 1 + 1) u0 u1 u2 u3 u4) (by omega) (by omega)
theorem QS.new (w : World) (A : Option Addr) (n cap : Nat) (P : Int) (x0 x1 x2 x3 x4 : Value) : QS w (((w.alloc (.cells #[.slice A n cap, .int .i64 P] 36)).alloc (.cells #[x0, x1, x2, x3, x4] 46)).alloc (.cells #[.int .i64 0, .int .i64 0, .int .u64 0, .int .u64 0, .bool false] 46)) A n cap P x0 x1 x2 x3 x4 := by
  obtain ⟨W, hW⟩ : ∃ W, W = w.alloc (.cells #[.slice A n cap, .int .i64 P] 36) := ⟨_, rfl⟩
  have e1 : W.heap.size = w.heap.size + 1 := by rw [hW]; simp
  have h0 : W.heap[w.heap.size]? = some (.cells #[.slice A n cap, .int .i64 P] 36 (0, 0)) := by
    rw [hW]; exact Go.heap_alloc_new _ _
  have hb0 : Below w.heap.size w W := by rw [hW]; exact below_alloc0 (Below.refl _ _) _
  rw [← hW]
  obtain ⟨V, hV⟩ : ∃ V, V = W.alloc (.cells #[x0, x1, x2, x3, x4] 46) := ⟨_, rfl⟩
  have e2 : V.heap.size = w.heap.size + 2 := by rw [hV]; simp [e1]
  have h1 : V.heap[w.heap.size + 1]? = some (.cells #[x0, x1, x2, x3, x4] 46 (0, 0)) := by
    rw [hV, ← e1]; exact Go.heap_alloc_new _ _
  have hb1 : Below W.heap.size W V := by rw [hV]; exact below_alloc0 (Below.refl _ _) _
  rw [← hV]
  have h2 : (V.alloc (.cells #[.int .i64 0, .int .i64 0, .int .u64 0, .int .u64 0, .bool false] 46)).heap[w.heap.size + 1 + 1]? = some (.cells #[.int .i64 0, .int .i64 0, .int .u64 0, .int .u64 0, .bool false] 46 (0, 0)) := by
    rw [show w.heap.size + 1 + 1 = V.heap.size from e2.symm]; exact Go.heap_alloc_new _ _
  have hb2 : Below V.heap.size V (V.alloc (.cells #[.int .i64 0, .int .i64 0, .int .u64 0, .int .u64 0, .bool false] 46)) := below_alloc0 (Below.refl _ _) _
  exact ⟨below_step (below_step hb0 hb0.size hb1) (by rw [e2]; omega) hb2, (hb2.block _ (by rw [e2]; omega)).trans ((hb1.block _ (by rw [e1]; omega)).trans h0), (hb2.block _ (by rw [e2]; omega)).trans h1, h2⟩
end
theorem ReadsW.twoC {Q : Nat → Prop} {w w' : World} {R : Option Addr} {L : List Int} {b : Nat} (h : ReadsW (fun k => Q k ∧ k ≠ b + 1 ∧ k ≠ b + 1 + 1) w R L) {j : Nat} (hj : j = b + 1 ∨ j = b + 1 + 1) (u : Upd j j w w') : ReadsW (fun k => Q k ∧ k ≠ b + 1 ∧ k ≠ b + 1 + 1) w' R L :=
  h.upd u fun k hk _ => ⟨by have h1 := hk.2.1; have h2 := hk.2.2; omega, by have h1 := hk.2.1; have h2 := hk.2.2; omega, hk⟩
theorem upd_set1C (w : World) (B i : Nat) (v : Value) : Upd B B w (w.setCell ⟨B, i, none⟩ v) := ⟨rfl, rfl, rfl, by simp, fun k hk h1 _ => heap_setCell_other w ⟨B, i, none⟩ k v h1⟩
def SomeV (Q : Nat → Prop) (w : World) (n' : Nat) (L : List Int) (v : Value) (e : Ending) (w' : World) : Prop :=
  ∃ R cap, e = .returned (.tuple #[.slice R n' cap, v]) ∧ ReadsW Q w' R L ∧ Below w.heap.size w w'
abbrev rmV (pc V cy k : Int) (won : Bool) : Value := .agg #[.int .i64 pc, .int .i64 V, .int .u64 cy, .int .u64 k, .bool won]
set_option maxHeartbeats 4000000 in
theorem rs1y {c : Cfg} (Q : Nat → Prop) (A : Option Addr) (n cap : Nat) (P : Int) (R : Option Addr) (n' capR : Nat) (L : List Int) (V cy k : Int) (won : Bool) (w : World)
    (hA : IsA w c A n) (hn : n' = L.length) (hn2 : n' ≤ 1000000) (hR : ReadsW Q w R L) (hQ : ∀ b, w.heap.size ≤ b → Q b) (hc : cy ≤ ldv L (plcc c 16 V 0)) :
    Calls Tryz.prog 57 #[aVal A n cap P, .slice R n' capR, rmV 1 V cy k won] w (SomeV Q w n' L (rmV 0 V cy (ldv L (plcc c 16 V 0)) won)) := by
  have HPS := Lib.hid (QS.new w A n cap P (.int .i64 1) (.int .i64 V) (.int .u64 cy) (.int .u64 k) (.bool won))
  have hlt0 := HPS.out.lt
  have HA := Lib.hid hA; have HN := Lib.hid hn
  have HQ := Lib.hid hQ
  have HR0 : Hid (ReadsW (fun b => Q b ∧ b ≠ w.heap.size + 1 ∧ b ≠ w.heap.size + 1 + 1) w R L) := Lib.hid (fun h0 => by
    obtain ⟨b, off, e, hb, hp, hc⟩ := hR h0
    exact ⟨b, off, e, hb, ⟨hp, by omega, by omega⟩, hc⟩)
  have HNM : Hid (Norm ⟨16, V, 0⟩) := Lib.hid (nrmC 16 V 0 (by omega) (by omega) (fun h => by omega) (fun _ _ _ => rfl))
  obtain ⟨at', hat⟩ : ∃ a, a = plcc c 16 V 0 := ⟨_, rfl⟩
  have HAT := Lib.hid hat
  obtain ⟨z, hz⟩ : ∃ z, z = ldv L (plcc c 16 V 0) := ⟨_, rfl⟩
  rw [← hz] at hc ⊢
  rw [← hat] at hz
  have HZ := Lib.hid hz
  have d : decide (z ≥ cy) = true := by simpa using hc
  clear hz
  clear hA hn hR hQ hat
  go_enter Tryz.func57, Tryz.ntmps57
  go_wp2_with (first
    | (go_at_call 54; (with_reducible refine (rat_any c A n cap _ 16 V 0 _ (HA.out.below HPS.out.bel) HNM.out).mono ?_); rintro r w3 ⟨rfl, hb⟩; rw [← HAT.out]; have HP3 := Lib.hid (HPS.out.step hb); have HR3 := Lib.hid (HR0.out.below HP3.out.bel); clear hb; obtain ⟨z0, z1, z2, z3, z4⟩ := HP3.out.mc; have hfm := HP3.out.frm)
    | (go_at_call 53; (with_reducible refine (rload_any R n' capR L at' _ HN.out HR3.out.reads).mono ?_); rintro r w4 ⟨rfl, rfl⟩; rw [← HZ.out])
    | fail)
  have hk : QS w (((w3.setCell ⟨w.heap.size + 1, 3, none⟩ (.int .u64 z)).setCell ⟨w.heap.size + 1, 0, none⟩ (.int .i64 2)).setCell ⟨w.heap.size + 1, 0, none⟩ (.int .i64 0)) A n cap P (.int .i64 0) (.int .i64 V) (.int .u64 cy) (.int .u64 z) (.bool won) := (((HP3.out.set3 (.int .u64 z)).set0 (.int .i64 2)).set0 (.int .i64 0))
  have hr4 : ReadsW (fun b => Q b ∧ b ≠ w.heap.size + 1 ∧ b ≠ w.heap.size + 1 + 1) (((w3.setCell ⟨w.heap.size + 1, 3, none⟩ (.int .u64 z)).setCell ⟨w.heap.size + 1, 0, none⟩ (.int .i64 2)).setCell ⟨w.heap.size + 1, 0, none⟩ (.int .i64 0)) R L := (((HR3.out.twoC (.inl rfl) (upd_set1C _ (w.heap.size + 1) 3 (.int .u64 z))).twoC (.inl rfl) (upd_set1C _ (w.heap.size + 1) 0 (.int .i64 2))).twoC (.inl rfl) (upd_set1C _ (w.heap.size + 1) 0 (.int .i64 0)))
  obtain ⟨W2, hW2⟩ : ∃ W2, W2 = (((w3.setCell ⟨w.heap.size + 1, 3, none⟩ (.int .u64 z)).setCell ⟨w.heap.size + 1, 0, none⟩ (.int .i64 2)).setCell ⟨w.heap.size + 1, 0, none⟩ (.int .i64 0)) := ⟨_, rfl⟩
  rw [← hW2] at hk hr4 ⊢
  clear hW2 z0 z1 z2 z3 z4 hfm
  obtain ⟨z0, z1, z2, z3, z4⟩ := hk.mc
  obtain ⟨r0, r1, r2, r3, r4⟩ := hk.res
  have hfr := hk.frr
  have HK4 := Lib.hid hk; have HR6 := Lib.hid hr4
  clear hk hr4
  go_region
  go_wp2
  obtain ⟨e0, e1, e2, e3, e4⟩ := HK4.out.putr (u0 := .int .i64 0) (u1 := .int .i64 V) (u2 := .int .u64 cy) (u3 := .int .u64 z) (u4 := .bool won)
  exact bodyPost_ret (v := .tuple #[.slice R n' capR, .agg #[.int .i64 0, .int .i64 V, .int .u64 cy, .int .u64 z, .bool won]]) (by simp [results, Tryz.results57, go_sem, e0, e1, e2, e3, e4]) rfl ⟨_, _, rfl, (HR6.out.upd (put5_upd ..) fun b hb _ => ⟨hb.2.2, hb.2.2, hb.1⟩).below (Below.refl _ _).drew, HK4.out.putb.drew⟩
set_option maxHeartbeats 4000000 in
theorem rs1n {c : Cfg} (Q : Nat → Prop) (A : Option Addr) (n cap : Nat) (P : Int) (R : Option Addr) (n' capR : Nat) (L : List Int) (V cy k : Int) (won : Bool) (w : World)
    (hA : IsA w c A n) (hn : n' = L.length) (hn2 : n' ≤ 1000000) (hR : ReadsW Q w R L) (hQ : ∀ b, w.heap.size ≤ b → Q b) (hc : ¬ cy ≤ ldv L (plcc c 16 V 0)) :
    Calls Tryz.prog 57 #[aVal A n cap P, .slice R n' capR, rmV 1 V cy k won] w (SomeV Q w n' L (rmV 2 V cy (ldv L (plcc c 16 V 0)) won)) := by
  have HPS := Lib.hid (QS.new w A n cap P (.int .i64 1) (.int .i64 V) (.int .u64 cy) (.int .u64 k) (.bool won))
  have hlt0 := HPS.out.lt
  have HA := Lib.hid hA; have HN := Lib.hid hn
  have HQ := Lib.hid hQ
  have HR0 : Hid (ReadsW (fun b => Q b ∧ b ≠ w.heap.size + 1 ∧ b ≠ w.heap.size + 1 + 1) w R L) := Lib.hid (fun h0 => by
    obtain ⟨b, off, e, hb, hp, hc⟩ := hR h0
    exact ⟨b, off, e, hb, ⟨hp, by omega, by omega⟩, hc⟩)
  have HNM : Hid (Norm ⟨16, V, 0⟩) := Lib.hid (nrmC 16 V 0 (by omega) (by omega) (fun h => by omega) (fun _ _ _ => rfl))
  obtain ⟨at', hat⟩ : ∃ a, a = plcc c 16 V 0 := ⟨_, rfl⟩
  have HAT := Lib.hid hat
  obtain ⟨z, hz⟩ : ∃ z, z = ldv L (plcc c 16 V 0) := ⟨_, rfl⟩
  rw [← hz] at hc ⊢
  rw [← hat] at hz
  have HZ := Lib.hid hz
  have d : decide (z ≥ cy) = false := by simpa using hc
  clear hz
  clear hA hn hR hQ hat
  go_enter Tryz.func57, Tryz.ntmps57
  go_wp2_with (first
    | (go_at_call 54; (with_reducible refine (rat_any c A n cap _ 16 V 0 _ (HA.out.below HPS.out.bel) HNM.out).mono ?_); rintro r w3 ⟨rfl, hb⟩; rw [← HAT.out]; have HP3 := Lib.hid (HPS.out.step hb); have HR3 := Lib.hid (HR0.out.below HP3.out.bel); clear hb; obtain ⟨z0, z1, z2, z3, z4⟩ := HP3.out.mc; have hfm := HP3.out.frm)
    | (go_at_call 53; (with_reducible refine (rload_any R n' capR L at' _ HN.out HR3.out.reads).mono ?_); rintro r w4 ⟨rfl, rfl⟩; rw [← HZ.out])
    | fail)
  have hk : QS w ((w3.setCell ⟨w.heap.size + 1, 3, none⟩ (.int .u64 z)).setCell ⟨w.heap.size + 1, 0, none⟩ (.int .i64 2)) A n cap P (.int .i64 2) (.int .i64 V) (.int .u64 cy) (.int .u64 z) (.bool won) := ((HP3.out.set3 (.int .u64 z)).set0 (.int .i64 2))
  have hr4 : ReadsW (fun b => Q b ∧ b ≠ w.heap.size + 1 ∧ b ≠ w.heap.size + 1 + 1) ((w3.setCell ⟨w.heap.size + 1, 3, none⟩ (.int .u64 z)).setCell ⟨w.heap.size + 1, 0, none⟩ (.int .i64 2)) R L := ((HR3.out.twoC (.inl rfl) (upd_set1C _ (w.heap.size + 1) 3 (.int .u64 z))).twoC (.inl rfl) (upd_set1C _ (w.heap.size + 1) 0 (.int .i64 2)))
  obtain ⟨W2, hW2⟩ : ∃ W2, W2 = ((w3.setCell ⟨w.heap.size + 1, 3, none⟩ (.int .u64 z)).setCell ⟨w.heap.size + 1, 0, none⟩ (.int .i64 2)) := ⟨_, rfl⟩
  rw [← hW2] at hk hr4 ⊢
  clear hW2 z0 z1 z2 z3 z4 hfm
  obtain ⟨z0, z1, z2, z3, z4⟩ := hk.mc
  obtain ⟨r0, r1, r2, r3, r4⟩ := hk.res
  have hfr := hk.frr
  have HK4 := Lib.hid hk; have HR6 := Lib.hid hr4
  clear hk hr4
  go_region
  go_wp2
  obtain ⟨e0, e1, e2, e3, e4⟩ := HK4.out.putr (u0 := .int .i64 2) (u1 := .int .i64 V) (u2 := .int .u64 cy) (u3 := .int .u64 z) (u4 := .bool won)
  exact bodyPost_ret (v := .tuple #[.slice R n' capR, .agg #[.int .i64 2, .int .i64 V, .int .u64 cy, .int .u64 z, .bool won]]) (by simp [results, Tryz.results57, go_sem, e0, e1, e2, e3, e4]) rfl ⟨_, _, rfl, (HR6.out.upd (put5_upd ..) fun b hb _ => ⟨hb.2.2, hb.2.2, hb.1⟩).below (Below.refl _ _).drew, HK4.out.putb.drew⟩
set_option maxHeartbeats 4000000 in
theorem rs2 {c : Cfg} (Q : Nat → Prop) (A : Option Addr) (n cap : Nat) (P : Int) (R : Option Addr) (n' capR : Nat) (L : List Int) (V cy k : Int) (won : Bool) (w : World)
    (hA : IsA w c A n) (hn : n' = L.length) (hn2 : n' ≤ 1000000) (hR : ReadsW Q w R L) (hQ : ∀ b, w.heap.size ≤ b → Q b) :
    Calls Tryz.prog 57 #[aVal A n cap P, .slice R n' capR, rmV 2 V cy k won] w (SomeV Q w n' (adv L 1 1) (rmV 3 V cy k won)) := by
  have HPS := Lib.hid (QS.new w A n cap P (.int .i64 2) (.int .i64 V) (.int .u64 cy) (.int .u64 k) (.bool won))
  have hlt0 := HPS.out.lt
  have HA := Lib.hid hA; have HN := Lib.hid hn
  have HQ := Lib.hid hQ
  have HR0 : Hid (ReadsW (fun b => Q b ∧ b ≠ w.heap.size + 1 ∧ b ≠ w.heap.size + 1 + 1) w R L) := Lib.hid (fun h0 => by
    obtain ⟨b, off, e, hb, hp, hc⟩ := hR h0
    exact ⟨b, off, e, hb, ⟨hp, by omega, by omega⟩, hc⟩)
  have HNM : Hid (Norm ⟨16, V, 0⟩) := Lib.hid (nrmC 16 V 0 (by omega) (by omega) (fun h => by omega) (fun _ _ _ => rfl))
  obtain ⟨at', hat⟩ : ∃ a, a = plcc c 16 V 0 := ⟨_, rfl⟩
  have HAT := Lib.hid hat
  clear hA hn hR hQ hat
  go_enter Tryz.func57, Tryz.ntmps57
  go_wp2_with (first
    | (go_at_call 54; (with_reducible refine (rat_any c A n cap _ 16 V 0 _ (HA.out.below HPS.out.bel) HNM.out).mono ?_); rintro r w3 ⟨rfl, hb⟩; rw [← HAT.out]; have HP3 := Lib.hid (HPS.out.step hb); have HR3 := Lib.hid (HR0.out.below HP3.out.bel); clear hb; obtain ⟨z0, z1, z2, z3, z4⟩ := HP3.out.mc; have hfm := HP3.out.frm)
    | (go_at_call 49; (with_reducible refine (radd_any (fun b => Q b ∧ b ≠ w.heap.size + 1 ∧ b ≠ w.heap.size + 1 + 1) R n' capR L 1 1 _ HN.out hn2 HR3.out (fun b hb => by have := HP3.out.lt; exact ⟨HQ.out b (by omega), by omega, by omega⟩)).mono ?_); rintro r w4 ⟨R2, cap2, rfl, hx, hb⟩; have HP5 := Lib.hid (HP3.out.step hb); have HR5 := Lib.hid hx; clear hb hx z0 z1 z2 z3 z4 hfm; obtain ⟨z0, z1, z2, z3, z4⟩ := HP5.out.mc; have hfm := HP5.out.frm)
    | fail)
  have hk : QS w (w4.setCell ⟨w.heap.size + 1, 0, none⟩ (.int .i64 3)) A n cap P (.int .i64 3) (.int .i64 V) (.int .u64 cy) (.int .u64 k) (.bool won) := (HP5.out.set0 (.int .i64 3))
  have hr4 : ReadsW (fun b => Q b ∧ b ≠ w.heap.size + 1 ∧ b ≠ w.heap.size + 1 + 1) (w4.setCell ⟨w.heap.size + 1, 0, none⟩ (.int .i64 3)) R2 (adv L 1 1) := (HR5.out.twoC (.inl rfl) (upd_set1C _ (w.heap.size + 1) 0 (.int .i64 3)))
  obtain ⟨W2, hW2⟩ : ∃ W2, W2 = (w4.setCell ⟨w.heap.size + 1, 0, none⟩ (.int .i64 3)) := ⟨_, rfl⟩
  rw [← hW2] at hk hr4 ⊢
  clear hW2 z0 z1 z2 z3 z4 hfm
  obtain ⟨z0, z1, z2, z3, z4⟩ := hk.mc
  obtain ⟨r0, r1, r2, r3, r4⟩ := hk.res
  have hfr := hk.frr
  have HK4 := Lib.hid hk; have HR6 := Lib.hid hr4
  clear hk hr4
  go_region
  go_wp2
  obtain ⟨e0, e1, e2, e3, e4⟩ := HK4.out.putr (u0 := .int .i64 3) (u1 := .int .i64 V) (u2 := .int .u64 cy) (u3 := .int .u64 k) (u4 := .bool won)
  exact bodyPost_ret (v := .tuple #[.slice R2 n' cap2, .agg #[.int .i64 3, .int .i64 V, .int .u64 cy, .int .u64 k, .bool won]]) (by simp [results, Tryz.results57, go_sem, e0, e1, e2, e3, e4]) rfl ⟨_, _, rfl, (HR6.out.upd (put5_upd ..) fun b hb _ => ⟨hb.2.2, hb.2.2, hb.1⟩).below (Below.refl _ _).drew, HK4.out.putb.drew⟩
set_option maxHeartbeats 4000000 in
theorem rs4 {c : Cfg} (Q : Nat → Prop) (A : Option Addr) (n cap : Nat) (P : Int) (R : Option Addr) (n' capR : Nat) (L : List Int) (V cy k : Int) (won : Bool) (w : World)
    (hA : IsA w c A n) (hn : n' = L.length) (hn2 : n' ≤ 1000000) (hR : ReadsW Q w R L) (hQ : ∀ b, w.heap.size ≤ b → Q b) :
    Calls Tryz.prog 57 #[aVal A n cap P, .slice R n' capR, rmV 4 V cy k won] w (SomeV Q w n' (adv L 1 18446744073709551615) (rmV 0 V cy k won)) := by
  have HPS := Lib.hid (QS.new w A n cap P (.int .i64 4) (.int .i64 V) (.int .u64 cy) (.int .u64 k) (.bool won))
  have hlt0 := HPS.out.lt
  have HA := Lib.hid hA; have HN := Lib.hid hn
  have HQ := Lib.hid hQ
  have HR0 : Hid (ReadsW (fun b => Q b ∧ b ≠ w.heap.size + 1 ∧ b ≠ w.heap.size + 1 + 1) w R L) := Lib.hid (fun h0 => by
    obtain ⟨b, off, e, hb, hp, hc⟩ := hR h0
    exact ⟨b, off, e, hb, ⟨hp, by omega, by omega⟩, hc⟩)
  have HNM : Hid (Norm ⟨16, V, 0⟩) := Lib.hid (nrmC 16 V 0 (by omega) (by omega) (fun h => by omega) (fun _ _ _ => rfl))
  obtain ⟨at', hat⟩ : ∃ a, a = plcc c 16 V 0 := ⟨_, rfl⟩
  have HAT := Lib.hid hat
  clear hA hn hR hQ hat
  go_enter Tryz.func57, Tryz.ntmps57
  go_wp2_with (first
    | (go_at_call 54; (with_reducible refine (rat_any c A n cap _ 16 V 0 _ (HA.out.below HPS.out.bel) HNM.out).mono ?_); rintro r w3 ⟨rfl, hb⟩; rw [← HAT.out]; have HP3 := Lib.hid (HPS.out.step hb); have HR3 := Lib.hid (HR0.out.below HP3.out.bel); clear hb; obtain ⟨z0, z1, z2, z3, z4⟩ := HP3.out.mc; have hfm := HP3.out.frm)
    | (go_at_call 49; (with_reducible refine (radd_any (fun b => Q b ∧ b ≠ w.heap.size + 1 ∧ b ≠ w.heap.size + 1 + 1) R n' capR L 1 18446744073709551615 _ HN.out hn2 HR3.out (fun b hb => by have := HP3.out.lt; exact ⟨HQ.out b (by omega), by omega, by omega⟩)).mono ?_); rintro r w4 ⟨R2, cap2, rfl, hx, hb⟩; have HP5 := Lib.hid (HP3.out.step hb); have HR5 := Lib.hid hx; clear hb hx z0 z1 z2 z3 z4 hfm; obtain ⟨z0, z1, z2, z3, z4⟩ := HP5.out.mc; have hfm := HP5.out.frm)
    | fail)
  have hk : QS w (w4.setCell ⟨w.heap.size + 1, 0, none⟩ (.int .i64 0)) A n cap P (.int .i64 0) (.int .i64 V) (.int .u64 cy) (.int .u64 k) (.bool won) := (HP5.out.set0 (.int .i64 0))
  have hr4 : ReadsW (fun b => Q b ∧ b ≠ w.heap.size + 1 ∧ b ≠ w.heap.size + 1 + 1) (w4.setCell ⟨w.heap.size + 1, 0, none⟩ (.int .i64 0)) R2 (adv L 1 18446744073709551615) := (HR5.out.twoC (.inl rfl) (upd_set1C _ (w.heap.size + 1) 0 (.int .i64 0)))
  obtain ⟨W2, hW2⟩ : ∃ W2, W2 = (w4.setCell ⟨w.heap.size + 1, 0, none⟩ (.int .i64 0)) := ⟨_, rfl⟩
  rw [← hW2] at hk hr4 ⊢
  clear hW2 z0 z1 z2 z3 z4 hfm
  obtain ⟨z0, z1, z2, z3, z4⟩ := hk.mc
  obtain ⟨r0, r1, r2, r3, r4⟩ := hk.res
  have hfr := hk.frr
  have HK4 := Lib.hid hk; have HR6 := Lib.hid hr4
  clear hk hr4
  go_region
  go_wp2
  obtain ⟨e0, e1, e2, e3, e4⟩ := HK4.out.putr (u0 := .int .i64 0) (u1 := .int .i64 V) (u2 := .int .u64 cy) (u3 := .int .u64 k) (u4 := .bool won)
  exact bodyPost_ret (v := .tuple #[.slice R2 n' cap2, .agg #[.int .i64 0, .int .i64 V, .int .u64 cy, .int .u64 k, .bool won]]) (by simp [results, Tryz.results57, go_sem, e0, e1, e2, e3, e4]) rfl ⟨_, _, rfl, (HR6.out.upd (put5_upd ..) fun b hb _ => ⟨hb.2.2, hb.2.2, hb.1⟩).below (Below.refl _ _).drew, HK4.out.putb.drew⟩
set_option maxHeartbeats 4000000 in
theorem rs3y {c : Cfg} (Q : Nat → Prop) (A : Option Addr) (n cap : Nat) (P : Int) (R : Option Addr) (n' capR : Nat) (L : List Int) (V cy k : Int) (won : Bool) (w : World)
    (hA : IsA w c A n) (hn : n' = L.length) (hn2 : n' ≤ 1000000) (hR : ReadsW Q w R L) (hQ : ∀ b, w.heap.size ≤ b → Q b) (L' : List Int) (hc : swB L (plcc c 16 V 0) k = true) (hl : swv L (plcc c 16 V 0) k cy = L') :
    Calls Tryz.prog 57 #[aVal A n cap P, .slice R n' capR, rmV 3 V cy k won] w (SomeV Q w n' L' (rmV 0 V cy k true)) := by
  have HPS := Lib.hid (QS.new w A n cap P (.int .i64 3) (.int .i64 V) (.int .u64 cy) (.int .u64 k) (.bool won))
  have hlt0 := HPS.out.lt
  have HA := Lib.hid hA; have HN := Lib.hid hn
  have HQ := Lib.hid hQ
  have HR0 : Hid (ReadsW (fun b => Q b ∧ b ≠ w.heap.size + 1 ∧ b ≠ w.heap.size + 1 + 1) w R L) := Lib.hid (fun h0 => by
    obtain ⟨b, off, e, hb, hp, hc⟩ := hR h0
    exact ⟨b, off, e, hb, ⟨hp, by omega, by omega⟩, hc⟩)
  have HNM : Hid (Norm ⟨16, V, 0⟩) := Lib.hid (nrmC 16 V 0 (by omega) (by omega) (fun h => by omega) (fun _ _ _ => rfl))
  obtain ⟨at', hat⟩ : ∃ a, a = plcc c 16 V 0 := ⟨_, rfl⟩
  have HAT := Lib.hid hat
  rw [← hat] at hc hl
  have HSB := Lib.hid hc; have HSL := Lib.hid hl
  clear hc hl
  clear hA hn hR hQ hat
  go_enter Tryz.func57, Tryz.ntmps57
  go_wp2_with (first
    | (go_at_call 54; (with_reducible refine (rat_any c A n cap _ 16 V 0 _ (HA.out.below HPS.out.bel) HNM.out).mono ?_); rintro r w3 ⟨rfl, hb⟩; rw [← HAT.out]; have HP3 := Lib.hid (HPS.out.step hb); have HR3 := Lib.hid (HR0.out.below HP3.out.bel); clear hb; obtain ⟨z0, z1, z2, z3, z4⟩ := HP3.out.mc; have hfm := HP3.out.frm)
    | (go_at_call 93; (with_reducible refine (rswap_any (fun b => Q b ∧ b ≠ w.heap.size + 1 ∧ b ≠ w.heap.size + 1 + 1) R n' capR L at' k cy _ HN.out hn2 HR3.out (fun b hb => by have := HP3.out.lt; exact ⟨HQ.out b (by omega), by omega, by omega⟩)).mono ?_); rintro r w4 ⟨R2, cap2, rfl, hx, hb⟩; rw [HSB.out]; rw [HSL.out] at hx; have HP5 := Lib.hid (HP3.out.step hb); have HR5 := Lib.hid hx; clear hb hx z0 z1 z2 z3 z4 hfm; obtain ⟨z0, z1, z2, z3, z4⟩ := HP5.out.mc; have hfm := HP5.out.frm)
    | fail)
  have hk : QS w (((w4.setCell ⟨w.heap.size + 1, 4, none⟩ (.bool true)).setCell ⟨w.heap.size + 1, 0, none⟩ (.int .i64 4)).setCell ⟨w.heap.size + 1, 0, none⟩ (.int .i64 0)) A n cap P (.int .i64 0) (.int .i64 V) (.int .u64 cy) (.int .u64 k) (.bool true) := (((HP5.out.set4 (.bool true)).set0 (.int .i64 4)).set0 (.int .i64 0))
  have hr4 : ReadsW (fun b => Q b ∧ b ≠ w.heap.size + 1 ∧ b ≠ w.heap.size + 1 + 1) (((w4.setCell ⟨w.heap.size + 1, 4, none⟩ (.bool true)).setCell ⟨w.heap.size + 1, 0, none⟩ (.int .i64 4)).setCell ⟨w.heap.size + 1, 0, none⟩ (.int .i64 0)) R2 L' := (((HR5.out.twoC (.inl rfl) (upd_set1C _ (w.heap.size + 1) 4 (.bool true))).twoC (.inl rfl) (upd_set1C _ (w.heap.size + 1) 0 (.int .i64 4))).twoC (.inl rfl) (upd_set1C _ (w.heap.size + 1) 0 (.int .i64 0)))
  obtain ⟨W2, hW2⟩ : ∃ W2, W2 = (((w4.setCell ⟨w.heap.size + 1, 4, none⟩ (.bool true)).setCell ⟨w.heap.size + 1, 0, none⟩ (.int .i64 4)).setCell ⟨w.heap.size + 1, 0, none⟩ (.int .i64 0)) := ⟨_, rfl⟩
  rw [← hW2] at hk hr4 ⊢
  clear hW2 z0 z1 z2 z3 z4 hfm
  obtain ⟨z0, z1, z2, z3, z4⟩ := hk.mc
  obtain ⟨r0, r1, r2, r3, r4⟩ := hk.res
  have hfr := hk.frr
  have HK4 := Lib.hid hk; have HR6 := Lib.hid hr4
  clear hk hr4
  go_region
  go_wp2
  obtain ⟨e0, e1, e2, e3, e4⟩ := HK4.out.putr (u0 := .int .i64 0) (u1 := .int .i64 V) (u2 := .int .u64 cy) (u3 := .int .u64 k) (u4 := .bool true)
  exact bodyPost_ret (v := .tuple #[.slice R2 n' cap2, .agg #[.int .i64 0, .int .i64 V, .int .u64 cy, .int .u64 k, .bool true]]) (by simp [results, Tryz.results57, go_sem, e0, e1, e2, e3, e4]) rfl ⟨_, _, rfl, (HR6.out.upd (put5_upd ..) fun b hb _ => ⟨hb.2.2, hb.2.2, hb.1⟩).below (Below.refl _ _).drew, HK4.out.putb.drew⟩
set_option maxHeartbeats 4000000 in
theorem rs3n {c : Cfg} (Q : Nat → Prop) (A : Option Addr) (n cap : Nat) (P : Int) (R : Option Addr) (n' capR : Nat) (L : List Int) (V cy k : Int) (won : Bool) (w : World)
    (hA : IsA w c A n) (hn : n' = L.length) (hn2 : n' ≤ 1000000) (hR : ReadsW Q w R L) (hQ : ∀ b, w.heap.size ≤ b → Q b) (L' : List Int) (hc : swB L (plcc c 16 V 0) k = false) (hl : swv L (plcc c 16 V 0) k cy = L') :
    Calls Tryz.prog 57 #[aVal A n cap P, .slice R n' capR, rmV 3 V cy k won] w (SomeV Q w n' L' (rmV 4 V cy k false)) := by
  have HPS := Lib.hid (QS.new w A n cap P (.int .i64 3) (.int .i64 V) (.int .u64 cy) (.int .u64 k) (.bool won))
  have hlt0 := HPS.out.lt
  have HA := Lib.hid hA; have HN := Lib.hid hn
  have HQ := Lib.hid hQ
  have HR0 : Hid (ReadsW (fun b => Q b ∧ b ≠ w.heap.size + 1 ∧ b ≠ w.heap.size + 1 + 1) w R L) := Lib.hid (fun h0 => by
    obtain ⟨b, off, e, hb, hp, hc⟩ := hR h0
    exact ⟨b, off, e, hb, ⟨hp, by omega, by omega⟩, hc⟩)
  have HNM : Hid (Norm ⟨16, V, 0⟩) := Lib.hid (nrmC 16 V 0 (by omega) (by omega) (fun h => by omega) (fun _ _ _ => rfl))
  obtain ⟨at', hat⟩ : ∃ a, a = plcc c 16 V 0 := ⟨_, rfl⟩
  have HAT := Lib.hid hat
  rw [← hat] at hc hl
  have HSB := Lib.hid hc; have HSL := Lib.hid hl
  clear hc hl
  clear hA hn hR hQ hat
  go_enter Tryz.func57, Tryz.ntmps57
  go_wp2_with (first
    | (go_at_call 54; (with_reducible refine (rat_any c A n cap _ 16 V 0 _ (HA.out.below HPS.out.bel) HNM.out).mono ?_); rintro r w3 ⟨rfl, hb⟩; rw [← HAT.out]; have HP3 := Lib.hid (HPS.out.step hb); have HR3 := Lib.hid (HR0.out.below HP3.out.bel); clear hb; obtain ⟨z0, z1, z2, z3, z4⟩ := HP3.out.mc; have hfm := HP3.out.frm)
    | (go_at_call 93; (with_reducible refine (rswap_any (fun b => Q b ∧ b ≠ w.heap.size + 1 ∧ b ≠ w.heap.size + 1 + 1) R n' capR L at' k cy _ HN.out hn2 HR3.out (fun b hb => by have := HP3.out.lt; exact ⟨HQ.out b (by omega), by omega, by omega⟩)).mono ?_); rintro r w4 ⟨R2, cap2, rfl, hx, hb⟩; rw [HSB.out]; rw [HSL.out] at hx; have HP5 := Lib.hid (HP3.out.step hb); have HR5 := Lib.hid hx; clear hb hx z0 z1 z2 z3 z4 hfm; obtain ⟨z0, z1, z2, z3, z4⟩ := HP5.out.mc; have hfm := HP5.out.frm)
    | fail)
  have hk : QS w ((w4.setCell ⟨w.heap.size + 1, 4, none⟩ (.bool false)).setCell ⟨w.heap.size + 1, 0, none⟩ (.int .i64 4)) A n cap P (.int .i64 4) (.int .i64 V) (.int .u64 cy) (.int .u64 k) (.bool false) := ((HP5.out.set4 (.bool false)).set0 (.int .i64 4))
  have hr4 : ReadsW (fun b => Q b ∧ b ≠ w.heap.size + 1 ∧ b ≠ w.heap.size + 1 + 1) ((w4.setCell ⟨w.heap.size + 1, 4, none⟩ (.bool false)).setCell ⟨w.heap.size + 1, 0, none⟩ (.int .i64 4)) R2 L' := ((HR5.out.twoC (.inl rfl) (upd_set1C _ (w.heap.size + 1) 4 (.bool false))).twoC (.inl rfl) (upd_set1C _ (w.heap.size + 1) 0 (.int .i64 4)))
  obtain ⟨W2, hW2⟩ : ∃ W2, W2 = ((w4.setCell ⟨w.heap.size + 1, 4, none⟩ (.bool false)).setCell ⟨w.heap.size + 1, 0, none⟩ (.int .i64 4)) := ⟨_, rfl⟩
  rw [← hW2] at hk hr4 ⊢
  clear hW2 z0 z1 z2 z3 z4 hfm
  obtain ⟨z0, z1, z2, z3, z4⟩ := hk.mc
  obtain ⟨r0, r1, r2, r3, r4⟩ := hk.res
  have hfr := hk.frr
  have HK4 := Lib.hid hk; have HR6 := Lib.hid hr4
  clear hk hr4
  go_region
  go_wp2
  obtain ⟨e0, e1, e2, e3, e4⟩ := HK4.out.putr (u0 := .int .i64 4) (u1 := .int .i64 V) (u2 := .int .u64 cy) (u3 := .int .u64 k) (u4 := .bool false)
  exact bodyPost_ret (v := .tuple #[.slice R2 n' cap2, .agg #[.int .i64 4, .int .i64 V, .int .u64 cy, .int .u64 k, .bool false]]) (by simp [results, Tryz.results57, go_sem, e0, e1, e2, e3, e4]) rfl ⟨_, _, rfl, (HR6.out.upd (put5_upd ..) fun b hb _ => ⟨hb.2.2, hb.2.2, hb.1⟩).below (Below.refl _ _).drew, HK4.out.putb.drew⟩
set_option maxHeartbeats 4000000 in
theorem rs0 {c : Cfg} (Q : Nat → Prop) (A : Option Addr) (n cap : Nat) (P : Int) (R : Option Addr) (n' capR : Nat) (L : List Int) (V cy k : Int) (won : Bool) (w : World)
    (hA : IsA w c A n) (hn : n' = L.length) (hn2 : n' ≤ 1000000) (hR : ReadsW Q w R L) (hQ : ∀ b, w.heap.size ≤ b → Q b) :
    Calls Tryz.prog 57 #[aVal A n cap P, .slice R n' capR, rmV 0 V cy k won] w (SomeV Q w n' L (rmV 0 V cy k won)) := by
  have HPS := Lib.hid (QS.new w A n cap P (.int .i64 0) (.int .i64 V) (.int .u64 cy) (.int .u64 k) (.bool won))
  have hlt0 := HPS.out.lt
  have HA := Lib.hid hA; have HN := Lib.hid hn
  have HQ := Lib.hid hQ
  have HR0 : Hid (ReadsW (fun b => Q b ∧ b ≠ w.heap.size + 1 ∧ b ≠ w.heap.size + 1 + 1) w R L) := Lib.hid (fun h0 => by
    obtain ⟨b, off, e, hb, hp, hc⟩ := hR h0
    exact ⟨b, off, e, hb, ⟨hp, by omega, by omega⟩, hc⟩)
  have HNM : Hid (Norm ⟨16, V, 0⟩) := Lib.hid (nrmC 16 V 0 (by omega) (by omega) (fun h => by omega) (fun _ _ _ => rfl))
  obtain ⟨at', hat⟩ : ∃ a, a = plcc c 16 V 0 := ⟨_, rfl⟩
  have HAT := Lib.hid hat
  clear hA hn hR hQ hat
  go_enter Tryz.func57, Tryz.ntmps57
  go_wp2_with (first
    | (go_at_call 54; (with_reducible refine (rat_any c A n cap _ 16 V 0 _ (HA.out.below HPS.out.bel) HNM.out).mono ?_); rintro r w3 ⟨rfl, hb⟩; rw [← HAT.out]; have HP3 := Lib.hid (HPS.out.step hb); have HR3 := Lib.hid (HR0.out.below HP3.out.bel); clear hb; obtain ⟨z0, z1, z2, z3, z4⟩ := HP3.out.mc; have hfm := HP3.out.frm)
    | fail)
  have hk : QS w w3 A n cap P (.int .i64 0) (.int .i64 V) (.int .u64 cy) (.int .u64 k) (.bool won) := HP3.out
  have hr4 : ReadsW (fun b => Q b ∧ b ≠ w.heap.size + 1 ∧ b ≠ w.heap.size + 1 + 1) w3 R L := HR3.out
  obtain ⟨W2, hW2⟩ : ∃ W2, W2 = w3 := ⟨_, rfl⟩
  rw [← hW2] at hk hr4 ⊢
  clear hW2 z0 z1 z2 z3 z4 hfm
  obtain ⟨z0, z1, z2, z3, z4⟩ := hk.mc
  obtain ⟨r0, r1, r2, r3, r4⟩ := hk.res
  have hfr := hk.frr
  have HK4 := Lib.hid hk; have HR6 := Lib.hid hr4
  clear hk hr4
  go_region
  go_wp2
  obtain ⟨e0, e1, e2, e3, e4⟩ := HK4.out.putr (u0 := .int .i64 0) (u1 := .int .i64 V) (u2 := .int .u64 cy) (u3 := .int .u64 k) (u4 := .bool won)
  exact bodyPost_ret (v := .tuple #[.slice R n' capR, .agg #[.int .i64 0, .int .i64 V, .int .u64 cy, .int .u64 k, .bool won]]) (by simp [results, Tryz.results57, go_sem, e0, e1, e2, e3, e4]) rfl ⟨_, _, rfl, (HR6.out.upd (put5_upd ..) fun b hb _ => ⟨hb.2.2, hb.2.2, hb.1⟩).below (Below.refl _ _).drew, HK4.out.putb.drew⟩
end Go.Proofs.YtpocihddecemfaaGreat
