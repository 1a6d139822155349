/-  -/
import Derived.Test.YtpocihddecemfaaGreatJ21
import Derived.Test.YtpocihddecemfaaGreatJ23
import Derived.Test.YtpocihddecemfaaGreatJ7
import Derived.Test.YtpocihddecemfaaGreatJ8
import Derived.Test.YtpocihddecemfaaGreatJ6
namespace Go.Proofs.YtpocihddecemfaaGreat
open Go.RowKit
set_option linter.unusedVariables false
set_option linter.unusedSimpArgs false
set_option linter.unnecessarySimpa false
set_option maxRecDepth 100000
open Lay (plcc plc shOf packN nodesN OkC Cfg Norm firstV Rep lenL things roomsI)
structure ZC (w w' : World) (A : Option Addr) (n cap : Nat) (P : Int) (c : Cfg) (B R : Nat) (V : Array Value) : Prop where
  z : ZB w w' B R V
  lo : w.heap.size + 1 < B ∧ w.heap.size + 1 < R
  ba : w'.heap[w.heap.size]? = some (.cells #[.slice A n cap, .int .i64 P] 36 (0, 0))
  bc : w'.heap[w.heap.size + 1]? = some (.cells #[.int .i64 c.a, .int .i64 c.b, .int .i64 c.c, .int .i64 c.d, .int .i64 c.e, .int .i64 c.mr, .int .i64 c.mu, .int .i64 c.dq, .int .i64 c.ch, .int .i64 c.bf, .int .i64 c.rt, .int .i64 c.sw] 38 (0, 0))
section
variable {w w' w2 : World} {A : Option Addr} {n cap : Nat} {P : Int} {c : Cfg} {B R : Nat} {V U : Array Value}
theorem ZC.step (h : ZC w w' A n cap P c B R V) (hb : Below w'.heap.size w' w2) : ZC w w2 A n cap P c B R V :=
  ⟨h.z.step hb, h.lo, (hb.block _ (Array.getElem?_eq_some_iff.1 h.ba).1).trans h.ba, (hb.block _ (Array.getElem?_eq_some_iff.1 h.bc).1).trans h.bc⟩
theorem ZC.put (h : ZC w w' A n cap P c B R V) (k : Nat) (v : Value) : ZC w (w'.setCell ⟨B, k, none⟩ v) A n cap P c B R (V.setIfInBounds k v) := by
  have u := (row_put h.z.bm k v).2
  have lo := h.lo
  exact ⟨h.z.put k v, h.lo, (u.block _ (Array.getElem?_eq_some_iff.1 h.ba).1 (by omega) (by omega)).trans h.ba, (u.block _ (Array.getElem?_eq_some_iff.1 h.bc).1 (by omega) (by omega)).trans h.bc⟩
theorem ZC.set (h : ZC w w' A n cap P c B R V) (hu : U.size = V.size) : ZC w (w'.setCells B 0 U.toList) A n cap P c B R U := by
  have u := (row_all (U := U) h.z.bm hu.symm).2
  have lo := h.lo
  exact ⟨h.z.set hu, h.lo, (u.block _ (Array.getElem?_eq_some_iff.1 h.ba).1 (by omega) (by omega)).trans h.ba, (u.block _ (Array.getElem?_eq_some_iff.1 h.bc).1 (by omega) (by omega)).trans h.bc⟩
theorem ZC.stretch (h : ZC w w' A n cap P c B R V) (k : Nat) (hk : k + U.size ≤ V.size) : ZC w (w'.setCells B k U.toList) A n cap P c B R (splice V k U) := by
  have u := (row_stretch (U := U) k h.z.bm hk).2
  have lo := h.lo
  exact ⟨h.z.stretch k hk, h.lo, (u.block _ (Array.getElem?_eq_some_iff.1 h.ba).1 (by omega) (by omega)).trans h.ba, (u.block _ (Array.getElem?_eq_some_iff.1 h.bc).1 (by omega) (by omega)).trans h.bc⟩
theorem ZC.acells (h : ZC w w' A n cap P c B R V) : w'.cell? ⟨w.heap.size, 0, none⟩ = some (.slice A n cap) ∧ w'.cell? ⟨w.heap.size, 1, none⟩ = some (.int .i64 P) :=
  ⟨cell_of_row _ _ _ _ _ _ h.ba, cell_of_row _ _ _ _ _ _ h.ba⟩
theorem ZC.ccells (h : ZC w w' A n cap P c B R V) : CfgC (w.heap.size + 1) c w' := by
  refine ⟨?_, ?_, ?_, ?_, ?_, ?_, ?_, ?_, ?_, ?_, ?_, ?_⟩ <;> exact cell_of_row _ _ _ _ _ _ h.bc
theorem ZC.cell (h : ZC w w' A n cap P c B R V) (k : Nat) {v : Value} (hv : V[k]? = some v) : w'.cell? ⟨B, k, none⟩ = some v := (row_get h.z.bm k).trans hv
theorem ZC.fro (h : ZC w w' A n cap P c B R V) (k : Nat) : w'.frozen? ⟨B, k, none⟩ = false := row_fro h.z.bm k
theorem ZC.new (w : World) (A : Option Addr) (n cap : Nat) (P : Int) (c : Cfg) (V : Array Value) :
    ZC w ((((w.alloc (.cells #[.slice A n cap, .int .i64 P] 36)).alloc (.cells #[.int .i64 c.a, .int .i64 c.b, .int .i64 c.c, .int .i64 c.d, .int .i64 c.e, .int .i64 c.mr, .int .i64 c.mu, .int .i64 c.dq, .int .i64 c.ch, .int .i64 c.bf, .int .i64 c.rt, .int .i64 c.sw] 38)).alloc (.cells V 64)).alloc (.cells #[.int .i64 0, .int .i64 0, .int .i64 0, .int .i64 0, .int .u64 0, .int .i64 0, .int .i64 0, .int .i64 0, .int .i64 0, .int .i64 0, .int .u64 0, .int .u64 0, .bool false, .int .i64 0, .int .u64 0, .int .i64 0, .int .i64 0, .int .i64 0, .int .i64 0, .int .i64 0, .int .i64 0, .int .u64 0, .int .u64 0, .int .u64 0, .bool false, .int .i64 0, .int .i64 0, .int .i64 0, .slice none 0 0, .int .i64 0, .int .i64 0, .int .i64 0, .int .i64 0, .int .i64 0, .slice none 0 0, .int .u32 0, .int .u64 0, .int .u32 0, .int .i64 0, .bool false, .int .i64 0, .int .i64 0, .int .i64 0, .int .i64 0, .int .i64 0] 64)) A n cap P c (w.heap.size + 1 + 1) (w.heap.size + 1 + 1 + 1) V := by
  obtain ⟨W1, h1⟩ : ∃ W1, W1 = w.alloc (.cells #[.slice A n cap, .int .i64 P] 36) := ⟨_, rfl⟩
  have b1 : Below w.heap.size w W1 := by rw [h1]; exact below_alloc0 (Below.refl _ _) _
  have g1 : W1.heap[w.heap.size]? = some (.cells #[.slice A n cap, .int .i64 P] 36 (0, 0)) := by rw [h1]; exact Go.heap_alloc_new _ _
  have s1 : W1.heap.size = w.heap.size + 1 := by rw [h1]; simp
  rw [← h1]
  obtain ⟨W2, h2⟩ : ∃ W2, W2 = W1.alloc (.cells #[.int .i64 c.a, .int .i64 c.b, .int .i64 c.c, .int .i64 c.d, .int .i64 c.e, .int .i64 c.mr, .int .i64 c.mu, .int .i64 c.dq, .int .i64 c.ch, .int .i64 c.bf, .int .i64 c.rt, .int .i64 c.sw] 38) := ⟨_, rfl⟩
  have b2 : Below W1.heap.size W1 W2 := by rw [h2]; exact below_alloc0 (Below.refl _ _) _
  have g2 : W2.heap[w.heap.size + 1]? = some (.cells #[.int .i64 c.a, .int .i64 c.b, .int .i64 c.c, .int .i64 c.d, .int .i64 c.e, .int .i64 c.mr, .int .i64 c.mu, .int .i64 c.dq, .int .i64 c.ch, .int .i64 c.bf, .int .i64 c.rt, .int .i64 c.sw] 38 (0, 0)) := by rw [← s1, h2]; exact Go.heap_alloc_new _ _
  have s2 : W2.heap.size = w.heap.size + 1 + 1 := by rw [h2]; simp [s1]
  rw [← h2]
  have hz := ZB.two W2 V
  have hb := hz.bel
  rw [s2] at hz
  refine ⟨⟨below_step (below_step b1 (by omega) b2) (by omega) hb, ⟨by omega, by omega, by omega⟩, hz.bm, hz.br⟩, ⟨by omega, by omega⟩, ?_, ?_⟩
  · exact (hb.block _ (by omega)).trans ((b2.block _ (by omega)).trans g1)
  · exact (hb.block _ (by omega)).trans g2
end
theorem ldvZ (L : List Int) (a : Int) : ldv L a = ldc L a := by unfold ldv ldc inB; simp
theorem room_bd (c : Cfg) (v : Int) : 0 ≤ (zgOf c).room v ∧ (zgOf c).room v ≤ 16 := by
  show 0 ≤ (roomsI c).getD (v - 1).toNat 0 ∧ (roomsI c).getD (v - 1).toNat 0 ≤ 16
  by_cases h : (v - 1).toNat < (roomsI c).length
  · rw [List.getD, List.getElem?_eq_getElem h]
    exact Lay.rooms_bd c _ (List.getElem_mem h)
  · rw [List.getD, List.getElem?_eq_none (by omega)]; decide
theorem ldc_nn {L : List Int} (ww : WW L) (a : Int) : 0 ≤ ldc L a := by
  unfold ldc
  split
  · next h => rw [List.getD, List.getElem?_eq_getElem (by omega)]; exact (ww _ (List.getElem_mem (by omega))).1
  · exact Int.le_refl 0
theorem zn_bd {c : Cfg} {L : List Int} (ww : WW L) (v : Int) : 0 ≤ zn (zgOf c) L v ∧ zn (zgOf c) L v ≤ 16 := by
  have := room_bd c v; have := ldc_nn ww ((zgOf c).hd v)
  unfold zn; repeat' split <;> omega
set_option maxHeartbeats 8000000 in
theorem head_any {c : Cfg} (Q : Nat → Prop) (A : Option Addr) (n cap : Nat) (P : Int) (R : Option Addr) (n' capR : Nat) (L : List Int) (i : Int) (m : Zm) (V : Array Value) (w : World) (hA : IsA w c A n) (hn : n' = L.length) (hR : Reads .u64 w R L) (h : ZV Q w c i m V) (hv : 0 ≤ m.v ∧ m.v ≤ 4294967295) (hf : 0 ≤ m.fr ∧ m.fr ≤ 4294967295) (ww : WW L) :
    Calls Tryz.prog 48 #[aVal A n cap P, Lay.cfgV c, .slice R n' capR, .agg V] w fun e w' => ∃ V', e = .returned (.agg V') ∧ ZV Q w' c i (zhead (zgOf c) L m) V' ∧ Below w.heap.size w w' := by
  have hz := ZC.new w A n cap P c V
  obtain ⟨W0, hW0⟩ : ∃ W0, W0 = ((((w.alloc (.cells #[.slice A n cap, .int .i64 P] 36)).alloc (.cells #[.int .i64 c.a, .int .i64 c.b, .int .i64 c.c, .int .i64 c.d, .int .i64 c.e, .int .i64 c.mr, .int .i64 c.mu, .int .i64 c.dq, .int .i64 c.ch, .int .i64 c.bf, .int .i64 c.rt, .int .i64 c.sw] 38)).alloc (.cells V 64)).alloc (.cells #[.int .i64 0, .int .i64 0, .int .i64 0, .int .i64 0, .int .u64 0, .int .i64 0, .int .i64 0, .int .i64 0, .int .i64 0, .int .i64 0, .int .u64 0, .int .u64 0, .bool false, .int .i64 0, .int .u64 0, .int .i64 0, .int .i64 0, .int .i64 0, .int .i64 0, .int .i64 0, .int .i64 0, .int .u64 0, .int .u64 0, .int .u64 0, .bool false, .int .i64 0, .int .i64 0, .int .i64 0, .slice none 0 0, .int .i64 0, .int .i64 0, .int .i64 0, .int .i64 0, .int .i64 0, .slice none 0 0, .int .u32 0, .int .u64 0, .int .u32 0, .int .i64 0, .bool false, .int .i64 0, .int .i64 0, .int .i64 0, .int .i64 0, .int .i64 0] 64)) := ⟨_, rfl⟩
  rw [← hW0] at hz
  obtain ⟨v, hvv⟩ : ∃ v, v = m.v := ⟨_, rfl⟩
  obtain ⟨fr, hfr⟩ : ∃ fr, fr = m.fr := ⟨_, rfl⟩
  have x2 := hz.cell 2 h.c2
  have x3 := hz.cell 3 h.c3
  rw [← hvv] at x2
  rw [← hfr] at x3
  have HZ0 := Lib.hid hz; have HW0 := Lib.hid hW0; have HA := Lib.hid hA; have HN := Lib.hid hn; have HR := Lib.hid hR; have HV := Lib.hid h; have HWW := Lib.hid ww
  have HM := Lib.hid (And.intro hvv hfr)
  rw [← hvv] at hv
  rw [← hfr] at hf
  obtain ⟨hv0, hv1⟩ := hv
  obtain ⟨hf0, hf1⟩ := hf
  clear hz hW0 hA hn hR h ww hvv hfr
  go_enter Tryz.func48, Tryz.ntmps48
  go_upto_region 1 with (fail)
  rw [← HW0.out]
  obtain ⟨a0, a1⟩ := HZ0.out.acells
  obtain ⟨q0, q1, q2, q3, q4, q5, q6, q7, q8, q9, q10, q11⟩ := HZ0.out.ccells
  obtain ⟨B, hB⟩ : ∃ B, B = w.heap.size + 1 + 1 := ⟨_, rfl⟩
  obtain ⟨T, hT⟩ : ∃ T, T = w.heap.size + 1 + 1 + 1 := ⟨_, rfl⟩
  have hz0 := HZ0.out
  rw [← hT, ← hB] at hz0
  rw [← hB] at x2 x3
  rw [← hT, ← hB]
  clear HZ0 hB hT HW0
  have HZ0 := Lib.hid hz0
  clear hz0
  go_upto_region 3 with (first
    | (go_at_call 55; (with_reducible refine (Lay.rooms_any c _).mono ?_); rintro r w1 ⟨rv, rfl, ho⟩; obtain ⟨RA, rc, hrv, hrd, _, hr2, hr3⟩ := ho.reads; subst hrv; have HRR := Lib.hid (And.intro hrd (And.intro hr2 hr3)); have HZ1 := Lib.hid (HZ0.out.step ho.2); have HR1 := Lib.hid (HR.out.below HZ1.out.z.bel (Nat.le_refl _)); have HA1 := Lib.hid (HA.out.below HZ1.out.z.bel); clear ho hrd hr2 hr3 a0 a1 q0 q1 q2 q3 q4 q5 q6 q7 q8 q9 q10 q11; obtain ⟨a0, a1⟩ := HZ1.out.acells; obtain ⟨q0, q1, q2, q3, q4, q5, q6, q7, q8, q9, q10, q11⟩ := HZ1.out.ccells; have x2 := HZ1.out.cell 2 HV.out.c2; have x3 := HZ1.out.cell 3 HV.out.c3; rw [← HM.out.1] at x2; rw [← HM.out.2] at x3; obtain ⟨nr, hnr⟩ : ∃ nr, nr = (roomsI c).length := ⟨_, rfl⟩; rw [← hnr]; have HNR := Lib.hid hnr; clear hnr)
    | fail)
  obtain ⟨N0, hN0⟩ : ∃ N0, N0 = zn (zgOf c) L v := ⟨_, rfl⟩
  have HN0 := Lib.hid hN0
  have hcut0 : True := trivial
  have HNB := Lib.hid (show 0 ≤ N0 ∧ N0 ≤ 16 by rw [hN0]; exact zn_bd HWW.out v)
  clear hN0 hcut0
  go_cut [22] (fun s wx => s = .bool (decide (1 ≤ v ∧ v ≤ (nr : Int))) ∧ wx = w1)
  case first =>
    skip
    · by_cases p1 : 1 ≤ v
      · have d1 : decide (v ≥ 1) = true := by simpa using p1
        by_cases p2 : v ≤ (nr : Int)
        · have d2 : decide (v ≤ (nr : Int)) = true := by simpa using p2
          go_wp2_with (fail)
          go_meet
          exact ⟨by rw [decide_eq_true (And.intro p1 p2)], rfl⟩
        · have d2 : decide (v ≤ (nr : Int)) = false := by simpa using p2
          go_wp2_with (fail)
          go_meet
          exact ⟨by rw [decide_eq_false (show ¬ (1 ≤ v ∧ v ≤ (nr : Int)) by omega)], rfl⟩
      · have d1 : decide (v ≥ 1) = false := by simpa using p1
        go_wp2_with (fail)
        go_meet
        exact ⟨by rw [decide_eq_false (show ¬ (1 ≤ v ∧ v ≤ (nr : Int)) by omega)], rfl⟩
  case rest =>
    obtain ⟨rfl, hwx⟩ := hcut
    subst hwx
    go_upto_if 22 with (fail)
    go_cut [10] (fun s wx => s = .int .u64 N0 ∧ ZC w wx A n cap P c B T V)
    case first =>
      skip
      · by_cases hin : 1 ≤ v ∧ v ≤ (nr : Int)
        · have d3 : decide (1 ≤ v ∧ v ≤ (nr : Int)) = true := decide_eq_true hin
          obtain ⟨p, hp⟩ : ∃ p, p = plcc c 14 v 0 := ⟨_, rfl⟩
          obtain ⟨x, hx⟩ : ∃ x, x = ldc L p := ⟨_, rfl⟩
          obtain ⟨rm, hrm⟩ : ∃ rm, rm = (roomsI c).getD (v - 1).toNat 0 := ⟨_, rfl⟩
          have hrb : 0 ≤ rm ∧ rm ≤ 16 := by rw [hrm]; exact room_bd c v
          have hN : N0 = if rm < x then rm else x := by
            rw [HN0.out, zn, if_pos ⟨hin.1, by show v ≤ ((roomsI c).length : Int); rw [← HNR.out]; exact hin.2⟩, hx, hrm, hp]; rfl
          obtain ⟨bb, off, hA0, hlt, hcl⟩ := HRR.out.1 (by rw [← HNR.out]; omega)
          have hcl2 := hcl (v - 1).toNat (by rw [← HNR.out]; omega)
          rw [← hrm, show (v - 1).toNat = v.toNat - 1 by omega] at hcl2
          subst hA0
          have hv2 : 0 ≤ v - 1 := by omega
          have hv3 : v - 1 < (nr : Int) := by omega
          have ew : IntKind.i64.wrap (v - 1) = v - 1 := IntWalk.i64_in _ (by omega)
          have ew2 : IntKind.u64.wrap rm = rm := by rw [IntKind.wrap_u64]; omega
          have HP := Lib.hid hp; have HX := Lib.hid hx; have HNN := Lib.hid hN
          have HNM : Hid (Norm ⟨14, v, 0⟩) := Lib.hid (nrm 14 v 0 (by omega) (by omega) (fun h => by omega) (fun _ _ _ => rfl))
          have HC2 := Lib.hid hcl2; have HLT := Lib.hid hlt; have HIN := Lib.hid hin; have HD3 := Lib.hid d3
          clear hcl hlt hp hx hrm hrb hN hcl2 hin
          by_cases hgt : rm < x
          · have d4 : decide (x > rm) = true := by simpa using hgt
            go_wp2_with (first
              | (go_at_call 54; (with_reducible refine (rat_any c A n cap P 14 v 0 _ HA1.out HNM.out).mono ?_); rintro r w2 ⟨rfl, hb⟩; rw [← HP.out]; have HZ2 := Lib.hid (HZ1.out.step hb); have HR2 := Lib.hid (HR1.out.below hb (Nat.le_refl _)); have z2 := (World.cell?_of_block (a := ⟨bb, off + (v.toNat - 1), none⟩) (hb.block bb HLT.out)).trans HC2.out; have y2 := HZ2.out.cell 2 HV.out.c2; rw [← HM.out.1] at y2; clear hb)
              | (go_at_call 53; (with_reducible refine (rload_any R n' capR L p _ HN.out HR2.out).mono ?_); rintro r w3 ⟨rfl, hw⟩; cases hw; rw [ldvZ, ← HX.out])
              | fail)
            go_meet
            exact ⟨by rw [HNN.out, if_pos hgt], HZ2.out⟩
          · have d4 : decide (x > rm) = false := by simpa using hgt
            go_wp2_with (first
              | (go_at_call 54; (with_reducible refine (rat_any c A n cap P 14 v 0 _ HA1.out HNM.out).mono ?_); rintro r w2 ⟨rfl, hb⟩; rw [← HP.out]; have HZ2 := Lib.hid (HZ1.out.step hb); have HR2 := Lib.hid (HR1.out.below hb (Nat.le_refl _)); have z2 := (World.cell?_of_block (a := ⟨bb, off + (v.toNat - 1), none⟩) (hb.block bb HLT.out)).trans HC2.out; have y2 := HZ2.out.cell 2 HV.out.c2; rw [← HM.out.1] at y2; clear hb)
              | (go_at_call 53; (with_reducible refine (rload_any R n' capR L p _ HN.out HR2.out).mono ?_); rintro r w3 ⟨rfl, hw⟩; cases hw; rw [ldvZ, ← HX.out])
              | fail)
            go_meet
            exact ⟨by rw [HNN.out, if_neg (by omega)], HZ2.out⟩
        · have d3 : decide (1 ≤ v ∧ v ≤ (nr : Int)) = false := decide_eq_false hin
          have hN : N0 = 0 := by rw [HN0.out, zn, if_neg (fun e => hin ⟨e.1, by have := e.2; rw [HNR.out]; exact this⟩)]
          have HNN := Lib.hid hN
          clear hN
          go_wp2_with (fail)
          go_meet
          exact ⟨by rw [HNN.out], HZ1.out⟩
    case rest =>
      clear HZ1 HA1 HR1 HRR a0 a1 q0 q1 q2 q3 q4 q5 q6 q7 q8 q9 q10 q11 x2 x3
      obtain ⟨rfl, hzx⟩ := hcut
      have HZ2 := Lib.hid hzx
      have x3 := hzx.cell 3 HV.out.c3
      have x5 := hzx.cell 5 HV.out.c5
      have hfr := hzx.fro
      rw [← HM.out.2] at x3
      obtain ⟨n0, n1⟩ := HNB.out
      have ewn : IntKind.i64.wrap N0 = N0 := IntWalk.i64_in _ (by omega)
      have HEW := Lib.hid ewn
      clear hzx
      go_upto_if 52 with (fail)
      go_cut [10] (fun s wx => s = .int .u64 N0 ∧ ∃ V2, ZC w wx A n cap P c B T V2 ∧ ZV Q w c i { m with at' := if N0 < fr then N0 else fr } V2)
      case first =>
        skip
        · by_cases hgt : N0 < fr
          · have d6 : decide (fr > N0) = true := by simpa using hgt
            have HE := Lib.hid (show (if N0 < fr then N0 else fr) = N0 from if_pos hgt)
            go_wp2_with (fail)
            go_meet
            exact ⟨rfl, _, (HZ2.out.put 5 (.int .i64 fr)).put 5 (.int .i64 N0), by rw [HE.out]; exact (HV.out.at_ fr).at_ N0⟩
          · have d6 : decide (fr > N0) = false := by simpa using hgt
            have HE := Lib.hid (show (if N0 < fr then N0 else fr) = fr from if_neg hgt)
            go_wp2_with (fail)
            go_meet
            exact ⟨rfl, _, HZ2.out.put 5 (.int .i64 fr), by rw [HE.out]; exact HV.out.at_ fr⟩
      case rest =>
        clear HZ2 x3 x5 hfr ewn
        obtain ⟨rfl, V2, hzx, hv2⟩ := hcut
        obtain ⟨tz, htz⟩ : ∃ tz, tz = toZ N0 fr c.ch := ⟨_, rfl⟩
        obtain ⟨V3, hV3⟩ : ∃ V3, V3 = V2.setIfInBounds 6 (.int .i64 tz) := ⟨_, rfl⟩
        have hv3 : ZV Q w c i { m with at' := if N0 < fr then N0 else fr, «to» := tz } V3 := by rw [hV3]; exact hv2.to_ tz
        obtain ⟨p4, hp4⟩ : ∃ p4 : Nat, p4 = (zrest { m with at' := if N0 < fr then N0 else fr, «to» := tz }).pc := ⟨_, rfl⟩
        obtain ⟨V4, hV4⟩ : ∃ V4, V4 = V3.setIfInBounds 0 (.int .i64 p4) := ⟨_, rfl⟩
        have hv4 : ZV Q w c i { m with at' := if N0 < fr then N0 else fr, «to» := tz, pc := p4 } V4 := by rw [hV4]; exact hv3.pc p4
        have x3 := hzx.cell 3 hv2.c3
        have x6 := hzx.cell 6 hv2.c6
        have q8 := hzx.ccells.2.2.2.2.2.2.2.2.1
        have hfr := hzx.fro
        rw [show ({ m with at' := if N0 < fr then N0 else fr } : Zm).fr = fr from HM.out.2.symm] at x3
        have ewn := HEW.out
        have HZ2 := Lib.hid hzx
        have HZ3 := Lib.hid (show ZC w _ A n cap P c B T V3 by rw [hV3]; exact hzx.put 6 (.int .i64 tz))
        have HTZ := Lib.hid htz; have HV3 := Lib.hid hv3; have HV4 := Lib.hid hv4; have HP4 := Lib.hid hp4; have HE4 := Lib.hid hV4
        have HS := Lib.hid (And.intro hv3.size (And.intro hv4.size hv4.one))
        have hzn : zn (zgOf c) L m.v = N0 := by rw [← HM.out.1]; exact HN0.out.symm
        have HZN := Lib.hid hzn
        clear hzx hv2 htz hV3 hv3 hp4 hV4 hv4 hzn
        by_cases hlt : tz < N0
        · have d7 : decide (tz < N0) = true := by simpa using hlt
          have he : zhead (zgOf c) L m = { m with at' := if N0 < fr then N0 else fr, «to» := tz, pc := 2 } := by
            unfold zhead
            rw [HZN.out, ← HM.out.2, show toZ N0 fr (zgOf c).chunk = tz from HTZ.out.symm, if_pos hlt]
          obtain ⟨V5, hV5⟩ : ∃ V5, V5 = V4.setIfInBounds 0 (.int .i64 2) := ⟨_, rfl⟩
          have HV5 := Lib.hid (show ZV Q w c i (zhead (zgOf c) L m) V5 by rw [he, hV5]; exact HV4.out.pc 2)
          have HE5 := Lib.hid hV5
          clear he hV5
          go_wp2_with (first
            | (go_at_call 84; (with_reducible refine (rto_any N0 fr c.ch _).mono ?_); rintro r w2 ⟨rfl, hw⟩; cases hw; rw [← HTZ.out])
            | (refine wpList_loadZ rfl (.tmp 7) rfl B V3 rfl HZ3.out.z.bm HS.out.1 ?_)
            | (go_at_call 52; (with_reducible refine (rest_any (w0 := w) HV3.out).mono ?_); rintro r w4 ⟨rfl, hb⟩; rw [← HP4.out, ← HE4.out]; have HZ4 := Lib.hid (HZ3.out.step hb); clear hb)
            | (refine wpList_storeZ rfl (.tmp 7) (.tmp 65) rfl B V3 V4 rfl rfl HZ4.out.z.bm HS.out.1 HS.out.2.1 HS.out.2.2 ?_; have HZ5 := Lib.hid (HZ4.out.set (U := V4) (HS.out.2.1.trans HS.out.1.symm)); have y6 := HZ5.out.cell 6 HV4.out.c6; have y0 := HZ5.out.cell 0 HV4.out.c0; have hf5 := HZ5.out.fro)
            | (refine wpList_loadZ rfl (.tmp 7) rfl B V5 rfl (by rw [HE5.out]; exact (HZ5.out.put 0 (.int .i64 2)).z.bm) HV5.out.size ?_)
            | (refine wpList_storeZ rfl (.tmp 8) (.tmp 72) rfl T zero45 V5 rfl rfl (HZ5.out.put 0 (.int .i64 2)).z.br rfl HV5.out.size HV5.out.one ?_)
            | fail)
          have hfin := (show ZB w ((w4.setCells B 0 V4.toList).setCell ⟨B, 0, none⟩ (.int .i64 2)) B T V5 by rw [HE5.out]; exact (HZ5.out.put 0 (.int .i64 2)).z).fin HV5.out.size
          exact bodyPost_ret (v := .agg V5) (res1 Tryz.results48 _ _ _ _ rfl hfin.2) rfl ⟨V5, rfl, HV5.out.below hfin.1, hfin.1⟩
        · have d7 : decide (tz < N0) = false := by simpa using hlt
          have he : zhead (zgOf c) L m = { m with at' := if N0 < fr then N0 else fr, «to» := tz, pc := p4 } := by
            rw [HP4.out]
            unfold zhead
            rw [HZN.out, ← HM.out.2, show toZ N0 fr (zgOf c).chunk = tz from HTZ.out.symm, if_neg hlt]
            rfl
          have HV5 := Lib.hid (show ZV Q w c i (zhead (zgOf c) L m) V4 by rw [he]; exact HV4.out)
          clear he
          go_wp2_with (first
            | (go_at_call 84; (with_reducible refine (rto_any N0 fr c.ch _).mono ?_); rintro r w2 ⟨rfl, hw⟩; cases hw; rw [← HTZ.out])
            | (refine wpList_loadZ rfl (.tmp 7) rfl B V3 rfl HZ3.out.z.bm HS.out.1 ?_)
            | (go_at_call 52; (with_reducible refine (rest_any (w0 := w) HV3.out).mono ?_); rintro r w4 ⟨rfl, hb⟩; rw [← HP4.out, ← HE4.out]; have HZ4 := Lib.hid (HZ3.out.step hb); clear hb)
            | (refine wpList_storeZ rfl (.tmp 7) (.tmp 65) rfl B V3 V4 rfl rfl HZ4.out.z.bm HS.out.1 HS.out.2.1 HS.out.2.2 ?_; have HZ5 := Lib.hid (HZ4.out.set (U := V4) (HS.out.2.1.trans HS.out.1.symm)); have y6 := HZ5.out.cell 6 HV4.out.c6; have y0 := HZ5.out.cell 0 HV4.out.c0; have hf5 := HZ5.out.fro)
            | (refine wpList_loadZ rfl (.tmp 7) rfl B V4 rfl HZ5.out.z.bm HV5.out.size ?_)
            | (refine wpList_storeZ rfl (.tmp 8) (.tmp 72) rfl T zero45 V4 rfl rfl HZ5.out.z.br rfl HV5.out.size HV5.out.one ?_)
            | fail)
          have hfin := HZ5.out.z.fin HV5.out.size
          exact bodyPost_ret (v := .agg V4) (res1 Tryz.results48 _ _ _ _ rfl hfin.2) rfl ⟨V4, rfl, HV5.out.below hfin.1, hfin.1⟩
end Go.Proofs.YtpocihddecemfaaGreat

namespace Go.Proofs.YtpocihddecemfaaGreat
open Go.RowKit
set_option linter.unusedVariables false
set_option linter.unusedSimpArgs false
set_option linter.unnecessarySimpa false
set_option maxRecDepth 100000
open Lay (plcc plc shOf packN nodesN OkC Cfg Norm firstV Rep lenL things roomsI)
theorem RPm.any {Q : Nat → Prop} {w w' : World} {m : Pm} {v : Value} (h : RPm (fun _ => False) w m v) : RPm Q w' m v := by
  obtain ⟨T, tn, tc, A, n, cap, e, h1, h2, h3, h4, h5, h6⟩ := h
  have key : ∀ {k : IntKind} {A : Option Addr} {zs : List Int}, Reads k w A zs → (0 < zs.length → ∀ a, A = some a → False) → Reads k w' A zs ∧ (0 < zs.length → ∀ a, A = some a → Q a.block) := fun {k A zs} r p =>
    ⟨fun h0 => by obtain ⟨b, off, e, _, _⟩ := r h0; exact (p h0 _ e).elim, fun h0 a ea => (p h0 a ea).elim⟩
  exact ⟨T, tn, tc, A, n, cap, e, h1, (key h2 h5).1, h3, (key h4 h6).1, (key h2 h5).2, (key h4 h6).2⟩
theorem RAm.any {Q : Nat → Prop} {w w' : World} {m : Am} {v : Value} (h : RAm (fun _ => False) w m v) : RAm Q w' m v := by
  obtain ⟨d0, d1, d2, d3, d4, d5, d6, d7, d8, d10, d9, p0, p1, p3, p4, p5, p6, p7, p9, p10, p11, p12, T, tn, tc, LA, ln, lc, e, h1, h2⟩ := h
  exact ⟨d0, d1, d2, d3, d4, d5, d6, d7, d8, d10, d9, p0, p1, p3, p4, p5, p6, p7, p9, p10, p11, p12, T, tn, tc, LA, ln, lc, e, h1, fun k => (h2 k).any⟩
def IsZ (w : World) (B : Nat) : Prop := ∃ V, w.heap[B]? = some (.cells V 64 (0, 0)) ∧ V.size = 45
def setDw (w : World) (B : Nat) (U : Array Value) : World := w.setCells B 13 U.toList
@[go_sem ↓ high] theorem sem_setcD {w : World} {B : Nat} {U : Array Value} (h : IsZ w B) (hv : Ok27 U) : (storeCells ⟨B, 13, none⟩ U.toList).run Tryz.prog w = .ok () (setDw w B U) := by
  obtain ⟨V, hb, h1⟩ := h
  have t := there_sub 13 27 hb (by omega)
  have e := run_storeCells_cells (P := Tryz.prog) B 13 U.toList 0 w
    (fun j hj => by simpa using (t j (by have := hv.1; simp at hj; omega)).1)
    (fun j hj => by simpa using (t j (by have := hv.1; simp at hj; omega)).2)
    (fun v hq => (Array.all_eq_true_iff_forall_mem.1 hv.2) v (by simpa using hq))
  simpa [setDw] using e
theorem ZV.give {Q : Nat → Prop} {w w' : World} {c : Cfg} {i : Int} {m : Zm} {V D : Array Value} {d : Am} (h : ZV Q w c i m V) (hd : RAm Q w' d (.agg D)) (hv : V27 d D) : ZV Q w' c i { m with d := d } (splice V 13 D) := by
  have hs := hv.size; have hS := h.size
  have o : ∀ j, j < 13 ∨ 40 ≤ j → (splice V 13 D)[j]? = V[j]? := fun j hj => splice_out (by omega)
  obtain ⟨vc, k0, k1, k2, k3, k4, k5⟩ := h.cm
  exact ⟨(splice_size _ _ _).trans h.size, one_splice h.one (by omega) hv.one, (o 0 (by decide)).trans h.c0, (o 1 (by decide)).trans h.c1, (o 2 (by decide)).trans h.c2, (o 3 (by decide)).trans h.c3, (o 4 (by decide)).trans h.c4, (o 5 (by decide)).trans h.c5, (o 6 (by decide)).trans h.c6, (o 7 (by decide)).trans h.c7,
    ⟨vc, k0, (o 8 (by decide)).trans k1, (o 9 (by decide)).trans k2, (o 10 (by decide)).trans k3, (o 11 (by decide)).trans k4, (o 12 (by decide)).trans k5⟩, ⟨D, hd, hv, fun j hj => splice_in (by omega) (by omega)⟩, (o 40 (by decide)).trans h.e0, (o 41 (by decide)).trans h.e1, (o 42 (by decide)).trans h.e2, (o 43 (by decide)).trans h.e3, (o 44 (by decide)).trans h.e4⟩
theorem ZC.held {w w' : World} {A : Option Addr} {n cap : Nat} {P : Int} {c : Cfg} {B R : Nat} {V : Array Value} {i : Int} (h : ZC w w' A n cap P c B R V) (hv : V[1]? = some (.int .i64 i)) :
    (w'.cell? ⟨w.heap.size, 0, none⟩ = some (.slice A n cap) ∧ w'.cell? ⟨w.heap.size, 1, none⟩ = some (.int .i64 P)) ∧ CfgC (w.heap.size + 1) c w' ∧ w'.cell? ⟨B, 1, none⟩ = some (.int .i64 i) := ⟨h.acells, h.ccells, h.cell 1 hv⟩
theorem ZC.heldD {w w' : World} {A : Option Addr} {n cap : Nat} {P : Int} {c : Cfg} {B R : Nat} {V D : Array Value} {i : Int} (h : ZC w w' A n cap P c B R V) (hs : V.size = 45) (hd : Ok27 D) (hv : V[1]? = some (.int .i64 i)) :
    (((setDw w' B D).cell? ⟨w.heap.size, 0, none⟩ = some (.slice A n cap) ∧ (setDw w' B D).cell? ⟨w.heap.size, 1, none⟩ = some (.int .i64 P)) ∧ CfgC (w.heap.size + 1) c (setDw w' B D) ∧ (setDw w' B D).cell? ⟨B, 1, none⟩ = some (.int .i64 i)) ∧ ZC w (setDw w' B D) A n cap P c B R (splice V 13 D) := by
  have k := h.stretch (U := D) 13 (by have := hd.1; omega)
  exact ⟨k.held ((splice_out (by omega)).trans hv), k⟩
set_option maxHeartbeats 8000000 in
theorem give_any {c : Cfg} (Q : Nat → Prop) (A : Option Addr) (n cap : Nat) (P : Int) (i : Int) (m : Zm) (V : Array Value) (x y : Int) (w : World) (hA : IsA w c A n) (h : ZV Q w c i m V) (hi : decide (i < 0) = false) (hj : decide (c.mr ≤ i) = false) (x0 : 0 ≤ x) (x1 : x ≤ 4294967295) (y0 : 0 ≤ y) (y1 : y ≤ 4294967295) :
    Calls Tryz.prog 50 #[aVal A n cap P, Lay.cfgV c, .agg V, .int .i64 x, .int .i64 y] w fun e w' => ∃ V', e = .returned (.agg V') ∧ ZV Q w' c i (zgive (fun tk => aNew (eOf c i) tk) m x y) V' ∧ Below w.heap.size w w' := by
  have hz := ZC.new w A n cap P c V
  obtain ⟨W0, hW0⟩ : ∃ W0, W0 = ((((w.alloc (.cells #[.slice A n cap, .int .i64 P] 36)).alloc (.cells #[.int .i64 c.a, .int .i64 c.b, .int .i64 c.c, .int .i64 c.d, .int .i64 c.e, .int .i64 c.mr, .int .i64 c.mu, .int .i64 c.dq, .int .i64 c.ch, .int .i64 c.bf, .int .i64 c.rt, .int .i64 c.sw] 38)).alloc (.cells V 64)).alloc (.cells #[.int .i64 0, .int .i64 0, .int .i64 0, .int .i64 0, .int .u64 0, .int .i64 0, .int .i64 0, .int .i64 0, .int .i64 0, .int .i64 0, .int .u64 0, .int .u64 0, .bool false, .int .i64 0, .int .u64 0, .int .i64 0, .int .i64 0, .int .i64 0, .int .i64 0, .int .i64 0, .int .i64 0, .int .u64 0, .int .u64 0, .int .u64 0, .bool false, .int .i64 0, .int .i64 0, .int .i64 0, .slice none 0 0, .int .i64 0, .int .i64 0, .int .i64 0, .int .i64 0, .int .i64 0, .slice none 0 0, .int .u32 0, .int .u64 0, .int .u32 0, .int .i64 0, .bool false, .int .i64 0, .int .i64 0, .int .i64 0, .int .i64 0, .int .i64 0] 64)) := ⟨_, rfl⟩
  rw [← hW0] at hz
  obtain ⟨tk, htk⟩ : ∃ tk, tk = x * 4294967296 + y := ⟨_, rfl⟩
  have hp : pairZ x y = tk := by rw [htk]; unfold pairZ; rw [Int.emod_eq_of_lt x0 (by omega), Int.emod_eq_of_lt y0 (by omega)]
  have ex : IntKind.u32.wrap x = x := by rw [IntKind.wrap_u32]; exact Int.emod_eq_of_lt x0 (by omega)
  have ey : IntKind.u32.wrap y = y := by rw [IntKind.wrap_u32]; exact Int.emod_eq_of_lt y0 (by omega)
  have HZ0 := Lib.hid hz; have HW0 := Lib.hid hW0; have HA := Lib.hid hA; have HV := Lib.hid h; have HTK := Lib.hid htk; have HP := Lib.hid hp
  have HXY := Lib.hid (And.intro (And.intro x0 x1) (And.intro y0 y1)); have HI := Lib.hid (And.intro hi hj)
  clear hz hW0 hA h htk hp x0 x1 y0 y1 hi hj
  go_enter Tryz.func50, Tryz.ntmps50
  go_upto_region 1 with (fail)
  rw [← HW0.out]
  obtain ⟨B, hB⟩ : ∃ B, B = w.heap.size + 1 + 1 := ⟨_, rfl⟩
  obtain ⟨T, hT⟩ : ∃ T, T = w.heap.size + 1 + 1 + 1 := ⟨_, rfl⟩
  have hz0 := HZ0.out
  rw [← hT, ← hB] at hz0
  rw [← hT, ← hB]
  clear HZ0 hB hT HW0
  have HZ0 := Lib.hid hz0
  have HZD := Lib.hid (hz0.step (Below.refl _ _).drew)
  have HC1 := Lib.hid HV.out.c1
  have HSZ := Lib.hid HV.out.size
  obtain ⟨⟨a0, a1⟩, ⟨q0, q1, q2, q3, q4, q5, q6, q7, q8, q9, q10, q11⟩, b1⟩ := hz0.held HC1.out
  clear hz0
  go_region_held3 (fun w' => (w'.cell? ⟨w.heap.size, 0, none⟩ = some (.slice A n cap) ∧ w'.cell? ⟨w.heap.size, 1, none⟩ = some (.int .i64 P)) ∧ CfgC (w.heap.size + 1) c w' ∧ w'.cell? ⟨B, 1, none⟩ = some (.int .i64 i))
    (first | (with_reducible exact (ZC.heldD HZ1.out HSZ.out hok HC1.out).1) | (with_reducible exact ZC.held HZ1.out HC1.out) | (with_reducible exact ZC.held HZD.out HC1.out) | fail)
    (first
      | (go_at_call 86; (with_reducible refine (refPair_any x y HXY.out.1.1 HXY.out.1.2 HXY.out.2.1 HXY.out.2.2 _).mono ?_); rintro r w1 ⟨rfl, hw⟩; cases hw; rw [← HTK.out])
      | (go_at_call 85; (with_reducible refine (ranew_in (fun _ => False) c A n cap P i tk _ (HA.out.below HZD.out.z.bel) HI.out.1 HI.out.2).mono ?_); rintro r w2 ⟨v, rfl, hra, hb⟩; obtain ⟨D, rfl, hv⟩ := hra.cells; have HD := Lib.hid hv; have HRA := Lib.hid hra; have HZ1 := Lib.hid (HZD.out.step hb); have hok := hv.ok; have hsz := hv.size; have hiz : IsZ w2 B := ⟨V, HZ1.out.z.bm, HSZ.out⟩; clear hb hra hv)
      | fail)
  have hz2 := (ZC.heldD HZ1.out HSZ.out hok HC1.out).2
  have hv3 : ∀ w', ZV Q w' c i { m with d := aNew (eOf c i) tk } (splice V 13 D) := fun w' => by
    obtain ⟨D0, g1, g2, g3⟩ := HV.out.d
    exact HV.out.give HRA.out.any HD.out
  obtain ⟨W2, hW2⟩ : ∃ W2, W2 = setDw w2 B D := ⟨_, rfl⟩
  obtain ⟨V3, hV3⟩ : ∃ V3, V3 = splice V 13 D := ⟨_, rfl⟩
  rw [← hV3] at hz2 hv3
  rw [← hW2] at hz2 ⊢
  obtain ⟨V4, hV4⟩ : ∃ V4, V4 = V3.setIfInBounds 0 (.int .i64 3) := ⟨_, rfl⟩
  have hv4 : ∀ w', ZV Q w' c i (zgive (fun tk => aNew (eOf c i) tk) m x y) V4 := fun w' => by
    rw [hV4]; unfold zgive; rw [HP.out]; exact (hv3 w').pc 3
  have y0' := hz2.cell 0 (hv3 w).c0
  have hf2 := hz2.fro
  have HZ2 := Lib.hid hz2; have HV4 := Lib.hid hv4; have HE4 := Lib.hid hV4
  clear hz2 hv3 hW2 hV3 hV4 hv4 hok hsz hiz ex ey
  go_wp2_with (first
    | (refine wpList_loadZ rfl (.tmp 7) rfl B V4 rfl (by rw [HE4.out]; exact (HZ2.out.put 0 (.int .i64 3)).z.bm) (HV4.out w).size ?_)
    | (refine wpList_storeZ rfl (.tmp 10) (.tmp 23) rfl T zero45 V4 rfl rfl (HZ2.out.put 0 (.int .i64 3)).z.br rfl (HV4.out w).size (HV4.out w).one ?_)
    | fail)
  have hfin := (show ZB w (W2.setCell ⟨B, 0, none⟩ (.int .i64 3)) B T V4 by rw [HE4.out]; exact (HZ2.out.put 0 (.int .i64 3)).z).fin (HV4.out w).size
  exact bodyPost_ret (v := .agg V4) (res1 Tryz.results50 _ _ _ _ rfl hfin.2) rfl ⟨V4, rfl, HV4.out _, hfin.1⟩
end Go.Proofs.YtpocihddecemfaaGreat
