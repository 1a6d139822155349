/- The call of the law of places. -/
import Derived.Test.YtkbfdcfgpmohkaaChecks
import Derived.Test.YtkbfdcfgpmohkaaPlace
namespace Go.Proofs.Ytkbfdcfgpmohkaa
open Go.RowKit
set_option linter.unusedVariables false

/-- What the last statement needs. -/
structure KP (w : World) (B N R : Nat) (c : Cfg) (A : Option Addr) (x y z : Int) (w' : World) : Prop where
  q : KQ w B N c w'
  l : ReadsT w' A (things (shOf c))
  lt : R < w'.heap.size
  r0 : w'.cell? ⟨R, 0, none⟩ = some (.int .i64 x)
  r1 : w'.cell? ⟨R, 1, none⟩ = some (.int .i64 y)
  r2 : w'.cell? ⟨R, 2, none⟩ = some (.int .i64 z)
theorem KP.step {w : World} {B N R : Nat} {c : Cfg} {A : Option Addr} {x y z : Int} {w' w2 : World} (h : KP w B N R c A x y z w') (hb : Below w'.heap.size w' w2) : KP w B N R c A x y z w2 :=
  ⟨h.q.step hb, h.l.below hb, Nat.lt_of_lt_of_le h.lt hb.size, (hb.cell (p := ⟨R, 0, none⟩) h.lt).trans h.r0, (hb.cell (p := ⟨R, 1, none⟩) h.lt).trans h.r1, (hb.cell (p := ⟨R, 2, none⟩) h.lt).trans h.r2⟩
theorem KP.cells {w : World} {B N R : Nat} {c : Cfg} {A : Option Addr} {x y z : Int} {w' : World} (h : KP w B N R c A x y z w') : (w'.cell? ⟨R, 0, none⟩ = some (.int .i64 x) ∧ w'.cell? ⟨R, 1, none⟩ = some (.int .i64 y) ∧ w'.cell? ⟨R, 2, none⟩ = some (.int .i64 z)) ∧ KP w B N R c A x y z w' := ⟨⟨h.r0, h.r1, h.r2⟩, h⟩
theorem KP.start {w : World} {B N : Nat} {c : Cfg} {A : Option Addr} {w' : World} (h : KQ w B N c w') (hl : ReadsT w' A (things (shOf c))) (x y z : Int) : KP w B N w'.heap.size c A x y z (w'.alloc (.cells #[.int .i64 x, .int .i64 y, .int .i64 z] 39)) :=
  ⟨h.step (below_alloc0 (Below.refl _ _) _), hl.below (below_alloc0 (Below.refl _ _) _), by simp, (World.cell?_alloc_at _ _ _ _ rfl).trans rfl, (World.cell?_alloc_at _ _ _ _ rfl).trans rfl, (World.cell?_alloc_at _ _ _ _ rfl).trans rfl⟩

set_option maxHeartbeats 8000000 in
set_option maxRecDepth 100000 in
theorem walkPlaces (c : Cfg) (kd a b : Int) (w : World) (wk : (Lit.int .u8 kd).wf = true) (wa : (Lit.int .i64 a).wf = true) (wb : (Lit.int .i64 b).wf = true) : Calls Try.prog 4 #[cfgV c, .int .u8 kd, .int .i64 a, .int .i64 b] w fun e w' => e = .returned (.bool true) ∧ Below w.heap.size w w' := by
  obtain ⟨v0, v1⟩ := bounds_u8 wk; clear wk
  have HWA := Lib.hid wa; have HW0 : Hid ((Lit.int .i64 0).wf = true) := Lib.hid (by decide)
  clear wa wb
  have HK := Lib.hid (KC.start c 24 w w (Below.refl _ _))
  by_cases h : OkC c
  case neg =>
    have H := Lib.hid h; clear h
    go_enter Try.func4, Try.ntmps4
    go_wp2_with (first
      | (go_at_call 10; (with_reducible refine (awake_any _).mono ?_); rintro r w1 ⟨rfl, hb1⟩; have HK := Lib.hid (HK.out.step hb1); clear hb1; obtain ⟨klt, q0, q1, q2, q3, q4, q5, q6, q7, q8, q9, q10, q11, qb⟩ := HK.out)
      | (go_at_call 12; (with_reducible refine (model_any c _).mono ?_); rintro r w2 ⟨rfl, hb2⟩; have HK := Lib.hid (HK.out.step hb2); clear hb2 klt q0 q1 q2 q3 q4 q5 q6 q7 q8 q9 q10 q11 qb; obtain ⟨klt, q0, q1, q2, q3, q4, q5, q6, q7, q8, q9, q10, q11, qb⟩ := HK.out)
      | (go_at_call 11; (with_reducible refine (rcheck_any c _).mono ?_); rintro r w3 ⟨x, rfl, hx, hb3⟩; obtain rfl := hx.2 H.out; have HK := Lib.hid (HK.out.step hb3); clear hb3 hx klt q0 q1 q2 q3 q4 q5 q6 q7 q8 q9 q10 q11 qb; obtain ⟨klt, q0, q1, q2, q3, q4, q5, q6, q7, q8, q9, q10, q11, qb⟩ := HK.out)
      | fail)
    go_ret
    exact ⟨rfl, HK.out.bel⟩
  case pos =>
    have H := Lib.hid h
    obtain ⟨n, hn⟩ : ∃ n : Nat, n = (things (shOf c)).length := ⟨_, rfl⟩
    have hnc : (n : Int) = at55 c := by rw [hn, things_len]; exact lenL_eq h
    have hn7 : n ≤ 7000 := by have := (bds h).t55'; omega
    have HTL := Lib.hid hn; have HNC := Lib.hid hnc.symm
    obtain ⟨K, hK⟩ : ∃ K, kd % 19 = K := ⟨_, rfl⟩
    have hrem : kd.tmod 19 = K := by rw [← hK]; exact Int.tmod_eq_emod_of_nonneg v0
    have hK0 : 0 ≤ K := by omega
    have hK1 : K ≤ 18 := by omega
    clear h hn hnc
    by_cases h5 : K > 5
    · have g5 : decide (K > 5) = true := decide_eq_true h5
      by_cases hab : K = 10 ∨ K = 13 ∨ K = 18
      · have hnm : Norm ⟨K, a, b⟩ := ⟨hK0, hK1, fun e => by have e2 : K ≤ 5 := e; omega, fun e1 e2 e3 => by have q1 : K ≠ 10 := e1; have q2 : K ≠ 13 := e2; have q3 : K ≠ 18 := e3; omega⟩
        have HNM := Lib.hid hnm
        clear hnm
        have h3 : (K == 10) = true ∨ ((K == 10) = false ∧ (K == 13) = true) ∨ ((K == 10) = false ∧ (K == 13) = false ∧ (K == 18) = true) := by
          simp only [beq_iff_eq, beq_eq_false_iff_ne]; omega
        rcases h3 with g10 | ⟨g10, g13⟩ | ⟨g10, g13, g18⟩
        · go_enter Try.func4, Try.ntmps4
          go_wp2_with (first
              | (go_at_call 10; (with_reducible refine (awake_any _).mono ?_); rintro r w1 ⟨rfl, hb1⟩; have HK := Lib.hid (HK.out.step hb1); clear hb1; obtain ⟨klt, q0, q1, q2, q3, q4, q5, q6, q7, q8, q9, q10, q11, qb⟩ := HK.out)
              | (go_at_call 12; (with_reducible refine (model_any c _).mono ?_); rintro r w2 ⟨rfl, hb2⟩; have HK := Lib.hid (HK.out.step hb2); (try have HQ := Lib.hid (HQ.out.step hb2)); clear hb2 klt q0 q1 q2 q3 q4 q5 q6 q7 q8 q9 q10 q11 qb; obtain ⟨klt, q0, q1, q2, q3, q4, q5, q6, q7, q8, q9, q10, q11, qb⟩ := HK.out)
              | (go_at_call 11; (with_reducible refine (rcheck_any c _).mono ?_); rintro r w3 ⟨x, rfl, hx, hb3⟩; obtain rfl := hx.1 H.out; have HK := Lib.hid (HK.out.step hb3); clear hb3 hx klt q0 q1 q2 q3 q4 q5 q6 q7 q8 q9 q10 q11 qb; obtain ⟨klt, q0, q1, q2, q3, q4, q5, q6, q7, q8, q9, q10, q11, qb⟩ := HK.out)
              | (go_at_call 13; (with_reducible refine (new_yes H.out _).mono ?_); rintro r w4 ⟨N, rfl, hm, hb4⟩; have HK := Lib.hid (HK.out.step hb4); have HQ : Hid (KQ w w.heap.size N c _) := Lib.hid ⟨hm, HK.out⟩; clear hb4 hm klt q0 q1 q2 q3 q4 q5 q6 q7 q8 q9 q10 q11 qb; obtain ⟨klt, q0, q1, q2, q3, q4, q5, q6, q7, q8, q9, q10, q11, qb⟩ := HK.out)
              | (go_at_call 16; (with_reducible refine (things_any H.out _).mono ?_); rintro r w5 ⟨v5, rfl, ho5⟩; have hb5 := ho5.2; obtain ⟨A, cap, rfl, hl5, _, _, _⟩ := ho5.reads; rw [← HTL.out]; have HL := Lib.hid hl5; have HK := Lib.hid (HK.out.step hb5); have HQ := Lib.hid (HQ.out.step hb5); clear hb5 hl5 ho5 klt q0 q1 q2 q3 q4 q5 q6 q7 q8 q9 q10 q11 qb; obtain ⟨klt, q0, q1, q2, q3, q4, q5, q6, q7, q8, q9, q10, q11, qb⟩ := HK.out)
              | fail)
          have HP := Lib.hid ((KP.start HQ.out HL.out K a b).step ((Below.refl _ _).drew))
          go_region_held3 (fun w' => (w'.cell? ⟨w5.heap.size, 0, none⟩ = some (.int .i64 K) ∧ w'.cell? ⟨w5.heap.size, 1, none⟩ = some (.int .i64 a) ∧ w'.cell? ⟨w5.heap.size, 2, none⟩ = some (.int .i64 b)) ∧ KP w w.heap.size N w5.heap.size c A K a b w')
            (first | exact KP.cells HP.out | exact KP.cells HP6.out | exact KP.cells HP7.out | exact KP.cells HP8.out | fail)
            (first
              | (go_at_call 17; (with_reducible refine (len_m H.out _ _ HP.out.q.m).mono ?_); rintro r w6 ⟨rfl, hb6⟩; rw [HNC.out]; have HP6 := Lib.hid (HP.out.step hb6))
              | (go_at_call 18; (with_reducible refine (at_any H.out _ _ _ _ hK0 hK1 HWA.out _ HP6.out.q.m).mono ?_); rintro r w7 ⟨rfl, hb7⟩; have HP7 := Lib.hid (HP6.out.step hb7))
              | (go_at_call 19; (with_reducible refine (place_any (shOf c) A cap n ⟨K, a, b⟩ _ HTL.out HP7.out.l HNM.out (by omega)).mono ?_); rintro r w8 ⟨rfl, hb8⟩; have HP8 := Lib.hid (HP7.out.step hb8))
              | fail)
          all_goals go_wp2_with (fail)
          all_goals go_ret
          all_goals exact ⟨ret_bool (by simp), HP8.out.q.k.bel⟩
        · go_enter Try.func4, Try.ntmps4
          go_wp2_with (first
              | (go_at_call 10; (with_reducible refine (awake_any _).mono ?_); rintro r w1 ⟨rfl, hb1⟩; have HK := Lib.hid (HK.out.step hb1); clear hb1; obtain ⟨klt, q0, q1, q2, q3, q4, q5, q6, q7, q8, q9, q10, q11, qb⟩ := HK.out)
              | (go_at_call 12; (with_reducible refine (model_any c _).mono ?_); rintro r w2 ⟨rfl, hb2⟩; have HK := Lib.hid (HK.out.step hb2); (try have HQ := Lib.hid (HQ.out.step hb2)); clear hb2 klt q0 q1 q2 q3 q4 q5 q6 q7 q8 q9 q10 q11 qb; obtain ⟨klt, q0, q1, q2, q3, q4, q5, q6, q7, q8, q9, q10, q11, qb⟩ := HK.out)
              | (go_at_call 11; (with_reducible refine (rcheck_any c _).mono ?_); rintro r w3 ⟨x, rfl, hx, hb3⟩; obtain rfl := hx.1 H.out; have HK := Lib.hid (HK.out.step hb3); clear hb3 hx klt q0 q1 q2 q3 q4 q5 q6 q7 q8 q9 q10 q11 qb; obtain ⟨klt, q0, q1, q2, q3, q4, q5, q6, q7, q8, q9, q10, q11, qb⟩ := HK.out)
              | (go_at_call 13; (with_reducible refine (new_yes H.out _).mono ?_); rintro r w4 ⟨N, rfl, hm, hb4⟩; have HK := Lib.hid (HK.out.step hb4); have HQ : Hid (KQ w w.heap.size N c _) := Lib.hid ⟨hm, HK.out⟩; clear hb4 hm klt q0 q1 q2 q3 q4 q5 q6 q7 q8 q9 q10 q11 qb; obtain ⟨klt, q0, q1, q2, q3, q4, q5, q6, q7, q8, q9, q10, q11, qb⟩ := HK.out)
              | (go_at_call 16; (with_reducible refine (things_any H.out _).mono ?_); rintro r w5 ⟨v5, rfl, ho5⟩; have hb5 := ho5.2; obtain ⟨A, cap, rfl, hl5, _, _, _⟩ := ho5.reads; rw [← HTL.out]; have HL := Lib.hid hl5; have HK := Lib.hid (HK.out.step hb5); have HQ := Lib.hid (HQ.out.step hb5); clear hb5 hl5 ho5 klt q0 q1 q2 q3 q4 q5 q6 q7 q8 q9 q10 q11 qb; obtain ⟨klt, q0, q1, q2, q3, q4, q5, q6, q7, q8, q9, q10, q11, qb⟩ := HK.out)
              | fail)
          have HP := Lib.hid ((KP.start HQ.out HL.out K a b).step ((Below.refl _ _).drew))
          go_region_held3 (fun w' => (w'.cell? ⟨w5.heap.size, 0, none⟩ = some (.int .i64 K) ∧ w'.cell? ⟨w5.heap.size, 1, none⟩ = some (.int .i64 a) ∧ w'.cell? ⟨w5.heap.size, 2, none⟩ = some (.int .i64 b)) ∧ KP w w.heap.size N w5.heap.size c A K a b w')
            (first | exact KP.cells HP.out | exact KP.cells HP6.out | exact KP.cells HP7.out | exact KP.cells HP8.out | fail)
            (first
              | (go_at_call 17; (with_reducible refine (len_m H.out _ _ HP.out.q.m).mono ?_); rintro r w6 ⟨rfl, hb6⟩; rw [HNC.out]; have HP6 := Lib.hid (HP.out.step hb6))
              | (go_at_call 18; (with_reducible refine (at_any H.out _ _ _ _ hK0 hK1 HWA.out _ HP6.out.q.m).mono ?_); rintro r w7 ⟨rfl, hb7⟩; have HP7 := Lib.hid (HP6.out.step hb7))
              | (go_at_call 19; (with_reducible refine (place_any (shOf c) A cap n ⟨K, a, b⟩ _ HTL.out HP7.out.l HNM.out (by omega)).mono ?_); rintro r w8 ⟨rfl, hb8⟩; have HP8 := Lib.hid (HP7.out.step hb8))
              | fail)
          all_goals go_wp2_with (fail)
          all_goals go_ret
          all_goals exact ⟨ret_bool (by simp), HP8.out.q.k.bel⟩
        · go_enter Try.func4, Try.ntmps4
          go_wp2_with (first
              | (go_at_call 10; (with_reducible refine (awake_any _).mono ?_); rintro r w1 ⟨rfl, hb1⟩; have HK := Lib.hid (HK.out.step hb1); clear hb1; obtain ⟨klt, q0, q1, q2, q3, q4, q5, q6, q7, q8, q9, q10, q11, qb⟩ := HK.out)
              | (go_at_call 12; (with_reducible refine (model_any c _).mono ?_); rintro r w2 ⟨rfl, hb2⟩; have HK := Lib.hid (HK.out.step hb2); (try have HQ := Lib.hid (HQ.out.step hb2)); clear hb2 klt q0 q1 q2 q3 q4 q5 q6 q7 q8 q9 q10 q11 qb; obtain ⟨klt, q0, q1, q2, q3, q4, q5, q6, q7, q8, q9, q10, q11, qb⟩ := HK.out)
              | (go_at_call 11; (with_reducible refine (rcheck_any c _).mono ?_); rintro r w3 ⟨x, rfl, hx, hb3⟩; obtain rfl := hx.1 H.out; have HK := Lib.hid (HK.out.step hb3); clear hb3 hx klt q0 q1 q2 q3 q4 q5 q6 q7 q8 q9 q10 q11 qb; obtain ⟨klt, q0, q1, q2, q3, q4, q5, q6, q7, q8, q9, q10, q11, qb⟩ := HK.out)
              | (go_at_call 13; (with_reducible refine (new_yes H.out _).mono ?_); rintro r w4 ⟨N, rfl, hm, hb4⟩; have HK := Lib.hid (HK.out.step hb4); have HQ : Hid (KQ w w.heap.size N c _) := Lib.hid ⟨hm, HK.out⟩; clear hb4 hm klt q0 q1 q2 q3 q4 q5 q6 q7 q8 q9 q10 q11 qb; obtain ⟨klt, q0, q1, q2, q3, q4, q5, q6, q7, q8, q9, q10, q11, qb⟩ := HK.out)
              | (go_at_call 16; (with_reducible refine (things_any H.out _).mono ?_); rintro r w5 ⟨v5, rfl, ho5⟩; have hb5 := ho5.2; obtain ⟨A, cap, rfl, hl5, _, _, _⟩ := ho5.reads; rw [← HTL.out]; have HL := Lib.hid hl5; have HK := Lib.hid (HK.out.step hb5); have HQ := Lib.hid (HQ.out.step hb5); clear hb5 hl5 ho5 klt q0 q1 q2 q3 q4 q5 q6 q7 q8 q9 q10 q11 qb; obtain ⟨klt, q0, q1, q2, q3, q4, q5, q6, q7, q8, q9, q10, q11, qb⟩ := HK.out)
              | fail)
          have HP := Lib.hid ((KP.start HQ.out HL.out K a b).step ((Below.refl _ _).drew))
          go_region_held3 (fun w' => (w'.cell? ⟨w5.heap.size, 0, none⟩ = some (.int .i64 K) ∧ w'.cell? ⟨w5.heap.size, 1, none⟩ = some (.int .i64 a) ∧ w'.cell? ⟨w5.heap.size, 2, none⟩ = some (.int .i64 b)) ∧ KP w w.heap.size N w5.heap.size c A K a b w')
            (first | exact KP.cells HP.out | exact KP.cells HP6.out | exact KP.cells HP7.out | exact KP.cells HP8.out | fail)
            (first
              | (go_at_call 17; (with_reducible refine (len_m H.out _ _ HP.out.q.m).mono ?_); rintro r w6 ⟨rfl, hb6⟩; rw [HNC.out]; have HP6 := Lib.hid (HP.out.step hb6))
              | (go_at_call 18; (with_reducible refine (at_any H.out _ _ _ _ hK0 hK1 HWA.out _ HP6.out.q.m).mono ?_); rintro r w7 ⟨rfl, hb7⟩; have HP7 := Lib.hid (HP6.out.step hb7))
              | (go_at_call 19; (with_reducible refine (place_any (shOf c) A cap n ⟨K, a, b⟩ _ HTL.out HP7.out.l HNM.out (by omega)).mono ?_); rintro r w8 ⟨rfl, hb8⟩; have HP8 := Lib.hid (HP7.out.step hb8))
              | fail)
          all_goals go_wp2_with (fail)
          all_goals go_ret
          all_goals exact ⟨ret_bool (by simp), HP8.out.q.k.bel⟩
      · have hnm : Norm ⟨K, a, 0⟩ := ⟨hK0, hK1, fun e => by have e2 : K ≤ 5 := e; omega, fun _ _ _ => rfl⟩
        have HNM := Lib.hid hnm
        have g10 : (K == 10) = false := by rw [beq_eq_false_iff_ne]; omega
        have g13 : (K == 13) = false := by rw [beq_eq_false_iff_ne]; omega
        have g18 : (K == 18) = false := by rw [beq_eq_false_iff_ne]; omega
        clear hnm hab
        go_enter Try.func4, Try.ntmps4
        go_wp2_with (first
            | (go_at_call 10; (with_reducible refine (awake_any _).mono ?_); rintro r w1 ⟨rfl, hb1⟩; have HK := Lib.hid (HK.out.step hb1); clear hb1; obtain ⟨klt, q0, q1, q2, q3, q4, q5, q6, q7, q8, q9, q10, q11, qb⟩ := HK.out)
            | (go_at_call 12; (with_reducible refine (model_any c _).mono ?_); rintro r w2 ⟨rfl, hb2⟩; have HK := Lib.hid (HK.out.step hb2); (try have HQ := Lib.hid (HQ.out.step hb2)); clear hb2 klt q0 q1 q2 q3 q4 q5 q6 q7 q8 q9 q10 q11 qb; obtain ⟨klt, q0, q1, q2, q3, q4, q5, q6, q7, q8, q9, q10, q11, qb⟩ := HK.out)
            | (go_at_call 11; (with_reducible refine (rcheck_any c _).mono ?_); rintro r w3 ⟨x, rfl, hx, hb3⟩; obtain rfl := hx.1 H.out; have HK := Lib.hid (HK.out.step hb3); clear hb3 hx klt q0 q1 q2 q3 q4 q5 q6 q7 q8 q9 q10 q11 qb; obtain ⟨klt, q0, q1, q2, q3, q4, q5, q6, q7, q8, q9, q10, q11, qb⟩ := HK.out)
            | (go_at_call 13; (with_reducible refine (new_yes H.out _).mono ?_); rintro r w4 ⟨N, rfl, hm, hb4⟩; have HK := Lib.hid (HK.out.step hb4); have HQ : Hid (KQ w w.heap.size N c _) := Lib.hid ⟨hm, HK.out⟩; clear hb4 hm klt q0 q1 q2 q3 q4 q5 q6 q7 q8 q9 q10 q11 qb; obtain ⟨klt, q0, q1, q2, q3, q4, q5, q6, q7, q8, q9, q10, q11, qb⟩ := HK.out)
            | (go_at_call 16; (with_reducible refine (things_any H.out _).mono ?_); rintro r w5 ⟨v5, rfl, ho5⟩; have hb5 := ho5.2; obtain ⟨A, cap, rfl, hl5, _, _, _⟩ := ho5.reads; rw [← HTL.out]; have HL := Lib.hid hl5; have HK := Lib.hid (HK.out.step hb5); have HQ := Lib.hid (HQ.out.step hb5); clear hb5 hl5 ho5 klt q0 q1 q2 q3 q4 q5 q6 q7 q8 q9 q10 q11 qb; obtain ⟨klt, q0, q1, q2, q3, q4, q5, q6, q7, q8, q9, q10, q11, qb⟩ := HK.out)
            | fail)
        have HP := Lib.hid ((KP.start HQ.out HL.out K a 0).step ((Below.refl _ _).drew))
        go_region_held3 (fun w' => (w'.cell? ⟨w5.heap.size, 0, none⟩ = some (.int .i64 K) ∧ w'.cell? ⟨w5.heap.size, 1, none⟩ = some (.int .i64 a) ∧ w'.cell? ⟨w5.heap.size, 2, none⟩ = some (.int .i64 0)) ∧ KP w w.heap.size N w5.heap.size c A K a 0 w')
          (first | exact KP.cells HP.out | exact KP.cells HP6.out | exact KP.cells HP7.out | exact KP.cells HP8.out | fail)
          (first
            | (go_at_call 17; (with_reducible refine (len_m H.out _ _ HP.out.q.m).mono ?_); rintro r w6 ⟨rfl, hb6⟩; rw [HNC.out]; have HP6 := Lib.hid (HP.out.step hb6))
            | (go_at_call 18; (with_reducible refine (at_any H.out _ _ _ _ hK0 hK1 HWA.out _ HP6.out.q.m).mono ?_); rintro r w7 ⟨rfl, hb7⟩; have HP7 := Lib.hid (HP6.out.step hb7))
            | (go_at_call 19; (with_reducible refine (place_any (shOf c) A cap n ⟨K, a, 0⟩ _ HTL.out HP7.out.l HNM.out (by omega)).mono ?_); rintro r w8 ⟨rfl, hb8⟩; have HP8 := Lib.hid (HP7.out.step hb8))
            | fail)
        all_goals go_wp2_with (fail)
        all_goals go_ret
        all_goals exact ⟨ret_bool (by simp), HP8.out.q.k.bel⟩
    · have g5 : decide (K > 5) = false := decide_eq_false h5
      have hnm : Norm ⟨K, 0, 0⟩ := ⟨hK0, hK1, fun _ => rfl, fun _ _ _ => rfl⟩
      have HNM := Lib.hid hnm
      have g10 : (K == 10) = false := by rw [beq_eq_false_iff_ne]; omega
      have g13 : (K == 13) = false := by rw [beq_eq_false_iff_ne]; omega
      have g18 : (K == 18) = false := by rw [beq_eq_false_iff_ne]; omega
      clear hnm
      go_enter Try.func4, Try.ntmps4
      go_wp2_with (first
          | (go_at_call 10; (with_reducible refine (awake_any _).mono ?_); rintro r w1 ⟨rfl, hb1⟩; have HK := Lib.hid (HK.out.step hb1); clear hb1; obtain ⟨klt, q0, q1, q2, q3, q4, q5, q6, q7, q8, q9, q10, q11, qb⟩ := HK.out)
          | (go_at_call 12; (with_reducible refine (model_any c _).mono ?_); rintro r w2 ⟨rfl, hb2⟩; have HK := Lib.hid (HK.out.step hb2); (try have HQ := Lib.hid (HQ.out.step hb2)); clear hb2 klt q0 q1 q2 q3 q4 q5 q6 q7 q8 q9 q10 q11 qb; obtain ⟨klt, q0, q1, q2, q3, q4, q5, q6, q7, q8, q9, q10, q11, qb⟩ := HK.out)
          | (go_at_call 11; (with_reducible refine (rcheck_any c _).mono ?_); rintro r w3 ⟨x, rfl, hx, hb3⟩; obtain rfl := hx.1 H.out; have HK := Lib.hid (HK.out.step hb3); clear hb3 hx klt q0 q1 q2 q3 q4 q5 q6 q7 q8 q9 q10 q11 qb; obtain ⟨klt, q0, q1, q2, q3, q4, q5, q6, q7, q8, q9, q10, q11, qb⟩ := HK.out)
          | (go_at_call 13; (with_reducible refine (new_yes H.out _).mono ?_); rintro r w4 ⟨N, rfl, hm, hb4⟩; have HK := Lib.hid (HK.out.step hb4); have HQ : Hid (KQ w w.heap.size N c _) := Lib.hid ⟨hm, HK.out⟩; clear hb4 hm klt q0 q1 q2 q3 q4 q5 q6 q7 q8 q9 q10 q11 qb; obtain ⟨klt, q0, q1, q2, q3, q4, q5, q6, q7, q8, q9, q10, q11, qb⟩ := HK.out)
          | (go_at_call 16; (with_reducible refine (things_any H.out _).mono ?_); rintro r w5 ⟨v5, rfl, ho5⟩; have hb5 := ho5.2; obtain ⟨A, cap, rfl, hl5, _, _, _⟩ := ho5.reads; rw [← HTL.out]; have HL := Lib.hid hl5; have HK := Lib.hid (HK.out.step hb5); have HQ := Lib.hid (HQ.out.step hb5); clear hb5 hl5 ho5 klt q0 q1 q2 q3 q4 q5 q6 q7 q8 q9 q10 q11 qb; obtain ⟨klt, q0, q1, q2, q3, q4, q5, q6, q7, q8, q9, q10, q11, qb⟩ := HK.out)
          | fail)
      have HP := Lib.hid ((KP.start HQ.out HL.out K 0 0).step ((Below.refl _ _).drew))
      go_region_held3 (fun w' => (w'.cell? ⟨w5.heap.size, 0, none⟩ = some (.int .i64 K) ∧ w'.cell? ⟨w5.heap.size, 1, none⟩ = some (.int .i64 0) ∧ w'.cell? ⟨w5.heap.size, 2, none⟩ = some (.int .i64 0)) ∧ KP w w.heap.size N w5.heap.size c A K 0 0 w')
        (first | exact KP.cells HP.out | exact KP.cells HP6.out | exact KP.cells HP7.out | exact KP.cells HP8.out | fail)
        (first
          | (go_at_call 17; (with_reducible refine (len_m H.out _ _ HP.out.q.m).mono ?_); rintro r w6 ⟨rfl, hb6⟩; rw [HNC.out]; have HP6 := Lib.hid (HP.out.step hb6))
          | (go_at_call 18; (with_reducible refine (at_any H.out _ _ _ _ hK0 hK1 HW0.out _ HP6.out.q.m).mono ?_); rintro r w7 ⟨rfl, hb7⟩; have HP7 := Lib.hid (HP6.out.step hb7))
          | (go_at_call 19; (with_reducible refine (place_any (shOf c) A cap n ⟨K, 0, 0⟩ _ HTL.out HP7.out.l HNM.out (by omega)).mono ?_); rintro r w8 ⟨rfl, hb8⟩; have HP8 := Lib.hid (HP7.out.step hb8))
          | fail)
      all_goals go_wp2_with (fail)
      all_goals go_ret
      all_goals exact ⟨ret_bool (by simp), HP8.out.q.k.bel⟩
end Go.Proofs.Ytkbfdcfgpmohkaa
