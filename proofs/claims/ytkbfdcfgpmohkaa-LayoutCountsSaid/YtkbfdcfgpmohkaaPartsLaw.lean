/- The call of the law of parts. -/
import Derived.Test.YtkbfdcfgpmohkaaChecks
namespace Go.Proofs.Ytkbfdcfgpmohkaa
open Go.RowKit
set_option linter.unusedVariables false

theorem parts_nat {c : Cfg} (h : OkC c) : ((partsN (nodesN c).toNat c.sw.toNat : Nat) : Int) = partsC c := by
  have n0 := (bds h).n0; have s0 := h.w0
  unfold partsN partsC piecesOf
  rw [if_neg (by omega)]
  rw [Int.natCast_ediv, show (((nodesN c).toNat + c.sw.toNat - 1 : Nat) : Int) = nodesN c + c.sw - 1 by omega, show ((c.sw.toNat : Nat) : Int) = c.sw by omega]
/-- A part's nodes. -/
theorem part_all {c : Cfg} (h : OkC c) (j : Int) (h0 : 0 ≤ j) (hj : j < partsC c) :
    1 ≤ j * c.sw + 1 ∧ j * c.sw + 1 ≤ imin (j * c.sw + 1 + c.sw - 1) (nodesN c) ∧ imin (j * c.sw + 1 + c.sw - 1) (nodesN c) ≤ nodesN c ∧ imin (j * c.sw + 1 + c.sw - 1) (nodesN c) - (j * c.sw + 1) + 1 ≤ c.sw ∧ (j < partsC c - 1 → imin (j * c.sw + 1 + c.sw - 1) (nodesN c) - (j * c.sw + 1) + 1 = c.sw) ∧
    (∀ v : Int, 1 ≤ v → v ≤ nodesN c → ((j * c.sw + 1 ≤ v ∧ v ≤ imin (j * c.sw + 1 + c.sw - 1) (nodesN c)) ↔ (v - 1) / c.sw = j)) := by
  have n0 := (bds h).n0; have s0 := h.w0
  have hp := parts_nat h
  obtain ⟨J, hJ⟩ : ∃ J : Nat, j = (J : Int) := ⟨j.toNat, by omega⟩
  obtain ⟨S, hS⟩ : ∃ S : Nat, c.sw = (S : Int) := ⟨c.sw.toNat, by omega⟩
  obtain ⟨n, hn⟩ : ∃ n : Nat, nodesN c = (n : Int) := ⟨(nodesN c).toNat, by omega⟩
  rw [hS, hn] at hp
  simp only [Int.toNat_natCast] at hp
  obtain ⟨p1, p2, p3, p4, p5⟩ := part_ok (n := n) (S := S) (j := J) (by omega) (by omega)
  have hm : j * c.sw = ((J * S : Nat) : Int) := by rw [hJ, hS]; simp
  have hi : imin (j * c.sw + 1 + c.sw - 1) (nodesN c) = ((min (J * S + S) n : Nat) : Int) := by rw [hm, hS, hn]; unfold imin; split <;> omega
  rw [hi, hm, hS, hn]
  refine ⟨by omega, by omega, by omega, by omega, fun hlt => ?_, fun v h1 h2 => ?_⟩
  · have := p5 (by omega); omega
  · obtain ⟨V, hV⟩ : ∃ V : Nat, v = (V : Int) := ⟨v.toNat, by omega⟩
    have hi := part_iff (n := n) (S := S) (j := J) (v := V) (by omega) (by omega) (by omega)
    have hd : (v - 1) / (S : Int) = (((V - 1) / S : Nat) : Int) := by rw [Int.natCast_ediv, hV, show (((V - 1 : Nat)) : Int) = (V : Int) - 1 by omega]
    rw [hd]
    constructor
    · intro hh; have := hi.1 (by omega); omega
    · intro hh; have := hi.2 (by omega); omega
theorem part_lt' {c : Cfg} (h : OkC c) (v : Int) (h1 : 1 ≤ v) (h2 : v ≤ nodesN c) : 0 ≤ (v - 1) / c.sw ∧ (v - 1) / c.sw < partsC c := by
  have n0 := (bds h).n0; have s0 := h.w0
  have hp := parts_nat h
  obtain ⟨S, hS⟩ : ∃ S : Nat, c.sw = (S : Int) := ⟨c.sw.toNat, by omega⟩
  obtain ⟨n, hn⟩ : ∃ n : Nat, nodesN c = (n : Int) := ⟨(nodesN c).toNat, by omega⟩
  obtain ⟨V, hV⟩ : ∃ V : Nat, v = (V : Int) := ⟨v.toNat, by omega⟩
  rw [hS, hn] at hp
  simp only [Int.toNat_natCast] at hp
  have := part_lt (n := n) (S := S) (v := V) (by omega) (by omega) (by omega)
  have hd : (v - 1) / (S : Int) = (((V - 1) / S : Nat) : Int) := by rw [Int.natCast_ediv, hV, show (((V - 1 : Nat)) : Int) = (V : Int) - 1 by omega]
  obtain ⟨q, hq⟩ : ∃ q : Nat, (V - 1) / S = q := ⟨_, rfl⟩
  rw [hq] at this hd
  rw [hS, hd]; omega

set_option maxHeartbeats 8000000 in
set_option maxRecDepth 100000 in
theorem walkParts (c : Cfg) (v : Int) (w : World) (wv : (Lit.int .u8 v).wf = true) : Calls Try.prog 9 #[cfgV c, .int .u8 v] w fun e w' => e = .returned (.bool true) ∧ Below w.heap.size w w' := by
  obtain ⟨v0, v1⟩ := bounds_u8 wv; clear wv
  have HK := Lib.hid (KC.start c 24 w w (Below.refl _ _))
  by_cases h : OkC c
  case neg =>
    have H := Lib.hid h; clear h
    go_enter Try.func9, Try.ntmps9
    go_wp2_with (first
      | (go_at_call 10; (with_reducible refine (awake_any _).mono ?_); rintro r w1 ⟨rfl, hb1⟩; have HK := Lib.hid (HK.out.step hb1); clear hb1; obtain ⟨klt, q0, q1, q2, q3, q4, q5, q6, q7, q8, q9, q10, q11, qb⟩ := HK.out)
      | (go_at_call 12; (with_reducible refine (model_any c _).mono ?_); rintro r w2 ⟨rfl, hb2⟩; have HK := Lib.hid (HK.out.step hb2); clear hb2 klt q0 q1 q2 q3 q4 q5 q6 q7 q8 q9 q10 q11 qb; obtain ⟨klt, q0, q1, q2, q3, q4, q5, q6, q7, q8, q9, q10, q11, qb⟩ := HK.out)
      | (go_at_call 11; (with_reducible refine (rcheck_any c _).mono ?_); rintro r w3 ⟨x, rfl, hx, hb3⟩; obtain rfl := hx.2 H.out; have HK := Lib.hid (HK.out.step hb3); clear hb3 hx klt q0 q1 q2 q3 q4 q5 q6 q7 q8 q9 q10 q11 qb; obtain ⟨klt, q0, q1, q2, q3, q4, q5, q6, q7, q8, q9, q10, q11, qb⟩ := HK.out)
      | fail)
    go_ret
    exact ⟨rfl, HK.out.bel⟩
  case pos =>
    have H := Lib.hid h
    have n0 := (bds h).n0; have n1 := (bds h).n1
    have s0 := h.w0; have s1 := h.w1
    obtain ⟨p0, p1, p2⟩ := parts_bd' h
    have hmax : imax (nodesN c) 1 = nodesN c := by unfold imax; omega
    have hn0 : ¬ nodesN c = 0 := by omega
    have hrem : v.tmod (nodesN c) = v % nodesN c := Int.tmod_eq_emod_of_nonneg v0
    have hr0 : 0 ≤ v % nodesN c := Int.emod_nonneg _ hn0
    have hr1 : v % nodesN c < nodesN c := Int.emod_lt_of_pos _ (by omega)
    obtain ⟨D, hD⟩ : ∃ D, v % nodesN c + 1 = D := ⟨_, rfl⟩
    have hD1 : 1 ≤ D := by omega
    have hD2 : D ≤ nodesN c := by omega
    have hlt' := part_lt' h D hD1 hD2
    obtain ⟨Q, hQ⟩ : ∃ Q, Q = (D - 1) / c.sw := ⟨_, rfl⟩
    rw [← hQ] at hlt'
    have hall := fun j h0 hj => part_all h j h0 hj
    have HALL := Lib.hid hall; have HQQ := Lib.hid hQ; have HLT := Lib.hid hlt'; have HDD := Lib.hid hD
    obtain ⟨PC, hPC⟩ : ∃ PC : Nat, partsC c = (PC : Int) := ⟨(partsC c).toNat, by omega⟩
    have HPC := Lib.hid hPC
    have hPC60 : PC ≤ 60 := by omega
    clear h p2 hall hQ hlt' hPC
    go_enter Try.func9, Try.ntmps9
    go_wp2_with (first
      | (go_at_call 10; (with_reducible refine (awake_any _).mono ?_); rintro r w1 ⟨rfl, hb1⟩; have HK := Lib.hid (HK.out.step hb1); clear hb1; obtain ⟨klt, q0, q1, q2, q3, q4, q5, q6, q7, q8, q9, q10, q11, qb⟩ := HK.out)
      | (go_at_call 12; (with_reducible refine (model_any c _).mono ?_); rintro r w2 ⟨rfl, hb2⟩; have HK := Lib.hid (HK.out.step hb2); clear hb2 klt q0 q1 q2 q3 q4 q5 q6 q7 q8 q9 q10 q11 qb; obtain ⟨klt, q0, q1, q2, q3, q4, q5, q6, q7, q8, q9, q10, q11, qb⟩ := HK.out)
      | (go_at_call 11; (with_reducible refine (rcheck_any c _).mono ?_); rintro r w3 ⟨x, rfl, hx, hb3⟩; obtain rfl := hx.1 H.out; have HK := Lib.hid (HK.out.step hb3); clear hb3 hx klt q0 q1 q2 q3 q4 q5 q6 q7 q8 q9 q10 q11 qb; obtain ⟨klt, q0, q1, q2, q3, q4, q5, q6, q7, q8, q9, q10, q11, qb⟩ := HK.out)
      | (go_at_call 13; (with_reducible refine (new_yes H.out _).mono ?_); rintro r w4 ⟨N, rfl, hm, hb4⟩; have HK := Lib.hid (HK.out.step hb4); have HQ : Hid (KQ w w.heap.size N c _) := Lib.hid ⟨hm, HK.out⟩; clear hb4 hm klt q0 q1 q2 q3 q4 q5 q6 q7 q8 q9 q10 q11 qb; obtain ⟨klt, q0, q1, q2, q3, q4, q5, q6, q7, q8, q9, q10, q11, qb⟩ := HK.out)
      | (go_at_call 23; (with_reducible refine (nodes_m H.out _ _ HQ.out.m).mono ?_); rintro r w5 ⟨rfl, hb5⟩; have HQ := Lib.hid (HQ.out.step hb5); clear hb5)
      | fail)
    clear klt q0 q1 q2 q3 q4 q5 q6 q7 q8 q9 q10 q11 qb HK hmax hrem hr0 hr1 hD
    go_loopw [9, 10] (fun g j wr => ∃ J : Nat, J ≤ PC ∧ j = .int .i64 (J : Int) ∧ g = .int .i64 (if Q < (J : Int) then 1 else 0) ∧ KQ w w.heap.size N c wr) (fun _ j _ => PC - (intOf j).toNat)
    case atStart => exact ⟨0, Nat.zero_le _, rfl, by rw [if_neg (by have := HLT.out; omega)], HQ.out⟩
    case round =>
      clear HQ
      obtain ⟨J, hJ, rfl, rfl, hq⟩ := hrel
      obtain ⟨I, hI⟩ : ∃ I : Int, I = if Q < (J : Int) then 1 else 0 := ⟨_, rfl⟩
      rw [← hI]
      have hI0 : 0 ≤ I ∧ I ≤ 1 := by rw [hI]; split <;> omega
      obtain ⟨hI0, hI1⟩ := hI0
      have HI := Lib.hid hI
      have HQ := Lib.hid hq
      clear hI hq
      by_cases hlt : J < PC
      · obtain ⟨z1, z2, z3, z4, z5, z6⟩ := HALL.out (J : Int) (by omega) (by have := HPC.out; omega)
        have z7 := z6 D hD1 hD2
        rw [← HQQ.out] at z7
        obtain ⟨A, hA⟩ : ∃ A, (J : Int) * c.sw + 1 = A := ⟨_, rfl⟩
        rw [hA] at z1 z2 z3 z4 z5 z7
        obtain ⟨B, hB⟩ : ∃ B, imin (A + c.sw - 1) (nodesN c) = B := ⟨_, rfl⟩
        rw [hB] at z2 z3 z4 z5 z7
        have HA := Lib.hid hA; have HBB := Lib.hid hB; have Z5 := Lib.hid z5; have Z7 := Lib.hid z7
        have hj0 : (J : Int) < (PC : Int) := by omega
        have hj1 : (0 : Int) ≤ (J : Int) := by omega
        clear hA hB z5 z6 z7
        by_cases hl : (J : Int) < (PC : Int) - 1
        · have hl2 := Z5.out (by have := HPC.out; omega)
          have hl3 : (B - A + 1 != c.sw) = false := by rw [hl2]; simp
          by_cases g1 : A ≤ D
          · by_cases g2 : D ≤ B
            · have HE := Lib.hid (Z7.out.1 ⟨g1, g2⟩)
              go_wp2_with (first
                | (go_at_call 27; (with_reducible refine (parts_m H.out _ _ HQ.out.m).mono ?_); rintro r w6 ⟨rfl, hb6⟩; rw [HPC.out]; have HQ := Lib.hid (HQ.out.step hb6); have csw := HQ.out.k.c11)
                | (go_at_call 22; (with_reducible refine (part_yes H.out _ _ hj1 (by have := HPC.out; omega) _ HQ.out.m).mono ?_); rintro r w7 ⟨rfl, hb7⟩; rw [HA.out, HBB.out]; have HQ := Lib.hid (HQ.out.step hb7); have csw := HQ.out.k.c11)
                | (go_at_call 23; (with_reducible refine (nodes_m H.out _ _ HQ.out.m).mono ?_); rintro r w8 ⟨rfl, hb8⟩; have HQ := Lib.hid (HQ.out.step hb8); have csw := HQ.out.k.c11)
                | fail)
              go_roundw
              case rel => exact ⟨J + 1, by omega, by go_num, congrArg (Value.int .i64) (by have h1 := HE.out; have h2 := HI.out; rw [if_neg (by omega)] at h2; rw [if_pos (by omega)]; omega), HQ.out⟩
              case measure => simp [intOf]; omega
            · have HE := Lib.hid (show ¬ Q = (J : Int) from fun e => g2 (Z7.out.2 e).2)
              go_wp2_with (first
                | (go_at_call 27; (with_reducible refine (parts_m H.out _ _ HQ.out.m).mono ?_); rintro r w6 ⟨rfl, hb6⟩; rw [HPC.out]; have HQ := Lib.hid (HQ.out.step hb6); have csw := HQ.out.k.c11)
                | (go_at_call 22; (with_reducible refine (part_yes H.out _ _ hj1 (by have := HPC.out; omega) _ HQ.out.m).mono ?_); rintro r w7 ⟨rfl, hb7⟩; rw [HA.out, HBB.out]; have HQ := Lib.hid (HQ.out.step hb7); have csw := HQ.out.k.c11)
                | (go_at_call 23; (with_reducible refine (nodes_m H.out _ _ HQ.out.m).mono ?_); rintro r w8 ⟨rfl, hb8⟩; have HQ := Lib.hid (HQ.out.step hb8); have csw := HQ.out.k.c11)
                | fail)
              go_roundw
              case rel => exact ⟨J + 1, by omega, by go_num, congrArg (Value.int .i64) (by have h1 := HE.out; rw [HI.out]; split <;> split <;> omega), HQ.out⟩
              case measure => simp [intOf]; omega
          · have HE := Lib.hid (show ¬ Q = (J : Int) from fun e => g1 (Z7.out.2 e).1)
            go_wp2_with (first
              | (go_at_call 27; (with_reducible refine (parts_m H.out _ _ HQ.out.m).mono ?_); rintro r w6 ⟨rfl, hb6⟩; rw [HPC.out]; have HQ := Lib.hid (HQ.out.step hb6); have csw := HQ.out.k.c11)
              | (go_at_call 22; (with_reducible refine (part_yes H.out _ _ hj1 (by have := HPC.out; omega) _ HQ.out.m).mono ?_); rintro r w7 ⟨rfl, hb7⟩; rw [HA.out, HBB.out]; have HQ := Lib.hid (HQ.out.step hb7); have csw := HQ.out.k.c11)
              | (go_at_call 23; (with_reducible refine (nodes_m H.out _ _ HQ.out.m).mono ?_); rintro r w8 ⟨rfl, hb8⟩; have HQ := Lib.hid (HQ.out.step hb8); have csw := HQ.out.k.c11)
              | fail)
            go_roundw
            case rel => exact ⟨J + 1, by omega, by go_num, congrArg (Value.int .i64) (by have h1 := HE.out; rw [HI.out]; split <;> split <;> omega), HQ.out⟩
            case measure => simp [intOf]; omega
        · by_cases g1 : A ≤ D
          · by_cases g2 : D ≤ B
            · have HE := Lib.hid (Z7.out.1 ⟨g1, g2⟩)
              go_wp2_with (first
                | (go_at_call 27; (with_reducible refine (parts_m H.out _ _ HQ.out.m).mono ?_); rintro r w6 ⟨rfl, hb6⟩; rw [HPC.out]; have HQ := Lib.hid (HQ.out.step hb6); have csw := HQ.out.k.c11)
                | (go_at_call 22; (with_reducible refine (part_yes H.out _ _ hj1 (by have := HPC.out; omega) _ HQ.out.m).mono ?_); rintro r w7 ⟨rfl, hb7⟩; rw [HA.out, HBB.out]; have HQ := Lib.hid (HQ.out.step hb7); have csw := HQ.out.k.c11)
                | (go_at_call 23; (with_reducible refine (nodes_m H.out _ _ HQ.out.m).mono ?_); rintro r w8 ⟨rfl, hb8⟩; have HQ := Lib.hid (HQ.out.step hb8); have csw := HQ.out.k.c11)
                | fail)
              go_roundw
              case rel => exact ⟨J + 1, by omega, by go_num, congrArg (Value.int .i64) (by have h1 := HE.out; have h2 := HI.out; rw [if_neg (by omega)] at h2; rw [if_pos (by omega)]; omega), HQ.out⟩
              case measure => simp [intOf]; omega
            · have HE := Lib.hid (show ¬ Q = (J : Int) from fun e => g2 (Z7.out.2 e).2)
              go_wp2_with (first
                | (go_at_call 27; (with_reducible refine (parts_m H.out _ _ HQ.out.m).mono ?_); rintro r w6 ⟨rfl, hb6⟩; rw [HPC.out]; have HQ := Lib.hid (HQ.out.step hb6); have csw := HQ.out.k.c11)
                | (go_at_call 22; (with_reducible refine (part_yes H.out _ _ hj1 (by have := HPC.out; omega) _ HQ.out.m).mono ?_); rintro r w7 ⟨rfl, hb7⟩; rw [HA.out, HBB.out]; have HQ := Lib.hid (HQ.out.step hb7); have csw := HQ.out.k.c11)
                | (go_at_call 23; (with_reducible refine (nodes_m H.out _ _ HQ.out.m).mono ?_); rintro r w8 ⟨rfl, hb8⟩; have HQ := Lib.hid (HQ.out.step hb8); have csw := HQ.out.k.c11)
                | fail)
              go_roundw
              case rel => exact ⟨J + 1, by omega, by go_num, congrArg (Value.int .i64) (by have h1 := HE.out; rw [HI.out]; split <;> split <;> omega), HQ.out⟩
              case measure => simp [intOf]; omega
          · have HE := Lib.hid (show ¬ Q = (J : Int) from fun e => g1 (Z7.out.2 e).1)
            go_wp2_with (first
              | (go_at_call 27; (with_reducible refine (parts_m H.out _ _ HQ.out.m).mono ?_); rintro r w6 ⟨rfl, hb6⟩; rw [HPC.out]; have HQ := Lib.hid (HQ.out.step hb6); have csw := HQ.out.k.c11)
              | (go_at_call 22; (with_reducible refine (part_yes H.out _ _ hj1 (by have := HPC.out; omega) _ HQ.out.m).mono ?_); rintro r w7 ⟨rfl, hb7⟩; rw [HA.out, HBB.out]; have HQ := Lib.hid (HQ.out.step hb7); have csw := HQ.out.k.c11)
              | (go_at_call 23; (with_reducible refine (nodes_m H.out _ _ HQ.out.m).mono ?_); rintro r w8 ⟨rfl, hb8⟩; have HQ := Lib.hid (HQ.out.step hb8); have csw := HQ.out.k.c11)
              | fail)
            go_roundw
            case rel => exact ⟨J + 1, by omega, by go_num, congrArg (Value.int .i64) (by have h1 := HE.out; rw [HI.out]; split <;> split <;> omega), HQ.out⟩
            case measure => simp [intOf]; omega
      · have hjp : J = PC := by omega
        have hI2 : I = 1 := by rw [HI.out, if_pos (by have := HLT.out; have := HPC.out; omega)]
        have hjn : ¬ (J : Int) < (PC : Int) := by omega
        subst hI2
        clear hjp hlt
        go_wp2_with (first
          | (go_at_call 27; (with_reducible refine (parts_m H.out _ _ HQ.out.m).mono ?_); rintro r w6 ⟨rfl, hb6⟩; rw [HPC.out]; have HQ := Lib.hid (HQ.out.step hb6))
          | (go_at_call 23; (with_reducible refine (nodes_m H.out _ _ HQ.out.m).mono ?_); rintro r w7 ⟨rfl, hb7⟩; have HQ := Lib.hid (HQ.out.step hb7))
          | fail)
        go_ret
        exact ⟨ret_bool (by simp; omega), HQ.out.k.bel⟩
end Go.Proofs.Ytkbfdcfgpmohkaa
