/- The call of the law of counts. -/
import Derived.Test.YtkbfdcfgpmohkaaPartsLaw
import Derived.Test.YtkbfdcfgpmohkaaRooms
namespace Go.Proofs.Ytkbfdcfgpmohkaa
open Go.RowKit
set_option linter.unusedVariables false

/-- The least number of parts, counted one by one. -/
theorem parts_least {c : Cfg} (h : OkC c) (p : Nat) (hp : (p : Int) ≤ partsC c) : ((p : Int) * c.sw < nodesN c ↔ (p : Int) < partsC c) := by
  have n0 := (bds h).n0; have s0 := h.w0
  have e := parts_nat h
  obtain ⟨b1, b2⟩ := parts_bd (nodesN c).toNat c.sw.toNat (by omega)
  obtain ⟨q, hq⟩ : ∃ q : Nat, partsN (nodesN c).toNat c.sw.toNat = q := ⟨_, rfl⟩
  rw [hq] at e b1 b2
  have b1' : nodesN c ≤ (q : Int) * c.sw := by
    have : (((nodesN c).toNat : Nat) : Int) ≤ ((q * c.sw.toNat : Nat) : Int) := by omega
    rw [Int.natCast_mul, show ((c.sw.toNat : Nat) : Int) = c.sw by omega, show (((nodesN c).toNat : Nat) : Int) = nodesN c by omega] at this
    exact this
  have b2' : (q : Int) * c.sw < nodesN c + c.sw := by
    have : ((q * c.sw.toNat : Nat) : Int) < (((nodesN c).toNat + c.sw.toNat : Nat) : Int) := by omega
    rw [Int.natCast_mul, Int.natCast_add, show ((c.sw.toNat : Nat) : Int) = c.sw by omega, show (((nodesN c).toNat : Nat) : Int) = nodesN c by omega] at this
    exact this
  constructor
  · intro hlt
    apply Classical.byContradiction
    intro hn
    have : (p : Int) = q := by omega
    rw [this] at hlt; omega
  · intro hlt
    have h1 : (p : Int) + 1 ≤ q := by omega
    have h2 : ((p : Int) + 1) * c.sw ≤ (q : Int) * c.sw := Int.mul_le_mul_of_nonneg_right h1 (by omega)
    rw [Int.add_mul] at h2; omega

set_option maxHeartbeats 16000000 in
set_option maxRecDepth 100000 in
theorem walkCounts (c : Cfg) (v j : Int) (w : World) (wv : (Lit.int .i64 v).wf = true) (wj : (Lit.int .i64 j).wf = true) : Calls Try.prog 5 #[cfgV c, .int .i64 v, .int .i64 j] w fun e w' => e = .returned (.bool true) ∧ Below w.heap.size w w' := by
  obtain ⟨v0, v1⟩ := bounds_i64 wv
  obtain ⟨j0, j1⟩ := bounds_i64 wj
  clear wv wj
  have HK := Lib.hid (KC.start c 24 w w (Below.refl _ _))
  by_cases h : OkC c
  case neg =>
    have H := Lib.hid h; clear h
    go_enter Try.func5, Try.ntmps5
    go_wp2_with (first
      | (go_at_call 10; (with_reducible refine (awake_any _).mono ?_); rintro r w1 ⟨rfl, hb1⟩; have HK := Lib.hid (HK.out.step hb1); clear hb1; obtain ⟨klt, q0, q1, q2, q3, q4, q5, q6, q7, q8, q9, q10, q11, qb⟩ := HK.out)
      | (go_at_call 12; (with_reducible refine (model_any c _).mono ?_); rintro r w2 ⟨rfl, hb2⟩; have HK := Lib.hid (HK.out.step hb2); clear hb2 klt q0 q1 q2 q3 q4 q5 q6 q7 q8 q9 q10 q11 qb; obtain ⟨klt, q0, q1, q2, q3, q4, q5, q6, q7, q8, q9, q10, q11, qb⟩ := HK.out)
      | (go_at_call 11; (with_reducible refine (rcheck_any c _).mono ?_); rintro r w3 ⟨x, rfl, hx, hb3⟩; obtain rfl := hx.2 H.out; have HK := Lib.hid (HK.out.step hb3); clear hb3 hx klt q0 q1 q2 q3 q4 q5 q6 q7 q8 q9 q10 q11 qb; obtain ⟨klt, q0, q1, q2, q3, q4, q5, q6, q7, q8, q9, q10, q11, qb⟩ := HK.out)
      | fail)
    go_ret
    exact ⟨rfl, HK.out.bel⟩
  case pos =>
    have H := Lib.hid h
    have n0 := (bds h).n0; have n1 := (bds h).n1; have s0 := h.w0; have s1 := h.w1
    obtain ⟨p0, p1, p2⟩ := parts_bd' h
    have hleast := fun p hp => parts_least h p hp
    have HLE := Lib.hid hleast
    obtain ⟨KS, hKS⟩ : ∃ KS, KS = ksOf c := ⟨_, rfl⟩
    have hKn : (KS.length : Int) = nodesN c := by rw [hKS]; exact ks_len h
    have hKg : ∀ i : Nat, i < KS.length → KS.getD i 0 = kindV c ((i : Int) + 1) := by rw [hKS]; exact fun i hi => ks_get i hi
    have hK60 : KS.length ≤ 60 := by omega
    have HKS := Lib.hid hKS; have HKN := Lib.hid hKn; have HKG := Lib.hid hKg
    obtain ⟨PC, hPC⟩ : ∃ PC : Nat, partsC c = (PC : Int) := ⟨(partsC c).toNat, by omega⟩
    have HPC := Lib.hid hPC
    have hPC60 : PC ≤ 60 := by omega
    have hPC2 : partsC c ≤ (PC : Int) ∧ (PC : Int) ≤ partsC c := by omega
    obtain ⟨hPC3, hPC4⟩ := hPC2
    obtain ⟨Q, hQ⟩ : ∃ Q, kindV c v = Q := ⟨_, rfl⟩
    have HQV := Lib.hid hQ
    have hv6 := kindV_cases h v
    have HV6 := Lib.hid hv6
    have hKn2 : nodesN c ≤ (KS.length : Int) ∧ (KS.length : Int) ≤ nodesN c := by omega
    obtain ⟨hKn3, hKn4⟩ := hKn2
    obtain ⟨LO, hLO⟩ : ∃ LO, LO = if 0 ≤ j ∧ j < (PC : Int) then j * c.sw + 1 else 0 := ⟨_, rfl⟩
    obtain ⟨HI, hHI⟩ : ∃ HI, HI = if 0 ≤ j ∧ j < (PC : Int) then imin (j * c.sw + 1 + c.sw - 1) (KS.length : Int) else -1 := ⟨_, rfl⟩
    have HLO := Lib.hid hLO; have HHI := Lib.hid hHI
    have hpart : ∀ (N : Nat) (w : World), IsMap w N c → Calls Try.prog 22 #[mapP N, .int .i64 j] w fun e w' => e = .returned (.tuple #[.int .i64 LO, .int .i64 HI]) ∧ Below w.heap.size w w' := fun N w hm => by
      by_cases hin : 0 ≤ j ∧ j < (PC : Int)
      · rw [hLO, hHI, if_pos hin, if_pos hin, show (KS.length : Int) = nodesN c from hKn]
        exact part_yes h N j hin.1 (by omega) w hm
      · rw [hLO, hHI, if_neg hin, if_neg hin]
        exact part_no h N j (by omega) w hm
    have HPT := Lib.hid hpart
    clear h p2 hleast hKS hKn hKg hPC hQ hv6 hLO hHI hpart
    go_enter Try.func5, Try.ntmps5
    go_upto_region 10 with (first
    | (go_at_call 10; (with_reducible refine (awake_any _).mono ?_); rintro r w1 ⟨rfl, hb1⟩; have HK := Lib.hid (HK.out.step hb1); clear hb1; obtain ⟨klt, q0, q1, q2, q3, q4, q5, q6, q7, q8, q9, q10, q11, qb⟩ := HK.out)
    | (go_at_call 12; (with_reducible refine (model_any c _).mono ?_); rintro r w2 ⟨rfl, hb2⟩; have HK := Lib.hid (HK.out.step hb2); clear hb2 klt q0 q1 q2 q3 q4 q5 q6 q7 q8 q9 q10 q11 qb; obtain ⟨klt, q0, q1, q2, q3, q4, q5, q6, q7, q8, q9, q10, q11, qb⟩ := HK.out)
    | (go_at_call 11; (with_reducible refine (rcheck_any c _).mono ?_); rintro r w3 ⟨x, rfl, hx, hb3⟩; obtain rfl := hx.1 H.out; have HK := Lib.hid (HK.out.step hb3); clear hb3 hx klt q0 q1 q2 q3 q4 q5 q6 q7 q8 q9 q10 q11 qb; obtain ⟨klt, q0, q1, q2, q3, q4, q5, q6, q7, q8, q9, q10, q11, qb⟩ := HK.out)
    | (go_at_call 13; (with_reducible refine (new_yes H.out _).mono ?_); rintro r w4 ⟨N, rfl, hm, hb4⟩; have HK := Lib.hid (HK.out.step hb4); have HQ : Hid (KQ w w.heap.size N c _) := Lib.hid ⟨hm, HK.out⟩; clear hb4 hm klt q0 q1 q2 q3 q4 q5 q6 q7 q8 q9 q10 q11 qb; obtain ⟨klt, q0, q1, q2, q3, q4, q5, q6, q7, q8, q9, q10, q11, qb⟩ := HK.out)
    | (go_at_call 20; (with_reducible refine (all_own c _).mono ?_); rintro r w5 ⟨v5, rfl, ho5⟩; have hb5 := ho5.2; obtain ⟨A, cap, rfl, hl5, _, _, _⟩ := ho5.reads; rw [← HKS.out]; rw [← HKS.out] at hl5; have HL := Lib.hid hl5; have HK := Lib.hid (HK.out.step hb5); have HQ := Lib.hid (HQ.out.step hb5); clear hb5 hl5 ho5 klt q0 q1 q2 q3 q4 q5 q6 q7 q8 q9 q10 q11 qb; obtain ⟨klt, q0, q1, q2, q3, q4, q5, q6, q7, q8, q9, q10, q11, qb⟩ := HK.out)
    | fail)
    have HQ5 := Lib.hid HQ.out
    obtain ⟨W, hW⟩ : ∃ W, W = w5 := ⟨_, rfl⟩
    subst hW
    go_cut [40] from 33 (fun s40 wx => ∃ D : Bool, s40 = .bool D ∧ (D = true ↔ (1 ≤ v ∧ v ≤ (KS.length : Int))) ∧ wx = W)
    case first =>
      by_cases hv1 : v ≥ 1
      · have g1 : decide (v ≥ 1) = true := decide_eq_true hv1
        by_cases hv2 : v ≤ (KS.length : Int)
        · have g2 : decide (v ≤ (KS.length : Int)) = true := decide_eq_true hv2
          go_wp2_with (fail)
          go_meet
          exact ⟨true, rfl, ⟨fun _ => ⟨hv1, hv2⟩, fun _ => rfl⟩, rfl⟩
        · have g2 : decide (v ≤ (KS.length : Int)) = false := decide_eq_false hv2
          go_wp2_with (fail)
          go_meet
          exact ⟨false, rfl, ⟨fun e => (by cases e), fun e => by exfalso; omega⟩, rfl⟩
      · have g1 : decide (v ≥ 1) = false := decide_eq_false hv1
        go_wp2_with (fail)
        go_meet
        exact ⟨false, rfl, ⟨fun e => (by cases e), fun e => by exfalso; omega⟩, rfl⟩
    case rest =>
      obtain ⟨D, rfl, hD, rfl⟩ := hcut
      have HD := Lib.hid hD
      clear hD
      obtain ⟨W2, rfl⟩ : ∃ W2 : World, W2 = wc := ⟨_, rfl⟩
      go_upto_if 40 with (fail)
      go_cut [11, 12] from 41 (fun s11 s12 wx => s11 = .int .i64 Q ∧ s12 = .int .i64 (slotsOf Q) ∧ wx = W2)
      case first =>
        cases D
        case true =>
          obtain ⟨hv1, hv2⟩ := HD.out.1 rfl
          obtain ⟨Vn, hVn⟩ : ∃ Vn : Nat, v - 1 = (Vn : Int) := ⟨(v - 1).toNat, by omega⟩
          have hVl : Vn < KS.length := by omega
          have hVl2 : (Vn : Int) < (KS.length : Int) := by omega
          have hVl0 : (0 : Int) ≤ (Vn : Int) := by omega
          have hcV : KS.getD Vn 0 = Q := by rw [HKG.out Vn hVl, show (Vn : Int) + 1 = v by omega]; exact HQV.out
          have hwv : IntKind.i64.wrap (v - 1) = (Vn : Int) := by rw [hVn]; exact IntWalk.i64_in _ (by omega)
          obtain ⟨b, off, rfl, hbl, hcell⟩ := HL.out (by omega)
          have hcv := hcell Vn hVl
          rw [hcV] at hcv
          clear hcell hcV
          go_wp2_with (first
            | (go_at_call 21; (with_reducible refine (refSlots_any _ _).mono ?_); rintro r w9 ⟨rfl, rfl⟩)
            | fail)
          go_meet
          exact ⟨rfl, rfl, rfl⟩
        case false =>
          have hin : ¬ (1 ≤ v ∧ v ≤ (KS.length : Int)) := fun e => by have := HD.out.2 e; cases this
          have hQn : Q = -1 := by
            have := HV6.out; have := HQV.out
            have hnn : nodesN c = c.a + c.b + c.c + c.d + c.e := rfl
            have := H.out.a0; have := H.out.b0; have := H.out.c0; have := H.out.d0; have := H.out.e0
            omega
          have HQN := Lib.hid hQn
          clear hQn hin
          go_wp2_with (fail)
          go_meet
          exact ⟨by rw [HQN.out], by rw [HQN.out]; rfl, rfl⟩
      case rest =>
        obtain ⟨rfl, rfl, rfl⟩ := hcut
        obtain ⟨W3, rfl⟩ : ∃ W3 : World, W3 = wc := ⟨_, rfl⟩
        have csw := HQ5.out.k.c11
        go_wp2_with (fail)
        go_loopw [13] (fun p wr => ∃ J : Nat, J ≤ PC ∧ p = .int .i64 (J : Int) ∧ wr = W3) (fun p _ => PC - (intOf p).toNat)
        case atStart => exact ⟨0, Nat.zero_le _, rfl, rfl⟩
        case round =>
          obtain ⟨J, hJ, rfl, rfl⟩ := hrel
          have hiff := HLE.out J (by omega)
          have hJ16 : 0 ≤ (J : Int) * c.sw ∧ (J : Int) * c.sw ≤ 60 * 16 := mul_bd (by omega) (by omega) (by omega) s1
          obtain ⟨hJa, hJb⟩ := hJ16
          by_cases hlt : J < PC
          · have hl2 : (J : Int) * c.sw < (KS.length : Int) := by have := hiff.2 (by omega); omega
            clear hiff
            go_wp2_with (fail)
            go_roundw
            case rel => exact ⟨J + 1, by omega, by go_num, trivial⟩
            case measure => simp [intOf]; omega
          · have hJP : J = PC := by omega
            have hl2 : ¬ (J : Int) * c.sw < (KS.length : Int) := fun hh => by have := hiff.1 (by omega); omega
            clear hiff
            have HJP := Lib.hid hJP
            clear hJP hlt hJ
            obtain ⟨W4, rfl⟩ : ∃ W4 : World, W4 = wr := ⟨_, rfl⟩
            go_upto_region 18 with (fail)
            go_cut [63] from 57 (fun s63 wx => ∃ E : Bool, s63 = .bool E ∧ (E = true ↔ (0 ≤ j ∧ j < (J : Int))) ∧ wx = W4)
            case first =>
              by_cases hz1 : j ≥ 0
              · have g1 : decide (j ≥ 0) = true := decide_eq_true hz1
                by_cases hz2 : j < (J : Int)
                · have g2 : decide (j < (J : Int)) = true := decide_eq_true hz2
                  go_wp2_with (fail)
                  go_meet
                  exact ⟨true, rfl, ⟨fun _ => ⟨hz1, hz2⟩, fun _ => rfl⟩, rfl⟩
                · have g2 : decide (j < (J : Int)) = false := decide_eq_false hz2
                  go_wp2_with (fail)
                  go_meet
                  exact ⟨false, rfl, ⟨fun e => (by cases e), fun e => by exfalso; omega⟩, rfl⟩
              · have g1 : decide (j ≥ 0) = false := decide_eq_false hz1
                go_wp2_with (fail)
                go_meet
                exact ⟨false, rfl, ⟨fun e => (by cases e), fun e => by exfalso; omega⟩, rfl⟩
            case rest =>
              obtain ⟨E, rfl, hE, rfl⟩ := hcut
              have HE := Lib.hid hE
              clear hE
              obtain ⟨W5, rfl⟩ : ∃ W5 : World, W5 = wc := ⟨_, rfl⟩
              have csw5 := HQ5.out.k.c11
              go_upto_if 63 with (fail)
              go_cut [14, 15] from 64 (fun s14 s15 wx => s14 = .int .i64 LO ∧ s15 = .int .i64 HI ∧ wx = W5)
              case first =>
                cases E
                case true =>
                  obtain ⟨z1, z2⟩ := HE.out.1 rfl
                  have z3 : j < (PC : Int) := by have := HJP.out; omega
                  obtain ⟨m0, m1⟩ := mul_bd z1 (by omega : j ≤ 60) (by omega : 0 ≤ c.sw) s1
                  have hwr : IntKind.i64.wrap (j * c.sw + 1 + c.sw) = j * c.sw + 1 + c.sw := IntWalk.i64_in _ (by omega)
                  have hwr2 : IntKind.i64.wrap (j * c.sw + 1 + c.sw - 1) = j * c.sw + 1 + c.sw - 1 := IntWalk.i64_in _ (by omega)
                  have q1 : LO = j * c.sw + 1 := by rw [HLO.out, if_pos ⟨z1, z3⟩]
                  have q2 : HI = imin (j * c.sw + 1 + c.sw - 1) (KS.length : Int) := by rw [HHI.out, if_pos ⟨z1, z3⟩]
                  have Q1 := Lib.hid q1; have Q2 := Lib.hid q2
                  clear q1 q2
                  go_wp2_with (fail)
                  go_meet
                  exact ⟨by rw [Q1.out], by rw [Q2.out], rfl⟩
                case false =>
                  have hin : ¬ (0 ≤ j ∧ j < (PC : Int)) := fun e => by have := HJP.out; have := HE.out.2 (by omega); cases this
                  have q1 : LO = 0 := by rw [HLO.out, if_neg hin]
                  have q2 : HI = -1 := by rw [HHI.out, if_neg hin]
                  have Q1 := Lib.hid q1; have Q2 := Lib.hid q2
                  clear q1 q2 hin
                  go_wp2_with (fail)
                  go_meet
                  exact ⟨by rw [Q1.out], by rw [Q2.out], rfl⟩
              case rest =>
                obtain ⟨rfl, rfl, rfl⟩ := hcut
                clear HE
                go_wp2_with (first
                  | (go_at_call 22; (with_reducible refine (HPT.out _ _ HQ5.out.m).mono ?_); rintro r w10 ⟨rfl, hb10⟩; have HQ6 := Lib.hid (HQ5.out.step hb10))
                  | fail)
                have HQD := Lib.hid HQ6.out.drew
                go_region_held3 (fun w' => (w'.cell? ⟨w.heap.size, 0, none⟩ = some (.int .i64 c.a) ∧ w'.cell? ⟨w.heap.size, 1, none⟩ = some (.int .i64 c.b) ∧ w'.cell? ⟨w.heap.size, 2, none⟩ = some (.int .i64 c.c) ∧ w'.cell? ⟨w.heap.size, 3, none⟩ = some (.int .i64 c.d) ∧ w'.cell? ⟨w.heap.size, 4, none⟩ = some (.int .i64 c.e) ∧ w'.cell? ⟨w.heap.size, 5, none⟩ = some (.int .i64 c.mr) ∧ w'.cell? ⟨w.heap.size, 6, none⟩ = some (.int .i64 c.mu) ∧ w'.cell? ⟨w.heap.size, 7, none⟩ = some (.int .i64 c.dq) ∧ w'.cell? ⟨w.heap.size, 8, none⟩ = some (.int .i64 c.ch) ∧ w'.cell? ⟨w.heap.size, 9, none⟩ = some (.int .i64 c.bf) ∧ w'.cell? ⟨w.heap.size, 10, none⟩ = some (.int .i64 c.rt) ∧ w'.cell? ⟨w.heap.size, 11, none⟩ = some (.int .i64 c.sw)) ∧ KQ w w.heap.size N c w')
                  (first | exact KQ.cells HQD.out | exact KQ.cells (by assumption) | fail)
                  (first
                    | (go_at_call 23; (with_reducible refine (nodes_m H.out _ _ HQD.out.m).mono ?_); rintro r y1 ⟨rfl, hy1⟩; rw [← HKN.out]; have k1 := HQD.out.step hy1)
                    | (go_at_call 24; (with_reducible refine (common_m H.out _ _ k1.m).mono ?_); rintro r y2 ⟨rfl, hy2⟩; rw [← HKN.out]; have k2 := k1.step hy2)
                    | (go_at_call 25; (with_reducible refine (packets_m _ _ k2.m).mono ?_); rintro r y3 ⟨rfl, hy3⟩; have k3 := k2.step hy3)
                    | (go_at_call 12; (with_reducible refine (model_any c _).mono ?_); rintro r y4 ⟨rfl, hy4⟩; have k4 := k3.step hy4)
                    | (go_at_call 26; (with_reducible refine (rpackets_any H.out _).mono ?_); rintro r y5 ⟨rfl, hy5⟩; have k5 := k4.step hy5)
                    | (go_at_call 27; (with_reducible refine (parts_m H.out _ _ k5.m).mono ?_); rintro r y6 ⟨rfl, hy6⟩; rw [HPC.out, ← HJP.out]; have k6 := k5.step hy6)
                    | (go_at_call 28; (with_reducible refine (class_m _ _ _ k6.m).mono ?_); rintro r y7 ⟨rfl, hy7⟩; rw [HQV.out]; have k7 := k6.step hy7)
                    | (go_at_call 29; (with_reducible refine (room_m _ _ _ k7.m).mono ?_); rintro r y8 ⟨rfl, hy8⟩; rw [HQV.out]; have k8 := k7.step hy8)
                    | fail)
                all_goals go_wp2_with (fail)
                all_goals go_ret
                all_goals exact ⟨ret_bool (by simp), k8.k.bel⟩
end Go.Proofs.Ytkbfdcfgpmohkaa
