/- The document's own first words, walked. -/
import Derived.Test.YtkbfdcfgpmohkaaThings
import Derived.Test.YtkbfdcfgpmohkaaPlc
namespace Go.Proofs.Ytkbfdcfgpmohkaa
open Go.RowKit
set_option linter.unusedVariables false

theorem things_12 {c : Cfg} (h : OkC c) (k : Nat) (hk : k < (things (shOf c)).length) : 0 ≤ (gt (things (shOf c)) k).a ∨ (gt (things (shOf c)) k).k ≠ 12 := by
  by_cases h12 : (gt (things (shOf c)) k).k = 12
  · left
    have s := seg_all (shOf c) k hk
    obtain ⟨t, hth⟩ : ∃ t, gt (things (shOf c)) k = t := ⟨_, rfl⟩
    rw [hth] at s h12 ⊢
    obtain ⟨x, y, z⟩ := t
    simp only at h12 ⊢
    subst h12
    simp only [plc] at s
    by_cases hy : 1 ≤ y
    · omega
    · simp [hy] at s
  · exact .inr h12
/-- What the document lays at a thing of kind x and number y, but for the lists' words. -/
def baseR (c : Cfg) (m : Nat) (x y : Int) : Int := if y = m ∧ x = 14 then slotsOf (kindV c m) else if y = m ∧ x = 15 then 1 else if x = 12 ∧ y < packN c then y + 1 else if x = 5 then 1 else 0
/-- Is v one that the list's word at the thing may name? -/
def pR (c : Cfg) (x y : Int) (v : Nat) : Bool := decide (x = 7 ∧ kindV c v = y ∨ x = 17 ∧ (v : Int) > y ∧ kindV c v = kindV c y)
def lowR (c : Cfg) (m : Nat) (x y : Int) (j : Nat) : Int := if lowTo (pR c x y) m j = 0 then baseR c m x y else (lowTo (pR c x y) m j : Int)
/-- What the document lays at a thing. -/
def refW (c : Cfg) (t : Th) : Int := lowR c (ksOf c).length t.k t.a ((ksOf c).length - 1)
def refL (c : Cfg) : List Int := (things (shOf c)).map (refW c)
theorem refL_get (c : Cfg) (k : Nat) (h : k < (things (shOf c)).length) : (refL c).getD k 0 = refW c (gt (things (shOf c)) k) := by
  simp [refL, gt, List.getD, List.getElem?_map, List.getElem?_eq_getElem h]
theorem lowR_step (c : Cfg) (m : Nat) (x y : Int) (j : Nat) (hj : j + 1 < m) : lowR c m x y (j + 1) = if pR c x y (m - 1 - j) = true then ((m - 1 - j : Nat) : Int) else lowR c m x y j := by
  unfold lowR
  simp only [lowTo]
  by_cases h : pR c x y (m - 1 - j) = true
  · simp only [h, if_true]; rw [if_neg (by omega)]
  · simp only [h]; rfl
theorem lowR_zero (c : Cfg) (m : Nat) (x y : Int) : lowR c m x y 0 = baseR c m x y := by simp [lowR, lowTo]

theorem things_rng {c : Cfg} (h : OkC c) (k : Nat) (hk : k < (things (shOf c)).length) : (gt (things (shOf c)) k).k = 17 → 1 ≤ (gt (things (shOf c)) k).a ∧ (gt (things (shOf c)) k).a ≤ nodesN c := by
  intro h17
  have s := seg_all (shOf c) k hk
  obtain ⟨t, hth⟩ : ∃ t, gt (things (shOf c)) k = t := ⟨_, rfl⟩
  rw [hth] at s h17 ⊢
  obtain ⟨x, y, z⟩ := t
  simp only at h17 ⊢
  subst h17
  have hl := shr_len h
  simp only [plc, hl] at s
  by_cases hy : 1 ≤ y ∧ y ≤ nodesN c
  · exact hy
  · simp [hy] at s

theorem base_bd {c : Cfg} (h : OkC c) (m : Nat) (x y : Int) (hm : m ≤ 60) (hy : 0 ≤ y ∨ x ≠ 12) : 0 ≤ baseR c m x y ∧ baseR c m x y ≤ 2000 := by
  have := (bds h).p1
  have := slots_bd (kindV c m)
  unfold baseR
  split
  · omega
  split
  · omega
  split
  · omega
  split <;> omega
theorem low_bd (p : Nat → Bool) (n : Nat) : ∀ j, lowTo p n j ≤ n
  | 0 => by simp [lowTo]
  | j + 1 => by
    have := low_bd p n j
    unfold lowTo; split <;> omega
theorem lowR_bd {c : Cfg} (h : OkC c) {m : Nat} {x y : Int} (hm : m ≤ 60) (hy : 0 ≤ y ∨ x ≠ 12) (j : Nat) : 0 ≤ lowR c m x y j ∧ lowR c m x y j ≤ 18446744073709551615 := by
  have := base_bd h m x y hm hy
  have := low_bd (pR c x y) m j
  unfold lowR; split <;> omega
/-- What the loop over the nodes needs. -/
structure KI (w4 : World) (v : Value) (RL KS : List Int) (b2 off2 R : Nat) (x y : Int) (w' : World) : Prop where
  own : OwnI .u64 54 w4.heap.size w4 w' v RL
  lt2 : b2 < w'.heap.size
  ltR : R < w'.heap.size
  ks : ∀ j, j < KS.length → w'.cell? ⟨b2, off2 + j, none⟩ = some (.int .i64 (KS.getD j 0))
  r0 : w'.cell? ⟨R, 0, none⟩ = some (.int .i64 x)
  r1 : w'.cell? ⟨R, 1, none⟩ = some (.int .i64 y)
theorem KI.step {w4 : World} {v : Value} {RL KS : List Int} {b2 off2 R : Nat} {x y : Int} {w' w2 : World} (h : KI w4 v RL KS b2 off2 R x y w') (hb : Below w'.heap.size w' w2) : KI w4 v RL KS b2 off2 R x y w2 :=
  ⟨h.own.step (Nat.le_refl _) hb, Nat.lt_of_lt_of_le h.lt2 hb.size, Nat.lt_of_lt_of_le h.ltR hb.size, fun j hj => (hb.cell (p := ⟨b2, off2 + j, none⟩) h.lt2).trans (h.ks j hj), (hb.cell (p := ⟨R, 0, none⟩) h.ltR).trans h.r0, (hb.cell (p := ⟨R, 1, none⟩) h.ltR).trans h.r1⟩
theorem pR_no (c : Cfg) (x y : Int) (v : Nat) (h7 : x ≠ 7) (h17 : x ≠ 17) : pR c x y v = false := decide_eq_false (by omega)

set_option maxHeartbeats 16000000 in
set_option maxRecDepth 100000 in
theorem rfirst_any {c : Cfg} (h : OkC c) (w : World) : Calls Try.prog 31 #[cfgV c] w (SomeI .u64 54 (refL c) w) := by
  have hbd := bds h
  have H := Lib.hid h
  have HK := Lib.hid (KC.start c 28 w w (Below.refl _ _))
  have hp0 := hbd.p0; have hp1 := hbd.p1
  obtain ⟨T, hT⟩ : ∃ T, T = things (shOf c) := ⟨_, rfl⟩
  obtain ⟨KS, hKS⟩ : ∃ KS, KS = ksOf c := ⟨_, rfl⟩
  obtain ⟨RL, hRL⟩ : ∃ RL, RL = refL c := ⟨_, rfl⟩
  have hTl : T.length ≤ 7000 := by rw [hT, things_len]; have := lenL_eq h; have := hbd.t55'; omega
  have hRT : RL.length = T.length := by rw [hRL, hT]; simp [refL]
  have hRg : ∀ k, k < T.length → RL.getD k 0 = lowR c KS.length (gt T k).k (gt T k).a (KS.length - 1) := by rw [hRL, hT, hKS]; exact refL_get c
  have h17 : ∀ k, k < T.length → (gt T k).k = 17 → 1 ≤ (gt T k).a ∧ (gt T k).a ≤ nodesN c := by rw [hT]; exact things_rng h
  have hKn : (KS.length : Int) = nodesN c := by rw [hKS]; exact ks_len h
  have hK60 : KS.length ≤ 60 := by have := hbd.n1; omega
  have hK1 : 1 ≤ KS.length := by have := hbd.n0; omega
  have hKg : ∀ i : Nat, i < KS.length → KS.getD i 0 = kindV c ((i : Int) + 1) := by rw [hKS]; exact fun i hi => ks_get i hi
  have hy12' : ∀ k, k < T.length → 0 ≤ (gt T k).a ∨ (gt T k).k ≠ 12 := by rw [hT]; exact things_12 h
  have HY := Lib.hid hy12'
  have HT := Lib.hid hT; have HKS := Lib.hid hKS; have HRL := Lib.hid hRL
  clear h hbd
  go_enter Try.func31, Try.ntmps31
  go_wp2_with (first
    | (go_at_call 16; (with_reducible refine (things_any H.out _).mono ?_); rintro r w2 ⟨v2, rfl, ho2⟩; rw [← HT.out] at ho2; have HO2 := Lib.hid ho2; have HK := Lib.hid (HK.out.step ho2.2); obtain ⟨klt, q0, q1, q2, q3, q4, q5, q6, q7, q8, q9, q10, q11, qb⟩ := HK.out; clear ho2)
    | (go_at_call 20; (with_reducible refine (all_own c _).mono ?_); rintro r w3 ⟨v3, rfl, ho3⟩; rw [← HKS.out] at ho3; have HO3 := Lib.hid ho3; have HB3 := Lib.hid ho3.2; have HK := Lib.hid (HK.out.step ho3.2); clear klt q0 q1 q2 q3 q4 q5 q6 q7 q8 q9 q10 q11 qb; obtain ⟨klt, q0, q1, q2, q3, q4, q5, q6, q7, q8, q9, q10, q11, qb⟩ := HK.out; clear ho3)
    | (go_at_call 26; (with_reducible refine (rpackets_any H.out _).mono ?_); rintro r w4 ⟨rfl, hb4⟩; have HK := Lib.hid (HK.out.step hb4); clear klt q0 q1 q2 q3 q4 q5 q6 q7 q8 q9 q10 q11 qb)
    | fail)
  obtain ⟨A1, cap1, rfl, hA1, _, _, _⟩ := HO2.out.reads
  obtain ⟨A2, cap2, rfl, hA2, _, _, _⟩ := HO3.out.reads
  have HA1 := Lib.hid ((hA1.below HB3.out).below hb4)
  have HA2 := Lib.hid (hA2.below hb4)
  have HBW := Lib.hid HK.out.bel
  have HRG := Lib.hid hRg; have H17 := Lib.hid h17; have HKN := Lib.hid hKn; have HKG := Lib.hid hKg; have HRT := Lib.hid hRT
  clear hA1 hA2 HO2 HO3 HB3 hb4 HK hT hKS hRL hRT hRg h17 hKn hKg
  go_wp2_with (fail)
  go_loopw [6, 7] (fun v i wr => ∃ (k : Nat), k ≤ T.length ∧ i = .int .i64 (k : Int) ∧ OwnI .u64 54 w4.heap.size w4 wr v (RL.take k)) (fun _ i _ => T.length - (intOf i).toNat)
  case atStart => exact ⟨0, Nat.zero_le _, rfl, OwnI.nil (Below.refl _ _)⟩
  case round =>
    obtain ⟨k, hk, rfl, hO⟩ := hrel
    by_cases hlt : k < T.length
    · obtain ⟨wo, rfl⟩ : ∃ wo : World, wo = wr := ⟨_, rfl⟩
      obtain ⟨b1, off1, rfl, hbl1, hcell1⟩ := HA1.out (by omega)
      obtain ⟨b2, off2, rfl, hbl2, hcell2⟩ := HA2.out (by omega)
      obtain ⟨t0, t1, t2⟩ := hcell1 k hlt
      have t0 := (hO.2.cell (p := ⟨b1, off1 + k * 3, none⟩) hbl1).trans t0
      have t1 : wo.cell? ⟨b1, off1 + k * 3 + 1, none⟩ = _ := (hO.2.cell (p := ⟨b1, off1 + (k * 3 + 1), none⟩) hbl1).trans t1
      have t2 : wo.cell? ⟨b1, off1 + k * 3 + 2, none⟩ = _ := (hO.2.cell (p := ⟨b1, off1 + (k * 3 + 2), none⟩) hbl1).trans t2
      have hst := take_snocI RL k (by rw [HRT.out]; exact hlt)
      rw [HRG.out k hlt] at hst
      have hr17 := H17.out k hlt
      obtain ⟨t, ht⟩ : ∃ t, t = gt T k := ⟨_, rfl⟩
      have hy12 := HY.out k hlt
      rw [← ht] at t0 t1 t2 hst hr17 hy12
      obtain ⟨x, y, z⟩ := t
      simp only at t0 t1 t2 hst hr17 hy12
      have hlen : (RL.take k).length ≤ 7000 := by rw [List.length_take]; omega
      have hKI : KI w4 u6 (RL.take k) KS b2 off2 wo.heap.size x y (wo.alloc (.cells #[.int .i64 x, .int .i64 y, .int .i64 z] 39)) :=
        ⟨hO.alloc (Nat.le_refl _) _, by have := hO.2.size; simp; omega, by simp, fun j hj => ((World.cell?_alloc_past _ _ _ (by show b2 < wo.heap.size; have := hO.2.size; omega)).trans (hO.2.cell (p := ⟨b2, off2 + j, none⟩) hbl2)).trans (hcell2 j hj), (World.cell?_alloc_at _ _ _ _ rfl).trans rfl, (World.cell?_alloc_at _ _ _ _ rfl).trans rfl⟩
      have HKI := Lib.hid hKI
      have HO := Lib.hid hO
      have HS := Lib.hid hst
      have HL := Lib.hid hlen
      have hk0 : (0 : Int) ≤ (k : Int) := by omega
      have hk1 : (k : Int) < (T.length : Int) := by omega
      obtain ⟨U0, hU0⟩ : ∃ U0 : Nat, KS.length = U0 + 1 := ⟨KS.length - 1, by omega⟩
      have hm1 : (KS.length : Int) - 1 = (U0 : Int) := by omega
      have hm2 : (0 : Int) ≤ (U0 : Int) := by omega
      have hm3 : (U0 : Int) < (KS.length : Int) := by omega
      have hlast : (wo.alloc (.cells #[.int .i64 x, .int .i64 y, .int .i64 z] 39)).cell? ⟨b2, off2 + U0, none⟩ = some (.int .i64 (kindV c KS.length)) := by
        rw [hKI.ks U0 (by omega), HKG.out U0 (by omega), show (U0 : Int) + 1 = (KS.length : Int) by omega]
      have HU0 := Lib.hid hU0
      have HY12 : Hid (0 ≤ y ∨ x ≠ 12) := Lib.hid hy12
      have HK1 := Lib.hid hK1
      clear hO hst hlen hKI hcell1 hcell2 hbl1 hbl2 ht hU0
      obtain ⟨B1, hB1⟩ : ∃ B1 : Int, B1 = if x = 5 then 1 else 0 := ⟨_, rfl⟩
      obtain ⟨B2, hB2⟩ : ∃ B2 : Int, B2 = if x = 12 ∧ y < packN c then y + 1 else B1 := ⟨_, rfl⟩
      obtain ⟨B3, hB3⟩ : ∃ B3 : Int, B3 = if y = (KS.length : Int) ∧ x = 15 then 1 else B2 := ⟨_, rfl⟩
      obtain ⟨B4, hB4⟩ : ∃ B4 : Int, B4 = if y = (KS.length : Int) ∧ x = 14 then slotsOf (kindV c (KS.length : Int)) else B3 := ⟨_, rfl⟩
      have hB5 : B4 = baseR c KS.length x y := by rw [hB4, hB3, hB2, hB1]; rfl
      have HB1 := Lib.hid hB1; have HB2 := Lib.hid hB2; have HB3 := Lib.hid hB3; have HB4 := Lib.hid hB4; have HB5 := Lib.hid hB5
      clear hB1 hB2 hB3 hB4 hB5 
      obtain ⟨WA, hWA⟩ : ∃ WA : World, WA = wo.alloc (.cells #[.int .i64 x, .int .i64 y, .int .i64 z] 39) := ⟨_, rfl⟩
      rw [← hWA] at HKI hlast
      have HWA := Lib.hid hWA
      have d0 := HKI.out.r0
      have d1 := HKI.out.r1
      clear hWA
      go_upto_if 30 with (fail)
      rw [← HWA.out]
      go_cut [9] (fun s wx => s = .int .i64 B1 ∧ wx = WA)
      case first =>
        by_cases hx : x = 5
        · have g : (x == 5) = true := beq_iff_eq.2 hx
          have hz : B1 = 1 := by rw [HB1.out, if_pos hx]
          have HZ := Lib.hid hz
          clear hx hz
          go_wp2_with (fail)
          go_meet
          exact ⟨by rw [HZ.out], rfl⟩
        · have g : (x == 5) = false := beq_eq_false_iff_ne.2 hx
          have hz : B1 = 0 := by rw [HB1.out, if_neg hx]
          have HZ := Lib.hid hz
          clear hx hz
          go_wp2_with (fail)
          go_meet
          exact ⟨by rw [HZ.out], rfl⟩
      case rest =>
        obtain ⟨rfl, rfl⟩ := hcut
        obtain ⟨WB, rfl⟩ : ∃ WB : World, WB = wc := ⟨_, rfl⟩
        go_upto_region 12 with (fail)
        go_cut [39] (fun s wx => ∃ D : Bool, s = .bool D ∧ (D = true ↔ (x = 12 ∧ y < packN c)) ∧ wx = WB)
        case first =>
          by_cases z1 : x = 12
          · have g1 : (x == 12) = true := beq_iff_eq.2 z1
            by_cases z2 : y < packN c
            · have g2 : decide (y < packN c) = true := decide_eq_true z2
              have Z1 := Lib.hid z1; have Z2 := Lib.hid z2
              clear z1 z2
              go_wp2_with (fail)
              go_meet
              exact ⟨true, rfl, ⟨fun _ => ⟨Z1.out, Z2.out⟩, fun _ => rfl⟩, rfl⟩
            · have g2 : decide (y < packN c) = false := decide_eq_false z2
              have Z2 := Lib.hid z2
              clear z1 z2
              go_wp2_with (fail)
              go_meet
              exact ⟨false, rfl, ⟨fun e => (by cases e), fun e => by have := Z2.out; exfalso; omega⟩, rfl⟩
          · have g1 : (x == 12) = false := beq_eq_false_iff_ne.2 z1
            have Z1 := Lib.hid z1
            clear z1
            go_wp2_with (fail)
            go_meet
            exact ⟨false, rfl, ⟨fun e => (by cases e), fun e => by have := Z1.out; exfalso; omega⟩, rfl⟩
        case rest =>
          obtain ⟨D, rfl, hD, rfl⟩ := hcut
          have HD := Lib.hid hD
          clear hD
          obtain ⟨WB, rfl⟩ : ∃ WB : World, WB = wc := ⟨_, rfl⟩
          go_upto_if 39 with (fail)
          go_cut [9] (fun s wx => s = .int .i64 B2 ∧ wx = WB)
          case first =>
            cases D
            case true =>
              obtain ⟨z1, z2⟩ := HD.out.1 rfl
              have hy0 : 0 ≤ y := by have := HY12.out; omega
              have hz : B2 = y + 1 := by rw [HB2.out, if_pos ⟨z1, z2⟩]
              have HZ := Lib.hid hz
              clear z1 hz
              go_wp2_with (fail)
              go_meet
              exact ⟨by rw [HZ.out], rfl⟩
            case false =>
              have hz : B2 = B1 := by rw [HB2.out, if_neg (fun e => by have := HD.out.2 e; cases this)]
              have HZ := Lib.hid hz
              clear hz
              go_wp2_with (fail)
              go_meet
              exact ⟨by rw [HZ.out], rfl⟩
          case rest =>
            obtain ⟨rfl, rfl⟩ := hcut
            obtain ⟨WB, rfl⟩ : ∃ WB : World, WB = wc := ⟨_, rfl⟩
            go_upto_region 14 with (fail)
            go_cut [52] (fun s wx => ∃ D : Bool, s = .bool D ∧ (D = true ↔ (y = (KS.length : Int) ∧ x = 15)) ∧ wx = WB)
            case first =>
              by_cases z1 : y = (KS.length : Int)
              · have g1 : (y == (KS.length : Int)) = true := beq_iff_eq.2 z1
                by_cases z2 : x = 15
                · have g2 : (x == 15) = true := beq_iff_eq.2 z2
                  have Z1 := Lib.hid z1; have Z2 := Lib.hid z2
                  clear z1 z2
                  go_wp2_with (fail)
                  go_meet
                  exact ⟨true, rfl, ⟨fun _ => ⟨Z1.out, Z2.out⟩, fun _ => rfl⟩, rfl⟩
                · have g2 : (x == 15) = false := beq_eq_false_iff_ne.2 z2
                  have Z2 := Lib.hid z2
                  clear z1 z2
                  go_wp2_with (fail)
                  go_meet
                  exact ⟨false, rfl, ⟨fun e => (by cases e), fun e => by have := Z2.out; exfalso; omega⟩, rfl⟩
              · have g1 : (y == (KS.length : Int)) = false := beq_eq_false_iff_ne.2 z1
                have Z1 := Lib.hid z1
                clear z1
                go_wp2_with (fail)
                go_meet
                exact ⟨false, rfl, ⟨fun e => (by cases e), fun e => by have := Z1.out; exfalso; omega⟩, rfl⟩
            case rest =>
              obtain ⟨D, rfl, hD, rfl⟩ := hcut
              have HD := Lib.hid hD
              clear hD
              obtain ⟨WB, rfl⟩ : ∃ WB : World, WB = wc := ⟨_, rfl⟩
              go_upto_if 52 with (fail)
              go_cut [9] (fun s wx => s = .int .i64 B3 ∧ wx = WB)
              case first =>
                cases D
                case true =>
                  have hz : B3 = 1 := by rw [HB3.out, if_pos (HD.out.1 rfl)]
                  have HZ := Lib.hid hz
                  clear hz
                  go_wp2_with (fail)
                  go_meet
                  exact ⟨by rw [HZ.out], rfl⟩
                case false =>
                  have hz : B3 = B2 := by rw [HB3.out, if_neg (fun e => by have := HD.out.2 e; cases this)]
                  have HZ := Lib.hid hz
                  clear hz
                  go_wp2_with (fail)
                  go_meet
                  exact ⟨by rw [HZ.out], rfl⟩
              case rest =>
                obtain ⟨rfl, rfl⟩ := hcut
                obtain ⟨WB, rfl⟩ : ∃ WB : World, WB = wc := ⟨_, rfl⟩
                go_upto_region 16 with (fail)
                go_cut [62] (fun s wx => ∃ D : Bool, s = .bool D ∧ (D = true ↔ (y = (KS.length : Int) ∧ x = 14)) ∧ wx = WB)
                case first =>
                  by_cases z1 : y = (KS.length : Int)
                  · have g1 : (y == (KS.length : Int)) = true := beq_iff_eq.2 z1
                    by_cases z2 : x = 14
                    · have g2 : (x == 14) = true := beq_iff_eq.2 z2
                      have Z1 := Lib.hid z1; have Z2 := Lib.hid z2
                      clear z1 z2
                      go_wp2_with (fail)
                      go_meet
                      exact ⟨true, rfl, ⟨fun _ => ⟨Z1.out, Z2.out⟩, fun _ => rfl⟩, rfl⟩
                    · have g2 : (x == 14) = false := beq_eq_false_iff_ne.2 z2
                      have Z2 := Lib.hid z2
                      clear z1 z2
                      go_wp2_with (fail)
                      go_meet
                      exact ⟨false, rfl, ⟨fun e => (by cases e), fun e => by have := Z2.out; exfalso; omega⟩, rfl⟩
                  · have g1 : (y == (KS.length : Int)) = false := beq_eq_false_iff_ne.2 z1
                    have Z1 := Lib.hid z1
                    clear z1
                    go_wp2_with (fail)
                    go_meet
                    exact ⟨false, rfl, ⟨fun e => (by cases e), fun e => by have := Z1.out; exfalso; omega⟩, rfl⟩
                case rest =>
                  obtain ⟨D, rfl, hD, rfl⟩ := hcut
                  have HD := Lib.hid hD
                  clear hD
                  obtain ⟨WB, rfl⟩ : ∃ WB : World, WB = wc := ⟨_, rfl⟩
                  go_upto_if 62 with (fail)
                  go_cut [9] (fun s wx => s = .int .i64 B4 ∧ wx = WB)
                  case first =>
                    cases D
                    case true =>
                      have hz : B4 = slotsOf (kindV c (KS.length : Int)) := by rw [HB4.out, if_pos (HD.out.1 rfl)]
                      have HZ := Lib.hid hz
                      clear hz
                      go_wp2_with (first
                        | (go_at_call 21; (with_reducible refine (refSlots_any _ _).mono ?_); rintro r w5 ⟨rfl, rfl⟩)
                        | fail)
                      go_meet
                      exact ⟨by rw [HZ.out], rfl⟩
                    case false =>
                      have hz : B4 = B3 := by rw [HB4.out, if_neg (fun e => by have := HD.out.2 e; cases this)]
                      have HZ := Lib.hid hz
                      clear hz
                      go_wp2_with (fail)
                      go_meet
                      exact ⟨by rw [HZ.out], rfl⟩
                  case rest =>
                    obtain ⟨rfl, rfl⟩ := hcut
                    obtain ⟨WB, rfl⟩ : ∃ WB : World, WB = wc := ⟨_, rfl⟩
                    clear hlast d0 d1
                    go_wp2_with (fail)
                    go_loopw [9, 10] (fun s v wr => ∃ V : Nat, V + 1 ≤ KS.length ∧ v = .int .i64 (V : Int) ∧ s = .int .i64 (lowR c KS.length x y (KS.length - 1 - V)) ∧ KI w4 u6 (RL.take k) KS b2 off2 wo.heap.size x y wr) (fun _ v _ => (intOf v).toNat)
                    case atStart => exact ⟨U0, by have := HU0.out; omega, rfl, by rw [show KS.length - 1 - U0 = 0 by have := HU0.out; omega, lowR_zero, HB5.out], HKI.out⟩
                    case round =>
                      clear HKI
                      obtain ⟨V, hV, rfl, rfl, hki⟩ := hrel
                      have HKI := Lib.hid hki
                      have d0 := hki.r0
                      have d1 := hki.r1
                      by_cases hV0 : V = 0
                      · have hv0 : ¬ (V : Int) ≥ 1 := by omega
                        obtain ⟨X, hX⟩ : ∃ X, lowR c KS.length x y (KS.length - 1 - V) = X := ⟨_, rfl⟩
                        have hWb := lowR_bd H.out hK60 HY12.out (KS.length - 1 - V)
                        rw [hX] at hWb ⊢
                        obtain ⟨hW1, hW2⟩ := hWb
                        have hcv : IntKind.u64.wrap X = X := by rw [IntKind.wrap_u64]; omega
                        have hSV : RL.take (k + 1) = RL.take k ++ [X] := by rw [HS.out, ← hX, hV0]; rfl
                        have HSV := Lib.hid hSV
                        clear hSV hki hV0 hV hX
                        go_wp2_with (first
                          | (at_builtin; refine append_int rfl _ _ 51 54 rfl Try.underlying51 info54 _ _ _ _ rfl HKI.out.own rfl ?_ ?_ ?_; (have := HL.out; omega); (exact Nat.le_refl _); intro v' w7 HO7)
                          | fail)
                        go_roundw
                        case rel => exact ⟨k + 1, by omega, by go_num, by rw [HSV.out]; exact HO7⟩
                        case measure => simp [intOf]; omega
                      · obtain ⟨U, hU⟩ : ∃ U : Nat, V = U + 1 := ⟨V - 1, by omega⟩
                        have hv1 : (V : Int) - 1 = (U : Int) := by omega
                        have hv2 : (0 : Int) ≤ (U : Int) := by omega
                        have hv3 : (U : Int) < (KS.length : Int) := by omega
                        have hv4 : (V : Int) ≥ 1 := by omega
                        have hcu : wr.cell? ⟨b2, off2 + U, none⟩ = some (.int .i64 (kindV c V)) := by rw [hki.ks U (by omega), HKG.out U (by omega), show (U : Int) + 1 = (V : Int) by omega]
                        have hstep : lowR c KS.length x y (KS.length - 1 - U) = if pR c x y V = true then (V : Int) else lowR c KS.length x y (KS.length - 1 - V) := by
                          have e := lowR_step c KS.length x y (KS.length - 1 - V) (by omega)
                          rw [show KS.length - 1 - V + 1 = KS.length - 1 - U by omega, show KS.length - 1 - (KS.length - 1 - V) = V by omega] at e
                          exact e
                        have HST := Lib.hid hstep
                        have hVm : V + 1 ≤ KS.length := hV
                        obtain ⟨LX, hLX⟩ : ∃ LX, lowR c KS.length x y (KS.length - 1 - V) = LX := ⟨_, rfl⟩
                        rw [hLX]
                        have HLX := Lib.hid hLX
                        rw [HLX.out] at HST
                        clear hki hstep hV hU hV0 hLX
                        by_cases h7 : x = 7
                        · have m7 : (x == 7) = true := beq_iff_eq.2 h7
                          by_cases hq : kindV c V = y
                          · have HP : Hid (pR c x y V = true) := Lib.hid (decide_eq_true (.inl ⟨h7, hq⟩))
                            have e1 : (kindV c V == y) = true := beq_iff_eq.2 hq
                            clear h7 hq
                            go_wp2_with (fail)
                            go_quiet (fail)
                            go_wp2_with (fail)
                            go_roundw
                            case rel => exact ⟨U, by omega, by go_num, by rw [HST.out, if_pos HP.out], HKI.out.step (below_drewN (Below.refl _ _) _)⟩
                            case measure => simp [intOf]; omega
                          · have HP : Hid (pR c x y V = false) := Lib.hid (decide_eq_false (by omega))
                            have e1 : (kindV c V == y) = false := beq_eq_false_iff_ne.2 hq
                            have m17 : (x == 17) = false := by rw [beq_eq_false_iff_ne]; omega
                            clear h7 hq
                            go_wp2_with (fail)
                            go_quiet (fail)
                            go_wp2_with (fail)
                            go_roundw
                            case rel => exact ⟨U, by omega, by go_num, by rw [HST.out, if_neg (by rw [HP.out]; decide)], HKI.out.step (below_drewN (Below.refl _ _) _)⟩
                            case measure => simp [intOf]; omega
                        · have m7 : (x == 7) = false := beq_eq_false_iff_ne.2 h7
                          by_cases h17 : x = 17
                          · have m17 : (x == 17) = true := beq_iff_eq.2 h17
                            obtain ⟨Yn, hYn⟩ : ∃ Yn : Nat, y - 1 = (Yn : Int) := ⟨(y - 1).toNat, by have := hr17 h17; omega⟩
                            have hy0 : (0 : Int) ≤ (Yn : Int) := by omega
                            have hy1 : (Yn : Int) < (KS.length : Int) := by have := hr17 h17; have := HKN.out; omega
                            have hcy : wr.cell? ⟨b2, off2 + Yn, none⟩ = some (.int .i64 (kindV c y)) := by rw [HKI.out.ks Yn (by omega), HKG.out Yn (by omega), show (Yn : Int) + 1 = y by omega]
                            have hwy : IntKind.i64.wrap (y - 1) = (Yn : Int) := by rw [hYn]; exact IntWalk.i64_in _ (by omega)
                            by_cases hgt : (V : Int) > y
                            · have e2 : decide ((V : Int) > y) = true := decide_eq_true hgt
                              by_cases hq : kindV c V = kindV c y
                              · have HP : Hid (pR c x y V = true) := Lib.hid (decide_eq_true (.inr ⟨h17, hgt, hq⟩))
                                have e1 : (kindV c V == kindV c y) = true := beq_iff_eq.2 hq
                                clear h17 hq
                                go_wp2_with (fail)
                                go_quiet (fail)
                                go_wp2_with (fail)
                                go_roundw
                                case rel => exact ⟨U, by omega, by go_num, by rw [HST.out, if_pos HP.out], HKI.out.step (below_drewN (Below.refl _ _) _)⟩
                                case measure => simp [intOf]; omega
                              · have HP : Hid (pR c x y V = false) := Lib.hid (decide_eq_false (by omega))
                                have e1 : (kindV c V == kindV c y) = false := beq_eq_false_iff_ne.2 hq
                                clear h17 hq
                                go_wp2_with (fail)
                                go_quiet (fail)
                                go_wp2_with (fail)
                                go_roundw
                                case rel => exact ⟨U, by omega, by go_num, by rw [HST.out, if_neg (by rw [HP.out]; decide)], HKI.out.step (below_drewN (Below.refl _ _) _)⟩
                                case measure => simp [intOf]; omega
                            · have e2 : decide ((V : Int) > y) = false := decide_eq_false hgt
                              have HP : Hid (pR c x y V = false) := Lib.hid (decide_eq_false (by omega))
                              clear h17
                              go_wp2_with (fail)
                              go_quiet (fail)
                              go_wp2_with (fail)
                              go_roundw
                              case rel => exact ⟨U, by omega, by go_num, by rw [HST.out, if_neg (by rw [HP.out]; decide)], HKI.out.step (below_drewN (Below.refl _ _) _)⟩
                              case measure => simp [intOf]; omega
                          · have m17 : (x == 17) = false := beq_eq_false_iff_ne.2 h17
                            have HP : Hid (pR c x y V = false) := Lib.hid (decide_eq_false (by omega))
                            go_wp2_with (fail)
                            go_quiet (fail)
                            go_wp2_with (fail)
                            go_roundw
                            case rel => exact ⟨U, by omega, by go_num, by rw [HST.out, if_neg (by rw [HP.out]; decide)], HKI.out.step (below_drewN (Below.refl _ _) _)⟩
                            case measure => simp [intOf]; omega
    · have hd : RL.take k = RL := List.take_of_length_le (by have := HRT.out; omega)
      have HD := Lib.hid hd
      have HO := Lib.hid hO
      clear hd hO
      go_wp2
      go_ret
      exact ⟨_, rfl, by rw [← HRL.out, ← HD.out]; exact HO.out.lower HBW.out⟩
end Go.Proofs.Ytkbfdcfgpmohkaa
