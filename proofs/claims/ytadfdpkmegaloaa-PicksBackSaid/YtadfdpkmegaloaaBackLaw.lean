/- The law of picks of bytes, encoded and decoded again, walked. -/
import Derived.Test.YtadfdpkmegaloaaAwake
import Derived.Test.YtadfdpkmegaloaaAid
namespace Go.Proofs.Ytadfdpkmegaloaa
open Go.RowKit
set_option linter.unusedVariables false

theorem wfb {a : Int} (h : (Lit.int .u8 a).wf = true) : 0 ≤ a ∧ a ≤ 255 := by
  simp [Lit.wf, IntKind.min, IntKind.max, IntKind.bits, IntKind.signed] at h
  omega
theorem byts_of {zs : List Int} (h : ∀ x ∈ zs, (Lit.int .u8 x).wf = true) : Byt zs := by
  intro i
  by_cases hi : i < zs.length
  · have := wfb (h zs[i] (List.getElem_mem hi))
    simpa [List.getD, List.getElem?_eq_getElem hi] using this
  · simp [List.getD, List.getElem?_eq_none (Nat.le_of_not_lt hi)]
theorem whoB_bd (x : Int) : 0 ≤ whoB x ∧ whoB x ≤ 255 := by unfold whoB; split <;> omega
theorem byt_enc (l : List Pk) : Byt (encL l) := by
  intro i
  by_cases hi : i < (encL l).length
  · rw [encL_len] at hi
    obtain ⟨h1, h2⟩ := encL_get l (i / 2) (by omega)
    have : i % 2 = 0 ∨ i % 2 = 1 := by omega
    rcases this with e | e
    · rw [show 2 * (i / 2) = i by omega] at h1
      rw [h1]; exact whoB_bd _
    · rw [show 2 * (i / 2) + 1 = i by omega] at h2
      rw [h2]; omega
  · simp [List.getD, List.getElem?_eq_none (Nat.le_of_not_lt hi)]

set_option maxHeartbeats 4000000 in
set_option maxRecDepth 100000 in
theorem walkBack (a0 : Option Addr) (len0 cap0 : Nat) (z0 : List Int) (a1 : Int) (w : World) (w0 : IsRow .u8 w a0 len0 cap0 z0) (w1 : (Lit.int .u8 a1).wf = true) :
    Calls Try.prog 5 #[.slice a0 len0 cap0, .int .u8 a1] w fun e w' => e = .returned (.bool true) ∧ Below w.heap.size w w' := by
  obtain ⟨hR, hlen, h1, h2, h3, hwf⟩ := reads_row w0
  have hz := byts_of hwf
  obtain ⟨b0, b1⟩ := wfb w1
  unfold maxLen at h2
  clear w0 w1 hwf
  generalize z0.take len0 = zs at hR hlen hz
  have HL := Lib.hid hlen.symm
  have hb : Below w.heap.size w w := Below.refl _ _
  obtain ⟨N, rfl⟩ : ∃ N : Nat, a1 = N := ⟨a1.toNat, by omega⟩
  by_cases c1 : 400 < len0
  · clear hR hz hlen
    go_enter Try.func5, Try.ntmps5
    go_wp2_with (go_at_call 9; (with_reducible refine (awake_true _).mono ?_); rintro e w1 ⟨rfl, hb1⟩)
    go_ret
    exact ⟨rfl, hb1⟩
  obtain ⟨r, hr⟩ : ∃ r, decL zs N = r := ⟨_, rfl⟩
  obtain ⟨m, hm⟩ : ∃ m, m = r.length := ⟨_, rfl⟩
  obtain ⟨en, hen⟩ : ∃ en, encL r = en := ⟨_, rfl⟩
  obtain ⟨me, hme⟩ : ∃ me, me = en.length := ⟨_, rfl⟩
  have hml : m = (len0 + 1) / 2 := by rw [hm, ← hr, decL_len, hlen]
  have hmel : me = 2 * m := by rw [hme, ← hen, encL_len, hm]
  have hmb : m ≤ 1000 := by omega
  have hmeb : me ≤ 1000 := by omega
  have hback : decL en N = r := by rw [← hen, ← hr]; exact dec_enc zs N (by omega) hz
  have hbd : ∀ i, i < m → -1 ≤ (at_ r i).1 ∧ (at_ r i).1 < (N : Int) := fun i hi => by
    have := dec_bd zs N hz i (by rw [hlen]; omega)
    rw [hr] at this
    exact ⟨this.1, this.2.1⟩
  have hq : ((len0 : Int) + 1) / 2 = (m : Int) := by omega
  have HZ := Lib.hid hz
  have HR := Lib.hid hr
  have HM := Lib.hid hm
  have HE := Lib.hid hen
  have HME := Lib.hid hme
  have HBK := Lib.hid hback
  have HBD := Lib.hid hbd
  have HZE : Hid (Byt en) := Lib.hid (by rw [← hen]; exact byt_enc r)
  have HRD := Lib.hid hR
  have hn1 : len0 ≤ 1000 := by omega
  clear hR hz hlen hr hm hen hme hml hmel hback hbd
  go_enter Try.func5, Try.ntmps5
  go_wp2_with (first
    | (go_at_call 9; (with_reducible refine (awake_true _).mono ?_); rintro e w1 ⟨rfl, hb1⟩; have hb := below_step hb hb.size hb1; clear hb1)
    | (go_at_call 11; (with_reducible refine (decode_at _ _ _ m zs _ r _ HL.out (HRD.out.below hb) HZ.out hn1 HR.out HM.out).mono ?_); rintro e w2 ⟨A1, k1, rfl, hA1, _, hb1⟩; have hb := below_step hb hb.size hb1; clear hb1)
    | (go_at_call 13; (with_reducible refine (encode_at _ _ _ me r en _ HM.out hA1 hmb HE.out HME.out).mono ?_); rintro e w3 ⟨A2, k2, rfl, hA2, _, hb1⟩; have hA1 := hA1.below hb1; have hb := below_step hb hb.size hb1; clear hb1)
    | (go_at_call 11; (with_reducible refine (decode_at _ _ _ m en _ r _ HME.out hA2 HZE.out hmeb HBK.out HM.out).mono ?_); rintro e w4 ⟨A3, k3, rfl, hA3, _, hb1⟩; have hA1 := hA1.below hb1; have hb := below_step hb hb.size hb1; clear hb1))
  clear hq
  have HA1 := Lib.hid hA1
  have HA3 := Lib.hid hA3
  clear hA1 hA3
  go_loopw [9] (fun i wr => ∃ (k t : Nat), k ≤ m ∧ i = .int .i64 (k : Int) ∧ wr = w4.drewN t) (fun i _ => m - (intOf i).toNat)
  case atStart => exact ⟨0, 0, Nat.zero_le _, rfl, rfl⟩
  case round =>
    obtain ⟨k, t, hk, rfl, rfl⟩ := hrel
    by_cases hlt : k < m
    · obtain ⟨b, off, rfl, hbl, hc⟩ := HA1.out (by have := HM.out; omega)
      obtain ⟨b', off', rfl, hbl', hc'⟩ := HA3.out (by have := HM.out; omega)
      obtain ⟨d1, d2⟩ := hc k (by have := HM.out; omega)
      obtain ⟨e1, e2⟩ := hc' k (by have := HM.out; omega)
      obtain ⟨g1, g2⟩ := HBD.out k hlt
      obtain ⟨p, hp⟩ : ∃ p, p = at_ r k := ⟨_, rfl⟩
      rw [← hp] at d1 d2 e1 e2 g1 g2
      obtain ⟨x, d⟩ := p
      simp only at d1 d2 e1 e2 g1 g2
      have d2' : w4.cell? ⟨b, off + k * 2 + 1, none⟩ = some (.int .i64 d) := d2
      have e2' : w4.cell? ⟨b', off' + k * 2 + 1, none⟩ = some (.int .i64 d) := e2
      have g3 : decide ((N : Int) ≤ x) = false := by simpa using g2
      have g4 : decide (x < -1) = false := by simpa using g1
      have hk0 : (0 : Int) ≤ (k : Int) := by omega
      have hk1 : (k : Int) < (m : Int) := by omega
      clear hc hc' hp d2 e2
      go_wp2
      go_quiet (fail)
      go_wp2
      go_roundw
      case rel => exact ⟨k + 1, _, by omega, by go_num, rfl⟩
      case measure => simp [intOf]; omega
    · have hb : Below w.heap.size w (w4.drewN t) := below_drewN hb t
      go_wp2
      go_ret
      exact ⟨rfl, hb⟩
end Go.Proofs.Ytadfdpkmegaloaa
