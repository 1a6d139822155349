/- What a pool holds, as a row of the call's own; walked. -/
import Derived.Test.YtponbnbgiiepdaaGreatJ16
namespace Go.Proofs.YtponbnbgiiepdaaGreat
open Go.RowKit
set_option linter.unusedVariables false
set_option linter.unusedSimpArgs false
open Lay (plcc plc shOf packN nodesN OkC Cfg Norm firstV Rep lenL things)

set_option maxRecDepth 100000 in
set_option maxHeartbeats 8000000 in
theorem held_pk3 {c : Cfg} (hc : OkC c) (N : Nat) (M : Option Addr) (m capM : Nat) (L : List Int) (w : World) (hm : Lay.IsMap w N c) (hn : m = L.length) (hr : Reads .u64 w M L) (ww : WW L) (hl : m ≤ 100000) :
    Calls Tryz.prog 30 #[Lay.mapP N, .slice M m capM] w fun e w' => ∃ v, e = .returned v ∧ (∃ o, QVO 25 o w' v (ints .u64 (heldL c L)) ∧ ∀ b, o = some b → w.heap.size ≤ b) ∧ Below w.heap.size w w' := by
  have hmf : ∀ (fn : Fn) (first cap : Array Value) (w : World), (Instr.makeFunc fn first cap).run Tryz.prog w = .ok (.func fn first cap) w := fun _ _ _ _ => rfl
  have HC := Lib.hid hc; have HM := Lib.hid hm; have HN := Lib.hid hn; have HR := Lib.hid hr; have HW := Lib.hid ww; have HLL := Lib.hid hl
  have hpb := (Lay.bds hc).p1
  have HPB := Lib.hid hpb
  clear hc hm hn hr ww hl hpb
  obtain ⟨Q, hQ⟩ : ∃ Q, Q = walkQ L (poK c) (packN c).toNat (plcc c 4 0 0) := ⟨_, rfl⟩
  have HQQ := Lib.hid hQ
  have hql : Q.length ≤ 1000 := by have := walkQ_len L (poK c) (packN c).toNat (plcc c 4 0 0); rw [← hQ] at this; have := HPB.out; omega
  have hqr : ∀ q ∈ Q, 0 ≤ q ∧ q ≤ 4294967295 := by rw [hQ]; exact walkQ_rng _ _ _ _
  have HQR := Lib.hid hqr
  obtain ⟨nq, hnq⟩ : ∃ nq, nq = Q.length := ⟨_, rfl⟩
  have HNQ := Lib.hid hnq
  rw [← hnq] at hql
  clear hQ hqr hnq
  go_enter Tryz.func30, Tryz.ntmps30
  go_wp2_with (first
    | (go_at_call 13; (with_reducible refine (new_any M m capM L _ HN.out HR.out (by have := HLL.out; omega)).mono ?_); rintro e w5 ⟨S, D, rfl, hS, hD, hs, hb⟩; have HB := Lib.hid hb; have HM2 := Lib.hid (HM.out.below hb); have HR2 := Lib.hid (Reads.below HR.out hb (Nat.le_refl _)); have HST := Lib.hid hs; have HSS := Lib.hid (And.intro hS hD); clear hb hs hS hD)
    | (go_at_call 68; (with_reducible refine (Lay.pool_m HC.out N _ HM2.out).mono ?_); rintro r w3 ⟨rfl, hb⟩; have HM3 := Lib.hid (HM2.out.below hb); have HB3 := Lib.hid hb; clear hb)
    | (go_at_call 29; (with_reducible refine (Lay.packets_m N _ HM3.out).mono ?_); rintro r w3 ⟨rfl, hb⟩; have HB4 := Lib.hid hb; clear hb)
    | (go_at_call 67; (with_reducible refine (walkPo M m capM N c L _ HN.out (HR2.out.below (HB3.out.trans (HB4.out.mono HB3.out.size)) (Nat.le_refl _)) HW.out (lk_of HC.out (HM3.out.below HB4.out)) HPB.out).mono ?_); rintro r w6 ⟨v, rfl, hO⟩; rw [← HQQ.out] at hO; obtain ⟨Wp, wc, hv, hrow⟩ := hO.blk; rw [← HNQ.out] at hv; subst hv; have HO := Lib.hid hO; have HRW := Lib.hid hrow; clear hO hrow)
    | fail)
  have ho := HO.out
  have hrow := HRW.out
  have hb56 : Below w5.heap.size w5 w6 := (HB3.out.trans (HB4.out.mono HB3.out.size)).trans (ho.2.mono (Nat.le_trans HB3.out.size HB4.out.size))
  have hnq := HNQ.out
  have hsz5 : S < w5.heap.size ∧ D < w5.heap.size ∧ N < w5.heap.size := ⟨HST.out.ltS, HST.out.row.lt, HM2.out.1⟩
  obtain ⟨bq, off, hbq⟩ : ∃ bq off, 0 < Q.length → (Wp = some ⟨bq, off, none⟩ ∧ w5.heap.size ≤ bq ∧ bq < w6.heap.size ∧ ∀ j, j < Q.length → w6.cell? ⟨bq, off + j, none⟩ = some (.int .i64 (Q.getD j 0))) := by
    by_cases h0 : 0 < Q.length
    · obtain ⟨b, off, h1, h2, h3, h4⟩ := hrow h0
      exact ⟨b, off, fun _ => ⟨h1, Nat.le_trans (Nat.le_trans HB3.out.size HB4.out.size) h2, h3, h4⟩⟩
    · exact ⟨0, 0, fun h => absurd h h0⟩
  have hs0 : HS S D N bq off Q c w w6 L 0 (.slice none 0 0) [] := by
    have hss := HSS.out
    have hms := HM.out.1
    have hbs := HB.out.size
    exact ⟨⟨⟨0, Int.le_refl _, Int.le_refl _, HST.out.below hb56⟩, HM2.out.below hb56, HC.out, ⟨by omega, by omega⟩, ⟨by omega, by omega, Nat.le_refl _⟩, HW.out, below_step HB.out HB.out.size hb56⟩, fun h0 => by have := hbq h0; omega, fun j hj => (hbq (by omega)).2.2.2 j hj, none, ⟨rfl, rfl⟩, fun b e => by cases e⟩
  have HROW : Hid (0 < nq → Wp = some ⟨bq, off, none⟩) := Lib.hid fun h0 => (hbq (by omega)).1
  have HS0 := Lib.hid hs0
  clear hnq hbq hs0 hrow hb56 hsz5 ho
  go_loopw [6, 21] (fun o i wr => ∃ (k : Nat) (v : Value), k ≤ nq ∧ i = .int .i64 (k : Int) ∧ o = v ∧ HS S D N bq off Q c w wr L (5 * k) v (heldT c L (Q.take k))) (fun _ i _ => nq - (intOf i).toNat)
  case atStart => exact ⟨0, _, Nat.zero_le _, rfl, rfl, by simpa [heldT] using HS0.out⟩
  case round =>
    obtain ⟨k, v, hk, rfl, rfl, hsn⟩ := hrel
    by_cases hlt : k < nq
    · have hkQ : k < Q.length := by have := HNQ.out; omega
      obtain rfl := HROW.out (by omega)
      have cq := hsn.qc k hkQ
      obtain ⟨p, hp⟩ : ∃ p, p = Q.getD k 0 := ⟨_, rfl⟩
      have hpm : p ∈ Q := by rw [hp, List.getD, List.getElem?_eq_getElem hkQ]; exact List.getElem_mem hkQ
      obtain ⟨p0, p1⟩ := HQR.out p hpm
      have HT := Lib.hid (heldT_succ c L Q k hkQ)
      rw [← hp] at cq HT
      have HWF : Hid ((Lit.int .i64 p).wf = true) := Lib.hid (Lay.wf_i64 (by omega) (by omega))
      obtain ⟨nn, hnn⟩ : ∃ nn, nn = ldq L (plcc c 11 p 0) := ⟨_, rfl⟩
      have HNN := Lib.hid hnn
      have hnr := HW.out.ldq (plcc c 11 p 0)
      rw [← hnn] at hnr HT
      obtain ⟨ct, hct⟩ : ∃ ct, ct = cnt4 nn := ⟨_, rfl⟩
      have hmin := imin_cnt hnr.1
      have hct4 := cnt4_le nn
      rw [← hct] at hmin hct4 HT
      have hlen := heldT_len c L (Q.take k)
      have hlen2 : (heldT c L (Q.take k)).length ≤ 4000 := by simp at hlen; omega
      have HLN := Lib.hid hlen2
      have hk0 : (0 : Int) ≤ (k : Int) := by omega
      have hk1 : (k : Int) < (nq : Int) := by omega
      have HSN := Lib.hid hsn
      have HHP := Lib.hid hp
      clear hlen hlen2 hsn hp hpm hnn hct hnr
      go_wp2_with (first
        | (go_at_call 69; (with_reducible refine (Lay.many_m HC.out N p HWF.out _ HSN.out.po.mp).mono ?_); rintro r w7 ⟨rfl, hb⟩; have HSN2 := Lib.hid (HSN.out.step hb); clear hb)
        | (go_at_call 34; (with_reducible refine (HSN2.out.load (by omega) _).mono ?_); rintro r w8 ⟨rfl, hx⟩; rw [← HNN.out]; have HSN3 := Lib.hid hx; clear hx)
        | fail)
      obtain ⟨wo, hwo⟩ : ∃ wo : World, wo = wr := ⟨_, rfl⟩
      go_loopw [6, 31] (fun o j wz => ∃ (i : Nat) (v : Value), i ≤ ct ∧ j = .int .u64 (i : Int) ∧ o = v ∧ HS S D N bq off Q c w wz L (5 * k + 1 + i) v (heldT c L (Q.take k) ++ pkT c L p i)) (fun _ j _ => ct - (intOf j).toNat)
      case atStart => exact ⟨0, _, Nat.zero_le _, rfl, rfl, by simpa [pkT] using HSN3.out⟩
      case round =>
        obtain ⟨i, v, hi, rfl, rfl, hsn⟩ := hrel
        have ew : IntKind.i64.wrap (i : Int) = (i : Int) := by rw [IntKind.wrap_i64]; omega
        by_cases hlt2 : i < ct
        · have d3 : (i : Int) < (ct : Int) := by omega
          have hl5 : (ints .u64 (heldT c L (Q.take k) ++ pkT c L p i)).length ≤ 100000 := by have := HLN.out; unfold ints; rw [List.length_map, List.length_append, pkT_len]; omega
          have HL5 := Lib.hid hl5
          have HSU := Lib.hid (pkT_succ c L p i)
          obtain ⟨x, hx⟩ : ∃ x, x = ldq L (plcc c 13 p (i : Int)) := ⟨_, rfl⟩
          have HX := Lib.hid hx
          have hxr := HW.out.ldq (plcc c 13 p (i : Int))
          rw [← hx] at hxr
          have HI : Hid ((Lit.int .i64 (i : Int)).wf = true) := Lib.hid (Lay.wf_i64 (by omega) (by omega))
          obtain ⟨A2, c2, hv2⟩ := hsn.len
          obtain ⟨C, hC⟩ : ∃ C, C = (heldT c L (Q.take k) ++ pkT c L p i).length := ⟨_, rfl⟩
          rw [← hC] at hv2
          subst hv2
          have HCC := Lib.hid hC
          clear hC
          have HSM := Lib.hid hsn
          clear hsn hl5 hx
          go_wp2_with (first
            | (go_at_call 70; (with_reducible refine (Lay.task_m HC.out N p _ HWF.out _ HSM.out.po.mp).mono ?_); rintro r w7 ⟨rfl, hb⟩; have HSM2 := Lib.hid (HSM.out.step hb); clear hb)
            | (go_at_call 34; (with_reducible refine (HSM2.out.load (by omega) _).mono ?_); rintro r w8 ⟨rfl, hx⟩; rw [← HX.out]; have HSM3 := Lib.hid (hx.step (below_alloc0 (Below.refl _ _) (.cells #[.int .u64 x] 25))); clear hx)
            | (at_builtin; obtain ⟨oo, ho, ha⟩ := HSM3.out.o; refine append_v (o' := oo) rfl _ _ elU rfl ho (new_cell _ _ _) rfl HL5.out rfl rfl ?_; intro v' w9 hg; have hs9 := HSM3.out.grew ha hg; obtain ⟨A9, c9, hv9⟩ := hs9.len; rw [List.length_append, ← HCC.out] at hv9; subst hv9; have HS9 := Lib.hid hs9; clear hg ho ha hs9)
            | fail)
          go_roundw
          case rel => exact ⟨i + 1, _, by omega, by go_num, rfl, by rw [HSU.out, ← HX.out, ← List.append_assoc]; exact HS9.out.more (by omega)⟩
          case measure => simp [intOf]; omega
        · obtain rfl : i = ct := by omega
          have HSM := Lib.hid hsn
          have HT2 := Lib.hid HT.out.symm
          clear hsn
          go_wp2_with (fail)
          go_roundw
          case rel => exact ⟨k + 1, _, by omega, by go_num, rfl, by rw [← HT2.out]; exact HSM.out.more (by omega)⟩
          case measure => simp [intOf]; omega
    · obtain rfl : k = nq := by omega
      obtain ⟨A2, c2, hv2⟩ := hsn.len
      subst hv2
      have e : heldT c L (Q.take k) = heldL c L := by
        have := HNQ.out
        rw [this, List.take_length, HQQ.out]; rfl
      rw [e] at hsn
      have HSM := Lib.hid hsn
      clear hsn
      go_wp2_with (fail)
      go_ret
      obtain ⟨o, ho, hal⟩ := HSM.out.o
      refine ⟨.slice A2 (heldT c L (Q.take k)).length c2, rfl, ⟨o, ?_, fun b hb => (hal b hb).1⟩, HSM.out.po.bel⟩
      rw [← e] at ho ⊢
      exact ho
end Go.Proofs.YtponbnbgiiepdaaGreat
