/- The law of three that put packets, take them and put them back, walked. -/
import Derived.Test.YtbpfkhpnfkbacaaPkOf
import Derived.Test.YtbpfkhpnfkbacaaJ4
namespace Go.Proofs.Ytbpfkhpnfkbacaa
open Go.RowKit
set_option linter.unusedVariables false
set_option linter.unusedSimpArgs false
open Lay (plcc plc shOf packN nodesN OkC Cfg Norm firstV Rep lenL things)
attribute [local irreducible] pruns

theorem seen_set {se S : List Int} {tN v : Nat} (hl : se.length = 400) (h : ∀ t, t < 400 → se.getD t 0 = (S.count (t : Int) : Int)) (hv : v = S.count (tN : Int)) (ht : tN < 400) : ∀ t, t < 400 → (se.set tN ((v : Int) + 1)).getD t 0 = ((S ++ [(tN : Int)]).count (t : Int) : Int) := fun t h4 => by
  rw [List.count_append]
  by_cases e : t = tN
  · subst e
    have : (se.set t ((v : Int) + 1)).getD t 0 = (v : Int) + 1 := by simp [List.getD, hl, ht]
    rw [this, hv]; simp
  · have e1 : (se.set tN ((v : Int) + 1)).getD t 0 = se.getD t 0 := by simp [List.getD, List.getElem?_set, Ne.symm e]
    have e2 : List.count (t : Int) [(tN : Int)] = 0 := List.count_eq_zero.2 (by simp; omega)
    rw [e1, h t h4, e2]; simp
/-- The row of what was seen, and what the pool holds beside it. -/
structure FE (B : Nat) (w0 wr : World) (SE : Nat) (se : List Int) (A : Option Addr) (Q : List Int) : Prop where
  se : wr.heap[SE]? = some (.cells (ints .i64 se).toArray 3 (0, 0))
  row : 0 < Q.length → ∃ b off, A = some ⟨b, off, none⟩ ∧ b ≠ SE ∧ b < wr.heap.size ∧ ∀ j, j < Q.length → wr.cell? ⟨b, off + j, none⟩ = some (.int .u64 (Q.getD j 0))
  bel : Below B w0 wr
  lo : B ≤ SE
  hi : B ≤ w0.heap.size
theorem FE.seen {B : Nat} {w0 wr : World} {SE : Nat} {se : List Int} {A : Option Addr} {Q : List Int} (h : FE B w0 wr SE se A Q) (t : Nat) (ht : t < se.length) : wr.cell? ⟨SE, t, none⟩ = some (.int .i64 (se.getD t 0)) ∧ wr.frozen? ⟨SE, t, none⟩ = false := by
  refine ⟨?_, frozen_of_row wr SE t _ _ h.se⟩
  simp only [World.cell?, h.se]
  simp [ints, List.getD, List.getElem?_eq_getElem ht]
theorem FE.set {B : Nat} {w0 wr : World} {SE : Nat} {se : List Int} {A : Option Addr} {Q : List Int} (h : FE B w0 wr SE se A Q) (t : Nat) (v : Int) : FE B w0 (wr.setCell ⟨SE, t, none⟩ (.int .i64 v)) SE (se.set t v) A Q := by
  refine ⟨?_, fun h0 => ?_, below_uf h.bel h.hi (UF.set wr SE t _) (fun y e => e ▸ h.lo), h.lo, h.hi⟩
  · rw [heap_setCell_same wr SE t _ 3 _ h.se]
    unfold ints
    rw [List.map_set]; simp
  · obtain ⟨b, off, e, h1, h2, h3⟩ := h.row h0
    exact ⟨b, off, e, h1, by simpa using h2, fun j hj => (World.cell?_of_block (w := wr) (a := ⟨b, off + j, none⟩) (heap_setCell_other wr ⟨SE, t, none⟩ b _ h1)).trans (h3 j hj)⟩
theorem reads_one {b : Nat} (x : Int) (T : TypeId) (w : World) (hb : b = w.heap.size) : Reads .u64 (w.alloc (.cells #[.int .u64 x] T)) (some ⟨b, 0, none⟩) [x] := fun _ => by
  subst hb
  refine ⟨_, _, rfl, by simp, fun j hj => ?_⟩
  rw [World.cell?_alloc_at _ _ _ _ rfl]
  match j, hj with
  | 0, _ => rfl
theorem new_or {w : World} {o : Obj} {b b0 : Nat} (hb0 : b0 = w.heap.size) (h : (w.alloc o).heap.size ≤ b ∨ AtB (some ⟨b0, 0, none⟩) b) : w.heap.size ≤ b := by
  subst hb0
  rcases h with h | ⟨off, e⟩
  · have : (w.alloc o).heap.size = w.heap.size + 1 := by simp
    omega
  · injection e with e; injection e with e1; omega

set_option maxHeartbeats 16000000 in
set_option maxRecDepth 100000 in
theorem walkOnce (c : Cfg) (P : Option Addr) (na capP : Nat) (ps : List Int) (Q : Option Addr) (np capQ : Nat) (qs : List Int) (w : World) (hP : IsRow .u8 w P na capP ps) (hQ : IsRow .u8 w Q np capQ qs) :
    Calls Try.prog 6 #[Lay.cfgV c, .slice P na capP, .slice Q np capQ] w fun e w' => e = .returned (.bool true) ∧ Below w.heap.size w w' := by
  obtain ⟨rP, lP, h1, h2, _, wfP⟩ := reads_row hP
  obtain ⟨rQ, lQ, h3, h4, _, wfQ⟩ := reads_row hQ
  obtain ⟨zs, hzs⟩ : ∃ zs, zs = ps.take na := ⟨_, rfl⟩
  obtain ⟨xs, hxs⟩ : ∃ xs, xs = qs.take np := ⟨_, rfl⟩
  rw [← hzs] at rP lP wfP
  rw [← hxs] at rQ lQ wfQ
  have hm1 : na ≤ maxLen := by omega
  have hm2 : np ≤ maxLen := by omega
  have HB := Lib.hid (Bw.start w c)
  obtain ⟨q0_, q1, q2, q3, q4, q5, q6, q7, q8, q9, q10, q11⟩ := (Bw.start w c).cfg
  have HRP := Lib.hid rP; have HLP := Lib.hid lP; have HWP := Lib.hid wfP
  have HRQ := Lib.hid rQ; have HLQ := Lib.hid lQ; have HWQ := Lib.hid wfQ
  clear hP rP lP wfP hzs hQ rQ lQ wfQ hxs
  by_cases hbig : na = 0 ∨ 40 < na ∨ 400 < np
  · have key : (((na : Int) == 0) = true) ∨ (((na : Int) == 0) = false ∧ decide ((na : Int) > 40) = true) ∨ (((na : Int) == 0) = false ∧ decide ((na : Int) > 40) = false ∧ decide ((np : Int) > 400) = true) := by
      by_cases e1 : na = 0
      · exact .inl (by simpa using e1)
      · by_cases e2 : 40 < na
        · exact .inr (.inl ⟨by simp; omega, by simp; omega⟩)
        · exact .inr (.inr ⟨by simp; omega, by simp; omega, by simp; omega⟩)
    rcases key with d0 | ⟨d0, d1⟩ | ⟨d0, d1, d2⟩
    all_goals
      go_enter Try.func6, Try.ntmps6
      go_wp2_with (first
        | (go_at_call 7; (with_reducible refine (awake_true _).mono ?_); rintro e w1 ⟨rfl, hb⟩; have HB := Lib.hid (HB.out.step hb); clear hb q0_ q1 q2 q3 q4 q5 q6 q7 q8 q9 q10 q11; obtain ⟨q0_, q1, q2, q3, q4, q5, q6, q7, q8, q9, q10, q11⟩ := HB.out.cfg)
        | (go_at_call 8; (with_reducible refine (small_any c _).mono ?_); rintro e w2 ⟨b, rfl, hs, hb⟩; have HB := Lib.hid (HB.out.step hb); clear hb; cases b)
        | fail)
      all_goals go_ret
      all_goals exact ⟨rfl, HB.out.fin⟩
  · have d0 : ((na : Int) == 0) = false := by simp; omega
    have d1 : decide ((na : Int) > 40) = false := by simp; omega
    have d2 : decide ((np : Int) > 400) = false := by simp; omega
    have hn1 : 0 < na ∧ na ≤ 40 := by omega
    have hn2 : np ≤ 400 := by omega
    obtain ⟨hna0, hna1⟩ := hn1
    have hmp := make_ptrs3
    have hmi := make_ints3
    have hm4 := make_ints400
    obtain ⟨U, hU⟩ : ∃ U, U = (ints .i64 (List.replicate 400 0)).toArray := ⟨_, rfl⟩
    rw [← hU] at hm4
    have HU := Lib.hid hU
    clear hU hbig
    go_enter Try.func6, Try.ntmps6
    go_wp2_with (first
      | (go_at_call 7; (with_reducible refine (awake_true _).mono ?_); rintro e w1 ⟨rfl, hb⟩; have HB := Lib.hid (HB.out.step hb); clear hb q0_ q1 q2 q3 q4 q5 q6 q7 q8 q9 q10 q11; obtain ⟨q0_, q1, q2, q3, q4, q5, q6, q7, q8, q9, q10, q11⟩ := HB.out.cfg)
      | (go_at_call 8; (with_reducible refine (small_any c _).mono ?_); rintro e w2 ⟨b, rfl, hs, hb⟩; have HB := Lib.hid (HB.out.step hb); clear hb q0_ q1 q2 q3 q4 q5 q6 q7 q8 q9 q10 q11; obtain ⟨q0_, q1, q2, q3, q4, q5, q6, q7, q8, q9, q10, q11⟩ := HB.out.cfg; have HSS := Lib.hid hs; clear hs; cases b)
      | (go_at_call 9; (with_reducible refine (Lay.new_yes (HSS.out trivial).1 _).mono ?_); rintro e w3 ⟨N, rfl, hm, hb⟩; have HOK := Lib.hid (HSS.out trivial).1; have HM := Lib.hid hm; have HB := Lib.hid (HB.out.step hb); clear hb hm q0_ q1 q2 q3 q4 q5 q6 q7 q8 q9 q10 q11)
      | (go_at_call 11; (with_reducible refine (first_any HOK.out N _ HM.out).mono ?_); rintro e w4 ⟨G, n, L, rfl, hn, hr, hrep, hb⟩; have HB := Lib.hid (HB.out.step hb); have HM := Lib.hid (HM.out.below hb); have HN := Lib.hid hn; have HR := Lib.hid hr; have HRE := Lib.hid hrep; have HLE := Lib.hid (first_len HOK.out hrep); clear hb hn hr hrep)
      | (go_at_call 10; (with_reducible refine (new_any _ _ _ L _ HN.out HR.out (by have := HN.out; have := HLE.out; omega)).mono ?_); rintro e w5 hs; obtain ⟨S, D, rfl, hpo, hb⟩ := PO.start (B := w.heap.size + 1) (w0 := wcf w c) HB.out (by simp) HM.out HOK.out (first_ww HOK.out HRE.out) hs; have HPO := Lib.hid hpo; clear hs hpo hb)
      | fail)
    · go_ret
      exact ⟨rfl, HB.out.fin⟩
    have hq := HQ.first (len := np) HPO.out HRE.out hn2
    rw [← HU.out] at hq
    obtain ⟨W0, hW0⟩ : ∃ W0, W0 = ((((w5.alloc (.cells #[.pointer none, .pointer none, .pointer none] 37)).alloc (.cells #[.int .i64 0, .int .i64 0, .int .i64 0] 3)).alloc (.cells #[.int .i64 0, .int .i64 0, .int .i64 0] 3)).alloc (.cells U 3)) := ⟨_, rfl⟩
    rw [← hW0] at hq ⊢
    obtain ⟨q, hqq⟩ : ∃ q, q = q0 S D N w5.heap.size := ⟨_, rfl⟩
    have ec1 : S = q.S := by rw [hqq]; rfl
    have ec2 : N = q.N := by rw [hqq]; rfl
    have ec3 : w5.heap.size = q.WK := by rw [hqq]; rfl
    have ec4 : w5.heap.size + 1 = q.KD := by rw [hqq]; rfl
    have ec5 : w5.heap.size + 1 + 1 = q.HS := by rw [hqq]; rfl
    have ec6 : w5.heap.size + 1 + 1 + 1 = q.SE := by rw [hqq]; rfl
    rw [← hqq] at hq
    have HQ0 := Lib.hid hq
    have HPK := Lib.hid (And.intro (pkn_is HOK.out) (Lay.bds HOK.out).p1)
    clear hq hW0 hqq
    rw [ec6, ec5, ec4, ec3, ec2, ec1]
    clear ec1 ec2 ec3 ec4 ec5 ec6 HN HR HLE HM HB HSS HRE HPO
    go_loopw [15, 16, 18] (fun s15 s16 s18 wr => ∃ (i : Nat) (nn : Int) (x : Vq) (y : Wq), i ≤ np + 90 ∧ s18 = .int .i64 i ∧ s16 = .int .i64 nn ∧ s15 = .int .i64 (y.put : Int) ∧ 0 ≤ nn ∧ nn ≤ i ∧ HQ q c (w.heap.size + 1) (wcf w c) wr np i x y) (fun _ _ s18 _ => np + 90 - (intOf s18).toNat)
    case atStart => exact ⟨0, 0, _, _, Nat.zero_le _, rfl, rfl, rfl, Int.le_refl _, Int.le_refl _, HQ0.out⟩
    case round =>
      obtain ⟨i, nn, x, y, hi, rfl, rfl, rfl, hnn0, hnn1, hd⟩ := hrel
      have H0 := Lib.hid hd
      clear hd HQ0
      by_cases hlt : i < np + 90
      · have e1 : decide ((i : Int) < (np : Int) + 90) = true := by simp; omega
        obtain ⟨k0, hk0⟩ : ∃ k0 : Nat, (i : Int) % 3 = (k0 : Int) := ⟨((i : Int) % 3).toNat, by omega⟩
        have hk03 : k0 < 3 ∧ i % 3 = k0 := by omega
        have hi0 : (0 : Int) ≤ (i : Int) := by omega
        have hi9 : (i : Int) ≤ 500 := by omega
        have hput := H0.out.put
        go_upto_if 71 with (fail)
        go_cut [19] (fun s wx => ∃ k : Nat, k < 3 ∧ (np ≤ i → i % 3 = k) ∧ s = .int .i64 k ∧ wx = wr)
        case first =>
          as_aux_lemma =>
            by_cases hl0 : i < np
            · have e2 : decide ((i : Int) < (np : Int)) = true := by simp; omega
              have hil : (i : Int) < (np : Int) := by omega
              have hjx : i < xs.length := by have := HLQ.out; omega
              obtain ⟨b, off, rfl, hbl, hcz⟩ := HRQ.out (by omega)
              have c1 := ((show Bw w c wr from H0.out.so.po.bel).fin.cell (p := ⟨b, off + i, none⟩) hbl).trans (hcz i hjx)
              obtain ⟨a, ha⟩ : ∃ a, a = xs.getD i 0 := ⟨_, rfl⟩
              have hab : 0 ≤ a ∧ a ≤ 255 := by
                have := HWQ.out a (by rw [ha, List.getD, List.getElem?_eq_getElem hjx]; exact List.getElem_mem hjx)
                simp [Lit.wf, IntKind.min, IntKind.max, IntKind.bits, IntKind.signed] at this
                omega
              rw [← ha] at c1
              obtain ⟨a0', a1'⟩ := hab
              obtain ⟨k, hk⟩ : ∃ k : Nat, a % 3 = (k : Int) := ⟨(a % 3).toNat, by omega⟩
              have hk3 : k < 3 := by omega
              clear hcz ha
              go_wp2_with (fail)
              go_meet
              exact ⟨k, hk3, (fun h => by omega), rfl, rfl⟩
            · have hil : ¬ (i : Int) < (np : Int) := by omega
              go_wp2_with (fail)
              go_meet
              exact ⟨k0, hk03.1, fun _ => hk03.2, rfl, rfl⟩
        case rest =>
          obtain ⟨k, hk3, hkm, rfl, rfl⟩ := hcut
          have hk00 : (0 : Int) ≤ (k : Int) := by omega
          have hk31 : (k : Int) < 3 := by omega
          clear hk0 hk03 k0
          apply_assumption
          refine wp_seq_k ?_
          intro KB hKB
          go_cut [15, 16] (fun s15 s16 wx => ∃ (nn : Int) (x : Vq) (y : Wq), s16 = .int .i64 nn ∧ s15 = .int .i64 (y.put : Int) ∧ 0 ≤ nn ∧ nn ≤ i + 1 ∧ HQ q c (w.heap.size + 1) (wcf w c) wx np i x y ∧ x.lv k = true)
          case first =>
            as_aux_lemma =>
              by_cases hl : x.lv k = true
              · have cw := H0.out.cellW hk3
                rw [if_pos hl] at cw
                go_wp2_with (fail)
                go_meet
                exact ⟨nn, x, y, rfl, rfl, hnn0, by omega, H0.out, hl⟩
              · have cw := H0.out.cellW hk3
                rw [if_neg hl] at cw
                by_cases hl0 : i < np
                · have hil : ¬ (np : Int) ≤ (i : Int) := by omega
                  have hrest := H0.out.rest hk3 hl
                  have hhv := (H0.out.ln k hk3).h2 (fun a => hl a.1)
                  have hHL := Lib.hid hl; have hRE := Lib.hid hrest
                  rcases (H0.out.pf.idle hk3 hrest).2 with hh | ⟨p, hh, hp1, hp2⟩
                  · rw [hh] at hhv
                    have chs := H0.out.so.hs.cell hk3
                    rw [hhv] at chs
                    simp only [List.headD_nil] at chs
                    obtain ⟨r, hr⟩ : ∃ r : Nat, (nn + 1) % (na : Int) = (r : Int) := ⟨((nn + 1) % (na : Int)).toNat, by have := Int.emod_nonneg (nn + 1) (show (na : Int) ≠ 0 by omega); omega⟩
                    have hr1 : (r : Int) < (na : Int) := by rw [← hr]; exact Int.emod_lt_of_pos _ (by omega)
                    have hr2 : (nn + 1).tmod (na : Int) = (r : Int) := by rw [Int.tmod_eq_emod_of_nonneg (by omega)]; exact hr
                    have hr0 : (0 : Int) ≤ (r : Int) := by omega
                    have hrx : r < zs.length := by have := HLP.out; omega
                    obtain ⟨b1, off1, rfl, hbl1, hcb⟩ := HRP.out (by omega)
                    obtain ⟨a, ha⟩ : ∃ a, a = zs.getD r 0 := ⟨_, rfl⟩
                    have hab : 0 ≤ a ∧ a ≤ 255 := by
                      have := HWP.out a (by rw [ha, List.getD, List.getElem?_eq_getElem hrx]; exact List.getElem_mem hrx)
                      simp [Lit.wf, IntKind.min, IntKind.max, IntKind.bits, IntKind.signed] at this
                      omega
                    obtain ⟨a0', a1'⟩ := hab
                    have ct := ((show Bw w c wc from H0.out.so.po.bel).fin.cell (p := ⟨b1, off1 + r, none⟩) hbl1).trans (hcb r hrx)
                    rw [← ha] at ct
                    obtain ⟨k2, hk2⟩ : ∃ k2 : Nat, a % 2 = (k2 : Int) := ⟨(a % 2).toNat, by omega⟩
                    have hna2 : (na : Int) ≠ 0 := by omega
                    have hnn9 : nn + 1 ≤ 2000 := by omega
                    have HHH := Lib.hid hh
                    clear hcb ha hr hrx hh hhv hrest hl
                    by_cases hput2 : k2 = 0 ∧ (y.put : Int) < packN c - 3
                    · obtain ⟨rfl, hroom⟩ := hput2
                      have dr : decide ((y.put : Int) < packN c - 3) = true := by simpa using hroom
                      have hpk0 : 0 ≤ packN c ∧ packN c ≤ 1000 := by have := HPK.out; omega
                      obtain ⟨pk0, pk1⟩ := hpk0
                      have ewp : IntKind.u64.wrap ((y.put : Int) + 1) = (y.put : Int) + 1 := by rw [IntKind.wrap_u64]; omega
                      have hpf := H0.out.pf.puts hk3 hRE.out HHH.out (by have := HPK.out; omega)
                      have epp : (((y.put + 1 : Nat)) : Int) = (y.put : Int) + 1 := by omega
                      rw [epp] at hpf
                      have HPF := Lib.hid hpf
                      have HTW : Hid (∀ z ∈ [(y.put : Int) + 1], 0 ≤ z ∧ z ≤ 18446744073709551615) := Lib.hid (by intro z hz; simp at hz; omega)
                      clear hpf hroom epp
                      go_wp2_with (first
                        | (go_at_call 21; (with_reducible refine (Lay.packets_m q.N _ H0.out.so.po.mp).mono ?_); rintro e w11 ⟨rfl, hb⟩; have H1 := Lib.hid (H0.out.step hb); clear hb; have ckd := H1.out.so.kd.cell hk3; have fkd := H1.out.so.kd.fro k; have HS1 := Lib.hid (H1.out.so.setKD hk3 0); have HSA := Lib.hid (HS1.out.below (below_alloc0 (Below.refl _ _) (.cells #[.int .u64 ((y.put : Int) + 1)] 39))))
                        | (go_at_call 13; (with_reducible refine (put_pk HOK.out q.N _ 1 1 [(y.put : Int) + 1] _ HSA.out.po.mp rfl (reads_one _ _ _ (by simp)) HTW.out (by decide) (by decide)).mono ?_); rintro e w6 ⟨X, O', D', rfl, hp, ho, hd, hb⟩; have HS2 := Lib.hid (HS1.out.newK hk3 (below_step (below_alloc0 (Below.refl _ _) _) (by simp) hb) hp (fun b hb => new_or (by simp) (hd b hb)) (pw_put c [(y.put : Int) + 1] HTW.out) (by omega)); clear hp ho hd hb; have cwk := HS2.out.wk.cell hk3; have fwk := HS2.out.wk.fro k; have HS3 := Lib.hid (HS2.out.setWK hk3 (ptr X)))
                        | fail)
                      go_meet
                      exact ⟨nn + 1, _, _, rfl, by simp, by omega, by omega, H0.out.begun (put' := y.put + 1) hk3 hHL.out hl0 HS3.out HPF.out (by simp [pPut]) ⟨by simp [pPut], by simp [pPut]⟩ (fun _ => HHH.out), by simp [upd3_same]⟩
                    · have HPF := Lib.hid (H0.out.pf.take hk3 hRE.out HHH.out)
                      by_cases hk20 : k2 = 0
                      · subst hk20
                        have dr : decide ((y.put : Int) < packN c - 3) = false := by simp; omega
                        have hpk0 : 0 ≤ packN c ∧ packN c ≤ 1000 := by have := HPK.out; omega
                        obtain ⟨pk0, pk1⟩ := hpk0
                        go_wp2_with (first
                          | (go_at_call 21; (with_reducible refine (Lay.packets_m q.N _ H0.out.so.po.mp).mono ?_); rintro e w11 ⟨rfl, hb⟩; have H1 := Lib.hid (H0.out.step hb); clear hb; have ckd := H1.out.so.kd.cell hk3; have fkd := H1.out.so.kd.fro k; have HS1 := Lib.hid (H1.out.so.setKD hk3 1))
                          | (go_at_call 23; (with_reducible refine (take_pk HOK.out q.N _ HS1.out.po.mp).mono ?_); rintro e w6 ⟨X, O', D', rfl, hp, ho, hd, hb⟩; have HS2 := Lib.hid (HS1.out.newK hk3 hb hp (fun b hb => (hd b hb).resolve_right (fun h => h)) (pw_take c) (by omega)); clear hp ho hd hb; have cwk := HS2.out.wk.cell hk3; have fwk := HS2.out.wk.fro k; have HS3 := Lib.hid (HS2.out.setWK hk3 (ptr X)))
                          | fail)
                        go_meet
                        exact ⟨nn + 1, _, { y with put := y.put, ws := upd3 y.ws k [], rs := fun _ => 22 }, rfl, rfl, by omega, by omega, H0.out.begun (put' := y.put) hk3 hHL.out hl0 HS3.out HPF.out (by simp [pTake]) ⟨by simp [pTake], by simp [pTake]⟩ (fun _ => HHH.out), by simp [upd3_same]⟩
                      · have dr : ((k2 : Int) == 0) = false := by simp; omega
                        have ckd := H0.out.so.kd.cell hk3
                        have fkd := H0.out.so.kd.fro k
                        have HS1 := Lib.hid (H0.out.so.setKD hk3 1)
                        go_wp2_with (first
                          | (go_at_call 23; (with_reducible refine (take_pk HOK.out q.N _ HS1.out.po.mp).mono ?_); rintro e w6 ⟨X, O', D', rfl, hp, ho, hd, hb⟩; have HS2 := Lib.hid (HS1.out.newK hk3 hb hp (fun b hb => (hd b hb).resolve_right (fun h => h)) (pw_take c) (by omega)); clear hp ho hd hb; have cwk := HS2.out.wk.cell hk3; have fwk := HS2.out.wk.fro k; have HS3 := Lib.hid (HS2.out.setWK hk3 (ptr X)))
                          | fail)
                        go_meet
                        exact ⟨nn + 1, _, { y with put := y.put, ws := upd3 y.ws k [], rs := fun _ => 22 }, rfl, rfl, by omega, by omega, H0.out.begun (put' := y.put) hk3 hHL.out hl0 HS3.out HPF.out (by simp [pTake]) ⟨by simp [pTake], by simp [pTake]⟩ (fun _ => HHH.out), by simp [upd3_same]⟩
                  · rw [hh] at hhv
                    have chs := H0.out.so.hs.cell hk3
                    rw [hhv] at chs
                    simp only [List.headD_cons] at chs
                    have HHH := Lib.hid hh
                    have ckd := H0.out.so.kd.cell hk3
                    have fkd := H0.out.so.kd.fro k
                    have s1 := H0.out.so.setKD hk3 2
                    have c2 := s1.hs.cell hk3
                    simp only at c2
                    rw [hhv] at c2
                    simp only [List.headD_cons] at c2
                    have HS1 := Lib.hid s1
                    have HPF := Lib.hid (H0.out.pf.back hk3 hRE.out HHH.out)
                    have hpb : pBack (pkn c) (gOf c) p = ⟨3, 4, [], 0, 0, mPush (gOf c).sp p⟩ := by unfold pBack; rw [if_neg (by omega)]
                    have HPB := Lib.hid hpb
                    have HWF : Hid ((Lit.int .i64 p).wf = true) := Lib.hid (Lay.wf_i64 (by omega) (by have := HPK.out; omega))
                    have hp9 : p ≤ 1000 := by have := HPK.out; omega
                    clear hh hhv hrest hl s1 hpb hp2
                    go_wp2_with (first
                      | (go_at_call 22; (with_reducible refine (back_pk HOK.out q.N p _ HS1.out.po.mp HWF.out).mono ?_); rintro e w6 ⟨X, O', D', rfl, hp, ho, hd, hb⟩; have HS2 := Lib.hid (HS1.out.newK hk3 hb hp (fun b hb => (hd b hb).resolve_right (fun h => h)) (pw_back c (pkn c) p) (by omega)); clear hp ho hd hb; have cwk := HS2.out.wk.cell hk3; have fwk := HS2.out.wk.fro k; have HS3 := Lib.hid (HS2.out.setWK hk3 (ptr X)))
                      | fail)
                    go_meet
                    exact ⟨nn + 1, _, { y with put := y.put, ws := upd3 y.ws k [], rs := fun _ => 22 }, rfl, rfl, by omega, by omega, H0.out.begun (put' := y.put) hk3 hHL.out hl0 HS3.out HPF.out (by rw [HPB.out]; simp) ⟨by rw [HPB.out]; simp, by rw [HPB.out]; simp⟩ (fun h => by rw [HPB.out] at h; simp at h), by simp [upd3_same]⟩
                · have hil : (np : Int) ≤ (i : Int) := by omega
                  have HSK := Lib.hid (H0.out.skip hk3 hl (by omega) hlt (hkm (by omega)))
                  go_wp2_with (fail)
                  go_roundw
                  case rel => exact ⟨i + 1, nn, x, y, by omega, by go_num, rfl, rfl, hnn0, by omega, HSK.out⟩
                  case measure => simp [intOf]; omega
          case rest =>
            as_aux_lemma =>
              clear H0
              obtain ⟨nn, x, y, rfl, rfl, hnn0, hnn1, hd, hl⟩ := hcut
              apply hKB
              have HLV := Lib.hid hl
              have hpc := hd.live hk3 hl
              have hkd := (hd.ln k hk3).kd hl
              have hput := hd.put
              have ev := hd.pf.step hk3 hpc (by omega)
              have cw := hd.cellW hk3
              rw [if_pos hl] at cw
              have hkind := pstp_kind (gOf c) x.L (x.ms k)
              have hlen := pstp_len (gOf c) x.L (x.ms k)
              have hst := hd.so.stepK hk3 hl (by omega)
              have H0 := Lib.hid hd
              obtain ⟨⟨L2, m2⟩, hz⟩ : ∃ z : List Int × Pm, pstp (gOf c) x.L (x.ms k) = z := ⟨_, rfl⟩
              cases ev with
              | on hp h' hh pf =>
                have HON := Lib.hid (fun (w' : World) (O' D' : Nat → Prop) s => hd.on (w' := w') (O' := O') (D' := D') hk3 hl hlt hkm s hp hh pf)
                rw [hz] at hst HON hp
                simp only at hp
                simp only [show decide (m2.pc = 0) = false from by simpa using hp] at hst
                have HST := Lib.hid hst
                clear hst hp pf hd hl hz hh hkind hlen hkd hpc
                go_wp2_with (first
                  | (go_at_call 27; (with_reducible refine HST.out.mono ?_); rintro r w5 ⟨rfl, O', D', h⟩; obtain ⟨x', y', hy, h'⟩ := HON.out _ _ _ h; have H1 := Lib.hid h'; clear h h')
                  | fail)
                go_roundw
                case rel => exact ⟨i + 1, nn, x', y', by omega, by go_num, rfl, by rw [hy], hnn0, by omega, H1.out⟩
                case measure => simp [intOf]; omega
              | put hp hkk pf =>
                rw [hz] at hst hp pf hkind hlen
                simp only at hst hp pf hkind hlen
                simp only [show decide (m2.pc = 0) = true from by simpa using hp] at hst
                rw [hkk] at hkd
                have hkdv : x.kd k = 0 := by have := hkd.1; simpa using this
                have HST := Lib.hid hst
                obtain ⟨pp, hpp⟩ : ∃ pp, pPacket (upd3 x.ms k m2 k) = pp := ⟨_, rfl⟩
                have HPP := Lib.hid hpp
                have HCW : Hid (x.wv k = ptr (x.A k)) := Lib.hid (by have := (hd.ln k hk3).wv; rw [if_pos hl] at this; exact this)
                have HKD := Lib.hid hkdv; have HPC := Lib.hid hp; have HPF := Lib.hid pf; have HLL := Lib.hid hlen; have HHV := Lib.hid (hd.ln k hk3).h2; have HH1 := Lib.hid (hd.ln k hk3).h1; have HKK := Lib.hid hkk
                clear hst hp pf hd hl hz hkind hlen hkd hpc hkdv hpp
                go_wp2_with (first
                  | (go_at_call 27; (with_reducible refine HST.out.mono ?_); rintro r w5 ⟨rfl, O', D', h⟩; have HS1 := Lib.hid h; have cw2 := h.wk.cell hk3; simp only at cw2; rw [HCW.out] at cw2; have ck2 := h.kd.cell hk3; simp only [HKD.out] at ck2; have fh2 := h.hs.fro k; have ch2 := h.hs.cell hk3; have fw2 := h.wk.fro k; clear h)
                  | (go_at_call 28; (with_reducible refine (HS1.out.packetK hk3 HLV.out).mono ?_); rintro r w6 ⟨rfl, hw⟩; cases hw; simp only; rw [HPP.out])
                  | fail)
                have HSK : Hid (SQ q c (w.heap.size + 1) (wcf w c) (w5.setCell ⟨q.WK, k, none⟩ (.pointer none)) (4 * (i : Int) + 4) { x with L := L2, ms := upd3 x.ms k m2, O := upd3 x.O k O', Dq := upd3 x.Dq k D', hv := upd3 x.hv k (x.hv k), se := x.se, wv := upd3 x.wv k (.pointer none), lv := upd3 x.lv k false }) := Lib.hid (by rw [upd3_self]; exact ((HS1.out.setWK hk3 (.pointer none)).kill (k := k)).more (by omega))
                obtain ⟨x', y', hy, h'⟩ := H0.out.gone (L' := L2) (m' := m2) (hv' := x.hv k) (S' := y.S) (se' := x.se) (h' := []) (ws' := []) hk3 HLV.out hlt hkm (HSK.out) HPC.out HLL.out (by rw [HH1.out HLV.out HKK.out]; rfl) H0.out.sl H0.out.sn HPF.out
                have H1 := Lib.hid h'
                clear h'
                go_roundw
                case rel => exact ⟨i + 1, nn, x', y', by omega, by go_num, rfl, by rw [hy], hnn0, by omega, H1.out⟩
                case measure => simp [intOf]; omega
              | took hp hkk hpr hm ht pf =>
                rw [hz] at hst hp pf hkind hlen hpr hm ht
                simp only at hst hp pf hkind hlen hpr hm ht
                simp only [show decide (m2.pc = 0) = true from by simpa using hp] at hst
                rw [hkk] at hkd
                have hkdv : x.kd k = 1 := by have := hkd.1; simpa using this
                have HST := Lib.hid hst
                obtain ⟨pp, hpp⟩ : ∃ pp, m2.p = pp := ⟨_, rfl⟩
                have HPP : Hid (pPacket (upd3 x.ms k m2 k) = pp) := Lib.hid (by rw [upd3_same]; unfold pPacket; rw [hp, if_neg (by omega)]; exact hpp)
                rw [hpp] at pf hpr hm ht
                obtain ⟨tN, htN⟩ : ∃ tN : Nat, tw (gOf c) L2 pp = (tN : Int) := ⟨(tw (gOf c) L2 pp).toNat, by omega⟩
                rw [htN] at pf ht
                have G2 : Gp (pkn c) L2.length (gOf c) := Pw.G pf
                have hmany : ldq L2 (plcc c 11 pp 0) = 1 := by
                  have m := G2.m pp hpr.1 hpr.2
                  rw [ld_in (show 0 ≤ plcc c 11 pp 0 ∧ plcc c 11 pp 0 < L2.length from ⟨m.1, m.2.1⟩)]; exact hm
                have htask : ldq L2 (plcc c 13 pp 0) = (tN : Int) := by
                  have t := G2.t pp 0 hpr.1 hpr.2 (by omega) (by omega)
                  rw [ld_in (show 0 ≤ plcc c 13 pp 0 ∧ plcc c 13 pp 0 < L2.length from ⟨t.1, t.2.1⟩)]; exact htN
                have htn9 : tN < 400 := by omega
                obtain ⟨vN, hvN⟩ : ∃ vN : Nat, vN = y.S.count (tN : Int) := ⟨_, rfl⟩
                have hsv : x.se.getD tN 0 = (vN : Int) := by rw [hd.sn tN htn9, hvN]
                have hv9 : vN ≤ 250 := by have := hd.pf.seenR.2; have := List.count_le_length (a := (tN : Int)) (l := y.S); omega
                have HSET := Lib.hid (seen_set hd.sl hd.sn hvN htn9)
                have ewp : IntKind.u64.wrap (y.put : Int) = (y.put : Int) := by rw [IntKind.wrap_u64]; omega
                have HWF : Hid ((Lit.int .i64 pp).wf = true) := Lib.hid (Lay.wf_i64 (by omega) (by have := HPK.out; omega))
                obtain ⟨hp1, hp2⟩ := hpr
                have hp9 : pp ≤ 1000 := by have := HPK.out; omega
                obtain ⟨ht1, ht2⟩ := ht
                have HMANY := Lib.hid hmany; have HTASK := Lib.hid htask; have HSV := Lib.hid hsv; have HT9 := Lib.hid htn9
                have HCW : Hid (x.wv k = ptr (x.A k)) := Lib.hid (by have := (hd.ln k hk3).wv; rw [if_pos hl] at this; exact this)
                have HKD := Lib.hid hkdv; have HPC := Lib.hid hp; have HPF := Lib.hid pf; have HLL := Lib.hid hlen
                have hse4 : ((x.se.set tN ((vN : Int) + 1)).length = 400) := by rw [List.length_set]; exact hd.sl
                have HSE4 := Lib.hid hse4
                clear hst hp pf hd hl hz hkind hlen hkd hpc hkdv hpp hm htN G2 hmany htask hvN hsv hp2 hse4
                go_wp2_with (first
                  | (go_at_call 27; (with_reducible refine HST.out.mono ?_); rintro r w5 ⟨rfl, O', D', h⟩; have HS1 := Lib.hid h; have ck2 := h.kd.cell hk3; simp only [HKD.out] at ck2; have cw2 := h.wk.cell hk3; simp only at cw2; rw [HCW.out] at cw2; clear h)
                  | (go_at_call 28; (with_reducible refine (HS1.out.packetK hk3 HLV.out).mono ?_); rintro r w6 ⟨rfl, hw⟩; cases hw; simp only; rw [HPP.out])
                  | (go_at_call 26; (with_reducible refine (Lay.task_m HOK.out q.N pp _ HWF.out _ HS1.out.po.mp).mono ?_); rintro e w7 ⟨rfl, hb⟩; have HS2 := Lib.hid (HS1.out.below hb); clear hb)
                  | (go_at_call 24; (with_reducible refine (HS4.out.load _ (by omega)).mono ?_); rintro e w10 ⟨rfl, h⟩; simp only; rw [HMANY.out]; have HS5 := Lib.hid h; have cse := h.seen tN (by simp only; have := HT9.out; have := H0.out.sl; omega); simp only at cse; rw [HSV.out] at cse; obtain ⟨cse, fse⟩ := cse; have s6 := h.setSE tN ((vN : Int) + 1); have ch6 := s6.hs.cell hk3; have fh6 := s6.hs.fro k; have s7 := s6.setHS hk3 pp; have cw7 := s7.wk.cell hk3; simp only at cw7; rw [HCW.out] at cw7; have fw7 := s7.wk.fro k; have HS7 := Lib.hid s7; clear h s6 s7)
                  | (go_at_call 24; (with_reducible refine (HS2.out.load _ (by omega)).mono ?_); rintro e w8 ⟨rfl, h⟩; simp only; rw [HTASK.out]; have HS3 := Lib.hid h; clear h)
                  | (go_at_call 25; (with_reducible refine (Lay.many_m HOK.out q.N pp HWF.out _ HS3.out.po.mp).mono ?_); rintro e w9 ⟨rfl, hb⟩; have HS4 := Lib.hid (HS3.out.below hb); clear hb)
                  | fail)
                have HSK : Hid (SQ q c (w.heap.size + 1) (wcf w c) (((w10.setCell ⟨q.SE, tN, none⟩ (.int .i64 ((vN : Int) + 1))).setCell ⟨q.HS, k, none⟩ (.int .i64 pp)).setCell ⟨q.WK, k, none⟩ (.pointer none)) (4 * (i : Int) + 4) { x with L := L2, ms := upd3 x.ms k m2, O := upd3 x.O k O', Dq := upd3 x.Dq k D', hv := upd3 x.hv k pp, se := x.se.set tN ((vN : Int) + 1), wv := upd3 x.wv k (.pointer none), lv := upd3 x.lv k false }) := Lib.hid (((HS7.out.setWK hk3 (.pointer none)).kill (k := k)).more (by omega))
                obtain ⟨x', y', hy, h'⟩ := H0.out.gone (L' := L2) (m' := m2) (hv' := pp) (S' := y.S ++ [(tN : Int)]) (se' := x.se.set tN ((vN : Int) + 1)) (h' := [pp]) (ws' := []) hk3 HLV.out hlt hkm (HSK.out) HPC.out HLL.out rfl HSE4.out HSET.out HPF.out
                have H1 := Lib.hid h'
                clear h'
                go_roundw
                case rel => exact ⟨i + 1, nn, x', y', by omega, by go_num, rfl, by rw [hy], hnn0, by omega, H1.out⟩
                case measure => simp [intOf]; omega
              | none hp hkk h0 pf =>
                rw [hz] at hst hp pf hkind hlen
                simp only at hst hp pf hkind hlen
                simp only [show decide (m2.pc = 0) = true from by simpa using hp] at hst
                rw [hkk] at hkd
                have hkdv : x.kd k = 1 := by have := hkd.1; simpa using this
                have HST := Lib.hid hst
                obtain ⟨pp, hpp⟩ : ∃ pp, pPacket (upd3 x.ms k m2 k) = pp := ⟨_, rfl⟩
                have HPP := Lib.hid hpp
                have hpp0 : pp = 0 := by rw [← hpp, upd3_same]; unfold pPacket; rw [hp, if_neg (by omega)]; simpa [hz] using h0
                subst hpp0
                have HV0 : Hid (x.hv k = ([] : List Int).headD 0) := Lib.hid (by rw [(hd.ln k hk3).h2 (fun a => by rw [hkk] at a; omega), hd.pf.takes hk3 hpc hkk])
                have HCW : Hid (x.wv k = ptr (x.A k)) := Lib.hid (by have := (hd.ln k hk3).wv; rw [if_pos hl] at this; exact this)
                have HKD := Lib.hid hkdv; have HPC := Lib.hid hp; have HPF := Lib.hid pf; have HLL := Lib.hid hlen; have HHV := Lib.hid (hd.ln k hk3).h2; have HH1 := Lib.hid (hd.ln k hk3).h1; have HKK := Lib.hid hkk
                clear hst hp pf hd hl hz hkind hlen hkd hpc hkdv hpp
                go_wp2_with (first
                  | (go_at_call 27; (with_reducible refine HST.out.mono ?_); rintro r w5 ⟨rfl, O', D', h⟩; have HS1 := Lib.hid h; have cw2 := h.wk.cell hk3; simp only at cw2; rw [HCW.out] at cw2; have ck2 := h.kd.cell hk3; simp only [HKD.out] at ck2; have fh2 := h.hs.fro k; have ch2 := h.hs.cell hk3; have fw2 := h.wk.fro k; clear h)
                  | (go_at_call 28; (with_reducible refine (HS1.out.packetK hk3 HLV.out).mono ?_); rintro r w6 ⟨rfl, hw⟩; cases hw; simp only; rw [HPP.out])
                  | fail)
                have HSK : Hid (SQ q c (w.heap.size + 1) (wcf w c) (w5.setCell ⟨q.WK, k, none⟩ (.pointer none)) (4 * (i : Int) + 4) { x with L := L2, ms := upd3 x.ms k m2, O := upd3 x.O k O', Dq := upd3 x.Dq k D', hv := upd3 x.hv k (x.hv k), se := x.se, wv := upd3 x.wv k (.pointer none), lv := upd3 x.lv k false }) := Lib.hid (by rw [upd3_self]; exact ((HS1.out.setWK hk3 (.pointer none)).kill (k := k)).more (by omega))
                obtain ⟨x', y', hy, h'⟩ := H0.out.gone (L' := L2) (m' := m2) (hv' := x.hv k) (S' := y.S) (se' := x.se) (h' := []) (ws' := []) hk3 HLV.out hlt hkm (HSK.out) HPC.out HLL.out (HV0.out) H0.out.sl H0.out.sn HPF.out
                have H1 := Lib.hid h'
                clear h'
                go_roundw
                case rel => exact ⟨i + 1, nn, x', y', by omega, by go_num, rfl, by rw [hy], hnn0, by omega, H1.out⟩
                case measure => simp [intOf]; omega
              | back hp hkk pf =>
                rw [hz] at hst hp pf hkind hlen
                simp only at hst hp pf hkind hlen
                simp only [show decide (m2.pc = 0) = true from by simpa using hp] at hst
                rw [hkk] at hkd
                have hkdv : x.kd k = 2 := by have := hkd.1; simpa using this
                have HST := Lib.hid hst
                obtain ⟨pp, hpp⟩ : ∃ pp, pPacket (upd3 x.ms k m2 k) = pp := ⟨_, rfl⟩
                have HPP := Lib.hid hpp
                have HCW : Hid (x.wv k = ptr (x.A k)) := Lib.hid (by have := (hd.ln k hk3).wv; rw [if_pos hl] at this; exact this)
                have HKD := Lib.hid hkdv; have HPC := Lib.hid hp; have HPF := Lib.hid pf; have HLL := Lib.hid hlen; have HHV := Lib.hid (hd.ln k hk3).h2; have HH1 := Lib.hid (hd.ln k hk3).h1; have HKK := Lib.hid hkk
                clear hst hp pf hd hl hz hkind hlen hkd hpc hkdv hpp
                go_wp2_with (first
                  | (go_at_call 27; (with_reducible refine HST.out.mono ?_); rintro r w5 ⟨rfl, O', D', h⟩; have HS1 := Lib.hid h; have cw2 := h.wk.cell hk3; simp only at cw2; rw [HCW.out] at cw2; have ck2 := h.kd.cell hk3; simp only [HKD.out] at ck2; have fh2 := h.hs.fro k; have ch2 := h.hs.cell hk3; have fw2 := h.wk.fro k; have s2 := h.setHS hk3 0; have cw3 := s2.wk.cell hk3; simp only at cw3; rw [HCW.out] at cw3; have fw3 := s2.wk.fro k; have ck3 := s2.kd.cell hk3; simp only [HKD.out] at ck3; clear h s2)
                  | (go_at_call 28; (with_reducible refine (HS1.out.packetK hk3 HLV.out).mono ?_); rintro r w6 ⟨rfl, hw⟩; cases hw; simp only; rw [HPP.out])
                  | fail)
                have HSK : Hid (SQ q c (w.heap.size + 1) (wcf w c) ((w5.setCell ⟨q.HS, k, none⟩ (.int .i64 0)).setCell ⟨q.WK, k, none⟩ (.pointer none)) (4 * (i : Int) + 4) { x with L := L2, ms := upd3 x.ms k m2, O := upd3 x.O k O', Dq := upd3 x.Dq k D', hv := upd3 x.hv k 0, se := x.se, wv := upd3 x.wv k (.pointer none), lv := upd3 x.lv k false }) := Lib.hid ((((HS1.out.setHS hk3 0).setWK hk3 (.pointer none)).kill (k := k)).more (by omega))
                obtain ⟨x', y', hy, h'⟩ := H0.out.gone (L' := L2) (m' := m2) (hv' := 0) (S' := y.S) (se' := x.se) (h' := []) (ws' := []) hk3 HLV.out hlt hkm (HSK.out) HPC.out HLL.out rfl H0.out.sl H0.out.sn HPF.out
                have H1 := Lib.hid h'
                clear h'
                go_roundw
                case rel => exact ⟨i + 1, nn, x', y', by omega, by go_num, rfl, by rw [hy], hnn0, by omega, H1.out⟩
                case measure => simp [intOf]; omega
      · obtain rfl : i = np + 90 := by omega
        as_aux_lemma =>
          have hput := H0.out.put
          obtain ⟨Q2, hQ2, hperm, hqr, hql⟩ := H0.out.ended
          have hq9 : Q2.length ≤ 1000 := by have := HPK.out; omega
          have e1 : decide (((np + 90 : Nat) : Int) < (np : Int) + 90) = false := by simp
          have hsl := (H0.out.pf.seenR).2
          have HQ2 := Lib.hid hQ2; have HPE := Lib.hid hperm; have HQR := Lib.hid hqr; have HSL := Lib.hid hsl
          obtain ⟨nq, hnq⟩ : ∃ nq, nq = Q2.length := ⟨_, rfl⟩
          have HNQ := Lib.hid hnq
          rw [← hnq] at hq9
          have ewp : IntKind.u64.wrap (y.put : Int) = (y.put : Int) := by rw [IntKind.wrap_u64]; omega
          clear hQ2 hperm hqr hql hnq hsl hlt hi
          go_wp2_with (first
            | (go_at_call 17; (with_reducible refine (all_po H0.out.so.po (by have := H0.out.ll; omega)).mono ?_); rintro r w8 ⟨rfl, hr, hpo, hb⟩; have HP8 := Lib.hid hpo; have HR8 := Lib.hid hr; have HB8 := Lib.hid hb; clear hr hpo hb)
            | (go_at_call 16; (with_reducible refine (held_pk2 HOK.out q.N _ _ _ x.L _ HP8.out.mp (Eq.refl _) HR8.out HP8.out.ww (by have := H0.out.ll; omega)).mono ?_); rintro r w9 ⟨A, hk, cap, rfl, hkl, hrow, hb⟩; rw [HQ2.out] at hkl hrow; rw [← HNQ.out] at hkl; have hkl := hkl.symm; subst hkl; have HB9 := Lib.hid (below_step HB8.out HB8.out.size hb); have HRW := Lib.hid hrow; have HS8 := Lib.hid HB8.out.size; clear hrow hb)
            | fail)
          have hfe : FE (w.heap.size + 1) (wcf w c) w9 q.SE x.se A Q2 := by
            have h9 := H0.out.step HB9.out
            refine ⟨h9.so.se, fun h0 => ?_, h9.so.po.bel, h9.so.fx.lo.2.2.2, by simp⟩
            obtain ⟨b, off, e, hb1, hb2, hc⟩ := HRW.out h0
            exact ⟨b, off, e, by have := (Array.getElem?_eq_some_iff.1 H0.out.so.se).1; have := HS8.out; omega, hb2, hc⟩
          have HFE := Lib.hid hfe
          have HSN := Lib.hid H0.out.sn
          have HSL4 := Lib.hid H0.out.sl
          clear hfe HB8 HB9 HP8 HR8 HRW
          go_loopw [23] (fun s23 wx => ∃ (j : Nat) (se' : List Int), j ≤ nq ∧ s23 = .int .i64 (j : Int) ∧ FE (w.heap.size + 1) (wcf w c) wx q.SE se' A Q2 ∧ se'.length = 400 ∧ ∀ t, t < 400 → se'.getD t 0 = ((y.S ++ Q2.take j).count (t : Int) : Int)) (fun s23 _ => nq - (intOf s23).toNat)
          case atStart => exact ⟨0, x.se, Nat.zero_le _, rfl, HFE.out, HSL4.out, by simpa using HSN.out⟩
          case round =>
            clear HFE
            obtain ⟨j, se', hj, rfl, hfe, hl4, hsn⟩ := hrel
            by_cases hlt2 : j < nq
            · have hjq : j < Q2.length := by have := HNQ.out; omega
              obtain ⟨b2, o2, rfl, hne2, hlt3, hc2⟩ := hfe.row (by omega)
              have cq := hc2 j hjq
              obtain ⟨tN, htN⟩ : ∃ tN : Nat, Q2.getD j 0 = (tN : Int) := ⟨(Q2.getD j 0).toNat, by have := HQR.out (Q2.getD j 0) (by rw [List.getD, List.getElem?_eq_getElem hjq]; exact List.getElem_mem hjq); omega⟩
              have htr := HQR.out (Q2.getD j 0) (by rw [List.getD, List.getElem?_eq_getElem hjq]; exact List.getElem_mem hjq)
              rw [htN] at cq htr
              obtain ⟨ht1, ht2⟩ := htr
              have htn9 : tN < 400 := by omega
              obtain ⟨vN, hvN⟩ : ∃ vN : Nat, vN = (y.S ++ Q2.take j).count (tN : Int) := ⟨_, rfl⟩
              have hv9 : vN ≤ 2000 := by
                have := List.count_le_length (a := (tN : Int)) (l := y.S ++ Q2.take j)
                have h2 := HSL.out
                simp only [List.length_append, List.length_take] at this; omega
              obtain ⟨cse, fse⟩ := hfe.seen tN (by omega)
              rw [hsn tN htn9, ← hvN] at cse
              have HSET := Lib.hid (seen_set hl4 hsn hvN htn9)
              have hs1 := hfe.set tN ((vN : Int) + 1)
              have HS1 := Lib.hid hs1
              have HL4 : Hid ((se'.set tN ((vN : Int) + 1)).length = 400) := Lib.hid (by rw [List.length_set]; exact hl4)
              have HTK : Hid (Q2.take (j + 1) = Q2.take j ++ [(tN : Int)]) := Lib.hid (by rw [List.take_add_one, ← htN, List.getD, List.getElem?_eq_getElem hjq]; simp)
              have hj0 : (0 : Int) ≤ (j : Int) := by omega
              have hj1 : (j : Int) < (nq : Int) := by omega
              clear hfe hsn hl4 hs1 hc2 htN hvN
              go_wp2_with (fail)
              go_roundw
              case rel => exact ⟨j + 1, _, by omega, by go_num, HS1.out, HL4.out, by rw [HTK.out, ← List.append_assoc]; exact HSET.out⟩
              case measure => simp [intOf]; omega
            · obtain rfl : j = nq := by omega
              have hone : ∀ t : Nat, 1 ≤ t → t ≤ y.put → wr.cell? ⟨q.SE, t, none⟩ = some (.int .i64 1) := fun t h1 h2 => by
                have e := (hfe.seen t (by omega)).1
                rw [hsn t (by omega)] at e
                have e2 : Q2.take j = Q2 := by rw [HNQ.out]; exact List.take_length
                rw [e2, HPE.out.count_eq, count_nd (nd_En y.put) (mem_En.2 ⟨by omega, by omega⟩)] at e
                exact e
              have HONE := Lib.hid hone
              have HBF := Lib.hid (show Bw w c wr from hfe.bel).fin
              clear hone hfe hsn hl4 hj hlt2
              obtain ⟨wo, hwo⟩ : ∃ wo : World, wo = wr := ⟨_, rfl⟩
              rw [← hwo]
              have HWO := Lib.hid hwo
              rw [← hwo] at HONE HBF
              clear hwo
              go_wp2_with (fail)
              go_loopw [24] (fun s24 wx => ∃ t : Nat, 1 ≤ t ∧ t ≤ y.put + 1 ∧ s24 = .int .i64 (t : Int) ∧ wx = wo) (fun s24 _ => y.put + 1 - (intOf s24).toNat)
              case atStart => exact ⟨1, Nat.le_refl _, by omega, rfl, rfl⟩
              case round =>
                obtain ⟨t, ht1, ht2, rfl, rfl⟩ := hrel
                by_cases hle : t ≤ y.put
                · have d1 : decide ((t : Int) ≤ (y.put : Int)) = true := by simp; omega
                  have c1 := HONE.out t ht1 hle
                  have ht0 : (0 : Int) ≤ (t : Int) := by omega
                  have ht9 : (t : Int) < 400 := by omega
                  go_wp2_with (fail)
                  go_roundw
                  case rel => exact ⟨t + 1, by omega, by omega, by go_num, trivial⟩
                  case measure => simp [intOf]; omega
                · have d1 : decide ((t : Int) ≤ (y.put : Int)) = false := by simp; omega
                  go_wp2_with (fail)
                  go_ret
                  exact ⟨rfl, HBF.out⟩
end Go.Proofs.Ytbpfkhpnfkbacaa
