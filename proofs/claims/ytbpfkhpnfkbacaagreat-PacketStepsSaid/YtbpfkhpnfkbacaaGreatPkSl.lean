/- The law of packets' machines' steps, whatever others change, walked. -/
import Derived.Test.YtbpfkhpnfkbacaaGreatJ24
import Derived.Test.YtbpfkhpnfkbacaaGreatJ4
import Derived.Test.YtbpfkhpnfkbacaaGreatJ22
namespace Go.Proofs.YtbpfkhpnfkbacaaGreat
open Go.RowKit
set_option linter.unusedVariables false
set_option linter.unusedSimpArgs false
open Lay (plcc plc shOf packN nodesN OkC Cfg Norm firstV Rep lenL things)
attribute [local irreducible] pruns

theorem reads_one {b : Nat} (x : Int) (T : TypeId) (w : World) (hb : b = w.heap.size) : Reads .u64 (w.alloc (.cells #[.int .u64 x] T)) (some ⟨b, 0, none⟩) [x] := fun _ => by
  subst hb
  refine ⟨_, _, rfl, by simp, fun j hj => ?_⟩
  rw [World.cell?_alloc_at _ _ _ _ rfl]
  match j, hj with
  | 0, _ => rfl
theorem same_len (A A' : Option Addr) (cap cap' m : Nat) (l : List Int) (w : World) (hm : m = l.length) (h : Reads .u64 w A l) (h' : Reads .u64 w A' l) (hb : l.length ≤ 1000000) :
    Calls Tryz.prog 24 #[.slice A l.length cap, .slice A' m cap'] w fun e w' => e = .returned (.bool true) ∧ Below w.heap.size w w' := same_yes A A' cap cap' _ m l w rfl hm h h' hb
/-- The map's box. -/
theorem abox {w6 : World} {A : Option Addr} {n cap : Nat} {P : Int} {w' : World} (hb : Below (w6.heap.size + 1) (w6.alloc (.cells #[.slice A n cap, .int .i64 P] 35)) w') :
    w'.cell? ⟨w6.heap.size, 0, none⟩ = some (.slice A n cap) ∧ w'.cell? ⟨w6.heap.size, 1, none⟩ = some (.int .i64 P) := by
  have h : (w6.alloc (.cells #[.slice A n cap, .int .i64 P] 35)).heap[w6.heap.size]? = some (.cells #[.slice A n cap, .int .i64 P] 35 (0, 0)) := Array.getElem?_push_size
  have h2 := (hb.block _ (by omega)).trans h
  constructor <;> simp [World.cell?, h2]
/-- Frames at the start. -/
theorem st_fr {S D RB : Nat} {O : Nat → Prop} {w w7 w0 w10 w12 : World} (lo : w7.heap.size ≤ S ∧ w7.heap.size ≤ D ∧ w7.heap.size ≤ w0.heap.size) (hz : RB < w10.heap.size ∧ S < RB ∧ D < RB) (h7 : w.heap.size + 1 ≤ w7.heap.size) (hs : w10.heap.size ≤ w12.heap.size) (hO : ∀ b, O b → b < w12.heap.size ∧ w10.heap.size ≤ b) :
    (∀ b, w12.heap.size ≤ b → Fr3 S D O b) ∧ (∀ b, b < w.heap.size ∨ b = RB → Fr3 S D O b) :=
  ⟨fun b hb => ⟨by omega, by omega, fun ho => by have := hO b ho; omega⟩, fun b hb => ⟨by omega, by omega, fun ho => by have := hO b ho; omega⟩⟩
theorem arg_fr {S D RB : Nat} {O : Nat → Prop} {w : World} {P : Option Addr} {ts : List Int} (h : Reads .u64 w P ts) (hf : ∀ b, b < w.heap.size ∨ b = RB → Fr3 S D O b) : 0 < ts.length → ∀ a, P = some a → Fr3 S D O a.block := fun h0 a e => by
  obtain ⟨b, off, e2, hlt, _⟩ := h h0
  rw [e2] at e; cases e; exact hf b (.inl hlt)
theorem dp_fr {S D RB : Nat} {Dp : Nat → Prop} {w7 w10 : World} (hb : Below w7.heap.size w7 w10) (hz : RB < w10.heap.size ∧ S < RB ∧ D < RB) (hd : ∀ b, Dp b → w10.heap.size ≤ b) : ∀ b, Dp b → w7.heap.size ≤ b ∧ b ≠ S ∧ b ≠ D := fun b h => by
  have := hd b h; have := hb.size
  exact ⟨by omega, by omega, by omega⟩
theorem SP.fro {S D N X YB : Nat} {c : Cfg} {w7 wr : World} {O Dp : Nat → Prop} {T : Option Addr} {tn tc : Nat} {A : Option Addr} {n cap : Nat} {m mx : Pm} {L LR : List Int} {R : Option Addr} {cc t : Int} (h : SP S D N X YB c w7 wr O Dp T tn tc A n cap m mx L LR R cc t) (j : Nat) : wr.frozen? ⟨YB, j, none⟩ = false := frozen_of_row wr _ j _ _ h.ym.bx
theorem model0 : True := trivial

set_option maxHeartbeats 16000000 in
set_option maxRecDepth 100000 in
theorem walkSteps (c : Cfg) (kind : Int) (P : Option Addr) (tn capP : Nat) (ps : List Int) (p : Int) (Q : Option Addr) (un capQ : Nat) (us : List Int) (K : Option Addr) (kn capK : Nat) (ks : List Pok) (w : World)
    (hk : (Lit.int .u8 kind).wf = true) (hP : IsRow .u64 w P tn capP ps) (hp : (Lit.int .i64 p).wf = true) (hQ : IsRow .u64 w Q un capQ us) (hK : IsPoks w K kn capK ks) :
    Calls Tryz.prog 3 #[Lay.cfgV c, .int .u8 kind, .slice P tn capP, .int .i64 p, .slice Q un capQ, .slice K kn capK] w fun e w' => e = .returned (.bool true) ∧ Below w.heap.size w w' := by
  obtain ⟨rP, lP, h1, h2, _, wfP⟩ := reads_row hP
  obtain ⟨rQ, lQ, h3, h4, _, wfQ⟩ := reads_row hQ
  obtain ⟨rK, lK, h5, h6, wfK⟩ := hK
  obtain ⟨ts, hts⟩ : ∃ xs, xs = ps.take tn := ⟨_, rfl⟩
  obtain ⟨xs, hxs⟩ : ∃ xs, xs = us.take un := ⟨_, rfl⟩
  rw [← hts] at rP lP wfP
  rw [← hxs] at rQ lQ wfQ
  have hw0 : ∀ {l : List Int}, (∀ x ∈ l, (Lit.int .u64 x).wf = true) → ∀ z ∈ l, 0 ≤ z ∧ z ≤ 18446744073709551615 := fun h z hz => by
    have := h z hz
    simp [Lit.wf, IntKind.min, IntKind.max, IntKind.bits, IntKind.signed] at this; omega
  have HTW := Lib.hid (hw0 wfP)
  have HUW := Lib.hid (hw0 wfQ)
  obtain ⟨k0, k1⟩ : 0 ≤ kind ∧ kind ≤ 255 := by
    simp [Lit.wf, IntKind.min, IntKind.max, IntKind.bits, IntKind.signed] at hk; omega
  have HPR : Hid (-9223372036854775808 ≤ p ∧ p ≤ 9223372036854775807) := Lib.hid (by
    simp [Lit.wf, IntKind.min, IntKind.max, IntKind.bits, IntKind.signed] at hp; omega)
  have HPW := Lib.hid hp
  have hm1 : tn ≤ maxLen := by omega
  have hm2 : un ≤ maxLen := by omega
  have hm3 : kn ≤ maxLen := by omega
  have HB := Lib.hid (Bw.start w c)
  obtain ⟨q0, q1, q2, q3, q4, q5, q6, q7, q8, q9, q10, q11⟩ := (Bw.start w c).cfg
  have HRP := Lib.hid rP; have HLP := Lib.hid lP
  have HRQ := Lib.hid rQ; have HLQ := Lib.hid lQ
  have HRK := Lib.hid rK; have HLK := Lib.hid lK; have HWK := Lib.hid wfK
  have HC1 := Lib.hid h1; have HC2 := Lib.hid h2
  clear hP rP lP wfP hts hQ rQ lQ wfQ hxs rK lK wfK hp hk hw0
  by_cases hbig : 8 < tn ∨ 20 < un ∨ 20 < kn
  · have key : (decide ((tn : Int) > 8) = true) ∨ (decide ((tn : Int) > 8) = false ∧ decide ((un : Int) > 20) = true) ∨ (decide ((tn : Int) > 8) = false ∧ decide ((un : Int) > 20) = false ∧ decide ((kn : Int) > 20) = true) := by
      by_cases e1 : 8 < tn
      · exact .inl (by simp; omega)
      · by_cases e2 : 20 < un
        · exact .inr (.inl ⟨by simp; omega, by simp; omega⟩)
        · exact .inr (.inr ⟨by simp; omega, by simp; omega, by simp; omega⟩)
    rcases key with d0 | ⟨d0, d1⟩ | ⟨d0, d1, d2⟩
    all_goals
      go_enter Tryz.func3, Tryz.ntmps3
      go_wp2_with (first
        | (go_at_call 4; (with_reducible refine (awake_true _).mono ?_); rintro e w1 ⟨rfl, hb⟩; have HB := Lib.hid (HB.out.step hb); clear hb q0 q1 q2 q3 q4 q5 q6 q7 q8 q9 q10 q11; obtain ⟨q0, q1, q2, q3, q4, q5, q6, q7, q8, q9, q10, q11⟩ := HB.out.cfg)
        | (go_at_call 5; (with_reducible refine (small_any c _).mono ?_); rintro e w2 ⟨b, rfl, hs, hb⟩; have HB := Lib.hid (HB.out.step hb); clear hb; cases b)
        | fail)
      all_goals go_ret
      all_goals exact ⟨rfl, HB.out.fin⟩
  · have d0 : decide ((tn : Int) > 8) = false := by simp; omega
    have d1 : decide ((un : Int) > 20) = false := by simp; omega
    have d2 : decide ((kn : Int) > 20) = false := by simp; omega
    have htn8 : tn ≤ 8 := by omega
    have hun20 : un ≤ 20 := by omega
    have hkn20 : kn ≤ 20 := by omega
    clear hbig
    go_enter Tryz.func3, Tryz.ntmps3
    go_wp2_with (first
      | (go_at_call 4; (with_reducible refine (awake_true _).mono ?_); rintro e w1 ⟨rfl, hb⟩; have HB := Lib.hid (HB.out.step hb); clear hb q0 q1 q2 q3 q4 q5 q6 q7 q8 q9 q10 q11; obtain ⟨q0, q1, q2, q3, q4, q5, q6, q7, q8, q9, q10, q11⟩ := HB.out.cfg)
      | (go_at_call 5; (with_reducible refine (small_any c _).mono ?_); rintro e w2 ⟨b, rfl, hs, hb⟩; have HB := Lib.hid (HB.out.step hb); clear hb q0 q1 q2 q3 q4 q5 q6 q7 q8 q9 q10 q11; obtain ⟨q0, q1, q2, q3, q4, q5, q6, q7, q8, q9, q10, q11⟩ := HB.out.cfg; have HSS := Lib.hid hs; clear hs; cases b)
      | (go_at_call 6; (with_reducible refine (Lay.new_yes (HSS.out trivial).1 _).mono ?_); rintro e w3 ⟨N, rfl, hm, hb⟩; have HOK := Lib.hid (HSS.out trivial).1; have HM := Lib.hid hm; have HB := Lib.hid (HB.out.step hb); clear hb hm q0 q1 q2 q3 q4 q5 q6 q7 q8 q9 q10 q11; obtain ⟨q0, q1, q2, q3, q4, q5, q6, q7, q8, q9, q10, q11⟩ := HB.out.cfg)
      | (go_at_call 8; (with_reducible refine (Lay.model_any c _).mono ?_); rintro e w4 ⟨rfl, hb⟩; have HB := Lib.hid (HB.out.step hb); have HM := Lib.hid (HM.out.below hb); clear hb q0 q1 q2 q3 q4 q5 q6 q7 q8 q9 q10 q11)
      | (go_at_call 7; (with_reducible refine (rmap_any HOK.out _).mono ?_); rintro e w6 ⟨AA, an, ac, rfl, hia, hb⟩; have hb7 := below_alloc0 (Below.refl w6.heap.size w6) (.cells #[.slice AA an ac, .int .i64 (packN c)] 35); have HB7 := Lib.hid ((HB.out.step hb).step hb7); have HM := Lib.hid ((HM.out.below hb).below hb7); have HIA := Lib.hid (hia.below hb7); clear hb hia hb7)
      | (go_at_call 10; (with_reducible refine (first_any HOK.out N _ HM.out).mono ?_); rintro e w8 ⟨G, n, L, rfl, hn, hr, hrep, hb⟩; have HB8 := Lib.hid hb; have HM8 := Lib.hid (HM.out.below hb); have HN := Lib.hid hn; have HR := Lib.hid hr; have HRE := Lib.hid hrep; have HLE := Lib.hid (first_len HOK.out hrep); clear hb hn hr hrep)
      | (go_at_call 9; (with_reducible refine (new_any _ _ _ L _ HN.out HR.out (by have := HN.out; have := HLE.out; omega)).mono ?_); rintro e w9 hs; obtain ⟨S, D, rfl, hpo, hb⟩ := PO.start (B := (w6.alloc (.cells #[.slice AA an ac, .int .i64 (packN c)] 35)).heap.size) (w0 := (w6.alloc (.cells #[.slice AA an ac, .int .i64 (packN c)] 35))) HB8.out (Nat.le_refl _) HM8.out HOK.out (first_ww HOK.out HRE.out) hs; have HPO := Lib.hid hpo; clear hs hpo hb)
      | fail)
    · go_ret
      exact ⟨rfl, HB.out.fin⟩
    obtain ⟨w7, hw7⟩ : ∃ w7, w7 = (w6.alloc (.cells #[.slice AA an ac, .int .i64 (packN c)] 35)) := ⟨_, rfl⟩
    have HAB : Hid (∀ w', Below w7.heap.size w7 w' → w'.cell? ⟨w6.heap.size, 0, none⟩ = some (.slice AA an ac) ∧ w'.cell? ⟨w6.heap.size, 1, none⟩ = some (.int .i64 (packN c))) := Lib.hid (fun w' hb => by rw [hw7] at hb; exact abox (by simpa using hb))
    have hpo := HPO.out
    have hm := HM.out
    have hia := HIA.out
    have hb7 := HB7.out
    clear HPO HM HIA
    rw [← hw7] at hpo hm hia hb7
    have HPO := Lib.hid hpo; have HM := Lib.hid hm; have HIA := Lib.hid hia
    have HBW : Hid (∀ w', Below w7.heap.size w7 w' → Bw w c w') := Lib.hid (fun w' hb => hb7.step hb)
    have HS7 : Hid (w.heap.size + 1 ≤ w7.heap.size) := Lib.hid hb7.lt
    obtain ⟨AB, hAB⟩ : ∃ AB, AB = w6.heap.size := ⟨_, rfl⟩
    rw [← hAB] at HAB ⊢
    have HLEN := Lib.hid HLE.out
    have hpk := (Lay.bds HOK.out).p1
    have HPK := Lib.hid (And.intro (pkn_is HOK.out) hpk)
    clear hpo hm hia hb7 hw7 hAB HB7 HN HR HRE HLE HB8 HM8 HB HSS hpk
    go_loopw [19] (fun i wr => ∃ (j : Nat) (L : List Int), j ≤ un ∧ i = .int .i64 (j : Int) ∧ PO w7.heap.size S D N c w7 wr L (14 * (j : Int)) ∧ L.length ≤ 10000) (fun i _ => un - (intOf i).toNat)
    case atStart => exact ⟨0, L, Nat.zero_le _, rfl, by simpa using HPO.out, HLEN.out⟩
    case round =>
      clear HPO HLEN L
      obtain ⟨j, L, hj, rfl, hpo, hlen⟩ := hrel
      by_cases hlt : j < un
      · as_aux_lemma =>
          have hjx : j < xs.length := by have := HLQ.out; omega
          obtain ⟨b, off, rfl, hbl, hcl⟩ := HRQ.out (by omega)
          obtain ⟨x, hx⟩ : ∃ x, x = xs.getD j 0 := ⟨_, rfl⟩
          have hxm : x ∈ xs := by rw [hx, List.getD, List.getElem?_eq_getElem hjx]; exact List.getElem_mem hjx
          obtain ⟨x0, x1⟩ := HUW.out x hxm
          have z0 : wr.cell? ⟨b, off + j, none⟩ = some (.int .u64 x) := by rw [hx]; exact ((HBW.out _ hpo.bel).fin.cell (p := ⟨b, off + j, none⟩) hbl).trans (hcl j hjx)
          have hj0 : (0 : Int) ≤ (j : Int) := by omega
          have hj1 : (j : Int) < (un : Int) := by omega
          have HPA := Lib.hid (hpo.step (below_alloc0 (Below.refl _ _) (.cells #[.int .u64 x] 45)))
          have HLN := Lib.hid hlen
          have HLT := Lib.hid (hpo.lt)
          have HWZ : Hid (∀ z ∈ [x], 0 ≤ z ∧ z ≤ 18446744073709551615) := Lib.hid (by intro z hz; simp at hz; omega)
          clear hcl hx hxm hpo hlen
          go_wp2_with (first
            | (go_at_call 12; (with_reducible refine (put_pkE (E := fun _ => False) HOK.out N _ 1 1 [x] _ HPA.out.mp rfl (reads_one _ _ _ rfl) HWZ.out (by omega) (by decide)).mono ?_); rintro e w10 hn; obtain ⟨X, rfl, hx, hp6, hb6⟩ := PKX.of_new HPA.out hn (fun h => h) (fun h => h); have HP6 := Lib.hid hp6; have HX6 := Lib.hid hx; have HS6 := Lib.hid hb6.size; clear hn hx hp6 hb6)
            | (go_at_call 11; (with_reducible refine (whole_pk HP6.out HX6.out ⟨HPA.out.lt.1, HPA.out.lt.2.1, HPA.out.lt.2.2, Nat.le_trans HPA.out.lo.2.2 HPA.out.bel.size, HS6.out⟩ (pw_put c [x] HWZ.out) (by omega) (by omega)).mono ?_); rintro e w11 ⟨rfl, ho⟩; have HP7 := Lib.hid ho.po; clear ho)
            | fail)
          go_roundw
          case rel => exact ⟨j + 1, _, by omega, by go_num, HP7.out.more (by omega), by rw [pruns_len]; exact HLN.out⟩
          case measure => simp [intOf]; omega
      · obtain rfl : j = un := by omega
        obtain ⟨cc, cc0, cc1, hst⟩ := hpo.st
        have hcc : cc ≤ 1000 := by omega
        have HST := Lib.hid hst
        have HPO := Lib.hid hpo; have HLN := Lib.hid hlen
        obtain ⟨RB, hRB⟩ : ∃ RB, RB = wr.heap.size := ⟨_, rfl⟩
        have HRB := Lib.hid hRB
        obtain ⟨nL, hnL⟩ : ∃ nL, nL = L.length := ⟨_, rfl⟩
        have HNL := Lib.hid hnL
        obtain ⟨mP, hmP⟩ : ∃ mP, mP = pPut (gOf c) ts := ⟨_, rfl⟩
        have HMP := Lib.hid hmP
        have HPWP := Lib.hid (pw_put c ts HTW.out)
        obtain ⟨k3, hk3⟩ : ∃ k3 : Nat, kind % 3 = (k3 : Int) := ⟨(kind % 3).toNat, by omega⟩
        have hk33 : k3 < 3 := by omega
        clear hst hpo hlen hRB hnL hmP cc1
        go_upto_if 88 with (first
          | (go_at_call 13; (with_reducible refine (all_any wr HST.out (by have := HLN.out; omega)).mono ?_); rintro r w10 ⟨rfl, hr, hb⟩; rw [← HRB.out, ← HNL.out]; have hr10 := hr.reads; rw [← HRB.out] at hr10; have HR10 := Lib.hid hr10; have HB10 := Lib.hid (below_step HPO.out.bel HPO.out.bel.size hb); have HST10 := Lib.hid (HST.out.below hb); have HZ10 : Hid (RB < w10.heap.size ∧ S < RB ∧ D < RB) := Lib.hid ⟨by have := hr.lt; rw [HRB.out]; exact this, by have := HST.out.ltS; rw [HRB.out]; exact this, by have := HST.out.row.lt; rw [HRB.out]; exact this⟩; clear hr hb hr10)
          | (go_at_call 12; (with_reducible refine (put_pkE (E := fun _ => False) HOK.out N P tn capP ts _ (HM.out.below HB10.out) HLP.out.symm (HRP.out.below (HBW.out _ HB10.out).fin (Nat.le_refl _)) HTW.out (by omega) HC1.out).mono ?_); rintro e w12 ⟨X, O, Dp, rfl, hp, ho, hd, hb⟩; rw [← HMP.out] at hp; have HP12 := Lib.hid hp; have HB12 := Lib.hid (below_step HB10.out HB10.out.size hb); have HD12 : Hid (∀ b, Dp b → w10.heap.size ≤ b) := Lib.hid (fun b h => (hd b h).resolve_right (fun f => f)); have HF12 : Hid ((∀ b, w12.heap.size ≤ b → Fr3 S D O b) ∧ (∀ b, b < w.heap.size ∨ b = RB → Fr3 S D O b)) := Lib.hid (st_fr HPO.out.lo HZ10.out HS7.out hb.size (fun b h => ⟨HP12.out.ins.2.2 b (HP12.out.ins.2.1 b h), ho b h⟩)); have HST12 := Lib.hid (HST10.out.below hb); have HR12 := Lib.hid (HR10.out.below hb (Nat.le_refl _)); obtain ⟨ab0, ab1⟩ := HAB.out _ HB12.out; clear hp ho hd hb)
          | (go_at_call 14; (with_reducible refine (rpput_any HOK.out (Fr3 S D O) AA an ac P tn capP ts _ (HIA.out.below HB12.out) HLP.out.symm (HRP.out.below (HBW.out _ HB12.out).fin (Nat.le_refl _)) HC1.out HC2.out HF12.out.1 (arg_fr HRP.out HF12.out.2)).mono ?_); rintro e w14 ⟨v, rfl, hv, hb⟩; rw [← HMP.out] at hv; obtain ⟨T, tn', tc, A, n, cap, rfl, hr⟩ := hv.rows; have hsp := SP.begin (X := X) (tc := tc) (cap := cap) (HST12.out.below hb) cc0 (below_step HB12.out HB12.out.size hb) HM.out HOK.out ⟨HPO.out.lo.1, HPO.out.lo.2.1⟩ (HP12.out.keep hb.size (fun k hk => hb.block k (HP12.out.ins.2.2 k hk))) (dp_fr HB10.out HZ10.out HD12.out) hr (.of (HR12.out.below hb (Nat.le_refl _)) (fun _ a e => by cases e; exact HF12.out.2 RB (.inr rfl))) (by rw [HMP.out]; exact HPWP.out) HPO.out.ww; have HSP := Lib.hid hsp; clear hv hb hr hsp)
          | fail)
        obtain ⟨YB, hYB⟩ : ∃ YB, YB = w14.heap.size := ⟨_, rfl⟩
        have hsp := HSP.out
        clear HSP
        rw [← hYB] at hsp ⊢
        obtain ⟨wx0, hwx0⟩ : ∃ wx, wx = w14.alloc (.cells #[.int .i64 mP.kind, .int .i64 mP.pc, .slice T tn' tc, .int .i64 mP.j, .int .i64 mP.p, .int .i64 mP.x.kind, .int .i64 mP.x.pc, .int .i64 mP.x.k.head, .slice A n cap, .int .u32 mP.x.item, .int .u64 mP.x.h, .int .u32 mP.x.link, .int .i64 mP.x.tries] 53) := ⟨_, rfl⟩
        rw [← hwx0] at hsp ⊢
        have HSP0 := Lib.hid hsp
        clear hsp hwx0 hYB HP12 HD12 HF12 HST12 HR12 HB12 HST10 HB10 HZ10 HR10 HMP HPWP ab0 ab1
        go_cut [21] (fun s wx => ∃ (X : Nat) (O Dp : Nat → Prop) (T : Option Addr) (tn tc : Nat) (A : Option Addr) (n cap : Nat) (m : Pm), s = ptr X ∧ SP S D N X YB c w7 wx O Dp T tn tc A n cap m m L L (some ⟨RB, 0, none⟩) cc 0)
        case first =>
          skip
          · by_cases hk1 : k3 = 1
            · subst hk1
              obtain ⟨mT, hmT⟩ : ∃ mT, mT = pTake (gOf c) := ⟨_, rfl⟩
              have HMT := Lib.hid hmT
              have hpw : PW c 0 mT := by rw [hmT]; exact pw_take c
              have HPWT := Lib.hid hpw
              clear hmT hpw
              go_wp2_with (first
                | (go_at_call 15; (with_reducible refine (take_pk HOK.out N _ HSP0.out.mpw.1).mono ?_); rintro e w15 ⟨X', O', D', rfl, hp, ho, hd, hb⟩; rw [← HMT.out] at hp; have HSP1 := Lib.hid (HSP0.out.newM hb hp (fun b h => (hd b h).resolve_right (fun f => f)) HPWT.out); obtain ⟨ab0, ab1⟩ := HAB.out _ HSP1.out.bel; clear hp ho hd hb)
                | (go_at_call 16; (with_reducible refine (rptake_any HOK.out (Fr4 S D YB O') AA an ac _ (HIA.out.below HSP1.out.bel) HSP1.out.far).mono ?_); rintro e w16 ⟨v, rfl, hv, hb⟩; rw [← HMT.out] at hv; obtain ⟨T', tn2, tc2, A', n', cap', rfl, hr⟩ := hv.rows; have HSP2 := Lib.hid (HSP1.out.below hb); have HRW := Lib.hid hr; obtain ⟨r0, r1, r2, r3, r4, r5, r6, r7, r8, r9, r10, r11, r12⟩ := row13_cells HSP2.out.ym.bx; have hfr := HSP2.out.fro; clear hv hb hr)
                | fail)
              go_meet
              exact ⟨X', O', D', T', tn2, tc2, A', n', cap', mT, rfl, HSP2.out.putY (tc' := tc2) (cap' := cap') HRW.out HPWT.out⟩
            · have d3 : ((k3 : Int) == 1) = false := by simp; omega
              go_wp2_with (fail)
              go_meet
              exact ⟨X, O, Dp, T, tn', tc, A, n, cap, mP, rfl, HSP0.out⟩
        case rest =>
          clear HSP0
          obtain ⟨X, O, Dp, T, tn', tc, A, n, cap, mP, rfl, hsp⟩ := hcut
          have HSP0 := Lib.hid hsp
          clear hsp
          go_upto_if 95 with (fail)
          go_cut [21] (fun s wx => ∃ (X : Nat) (O Dp : Nat → Prop) (T : Option Addr) (tn tc : Nat) (A : Option Addr) (n cap : Nat) (m : Pm), s = ptr X ∧ SP S D N X YB c w7 wx O Dp T tn tc A n cap m m L L (some ⟨RB, 0, none⟩) cc 0)
          case first =>
            skip
            · by_cases hk1 : k3 = 2
              · subst hk1
                obtain ⟨mT, hmT⟩ : ∃ mT, mT = pBack (pkn c) (gOf c) p := ⟨_, rfl⟩
                have HMT := Lib.hid hmT
                have hpw : PW c 0 mT := by rw [hmT]; exact pw_back c _ p
                have HPWT := Lib.hid hpw
                clear hmT hpw
                go_wp2_with (first
                  | (go_at_call 17; (with_reducible refine (back_pk HOK.out N p _ HSP0.out.mpw.1 HPW.out).mono ?_); rintro e w15 ⟨X', O', D', rfl, hp, ho, hd, hb⟩; rw [← HMT.out] at hp; have HSP1 := Lib.hid (HSP0.out.newM hb hp (fun b h => (hd b h).resolve_right (fun f => f)) HPWT.out); obtain ⟨ab0, ab1⟩ := HAB.out _ HSP1.out.bel; clear hp ho hd hb)
                  | (go_at_call 18; (with_reducible refine (rpback_any HOK.out (Fr4 S D YB O') AA an ac p _ (HIA.out.below HSP1.out.bel) HPR.out HSP1.out.far).mono ?_); rintro e w16 ⟨v, rfl, hv, hb⟩; rw [← HMT.out] at hv; obtain ⟨T', tn2, tc2, A', n', cap', rfl, hr⟩ := hv.rows; have HSP2 := Lib.hid (HSP1.out.below hb); have HRW := Lib.hid hr; obtain ⟨r0, r1, r2, r3, r4, r5, r6, r7, r8, r9, r10, r11, r12⟩ := row13_cells HSP2.out.ym.bx; have hfr := HSP2.out.fro; clear hv hb hr)
                  | fail)
                go_meet
                exact ⟨X', O', D', T', tn2, tc2, A', n', cap', mT, rfl, HSP2.out.putY (tc' := tc2) (cap' := cap') HRW.out HPWT.out⟩
              · have d3 : ((k3 : Int) == 2) = false := by simp; omega
                go_wp2_with (fail)
                go_meet
                exact ⟨X, O, Dp, T, tn', tc, A, n, cap, mP, rfl, HSP0.out⟩
          case rest =>
            clear HSP0
            obtain ⟨X, O, Dp, T, tn', tc, A, n, cap, mP, rfl, hsp⟩ := hcut
            have HSP0 := Lib.hid hsp
            have HN2 : Hid (nL ≤ 10000) := Lib.hid (by rw [HNL.out]; exact HLN.out)
            clear hsp
            go_wp2_with (fail)
            go_loopw [20, 23] (fun v i wr => ∃ (k : Nat) (m : Pm) (O Dp : Nat → Prop) (T : Option Addr) (tn tc : Nat) (A : Option Addr) (n cap : Nat) (L : List Int) (R : Option Addr) (cR : Nat) (cc : Int), k ≤ kn + 16 ∧ i = .int .i64 (k : Int) ∧ v = .slice R nL cR ∧ nL = L.length ∧ cc ≤ 1000 + 2 * k ∧ SP S D N X YB c w7 wr O Dp T tn tc A n cap m m L L R cc k) (fun _ i _ => kn + 16 - (intOf i).toNat)
            case atStart => exact ⟨0, mP, O, Dp, T, tn', tc, A, n, cap, L, some ⟨RB, 0, none⟩, nL, cc, Nat.zero_le _, rfl, rfl, HNL.out, by omega, HSP0.out⟩
            case round =>
              clear HSP0 HNL HLN HPO HST
              obtain ⟨k, m, O, Dp, T, tn, tc, A, n, cap, L, R, cR, cc, hk, rfl, rfl, hl1, hc, hs⟩ := hrel
              have H1 := Lib.hid hs
              obtain ⟨x0, x1, x2, x3, x4, x5, x6, x7, x8, x9, x10, x11, x12⟩ := row13_cells hs.ym.bx
              obtain ⟨ab0, ab1⟩ := HAB.out _ hs.bel
              by_cases hlt : k < kn + 16
              · have e1 : decide ((k : Int) < (kn : Int) + 16) = true := by simp; omega
                obtain ⟨L2, m2, hz⟩ : ∃ L2 m2, pstp (gOf c) L m = (L2, m2) := ⟨_, _, rfl⟩
                have hc0 := hs.c0
                have hst := hs.stepM (by omega) (by omega)
                have hl2 := pstp_len (gOf c) L m
                rw [hz] at hst hl2
                dsimp only at hst hl2
                obtain ⟨c2, hc2⟩ : ∃ c2, c2 = pcost m cc := ⟨_, rfl⟩
                obtain ⟨b, hb⟩ : ∃ b, b = decide (m2.pc = 0) := ⟨_, rfl⟩
                rw [← hc2, ← hb] at hst
                have hc3 : c2 ≤ cc + 1 := by rw [hc2]; unfold pcost; split <;> omega
                have hpb : ((m2.pc : Int) == 0) = b := by rw [hb]; by_cases h : m2.pc = 0 <;> simp [h]
                have hcq : (c2 == cc + 1) = decide (0 < m.pc) := by
                  rw [hc2]; unfold pcost
                  by_cases h : m.pc = 0
                  · simp [h]; omega
                  · rw [if_neg h]; simp; omega
                obtain ⟨I, hI⟩ : ∃ I, I = pPacket m2 := ⟨_, rfl⟩
                have HI := Lib.hid hI.symm
                have HST := Lib.hid hst; have HZZ := Lib.hid hz; have HC := Lib.hid hc; have HC3 := Lib.hid hc3
                have HL1 := Lib.hid hl1; have HL2 : Hid (nL = L2.length) := Lib.hid (by omega)
                have HKK := Lib.hid hk; have hk9 : (k : Int) ≤ 1000000 := by omega
                have ew : IntKind.i64.wrap (cc + 1) = cc + 1 := IntWalk.i64_in _ (by omega)
                clear hs hst hz hc hc2 hc3 hb hI hl1 hl2 hk hc0
                go_wp2_with (first
                  | (go_at_call 19; (with_reducible refine (SP.count H1.out).mono ?_); rintro r w8 ⟨rfl, hw⟩; cases hw)
                  | (go_at_call 20; (with_reducible refine HST.out.mono ?_); rintro r w8 ⟨rfl, O', D', h⟩; have HS1 := Lib.hid h; obtain ⟨y0, y1, y2, y3, y4, y5, y6, y7, y8, y9, y10, y11, y12⟩ := row13_cells h.ym.bx; obtain ⟨ab0, ab1⟩ := HAB.out _ h.bel; clear h)
                  | (go_at_call 21; (with_reducible refine (rpstep_any HOK.out (t := (k : Int) + 1) (Fr4 S D YB O') AA an ac R nL cR L m _ _ (HIA.out.below HS1.out.bel) HL1.out (Nat.le_trans HN2.out (by decide)) HS1.out.rd.toW HS1.out.far HS1.out.val HS1.out.pwx HS1.out.wwx (by omega)).mono ?_); rintro r w9 ⟨R2, cR2, v, rfl, hrd, hv, hb⟩; rw [HZZ.out] at hrd hv; dsimp only at hrd hv; obtain ⟨T2, tn2, tc2, A2, n2, cap2, rfl, hr⟩ := hv.rows; have HS2 := Lib.hid (HS1.out.newR hb hrd HS1.out.ww); have HS3 := Lib.hid (HS2.out.below (below_alloc0 (Below.refl _ _) (.cells #[.int .i64 m2.kind, .int .i64 m2.pc, .slice T2 tn2 tc2, .int .i64 m2.j, .int .i64 m2.p, .int .i64 m2.x.kind, .int .i64 m2.x.pc, .int .i64 m2.x.k.head, .slice A2 n2 cap2, .int .u32 m2.x.item, .int .u64 m2.x.h, .int .u32 m2.x.link, .int .i64 m2.x.tries] 53))); have HRW := Lib.hid (hr.below (below_alloc0 (Below.refl _ _) (.cells #[.int .i64 m2.kind, .int .i64 m2.pc, .slice T2 tn2 tc2, .int .i64 m2.j, .int .i64 m2.p, .int .i64 m2.x.kind, .int .i64 m2.x.pc, .int .i64 m2.x.k.head, .slice A2 n2 cap2, .int .u32 m2.x.item, .int .u64 m2.x.h, .int .u32 m2.x.link, .int .i64 m2.x.tries] 53))); obtain ⟨v0, v1, v2, v3, v4, v5, v6, v7, v8, v9, v10, v11, v12⟩ := row13_cells HS3.out.ym.bx; have hfx := HS3.out.fro; clear hrd hv hb hr)
                  | fail)
                obtain ⟨W4, hW4⟩ : ∃ W4, W4 = (put13 (w9.alloc (.cells #[.int .i64 m2.kind, .int .i64 m2.pc, .slice T2 tn2 tc2, .int .i64 m2.j, .int .i64 m2.p, .int .i64 m2.x.kind, .int .i64 m2.x.pc, .int .i64 m2.x.k.head, .slice A2 n2 cap2, .int .u32 m2.x.item, .int .u64 m2.x.h, .int .u32 m2.x.link, .int .i64 m2.x.tries] 53)) YB (.int .i64 m2.kind) (.int .i64 m2.pc) (.slice T2 tn2 tc2) (.int .i64 m2.j) (.int .i64 m2.p) (.int .i64 m2.x.kind) (.int .i64 m2.x.pc) (.int .i64 m2.x.k.head) (.slice A2 n2 cap2) (.int .u32 m2.x.item) (.int .u64 m2.x.h) (.int .u32 m2.x.link) (.int .i64 m2.x.tries)) := ⟨_, rfl⟩
                have hs4 : SP S D N X YB c w7 W4 O' D' T2 tn2 tc2 A2 n2 cap2 m2 m2 L2 L2 R2 c2 ((k : Int) + 1) := by rw [hW4]; exact HS3.out.putY (tc' := tc2) (cap' := cap2) HRW.out HS3.out.pw
                unfold put13 at hW4
                rw [← hW4]
                have HS5 := Lib.hid (hs4.below (Below.refl _ _).drew)
                clear x0 x1 x2 x3 x4 x5 x6 x7 x8 x9 x10 x11 x12 y0 y1 y2 y3 y4 y5 y6 y7 y8 y9 y10 y11 y12 v0 v1 v2 v3 v4 v5 v6 v7 v8 v9 v10 v11 v12 hfx hW4 ab0 ab1 HRW HS2 HS3 HST HZZ H1
                obtain ⟨v0, v1, v2, v3, v4, v5, v6, v7, v8, v9, v10, v11, v12⟩ := row13_cells hs4.ym.bx
                clear hs4
                have HLn : Hid (L2.length ≤ 1000000) := Lib.hid (by have := HL2.out; have := HN2.out; omega)
                go_region_held3 (fun w' => w'.cell? ⟨YB, 0, none⟩ = some (.int .i64 m2.kind) ∧ w'.cell? ⟨YB, 1, none⟩ = some (.int .i64 m2.pc) ∧ w'.cell? ⟨YB, 2, none⟩ = some (.slice T2 tn2 tc2) ∧ w'.cell? ⟨YB, 3, none⟩ = some (.int .i64 m2.j) ∧ w'.cell? ⟨YB, 4, none⟩ = some (.int .i64 m2.p) ∧ w'.cell? ⟨YB, 5, none⟩ = some (.int .i64 m2.x.kind) ∧ w'.cell? ⟨YB, 6, none⟩ = some (.int .i64 m2.x.pc) ∧ w'.cell? ⟨YB, 7, none⟩ = some (.int .i64 m2.x.k.head) ∧ w'.cell? ⟨YB, 8, none⟩ = some (.slice A2 n2 cap2) ∧ w'.cell? ⟨YB, 9, none⟩ = some (.int .u32 m2.x.item) ∧ w'.cell? ⟨YB, 10, none⟩ = some (.int .u64 m2.x.h) ∧ w'.cell? ⟨YB, 11, none⟩ = some (.int .u32 m2.x.link) ∧ w'.cell? ⟨YB, 12, none⟩ = some (.int .i64 m2.x.tries))
                  (first | (with_reducible exact row13_cells HS8.out.ym.bx) | (with_reducible exact row13_cells HS7.out.ym.bx) | (with_reducible exact row13_cells HS6.out.ym.bx) | (with_reducible exact row13_cells HS5.out.ym.bx) | fail)
                  (first
                    | (go_at_call 22; (with_reducible refine (SP.packet HS5.out).mono ?_); rintro r w10 ⟨rfl, hw⟩; cases hw; rw [HI.out])
                    | (go_at_call 23; (with_reducible refine (rppacket_any _ HS5.out.val).mono ?_); rintro r w10 ⟨rfl, hb⟩; rw [HI.out]; have HS6 := Lib.hid (HS5.out.below hb); clear hb)
                    | (go_at_call 13; (with_reducible refine (SP.all HS6.out HLn.out).mono ?_); rintro r w12 ⟨rfl, hr, h⟩; have HS7 := Lib.hid h; have HRA := Lib.hid hr; clear h hr)
                    | (go_at_call 24; (with_reducible refine (same_len _ _ _ _ nL L2 _ HL2.out HRA.out HS7.out.rd.reads HLn.out).mono ?_); rintro r w13 ⟨rfl, hb⟩; have HS8 := Lib.hid (HS7.out.below hb); clear hb)
                    | (go_at_call 19; (with_reducible refine (SP.count HS8.out).mono ?_); rintro r w14 ⟨rfl, hw⟩; cases hw)
                    | fail)
                clear ew v0 v1 v2 v3 v4 v5 v6 v7 v8 v9 v10 v11 v12 HS5 HS6 HS7 HRA
                by_cases hp : k < kn
                · obtain ⟨bp, offp, rfl, hbl, hcp⟩ := HRK.out (by have := HLK.out; omega)
                  have hcj := hcp k (by have := HLK.out; omega)
                  obtain ⟨g, hg⟩ : ∃ g, g = atP ks k := ⟨_, rfl⟩
                  rw [← hg] at hcj
                  have hgv : 0 ≤ g.v ∧ g.v ≤ 18446744073709551615 := by
                    have hl := HLK.out
                    have := HWK.out (atP ks k) (by unfold atP; rw [List.getD, List.getElem?_eq_getElem (by omega)]; exact List.getElem_mem (by omega))
                    rw [hg]; exact this
                  have hpc : ∀ w', Below w7.heap.size w7 w' → (w'.cell? ⟨bp, offp + k * 2, none⟩ = some (.int .i64 g.p) ∧ w'.cell? ⟨bp, offp + k * 2 + 1, none⟩ = some (.int .u64 g.v)) := fun w' hb =>
                    ⟨((HBW.out _ hb).fin.cell (p := ⟨bp, offp + k * 2, none⟩) hbl).trans hcj.1, ((HBW.out _ hb).fin.cell (p := ⟨bp, offp + k * 2 + 1, none⟩) hbl).trans hcj.2⟩
                  have HPC := Lib.hid hpc; have HGV := Lib.hid hgv
                  have hp0 : (k : Int) < (kn : Int) := by omega
                  have hk0 : (0 : Int) ≤ (k : Int) := by omega
                  obtain ⟨p0, p1⟩ := hpc _ HS8.out.bel
                  have hcc : c2 ≤ 900000000 := by have := HC3.out; have := HC.out; omega
                  clear hcp hcj hg hgv hpc hp
                  go_upto_if 164 with (fail)
                  go_cut [29] (fun s wx => ∃ q : Int, s = .int .i64 q ∧ wx = w13)
                  case first =>
                    skip
                    · by_cases hat : g.p > 5
                      · have d5 : decide (g.p > 5) = true := by simpa using hat
                        go_wp2_with (fail)
                        go_meet
                        exact ⟨_, rfl, rfl⟩
                      · have d5 : decide (g.p > 5) = false := by simpa using hat
                        go_wp2_with (fail)
                        go_meet
                        exact ⟨_, rfl, rfl⟩
                  case rest =>
                    obtain ⟨q, rfl, hwx⟩ := hcut
                    subst hwx
                    go_wp2_with (first
                      | (go_at_call 25; (with_reducible refine (SP.poke HS8.out q g.v HGV.out hcc).mono ?_); rintro r w15 ⟨rfl, h⟩; have HS9 := Lib.hid h; obtain ⟨p2, p3⟩ := HPC.out _ h.bel; clear h)
                      | (go_at_call 26; (with_reducible refine (rput_any (Fr4 S D YB O') R2 nL cR2 L2 q g.v _ HL2.out (Nat.le_trans HN2.out (by decide)) HS9.out.rd.toW HS9.out.far).mono ?_); rintro r w16 ⟨R3, cR3, rfl, hx, hb⟩; rw [ptv_eq] at hx; have HS10 := Lib.hid (HS9.out.newR hb hx HS9.out.ww); clear hx hb)
                      | fail)
                    go_roundw
                    case rel =>
                      have hkk := HKK.out; have hc := HC.out; have hc3 := HC3.out; have hl2 := HL2.out
                      have q1 : k + 1 ≤ kn + 16 := by omega
                      have q2 : c2 + 1 ≤ 1000 + 2 * ((k + 1 : Nat) : Int) := by omega
                      have q4 : nL = (ptq L2 q g.v).length := by rw [pt_len]; exact hl2
                      have q3 : SP S D N X YB c w7 w16 O' D' T2 tn2 tc2 A2 n2 cap2 m2 m2 (ptq L2 q g.v) (ptq L2 q g.v) R3 (c2 + 1) ((k + 1 : Nat) : Int) := HS10.out
                      exact ⟨k + 1, m2, O', D', T2, tn2, tc2, A2, n2, cap2, ptq L2 q g.v, R3, cR3, c2 + 1, q1, by go_num, rfl, q4, q2, q3⟩
                    case measure => simp [intOf]; omega
                · have hp0 : ¬ (k : Int) < (kn : Int) := by omega
                  clear hp
                  go_wp2_with (fail)
                  go_roundw
                  case rel =>
                    have hkk := HKK.out; have hc := HC.out; have hc3 := HC3.out
                    have q1 : k + 1 ≤ kn + 16 := by omega
                    have q2 : c2 ≤ 1000 + 2 * ((k + 1 : Nat) : Int) := by omega
                    have q3 : SP S D N X YB c w7 w13 O' D' T2 tn2 tc2 A2 n2 cap2 m2 m2 L2 L2 R2 c2 ((k + 1 : Nat) : Int) := HS8.out
                    exact ⟨k + 1, m2, O', D', T2, tn2, tc2, A2, n2, cap2, L2, R2, cR2, c2, q1, by go_num, rfl, HL2.out, q2, q3⟩
                  case measure => simp [intOf]; omega
              · obtain rfl : k = kn + 16 := by omega
                have e1 : decide (((kn + 16 : Nat) : Int) < (kn : Int) + 16) = false := by simp
                clear x0 x1 x2 x3 x4 x5 x6 x7 x8 x9 x10 x11 x12 hs hlt hl1 hc hk
                go_wp2_with (fail)
                go_ret
                exact ⟨rfl, (HBW.out _ H1.out.bel).fin⟩
end Go.Proofs.YtbpfkhpnfkbacaaGreat