
import Derived.Test.YtpocihddecemfaaGreatJ28
import Derived.Test.YtpocihddecemfaaGreatJ14
import Derived.IntWalk
namespace Go.Proofs.YtpocihddecemfaaGreat
open Go.RowKit
set_option linter.unusedVariables false
set_option linter.unusedSimpArgs false
set_option maxRecDepth 100000
open Lay (plcc plc shOf packN nodesN OkC Cfg Norm firstV Rep lenL things)
theorem same_lenA (A A' : Option Addr) (cap cap' m : Nat) (l : List Int) (w : World) (hm : m = l.length) (h : Reads .u64 w A l) (h' : Reads .u64 w A' l) (hb : l.length ≤ 1000000) :
    Calls Tryz.prog 20 #[.slice A l.length cap, .slice A' m cap'] w fun e w' => e = .returned (.bool true) ∧ Below w.heap.size w w' := same_yes A A' cap cap' _ m l w rfl hm h h' hb
theorem aboxA {w6 : World} {A : Option Addr} {n cap : Nat} {P : Int} {w' : World} (hb : Below (w6.heap.size + 1) (w6.alloc (.cells #[.slice A n cap, .int .i64 P] 36)) w') :
    w'.cell? ⟨w6.heap.size, 0, none⟩ = some (.slice A n cap) ∧ w'.cell? ⟨w6.heap.size, 1, none⟩ = some (.int .i64 P) := by
  have h : (w6.alloc (.cells #[.slice A n cap, .int .i64 P] 36)).heap[w6.heap.size]? = some (.cells #[.slice A n cap, .int .i64 P] 36 (0, 0)) := Array.getElem?_push_size
  have h2 := (hb.block _ (by omega)).trans h
  constructor <;> simp [World.cell?, h2]
def FrB (P : Nat → Prop) (LB b : Nat) : Prop := P b ∧ b ≠ LB
def ZG (S D N X YB : Nat) (c : Cfg) (i : Int) (w7 : World) (O Dp : Nat → Prop) (V : Array Value) (m mx : Zm) (L L2 : List Int) (cc t : Int) (m2 : Zm) (nL : Nat) (s26 s27 : Value) (wx : World) : Prop :=
  ∃ (R2 : Option Addr) (cR2 : Nat) (V2 : Array Value) (Y2 : Nat), s26 = .slice R2 nL cR2 ∧ s27 = .pointer (some ⟨Y2, 0, none⟩) ∧ ZP S D N X YB c i w7 wx O Dp V m mx L L2 R2 cc t ∧ wx.heap[Y2]? = some (.cells V2 64 (0, 0)) ∧ ZV (Frx S D YB O) wx c i m2 V2
section
variable {S D N X YB : Nat} {c : Cfg} {i : Int} {w7 wr w13 : World} {O Dp : Nat → Prop} {V V2 : Array Value} {m mx m2 : Zm} {L LR L2 : List Int} {R R2 : Option Addr} {cc t : Int} {nL cR2 LB : Nat}
theorem ZP.inB (h : ZP S D N X YB c i w7 wr O Dp V m mx L LR R cc t) (hl : wr.heap.size ≤ LB) : ReadsW (FrB (Frx S D YB O) LB) wr R LR ∧ ZV (FrB (Frx S D YB O) LB) wr c i mx V :=
  ⟨row_uf2 h.rd (UF.refl (fun _ => False) _) (fun b hb hlt => ⟨fun f => f, hb, by omega⟩), h.ym.v.uf (UF.refl (fun _ => False) _) (fun b hb hlt => ⟨fun f => f, hb, by omega⟩)⟩
theorem ZP.farB (h : ZP S D N X YB c i w7 wr O Dp V m mx L LR R cc t) (hl : LB < wr.heap.size) : ∀ b, wr.heap.size ≤ b → FrB (Frx S D YB O) LB b := fun b hb => ⟨h.far b hb, by omega⟩
theorem zg_a (h : ZP S D N X YB c i w7 w13 O Dp V m mx L LR R cc t) (hr : ReadsW (Frx S D YB O) w13 R2 L2) (hv : ZV (Frx S D YB O) w13 c i m2 V2) (ww : WW L2) :
    ZG S D N X YB c i w7 O Dp V m mx L L2 cc t m2 nL (.slice R2 nL cR2) (.pointer (some ⟨w13.heap.size, 0, none⟩)) (new45w w13 V2) :=
  ⟨R2, cR2, V2, _, rfl, rfl, h.newR (new45_below hv.ok) (hr.below (new45_below hv.ok)) ww, new45_row hv.ok, hv.below (new45_below hv.ok)⟩
theorem zg_b (h : ZP S D N X YB c i w7 wr O Dp V m mx L LR R cc t) (hb : Below wr.heap.size wr w13) (hl : wr.heap.size ≤ LB) (hi : Is45 w13 LB) (hr : ReadsW (FrB (Frx S D YB O) LB) w13 R2 L2) (hv : ZV (FrB (Frx S D YB O) LB) w13 c i m2 V2) (ww : WW L2) :
    ZG S D N X YB c i w7 O Dp V m mx L L2 cc t m2 nL (.slice R2 nL cR2) (.pointer (some ⟨LB, 0, none⟩)) (set45w w13 LB V2) := by
  obtain ⟨g, u⟩ := set45_upd hi hv.ok
  have u' := UF.of_upd u
  have fr : ∀ b, FrB (Frx S D YB O) LB b → b < w13.heap.size → ¬ (b = LB ∨ b = LB) ∧ Frx S D YB O b := fun b hb2 _ => ⟨fun e => by rcases e with e | e <;> exact hb2.2 e, hb2.1⟩
  exact ⟨R2, cR2, V2, LB, rfl, rfl, h.newR (set45_below hb (Nat.le_refl _) hl hi hv.ok) (row_uf2 hr u' fr) ww, g, hv.uf u' fr⟩
end
def blkV : Value → Nat
  | .pointer (some a) => a.block
  | _ => 0
def Is45p (v : Value) (w : World) : Prop := v = .pointer (some ⟨blkV v, 0, none⟩) ∧ Is45 w (blkV v)
@[go_sem] theorem blkV_ptr (a : Addr) : blkV (.pointer (some a)) = a.block := rfl
@[go_sem] theorem is45p_ptr (B : Nat) (w : World) : Is45p (.pointer (some ⟨B, 0, none⟩)) w ↔ Is45 w B := ⟨fun h => h.2, fun h => ⟨rfl, h⟩⟩
@[go_sem ↓ high] theorem sem_execload45 {ev : Operand → Value} {dst : Option Tmp} {x : Operand} {ty : TypeId} {pos : String} {after : Array Edge} {g : Option (Nat × Bool)} {w : World} (h : Is45p (ev x) w) :
    (execOp ev { dst := dst, op := .load 64 x, type := ty, pos := pos, after := after, guard := g }).run Tryz.prog w = .ok (.value (.agg (row45 w (blkV (ev x))))) w := by
  obtain ⟨h1, V, hb, h2, h3⟩ := h
  have e : row45 w (blkV (ev x)) = V := by unfold row45; rw [hb]
  rw [e]
  generalize blkV (ev x) = B at h1 hb
  unfold execOp
  simp only [h1, Instr.loadAt, Instr.sureAddr, Sem.run_bind, Sem.run_pure, Result.andThen_ok, loadZ hb h2]
set_option maxHeartbeats 32000000 in
theorem walkSteps (c : Cfg) (i t cy : Int) (F : Option Addr) (fn fc : Nat) (zf : List Int) (K : Option Addr) (kn capK : Nat) (ks : List Pok) (w : World) (hi : (Lit.int .i64 i).wf = true) (ht : (Lit.int .u64 t).wf = true) (hcy : (Lit.int .u64 cy).wf = true) (hF : IsRow .u64 w F fn fc zf) (hK : IsPoks w K kn capK ks) :
    Calls Tryz.prog 3 #[Lay.cfgV c, .int .i64 i, .int .u64 t, .int .u64 cy, .slice F fn fc, .slice K kn capK] w fun e w' => e = .returned (.bool true) ∧ Below w.heap.size w w' := by
  obtain ⟨rK, lK, h5, h6, wfK⟩ := hK
  have HT : Hid (0 ≤ t ∧ t ≤ 18446744073709551615) := Lib.hid (by
    simp [Lit.wf, IntKind.min, IntKind.max, IntKind.bits, IntKind.signed] at ht; omega)
  have HCY : Hid (0 ≤ cy ∧ cy ≤ 18446744073709551615) := Lib.hid (by
    simp [Lit.wf, IntKind.min, IntKind.max, IntKind.bits, IntKind.signed] at hcy; omega)
  obtain ⟨fs, hfn, hfr, hfx, hfm⟩ := row_words hF
  have HFN := Lib.hid hfn; have HFR := Lib.hid hfr; have HFX := Lib.hid hfx
  have hm3 : kn ≤ maxLen := by omega
  have HB := Lib.hid (Bw.start w c)
  obtain ⟨q0, q1, q2, q3, q4, q5, q6, q7, q8, q9, q10, q11⟩ := (Bw.start w c).cfg
  have HRK := Lib.hid rK; have HLK := Lib.hid lK; have HWK := Lib.hid wfK
  clear rK lK wfK hi ht hcy hF hfn hfr hfx
  by_cases hb1 : 30 < kn
  · have d1 : decide ((kn : Int) > 30) = true := by simp; omega
    clear hb1
    go_enter Tryz.func3, Tryz.ntmps3
    go_wp2_with (first
      | (go_at_call 7; (with_reducible refine (awake_true _).mono ?_); rintro e w1 ⟨rfl, hb⟩; have HB := Lib.hid (HB.out.step hb); clear hb q0 q1 q2 q3 q4 q5 q6 q7 q8 q9 q10 q11; obtain ⟨q0, q1, q2, q3, q4, q5, q6, q7, q8, q9, q10, q11⟩ := HB.out.cfg)
      | (go_at_call 8; (with_reducible refine (small_any c _).mono ?_); rintro e w2 ⟨b, rfl, hs, hb⟩; have HB := Lib.hid (HB.out.step hb); clear hb; cases b)
      | fail)
    all_goals go_ret
    all_goals exact ⟨rfl, HB.out.fin⟩
  have d1 : decide ((kn : Int) > 30) = false := by simp; omega
  have hkn : kn ≤ 30 := by omega
  by_cases hb2 : 40 < fn
  · have d2 : decide ((fn : Int) > 40) = true := by simp; omega
    clear hb1 hb2
    go_enter Tryz.func3, Tryz.ntmps3
    go_wp2_with (first
      | (go_at_call 7; (with_reducible refine (awake_true _).mono ?_); rintro e w1 ⟨rfl, hb⟩; have HB := Lib.hid (HB.out.step hb); clear hb q0 q1 q2 q3 q4 q5 q6 q7 q8 q9 q10 q11; obtain ⟨q0, q1, q2, q3, q4, q5, q6, q7, q8, q9, q10, q11⟩ := HB.out.cfg)
      | (go_at_call 8; (with_reducible refine (small_any c _).mono ?_); rintro e w2 ⟨b, rfl, hs, hb⟩; have HB := Lib.hid (HB.out.step hb); clear hb; cases b)
      | fail)
    all_goals go_ret
    all_goals exact ⟨rfl, HB.out.fin⟩
  have d2 : decide ((fn : Int) > 40) = false := by simp; omega
  have hf40 : fn ≤ 40 := by omega
  by_cases hb3 : i < 0
  · have d3 : decide (i < 0) = true := by simpa using hb3
    clear hb1 hb2 hb3
    go_enter Tryz.func3, Tryz.ntmps3
    go_wp2_with (first
      | (go_at_call 7; (with_reducible refine (awake_true _).mono ?_); rintro e w1 ⟨rfl, hb⟩; have HB := Lib.hid (HB.out.step hb); clear hb q0 q1 q2 q3 q4 q5 q6 q7 q8 q9 q10 q11; obtain ⟨q0, q1, q2, q3, q4, q5, q6, q7, q8, q9, q10, q11⟩ := HB.out.cfg)
      | (go_at_call 8; (with_reducible refine (small_any c _).mono ?_); rintro e w2 ⟨b, rfl, hs, hb⟩; have HB := Lib.hid (HB.out.step hb); clear hb; cases b)
      | fail)
    all_goals go_ret
    all_goals exact ⟨rfl, HB.out.fin⟩
  have d3 : decide (i < 0) = false := by simpa using hb3
  by_cases hb4 : c.mr ≤ i
  · have d4 : decide (i ≥ c.mr) = true := by simpa using hb4
    clear hb1 hb2 hb3 hb4
    go_enter Tryz.func3, Tryz.ntmps3
    go_wp2_with (first
      | (go_at_call 7; (with_reducible refine (awake_true _).mono ?_); rintro e w1 ⟨rfl, hb⟩; have HB := Lib.hid (HB.out.step hb); clear hb q0 q1 q2 q3 q4 q5 q6 q7 q8 q9 q10 q11; obtain ⟨q0, q1, q2, q3, q4, q5, q6, q7, q8, q9, q10, q11⟩ := HB.out.cfg)
      | (go_at_call 8; (with_reducible refine (small_any c _).mono ?_); rintro e w2 ⟨b, rfl, hs, hb⟩; have HB := Lib.hid (HB.out.step hb); clear hb q0 q1 q2 q3 q4 q5 q6 q7 q8 q9 q10 q11; obtain ⟨q0, q1, q2, q3, q4, q5, q6, q7, q8, q9, q10, q11⟩ := HB.out.cfg; cases b)
      | fail)
    all_goals go_ret
    all_goals exact ⟨rfl, HB.out.fin⟩
  have d4 : decide (i ≥ c.mr) = false := by simpa using hb4
  have HII := Lib.hid (show 0 ≤ i ∧ i < c.mr by omega)
  clear hb1 hb2 hb3 hb4
  go_enter Tryz.func3, Tryz.ntmps3
  go_upto_region 13 with (first
    | (go_at_call 7; (with_reducible refine (awake_true _).mono ?_); rintro e w1 ⟨rfl, hb⟩; have HB := Lib.hid (HB.out.step hb); clear hb q0 q1 q2 q3 q4 q5 q6 q7 q8 q9 q10 q11; obtain ⟨q0, q1, q2, q3, q4, q5, q6, q7, q8, q9, q10, q11⟩ := HB.out.cfg)
    | (go_at_call 8; (with_reducible refine (small_any c _).mono ?_); rintro e w2 ⟨b, rfl, hs, hb⟩; have HB := Lib.hid (HB.out.step hb); clear hb q0 q1 q2 q3 q4 q5 q6 q7 q8 q9 q10 q11; obtain ⟨q0, q1, q2, q3, q4, q5, q6, q7, q8, q9, q10, q11⟩ := HB.out.cfg; have HSS := Lib.hid hs; clear hs; cases b)
    | (go_at_call 9; (with_reducible refine (Lay.new_yes (HSS.out trivial).1 _).mono ?_); rintro e w3 ⟨N, rfl, hm, hb⟩; have HOK := Lib.hid (HSS.out trivial).1; have HM := Lib.hid hm; have HB := Lib.hid (HB.out.step hb); clear hb hm q0 q1 q2 q3 q4 q5 q6 q7 q8 q9 q10 q11; obtain ⟨q0, q1, q2, q3, q4, q5, q6, q7, q8, q9, q10, q11⟩ := HB.out.cfg)
    | (go_at_call 11; (with_reducible refine (Lay.model_any c _).mono ?_); rintro e w4 ⟨rfl, hb⟩; have HB := Lib.hid (HB.out.step hb); have HM := Lib.hid (HM.out.below hb); clear hb q0 q1 q2 q3 q4 q5 q6 q7 q8 q9 q10 q11)
    | (go_at_call 10; (with_reducible refine (rmap_any HOK.out _).mono ?_); rintro e w6 ⟨AA, an, ac, rfl, hia, hb⟩; have hb7 := below_alloc0 (Below.refl w6.heap.size w6) (.cells #[.slice AA an ac, .int .i64 (packN c)] 36); have HB7 := Lib.hid ((HB.out.step hb).step hb7); have HM := Lib.hid ((HM.out.below hb).below hb7); have HIA := Lib.hid (hia.below hb7); clear hb hia hb7)
    | (go_at_call 12; (with_reducible refine (filled_any HOK.out N F fn fc fs _ HM.out HFN.out (HB7.out.reads HFR.out) HFX.out (by omega)).mono ?_); rintro e w8 ⟨S, D, L0, L, rfl, hrep, hfl, hpo, hb⟩; have HLEN := Lib.hid (hfl.len.trans hrep.1); have HPO := Lib.hid hpo; clear hrep hfl hpo hb)
    | (go_at_call 13; (with_reducible refine (all_po HPO.out (by rw [HLEN.out]; have := len_7000 HOK.out; omega)).mono ?_); rintro e w10 ⟨rfl, hr, hp, hb⟩; have HROW := Lib.hid hr; have HP10 := Lib.hid hp; have HB10 := Lib.hid hb; clear hr hp hb)
    | (go_at_call 14; (with_reducible refine (new_zy HP10.out i t cy HT.out.1 HT.out.2 ⟨0, plcc c 16 0 0, 0, 0, false⟩ am0).mono ?_); rintro e w11 ⟨X, rfl, hzk, hp, hb⟩; have HZK := Lib.hid hzk; have HP11 := Lib.hid hp; have HB11 := Lib.hid hb; clear hzk hp hb)
    | (go_at_call 15; (with_reducible refine (rznew_any (fun _ => False) c i t cy HT.out.1 HT.out.2 _).mono ?_); rintro e w12 ⟨V, rfl, hzv, hb⟩; have HZV := Lib.hid hzv; have HB12 := Lib.hid hb; have hok := hzv.ok; have hsz := hzv.size; clear hzv hb)
    | fail)
  · go_ret
    exact ⟨rfl, HB.out.fin⟩
  have hm12 := HM.out
  obtain ⟨w7, hw7⟩ : ∃ w7, w7 = (w6.alloc (.cells #[.slice AA an ac, .int .i64 (packN c)] 36)) := ⟨_, rfl⟩
  have HAB : Hid (∀ w', Below w7.heap.size w7 w' → w'.cell? ⟨w6.heap.size, 0, none⟩ = some (.slice AA an ac) ∧ w'.cell? ⟨w6.heap.size, 1, none⟩ = some (.int .i64 (packN c))) := Lib.hid (fun w' hb => by rw [hw7] at hb; exact aboxA (by simpa using hb))
  have hia := HIA.out
  have hb7 := HB7.out
  have hp11 := HP11.out
  have hp10 := HP10.out
  have hpo := HPO.out
  rw [← hw7] at hm12 hp11 hp10 hpo hia hb7
  have hbw : ∀ w', Below w7.heap.size w7 w' → Bw w c w' := fun w' hb => hb7.step hb
  have hzp : ∃ O Dp cc, cc ≤ 2000 ∧ ZP S D N X w12.heap.size c i w7 (new45w w12 V) O Dp V (zNew (t / 4294967296) (t % 4294967296) cy ⟨0, plcc c 16 0 0, 0, 0, false⟩ am0) (zNew (t / 4294967296) (t % 4294967296) cy ⟨0, plcc c 16 0 0, 0, 0, false⟩ am0) L L (some ⟨w8.heap.size, 0, none⟩) cc 0 := by
    obtain ⟨O, Dp, hzk, hdp⟩ := HZK.out
    obtain ⟨cc, cc0, cc1, hst⟩ := hp11.st
    have l := hpo.lt; have l10 := hp10.lt; have lo := hp11.lo
    have hz8 := HB10.out.size; have hz7 := hpo.bel.size
    have hO : ∀ b, O b → w10.heap.size ≤ b := fun b hb => hdp b (hzk.ins.2.1 b hb)
    have hb1 : Below w11.heap.size w11 (new45w w12 V) := below_step HB12.out HB12.out.size (new45_below HZV.out.ok)
    have zw := zw_begin (c := c) HT.out.1 HT.out.2 HCY.out.1 HCY.out.2 ⟨0, plcc c 16 0 0, 0, 0, false⟩ am0
    exact ⟨O, Dp, cc, by omega, ZP.begin2 hb1 HB12.out.size (new45_row HZV.out.ok) hst cc0 hp11.bel hm12 HOK.out HII.out ⟨lo.1, lo.2.1⟩ hzk (fun b hb => by have := hdp b hb; exact ⟨by omega, by omega, by omega⟩) (HZV.out.below (new45_below HZV.out.ok)) (reads_fry HROW.out HB11.out l.1 l.2.1 hO) zw zw (fun e => by simp [zNew] at e) hp11.ww⟩
  obtain ⟨O, Dp, cc, hcc, hzp⟩ := hzp
  obtain ⟨AB, hAB⟩ : ∃ AB, AB = w6.heap.size := ⟨_, rfl⟩
  rw [← hAB] at HAB ⊢
  obtain ⟨YB, hYB⟩ : ∃ YB, YB = w12.heap.size := ⟨_, rfl⟩
  rw [← hYB] at hzp ⊢
  obtain ⟨RB, hRB⟩ : ∃ RB, RB = w8.heap.size := ⟨_, rfl⟩
  rw [← hRB] at hzp ⊢
  obtain ⟨W0, hW0⟩ : ∃ W0, W0 = new45w w12 V := ⟨_, rfl⟩
  rw [← hW0] at hzp ⊢
  obtain ⟨nL, hnL⟩ : ∃ nL, nL = L.length := ⟨_, rfl⟩
  rw [← hnL]
  have HLN : Hid (nL ≤ 7000) := Lib.hid (by rw [hnL, HLEN.out]; exact len_7000 HOK.out)
  have HNL := Lib.hid hnL
  have HAP := Lib.hid hzp; have HCC := Lib.hid hcc
  have HIA := Lib.hid hia; have HBW := Lib.hid hbw
  have ewk : IntKind.i64.wrap ((kn : Int) + 60) = (kn : Int) + 60 := IntWalk.i64_in _ (by omega)
  clear hzp hcc hok hsz hW0 hRB hYB hAB hw7 hia hb7 hp11 hp10 hpo hm12 hbw hnL HB7 HP11 HP10 HPO HZK HZV HB10 HB11 HB12 HM HROW HB HSS d1 d2 d3 d4
  go_wp2_with (fail)
  go_loopw [19, 22] (fun v i' wr => ∃ (k : Nat) (m : Zm) (O Dp : Nat → Prop) (V : Array Value) (L : List Int) (R : Option Addr) (cR : Nat) (cc : Int), k ≤ kn + 60 ∧ i' = .int .i64 (k : Int) ∧ v = .slice R nL cR ∧ nL = L.length ∧ cc ≤ 2000 + 2 * k ∧ ZP S D N X YB c i w7 wr O Dp V m m L L R cc k) (fun _ i' _ => kn + 60 - (intOf i').toNat)
  case atStart => exact ⟨0, _, O, Dp, V, L, _, nL, cc, Nat.zero_le _, rfl, rfl, HNL.out, by have := HCC.out; omega, HAP.out⟩
  case round =>
    clear HAP HNL HCC HLEN
    obtain ⟨k, m, O, Dp, V, L, R, cR, cc, hk, rfl, rfl, hl1, hc, hs⟩ := hrel
    have H1 := Lib.hid hs
    by_cases hlt : k < kn + 60
    · have e1 : (k : Int) < (kn : Int) + 60 := by omega
      obtain ⟨L2, m2, hz⟩ : ∃ L2 m2, zstp (zgOf c) (gOf c) (aNew (eOf c i)) L m = (L2, m2) := ⟨_, _, rfl⟩
      have hc0 := hs.c0
      have hst := hs.stepM (by omega) (by omega)
      have hl2 := zstp_len (zgOf c) (gOf c) (aNew (eOf c i)) L m
      have hzw2 := (hs.aw.step (i := i) hs.ok hs.ww)
      have hwn2 := zwon (c := c) (i := i) (L := L) hs.wn (fun e => ⟨(hs.aw.c5 e).1, (hs.aw.c5 e).2.1⟩)
      rw [hz] at hst hl2 hzw2 hwn2
      dsimp only at hst hl2 hzw2 hwn2
      obtain ⟨c2, hc2⟩ : ∃ c2, c2 = zcost m cc := ⟨_, rfl⟩
      obtain ⟨b, hb⟩ : ∃ b, b = decide (m2.pc = 0) := ⟨_, rfl⟩
      rw [← hc2, ← hb] at hst
      have hc3 : c2 ≤ cc + 1 := by rw [hc2]; unfold zcost; split <;> omega
      have hpb : ((m2.pc : Int) == 0) = b := by rw [hb]; by_cases h : m2.pc = 0 <;> simp [h]
      have hcq : (c2 == cc + 1) = decide (0 < m.pc) := by
        rw [hc2]; unfold zcost
        by_cases h : m.pc = 0
        · simp [h]; omega
        · rw [if_neg h]; simp; omega
      have HST := Lib.hid hst; have HZZ := Lib.hid hz; have HC := Lib.hid hc; have HC3 := Lib.hid hc3
      have HL1 := Lib.hid hl1; have HL2 : Hid (nL = L2.length) := Lib.hid (by omega)
      have HZ2 := Lib.hid hzw2; have HWN2 := Lib.hid hwn2
      have HKK := Lib.hid hk; have hk9 : (k : Int) ≤ 1000000 := by omega
      have ew : IntKind.i64.wrap (cc + 1) = cc + 1 := IntWalk.i64_in _ (by omega)
      have HK9 := Lib.hid hk9
      clear hs hst hz hc hc2 hc3 hb hl1 hl2 hk hc0 hzw2 hwn2
      go_upto_region 19 with (first
        | (go_at_call 16; (with_reducible refine (ZP.count H1.out).mono ?_); rintro r w8 ⟨rfl, hw⟩; cases hw)
        | (go_at_call 17; (with_reducible refine HST.out.mono ?_); rintro r w9 ⟨rfl, O', D', h⟩; have HS1 := Lib.hid h; obtain ⟨y0, _⟩ := ZP.cells h; clear h)
        | fail)
      obtain ⟨wp, hwp⟩ : ∃ wp, wp = decide (0 < m.pc) := ⟨_, rfl⟩
      rw [← hwp] at hcq ⊢
      obtain ⟨t9, ht9⟩ : ∃ t9 : Int, t9 = (k : Int) + 1 := ⟨_, rfl⟩
      rw [← ht9] at HS1 HZ2
      have HT9 := Lib.hid ht9
      have HTT : Hid (t9 ≤ 900000000) := Lib.hid (by omega)
      clear y0 hwp ht9
      have hd := HS1.out.below (Below.refl _ _).drew
      have HD := Lib.hid hd
      have HBD := Lib.hid (Below.refl w9.heap.size w9).drew
      have HRS : Hid (∀ (Q : Nat → Prop) (W : World), Below w9.heap.size w9 W → (∀ b, W.heap.size ≤ b → Q b) → ReadsW Q W R L → ZV Q W c i m V → Calls Tryz.prog 18 #[aVal AA an ac (packN c), Lay.cfgV c, .slice R nL cR, .agg V] W (SomeZ Q W nL c i L2 m2)) := Lib.hid (fun Q W hb hQ hR hV => by
        have := rzstep_any HOK.out Q AA an ac R nL cR L i m V W (HIA.out.below (HS1.out.below hb).bel) HL1.out (Nat.le_trans HLN.out (by decide)) hR hQ hV HII.out HS1.out.awx HS1.out.wwx HTT.out HS1.out.wn
        rw [HZZ.out] at this
        exact this)
      have HRB : Hid (∀ (LB : Nat) (W : World), w9.heap.size ≤ LB → LB < W.heap.size → Below w9.heap.size w9 W → Calls Tryz.prog 18 #[aVal AA an ac (packN c), Lay.cfgV c, .slice R nL cR, .agg V] W (SomeZ (FrB (Frx S D YB O') LB) W nL c i L2 m2)) := Lib.hid (fun LB W h1 h2 hb => HRS.out (FrB (Frx S D YB O') LB) W hb ((HS1.out.below hb).farB h2) ((HS1.out.inB h1).1.below hb) ((HS1.out.inB h1).2.below hb))
      have HRA : Hid (∀ (W : World), Below w9.heap.size w9 W → Calls Tryz.prog 18 #[aVal AA an ac (packN c), Lay.cfgV c, .slice R nL cR, .agg V] W (SomeZ (Frx S D YB O') W nL c i L2 m2)) := Lib.hid (fun W hb => HRS.out (Frx S D YB O') W hb (HS1.out.below hb).far (HS1.out.below hb).rd (HS1.out.below hb).ym.v)
      have HSZA : Hid (∀ (W : World) (o : Obj), W.heap.size < (W.alloc o).heap.size) := Lib.hid (fun W o => by simp)
      obtain ⟨a0, a1⟩ := HAB.out _ hd.bel
      obtain ⟨q0, q1, q2, q3, q4, q5, q6, q7, q8, q9, q10, q11⟩ := (HBW.out _ hd.bel).cfg
      obtain ⟨hi0, hr0⟩ := hd.box
      have HSF : Hid (∀ W, Below w9.heap.size w9 W → ((W.cell? ⟨AB, 0, none⟩ = some (.slice AA an ac) ∧ W.cell? ⟨AB, 1, none⟩ = some (.int .i64 (packN c))) ∧ CfgC w.heap.size c W ∧ Is45 W YB ∧ row45 W YB = V)) := Lib.hid (fun W hb => ⟨HAB.out _ (HS1.out.below hb).bel, (HBW.out _ (HS1.out.below hb).bel).cfg, (HS1.out.below hb).box⟩)
      have HLY := Lib.hid HS1.out.ltY
      clear hd
      go_cut [26, 27] (fun s26 s27 wx => ZG S D N X YB c i w7 O' D' V m2 m L2 L2 c2 t9 m2 nL s26 s27 wx)
      case first =>
        go_region_held3 (fun w' => (w'.cell? ⟨AB, 0, none⟩ = some (.slice AA an ac) ∧ w'.cell? ⟨AB, 1, none⟩ = some (.int .i64 (packN c))) ∧ CfgC w.heap.size c w' ∧ Is45 w' YB ∧ row45 w' YB = V)
          (first
            | (with_reducible exact HSF.out _ (below_step HB13.out HB13.out.size (new45_below hok)))
            | (with_reducible exact HSF.out _ (set45_below HB13.out (Nat.le_refl _) HLB.out hi13 hok))
            | (with_reducible exact HSF.out _ HB13.out)
            | (with_reducible exact HSF.out _ (below_alloc0 HB13.out _))
            | (with_reducible exact HSF.out _ HB12.out)
            | (with_reducible exact HSF.out _ (below_alloc0 HB12.out _))
            | (with_reducible exact HSF.out _ HBD.out)
            | (with_reducible exact HSF.out _ (below_alloc0 HBD.out _))
            | (with_reducible exact HSF.out _ (below_alloc0 (Below.refl _ _) _).drew)
            | go_keep)
          (first
            | (go_at_call 11; (with_reducible refine (Lay.model_any c _).mono ?_); rintro r w12 ⟨rfl, hb⟩; first
                | (have HB12 := Lib.hid (below_step HBD.out HBD.out.size hb); clear hb)
                | (have HBa := (below_alloc0 (Below.refl w9.heap.size w9) (.cells zero45 64)).drew; have HB12 := Lib.hid (below_step HBa HBa.size hb); have hiC := is45_new.drew.below hb; have HLB := Lib.hid (Nat.le_refl w9.heap.size); have HB12L := Lib.hid (Nat.lt_of_lt_of_le (HSZA.out w9 (.cells zero45 64)) hb.size); clear hb HBa))
            | (go_at_call 18; have hiQ := hiC; (with_reducible refine (HRB.out w9.heap.size _ (Nat.le_refl _) (HB12L.out) HB12.out).mono ?_); rintro r w13 ⟨R2, cR2, V2, rfl, hr, hv, hb⟩; have HB13 := Lib.hid (below_step HB12.out HB12.out.size hb); have HR2 := Lib.hid hr; have HV2 := Lib.hid hv; have hok := hv.ok; have hsz := hv.size; have hi13 := hiC.below hb; clear hr hv hb hiC hiQ)
            | (go_at_call 18; (with_reducible refine (HRA.out _ HB12.out).mono ?_); rintro r w13 ⟨R2, cR2, V2, rfl, hr, hv, hb⟩; have HB13 := Lib.hid (below_step HB12.out HB12.out.size hb); have HR2 := Lib.hid hr; have HV2 := Lib.hid hv; have hok := hv.ok; have hsz := hv.size; clear hr hv hb)
            | (go_at_call 18; (with_reducible refine (HRB.out w12.heap.size _ HB12.out.size (HSZA.out _ _) (below_alloc0 HB12.out _)).mono ?_); rintro r w13 ⟨R2, cR2, V2, rfl, hr, hv, hb⟩; have HB13 := Lib.hid (below_step (below_alloc0 HB12.out _) (below_alloc0 HB12.out _).size hb); have HLB := Lib.hid (show w9.heap.size ≤ w12.heap.size from HB12.out.size); have HR2 := Lib.hid hr; have HV2 := Lib.hid hv; have hok := hv.ok; have hsz := hv.size; have hi13 := is45_new.below hb; clear hr hv hb)
            | fail)
        all_goals go_wp2_with (fail)
        all_goals go_meet
        all_goals (first
          | exact zg_a (HS1.out.below HB13.out) HR2.out HV2.out HS1.out.ww
          | exact zg_b HS1.out HB13.out HLB.out hi13 HR2.out HV2.out HS1.out.ww)
      case rest =>
        clear a0 a1 q0 q1 q2 q3 q4 q5 q6 q7 q8 q9 q10 q11 hi0 hr0 HRB HRA HRS HSF HD HBD HSZA
        obtain ⟨R2, cR2, V2, Y2, rfl, rfl, hzp, hy2, hv2⟩ := hcut
        have HS2 := Lib.hid hzp; have HY2 := Lib.hid hy2; have HV2 := Lib.hid hv2
        clear hzp hy2 hv2 HS1
        go_upto_region 22 with (first
          | (refine wpList_loadZ rfl (.tmp 27) rfl Y2 V2 rfl HY2.out HV2.out.size ?_)
          | (refine wpList_storeZ rfl (.tmp 21) (.tmp 104) rfl YB V V2 rfl rfl HS2.out.ym.bx HS2.out.ym.v.size HV2.out.size HV2.out.one ?_)
          | fail)
        have hs4 := HS2.out.putY HV2.out HZ2.out.1 HWN2.out
        obtain ⟨W4, hW4⟩ : ∃ W4, W4 = wc.setCells YB 0 V2.toList := ⟨_, rfl⟩
        rw [← hW4] at hs4 ⊢
        have HS5 := Lib.hid (hs4.below (Below.refl _ _).drew)
        obtain ⟨y0, y1, y2, y3, y4, y5⟩ := hs4.cells
        have HLn : Hid (L2.length ≤ 1000000) := Lib.hid (by have := HL2.out; have := HLN.out; omega)
        obtain ⟨mp2, hmp⟩ : ∃ x : Int, x = (m2.pc : Int) := ⟨_, rfl⟩
        obtain ⟨ek2, hek⟩ : ∃ x : Int, x = m2.ek := ⟨_, rfl⟩
        obtain ⟨ea2, hea⟩ : ∃ x : Int, x = m2.ea := ⟨_, rfl⟩
        obtain ⟨eb2, heb⟩ : ∃ x : Int, x = m2.eb := ⟨_, rfl⟩
        rw [← hmp] at y0 hpb
        rw [← hek] at y1
        rw [← hea] at y3
        rw [← heb] at y4
        have HEV : Hid (evV m2.ek m2.ea m2.eb = evV ek2 ea2 eb2) := Lib.hid (by rw [hek, hea, heb])
        have HCE : Hid (∀ (W : World) (O Dp : Nat → Prop) (V : Array Value) (L LR : List Int) (R : Option Addr) (cc t : Int), ZP S D N X YB c i w7 W O Dp V m2 m2 L LR R cc t → W.cell? ⟨YB, 0, none⟩ = some (.int .i64 mp2) ∧ W.cell? ⟨YB, 40, none⟩ = some (.int .i64 ek2) ∧ W.cell? ⟨YB, 41, none⟩ = some (.int .i64 0) ∧ W.cell? ⟨YB, 42, none⟩ = some (.int .i64 ea2) ∧ W.cell? ⟨YB, 43, none⟩ = some (.int .i64 eb2) ∧ W.cell? ⟨YB, 44, none⟩ = some (.int .i64 0)) := Lib.hid (fun W O Dp V L LR R cc t h => by rw [hmp, hek, hea, heb]; exact h.cells)
        clear hW4 hs4 HS2 HY2 HV2 hmp hek hea heb
        go_wp2_with (fail)
        go_region_held3 (fun w' => w'.cell? ⟨YB, 0, none⟩ = some (.int .i64 mp2) ∧ w'.cell? ⟨YB, 40, none⟩ = some (.int .i64 ek2) ∧ w'.cell? ⟨YB, 41, none⟩ = some (.int .i64 0) ∧ w'.cell? ⟨YB, 42, none⟩ = some (.int .i64 ea2) ∧ w'.cell? ⟨YB, 43, none⟩ = some (.int .i64 eb2) ∧ w'.cell? ⟨YB, 44, none⟩ = some (.int .i64 0))
          (first | (with_reducible exact HCE.out _ _ _ _ _ _ _ _ _ HS8.out) | (with_reducible exact HCE.out _ _ _ _ _ _ _ _ _ HS7.out) | (with_reducible exact HCE.out _ _ _ _ _ _ _ _ _ HS6.out) | (with_reducible exact HCE.out _ _ _ _ _ _ _ _ _ HS5.out) | fail)
          (first
            | (go_at_call 19; (with_reducible refine (ZP.event HS5.out).mono ?_); rintro r w20 ⟨rfl, h⟩; rw [HEV.out]; have HS6 := Lib.hid h; clear h)
            | (go_at_call 13; (with_reducible refine (ZP.all HS6.out HLn.out).mono ?_); rintro r w21 ⟨rfl, hr, h⟩; have HS7 := Lib.hid h; have HRA := Lib.hid hr; clear h hr)
            | (go_at_call 20; (with_reducible refine (same_lenA _ _ _ _ nL L2 _ HL2.out HRA.out HS7.out.rd.reads HLn.out).mono ?_); rintro r w22 ⟨rfl, hb⟩; have HS8 := Lib.hid (HS7.out.below hb); clear hb)
            | (go_at_call 16; (with_reducible refine (ZP.count HS8.out).mono ?_); rintro r w23 ⟨rfl, hw⟩; cases hw)
            | fail)
        clear ew y0 y1 y2 y3 y4 y5 HS5 HS6 HS7 HRA HCE HEV hcq hpb
        have hs8 := HS8.out
        rw [HT9.out] at hs8
        have HS8 := Lib.hid hs8
        clear hs8 HT9 HTT HZ2
        by_cases hp : k < kn
        · obtain ⟨bp, offp, rfl, hbl, hcp⟩ := HRK.out (by have := HLK.out; omega)
          have hcj := hcp k (by have := HLK.out; omega)
          obtain ⟨g, hg⟩ : ∃ g, g = atP ks k := ⟨_, rfl⟩
          rw [← hg] at hcj
          have hgv : 0 ≤ g.v ∧ g.v ≤ 18446744073709551615 := by
            have hl := HLK.out
            have := HWK.out (atP ks k) (by unfold atP; rw [List.getD, List.getElem?_eq_getElem (by omega)]; exact List.getElem_mem (by omega))
            rw [hg]; exact this
          have hpc : ∀ w', Below w7.heap.size w7 w' → (w'.cell? ⟨bp, offp + k * 2, none⟩ = some (.int .i64 g.p) ∧ w'.cell? ⟨bp, offp + k * 2 + 1, none⟩ = some (.int .u64 g.v)) := fun w' hb =>
            ⟨((HBW.out _ hb).fin.cell (p := ⟨bp, offp + k * 2, none⟩) hbl).trans hcj.1, ((HBW.out _ hb).fin.cell (p := ⟨bp, offp + k * 2 + 1, none⟩) hbl).trans hcj.2⟩
          have HPC := Lib.hid hpc; have HGV := Lib.hid hgv
          have hp0 : (k : Int) < (kn : Int) := by omega
          have hk0 : (0 : Int) ≤ (k : Int) := by omega
          obtain ⟨p0, p1⟩ := hpc _ HS8.out.bel
          have hcc : c2 ≤ 900000000 := by have := HC3.out; have := HC.out; omega
          have HCC9 := Lib.hid hcc
          clear hcp hcj hg hgv hpc hp hcc
          go_upto_if 143 with (fail)
          go_cut [28] (fun s wx => (∃ q : Int, s = .int .i64 q) ∧ wx = w22)
          case first =>
            by_cases hat : g.p > 7
            · have d5 : decide (g.p > 7) = true := by simpa using hat
              go_wp2_with (fail)
              go_meet
              exact ⟨⟨_, rfl⟩, rfl⟩
            · have d5 : decide (g.p > 7) = false := by simpa using hat
              go_wp2_with (fail)
              go_meet
              exact ⟨⟨_, rfl⟩, rfl⟩
          case rest =>
            obtain ⟨⟨q, rfl⟩, hwx⟩ := hcut
            subst hwx
            clear p0 p1
            obtain ⟨p0, p1⟩ := HPC.out _ HS8.out.bel
            go_wp2_with (first
              | (go_at_call 21; (with_reducible refine (ZP.poke HS8.out q g.v HGV.out HCC9.out).mono ?_); rintro r w25 ⟨rfl, h⟩; have HS9 := Lib.hid h; clear p0 p1; obtain ⟨p0, p1⟩ := HPC.out _ h.bel; clear h)
              | (go_at_call 22; (with_reducible refine (rput_any (Frx S D YB O') R2 nL cR2 L2 q g.v _ HL2.out (Nat.le_trans HLN.out (by decide)) HS9.out.rd HS9.out.far).mono ?_); rintro r w26 ⟨R3, cR3, rfl, hx, hb⟩; rw [ptv_eq] at hx; have HS10 := Lib.hid (HS9.out.newR hb hx HS9.out.ww); clear hx hb)
              | fail)
            go_roundw
            case rel =>
              have hkk := HKK.out; have hc := HC.out; have hc3 := HC3.out; have hl2 := HL2.out
              have q1 : k + 1 ≤ kn + 60 := by omega
              have q2 : c2 + 1 ≤ 2000 + 2 * ((k + 1 : Nat) : Int) := by omega
              have q4 : nL = (ptq L2 q g.v).length := by rw [pt_len]; exact hl2
              have q3 : ZP S D N X YB c i w7 w26 O' D' V2 m2 m2 (ptq L2 q g.v) (ptq L2 q g.v) R3 (c2 + 1) ((k + 1 : Nat) : Int) := HS10.out
              exact ⟨k + 1, m2, O', D', V2, ptq L2 q g.v, R3, cR3, c2 + 1, q1, by go_num, rfl, q4, q2, q3⟩
            case measure => simp [intOf]; omega
        · have hp0 : ¬ (k : Int) < (kn : Int) := by omega
          clear hp
          go_wp2_with (fail)
          go_roundw
          case rel =>
            have hkk := HKK.out; have hc := HC.out; have hc3 := HC3.out
            have q1 : k + 1 ≤ kn + 60 := by omega
            have q2 : c2 ≤ 2000 + 2 * ((k + 1 : Nat) : Int) := by omega
            have q3 : ZP S D N X YB c i w7 w22 O' D' V2 m2 m2 L2 L2 R2 c2 ((k + 1 : Nat) : Int) := HS8.out
            exact ⟨k + 1, m2, O', D', V2, L2, R2, cR2, c2, q1, by go_num, rfl, HL2.out, q2, q3⟩
          case measure => simp [intOf]; omega
    · obtain rfl : k = kn + 60 := by omega
      have e1 : ¬ ((kn + 60 : Nat) : Int) < (kn : Int) + 60 := by omega
      clear hs hlt hl1 hc hk
      go_wp2_with (first
        | (go_at_call 17; (with_reducible refine (zstep_nil _ _).mono ?_); rintro r w30 ⟨rfl, hw⟩; cases hw)
        | (go_at_call 19; (with_reducible refine (event_nil _).mono ?_); rintro r w31 ⟨rfl, hb⟩; have HS2 := Lib.hid (H1.out.below hb); clear hb)
        | (go_at_call 14; (with_reducible refine (newZ_nil i t cy HT.out.1 HT.out.2 _).mono ?_); rintro r w32 ⟨X2, rfl, hX2, hz2, hb⟩; have HS3 := Lib.hid (HS2.out.below hb); have HX2 := Lib.hid hX2; have HZ2 := Lib.hid hz2; clear hX2 hz2 hb)
        | (go_at_call 17; (with_reducible refine (zstep_off _ HZ2.out rfl).mono ?_); rintro r w33 ⟨rfl, _, hu⟩; have HU := Lib.hid hu; clear hu)
        | fail)
      go_ret
      have hbl : Below w7.heap.size w7 w33 := below_uf HS3.out.bel (Nat.le_refl _) HU.out (fun b e => by subst e; have := HX2.out; have := HS2.out.bel.size; omega)
      refine ⟨?_, (HBW.out _ hbl).fin⟩
      first | rfl | simp
end Go.Proofs.YtpocihddecemfaaGreat
