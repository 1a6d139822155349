/- The law of each step of a part that is swept, whatever others change: walked. -/
import Derived.Test.YtbpkcoemehmpbaaGreatJ20
import Derived.Test.YtbpkcoemehmpbaaGreatJ22
import Derived.Test.YtbpkcoemehmpbaaGreatSwAw
import Derived.Test.YtbpkcoemehmpbaaGreatJ18
import Derived.IntWalk
namespace Go.Proofs.YtbpkcoemehmpbaaGreat
open Go.RowKit
set_option linter.unusedVariables false
set_option linter.unusedSimpArgs false
set_option maxRecDepth 100000
open Lay (plcc plc shOf packN nodesN OkC Cfg Norm firstV Rep lenL things)

theorem same_lenA (A A' : Option Addr) (cap cap' m : Nat) (l : List Int) (w : World) (hm : m = l.length) (h : Reads .u64 w A l) (h' : Reads .u64 w A' l) (hb : l.length ≤ 1000000) :
    Calls Tryz.prog 20 #[.slice A l.length cap, .slice A' m cap'] w fun e w' => e = .returned (.bool true) ∧ Below w.heap.size w w' := same_yes A A' cap cap' _ m l w rfl hm h h' hb
/-- Rows and a machine that are not in a box. -/
def FrB (P : Nat → Prop) (LB b : Nat) : Prop := P b ∧ b ≠ LB
/-- Behind the document's step: its results, the second one in a box. -/
def ZG (S D N X YB : Nat) (c : Cfg) (w7 : World) (O Dp : Nat → Prop) (V : Array Value) (m mx : Wn) (L L2 : List Int) (cc t : Int) (m2 : Wn) (nL : Nat) (s26 s27 : Value) (wx : World) : Prop :=
  ∃ (R2 : Option Addr) (cR2 : Nat) (V2 : Array Value) (Y2 : Nat), s26 = .slice R2 nL cR2 ∧ s27 = .pointer (some ⟨Y2, 0, none⟩) ∧ ZP S D N X YB c w7 wx O Dp V m mx L L2 R2 cc t ∧ wx.heap[Y2]? = some (.cells V2 55 (0, 0)) ∧ ZV (Frx S D YB O) wx m2 V2
section
variable {S D N X YB : Nat} {c : Cfg} {w7 wr w13 : World} {O Dp : Nat → Prop} {V V2 : Array Value} {m mx m2 : Wn} {L LR L2 : List Int} {R R2 : Option Addr} {cc t : Int} {nL cR2 LB : Nat}
theorem ZP.inB (h : ZP S D N X YB c w7 wr O Dp V m mx L LR R cc t) (hl : wr.heap.size ≤ LB) : ReadsW (FrB (Frx S D YB O) LB) wr R LR ∧ ZV (FrB (Frx S D YB O) LB) wr mx V :=
  ⟨row_uf2 h.rd (UF.refl (fun _ => False) _) (fun b hb hlt => ⟨fun f => f, hb, by omega⟩), h.ym.v.uf (UF.refl (fun _ => False) _) (fun b hb hlt => ⟨fun f => f, hb, by omega⟩)⟩
theorem ZP.farB (h : ZP S D N X YB c w7 wr O Dp V m mx L LR R cc t) (hl : LB < wr.heap.size) : ∀ b, wr.heap.size ≤ b → FrB (Frx S D YB O) LB b := fun b hb => ⟨h.far b hb, by omega⟩
theorem zg_a (h : ZP S D N X YB c w7 w13 O Dp V m mx L LR R cc t) (hr : ReadsW (Frx S D YB O) w13 R2 L2) (hv : ZV (Frx S D YB O) w13 m2 V2) (ww : WW L2) :
    ZG S D N X YB c w7 O Dp V m mx L L2 cc t m2 nL (.slice R2 nL cR2) (.pointer (some ⟨w13.heap.size, 0, none⟩)) (new19w w13 V2) :=
  ⟨R2, cR2, V2, _, rfl, rfl, h.newR (new19_below hv.ok) (hr.below (new19_below hv.ok)) ww, new19_row hv.ok, hv.below (new19_below hv.ok)⟩
theorem zg_b (h : ZP S D N X YB c w7 wr O Dp V m mx L LR R cc t) (hb : Below wr.heap.size wr w13) (hl : wr.heap.size ≤ LB) (hi : Is19 w13 LB) (hr : ReadsW (FrB (Frx S D YB O) LB) w13 R2 L2) (hv : ZV (FrB (Frx S D YB O) LB) w13 m2 V2) (ww : WW L2) :
    ZG S D N X YB c w7 O Dp V m mx L L2 cc t m2 nL (.slice R2 nL cR2) (.pointer (some ⟨LB, 0, none⟩)) (set19w w13 LB V2) := by
  obtain ⟨g, u⟩ := set19_upd hi hv.ok
  have u' := UF.of_upd u
  have fr : ∀ b, FrB (Frx S D YB O) LB b → b < w13.heap.size → ¬ (b = LB ∨ b = LB) ∧ Frx S D YB O b := fun b hb2 _ => ⟨fun e => by rcases e with e | e <;> exact hb2.2 e, hb2.1⟩
  exact ⟨R2, cR2, V2, LB, rfl, rfl, h.newR (set19_below hb (Nat.le_refl _) hl hi hv.ok) (row_uf2 hr u' fr) ww, g, hv.uf u' fr⟩
end

/-! A whole box is read in a region that draws its order. -/
def blkV : Value → Nat
  | .pointer (some a) => a.block
  | _ => 0
def Is19p (v : Value) (w : World) : Prop := v = .pointer (some ⟨blkV v, 0, none⟩) ∧ Is19 w (blkV v)
@[go_sem] theorem blkV_ptr (a : Addr) : blkV (.pointer (some a)) = a.block := rfl
@[go_sem] theorem is19p_ptr (B : Nat) (w : World) : Is19p (.pointer (some ⟨B, 0, none⟩)) w ↔ Is19 w B := ⟨fun h => h.2, fun h => ⟨rfl, h⟩⟩
@[go_sem ↓ high] theorem sem_execload19 {ev : Operand → Value} {dst : Option Tmp} {x : Operand} {ty : TypeId} {pos : String} {after : Array Edge} {g : Option (Nat × Bool)} {w : World} (h : Is19p (ev x) w) :
    (execOp ev { dst := dst, op := .load 55 x, type := ty, pos := pos, after := after, guard := g }).run Tryz.prog w = .ok (.value (.agg (row19 w (blkV (ev x))))) w := by
  obtain ⟨h1, V, hb, h2, h3⟩ := h
  have e : row19 w (blkV (ev x)) = V := by unfold row19; rw [hb]
  rw [e]
  generalize blkV (ev x) = B at h1 hb
  unfold execOp
  simp only [h1, Instr.loadAt, Instr.sureAddr, Sem.run_bind, Sem.run_pure, Result.andThen_ok, loadZ hb h2]

theorem sln (L : List Int) (x : Sm) : (sstp L x).1.length = L.length := by
  unfold sstp swapS
  repeat' (first | rfl | exact pt_len _ _ _ | split)
theorem wstp_len (g : Wg) (L : List Int) (m : Wn) : (wstp g L m).1.length = L.length := by
  unfold wstp
  repeat' (first | rfl | exact pt_len _ _ _ | exact sln _ _ | (show (sstp L m.x).1.length = L.length; exact sln _ _) | split)
theorem partW_nil (w : World) : Calls Tryz.prog 18 #[.pointer none] w fun e w' => e = .returned (.int .i64 (-1)) ∧ w = w' := by
  go_enter Tryz.func18, Tryz.ntmps18
  go_wp2
  go_ret
  exact ⟨rfl, rfl⟩
set_option maxHeartbeats 1000000 in
theorem eventW_nil (w : World) : Calls Tryz.prog 19 #[.pointer none] w fun e w' => e = .returned (evA 0 0) ∧ Below w.heap.size w w' := by
  have hb0 := below_alloc0 (Below.refl w.heap.size w) (.cells #[.int .i64 0, .int .i64 0, .int .i64 0, .int .i64 0, .int .i64 0] 53)
  have hg0 : (w.alloc (.cells #[.int .i64 0, .int .i64 0, .int .i64 0, .int .i64 0, .int .i64 0] 53)).heap[w.heap.size]? = some (.cells #[.int .i64 0, .int .i64 0, .int .i64 0, .int .i64 0, .int .i64 0] 53 (0, 0)) := Go.heap_alloc_new _ _
  have HB0 := Lib.hid hb0; have HG0 := Lib.hid hg0
  clear hb0 hg0
  go_enter Tryz.func19, Tryz.ntmps19
  go_wp2_with (first
    | (go_at_call 41; (with_reducible refine (noneW_any _).mono ?_); rintro r w2 ⟨rfl, hb⟩; have hg := (hb.block _ (Array.getElem?_eq_some_iff.1 HG0.out).1).trans HG0.out; have f0 := fun k => row_fro hg k; have e0 : w2.cell? ⟨w.heap.size, 0, none⟩ = some (.int .i64 0) := (row_get hg 0).trans rfl; have e1 : w2.cell? ⟨w.heap.size, 1, none⟩ = some (.int .i64 0) := (row_get hg 1).trans rfl; have e2 : w2.cell? ⟨w.heap.size, 2, none⟩ = some (.int .i64 0) := (row_get hg 2).trans rfl; have e3 : w2.cell? ⟨w.heap.size, 3, none⟩ = some (.int .i64 0) := (row_get hg 3).trans rfl; have e4 : w2.cell? ⟨w.heap.size, 4, none⟩ = some (.int .i64 0) := (row_get hg 4).trans rfl; have HG2 := Lib.hid hg; have HB2 := Lib.hid (below_step HB0.out HB0.out.size hb); clear hb hg)
    | fail)
  have h1 := (row_put HG2.out 0 (.int .i64 0)).1
  have h2 := (row_put h1 1 (.int .i64 0)).1
  have h3 := (row_put h2 2 (.int .i64 0)).1
  have h4 := (row_put h3 3 (.int .i64 0)).1
  have h5 := (row_put h4 4 (.int .i64 0)).1
  have r0 := (row_get h5 0).trans (show _ = some (Value.int .i64 0) from rfl)
  have r1 := (row_get h5 1).trans (show _ = some (Value.int .i64 0) from rfl)
  have r2 := (row_get h5 2).trans (show _ = some (Value.int .i64 0) from rfl)
  have r3 := (row_get h5 3).trans (show _ = some (Value.int .i64 0) from rfl)
  have r4 := (row_get h5 4).trans (show _ = some (Value.int .i64 0) from rfl)
  have hB : Below w.heap.size w (((((w2.setCell ⟨w.heap.size, 0, none⟩ (.int .i64 0)).setCell ⟨w.heap.size, 1, none⟩ (.int .i64 0)).setCell ⟨w.heap.size, 2, none⟩ (.int .i64 0)).setCell ⟨w.heap.size, 3, none⟩ (.int .i64 0)).setCell ⟨w.heap.size, 4, none⟩ (.int .i64 0)) := (((((HB2.out.setCell (by show w.heap.size ≤ w.heap.size; omega) _).setCell (by show w.heap.size ≤ w.heap.size; omega) _).setCell (by show w.heap.size ≤ w.heap.size; omega) _).setCell (by show w.heap.size ≤ w.heap.size; omega) _).setCell (by show w.heap.size ≤ w.heap.size; omega) _)
  clear f0 e0 e1 e2 e3 e4 h1 h2 h3 h4 h5
  exact bodyPost_ret (v := evA 0 0) (by simp [results, Tryz.results19, go_sem, r0, r1, r2, r3, r4]) rfl ⟨rfl, hB⟩
set_option maxHeartbeats 2000000 in
theorem newS_nil (cy : Int) (w : World) :
    Calls Tryz.prog 11 #[.pointer none, .int .u64 cy] w fun e w' => ∃ X, e = .returned (ptr X) ∧ w.heap.size ≤ X ∧ Sb w' X none (sc0 cy .nilFunc) ∧ Below w.heap.size w w' := by
  go_enter Tryz.func11, Tryz.ntmps11
  go_wp2
  go_ret
  exact ⟨w.heap.size, rfl, Nat.le_refl _, Go.heap_alloc_new _ _, below_alloc0 (Below.refl _ _) _⟩
/-- The map's box. -/
theorem aboxA {w6 : World} {A : Option Addr} {n cap : Nat} {P : Int} {w' : World} (hb : Below (w6.heap.size + 1) (w6.alloc (.cells #[.slice A n cap, .int .i64 P] 36)) w') :
    w'.cell? ⟨w6.heap.size, 0, none⟩ = some (.slice A n cap) ∧ w'.cell? ⟨w6.heap.size, 1, none⟩ = some (.int .i64 P) := by
  have h : (w6.alloc (.cells #[.slice A n cap, .int .i64 P] 36)).heap[w6.heap.size]? = some (.cells #[.slice A n cap, .int .i64 P] 36 (0, 0)) := Array.getElem?_push_size
  have h2 := (hb.block _ (by omega)).trans h
  constructor <;> simp [World.cell?, h2]
theorem len_7000 {c : Cfg} (hc : OkC c) : lenL (shOf c) ≤ 7000 := by have := Lay.lenL_eq hc; have := (Lay.bds hc).t55'; omega
set_option maxHeartbeats 32000000 in
theorem walkSteps (c : Cfg) (cy : Int) (F : Option Addr) (fn fc : Nat) (zf : List Int) (K : Option Addr) (kn capK : Nat) (ks : List Pok) (w : World) (hcy : (Lit.int .u64 cy).wf = true) (hF : IsRow .u8 w F fn fc zf) (hK : IsPoks w K kn capK ks) :
    Calls Tryz.prog 3 #[Lay.cfgV c, .int .u64 cy, .slice F fn fc, .slice K kn capK] w fun e w' => e = .returned (.bool true) ∧ Below w.heap.size w w' := by
  obtain ⟨rK, lK, h5, h6, wfK⟩ := hK
  have HCY : Hid (0 ≤ cy ∧ cy ≤ 18446744073709551615) := Lib.hid (by
    simp [Lit.wf, IntKind.min, IntKind.max, IntKind.bits, IntKind.signed] at hcy; omega)
  obtain ⟨rN, lN, _, _, _, wfN⟩ := reads_row hF
  obtain ⟨ns, hns⟩ : ∃ xs, xs = zf.take fn := ⟨_, rfl⟩
  rw [← hns] at rN lN wfN
  have HNW := Lib.hid (show ∀ x ∈ ns, 0 ≤ x ∧ x ≤ 255 from fun x hx => by
    have := wfN x hx
    simp [Lit.wf, IntKind.min, IntKind.max, IntKind.bits, IntKind.signed] at this; omega)
  have HRN := Lib.hid rN; have HLN0 := Lib.hid lN
  have hm3 : kn ≤ maxLen := by omega
  have HB := Lib.hid (Bw.start w c)
  obtain ⟨q0, q1, q2, q3, q4, q5, q6, q7, q8, q9, q10, q11⟩ := (Bw.start w c).cfg
  have HRK := Lib.hid rK; have HLK := Lib.hid lK; have HWK := Lib.hid wfK
  clear rK lK wfK hcy hF rN lN wfN hns
  by_cases hb1 : 30 < kn
  · have d1 : decide ((kn : Int) > 30) = true := by simp; omega
    clear hb1
    go_enter Tryz.func3, Tryz.ntmps3
    go_wp2_with (first
      | (go_at_call 4; (with_reducible refine (awake_true _).mono ?_); rintro e w1 ⟨rfl, hb⟩; have HB := Lib.hid (HB.out.step hb); clear hb q0 q1 q2 q3 q4 q5 q6 q7 q8 q9 q10 q11; obtain ⟨q0, q1, q2, q3, q4, q5, q6, q7, q8, q9, q10, q11⟩ := HB.out.cfg)
      | (go_at_call 5; (with_reducible refine (small_any c _).mono ?_); rintro e w2 ⟨b, rfl, hs, hb⟩; have HB := Lib.hid (HB.out.step hb); clear hb q0 q1 q2 q3 q4 q5 q6 q7 q8 q9 q10 q11; obtain ⟨q0, q1, q2, q3, q4, q5, q6, q7, q8, q9, q10, q11⟩ := HB.out.cfg; have HSS := Lib.hid hs; clear hs; cases b)
      | fail)
    all_goals go_ret
    all_goals exact ⟨rfl, HB.out.fin⟩
  have d1 : decide ((kn : Int) > 30) = false := by simp; omega
  have hkn : kn ≤ 30 := by omega
  by_cases hb2 : 20 < fn
  · have d2 : decide ((fn : Int) > 20) = true := by simp; omega
    clear hb1 hb2
    go_enter Tryz.func3, Tryz.ntmps3
    go_wp2_with (first
      | (go_at_call 4; (with_reducible refine (awake_true _).mono ?_); rintro e w1 ⟨rfl, hb⟩; have HB := Lib.hid (HB.out.step hb); clear hb q0 q1 q2 q3 q4 q5 q6 q7 q8 q9 q10 q11; obtain ⟨q0, q1, q2, q3, q4, q5, q6, q7, q8, q9, q10, q11⟩ := HB.out.cfg)
      | (go_at_call 5; (with_reducible refine (small_any c _).mono ?_); rintro e w2 ⟨b, rfl, hs, hb⟩; have HB := Lib.hid (HB.out.step hb); clear hb q0 q1 q2 q3 q4 q5 q6 q7 q8 q9 q10 q11; obtain ⟨q0, q1, q2, q3, q4, q5, q6, q7, q8, q9, q10, q11⟩ := HB.out.cfg; have HSS := Lib.hid hs; clear hs; cases b)
      | fail)
    all_goals go_ret
    all_goals exact ⟨rfl, HB.out.fin⟩
  have d2 : decide ((fn : Int) > 20) = false := by simp; omega
  have HF20 := Lib.hid (show fn ≤ 20 by omega)
  clear hb1 hb2
  go_enter Tryz.func3, Tryz.ntmps3
  go_upto_region 13 with (first
    | (go_at_call 4; (with_reducible refine (awake_true _).mono ?_); rintro e w1 ⟨rfl, hb⟩; have HB := Lib.hid (HB.out.step hb); clear hb q0 q1 q2 q3 q4 q5 q6 q7 q8 q9 q10 q11; obtain ⟨q0, q1, q2, q3, q4, q5, q6, q7, q8, q9, q10, q11⟩ := HB.out.cfg)
    | (go_at_call 5; (with_reducible refine (small_any c _).mono ?_); rintro e w2 ⟨b, rfl, hs, hb⟩; have HB := Lib.hid (HB.out.step hb); clear hb q0 q1 q2 q3 q4 q5 q6 q7 q8 q9 q10 q11; obtain ⟨q0, q1, q2, q3, q4, q5, q6, q7, q8, q9, q10, q11⟩ := HB.out.cfg; have HSS := Lib.hid hs; clear hs; cases b)
    | (go_at_call 6; (with_reducible refine (Lay.new_yes (HSS.out trivial).1 _).mono ?_); rintro e w3 ⟨N, rfl, hm, hb⟩; have HOK := Lib.hid (HSS.out trivial).1; have HM := Lib.hid hm; have HB := Lib.hid (HB.out.step hb); clear hb hm q0 q1 q2 q3 q4 q5 q6 q7 q8 q9 q10 q11; obtain ⟨q0, q1, q2, q3, q4, q5, q6, q7, q8, q9, q10, q11⟩ := HB.out.cfg)
    | (go_at_call 8; (with_reducible refine (Lay.model_any c _).mono ?_); rintro e w4 ⟨rfl, hb⟩; have HB := Lib.hid (HB.out.step hb); have HM := Lib.hid (HM.out.below hb); clear hb q0 q1 q2 q3 q4 q5 q6 q7 q8 q9 q10 q11)
    | (go_at_call 7; (with_reducible refine (rmap_any HOK.out _).mono ?_); rintro e w6 ⟨AA, an, ac, rfl, hia, hb⟩; have hb7 := below_alloc0 (Below.refl w6.heap.size w6) (.cells #[.slice AA an ac, .int .i64 (packN c)] 36); have HB7 := Lib.hid ((HB.out.step hb).step hb7); have HM := Lib.hid ((HM.out.below hb).below hb7); have HIA := Lib.hid (hia.below hb7); clear hb hia hb7)
    | (go_at_call 9; (with_reducible refine (filled_any HOK.out N cy F fn fc ns _ HM.out HLN0.out.symm (HB7.out.reads HRN.out) HNW.out HCY.out (Nat.le_trans HF20.out (by decide))).mono ?_); rintro e w8 ⟨S, D, L, rfl, hfl, hpo, hb⟩; have HLEN := Lib.hid hfl.len; have HPO := Lib.hid hpo; clear hfl hpo hb)
    | (go_at_call 10; (with_reducible refine (all_po HPO.out (by rw [HLEN.out]; have := len_7000 HOK.out; omega)).mono ?_); rintro e w10 ⟨rfl, hr, hp, hb⟩; have HROW := Lib.hid hr; have HP10 := Lib.hid hp; have HB10 := Lib.hid hb; clear hr hp hb)
    | (go_at_call 11; (with_reducible refine (new_wo HP10.out cy).mono ?_); rintro e w11 ⟨X, rfl, hzk, hp, hb⟩; have HZK := Lib.hid hzk; have HP11 := Lib.hid hp; have HB11 := Lib.hid hb; clear hzk hp hb)
    | (go_at_call 12; (with_reducible refine (rnew_any (fun _ => False) cy _).mono ?_); rintro e w12 ⟨V, rfl, hzv, hb⟩; have HZV := Lib.hid hzv; have HB12 := Lib.hid hb; have hok := hzv.ok; have hsz := hzv.size; clear hzv hb)
    | fail)
  · go_ret
    exact ⟨rfl, HB.out.fin⟩
  have hm12 := HM.out
  obtain ⟨w7, hw7⟩ : ∃ w7, w7 = (w6.alloc (.cells #[.slice AA an ac, .int .i64 (packN c)] 36)) := ⟨_, rfl⟩
  have HAB : Hid (∀ w', Below w7.heap.size w7 w' → w'.cell? ⟨w6.heap.size, 0, none⟩ = some (.slice AA an ac) ∧ w'.cell? ⟨w6.heap.size, 1, none⟩ = some (.int .i64 (packN c))) := Lib.hid (fun w' hb => by rw [hw7] at hb; exact aboxA (by simpa using hb))
  have hia := HIA.out
  have hb7 := HB7.out
  have hp11 := HP11.out
  have hp10 := HP10.out
  have hpo := HPO.out
  rw [← hw7] at hm12 hp11 hp10 hpo hia hb7
  have hbw : ∀ w', Below w7.heap.size w7 w' → Bw w c w' := fun w' hb => hb7.step hb
  have hzp : ∃ O Dp cc, cc ≤ 2200 ∧ ZP S D N X w12.heap.size c w7 (new19w w12 V) O Dp V (wNew cy) (wNew cy) L L (some ⟨w8.heap.size, 0, none⟩) cc 0 := by
    obtain ⟨O, Dp, hzk, hdp, _, _⟩ := HZK.out
    obtain ⟨cc, cc0, cc1, hst⟩ := hp11.st
    have l := hpo.lt; have l10 := hp10.lt; have lo := hp11.lo
    have hz8 := HB10.out.size; have hz7 := hpo.bel.size
    have hO : ∀ b, O b → w10.heap.size ≤ b := fun b hb => hdp b (hzk.ins.2.1 b hb)
    have hb1 : Below w11.heap.size w11 (new19w w12 V) := below_step HB12.out HB12.out.size (new19_below HZV.out.ok)
    have zw := wkw_new HOK.out HCY.out
    exact ⟨O, Dp, cc, by omega, ZP.begin2 hb1 HB12.out.size (new19_row HZV.out.ok) hst cc0 hp11.bel hm12 HOK.out ⟨lo.1, lo.2.1⟩ hzk (fun b hb => by have := hdp b hb; exact ⟨by omega, by omega, by omega⟩) (HZV.out.below (new19_below HZV.out.ok)) (reads_fry HROW.out HB11.out l.1 l.2.1 hO) zw zw hp11.ww⟩
  obtain ⟨O, Dp, cc, hcc, hzp⟩ := hzp
  obtain ⟨AB, hAB⟩ : ∃ AB, AB = w6.heap.size := ⟨_, rfl⟩
  rw [← hAB] at HAB ⊢
  obtain ⟨YB, hYB⟩ : ∃ YB, YB = w12.heap.size := ⟨_, rfl⟩
  rw [← hYB] at hzp ⊢
  obtain ⟨RB, hRB⟩ : ∃ RB, RB = w8.heap.size := ⟨_, rfl⟩
  rw [← hRB] at hzp ⊢
  obtain ⟨W0, hW0⟩ : ∃ W0, W0 = new19w w12 V := ⟨_, rfl⟩
  rw [← hW0] at hzp ⊢
  obtain ⟨nL, hnL⟩ : ∃ nL, nL = L.length := ⟨_, rfl⟩
  rw [← hnL]
  have HLN : Hid (nL ≤ 7000) := Lib.hid (by rw [hnL, HLEN.out]; exact len_7000 HOK.out)
  have HNL := Lib.hid hnL
  have HAP := Lib.hid hzp; have HCC := Lib.hid hcc
  have HIA := Lib.hid hia; have HBW := Lib.hid hbw
  have ewk : IntKind.i64.wrap ((kn : Int) + 40) = (kn : Int) + 40 := IntWalk.i64_in _ (by omega)
  clear hzp hcc hok hsz hW0 hRB hYB hAB hw7 hia hb7 hp11 hp10 hpo hm12 hbw hnL HB7 HP11 HP10 HPO HZK HZV HB10 HB11 HB12 HM HROW HB HSS d1 d2
  go_wp2_with (fail)
  go_loopw [15, 18] (fun v i' wr => ∃ (k : Nat) (m : Wn) (O Dp : Nat → Prop) (V : Array Value) (L : List Int) (R : Option Addr) (cR : Nat) (cc : Int), k ≤ kn + 40 ∧ i' = .int .i64 (k : Int) ∧ v = .slice R nL cR ∧ nL = L.length ∧ cc ≤ 2200 + 2 * k ∧ ZP S D N X YB c w7 wr O Dp V m m L L R cc k) (fun _ i' _ => kn + 40 - (intOf i').toNat)
  case atStart => exact ⟨0, _, O, Dp, V, L, _, nL, cc, Nat.zero_le _, rfl, rfl, HNL.out, by have := HCC.out; omega, HAP.out⟩
  case round =>
    clear HAP HNL HCC HLEN
    obtain ⟨k, m, O, Dp, V, L, R, cR, cc, hk, rfl, rfl, hl1, hc, hs⟩ := hrel
    have H1 := Lib.hid hs
    by_cases hlt : k < kn + 40
    · have e1 : (k : Int) < (kn : Int) + 40 := by omega
      have HKK := Lib.hid hk; have HC := Lib.hid hc; have HL1 := Lib.hid hl1; have HKL := Lib.hid hlt; have HCK := Lib.hid hc
      have hk0 : (0 : Int) ≤ (k : Int) := by omega
      clear hs hk hl1 hc hlt
      go_upto_if 72 with (fail)
      go_cut [15, 19] (fun s15 s19 wx => ∃ (L' : List Int) (R' : Option Addr) (cR' : Nat) (cc' : Int), s15 = .slice R' nL cR' ∧ nL = L'.length ∧ cc' ≤ cc + 1 ∧ ZP S D N X YB c w7 wx O Dp V m m L' L' R' cc' k)
      case first =>
        by_cases hp : k < kn
        · obtain ⟨bp, offp, rfl, hbl, hcp⟩ := HRK.out (by have := HLK.out; omega)
          have hcj := hcp k (by have := HLK.out; omega)
          obtain ⟨g, hg⟩ : ∃ g, g = atP ks k := ⟨_, rfl⟩
          rw [← hg] at hcj
          have hgv : 0 ≤ g.v ∧ g.v ≤ 18446744073709551615 := by
            have hl := HLK.out
            have := HWK.out (atP ks k) (by unfold atP; rw [List.getD, List.getElem?_eq_getElem (by omega)]; exact List.getElem_mem (by omega))
            rw [hg]; exact this
          have hpc : ∀ w', Below w7.heap.size w7 w' → (w'.cell? ⟨bp, offp + k * 2, none⟩ = some (.int .i64 g.p) ∧ w'.cell? ⟨bp, offp + k * 2 + 1, none⟩ = some (.int .u64 g.v)) := fun w' hb =>
            ⟨((HBW.out _ hb).fin.cell (p := ⟨bp, offp + k * 2, none⟩) hbl).trans hcj.1, ((HBW.out _ hb).fin.cell (p := ⟨bp, offp + k * 2 + 1, none⟩) hbl).trans hcj.2⟩
          have HPC := Lib.hid hpc; have HGV := Lib.hid hgv
          have hp0 : (k : Int) < (kn : Int) := by omega
          obtain ⟨p0, p1⟩ := hpc _ H1.out.bel
          have hcc : cc ≤ 900000000 := by have := HC.out; have := HKK.out; omega
          have HCC9 := Lib.hid hcc
          clear hcp hcj hg hgv hpc hp hcc
          go_upto_if 79 with (fail)
          go_cut [19] (fun s wx => (∃ q : Int, s = .int .i64 q) ∧ wx = wr)
          case first =>
            by_cases hat : g.p > 8
            · have d5 : decide (g.p > 8) = true := by simpa using hat
              go_wp2_with (fail)
              go_meet
              exact ⟨⟨_, rfl⟩, rfl⟩
            · have d5 : decide (g.p > 8) = false := by simpa using hat
              go_wp2_with (fail)
              go_meet
              exact ⟨⟨_, rfl⟩, rfl⟩
          case rest =>
            obtain ⟨⟨q, rfl⟩, hwx⟩ := hcut
            subst hwx
            clear p0 p1
            obtain ⟨p0, p1⟩ := HPC.out _ H1.out.bel
            go_wp2_with (first
              | (go_at_call 13; (with_reducible refine (ZP.poke H1.out q g.v HGV.out HCC9.out).mono ?_); rintro r w25 ⟨rfl, h⟩; have HS9 := Lib.hid h; clear p0 p1; obtain ⟨p0, p1⟩ := HPC.out _ h.bel; clear h)
              | (go_at_call 14; (with_reducible refine (rput_any (Frx S D YB O) R nL cR L q g.v _ HL1.out (Nat.le_trans HLN.out (by decide)) HS9.out.rd HS9.out.far).mono ?_); rintro r w26 ⟨R3, cR3, rfl, hx, hb⟩; rw [ptv_eq] at hx; have HS10 := Lib.hid (HS9.out.newR hb hx HS9.out.ww); clear hx hb)
              | fail)
            go_meet
            exact ⟨ptq L q g.v, R3, cR3, cc + 1, rfl, by rw [pt_len]; exact HL1.out, by omega, HS10.out⟩
        · have hp0 : ¬ (k : Int) < (kn : Int) := by omega
          clear hp
          go_wp2_with (fail)
          go_meet
          exact ⟨L, R, cR, cc, rfl, HL1.out, by omega, H1.out⟩
      case rest =>
        clear H1 HL1 HC
        obtain ⟨LQ, RQ, cRQ, cq, rfl, hl1, hcq0, hs⟩ := hcut
        rename_i s19
        have H1 := Lib.hid hs; have HCQ0 := Lib.hid hcq0
        obtain ⟨L2, m2, hz⟩ : ∃ L2 m2, wstp (wOf c) LQ m = (L2, m2) := ⟨_, _, rfl⟩
        have hc0 := hs.c0
        have hcb : cq ≤ 2200 + 2 * (k : Int) + 1 := by have := HCQ0.out; have := HCK.out; omega
        have hkb := HKL.out
        have hst := hs.stepM (by omega) (by omega)
        have hl2 := wstp_len (wOf c) LQ m
        have hzw2 := (hs.aw.step hs.ok hs.ww)
        rw [hz] at hst hl2 hzw2
        dsimp only at hst hl2 hzw2
        obtain ⟨c2, hc2⟩ : ∃ c2, c2 = wcost m cq := ⟨_, rfl⟩
        obtain ⟨b, hb⟩ : ∃ b, b = decide (m2.pc = 0) := ⟨_, rfl⟩
        rw [← hc2, ← hb] at hst
        have hc3 : c2 ≤ cq + 1 := by rw [hc2]; unfold wcost; split <;> omega
        have hpb : ((m2.pc : Int) == 0) = b := by rw [hb]; by_cases h : m2.pc = 0 <;> simp [h]
        have hcq : (c2 == cq + 1) = decide (0 < m.pc) := by
          rw [hc2]; unfold wcost
          by_cases h : m.pc = 0
          · simp [h]; omega
          · rw [if_neg h]; simp; omega
        have HST := Lib.hid hst; have HZZ := Lib.hid hz; have HC3 := Lib.hid hc3; have HCB := Lib.hid hcb
        have HL1 := Lib.hid hl1; have HL2 : Hid (nL = L2.length) := Lib.hid (by omega)
        have HZ2 := Lib.hid hzw2
        have ew : IntKind.i64.wrap (cq + 1) = cq + 1 := IntWalk.i64_in _ (by omega)
        have hk9 : (k : Int) ≤ 1000000 := by omega
        clear hs hst hz hcb hc2 hc3 hb hl1 hl2 hc0 hzw2 hkb hcq0
        go_upto_region 25 with (first
          | (go_at_call 15; (with_reducible refine (ZP.count H1.out).mono ?_); rintro r w8 ⟨rfl, hw⟩; cases hw)
          | (go_at_call 16; (with_reducible refine HST.out.mono ?_); rintro r w9 ⟨rfl, O', D', h⟩; have HS1 := Lib.hid h; obtain ⟨y0, _⟩ := ZP.cells h; clear h)
          | fail)
        obtain ⟨wp, hwp⟩ : ∃ wp, wp = decide (0 < m.pc) := ⟨_, rfl⟩
        rw [← hwp] at hcq ⊢
        obtain ⟨t9, ht9⟩ : ∃ t9 : Int, t9 = (k : Int) + 1 := ⟨_, rfl⟩
        rw [← ht9] at HS1 HZ2
        have HT9 := Lib.hid ht9
        have HTT : Hid (t9 ≤ 900000000) := Lib.hid (by omega)
        clear y0 hwp ht9
        have hd := HS1.out.below (Below.refl _ _).drew
        have HD := Lib.hid hd
        have HBD := Lib.hid (Below.refl w9.heap.size w9).drew
        have HRS : Hid (∀ (Q : Nat → Prop) (W : World), Below w9.heap.size w9 W → (∀ b, W.heap.size ≤ b → Q b) → ReadsW Q W RQ LQ → ZV Q W m V → Calls Tryz.prog 17 #[aVal AA an ac (packN c), Lay.cfgV c, .slice RQ nL cRQ, .agg V] W (SomeZ Q W nL L2 m2)) := Lib.hid (fun Q W hb hQ hR hV => by
          have := rwstep_any HOK.out Q AA an ac (packN c) RQ nL cRQ LQ m V W (HIA.out.below (HS1.out.below hb).bel) HL1.out (Nat.le_trans HLN.out (by decide)) hR hQ hV HS1.out.awx HS1.out.wwx HTT.out
          rw [HZZ.out] at this
          exact this)
        have HRB : Hid (∀ (LB : Nat) (W : World), w9.heap.size ≤ LB → LB < W.heap.size → Below w9.heap.size w9 W → Calls Tryz.prog 17 #[aVal AA an ac (packN c), Lay.cfgV c, .slice RQ nL cRQ, .agg V] W (SomeZ (FrB (Frx S D YB O') LB) W nL L2 m2)) := Lib.hid (fun LB W h1 h2 hb => HRS.out (FrB (Frx S D YB O') LB) W hb ((HS1.out.below hb).farB h2) ((HS1.out.inB h1).1.below hb) ((HS1.out.inB h1).2.below hb))
        have HRA : Hid (∀ (W : World), Below w9.heap.size w9 W → Calls Tryz.prog 17 #[aVal AA an ac (packN c), Lay.cfgV c, .slice RQ nL cRQ, .agg V] W (SomeZ (Frx S D YB O') W nL L2 m2)) := Lib.hid (fun W hb => HRS.out (Frx S D YB O') W hb (HS1.out.below hb).far (HS1.out.below hb).rd (HS1.out.below hb).ym.v)
        have HSZA : Hid (∀ (W : World) (o : Obj), W.heap.size < (W.alloc o).heap.size) := Lib.hid (fun W o => by simp)
        obtain ⟨a0, a1⟩ := HAB.out _ hd.bel
        obtain ⟨q0, q1, q2, q3, q4, q5, q6, q7, q8, q9, q10, q11⟩ := (HBW.out _ hd.bel).cfg
        obtain ⟨hi0, hr0⟩ := hd.box
        have HSF : Hid (∀ W, Below w9.heap.size w9 W → ((W.cell? ⟨AB, 0, none⟩ = some (.slice AA an ac) ∧ W.cell? ⟨AB, 1, none⟩ = some (.int .i64 (packN c))) ∧ CfgC w.heap.size c W ∧ Is19 W YB ∧ row19 W YB = V)) := Lib.hid (fun W hb => ⟨HAB.out _ (HS1.out.below hb).bel, (HBW.out _ (HS1.out.below hb).bel).cfg, (HS1.out.below hb).box⟩)
        have HLY := Lib.hid HS1.out.ltY
        clear hd
        go_cut [23, 24] (fun s26 s27 wx => ZG S D N X YB c w7 O' D' V m2 m L2 L2 c2 t9 m2 nL s26 s27 wx)
        case first =>
          go_region_held3 (fun w' => (w'.cell? ⟨AB, 0, none⟩ = some (.slice AA an ac) ∧ w'.cell? ⟨AB, 1, none⟩ = some (.int .i64 (packN c))) ∧ CfgC w.heap.size c w' ∧ Is19 w' YB ∧ row19 w' YB = V)
            (first
              | (with_reducible exact HSF.out _ (below_step HB13.out HB13.out.size (new19_below hok)))
              | (with_reducible exact HSF.out _ (set19_below HB13.out (Nat.le_refl _) HLB.out hi13 hok))
              | (with_reducible exact HSF.out _ HB13.out)
              | (with_reducible exact HSF.out _ (below_alloc0 HB13.out _))
              | (with_reducible exact HSF.out _ HB12.out)
              | (with_reducible exact HSF.out _ (below_alloc0 HB12.out _))
              | (with_reducible exact HSF.out _ HBD.out)
              | (with_reducible exact HSF.out _ (below_alloc0 HBD.out _))
              | (with_reducible exact HSF.out _ (below_alloc0 (Below.refl _ _) _).drew)
              | go_keep)
            (first
              | (go_at_call 8; (with_reducible refine (Lay.model_any c _).mono ?_); rintro r w12 ⟨rfl, hb⟩; first
                  | (have HB12 := Lib.hid (below_step HBD.out HBD.out.size hb); clear hb)
                  | (have HBa := (below_alloc0 (Below.refl w9.heap.size w9) (.cells zero19 55)).drew; have HB12 := Lib.hid (below_step HBa HBa.size hb); have hiC := is19_new.drew.below hb; have HLB := Lib.hid (Nat.le_refl w9.heap.size); have HB12L := Lib.hid (Nat.lt_of_lt_of_le (HSZA.out w9 (.cells zero19 55)) hb.size); clear hb HBa))
              | (go_at_call 17; have hiQ := hiC; (with_reducible refine (HRB.out w9.heap.size _ (Nat.le_refl _) (HB12L.out) HB12.out).mono ?_); rintro r w13 ⟨R2, cR2, V2, rfl, hr, hv, hb⟩; have HB13 := Lib.hid (below_step HB12.out HB12.out.size hb); have HR2 := Lib.hid hr; have HV2 := Lib.hid hv; have hok := hv.ok; have hsz := hv.size; have hi13 := hiC.below hb; clear hr hv hb hiC hiQ)
              | (go_at_call 17; (with_reducible refine (HRA.out _ HB12.out).mono ?_); rintro r w13 ⟨R2, cR2, V2, rfl, hr, hv, hb⟩; have HB13 := Lib.hid (below_step HB12.out HB12.out.size hb); have HR2 := Lib.hid hr; have HV2 := Lib.hid hv; have hok := hv.ok; have hsz := hv.size; clear hr hv hb)
              | (go_at_call 17; (with_reducible refine (HRB.out w12.heap.size _ HB12.out.size (HSZA.out _ _) (below_alloc0 HB12.out _)).mono ?_); rintro r w13 ⟨R2, cR2, V2, rfl, hr, hv, hb⟩; have HB13 := Lib.hid (below_step (below_alloc0 HB12.out _) (below_alloc0 HB12.out _).size hb); have HLB := Lib.hid (show w9.heap.size ≤ w12.heap.size from HB12.out.size); have HR2 := Lib.hid hr; have HV2 := Lib.hid hv; have hok := hv.ok; have hsz := hv.size; have hi13 := is19_new.below hb; clear hr hv hb)
              | fail)
          all_goals go_wp2_with (fail)
          all_goals go_meet
          all_goals (first
            | exact zg_a (HS1.out.below HB13.out) HR2.out HV2.out HS1.out.ww
            | exact zg_b HS1.out HB13.out HLB.out hi13 HR2.out HV2.out HS1.out.ww)
        case rest =>
          clear a0 a1 q0 q1 q2 q3 q4 q5 q6 q7 q8 q9 q10 q11 hi0 hr0 HRB HRA HRS HSF HD HBD HSZA
          obtain ⟨R2, cR2, V2, Y2, rfl, rfl, hzp, hy2, hv2⟩ := hcut
          have HS2 := Lib.hid hzp; have HY2 := Lib.hid hy2; have HV2 := Lib.hid hv2
          clear hzp hy2 hv2 HS1
          go_upto_region 28 with (first
            | (refine wpList_loadZ rfl (.tmp 24) rfl Y2 V2 rfl HY2.out HV2.out.size ?_)
            | (refine wpList_storeZ rfl (.tmp 17) (.tmp 118) rfl YB V V2 rfl rfl HS2.out.ym.bx HS2.out.ym.v.size HV2.out.size HV2.out.one ?_)
            | fail)
          have hs4 := HS2.out.putY HV2.out HZ2.out.1
          obtain ⟨W4, hW4⟩ : ∃ W4, W4 = wc.setCells YB 0 V2.toList := ⟨_, rfl⟩
          rw [← hW4] at hs4 ⊢
          have HS5 := Lib.hid (hs4.below (Below.refl _ _).drew)
          have HLn : Hid (L2.length ≤ 1000000) := Lib.hid (by have := HL2.out; have := HLN.out; omega)
          obtain ⟨mp2, hmp⟩ : ∃ x : Int, x = (m2.pc : Int) := ⟨_, rfl⟩
          obtain ⟨pt2, hpt⟩ : ∃ x : Int, x = m2.part := ⟨_, rfl⟩
          obtain ⟨ek2, hek⟩ : ∃ x : Int, x = m2.ek := ⟨_, rfl⟩
          obtain ⟨ea2, hea⟩ : ∃ x : Int, x = m2.ea := ⟨_, rfl⟩
          rw [← hmp] at hpb
          have HEV : Hid (evA m2.ek m2.ea = evA ek2 ea2) := Lib.hid (by rw [hek, hea])
          have HPT := Lib.hid hpt
          have HCE : Hid (∀ (W : World) (O Dp : Nat → Prop) (V : Array Value) (L LR : List Int) (R : Option Addr) (cc t : Int), ZP S D N X YB c w7 W O Dp V m2 m2 L LR R cc t → W.cell? ⟨YB, 0, none⟩ = some (.int .i64 mp2) ∧ W.cell? ⟨YB, 3, none⟩ = some (.int .i64 pt2) ∧ W.cell? ⟨YB, 14, none⟩ = some (.int .i64 ek2) ∧ W.cell? ⟨YB, 15, none⟩ = some (.int .i64 0) ∧ W.cell? ⟨YB, 16, none⟩ = some (.int .i64 ea2) ∧ W.cell? ⟨YB, 17, none⟩ = some (.int .i64 0) ∧ W.cell? ⟨YB, 18, none⟩ = some (.int .i64 0)) := Lib.hid (fun W O Dp V L LR R cc t h => by rw [hmp, hpt, hek, hea]; exact h.cells)
          obtain ⟨y0, y3, y14, y15, y16, y17, y18⟩ := HCE.out _ _ _ _ _ _ _ _ _ hs4
          clear hW4 hs4 HS2 HY2 HV2 hmp hpt hek hea
          go_wp2_with (fail)
          go_region_held3 (fun w' => w'.cell? ⟨YB, 0, none⟩ = some (.int .i64 mp2) ∧ w'.cell? ⟨YB, 3, none⟩ = some (.int .i64 pt2) ∧ w'.cell? ⟨YB, 14, none⟩ = some (.int .i64 ek2) ∧ w'.cell? ⟨YB, 15, none⟩ = some (.int .i64 0) ∧ w'.cell? ⟨YB, 16, none⟩ = some (.int .i64 ea2) ∧ w'.cell? ⟨YB, 17, none⟩ = some (.int .i64 0) ∧ w'.cell? ⟨YB, 18, none⟩ = some (.int .i64 0))
            (first | (with_reducible exact HCE.out _ _ _ _ _ _ _ _ _ HS8.out) | (with_reducible exact HCE.out _ _ _ _ _ _ _ _ _ HS7.out) | (with_reducible exact HCE.out _ _ _ _ _ _ _ _ _ HS6.out) | (with_reducible exact HCE.out _ _ _ _ _ _ _ _ _ HS5.out) | fail)
            (first
              | (go_at_call 18; (with_reducible refine (ZP.partM HS5.out).mono ?_); rintro r w19 ⟨rfl, hw⟩; cases hw; rw [← HPT.out])
              | (go_at_call 19; (with_reducible refine (ZP.event HS5.out).mono ?_); rintro r w20 ⟨rfl, h⟩; rw [HEV.out]; have HS6 := Lib.hid h; clear h)
              | (go_at_call 10; (with_reducible refine (ZP.all HS6.out HLn.out).mono ?_); rintro r w21 ⟨rfl, hr, h⟩; have HS7 := Lib.hid h; have HRA := Lib.hid hr; clear h hr)
              | (go_at_call 20; (with_reducible refine (same_lenA _ _ _ _ nL L2 _ HL2.out HRA.out HS7.out.rd.reads HLn.out).mono ?_); rintro r w22 ⟨rfl, hb⟩; have HS8 := Lib.hid (HS7.out.below hb); clear hb)
              | (go_at_call 15; (with_reducible refine (ZP.count HS8.out).mono ?_); rintro r w23 ⟨rfl, hw⟩; cases hw)
              | fail)
          clear ew y0 y3 y14 y15 y16 y17 y18 HS5 HS6 HS7 HRA HCE HEV hcq hpb
          have hs8 := HS8.out
          rw [HT9.out] at hs8
          have HS8 := Lib.hid hs8
          clear hs8 HT9 HTT HZ2
          go_wp2_with (fail)
          go_roundw
          case rel =>
            have hkk := HKL.out; have hcb := HCB.out; have hc3 := HC3.out
            have q1 : k + 1 ≤ kn + 40 := by omega
            have q2 : c2 ≤ 2200 + 2 * ((k + 1 : Nat) : Int) := by omega
            have q3 : ZP S D N X YB c w7 w22 O' D' V2 m2 m2 L2 L2 R2 c2 ((k + 1 : Nat) : Int) := HS8.out
            exact ⟨k + 1, m2, O', D', V2, L2, R2, cR2, c2, q1, by go_num, rfl, HL2.out, q2, q3⟩
          case measure => simp [intOf]; have := HKL.out; omega
    · obtain rfl : k = kn + 40 := by omega
      have e1 : ¬ ((kn + 40 : Nat) : Int) < (kn : Int) + 40 := by omega
      clear hs hlt hl1 hc hk
      go_wp2_with (first
        | (go_at_call 16; (with_reducible refine (sstep_nil _ _).mono ?_); rintro r w30 ⟨rfl, hw⟩; cases hw)
        | (go_at_call 18; (with_reducible refine (partW_nil _).mono ?_); rintro r w30 ⟨rfl, hw⟩; cases hw)
        | (go_at_call 19; (with_reducible refine (eventW_nil _).mono ?_); rintro r w31 ⟨rfl, hb⟩; have HS2 := Lib.hid (H1.out.below hb); clear hb)
        | (go_at_call 11; (with_reducible refine (newS_nil cy _).mono ?_); rintro r w32 ⟨X2, rfl, hX2, hz2, hb⟩; have HS3 := Lib.hid (HS2.out.below hb); have HX2 := Lib.hid hX2; have HZ2 := Lib.hid hz2; clear hX2 hz2 hb)
        | (go_at_call 16; (with_reducible refine (sstep_off _ HZ2.out rfl).mono ?_); rintro r w33 ⟨rfl, _, hu⟩; have HU := Lib.hid hu; clear hu)
        | fail)
      go_ret
      have hbl : Below w7.heap.size w7 w33 := below_uf HS3.out.bel (Nat.le_refl _) HU.out (fun b e => by subst e; have := HX2.out; have := HS2.out.bel.size; omega)
      refine ⟨?_, (HBW.out _ hbl).fin⟩
      first | rfl | simp
end Go.Proofs.YtbpkcoemehmpbaaGreat
