/-  -/
import Derived.Test.YthoiaffeenhfgaaGreatLayFirst
import Derived.Test.YthoiaffeenhfgaaGreatJ11
import Derived.Test.YthoiaffeenhfgaaGreatJ1
import Derived.Test.YthoiaffeenhfgaaGreatJ21
import Derived.Laws.StructEq
namespace Go.Proofs.YthoiaffeenhfgaaGreat.Lay
open Go.RowKit
set_option linter.unusedVariables false
def clsE (c : Cfg) (k : Int) : Int := imin (rF c k + rM c k) (nodesN c) - 1
theorem imin_le (x y : Int) : imin x y ≤ x ∧ imin x y ≤ y ∧ (imin x y = x ∨ imin x y = y) := by unfold imin; omega
theorem ite_c {p : Prop} {d1 d2 : Decidable p} {α : Type} (x y z : α) (h : y = z) : (@ite α p d1 x y) = (@ite α p d2 x z) := by
  subst h; by_cases hp : p <;> simp [hp]
theorem fv_head (c : Cfg) (k : Nat) (hk : k < 5) : firstV c ⟨7, (k : Int), 0⟩ = if rF c k ≤ clsE c k then rF c k else 0 := by
  match k, hk with
  | 0, _ => simp [firstV, stkV, VV, baseV, isTh, clsE]; exact ite_c _ _ _ rfl
  | 1, _ => simp [firstV, stkV, VV, baseV, isTh, clsE]; exact ite_c _ _ _ rfl
  | 2, _ => simp [firstV, stkV, VV, baseV, isTh, clsE]; exact ite_c _ _ _ rfl
  | 3, _ => simp [firstV, stkV, VV, baseV, isTh, clsE]; exact ite_c _ _ _ rfl
  | 4, _ => simp [firstV, stkV, VV, baseV, isTh, clsE]; exact ite_c _ _ _ rfl
theorem cls_five {c : Cfg} (h : OkC c) (k : Nat) (hk : k < 5) : 0 ≤ sumTo c k ∧ 0 ≤ rM c k ∧ rM c k ≤ 12 ∧ sumTo c k + rM c k ≤ nodesN c ∧ rF c k = 1 + sumTo c k ∧ sumTo c (k + 1) = sumTo c k + rM c k := by
  have a0 := h.a0; have b0 := h.b0; have c0 := h.c0; have d0 := h.d0; have e0 := h.e0
  have a1 := h.a1; have b1 := h.b1; have c1 := h.c1; have d1 := h.d1; have e1 := h.e1
  have hn : nodesN c = c.a + c.b + c.c + c.d + c.e := rfl
  match k, hk with
  | 0, _ => simp [sumTo, cnt, rM, rF]; omega
  | 1, _ => simp [sumTo, cnt, rM, rF]; omega
  | 2, _ => simp [sumTo, cnt, rM, rF]; omega
  | 3, _ => simp [sumTo, cnt, rM, rF]; omega
  | 4, _ => simp [sumTo, cnt, rM, rF]; omega
end Go.Proofs.YthoiaffeenhfgaaGreat.Lay

namespace Go.Proofs.YthoiaffeenhfgaaGreat
open Go.RowKit
set_option linter.unusedVariables false
open Lay (plcc plc shOf packN nodesN OkC Cfg Norm firstV Rep lenL)
def spK (c : Cfg) : Sk := ⟨plcc c 5 0 0, lnkL c⟩
def poK (c : Cfg) : Sk := ⟨plcc c 4 0 0, lnkL c⟩
def gOf (c : Cfg) : Pg := ⟨spK c, poK c, fun x j => plcc c 13 x j, fun x => plcc c 11 x 0⟩
def pkn (c : Cfg) : Nat := (packN c).toNat
theorem pkn_is {c : Cfg} (hc : OkC c) : ((pkn c : Nat) : Int) = packN c := by have := (Lay.bds hc).p0; unfold pkn; omega
theorem nrm (k a b : Int) (h6 : 0 ≤ k) (h18 : k ≤ 18) (ha : k ≤ 5 → a = 0) (hb : k ≠ 10 → k ≠ 13 → k ≠ 18 → b = 0) : Norm ⟨k, a, b⟩ := ⟨h6, h18, ha, hb⟩
theorem one_place {c : Cfg} {k a b k' a' b' : Int} (h : Norm ⟨k, a, b⟩) (h' : Norm ⟨k', a', b'⟩) (h0 : 0 ≤ plcc c k a b) (e : plcc c k a b = plcc c k' a' b') : k = k' ∧ a = a' ∧ b = b' := by
  have := Lay.plc_inj (s := shOf c) h h' h0 e.symm
  injection this with e1 e2 e3
  exact ⟨e1.symm, e2.symm, e3.symm⟩
theorem pos11 {c : Cfg} (hc : OkC c) {x : Int} (h1 : 1 ≤ x) (h2 : x ≤ packN c) : 0 ≤ plcc c 11 x 0 := by
  have := (Lay.bds hc).t4
  rw [← Lay.plc_many hc x, Lay.wordL, if_pos (by omega)]; omega
theorem pos12 {c : Cfg} (hc : OkC c) {x : Int} (h1 : 1 ≤ x) (h2 : x ≤ packN c) : 0 ≤ plcc c 12 x 0 := Lay.link_pos hc x h1 h2
theorem pos13 {c : Cfg} (hc : OkC c) {x j : Int} (h1 : 1 ≤ x) (h2 : x ≤ packN c) (h3 : 0 ≤ j) (h4 : j < 4) : 0 ≤ plcc c 13 x j := by
  have := (Lay.bds hc).t4
  rw [← Lay.plc_task hc x j, Lay.itemL, if_pos (by omega), Lay.wordL, if_pos (by omega)]; omega
theorem gk_of {c : Cfg} (hc : OkC c) (h : Int) (h5 : h = 4 ∨ h = 5) : Gk (pkn c) (lenL (shOf c)) ⟨plcc c h 0 0, lnkL c⟩ := by
  have hn := pkn_is hc
  have hb := (Lay.bds hc).p1
  have e : plcc c h 0 0 = h := Lay.single_pos c h (by omega) (by omega)
  refine ⟨by omega, ⟨by show 0 ≤ plcc c h 0 0; omega, Lay.plc_lt (nrm h 0 0 (by omega) (by omega) (fun _ => rfl) (fun _ _ _ => rfl)) (by show 0 ≤ plcc c h 0 0; omega)⟩, fun x h1 h2 => ?_, fun x y h1 h2 h3 h4 he => ?_⟩
  · show 0 ≤ atOf (lnkL c) x ∧ atOf (lnkL c) x < _ ∧ atOf (lnkL c) x ≠ plcc c h 0 0
    rw [lnk_at hc]
    have p := pos12 hc h1 (by omega)
    have nx : Norm ⟨12, x, 0⟩ := nrm 12 x 0 (by omega) (by omega) (fun h => by omega) (fun _ _ _ => rfl)
    refine ⟨p, Lay.plc_lt nx p, fun he => ?_⟩
    have := one_place nx (nrm h 0 0 (by omega) (by omega) (fun _ => rfl) (fun _ _ _ => rfl)) p he
    omega
  · have he' : atOf (lnkL c) x = atOf (lnkL c) y := he
    rw [lnk_at hc, lnk_at hc] at he'
    have nx : ∀ z, Norm ⟨12, z, 0⟩ := fun z => nrm 12 z 0 (by omega) (by omega) (fun h => by omega) (fun _ _ _ => rfl)
    exact (one_place (nx x) (nx y) (pos12 hc h1 (by omega)) he').2.1
theorem gp_of {c : Cfg} (hc : OkC c) : Gp (pkn c) (lenL (shOf c)) (gOf c) := by
  have hn := pkn_is hc
  have e4 : plcc c 4 0 0 = 4 := Lay.single_pos c 4 (by omega) (by omega)
  have e5 : plcc c 5 0 0 = 5 := Lay.single_pos c 5 (by omega) (by omega)
  have n0 : ∀ h : Int, 0 ≤ h → h ≤ 5 → Norm ⟨h, 0, 0⟩ := fun h h1 h2 => nrm h 0 0 h1 (by omega) (fun _ => rfl) (fun _ _ _ => rfl)
  have n1 : ∀ k z : Int, 6 ≤ k → k ≤ 18 → Norm ⟨k, z, 0⟩ := fun k z h1 h2 => nrm k z 0 (by omega) h2 (fun h => by omega) (fun _ _ _ => rfl)
  have n3 : ∀ z j : Int, Norm ⟨13, z, j⟩ := fun z j => nrm 13 z j (by omega) (by omega) (fun h => by omega) (fun _ h _ => absurd rfl h)
  refine ⟨gk_of hc 5 (.inr rfl), gk_of hc 4 (.inl rfl), rfl, by show plcc c 5 0 0 ≠ plcc c 4 0 0; omega, ?_, ?_, ?_, ?_, ?_, ?_, ?_⟩
  · intro x j h1 h2 h3 h4
    have p := pos13 hc h1 (by omega) h3 h4
    refine ⟨p, Lay.plc_lt (n3 x j) p, fun he => ?_, fun he => ?_⟩
    · have := one_place (n3 x j) (n0 5 (by omega) (by omega)) p he; omega
    · have := one_place (n3 x j) (n0 4 (by omega) (by omega)) p he; omega
  · intro x j y h1 h2 h3 h4 h5 h6 he
    have he' : plcc c 13 x j = atOf (lnkL c) y := he
    rw [lnk_at hc] at he'
    have := one_place (n3 x j) (n1 12 y (by omega) (by omega)) (pos13 hc h1 (by omega) h3 h4) he'; omega
  · intro x j y h1 h2 h3 h4 h5 h6 he
    have := one_place (n3 x j) (n1 11 y (by omega) (by omega)) (pos13 hc h1 (by omega) h3 h4) he; omega
  · intro x j y i h1 h2 h3 h4 h5 h6 h7 h8 he
    have := one_place (n3 x j) (n3 y i) (pos13 hc h1 (by omega) h3 h4) he
    exact this.2
  · intro x h1 h2
    have p := pos11 hc h1 (by omega)
    refine ⟨p, Lay.plc_lt (n1 11 x (by omega) (by omega)) p, fun he => ?_, fun he => ?_⟩
    · have := one_place (n1 11 x (by omega) (by omega)) (n0 5 (by omega) (by omega)) p he; omega
    · have := one_place (n1 11 x (by omega) (by omega)) (n0 4 (by omega) (by omega)) p he; omega
  · intro x y h1 h2 h3 h4 he
    have he' : plcc c 11 x 0 = atOf (lnkL c) y := he
    rw [lnk_at hc] at he'
    have := one_place (n1 11 x (by omega) (by omega)) (n1 12 y (by omega) (by omega)) (pos11 hc h1 (by omega)) he'; omega
  · intro x y h1 h2 h3 h4 he
    exact (one_place (n1 11 x (by omega) (by omega)) (n1 11 y (by omega) (by omega)) (pos11 hc h1 (by omega)) he).2.1
end Go.Proofs.YthoiaffeenhfgaaGreat

namespace Go.Proofs.YthoiaffeenhfgaaGreat
open Go.RowKit
set_option linter.unusedVariables false
set_option linter.unusedSimpArgs false
open Lay (plcc plc shOf OkC wordL kindOf)
set_option maxHeartbeats 1000000 in
theorem nowhere_any (w : World) : Calls Tryz.prog 198 #[] w fun e w' => e = .returned (.agg #[.int .i64 (-1), .int .i64 (-1)]) ∧ Below w.heap.size w w' := by
  go_enter Tryz.func198, Tryz.ntmps198
  go_wp2
  exact bodyPost_ret (v := .agg #[.int .i64 (-1), .int .i64 (-1)]) (by simp [results, Tryz.results198, go_sem]) rfl ⟨rfl, below_alloc0 (Below.refl _ _) _⟩
def Nb (w w' : World) (X : Nat) (wk p cy : Int) (nx : Value) : Prop := Cb w' X wk p cy nx 0 false ∧ w.heap.size ≤ X ∧ Below w.heap.size w w'
section
variable {w w' w2 : World} {X : Nat} {wk p cy : Int} {nx : Value}
theorem Nb.start {w0 : World} (hb : Below w.heap.size w w0) : Nb w (w0.alloc (.cells #[.int .i64 wk, .int .i64 p, .int .u64 cy, nx, .int .u64 0, .bool false] 183)) w0.heap.size wk p cy nx :=
  ⟨Go.heap_alloc_new _ _, hb.size, below_alloc0 hb _⟩
theorem Nb.step (h : Nb w w' X wk p cy nx) (hb : Below w'.heap.size w' w2) : Nb w w2 X wk p cy nx := ⟨(hb.block X h.1.lt).trans h.1, h.2.1, below_then h.2.2 hb⟩
theorem Nb.drew (h : Nb w w' X wk p cy nx) : Nb w w'.drew X wk p cy nx := h.step (Below.refl _ _).drew
theorem Nb.cc (h : Nb w w' X wk p cy nx) : w'.cell? ⟨X, 0, none⟩ = some (.int .i64 wk) ∧ w'.cell? ⟨X, 1, none⟩ = some (.int .i64 p) := ⟨h.1.c0, h.1.c1⟩
theorem Nb.p3 (h : Nb w w' X wk p cy nx) (y : Value) : Nb w (w'.setCell ⟨X, 3, none⟩ y) X wk p cy y := ⟨h.1.put 3 _ rfl, h.2.1, h.2.2.setCell h.2.1 _⟩
end
set_option maxHeartbeats 4000000 in
theorem newm_any {c : Lay.Cfg} (hc : OkC c) (N : Nat) (v cy : Int) (hv : (Lit.int .i64 v).wf = true) (w : World) (hm : Lay.IsMap w N c) :
    Calls Tryz.prog 191 #[Lay.mapP N, .int .i64 v, .int .u64 cy] w fun e w' => ∃ X, e = .returned (ptr X) ∧ Nb w w' X (plcc c 1 0 0) (plcc c 16 v 0) cy (fnc 199 X) := by
  have hmf : ∀ (fn : Fn) (first cap : Array Value) (w : World), (Instr.makeFunc fn first cap).run Tryz.prog w = .ok (.func fn first cap) w := fun _ _ _ _ => rfl
  have HC := Lib.hid hc; have HM := Lib.hid hm; have HV := Lib.hid hv
  have e1 : plcc c 1 0 0 = 1 := Lay.single_pos c 1 (by omega) (by omega)
  rw [e1]
  obtain ⟨p, hp⟩ : ∃ p, p = plcc c 16 v 0 := ⟨_, rfl⟩
  rw [← hp]
  have HP := Lib.hid hp
  clear hc hm hv e1 hp
  go_enter Tryz.func191, Tryz.ntmps191
  go_wp2_with (first
    | (go_at_call 29; (with_reducible refine (Lay.work_m HC.out N _ HM.out).mono ?_); rintro r w1 ⟨rfl, hb⟩; rw [show plcc c 1 0 0 = 1 from Lay.single_pos c 1 (by omega) (by omega)]; have HB1 := Lib.hid hb; have HM1 := Lib.hid (HM.out.below hb); clear hb)
    | (go_at_call 27; (with_reducible refine (Lay.mark_m HC.out N _ HV.out _ HM1.out).mono ?_); rintro r w2 ⟨rfl, hb⟩; rw [← HP.out]; have HNB := Lib.hid (Nb.start (wk := 1) (p := p) (cy := cy) (nx := .nilFunc) (below_then HB1.out hb)); clear hb)
    | fail)
  obtain ⟨X, hX⟩ : ∃ X, X = w2.heap.size := ⟨_, rfl⟩
  rw [← hX] at HNB ⊢
  obtain ⟨W, hW⟩ : ∃ W, W = w2.alloc (Obj.cells #[.int .i64 1, .int .i64 p, .int .u64 cy, .nilFunc, .int .u64 0, .bool false] 183) := ⟨_, rfl⟩
  rw [← hW] at HNB ⊢
  clear hX hW HB1
  have HND := Lib.hid HNB.out.drew
  obtain ⟨r0, r1⟩ := HNB.out.cc
  go_region_held3 (fun w' => w'.cell? ⟨X, 0, none⟩ = some (.int .i64 1) ∧ w'.cell? ⟨X, 1, none⟩ = some (.int .i64 p))
    (first | exact H1.out.cc | exact HND.out.cc | go_keep)
    (first
      | (go_at_call 198; (with_reducible refine (nowhere_any _).mono ?_); rintro r w3 ⟨rfl, hb⟩; have H1 := Lib.hid (HND.out.step hb); clear hb)
      | fail)
  have q3 := H1.out.1.c3; have f3 := H1.out.1.f 3
  have H2 := Lib.hid (H1.out.p3 (fnc 199 X))
  go_wp2
  go_ret
  exact ⟨_, rfl, H2.out⟩
end Go.Proofs.YthoiaffeenhfgaaGreat

namespace Go.Proofs.YthoiaffeenhfgaaGreat
open Go.RowKit
set_option linter.unusedVariables false
set_option linter.unusedSimpArgs false
set_option maxRecDepth 100000
theorem ldv_cl (L : List Int) (p : Int) : ldv L p = ldc L p := by unfold ldv ldc inB; by_cases h : 0 ≤ p ∧ p < L.length <;> simp [h]
theorem ptv_cl (L : List Int) (p v : Int) : ptv L p v = ptc L p v := by unfold ptv ptc inB; by_cases h : 0 ≤ p ∧ p < L.length <;> simp [h]
theorem adv_eq (L : List Int) (p d : Int) : adv L p d = adc L p d := by unfold adv adc; rw [ptv_cl, ldv_cl, IntKind.wrap_u64]
theorem sw_yes {L : List Int} {p o v : Int} (h : (0 ≤ p ∧ p < L.length) ∧ L.getD p.toNat 0 = o) : swB L p o = true ∧ swv L p o v = ptc L p v := by
  have e : swB L p o = true := by
    have e1 : inB L p = true := by unfold inB; exact decide_eq_true h.1
    unfold swB; rw [e1, h.2]; simp
  refine ⟨e, ?_⟩
  unfold swv ptc; rw [if_pos e, if_pos h.1]
theorem sw_no {L : List Int} {p o v : Int} (h : ¬ ((0 ≤ p ∧ p < L.length) ∧ L.getD p.toNat 0 = o)) : swB L p o = false ∧ swv L p o v = L := by
  have e : swB L p o = false := by
    unfold swB inB
    by_cases h1 : 0 ≤ p ∧ p < L.length
    · have h2 : ¬ L.getD p.toNat 0 = o := fun h2 => h ⟨h1, h2⟩
      simp only [decide_eq_false h2, Bool.and_false]
    · simp only [decide_eq_false h1, Bool.false_and]
  refine ⟨e, ?_⟩
  unfold swv; rw [e]; simp
theorem eqin_fnc (d f M : Nat) (w : World) : (Op.equalIn (d + 1) 104 (fnc f M) .nilFunc).run Tryz.prog w = .ok false w := by
  simp [Op.equalIn, go_sem, Tryz.underlying104]
theorem eqin_nilc (d : Nat) (w : World) : (Op.equalIn (d + 1) 104 .nilFunc .nilFunc).run Tryz.prog w = .ok true w := by
  simp [Op.equalIn, go_sem, Tryz.underlying104]
@[go_sem] theorem eql_fnc (f M : Nat) (w : World) : (binOp .eql 104 (fnc f M) .nilFunc).run Tryz.prog w = .ok (.bool false) w := by
  have h : (Op.equal 104 (fnc f M) .nilFunc).run Tryz.prog w = .ok false w := eqin_fnc 9999 f M w
  simp only [binOp]
  simp [go_sem, h]
@[go_sem] theorem eql_nilc (w : World) : (binOp .eql 104 .nilFunc .nilFunc).run Tryz.prog w = .ok (.bool true) w := by
  have h : (Op.equal 104 .nilFunc .nilFunc).run Tryz.prog w = .ok true w := eqin_nilc 9999 w
  simp only [binOp]
  simp [go_sem, h]
set_option maxHeartbeats 1000000 in
theorem cstep_raw (w : World) (X S f : Nat) (c3 : w.cell? ⟨X, 3, none⟩ = some (fnc f X)) (hen : ∀ a w, (callFunc f a).run Tryz.prog w = .ok (.enter f a) w) (b : Bool) (Q : World → Prop)
    (HN : Calls Tryz.prog f #[ptr X, ptr S] w fun e w' => e = .returned (.tuple #[]) ∧ Q w') (hQ : ∀ w', Q w' → (b = true ∧ w'.cell? ⟨X, 3, none⟩ = some .nilFunc) ∨ (b = false ∧ ∃ f', w'.cell? ⟨X, 3, none⟩ = some (fnc f' X))) :
    Calls Tryz.prog 200 #[ptr X, ptr S] w fun e w' => e = .returned (.bool b) ∧ Q w' := by
  cases b
  · have HNN := Lib.hid HN; have HQ := Lib.hid hQ; clear HN hQ
    go_enter Tryz.func200, Tryz.ntmps200
    go_wp2_with (first
      | ((with_reducible refine HNN.out.mono ?_); rintro r w1 ⟨rfl, hk⟩; have HK := Lib.hid hk; obtain ⟨f', d4⟩ : ∃ f', w1.cell? ⟨X, 3, none⟩ = some (fnc f' X) := (by rcases HQ.out w1 hk with ⟨h, _⟩ | ⟨_, h⟩; cases h; exact h); clear hk)
      | fail)
    go_ret
    exact ⟨rfl, HK.out⟩
  · have HNN := Lib.hid HN; have HQ := Lib.hid hQ; clear HN hQ
    go_enter Tryz.func200, Tryz.ntmps200
    go_wp2_with (first
      | ((with_reducible refine HNN.out.mono ?_); rintro r w1 ⟨rfl, hk⟩; have HK := Lib.hid hk; have d4 : w1.cell? ⟨X, 3, none⟩ = some .nilFunc := (by rcases HQ.out w1 hk with ⟨_, h⟩ | ⟨h, _⟩; exact h; cases h); clear hk)
      | fail)
    go_ret
    exact ⟨rfl, HK.out⟩
set_option maxHeartbeats 1000000 in
theorem cstep_off (w : World) (X : Nat) (v : Value) (c3 : w.cell? ⟨X, 3, none⟩ = some .nilFunc) :
    Calls Tryz.prog 200 #[ptr X, v] w fun e w' => e = .returned (.bool true) ∧ w = w' := by
  go_enter Tryz.func200, Tryz.ntmps200
  go_wp2
  go_ret
  exact ⟨rfl, rfl⟩
set_option maxHeartbeats 1000000 in
theorem won_raw (w : World) (X : Nat) (b : Bool) (c5 : w.cell? ⟨X, 5, none⟩ = some (.bool b)) : Calls Tryz.prog 208 #[ptr X] w fun e w' => e = .returned (.bool b) ∧ w = w' := by
  go_enter Tryz.func208, Tryz.ntmps208
  go_wp2
  go_ret
  exact ⟨rfl, rfl⟩
def CM (w : World) (X : Nat) (wk : Int) (m : Cm) : Prop := Cb w X wk m.p m.cy (nxV X m.pc) m.k m.won ∧ m.pc ≤ 4 ∧ (m.pc ≠ 0 → m.won = false)
def ccost (m : Cm) (cc : Int) : Int := if m.pc = 0 then cc else cc + 1
section
variable {w w' : World} {X S D : Nat} {wk : Int} {m : Cm} {L : List Int} {cc : Int}
theorem CM.lt (h : CM w X wk m) : X < w.heap.size := h.1.lt
theorem CM.keep (h : CM w X wk m) (k : w'.heap[X]? = w.heap[X]?) : CM w' X wk m := ⟨k.trans h.1, h.2⟩
theorem CM.new {p cy : Int} (h : Nb w w' X wk p cy (fnc 199 X)) : CM w' X wk (cNew p cy) := ⟨h.1, by simp [cNew], fun _ => rfl⟩
def Bhd (w : World) (X S D : Nat) (wk : Int) (L : List Int) (cc : Int) (m : Cm) (w' : World) : Prop := CM w' X wk m ∧ St w' S D L cc ∧ UF (fun b => b = X ∨ b = S ∨ b = D) w w'
theorem Bhd.of {p cy k : Int} {nx : Value} {won : Bool} (h : Cs w w' X S D wk p cy nx k won L cc) (e1 : m.p = p) (e2 : m.cy = cy) (e3 : nxV X m.pc = nx) (e4 : m.k = k) (e5 : m.won = won) (e6 : m.pc ≤ 4) (e7 : m.pc ≠ 0 → m.won = false) : Bhd w X S D wk L cc m w' := by
  subst e1 e2 e3 e4 e5
  exact ⟨⟨h.mem, e6, e7⟩, h.st, h.u⟩
theorem Bhd.end (h : Bhd w X S D wk L cc m w') : (decide (m.pc = 0) = true ∧ w'.cell? ⟨X, 3, none⟩ = some .nilFunc) ∨ (decide (m.pc = 0) = false ∧ ∃ f', w'.cell? ⟨X, 3, none⟩ = some (fnc f' X)) := by
  obtain ⟨⟨h1, h2, _⟩, _⟩ := h
  have c3 := h1.c3
  have hp : m.pc = 0 ∨ m.pc = 1 ∨ m.pc = 2 ∨ m.pc = 3 ∨ m.pc = 4 := by omega
  rcases hp with e | e | e | e | e
  · left; rw [e] at c3 ⊢; exact ⟨rfl, c3⟩
  all_goals right; rw [e] at c3 ⊢; exact ⟨rfl, _, c3⟩
theorem cstep_any (w : World) (h : CM w X wk m) (hs : St w S D L cc) (n : X ≠ S ∧ X ≠ D) (h0 : 0 ≤ cc) (h1 : cc ≤ 1000000000) :
    Calls Tryz.prog 200 #[ptr X, ptr S] w fun e w' => e = .returned (.bool (decide ((cstp wk L m).2.pc = 0))) ∧ Bhd w X S D wk (cstp wk L m).1 (ccost m cc) (cstp wk L m).2 w' := by
  obtain ⟨hb, hp4, hw⟩ := h
  obtain ⟨pc, p, cy, k, won⟩ := m
  dsimp only at hb hp4 hw
  have hcs : ∀ {nx : Value}, Cb w X wk p cy nx k won → Cs w w X S D wk p cy nx k won L cc := fun h => ⟨h, hs, n, .refl _ _⟩
  have hp : pc = 0 ∨ pc = 1 ∨ pc = 2 ∨ pc = 3 ∨ pc = 4 := by omega
  rcases hp with rfl | rfl | rfl | rfl | rfl
  · have e : cstp wk L ⟨0, p, cy, k, won⟩ = (L, ⟨0, p, cy, k, won⟩) := by simp [cstp]
    rw [e]
    refine (cstep_off w X (ptr S) hb.c3).mono ?_
    rintro r w1 ⟨rfl, rfl⟩
    exact ⟨rfl, .of (hcs hb) rfl rfl rfl rfl rfl (by simp) hw⟩
  · have e : cstp wk L ⟨1, p, cy, k, won⟩ = (L, if cy ≤ ldc L p then ⟨0, p, cy, ldc L p, won⟩ else ⟨2, p, cy, ldc L p, won⟩) := by simp [cstp]
    have hwf := hw (by simp)
    rw [e]
    refine cstep_raw w X S 199 hb.c3 (fun _ _ => rfl) _ _ ((seeMark_any w (hcs hb) h0 h1).mono ?_) (fun w' h => h.end)
    rintro r w1 ⟨rfl, hk⟩
    rw [ldv_cl] at hk
    refine ⟨rfl, ?_⟩
    by_cases hc : cy ≤ ldc L p
    · rw [if_pos hc, if_pos hc] at hk; simp only [if_pos hc]
      exact .of hk rfl rfl rfl rfl hwf (by simp) (by simp)
    · rw [if_neg hc, if_neg hc] at hk; simp only [if_neg hc]
      exact .of hk rfl rfl rfl rfl rfl (by simp) (fun _ => hwf)
  · have e : cstp wk L ⟨2, p, cy, k, won⟩ = (adc L wk 1, ⟨3, p, cy, k, won⟩) := by simp [cstp]
    rw [e]
    refine cstep_raw w X S 207 hb.c3 (fun _ _ => rfl) _ _ ((countTask_any w (hcs hb) h0 h1).mono ?_) (fun w' h => h.end)
    rintro r w1 ⟨rfl, hk⟩
    rw [adv_eq] at hk
    exact ⟨rfl, .of hk rfl rfl rfl rfl rfl (by simp) (fun _ => hw (by simp))⟩
  · have hwf := hw (by simp)
    by_cases hc : (0 ≤ p ∧ p < L.length) ∧ L.getD p.toNat 0 = k
    · have e : cstp wk L ⟨3, p, cy, k, won⟩ = (ptc L p cy, ⟨0, p, cy, k, true⟩) := by
        simp only [cstp]; rw [if_neg (by decide), if_neg (by decide), if_pos trivial, if_pos hc]
      rw [e]
      refine cstep_raw w X S 211 hb.c3 (fun _ _ => rfl) _ _ ((mark_any w (hcs hb) h0 h1).mono ?_) (fun w' h => h.end)
      rintro r w1 ⟨rfl, hk⟩
      obtain ⟨e1, e2⟩ := sw_yes (v := cy) hc
      rw [e1, e2] at hk
      exact ⟨rfl, .of hk rfl rfl rfl rfl rfl (by simp) (by simp)⟩
    · have e : cstp wk L ⟨3, p, cy, k, won⟩ = (L, ⟨4, p, cy, k, won⟩) := by
        simp only [cstp]; rw [if_neg (by decide), if_neg (by decide), if_pos trivial, if_neg hc]
      rw [e]
      refine cstep_raw w X S 211 hb.c3 (fun _ _ => rfl) _ _ ((mark_any w (hcs hb) h0 h1).mono ?_) (fun w' h => h.end)
      rintro r w1 ⟨rfl, hk⟩
      obtain ⟨e1, e2⟩ := sw_no (v := cy) hc
      rw [e1, e2] at hk
      exact ⟨rfl, .of hk rfl rfl rfl rfl rfl (by simp) (fun _ => hwf)⟩
  · have e : cstp wk L ⟨4, p, cy, k, won⟩ = (adc L wk 18446744073709551615, ⟨0, p, cy, k, won⟩) := by simp [cstp]
    have hwf := hw (by simp)
    rw [e]
    refine cstep_raw w X S 213 hb.c3 (fun _ _ => rfl) _ _ ((countBack_any w (hcs hb) h0 h1).mono ?_) (fun w' h => h.end)
    rintro r w1 ⟨rfl, hk⟩
    rw [adv_eq] at hk
    exact ⟨rfl, .of hk rfl rfl rfl rfl hwf (by simp) (by simp)⟩
end
end Go.Proofs.YthoiaffeenhfgaaGreat
