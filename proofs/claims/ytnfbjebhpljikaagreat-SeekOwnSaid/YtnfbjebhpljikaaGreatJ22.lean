/- A machine that puts a task somewhere: its steps, walked. A machine that puts a task somewhere stands for one over words: a step is that one's. -/
import Derived.Test.YtnfbjebhpljikaaGreatAdM
import Derived.Test.YtnfbjebhpljikaaGreatJ18
import Derived.Test.YtnfbjebhpljikaaGreatJ21
namespace Go.Proofs.YtnfbjebhpljikaaGreat
open Go.RowKit
set_option linter.unusedVariables false
set_option linter.unusedSimpArgs false
set_option maxRecDepth 100000
open Lay (plcc plc shOf packN nodesN OkC Cfg Norm firstV Rep lenL things)

set_option maxHeartbeats 2000000 in
theorem goOn_d (w : World) (X M S : Nat) (b : Bool) (Q R : World → Prop)
    (HS : Calls Tryz.prog 70 #[ptr M, ptr S] w fun e w' => e = .returned (.bool b) ∧ Q w')
    (HT : b = true → ∀ w1, Q w1 → Calls Tryz.prog 76 #[ptr X] w1 fun e w' => e = .returned (.tuple #[]) ∧ R w')
    (HF : b = false → ∀ w1, Q w1 → R w1) :
    Calls Tryz.prog 75 #[.func (.func 70) #[] #[], ptr M, ptr S, fnv 76 X] w fun e w' => e = .returned (.tuple #[]) ∧ R w' := by
  cases b
  · have HSS := Lib.hid HS; have HFF := Lib.hid (HF rfl)
    clear HS HT HF
    go_enter Tryz.func75, Tryz.ntmps75
    go_wp2_with (first
      | (go_at_call 70; (with_reducible refine HSS.out.mono ?_); rintro r w1 ⟨rfl, hq⟩; have HR := Lib.hid (HFF.out w1 hq); clear hq)
      | fail)
    go_returns
    exact ⟨rfl, HR.out⟩
  · have HSS := Lib.hid HS; have HTT := Lib.hid (HT rfl)
    clear HS HT HF
    go_enter Tryz.func75, Tryz.ntmps75
    go_wp2_with (first
      | (go_at_call 70; (with_reducible refine HSS.out.mono ?_); rintro r w1 ⟨rfl, hq⟩; have HQ := Lib.hid hq; clear hq)
      | (go_at_call 76; (with_reducible refine (HTT.out _ HQ.out).mono ?_); rintro r w2 ⟨rfl, hr⟩; have HR := Lib.hid hr; clear hr)
      | fail)
    go_returns
    exact ⟨rfl, HR.out⟩
set_option maxHeartbeats 2000000 in
theorem goOn_p (w : World) (X M S : Nat) (b : Bool) (Q R : World → Prop)
    (HS : Calls Tryz.prog 13 #[ptr M, ptr S] w fun e w' => e = .returned (.bool b) ∧ Q w')
    (HT : b = true → ∀ w1, Q w1 → Calls Tryz.prog 91 #[ptr X] w1 fun e w' => e = .returned (.tuple #[]) ∧ R w')
    (HF : b = false → ∀ w1, Q w1 → R w1) :
    Calls Tryz.prog 106 #[.func (.func 13) #[] #[], ptr M, ptr S, fnv 91 X] w fun e w' => e = .returned (.tuple #[]) ∧ R w' := by
  cases b
  · have HSS := Lib.hid HS; have HFF := Lib.hid (HF rfl)
    clear HS HT HF
    go_enter Tryz.func106, Tryz.ntmps106
    go_wp2_with (first
      | (go_at_call 13; (with_reducible refine HSS.out.mono ?_); rintro r w1 ⟨rfl, hq⟩; have HR := Lib.hid (HFF.out w1 hq); clear hq)
      | fail)
    go_returns
    exact ⟨rfl, HR.out⟩
  · have HSS := Lib.hid HS; have HTT := Lib.hid (HT rfl)
    clear HS HT HF
    go_enter Tryz.func106, Tryz.ntmps106
    go_wp2_with (first
      | (go_at_call 13; (with_reducible refine HSS.out.mono ?_); rintro r w1 ⟨rfl, hq⟩; have HQ := Lib.hid hq; clear hq)
      | (go_at_call 91; (with_reducible refine (HTT.out _ HQ.out).mono ?_); rintro r w2 ⟨rfl, hr⟩; have HR := Lib.hid hr; clear hr)
      | fail)
    go_returns
    exact ⟨rfl, HR.out⟩
set_option maxHeartbeats 2000000 in
theorem pushTask_raw {w : World} {X N M S : Nat} {t : Int} {nx pt : Value} (h : Ab w X N t nx (ptr M) pt) (b : Bool) (Q R : World → Prop)
    (HS : Calls Tryz.prog 70 #[ptr M, ptr S] w fun e w' => e = .returned (.bool b) ∧ Q w')
    (HT : b = true → ∀ w1, Q w1 → Calls Tryz.prog 76 #[ptr X] w1 fun e w' => e = .returned (.tuple #[]) ∧ R w')
    (HF : b = false → ∀ w1, Q w1 → R w1) :
    Calls Tryz.prog 49 #[ptr X, ptr S] w fun e w' => e = .returned (.tuple #[]) ∧ R w' := by
  have hmf : ∀ (fn : Fn) (first cap : Array Value) (w : World), (Instr.makeFunc fn first cap).run Tryz.prog w = .ok (.func fn first cap) w := fun _ _ _ _ => rfl
  have HG := Lib.hid (goOn_d w X M S b Q R HS HT HF)
  have q3 := h.c3
  clear HS HT HF h
  go_enter Tryz.func49, Tryz.ntmps49
  go_wp2_with (first
    | (go_at_call 75; (with_reducible refine HG.out.mono ?_); rintro r w1 ⟨rfl, hr⟩; have HR := Lib.hid hr; clear hr)
    | fail)
  go_returns
  exact ⟨rfl, HR.out⟩
set_option maxHeartbeats 2000000 in
theorem putTask_raw {w : World} {X N M S : Nat} {t : Int} {nx ps : Value} (h : Ab w X N t nx ps (ptr M)) (b : Bool) (Q R : World → Prop)
    (HS : Calls Tryz.prog 13 #[ptr M, ptr S] w fun e w' => e = .returned (.bool b) ∧ Q w')
    (HT : b = true → ∀ w1, Q w1 → Calls Tryz.prog 91 #[ptr X] w1 fun e w' => e = .returned (.tuple #[]) ∧ R w')
    (HF : b = false → ∀ w1, Q w1 → R w1) :
    Calls Tryz.prog 92 #[ptr X, ptr S] w fun e w' => e = .returned (.tuple #[]) ∧ R w' := by
  have hmf : ∀ (fn : Fn) (first cap : Array Value) (w : World), (Instr.makeFunc fn first cap).run Tryz.prog w = .ok (.func fn first cap) w := fun _ _ _ _ => rfl
  have HG := Lib.hid (goOn_p w X M S b Q R HS HT HF)
  have q4 := h.c4
  clear HS HT HF h
  go_enter Tryz.func92, Tryz.ntmps92
  go_wp2_with (first
    | (go_at_call 106; (with_reducible refine HG.out.mono ?_); rintro r w1 ⟨rfl, hr⟩; have HR := Lib.hid hr; clear hr)
    | fail)
  go_returns
  exact ⟨rfl, HR.out⟩

set_option maxHeartbeats 1000000 in
theorem astep_raw (w : World) (X S f : Nat) (c2 : w.cell? ⟨X, 2, none⟩ = some (fnv f X)) (hen : ∀ a w, (callFunc f a).run Tryz.prog w = .ok (.enter f a) w) (b : Bool) (Q : World → Prop)
    (HN : Calls Tryz.prog f #[ptr X, ptr S] w fun e w' => e = .returned (.tuple #[]) ∧ Q w') (hQ : ∀ w', Q w' → (b = true ∧ w'.cell? ⟨X, 2, none⟩ = some .nilFunc) ∨ (b = false ∧ ∃ f', w'.cell? ⟨X, 2, none⟩ = some (fnv f' X))) :
    Calls Tryz.prog 20 #[ptr X, ptr S] w fun e w' => e = .returned (.bool b) ∧ Q w' := by
  cases b
  · have HNN := Lib.hid HN; have HQ := Lib.hid hQ; clear HN hQ
    go_enter Tryz.func20, Tryz.ntmps20
    go_wp2_with (first
      | ((with_reducible refine HNN.out.mono ?_); rintro r w1 ⟨rfl, hk⟩; have HK := Lib.hid hk; obtain ⟨f', d4⟩ : ∃ f', w1.cell? ⟨X, 2, none⟩ = some (fnv f' X) := (by rcases HQ.out w1 hk with ⟨h, _⟩ | ⟨_, h⟩; cases h; exact h); clear hk)
      | fail)
    go_ret
    exact ⟨rfl, HK.out⟩
  · have HNN := Lib.hid HN; have HQ := Lib.hid hQ; clear HN hQ
    go_enter Tryz.func20, Tryz.ntmps20
    go_wp2_with (first
      | ((with_reducible refine HNN.out.mono ?_); rintro r w1 ⟨rfl, hk⟩; have HK := Lib.hid hk; have d4 : w1.cell? ⟨X, 2, none⟩ = some .nilFunc := (by rcases HQ.out w1 hk with ⟨_, h⟩ | ⟨h, _⟩; exact h; cases h); clear hk)
      | fail)
    go_ret
    exact ⟨rfl, HK.out⟩
set_option maxHeartbeats 1000000 in
theorem astep_off (w : World) (X : Nat) (v : Value) (c2 : w.cell? ⟨X, 2, none⟩ = some .nilFunc) :
    Calls Tryz.prog 20 #[ptr X, v] w fun e w' => e = .returned (.bool true) ∧ w = w' := by
  go_enter Tryz.func20, Tryz.ntmps20
  go_wp2
  go_ret
  exact ⟨rfl, rfl⟩
set_option maxHeartbeats 1000000 in
theorem step_niladd (v : Value) (w : World) : Calls Tryz.prog 20 #[.pointer none, v] w fun e w' => e = .returned (.bool true) ∧ w = w' := by
  go_enter Tryz.func20, Tryz.ntmps20
  go_wp2
  go_ret
  exact ⟨rfl, rfl⟩
end Go.Proofs.YtnfbjebhpljikaaGreat

namespace Go.Proofs.YtnfbjebhpljikaaGreat
open Go.RowKit
set_option linter.unusedVariables false
set_option linter.unusedSimpArgs false
set_option maxRecDepth 100000
open Lay (plcc plc shOf packN nodesN OkC Cfg Norm firstV Rep lenL things)

/-- A machine at X that stands for m: it changes blocks of O, and hangs on those of Dp. -/
def AKM (w : World) (X : Nat) (O Dp : Nat → Prop) (c : Cfg) (N : Nat) (m : Am) : Prop :=
  X ≠ N ∧ O X ∧ (∀ k, O k → Dp k) ∧ (∀ k, Dp k → k < w.heap.size) ∧ ∃ nx ps pt, Ab w X N m.task nx ps pt ∧
    ((m.pc = 0 ∧ nx = .nilFunc ∧ ps = .pointer none ∧ m.sp = false) ∨
     ∃ M, ps = ptr M ∧ Dg.MM w M m.d ∧ O M ∧ M ≠ X ∧ M ≠ N ∧ m.sp = decide (Dg.rOf m.d = 2) ∧
      ((m.pc = 0 ∧ nx = .nilFunc) ∨ (m.pc = 1 ∧ nx = fnv 49 X ∧ m.d.pc ≠ 0) ∨
       (m.pc = 2 ∧ nx = fnv 92 X ∧ m.p.pc ≠ 0 ∧ ∃ X2 O2 D2, pt = ptr X2 ∧ PKM w X2 O2 D2 c N m.p ∧ (∀ k, O2 k → O k) ∧ (∀ k, D2 k → Dp k) ∧ ¬ D2 X ∧ ¬ D2 M)))
section
variable {w w' : World} {X N : Nat} {O Dp : Nat → Prop} {c : Cfg} {m : Am}
theorem AKM.ins (h : AKM w X O Dp c N m) : O X ∧ (∀ k, O k → Dp k) ∧ ∀ k, Dp k → k < w.heap.size := ⟨h.2.1, h.2.2.1, h.2.2.2.1⟩
theorem AKM.lt (h : AKM w X O Dp c N m) : X < w.heap.size := h.ins.2.2 X (h.ins.2.1 X h.ins.1)
theorem AKM.keep (h : AKM w X O Dp c N m) (hs : w.heap.size ≤ w'.heap.size) (hb : ∀ k, Dp k → w'.heap[k]? = w.heap[k]?) : AKM w' X O Dp c N m := by
  obtain ⟨h1, h2, h3, h4, nx, ps, pt, h5, h6⟩ := h
  refine ⟨h1, h2, h3, fun k hk => Nat.lt_of_lt_of_le (h4 k hk) hs, nx, ps, pt, h5.same (hb X (h3 X h2)), ?_⟩
  rcases h6 with h6 | ⟨M, e, hm, oM, n1, n2, hsp, h7⟩
  · exact .inl h6
  · refine .inr ⟨M, e, dmm_same hm (hb M (h3 M oM)), oM, n1, n2, hsp, ?_⟩
    rcases h7 with h7 | h7 | ⟨a, b, b2, X2, O2, D2, d, hp, f, g, i, j⟩
    · exact .inl h7
    · exact .inr (.inl h7)
    · exact .inr (.inr ⟨a, b, b2, X2, O2, D2, d, hp.keep hs (fun k hk => hb k (g k hk)), f, g, i, j⟩)
theorem AKM.below (h : AKM w X O Dp c N m) (hb : Below w.heap.size w w') : AKM w' X O Dp c N m := h.keep hb.size fun k hk => hb.block k (h.ins.2.2 k hk)
/-- What is next. -/
theorem AKM.nx (h : AKM w X O Dp c N m) : (m.pc = 0 ∧ w.cell? ⟨X, 2, none⟩ = some .nilFunc) ∨ (m.pc ≠ 0 ∧ ∃ f, w.cell? ⟨X, 2, none⟩ = some (fnv f X)) := by
  obtain ⟨h1, h2, h3, h4, nx, ps, pt, h5, h6⟩ := h
  rcases h6 with ⟨a, rfl, _⟩ | ⟨M, e, hm, oM, n1, n2, hsp, ⟨a, rfl⟩ | ⟨a, rfl, _⟩ | ⟨a, rfl, _⟩⟩
  · exact .inl ⟨a, h5.c2⟩
  · exact .inl ⟨a, h5.c2⟩
  · exact .inr ⟨by omega, _, h5.c2⟩
  · exact .inr ⟨by omega, _, h5.c2⟩
theorem AKM.spilled (h : AKM w X O Dp c N m) : Calls Tryz.prog 90 #[ptr X] w fun a w' => a = .returned (.bool m.sp) ∧ Below w.heap.size w w' := by
  obtain ⟨h1, h2, h3, h4, nx, ps, pt, h5, h6⟩ := h
  rcases h6 with ⟨_, _, rfl, e⟩ | ⟨M, rfl, hm, _, _, _, e, _⟩
  · rw [e]; exact spilled_no h5
  · rw [e]; exact spilled_m h5 hm
end
def acost (m : Am) (cc : Int) : Int := if m.pc = 0 then cc else cc + 1
/-- Behind a step: a machine, the store, what else may have changed. -/
def ABehind (w : World) (S D : Nat) (c : Cfg) (N X : Nat) (O Dp : Nat → Prop) (L : List Int) (cc : Int) (m : Am) (w' : World) : Prop :=
  (∃ O' D', AKM w' X O' D' c N m ∧ (∀ k, O' k → O k ∨ w.heap.size ≤ k) ∧ (∀ k, D' k → Dp k ∨ w.heap.size ≤ k)) ∧ St w' S D L cc ∧ UF (fun k => k = S ∨ k = D ∨ O k) w w'
section
variable {w : World} {X S D N : Nat} {c : Cfg} {O Dp : Nat → Prop} {m : Am} {L : List Int} {cc t : Int}
set_option maxHeartbeats 1000000 in
theorem step_ak (hc : OkC c) (h : AKM w X O Dp c N m) (hs : St w S D L cc) (hm : Lay.IsMap w N c) (a1 : ¬ Dp S) (a2 : ¬ Dp D) (a3 : ¬ O N) (a4 : N ≠ S) (a5 : N ≠ D)
    (wm : AW c t m) (ww : WW L) (h0 : 0 ≤ cc) (h1 : cc ≤ 900000000) (ht : t ≤ 900000000) :
    Calls Tryz.prog 20 #[ptr X, ptr S] w fun e w' => e = .returned (.bool (decide ((astp (gOf c) L m).2.pc = 0))) ∧ ABehind w S D c N X O Dp (astp (gOf c) L m).1 (acost m cc) (astp (gOf c) L m).2 w' := by
  obtain ⟨g1, g2, g3, g4, nx, ps, pt, h5, h6⟩ := id h
  have hX := h.lt
  have dX : Dp X := g3 X g2
  have nS : X ≠ S := fun e => a1 (e ▸ dX)
  have nD : X ≠ D := fun e => a2 (e ▸ dX)
  have off : m.pc = 0 → nx = .nilFunc → Calls Tryz.prog 20 #[ptr X, ptr S] w fun e w' => e = .returned (.bool (decide ((astp (gOf c) L m).2.pc = 0))) ∧ ABehind w S D c N X O Dp (astp (gOf c) L m).1 (acost m cc) (astp (gOf c) L m).2 w' := fun p0 en => by
    have e : astp (gOf c) L m = (L, m) := by simp [astp, p0]
    rw [e]
    subst en
    refine (astep_off w X (ptr S) h5.c2).mono ?_
    rintro e w' ⟨rfl, rfl⟩
    refine ⟨by simp [p0], ⟨O, Dp, h, fun k hk => .inl hk, fun k hk => .inl hk⟩, ?_, .refl _ _⟩
    unfold acost; rw [if_pos p0]; exact hs
  rcases h6 with ⟨p0, en, _⟩ | ⟨M, rfl, hmm, oM, nMX, nMN, hsp, ⟨p0, en⟩ | ⟨p1, rfl, hd⟩ | ⟨p2, rfl, hpp, X2, O2, D2, rfl, hp, sO, sD, nDX, nDM⟩⟩
  · exact off p0 en
  · exact off p0 en
  · -- the deque
    have dM : Dp M := g3 M oM
    have mS : M ≠ S := fun e => a1 (e ▸ dM)
    have mD : M ≠ D := fun e => a2 (e ▸ dM)
    have dw := wm.d p1
    have ws : Dg.Wf m.d := by first | exact ⟨.inl dw.kd, dw.ok, dw.b.1, dw.t⟩ | exact ⟨dw.kd, dw.ok, dw.b.1, dw.t⟩ | exact ⟨dw.ok, dw.b.1, dw.t⟩
    have hstp := Dg.step_any w (hmm.mi hs mS mD) ws h0 (by omega)
    have ec : Dg.cst m.d cc = cc + 1 := by unfold Dg.cst; rw [if_neg hd]
    have ea : acost m cc = cc + 1 := by unfold acost; rw [if_neg (by omega)]
    have hr0 : Dg.rOf m.d = 0 := by unfold Dg.rOf; rw [if_neg hd]
    have hsf : m.sp = false := by rw [hsp, hr0]; decide
    rw [ec] at hstp
    have ea1 : (astp (gOf c) L m).1 = (Dg.stp L m.d).1 := by simp [astp, p1]
    have ea2 : (astp (gOf c) L m).2 = if (Dg.stp L m.d).2.pc = 0 then (if (Dg.stp L m.d).2.out = 2 then { m with d := (Dg.stp L m.d).2, pc := 2, sp := true, p := pPut (gOf c) [m.task] } else { m with d := (Dg.stp L m.d).2, pc := 0 }) else { m with d := (Dg.stp L m.d).2 } := by simp [astp, p1]
    rw [ea, ea1, ea2]
    generalize Dg.stp L m.d = z at hstp ⊢
    obtain ⟨L', d'⟩ := z
    dsimp only at hstp ⊢
    have ab1 : ∀ w1, Dg.Mi w w1 M S D d' L' (cc + 1) → Ab w1 X N m.task (fnv 49 X) (ptr M) pt := fun w1 hk => h5.same (hk.u.block X hX (Ne.symm nMX) nS nD)
    have uf1 : ∀ w1, Dg.Mi w w1 M S D d' L' (cc + 1) → UF (fun k => k = S ∨ k = D ∨ O k) w w1 := fun w1 hk => (UF.of_u3 hk.u).mono fun b _ e => by
      rcases e with rfl | rfl | rfl
      · exact .inr (.inr oM)
      · exact .inl rfl
      · exact .inr (.inl rfl)
    have goal : ∀ m' : Am, (∀ w1, Dg.Mi w w1 M S D d' L' (cc + 1) → d'.pc = 0 → Calls Tryz.prog 76 #[ptr X] w1 fun e w' => e = .returned (.tuple #[]) ∧ ABehind w S D c N X O Dp L' (cc + 1) m' w') →
        (∀ w1, Dg.Mi w w1 M S D d' L' (cc + 1) → d'.pc ≠ 0 → ABehind w S D c N X O Dp L' (cc + 1) m' w1) →
        Calls Tryz.prog 20 #[ptr X, ptr S] w fun e w' => e = .returned (.bool (decide (m'.pc = 0))) ∧ ABehind w S D c N X O Dp L' (cc + 1) m' w' := fun m' hT hF => by
      refine astep_raw w X S 49 h5.c2 (fun a w => by simp [go_sem]) (decide (m'.pc = 0)) _ ?_ ?_
      · refine pushTask_raw h5 (decide (d'.pc = 0)) (fun w1 => Dg.Mi w w1 M S D d' L' (cc + 1)) _ hstp (fun e w1 hk => hT w1 hk (by simpa using e)) (fun e w1 hk => hF w1 hk (by simpa using e))
      · rintro w' ⟨⟨O', D', hk, _⟩, _⟩
        rcases hk.nx with ⟨a, b⟩ | ⟨a, b⟩
        · exact .inl ⟨by simpa using a, b⟩
        · exact .inr ⟨by simpa using a, b⟩
    refine goal _ (fun w1 hk hp0 => ?_) (fun w1 hk hp0 => ?_)
    · have hl1 := hk.u.size
      have hm1 := hk.mm
      by_cases ho : d'.out = 2
      · rw [if_pos hp0, if_pos ho]
        have hr : Dg.rOf d' = 2 := by unfold Dg.rOf; rw [if_pos hp0]; exact ho
        have hmp1 : Lay.IsMap w1 N c := IsMap_same hm hl1 ((UF.of_u3 hk.u).block N hm.1 (fun e => by rcases e with e | e | e; exact nMN e.symm; exact a4 e; exact a5 e))
        refine (pushed_full hc (ab1 w1 hk) hm1 hmp1 hr wm.tk).mono ?_
        rintro e w2 ⟨rfl, X2, O2, D2, hp, lo, ld, hab, u⟩
        have hs2 := u.size
        refine ⟨rfl, ⟨fun k => O k ∨ O2 k, fun k => Dp k ∨ D2 k, ⟨g1, .inl g2, fun k hk => hk.imp (g3 k) (hp.ins.2.1 k), fun k hk => ?_, _, _, _, hab, .inr ⟨M, rfl, dmm_same hm1 (u.block M hm1.lt nMX), .inl oM, nMX, nMN, by simp [hr], .inr (.inr ⟨rfl, rfl, by simp [pPut], X2, O2, D2, rfl, hp, fun k hk => .inr hk, fun k hk => .inr hk, fun hk => ?_, fun hk => ?_⟩)⟩⟩, fun k hk => ?_, fun k hk => ?_⟩, ?_, ?_⟩
        · rcases hk with hk | hk
          · have := g4 k hk; omega
          · exact hp.ins.2.2 k hk
        · have := ld X hk; omega
        · have := ld M hk; have := hmm.lt; omega
        · rcases hk with hk | hk
          · exact .inl hk
          · have := lo k hk; exact .inr (by omega)
        · rcases hk with hk | hk
          · exact .inl hk
          · have := ld k hk; exact .inr (by omega)
        · exact St_same hk.st (u.block S hk.st.ltS (Ne.symm nS)) (u.block D hk.st.row.lt (Ne.symm nD))
        · exact (uf1 w1 hk).trans u (fun _ x => x) (fun b _ e => by subst e; exact .inr (.inr g2))
      · rw [if_pos hp0, if_neg ho]
        have hr : Dg.rOf d' ≠ 2 := by unfold Dg.rOf; rw [if_pos hp0]; exact ho
        refine (pushed_done (ab1 w1 hk) hm1 hr).mono ?_
        rintro e w2 ⟨rfl, hab, u⟩
        have hs2 := u.size
        refine ⟨rfl, ⟨O, Dp, ⟨g1, g2, g3, fun k hk => by have := g4 k hk; omega, _, _, _, hab, .inr ⟨M, rfl, dmm_same hm1 (u.block M hm1.lt nMX), oM, nMX, nMN, by simp [hr, hsf], .inl ⟨rfl, rfl⟩⟩⟩, fun k hk => .inl hk, fun k hk => .inl hk⟩, ?_, ?_⟩
        · exact St_same hk.st (u.block S hk.st.ltS (Ne.symm nS)) (u.block D hk.st.row.lt (Ne.symm nD))
        · exact (uf1 w1 hk).trans u (fun _ x => x) (fun b _ e => by subst e; exact .inr (.inr g2))
    · rw [if_neg hp0]
      have hl1 := hk.u.size
      have hr : Dg.rOf d' = 0 := by unfold Dg.rOf; rw [if_neg hp0]
      exact ⟨⟨O, Dp, ⟨g1, g2, g3, fun k hk => by have := g4 k hk; omega, _, _, _, ab1 w1 hk, .inr ⟨M, rfl, hk.mm, oM, nMX, nMN, by simp [hr, hsf], .inr (.inl ⟨p1, rfl, hp0⟩)⟩⟩, fun k hk => .inl hk, fun k hk => .inl hk⟩, hk.st, uf1 w1 hk⟩
  · -- the packet
    have hstp := step_pk hc hp hs hm (fun e => a1 (sD _ e)) (fun e => a2 (sD _ e)) (fun e => a3 (sO _ e)) a4 a5 (wm.p p2) ww h0 h1 ht
    have ec : pcost m.p cc = cc + 1 := by unfold pcost; rw [if_neg hpp]
    have ea : acost m cc = cc + 1 := by unfold acost; rw [if_neg (by omega)]
    rw [ec] at hstp
    have dM : Dp M := g3 M oM
    have mS : M ≠ S := fun e => a1 (e ▸ dM)
    have mD : M ≠ D := fun e => a2 (e ▸ dM)
    have ea1 : (astp (gOf c) L m).1 = (pstp (gOf c) L m.p).1 := by simp [astp, p2]
    have ea2 : (astp (gOf c) L m).2 = if (pstp (gOf c) L m.p).2.pc = 0 then { m with p := (pstp (gOf c) L m.p).2, pc := 0 } else { m with p := (pstp (gOf c) L m.p).2 } := by simp [astp, p2]
    rw [ea, ea1, ea2]
    generalize pstp (gOf c) L m.p = z at hstp ⊢
    obtain ⟨L', p'⟩ := z
    dsimp only at hstp ⊢
    have O2X : ¬ O2 X := fun e => nDX (hp.ins.2.1 _ e)
    have O2M : ¬ O2 M := fun e => nDM (hp.ins.2.1 _ e)
    have fro : ∀ (w1 : World) (k : Nat), UF (fun k => k = S ∨ k = D ∨ O2 k) w w1 → k < w.heap.size → k ≠ S → k ≠ D → ¬ O2 k → w1.heap[k]? = w.heap[k]? := fun w1 k u hk e1 e2 e3 => u.block k hk (fun e => by rcases e with e | e | e; exact e1 e; exact e2 e; exact e3 e)
    obtain ⟨Q, hQ⟩ : ∃ Q : World → Prop, Q = fun w' => (∃ O' D', PKM w' X2 O' D' c N p' ∧ (∀ k, O' k → O2 k ∨ w.heap.size ≤ k) ∧ (∀ k, D' k → D2 k ∨ w.heap.size ≤ k)) ∧ St w' S D L' (cc + 1) ∧ UF (fun k => k = S ∨ k = D ∨ O2 k) w w' := ⟨_, rfl⟩
    have hstp' : Calls Tryz.prog 13 #[ptr X2, ptr S] w fun e w' => e = .returned (.bool (decide (p'.pc = 0))) ∧ Q w' := by rw [hQ]; exact hstp
    have goal : ∀ m' : Am, (∀ w1, Q w1 → p'.pc = 0 → Calls Tryz.prog 91 #[ptr X] w1 fun e w' => e = .returned (.tuple #[]) ∧ ABehind w S D c N X O Dp L' (cc + 1) m' w') →
        (∀ w1, Q w1 → p'.pc ≠ 0 → ABehind w S D c N X O Dp L' (cc + 1) m' w1) →
        Calls Tryz.prog 20 #[ptr X, ptr S] w fun e w' => e = .returned (.bool (decide (m'.pc = 0))) ∧ ABehind w S D c N X O Dp L' (cc + 1) m' w' := fun m' hT hF => by
      refine astep_raw w X S 92 h5.c2 (fun a w => by simp [go_sem]) (decide (m'.pc = 0)) _ ?_ ?_
      · refine putTask_raw h5 (decide (p'.pc = 0)) Q _ hstp' (fun e w1 hk => hT w1 hk (by simpa using e)) (fun e w1 hk => hF w1 hk (by simpa using e))
      · rintro w' ⟨⟨O', D', hk, _⟩, _⟩
        rcases hk.nx with ⟨a, b⟩ | ⟨a, b⟩
        · exact .inl ⟨by simpa using a, b⟩
        · exact .inr ⟨by simpa using a, b⟩
    subst hQ
    refine goal _ ?_ ?_
    · rintro w1 ⟨⟨O', D', hk, ho, hd⟩, hst, u⟩ hp0
      rw [if_pos hp0]
      have hl1 := u.size
      refine (afin_any (h5.same (fro w1 X u hX nS nD O2X))).mono ?_
      rintro e w2 ⟨rfl, hab, u2⟩
      have hs2 := u2.size
      refine ⟨rfl, ⟨O, Dp, ⟨g1, g2, g3, fun k hk => by have := g4 k hk; omega, _, _, _, hab, .inr ⟨M, rfl, dmm_same (dmm_same hmm (fro w1 M u hmm.lt mS mD O2M)) (u2.block M (by have := hmm.lt; omega) nMX), oM, nMX, nMN, hsp, .inl ⟨rfl, rfl⟩⟩⟩, fun k hk => .inl hk, fun k hk => .inl hk⟩, ?_, ?_⟩
      · exact St_same hst (u2.block S hst.ltS (Ne.symm nS)) (u2.block D hst.row.lt (Ne.symm nD))
      · exact (u.mono (H := fun k => k = S ∨ k = D ∨ O k) (fun b _ e => by rcases e with e | e | e; exact .inl e; exact .inr (.inl e); exact .inr (.inr (sO b e)))).trans u2 (fun _ x => x) (fun b _ e => by subst e; exact .inr (.inr g2))
    · rintro w1 ⟨⟨O', D', hk, ho, hd⟩, hst, u⟩ hp0
      rw [if_neg hp0]
      have hl1 := u.size
      refine ⟨⟨fun k => O k ∨ O' k, fun k => Dp k ∨ D' k, ⟨g1, .inl g2, fun k h => h.imp (g3 k) (hk.ins.2.1 k), fun k h => ?_, _, _, _, h5.same (fro w1 X u hX nS nD O2X), .inr ⟨M, rfl, dmm_same hmm (fro w1 M u hmm.lt mS mD O2M), .inl oM, nMX, nMN, hsp, .inr (.inr ⟨p2, rfl, hp0, X2, O', D', rfl, hk, fun k h => .inr h, fun k h => .inr h, fun h => ?_, fun h => ?_⟩)⟩⟩, fun k h => ?_, fun k h => ?_⟩, hst, ?_⟩
      · rcases h with h | h
        · have := g4 k h; omega
        · exact hk.ins.2.2 k h
      · rcases hd X h with h | h
        · exact nDX h
        · omega
      · rcases hd M h with h | h
        · exact nDM h
        · have := hmm.lt; omega
      · rcases h with h | h
        · exact .inl h
        · exact (ho k h).imp (sO k) id
      · rcases h with h | h
        · exact .inl h
        · exact (hd k h).imp (sD k) id
      · exact u.mono fun b _ e => by rcases e with e | e | e; exact .inl e; exact .inr (.inl e); exact .inr (.inr (sO b e))
/-- A machine in new memory. -/
def NewA (w : World) (c : Cfg) (N : Nat) (m : Am) (e : Ending) (w' : World) : Prop :=
  ∃ X O Dp, e = .returned (ptr X) ∧ AKM w' X O Dp c N m ∧ (∀ k, Dp k → w.heap.size ≤ k) ∧ Below w.heap.size w w'
/-- A machine that does nothing. -/
def aNone (t : Int) : Am := ⟨0, t, Dg.mPush ⟨0, 0, 0, 0⟩ 0, pnone, false⟩
theorem top_neg {i : Int} (hc : OkC c) (h : i < 0 ∨ c.mr ≤ i) : plcc c 8 i 0 < 0 := by
  rw [← Lay.plc_top hc i, Lay.wordL, if_neg (by omega)]; decide
theorem top_pos {i : Int} (hc : OkC c) (h0 : 0 ≤ i) (h1 : i < c.mr) : 0 ≤ plcc c 8 i 0 := by
  rw [top_is hc h0 h1]; exact mk_pos hc h0
theorem newA_yes (hc : OkC c) (N : Nat) (i t : Int) (hi : (Lit.int .i64 i).wf = true) (w : World) (hm : Lay.IsMap w N c) (h0 : 0 ≤ i) (h1 : i < c.mr) :
    Calls Tryz.prog 19 #[Lay.mapP N, .int .i64 i, .int .u64 t] w (NewA w c N (aNew (eOf c i) t)) := by
  refine (new_yes hc N i t hi w hm (top_pos hc h0 h1)).mono ?_
  rintro e w' ⟨X, M, rfl, hX, hM, hne, hab, hmm, hb⟩
  have hN := hm.1
  refine ⟨X, fun k => k = X ∨ k = M, fun k => k = X ∨ k = M, rfl, ⟨by omega, .inl rfl, fun k h => h, fun k h => ?_, _, _, _, hab, .inr ⟨M, rfl, hmm, .inr rfl, hne, by omega, rfl, .inr (.inl ⟨rfl, rfl, by simp [aNew, Dg.mPush]⟩)⟩⟩, fun k h => ?_, hb⟩
  · rcases h with rfl | rfl
    · exact hab.lt
    · exact hmm.lt
  · rcases h with rfl | rfl
    · exact hX
    · exact hM
theorem newA_no (hc : OkC c) (N : Nat) (i t : Int) (hi : (Lit.int .i64 i).wf = true) (w : World) (hm : Lay.IsMap w N c) (h : i < 0 ∨ c.mr ≤ i) :
    Calls Tryz.prog 19 #[Lay.mapP N, .int .i64 i, .int .u64 t] w (NewA w c N (aNone t)) := by
  refine (new_no hc N i t hi w hm (top_neg hc h)).mono ?_
  rintro e w' ⟨X, rfl, hX, hab, hb⟩
  have hN := hm.1
  exact ⟨X, fun k => k = X, fun k => k = X, rfl, ⟨by omega, rfl, fun k h => h, fun k h => by subst h; exact hab.lt, _, _, _, hab, .inl ⟨rfl, rfl, rfl, rfl⟩⟩, fun k h => by subst h; exact hX, hb⟩
end
end Go.Proofs.YtnfbjebhpljikaaGreat
