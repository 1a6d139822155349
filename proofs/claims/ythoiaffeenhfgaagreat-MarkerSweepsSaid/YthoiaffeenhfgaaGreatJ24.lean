/-  -/
import Derived.Test.YthoiaffeenhfgaaGreatJ18
import Derived.Test.YthoiaffeenhfgaaGreatJ27
import Derived.Test.YthoiaffeenhfgaaGreatJ11
import Derived.Test.YthoiaffeenhfgaaGreatJ23
import Derived.Test.YthoiaffeenhfgaaGreatJ19
import Derived.Test.YthoiaffeenhfgaaGreatJ10
import Derived.Test.YthoiaffeenhfgaaGreatJ14
namespace Go.Proofs.YthoiaffeenhfgaaGreat
open Go.RowKit
set_option linter.unusedVariables false
set_option linter.unusedSimpArgs false
set_option maxRecDepth 100000
open Lay (plcc plc shOf packN nodesN OkC Cfg Norm firstV Rep lenL things)
def AKM (w : World) (X : Nat) (O Dp : Nat → Prop) (c : Cfg) (N : Nat) (m : Am) : Prop :=
  X ≠ N ∧ O X ∧ (∀ k, O k → Dp k) ∧ (∀ k, Dp k → k < w.heap.size) ∧ ∃ nx ps pt, Ab w X N m.task nx ps pt ∧
    ((m.pc = 0 ∧ nx = .nilFunc ∧ ps = .pointer none ∧ m.sp = false) ∨
     ∃ M, ps = ptr M ∧ Dg.MM w M m.d ∧ O M ∧ M ≠ X ∧ M ≠ N ∧ m.sp = decide (Dg.rOf m.d = 2) ∧
      ((m.pc = 0 ∧ nx = .nilFunc) ∨ (m.pc = 1 ∧ nx = fnv 74 X ∧ m.d.pc ≠ 0) ∨
       (m.pc = 2 ∧ nx = fnv 106 X ∧ m.p.pc ≠ 0 ∧ ∃ X2 O2 D2, pt = ptr X2 ∧ PKM w X2 O2 D2 c N m.p ∧ (∀ k, O2 k → O k) ∧ (∀ k, D2 k → Dp k) ∧ ¬ D2 X ∧ ¬ D2 M)))
section
variable {w w' : World} {X N : Nat} {O Dp : Nat → Prop} {c : Cfg} {m : Am}
theorem AKM.ins (h : AKM w X O Dp c N m) : O X ∧ (∀ k, O k → Dp k) ∧ ∀ k, Dp k → k < w.heap.size := ⟨h.2.1, h.2.2.1, h.2.2.2.1⟩
theorem AKM.lt (h : AKM w X O Dp c N m) : X < w.heap.size := h.ins.2.2 X (h.ins.2.1 X h.ins.1)
theorem AKM.keep (h : AKM w X O Dp c N m) (hs : w.heap.size ≤ w'.heap.size) (hb : ∀ k, Dp k → w'.heap[k]? = w.heap[k]?) : AKM w' X O Dp c N m := by
  obtain ⟨h1, h2, h3, h4, nx, ps, pt, h5, h6⟩ := h
  refine ⟨h1, h2, h3, fun k hk => Nat.lt_of_lt_of_le (h4 k hk) hs, nx, ps, pt, h5.same (hb X (h3 X h2)), ?_⟩
  rcases h6 with h6 | ⟨M, e, hm, oM, n1, n2, hsp, h7⟩
  · exact .inl h6
  · refine .inr ⟨M, e, dmm_same hm (hb M (h3 M oM)), oM, n1, n2, hsp, ?_⟩
    rcases h7 with h7 | h7 | ⟨a, b, b2, X2, O2, D2, d, hp, f, g, i, j⟩
    · exact .inl h7
    · exact .inr (.inl h7)
    · exact .inr (.inr ⟨a, b, b2, X2, O2, D2, d, hp.keep hs (fun k hk => hb k (g k hk)), f, g, i, j⟩)
theorem AKM.nx (h : AKM w X O Dp c N m) : (m.pc = 0 ∧ w.cell? ⟨X, 2, none⟩ = some .nilFunc) ∨ (m.pc ≠ 0 ∧ ∃ f, w.cell? ⟨X, 2, none⟩ = some (fnv f X)) := by
  obtain ⟨h1, h2, h3, h4, nx, ps, pt, h5, h6⟩ := h
  rcases h6 with ⟨a, rfl, _⟩ | ⟨M, e, hm, oM, n1, n2, hsp, ⟨a, rfl⟩ | ⟨a, rfl, _⟩ | ⟨a, rfl, _⟩⟩
  · exact .inl ⟨a, h5.c2⟩
  · exact .inl ⟨a, h5.c2⟩
  · exact .inr ⟨by omega, _, h5.c2⟩
  · exact .inr ⟨by omega, _, h5.c2⟩
end
def acost (m : Am) (cc : Int) : Int := if m.pc = 0 then cc else cc + 1
def ABehind (w : World) (S D : Nat) (c : Cfg) (N X : Nat) (O Dp : Nat → Prop) (L : List Int) (cc : Int) (m : Am) (w' : World) : Prop :=
  (∃ O' D', AKM w' X O' D' c N m ∧ (∀ k, O' k → O k ∨ w.heap.size ≤ k) ∧ (∀ k, D' k → Dp k ∨ w.heap.size ≤ k)) ∧ St w' S D L cc ∧ UF (fun k => k = S ∨ k = D ∨ O k) w w'
section
variable {w : World} {X S D N : Nat} {c : Cfg} {O Dp : Nat → Prop} {m : Am} {L : List Int} {cc t : Int}
set_option maxHeartbeats 1000000 in
theorem step_ak (hc : OkC c) (h : AKM w X O Dp c N m) (hs : St w S D L cc) (hm : Lay.IsMap w N c) (a1 : ¬ Dp S) (a2 : ¬ Dp D) (a3 : ¬ O N) (a4 : N ≠ S) (a5 : N ≠ D)
    (wm : AW c t m) (ww : WW L) (h0 : 0 ≤ cc) (h1 : cc ≤ 900000000) (ht : t ≤ 900000000) :
    Calls Tryz.prog 32 #[ptr X, ptr S] w fun e w' => e = .returned (.bool (decide ((astp (gOf c) L m).2.pc = 0))) ∧ ABehind w S D c N X O Dp (astp (gOf c) L m).1 (acost m cc) (astp (gOf c) L m).2 w' := by
  obtain ⟨g1, g2, g3, g4, nx, ps, pt, h5, h6⟩ := id h
  have hX := h.lt
  have dX : Dp X := g3 X g2
  have nS : X ≠ S := fun e => a1 (e ▸ dX)
  have nD : X ≠ D := fun e => a2 (e ▸ dX)
  have off : m.pc = 0 → nx = .nilFunc → Calls Tryz.prog 32 #[ptr X, ptr S] w fun e w' => e = .returned (.bool (decide ((astp (gOf c) L m).2.pc = 0))) ∧ ABehind w S D c N X O Dp (astp (gOf c) L m).1 (acost m cc) (astp (gOf c) L m).2 w' := fun p0 en => by
    have e : astp (gOf c) L m = (L, m) := by simp [astp, p0]
    rw [e]
    subst en
    refine (astep_off w X (ptr S) h5.c2).mono ?_
    rintro e w' ⟨rfl, rfl⟩
    refine ⟨by simp [p0], ⟨O, Dp, h, fun k hk => .inl hk, fun k hk => .inl hk⟩, ?_, .refl _ _⟩
    unfold acost; rw [if_pos p0]; exact hs
  rcases h6 with ⟨p0, en, _⟩ | ⟨M, rfl, hmm, oM, nMX, nMN, hsp, ⟨p0, en⟩ | ⟨p1, rfl, hd⟩ | ⟨p2, rfl, hpp, X2, O2, D2, rfl, hp, sO, sD, nDX, nDM⟩⟩
  · exact off p0 en
  · exact off p0 en
  · -- the deque
    have dM : Dp M := g3 M oM
    have mS : M ≠ S := fun e => a1 (e ▸ dM)
    have mD : M ≠ D := fun e => a2 (e ▸ dM)
    have dw := wm.d p1
    have ws : Dg.Wf m.d := by first | exact ⟨.inl dw.kd, dw.ok, dw.b.1, dw.t⟩ | exact ⟨dw.kd, dw.ok, dw.b.1, dw.t⟩ | exact ⟨dw.ok, dw.b.1, dw.t⟩
    have hstp := Dg.step_any w (hmm.mi hs mS mD) ws h0 (by omega)
    have ec : Dg.cst m.d cc = cc + 1 := by unfold Dg.cst; rw [if_neg hd]
    have ea : acost m cc = cc + 1 := by unfold acost; rw [if_neg (by omega)]
    have hr0 : Dg.rOf m.d = 0 := by unfold Dg.rOf; rw [if_neg hd]
    have hsf : m.sp = false := by rw [hsp, hr0]; decide
    rw [ec] at hstp
    have ea1 : (astp (gOf c) L m).1 = (Dg.stp L m.d).1 := by simp [astp, p1]
    have ea2 : (astp (gOf c) L m).2 = if (Dg.stp L m.d).2.pc = 0 then (if (Dg.stp L m.d).2.out = 2 then { m with d := (Dg.stp L m.d).2, pc := 2, sp := true, p := pPut (gOf c) [m.task] } else { m with d := (Dg.stp L m.d).2, pc := 0 }) else { m with d := (Dg.stp L m.d).2 } := by simp [astp, p1]
    rw [ea, ea1, ea2]
    generalize Dg.stp L m.d = z at hstp ⊢
    obtain ⟨L', d'⟩ := z
    dsimp only at hstp ⊢
    have ab1 : ∀ w1, Dg.Mi w w1 M S D d' L' (cc + 1) → Ab w1 X N m.task (fnv 74 X) (ptr M) pt := fun w1 hk => h5.same (hk.u.block X hX (Ne.symm nMX) nS nD)
    have uf1 : ∀ w1, Dg.Mi w w1 M S D d' L' (cc + 1) → UF (fun k => k = S ∨ k = D ∨ O k) w w1 := fun w1 hk => (UF.of_u3 hk.u).mono fun b _ e => by
      rcases e with rfl | rfl | rfl
      · exact .inr (.inr oM)
      · exact .inl rfl
      · exact .inr (.inl rfl)
    have goal : ∀ m' : Am, (∀ w1, Dg.Mi w w1 M S D d' L' (cc + 1) → d'.pc = 0 → Calls Tryz.prog 94 #[ptr X] w1 fun e w' => e = .returned (.tuple #[]) ∧ ABehind w S D c N X O Dp L' (cc + 1) m' w') →
        (∀ w1, Dg.Mi w w1 M S D d' L' (cc + 1) → d'.pc ≠ 0 → ABehind w S D c N X O Dp L' (cc + 1) m' w1) →
        Calls Tryz.prog 32 #[ptr X, ptr S] w fun e w' => e = .returned (.bool (decide (m'.pc = 0))) ∧ ABehind w S D c N X O Dp L' (cc + 1) m' w' := fun m' hT hF => by
      refine astep_raw w X S 74 h5.c2 (fun a w => by simp [go_sem]) (decide (m'.pc = 0)) _ ?_ ?_
      · refine pushTask_raw h5 (decide (d'.pc = 0)) (fun w1 => Dg.Mi w w1 M S D d' L' (cc + 1)) _ hstp (fun e w1 hk => hT w1 hk (by simpa using e)) (fun e w1 hk => hF w1 hk (by simpa using e))
      · rintro w' ⟨⟨O', D', hk, _⟩, _⟩
        rcases hk.nx with ⟨a, b⟩ | ⟨a, b⟩
        · exact .inl ⟨by simpa using a, b⟩
        · exact .inr ⟨by simpa using a, b⟩
    refine goal _ (fun w1 hk hp0 => ?_) (fun w1 hk hp0 => ?_)
    · have hl1 := hk.u.size
      have hm1 := hk.mm
      by_cases ho : d'.out = 2
      · rw [if_pos hp0, if_pos ho]
        have hr : Dg.rOf d' = 2 := by unfold Dg.rOf; rw [if_pos hp0]; exact ho
        have hmp1 : Lay.IsMap w1 N c := IsMap_same hm hl1 ((UF.of_u3 hk.u).block N hm.1 (fun e => by rcases e with e | e | e; exact nMN e.symm; exact a4 e; exact a5 e))
        refine (pushed_full hc (ab1 w1 hk) hm1 hmp1 hr wm.tk).mono ?_
        rintro e w2 ⟨rfl, X2, O2, D2, hp, lo, ld, hab, u⟩
        have hs2 := u.size
        refine ⟨rfl, ⟨fun k => O k ∨ O2 k, fun k => Dp k ∨ D2 k, ⟨g1, .inl g2, fun k hk => hk.imp (g3 k) (hp.ins.2.1 k), fun k hk => ?_, _, _, _, hab, .inr ⟨M, rfl, dmm_same hm1 (u.block M hm1.lt nMX), .inl oM, nMX, nMN, by simp [hr], .inr (.inr ⟨rfl, rfl, by simp [pPut], X2, O2, D2, rfl, hp, fun k hk => .inr hk, fun k hk => .inr hk, fun hk => ?_, fun hk => ?_⟩)⟩⟩, fun k hk => ?_, fun k hk => ?_⟩, ?_, ?_⟩
        · rcases hk with hk | hk
          · have := g4 k hk; omega
          · exact hp.ins.2.2 k hk
        · have := ld X hk; omega
        · have := ld M hk; have := hmm.lt; omega
        · rcases hk with hk | hk
          · exact .inl hk
          · have := lo k hk; exact .inr (by omega)
        · rcases hk with hk | hk
          · exact .inl hk
          · have := ld k hk; exact .inr (by omega)
        · exact St_same hk.st (u.block S hk.st.ltS (Ne.symm nS)) (u.block D hk.st.row.lt (Ne.symm nD))
        · exact (uf1 w1 hk).trans u (fun _ x => x) (fun b _ e => by subst e; exact .inr (.inr g2))
      · rw [if_pos hp0, if_neg ho]
        have hr : Dg.rOf d' ≠ 2 := by unfold Dg.rOf; rw [if_pos hp0]; exact ho
        refine (pushed_done (ab1 w1 hk) hm1 hr).mono ?_
        rintro e w2 ⟨rfl, hab, u⟩
        have hs2 := u.size
        refine ⟨rfl, ⟨O, Dp, ⟨g1, g2, g3, fun k hk => by have := g4 k hk; omega, _, _, _, hab, .inr ⟨M, rfl, dmm_same hm1 (u.block M hm1.lt nMX), oM, nMX, nMN, by simp [hr, hsf], .inl ⟨rfl, rfl⟩⟩⟩, fun k hk => .inl hk, fun k hk => .inl hk⟩, ?_, ?_⟩
        · exact St_same hk.st (u.block S hk.st.ltS (Ne.symm nS)) (u.block D hk.st.row.lt (Ne.symm nD))
        · exact (uf1 w1 hk).trans u (fun _ x => x) (fun b _ e => by subst e; exact .inr (.inr g2))
    · rw [if_neg hp0]
      have hl1 := hk.u.size
      have hr : Dg.rOf d' = 0 := by unfold Dg.rOf; rw [if_neg hp0]
      exact ⟨⟨O, Dp, ⟨g1, g2, g3, fun k hk => by have := g4 k hk; omega, _, _, _, ab1 w1 hk, .inr ⟨M, rfl, hk.mm, oM, nMX, nMN, by simp [hr, hsf], .inr (.inl ⟨p1, rfl, hp0⟩)⟩⟩, fun k hk => .inl hk, fun k hk => .inl hk⟩, hk.st, uf1 w1 hk⟩
  · -- the packet
    have hstp := step_pk hc hp hs hm (fun e => a1 (sD _ e)) (fun e => a2 (sD _ e)) (fun e => a3 (sO _ e)) a4 a5 (wm.p p2) ww h0 h1 ht
    have ec : pcost m.p cc = cc + 1 := by unfold pcost; rw [if_neg hpp]
    have ea : acost m cc = cc + 1 := by unfold acost; rw [if_neg (by omega)]
    rw [ec] at hstp
    have dM : Dp M := g3 M oM
    have mS : M ≠ S := fun e => a1 (e ▸ dM)
    have mD : M ≠ D := fun e => a2 (e ▸ dM)
    have ea1 : (astp (gOf c) L m).1 = (pstp (gOf c) L m.p).1 := by simp [astp, p2]
    have ea2 : (astp (gOf c) L m).2 = if (pstp (gOf c) L m.p).2.pc = 0 then { m with p := (pstp (gOf c) L m.p).2, pc := 0 } else { m with p := (pstp (gOf c) L m.p).2 } := by simp [astp, p2]
    rw [ea, ea1, ea2]
    generalize pstp (gOf c) L m.p = z at hstp ⊢
    obtain ⟨L', p'⟩ := z
    dsimp only at hstp ⊢
    have O2X : ¬ O2 X := fun e => nDX (hp.ins.2.1 _ e)
    have O2M : ¬ O2 M := fun e => nDM (hp.ins.2.1 _ e)
    have fro : ∀ (w1 : World) (k : Nat), UF (fun k => k = S ∨ k = D ∨ O2 k) w w1 → k < w.heap.size → k ≠ S → k ≠ D → ¬ O2 k → w1.heap[k]? = w.heap[k]? := fun w1 k u hk e1 e2 e3 => u.block k hk (fun e => by rcases e with e | e | e; exact e1 e; exact e2 e; exact e3 e)
    obtain ⟨Q, hQ⟩ : ∃ Q : World → Prop, Q = fun w' => (∃ O' D', PKM w' X2 O' D' c N p' ∧ (∀ k, O' k → O2 k ∨ w.heap.size ≤ k) ∧ (∀ k, D' k → D2 k ∨ w.heap.size ≤ k)) ∧ St w' S D L' (cc + 1) ∧ UF (fun k => k = S ∨ k = D ∨ O2 k) w w' := ⟨_, rfl⟩
    have hstp' : Calls Tryz.prog 60 #[ptr X2, ptr S] w fun e w' => e = .returned (.bool (decide (p'.pc = 0))) ∧ Q w' := by rw [hQ]; exact hstp
    have goal : ∀ m' : Am, (∀ w1, Q w1 → p'.pc = 0 → Calls Tryz.prog 105 #[ptr X] w1 fun e w' => e = .returned (.tuple #[]) ∧ ABehind w S D c N X O Dp L' (cc + 1) m' w') →
        (∀ w1, Q w1 → p'.pc ≠ 0 → ABehind w S D c N X O Dp L' (cc + 1) m' w1) →
        Calls Tryz.prog 32 #[ptr X, ptr S] w fun e w' => e = .returned (.bool (decide (m'.pc = 0))) ∧ ABehind w S D c N X O Dp L' (cc + 1) m' w' := fun m' hT hF => by
      refine astep_raw w X S 106 h5.c2 (fun a w => by simp [go_sem]) (decide (m'.pc = 0)) _ ?_ ?_
      · refine putTask_raw h5 (decide (p'.pc = 0)) Q _ hstp' (fun e w1 hk => hT w1 hk (by simpa using e)) (fun e w1 hk => hF w1 hk (by simpa using e))
      · rintro w' ⟨⟨O', D', hk, _⟩, _⟩
        rcases hk.nx with ⟨a, b⟩ | ⟨a, b⟩
        · exact .inl ⟨by simpa using a, b⟩
        · exact .inr ⟨by simpa using a, b⟩
    subst hQ
    refine goal _ ?_ ?_
    · rintro w1 ⟨⟨O', D', hk, ho, hd⟩, hst, u⟩ hp0
      rw [if_pos hp0]
      have hl1 := u.size
      refine (afin_any (h5.same (fro w1 X u hX nS nD O2X))).mono ?_
      rintro e w2 ⟨rfl, hab, u2⟩
      have hs2 := u2.size
      refine ⟨rfl, ⟨O, Dp, ⟨g1, g2, g3, fun k hk => by have := g4 k hk; omega, _, _, _, hab, .inr ⟨M, rfl, dmm_same (dmm_same hmm (fro w1 M u hmm.lt mS mD O2M)) (u2.block M (by have := hmm.lt; omega) nMX), oM, nMX, nMN, hsp, .inl ⟨rfl, rfl⟩⟩⟩, fun k hk => .inl hk, fun k hk => .inl hk⟩, ?_, ?_⟩
      · exact St_same hst (u2.block S hst.ltS (Ne.symm nS)) (u2.block D hst.row.lt (Ne.symm nD))
      · exact (u.mono (H := fun k => k = S ∨ k = D ∨ O k) (fun b _ e => by rcases e with e | e | e; exact .inl e; exact .inr (.inl e); exact .inr (.inr (sO b e)))).trans u2 (fun _ x => x) (fun b _ e => by subst e; exact .inr (.inr g2))
    · rintro w1 ⟨⟨O', D', hk, ho, hd⟩, hst, u⟩ hp0
      rw [if_neg hp0]
      have hl1 := u.size
      refine ⟨⟨fun k => O k ∨ O' k, fun k => Dp k ∨ D' k, ⟨g1, .inl g2, fun k h => h.imp (g3 k) (hk.ins.2.1 k), fun k h => ?_, _, _, _, h5.same (fro w1 X u hX nS nD O2X), .inr ⟨M, rfl, dmm_same hmm (fro w1 M u hmm.lt mS mD O2M), .inl oM, nMX, nMN, hsp, .inr (.inr ⟨p2, rfl, hp0, X2, O', D', rfl, hk, fun k h => .inr h, fun k h => .inr h, fun h => ?_, fun h => ?_⟩)⟩⟩, fun k h => ?_, fun k h => ?_⟩, hst, ?_⟩
      · rcases h with h | h
        · have := g4 k h; omega
        · exact hk.ins.2.2 k h
      · rcases hd X h with h | h
        · exact nDX h
        · omega
      · rcases hd M h with h | h
        · exact nDM h
        · have := hmm.lt; omega
      · rcases h with h | h
        · exact .inl h
        · exact (ho k h).imp (sO k) id
      · rcases h with h | h
        · exact .inl h
        · exact (hd k h).imp (sD k) id
      · exact u.mono fun b _ e => by rcases e with e | e | e; exact .inl e; exact .inr (.inl e); exact .inr (.inr (sO b e))
def NewA (w : World) (c : Cfg) (N : Nat) (m : Am) (e : Ending) (w' : World) : Prop :=
  ∃ X O Dp, e = .returned (ptr X) ∧ AKM w' X O Dp c N m ∧ (∀ k, Dp k → w.heap.size ≤ k) ∧ Below w.heap.size w w'
theorem top_pos {i : Int} (hc : OkC c) (h0 : 0 ≤ i) (h1 : i < c.mr) : 0 ≤ plcc c 8 i 0 := by
  rw [top_is hc h0 h1]; exact mk_pos hc h0
theorem newA_yes (hc : OkC c) (N : Nat) (i t : Int) (hi : (Lit.int .i64 i).wf = true) (w : World) (hm : Lay.IsMap w N c) (h0 : 0 ≤ i) (h1 : i < c.mr) :
    Calls Tryz.prog 30 #[Lay.mapP N, .int .i64 i, .int .u64 t] w (NewA w c N (aNew (eOf c i) t)) := by
  refine (new_yes hc N i t hi w hm (top_pos hc h0 h1)).mono ?_
  rintro e w' ⟨X, M, rfl, hX, hM, hne, hab, hmm, hb⟩
  have hN := hm.1
  refine ⟨X, fun k => k = X ∨ k = M, fun k => k = X ∨ k = M, rfl, ⟨by omega, .inl rfl, fun k h => h, fun k h => ?_, _, _, _, hab, .inr ⟨M, rfl, hmm, .inr rfl, hne, by omega, rfl, .inr (.inl ⟨rfl, rfl, by simp [aNew, Dg.mPush]⟩)⟩⟩, fun k h => ?_, hb⟩
  · rcases h with rfl | rfl
    · exact hab.lt
    · exact hmm.lt
  · rcases h with rfl | rfl
    · exact hX
    · exact hM
end
end Go.Proofs.YthoiaffeenhfgaaGreat

namespace Go.Proofs.YthoiaffeenhfgaaGreat
open Go.RowKit
set_option linter.unusedVariables false
set_option linter.unusedSimpArgs false
set_option maxRecDepth 100000
open Lay (plcc plc shOf packN nodesN OkC Cfg Norm firstV Rep lenL things)
section
variable {B S D N : Nat} {c : Cfg} {w0 w w' : World} {L : List Int} {k t : Int} {X lo : Nat} {m : Am}
def AKX (lo : Nat) (w : World) (X S D : Nat) (c : Cfg) (N : Nat) (m : Am) : Prop := ∃ O Dp, AKM w X O Dp c N m ∧ (∀ b, O b → lo ≤ b) ∧ ¬ Dp S ∧ ¬ Dp D
theorem AKX.of_new {e : Ending} (h : PO B S D N c w0 w L k) (hn : NewA w c N m e w') : ∃ X, e = .returned (ptr X) ∧ AKX w.heap.size w' X S D c N m ∧ PO B S D N c w0 w' L k ∧ Below w.heap.size w w' := by
  obtain ⟨X, O, Dp, rfl, hp, hd, hb⟩ := hn
  have hl := h.lt
  exact ⟨X, rfl, ⟨O, Dp, hp, fun b hb => hd b (hp.ins.2.1 b hb), fun d => by have := hd S d; omega, fun d => by have := hd D d; omega⟩, h.step hb, hb⟩
theorem step_ao (h : PO B S D N c w0 w L k) (hx : AKX lo w X S D c N m) (hlo : S < lo ∧ D < lo ∧ N < lo ∧ B ≤ lo ∧ lo ≤ w.heap.size) (wm : AW c t m) (hk : k ≤ 800000000) (ht : t ≤ 800000000) :
    Calls Tryz.prog 32 #[ptr X, ptr S] w fun e w' => e = .returned (.bool (decide ((astp (gOf c) L m).2.pc = 0))) ∧ PO B S D N c w0 w' (astp (gOf c) L m).1 (k + 1) ∧ AKX lo w' X S D c N (astp (gOf c) L m).2 ∧
      UF (fun b => b = S ∨ b = D ∨ lo ≤ b) w w' := by
  obtain ⟨cc, h0, h1, hs⟩ := h.st
  obtain ⟨O, Dp, hp, ho, hS, hD⟩ := hx
  have hl := h.lt
  have hB := h.lo
  refine (step_ak h.ok hp hs h.mp hS hD (fun hh => by have := ho N hh; omega) h.ns.1 h.ns.2 wm h.ww h0 (by omega) (by omega)).mono ?_
  rintro e w' ⟨rfl, ⟨O', D', hp', ho', hd'⟩, hs', u⟩
  have u2 : UF (fun b => b = S ∨ b = D ∨ lo ≤ b) w w' := u.mono fun b _ hb => by
    rcases hb with hb | hb | hb
    · exact .inl hb
    · exact .inr (.inl hb)
    · exact .inr (.inr (ho b hb))
  refine ⟨rfl, ⟨⟨acost m cc, ?_, ?_, hs'⟩, IsMap_same h.mp u2.size (u2.block N hl.2.2 (by have := h.ns; omega)), h.ok, h.ns, h.lo, (wm.step h.ww).2, below_uf h.bel h.lo.2.2 u2 (fun b hb => by omega)⟩, ⟨O', D', hp', fun b hb => ?_, fun hh => ?_, fun hh => ?_⟩, u2⟩
  · unfold acost; split <;> omega
  · unfold acost; split <;> omega
  · rcases ho' b hb with x | x
    · exact ho b x
    · omega
  · rcases hd' S hh with x | x
    · exact hS x
    · omega
  · rcases hd' D hh with x | x
    · exact hD x
    · omega
end
attribute [local irreducible] aruns
end Go.Proofs.YthoiaffeenhfgaaGreat

namespace Go.Proofs.YthoiaffeenhfgaaGreat
open Go.RowKit
set_option linter.unusedVariables false
set_option linter.unusedSimpArgs false
set_option maxRecDepth 100000
open Lay (plcc plc shOf packN nodesN OkC Cfg Norm firstV Rep lenL things)
section
variable {B S D N : Nat} {c : Cfg} {w0 w w' w1 : World} {L : List Int} {k mk i : Int} {l Q : List Int}
theorem astp_len (g : Pg) (L : List Int) (m : Am) : (astp g L m).1.length = L.length := by
  have hs : ∀ m : Sm, (sstp L m).1.length = L.length := fun m => by
    unfold sstp swapS
    repeat' (first | rfl | exact pt_len _ _ _ | refine ite_ind (P := fun z : List Int × Sm => z.1.length = L.length) ?_ ?_)
  have hp : ∀ m : Pm, (pstp g L m).1.length = L.length := fun m => by
    unfold pstp
    repeat' (first | rfl | exact hs _ | exact pt_len _ _ _ | refine ite_ind (P := fun z : List Int × Pm => z.1.length = L.length) ?_ ?_)
  have hd : ∀ m : Dg.Mc, (Dg.stp L m).1.length = L.length := fun m => by
    unfold Dg.stp Dg.pushS Dg.popS Dg.stealS
    repeat' (first | rfl | exact pt_len _ _ _ | refine ite_ind (P := fun z : List Int × Dg.Mc => z.1.length = L.length) ?_ ?_)
  unfold astp
  repeat' (first | rfl | exact hd _ | exact hp _ | refine ite_ind (P := fun z : List Int × Am => z.1.length = L.length) ?_ ?_)
end
end Go.Proofs.YthoiaffeenhfgaaGreat
