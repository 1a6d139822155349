/- A machine that sweeps: each of its steps is that of the one over words; over a store of the call's own; walked. -/
import Derived.Test.YtbpkcoemehmpbaaGreatSwK
namespace Go.Proofs.YtbpkcoemehmpbaaGreat
open Go.RowKit
set_option linter.unusedVariables false
set_option linter.unusedSimpArgs false
set_option maxRecDepth 100000
open Lay (plcc plc nodesN OkC Cfg kindV partsC)

def wcost (m : Wn) (cc : Int) : Int := if m.pc = 0 then cc else cc + 1
/-- Behind a step: a machine, the store, what else may have changed. -/
def WBehind (w : World) (S D : Nat) (N X : Nat) (O Dp : Nat → Prop) (L : List Int) (cc : Int) (m : Wn) (w' : World) : Prop :=
  (∃ O' D', WKM w' X O' D' N m ∧ (∀ k, O' k → O k ∨ w.heap.size ≤ k) ∧ (∀ k, D' k → Dp k ∨ w.heap.size ≤ k)) ∧ St w' S D L cc ∧ UF (fun k => k = S ∨ k = D ∨ O k) w w'
section
variable {w w1 w' : World} {X S D N : Nat} {c : Cfg} {O Dp : Nat → Prop} {m m' : Wn} {L L' : List Int} {cc cc' t : Int}
/-- A step of its own, with no other machine behind it. -/
theorem WBehind.of (h : WKM w X O Dp N m) {z' : Swc} {pp : Option Addr} (hz : Ss w1 w' X S D N c z' L' cc') (u : UF (fun k => k = S ∨ k = D ∨ O k) w w1) (e : z' = swOf m' (nxW X m'.pc) pp) (hp : m'.pc ≤ 7) (n6 : m'.pc ≠ 6) : WBehind w S D N X O Dp L' cc' m' w' := by
  obtain ⟨h1, h2, h3, h4, _⟩ := id h
  subst e
  have s1 := u.size; have s2 := hz.u.size
  refine ⟨⟨O, Dp, ⟨h1, h2, h3, fun k hk => by have := h4 k hk; omega, hp, pp, hz.mem, fun e => absurd e n6⟩, fun k hk => .inl hk, fun k hk => .inl hk⟩, hz.st, ?_⟩
  exact u.trans hz.u (fun _ x => x) (fun k _ e => by rcases e with e | e | e; exact .inr (.inr (e ▸ h2)); exact .inl e; exact .inr (.inl e))
/-- A node is put to the free ones next. -/
theorem WBehind.push (h : WKM w X O Dp N m) {z' : Swc} {M : Nat} (hz : Ss w1 w' X S D N c z' L' cc') (u : UF (fun k => k = X) w w1) (e : z' = swOf m' (nxW X m'.pc) (some ⟨M, 0, none⟩)) (p6 : m'.pc = 6)
    (ha : MM w' M (lvN N) m'.x) (hd : w1.heap.size ≤ M) (hN : N < w1.heap.size) : WBehind w S D N X O Dp L' cc' m' w' := by
  obtain ⟨h1, h2, h3, h4, _⟩ := id h
  subst e
  have hX := h.lt
  have s1 := u.size; have s2 := hz.u.size
  refine ⟨⟨fun k => O k ∨ k = M, fun k => Dp k ∨ k = M, ⟨h1, .inl h2, fun k hk => hk.imp (h3 k) id, fun k hk => ?_, by omega, _, hz.mem, fun _ => ⟨M, rfl, ha, .inr rfl, by omega, by omega⟩⟩, fun k hk => ?_, fun k hk => ?_⟩, hz.st, ?_⟩
  · rcases hk with hk | rfl
    · have := h4 k hk; omega
    · exact ha.lt
  · rcases hk with hk | rfl
    · exact .inl hk
    · exact .inr (by omega)
  · rcases hk with hk | rfl
    · exact .inl hk
    · exact .inr (by omega)
  · exact (u.trans hz.u (H := fun k => k = S ∨ k = D ∨ O k) (fun k e => by subst e; exact .inr (.inr h2)) (fun k _ e => by rcases e with e | e | e; exact .inr (.inr (e ▸ h2)); exact .inl e; exact .inr (.inl e)))
theorem nx_go (X : Nat) (v la : Int) : nxS X v la = nxW X (if v ≤ la then 3 else 7) := by unfold nxS; split <;> rfl
theorem adv_is (L : List Int) (a : Int) : adv L a 1 = ptq L a ((ldq L a + 1) % 18446744073709551616) := by
  unfold adv; rw [ptv_eq, ldv_eq, IntKind.wrap_u64]
theorem hk_is {c : Cfg} (hc : OkC c) {v : Int} (h1 : 1 ≤ v) (h2 : v ≤ nodesN c) : (wOf c).hk ((wOf c).cl v) = skN c (kindV c v) := by
  have := (node_kind hc h1 h2).1
  show (⟨plcc c 7 (((kindV c v).toNat : Nat) : Int) 0, nxtL c⟩ : Sk) = _
  rw [show (((kindV c v).toNat : Nat) : Int) = kindV c v by omega]
set_option maxHeartbeats 4000000 in
theorem step_wk (hc : OkC c) (h : WKM w X O Dp N m) (hs : St w S D L cc) (hm : Lay.IsMap w N c) (a1 : ¬ Dp S) (a2 : ¬ Dp D) (a3 : ¬ O N) (a4 : N ≠ S) (a5 : N ≠ D)
    (wm : WKW c t m) (ww : WW L) (h0 : 0 ≤ cc) (h1 : cc ≤ 900000000) (ht : t ≤ 900000000) :
    Calls Tryz.prog 16 #[ptr X, ptr S] w fun e w' => e = .returned (.bool (decide ((wstp (wOf c) L m).2.pc = 0))) ∧
      WBehind w S D N X O Dp (wstp (wOf c) L m).1 (wcost m cc) (wstp (wOf c) L m).2 w' := by
  obtain ⟨g1, g2, g3, g4, g5, pp, h5, h6⟩ := id h
  have hX := h.lt
  have hn1 := (Lay.bds hc).n1
  have dX : Dp X := g3 X g2
  have nS : X ≠ S := fun e => a1 (e ▸ dX)
  have nD : X ≠ D := fun e => a2 (e ▸ dX)
  obtain ⟨m0, hm0⟩ : ∃ m0 : Wn, m0 = wq m := ⟨_, rfl⟩
  have zs : ∀ {w1}, Sb w1 X (some ⟨N, 0, none⟩) { swOf m (nxW X m.pc) pp with ek := 0, ea := 0 } → UF (fun k => k = X) w w1 → Ss w1 w1 X S D N c (swOf m0 (nxW X m.pc) pp) L cc := fun {w1} hz u => by
    subst hm0
    exact ⟨hz, St_same hs (u.block S hs.ltS (Ne.symm nS)) (u.block D hs.row.lt (Ne.symm nD)), IsMap_same hm u.size (u.block N hm.1 (Ne.symm g1)), hc, ⟨nS, nD, Ne.symm g1, a4, a5⟩, .refl _ _⟩
  have hp : m.pc = 0 ∨ m.pc = 1 ∨ m.pc = 2 ∨ m.pc = 3 ∨ m.pc = 4 ∨ m.pc = 5 ∨ m.pc = 6 ∨ m.pc = 7 := by omega
  have fin : ∀ (f : Nat) (L' : List Int) (cc' : Int) (m' : Wn), nxW X m.pc = fns f X → (∀ a w, (callFunc f a).run Tryz.prog w = .ok (.enter f a) w) →
      (∀ w1, Ss w1 w1 X S D N c (swOf m0 (nxW X m.pc) pp) L cc → UF (fun k => k = X) w w1 → Calls Tryz.prog f #[ptr X, ptr S] w1 fun e w' => e = .returned (.tuple #[]) ∧ WBehind w S D N X O Dp L' cc' m' w') →
      Calls Tryz.prog 16 #[ptr X, ptr S] w fun e w' => e = .returned (.bool (decide (m'.pc = 0))) ∧ WBehind w S D N X O Dp L' cc' m' w' := fun f L' cc' m' hf hen hN => by
    refine sstep_raw h5 hf hen (decide (m'.pc = 0)) _ (fun w1 hz u => hN w1 (zs hz u) u) ?_
    rintro w' ⟨⟨O', D', hk, _⟩, _⟩
    exact hk.nx
  have uo : ∀ {w1}, UF (fun k => k = X) w w1 → UF (fun k => k = S ∨ k = D ∨ O k) w w1 := fun u => u.mono fun k _ e => by subst e; exact .inr (.inr g2)
  have ec : m.pc ≠ 0 → wcost m cc = cc + 1 := fun e => by unfold wcost; rw [if_neg e]
  rcases hp with p | p | p | p | p | p | p | p
  · have e : wstp (wOf c) L m = (L, m0) := by rw [hm0]; simp [wstp, p]
    rw [e]
    refine (sstep_off (ptr S) h5 (by show nxW X m.pc = _; rw [p]; rfl)).mono ?_
    rintro e w' ⟨rfl, hz, u⟩
    have hz' := zs hz u
    refine ⟨by subst hm0; simp [wq, p], ?_⟩
    have : wcost m cc = cc := by unfold wcost; rw [if_pos p]
    rw [this]
    exact .of h hz' (uo u) (by subst hm0; rfl) (by subst hm0; exact g5) (by subst hm0; show m.pc ≠ 6; omega)
  · rw [ec (by omega)]
    have e : wstp (wOf c) L m = (L, { wq m with w := ldq L 2, pc := if hiw (ldq L 2) = m.cy % 4294967296 ∧ low (ldq L 2) < partsC c then 2 else 0 }) := by
      rw [← parts_is hc, ← sweep2 c]
      unfold wstp; rw [if_pos p]; rfl
    rw [e]
    refine fin 39 _ _ _ (by rw [p]; rfl) (fun a w => by simp [go_sem]) fun w1 hz u => ?_
    refine (seeSweepS hz h0 (by omega) ww (by subst hm0; exact wm.cy)).mono ?_
    rintro e w' ⟨rfl, hk⟩
    subst hm0
    refine ⟨rfl, .of (pp := pp) h hk (uo u) ?_ ?_ ?_⟩
    · show Swc.mk _ (if hiw (ldq L 2) = m.cy % 4294967296 ∧ low (ldq L 2) < partsC c then fns 74 X else .nilFunc) _ _ _ _ _ _ _ = swOf _ (nxW X (if hiw (ldq L 2) = m.cy % 4294967296 ∧ low (ldq L 2) < partsC c then 2 else 0)) pp
      split <;> rfl
    · show (if _ then 2 else 0) ≤ 7; split <;> omega
    · show (if _ then 2 else 0) ≠ 6; split <;> omega
  · rw [ec (by omega)]
    by_cases hx : (0 ≤ (2 : Int) ∧ (2 : Int) < L.length) ∧ L.getD (2 : Int).toNat 0 = m.w
    · have e : wstp (wOf c) L m = (ptq L 2 (m.w + 1), wgo { wq m with part := low m.w, last := wmin ((low m.w + 1) * c.sw) (nodesN c) } (low m.w * c.sw + 1)) := by
        have hs2 : (wOf c).sw = 2 := sweep2 c
        unfold wstp; rw [if_neg (by omega), if_pos p, hs2, if_pos hx]; rfl
      rw [e]
      refine fin 74 _ _ _ (by rw [p]; rfl) (fun a w => by simp [go_sem]) fun w1 hz u => ?_
      refine (takePartS hz h0 (by omega) (by subst hm0; exact wm.w) (by subst hm0; exact wm.p2 p) (by subst hm0; exact (swB_iff ..).2 hx)).mono ?_
      rintro e w' ⟨rfl, hk⟩
      subst hm0
      refine ⟨rfl, .of (pp := pp) h hk (uo u) ?_ ?_ ?_⟩
      · rw [nx_go]; rfl
      · show (if _ then 3 else 7) ≤ 7; split <;> omega
      · show (if _ then 3 else 7) ≠ 6; split <;> omega
    · have e : wstp (wOf c) L m = (L, { wq m with pc := 0 }) := by
        have hs2 : (wOf c).sw = 2 := sweep2 c
        unfold wstp; rw [if_neg (by omega), if_pos p, hs2, if_neg hx]
      rw [e]
      refine fin 74 _ _ _ (by rw [p]; rfl) (fun a w => by simp [go_sem]) fun w1 hz u => ?_
      have hb : swB L 2 m.w = false := by
        cases hb : swB L 2 m.w with
        | false => rfl
        | true => exact absurd ((swB_iff ..).1 hb) hx
      refine (takePartNoS hz h0 (by omega) (by subst hm0; exact wm.w) (by subst hm0; exact wm.p2 p) (by subst hm0; exact hb)).mono ?_
      rintro e w' ⟨rfl, hk⟩
      subst hm0
      exact ⟨rfl, .of (pp := pp) h hk (uo u) rfl (by simp) (by simp)⟩
  · rw [ec (by omega)]
    have hv := wm.v (by omega) (by omega)
    have hl := wm.la
    have e : wstp (wOf c) L m = (L, if ldq L (plcc c 15 m.v 0) = 1 then { wq m with pc := 4 } else wgo (wq m) (m.v + 1)) := by
      simp [wstp, p]; rfl
    rw [e]
    refine fin 93 _ _ _ (by rw [p]; rfl) (fun a w => by simp [go_sem]) fun w1 hz u => ?_
    refine (seeStateS hz h0 (by omega) (by subst hm0; show 0 ≤ m.v; omega) (by subst hm0; show m.v ≤ 1000000; omega)).mono ?_
    rintro e w' ⟨rfl, hk⟩
    subst hm0
    refine ⟨rfl, .of (pp := pp) h hk (uo u) ?_ ?_ ?_⟩
    · show (if ldq L (plcc c 15 m.v 0) = 1 then _ else _) = _
      by_cases hx : ldq L (plcc c 15 m.v 0) = 1
      · simp only [if_pos hx]; rfl
      · simp only [if_neg hx]; rw [nx_go]; rfl
    · by_cases hx : ldq L (plcc c 15 m.v 0) = 1
      · simp only [if_pos hx]; omega
      · simp only [if_neg hx]; show (if _ then 3 else 7) ≤ 7; split <;> omega
    · by_cases hx : ldq L (plcc c 15 m.v 0) = 1
      · simp only [if_pos hx]; omega
      · simp only [if_neg hx]; show (if _ then 3 else 7) ≠ 6; split <;> omega
  · rw [ec (by omega)]
    have hv := wm.v (by omega) (by omega)
    have hl := wm.la
    have e : wstp (wOf c) L m = (L, if ldq L (plcc c 16 m.v 0) < m.cy then { wq m with pc := 5 } else wgo (wq m) (m.v + 1)) := by
      simp [wstp, p]; rfl
    rw [e]
    refine fin 96 _ _ _ (by rw [p]; rfl) (fun a w => by simp [go_sem]) fun w1 hz u => ?_
    refine (seeMarkS hz h0 (by omega) (by subst hm0; show 0 ≤ m.v; omega) (by subst hm0; show m.v ≤ 1000000; omega)).mono ?_
    rintro e w' ⟨rfl, hk⟩
    subst hm0
    refine ⟨rfl, .of (pp := pp) h hk (uo u) ?_ ?_ ?_⟩
    · show (if ldq L (plcc c 16 m.v 0) < m.cy then _ else _) = _
      by_cases hx : ldq L (plcc c 16 m.v 0) < m.cy
      · simp only [if_pos hx]; rfl
      · simp only [if_neg hx]; rw [nx_go]; rfl
    · by_cases hx : ldq L (plcc c 16 m.v 0) < m.cy
      · simp only [if_pos hx]; omega
      · simp only [if_neg hx]; show (if _ then 3 else 7) ≤ 7; split <;> omega
    · by_cases hx : ldq L (plcc c 16 m.v 0) < m.cy
      · simp only [if_pos hx]; omega
      · simp only [if_neg hx]; show (if _ then 3 else 7) ≠ 6; split <;> omega
  · rw [ec (by omega)]
    have hv := wm.v (by omega) (by omega)
    have hl := wm.la
    have e : wstp (wOf c) L m = (ptq L (plcc c 15 m.v 0) 0, { m with ek := 5, ea := m.v, x := mPush (skN c (kindV c m.v)) m.v, pc := 6 }) := by
      rw [← hk_is hc hv.1 (by omega)]
      simp [wstp, p]; rfl
    rw [e]
    have hkd := node_kind hc hv.1 (show m.v ≤ nodesN c by omega)
    refine fin 98 _ _ _ (by rw [p]; rfl) (fun a w => by simp [go_sem]) fun w1 hz u => ?_
    refine (freeNodeS hz h0 (by omega) (by subst hm0; show 0 ≤ m.v; omega) (by subst hm0; show m.v ≤ 1000000; omega) (by subst hm0; show -10 ≤ kindV c m.v ∧ kindV c m.v ≤ 10; omega)).mono ?_
    rintro e w' ⟨rfl, M, hmm, hM, hk⟩
    subst hm0
    exact ⟨rfl, .push (M := M) h hk u rfl rfl hmm hM hz.mp.1⟩
  · rw [ec (by omega)]
    have hv := wm.v (by omega) (by omega)
    have hl := wm.la
    obtain ⟨M, rfl, hmm, oM, nMX, nMN⟩ := h6 p
    obtain ⟨hx1, hx2, hx3⟩ := wm.x p
    have dM : Dp M := g3 M oM
    have mS : M ≠ S := fun e => a1 (e ▸ dM)
    have mD : M ≠ D := fun e => a2 (e ▸ dM)
    have e1 : (wstp (wOf c) L m).1 = (sstp L m.x).1 := by simp [wstp, p]
    have e2 : (wstp (wOf c) L m).2 = if (sstp L m.x).2.pc = 0 then wgo { m0 with x := (sstp L m.x).2 } (m.v + 1) else { m0 with x := (sstp L m.x).2 } := by rw [hm0]; simp [wstp, p]
    rw [e1, e2]
    have hstp : ∀ w1, Ss w1 w1 X S D N c (swOf m0 (nxW X m.pc) (some ⟨M, 0, none⟩)) L cc → UF (fun k => k = X) w w1 → Calls Tryz.prog 103 #[ptr M, ptr S] w1 fun e w' => e = .returned (.bool (decide ((sstp L m.x).2.pc = 0))) ∧ Mi w1 w' M S D (lvN N) N (sstp L m.x).2 (sstp L m.x).1 (cc + 1) := fun w1 hz u => by
      have hmm' : MM w1 M (lvN N) m.x := (u.block M hmm.lt nMX).trans hmm
      have k := step_any w1 (hmm'.mi hz.st (by rw [hx3]; exact lk_n hc hz.mp) mS mD ⟨Ne.symm nMN, a4, a5⟩) hx1 ww h0 (by omega) (by omega)
      have ecs : cst m.x cc = cc + 1 := by unfold cst; rw [if_neg hx2]
      rw [ecs] at k; exact k
    generalize sstp L m.x = y at hstp ⊢
    obtain ⟨L', x'⟩ := y
    dsimp only at hstp ⊢
    have zs2 : ∀ {w1 w2}, Ss w1 w1 X S D N c (swOf m0 (nxW X m.pc) (some ⟨M, 0, none⟩)) L cc → Mi w1 w2 M S D (lvN N) N x' L' (cc + 1) → Ss w2 w2 X S D N c (swOf m0 (nxW X m.pc) (some ⟨M, 0, none⟩)) L' (cc + 1) := fun {w1 w2} hz hb =>
      ⟨hz.mem.same (hb.u'.block X hz.mem.lt (Ne.symm nMX) nS nD), hb.st', IsMap_same hz.mp hb.u'.size (hb.u'.block N hz.mp.1 (Ne.symm nMN) a4 a5), hc, hz.n, .refl _ _⟩
    have uf1 : ∀ {w1 w2}, UF (fun k => k = X) w w1 → Mi w1 w2 M S D (lvN N) N x' L' (cc + 1) → UF (fun k => k = S ∨ k = D ∨ O k) w w2 := fun u hb => u.trans (UF.of_u3 hb.u') (fun k e => by subst e; exact .inr (.inr g2)) (fun k _ e => by rcases e with e | e | e; exact .inr (.inr (e ▸ oM)); exact .inl e; exact .inr (.inl e))
    by_cases hq : x'.pc = 0
    · rw [if_pos hq]
      rw [show decide (x'.pc = 0) = true by simpa using hq] at hstp
      refine fin 100 _ _ _ (by rw [p]; rfl) (fun a w => by simp [go_sem]) fun w1 hz u => ?_
      refine (push_end (c := c) (D := D) (L := L') (cc := cc + 1) hz.mem rfl (by subst hm0; show 0 ≤ m.v; omega) (by subst hm0; show m.v ≤ 1000000; omega) _ (hstp w1 hz u) (fun w2 hb => zs2 hz hb)).mono ?_
      rintro e w' ⟨rfl, w2, hb, hk⟩
      subst hm0
      refine ⟨rfl, .of (pp := some ⟨M, 0, none⟩) h hk (uf1 u hb) ?_ ?_ ?_⟩
      · rw [nx_go]; rfl
      · show (if _ then 3 else 7) ≤ 7; split <;> omega
      · show (if _ then 3 else 7) ≠ 6; split <;> omega
    · rw [if_neg hq]
      rw [show decide (x'.pc = 0) = false by simpa using hq] at hstp
      refine fin 100 _ _ _ (by rw [p]; rfl) (fun a w => by simp [go_sem]) fun w1 hz u => ?_
      refine (push_on hz.mem rfl _ (hstp w1 hz u)).mono ?_
      rintro e w' ⟨rfl, hb⟩
      have s1 := u.size; have s2 := hb.u'.size
      subst hm0
      exact ⟨rfl, ⟨O, Dp, ⟨g1, g2, g3, fun k hk => by have := g4 k hk; omega, g5, some ⟨M, 0, none⟩, (zs2 hz hb).mem, fun _ => ⟨M, rfl, hb.mm, oM, nMX, nMN⟩⟩, fun k hk => .inl hk, fun k hk => .inl hk⟩, hb.st', uf1 u hb⟩
  · rw [ec (by omega)]
    have e : wstp (wOf c) L m = (adv L 3 1, { m with ek := 6, ea := m.part, pc := 0 }) := by
      rw [adv_is, ← done3 c]
      simp [wstp, p]; rfl
    rw [e]
    refine fin 94 _ _ _ (by rw [p]; rfl) (fun a w => by simp [go_sem]) fun w1 hz u => ?_
    refine (countPartS hz h0 (by omega)).mono ?_
    rintro e w' ⟨rfl, hk⟩
    subst hm0
    exact ⟨rfl, .of (pp := pp) h hk (uo u) rfl (by simp) (by simp)⟩
end
section
variable {B S D N : Nat} {c : Cfg} {w0 w w' : World} {L : List Int} {k t : Int} {X lo : Nat} {m : Wn}
theorem wkm_new {w : World} {X N : Nat} {cy : Int} (h : Sb w X (some ⟨N, 0, none⟩) (sc0 cy (fns 39 X))) (hn : X ≠ N) : WKM w X (fun k => k = X) (fun k => k = X) N (wNew cy) :=
  ⟨hn, rfl, fun k h => h, fun k e => by subst e; exact h.lt, by simp [wNew], none, h, fun e => by simp [wNew] at e⟩
theorem wkw_new {c : Cfg} (hc : OkC c) {cy : Int} (h : 0 ≤ cy ∧ cy ≤ 18446744073709551615) : WKW c 0 (wNew cy) :=
  ⟨h, by simp [wNew], by simp [wNew], fun e => by simp [wNew] at e, fun e => by simp [wNew] at e, (show (0 : Int) ≤ nodesN c by have := (Lay.bds hc).n0; omega), fun e => by simp [wNew] at e, by omega⟩
/-- A machine in memory whose blocks are not below lo, apart from the store. -/
def WKX (lo : Nat) (w : World) (X S D : Nat) (N : Nat) (m : Wn) : Prop := ∃ O Dp, WKM w X O Dp N m ∧ (∀ b, Dp b → lo ≤ b) ∧ ¬ Dp S ∧ ¬ Dp D
theorem WKX.below (h : WKX lo w X S D N m) (hb : Below w.heap.size w w') : WKX lo w' X S D N m := by
  obtain ⟨O, Dp, hp, a⟩ := h
  exact ⟨O, Dp, hp.below hb, a⟩
/-- Behind an access of another one. -/
theorem WKX.left (h : WKX lo w X S D N m) (u : UF (fun b => b = S ∨ b = D) w w') : WKX lo w' X S D N m := by
  obtain ⟨O, Dp, hp, h1, h2, h3⟩ := h
  exact ⟨O, Dp, hp.keep u.size fun k hk => u.block k (hp.ins.2.2 k hk) (fun e => by rcases e with e | e; exact h2 (e ▸ hk); exact h3 (e ▸ hk)), h1, h2, h3⟩
/-- Behind a change of blocks that are below lo. -/
theorem WKX.far (h : WKX lo w X S D N m) (u : UF (fun b => b < lo) w w') : WKX lo w' X S D N m := by
  obtain ⟨O, Dp, hp, h1, h2, h3⟩ := h
  exact ⟨O, Dp, hp.keep u.size fun k hk => u.block k (hp.ins.2.2 k hk) (fun e => by have := h1 k hk; omega), h1, h2, h3⟩
theorem new_wo (h : PO B S D N c w0 w L k) (cy : Int) :
    Calls Tryz.prog 11 #[Lay.mapP N, .int .u64 cy] w fun e w' => ∃ X, e = .returned (ptr X) ∧ WKX w.heap.size w' X S D N (wNew cy) ∧ PO B S D N c w0 w' L k ∧ Below w.heap.size w w' := by
  refine (newS_map N cy w).mono ?_
  rintro e w' ⟨X, rfl, hX, hz, hb⟩
  have hl := h.lt
  exact ⟨X, rfl, ⟨fun k => k = X, fun k => k = X, wkm_new hz (by omega), fun b e => by omega, by omega, by omega⟩, h.step hb, hb⟩
theorem event_wo (h : WKX lo w X S D N m) : Calls Tryz.prog 19 #[ptr X] w fun a w' => a = .returned (evA m.ek m.ea) ∧ Below w.heap.size w w' := by
  obtain ⟨O, Dp, hp, _⟩ := h
  exact hp.event
theorem part_wo (h : WKX lo w X S D N m) : Calls Tryz.prog 18 #[ptr X] w fun a w' => a = .returned (.int .i64 m.part) ∧ w = w' := by
  obtain ⟨O, Dp, hp, _⟩ := h
  exact hp.part
/-- A step of it. -/
theorem step_wo (h : PO B S D N c w0 w L k) (hx : WKX lo w X S D N m) (hlo : S < lo ∧ D < lo ∧ N < lo ∧ B ≤ lo ∧ lo ≤ w.heap.size) (wm : WKW c t m) (hk : k ≤ 800000000) (ht : t ≤ 800000000) :
    Calls Tryz.prog 16 #[ptr X, ptr S] w fun e w' => e = .returned (.bool (decide ((wstp (wOf c) L m).2.pc = 0))) ∧ PO B S D N c w0 w' (wstp (wOf c) L m).1 (k + 1) ∧ WKX lo w' X S D N (wstp (wOf c) L m).2 ∧
      UF (fun b => b = S ∨ b = D ∨ lo ≤ b) w w' := by
  obtain ⟨cc, h0, h1, hs⟩ := h.st
  obtain ⟨O, Dp, hp, ho, hS, hD⟩ := hx
  have hl := h.lt
  have hB := h.lo
  refine (step_wk h.ok hp hs h.mp hS hD (fun hh => by have := ho N (hp.ins.2.1 N hh); omega) h.ns.1 h.ns.2 wm h.ww h0 (by omega) (by omega)).mono ?_
  rintro e w' ⟨rfl, ⟨O', D', hp', ho', hd'⟩, hs', u⟩
  have u2 : UF (fun b => b = S ∨ b = D ∨ lo ≤ b) w w' := u.mono fun b _ hb => by
    rcases hb with hb | hb | hb
    · exact .inl hb
    · exact .inr (.inl hb)
    · exact .inr (.inr (ho b (hp.ins.2.1 b hb)))
  refine ⟨rfl, ⟨⟨wcost m cc, ?_, ?_, hs'⟩, IsMap_same h.mp u2.size (u2.block N hl.2.2 (by have := h.ns; omega)), h.ok, h.ns, h.lo, (wm.step h.ok h.ww).2, below_uf h.bel h.lo.2.2 u2 (fun b hb => by omega)⟩, ⟨O', D', hp', fun b hb => ?_, fun hh => ?_, fun hh => ?_⟩, u2⟩
  · unfold wcost; split <;> omega
  · unfold wcost; split <;> omega
  · rcases hd' b hb with x | x
    · exact ho b x
    · omega
  · rcases hd' S hh with x | x
    · exact hS x
    · omega
  · rcases hd' D hh with x | x
    · exact hD x
    · omega
end
end Go.Proofs.YtbpkcoemehmpbaaGreat
