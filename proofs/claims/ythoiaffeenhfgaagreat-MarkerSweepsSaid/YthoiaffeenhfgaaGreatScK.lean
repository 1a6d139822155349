
import Derived.Test.YthoiaffeenhfgaaGreatJ25
import Derived.Test.YthoiaffeenhfgaaGreatJ26
namespace Go.Proofs.YthoiaffeenhfgaaGreat
open Go.RowKit
set_option linter.unusedVariables false
set_option linter.unusedSimpArgs false
set_option maxRecDepth 100000
open Lay (plcc plc nodesN OkC Cfg slotsOf kindV)
def nxZ (X : Nat) : Nat → Value
  | 1 => fnz 142 X
  | 2 => fnz 162 X
  | 3 => fnz 190 X
  | 4 => fnz 178 X
  | 5 => fnz 192 X
  | 6 => fnz 179 X
  | _ => .nilFunc
abbrev zOf (i : Int) (m : Zm) (nx : Value) (cp ap : Option Addr) : Zc := ⟨i, m.v, m.fr, m.cy, m.at', m.to, nx, m.w, cp, ap, m.ek, m.ea, m.eb⟩
def ZKM (w : World) (X : Nat) (O Dp : Nat → Prop) (c : Cfg) (N : Nat) (i : Int) (m : Zm) : Prop :=
  X ≠ N ∧ O X ∧ (∀ k, O k → Dp k) ∧ (∀ k, Dp k → k < w.heap.size) ∧ m.pc ≤ 6 ∧ ∃ cp ap, Zb w X (some ⟨N, 0, none⟩) (zOf i m (nxZ X m.pc) cp ap) ∧
    (m.pc = 3 → ∃ X2 O2 D2, ap = some ⟨X2, 0, none⟩ ∧ AKM w X2 O2 D2 c N m.d ∧ (∀ k, O2 k → O k) ∧ (∀ k, D2 k → Dp k) ∧ ¬ D2 X) ∧
    (m.pc = 5 → ∃ M, cp = some ⟨M, 0, none⟩ ∧ CM w M 1 m.c ∧ O M ∧ M ≠ X ∧ M ≠ N)
section
variable {w w' : World} {X N : Nat} {O Dp : Nat → Prop} {c : Cfg} {m : Zm} {i : Int}
theorem ZKM.ins (h : ZKM w X O Dp c N i m) : O X ∧ (∀ k, O k → Dp k) ∧ ∀ k, Dp k → k < w.heap.size := ⟨h.2.1, h.2.2.1, h.2.2.2.1⟩
theorem ZKM.lt (h : ZKM w X O Dp c N i m) : X < w.heap.size := h.ins.2.2 X (h.ins.2.1 X h.ins.1)
theorem ZKM.keep (h : ZKM w X O Dp c N i m) (hs : w.heap.size ≤ w'.heap.size) (hb : ∀ k, Dp k → w'.heap[k]? = w.heap[k]?) : ZKM w' X O Dp c N i m := by
  obtain ⟨h1, h2, h3, h4, hp, cp, ap, h5, h6, h7⟩ := h
  refine ⟨h1, h2, h3, fun k hk => Nat.lt_of_lt_of_le (h4 k hk) hs, hp, cp, ap, h5.same (hb X (h3 X h2)), fun e => ?_, fun e => ?_⟩
  · obtain ⟨X2, O2, D2, a, b, d, f, g⟩ := h6 e
    exact ⟨X2, O2, D2, a, b.keep hs (fun k hk => hb k (f k hk)), d, f, g⟩
  · obtain ⟨M, a, b, d, f, g⟩ := h7 e
    exact ⟨M, a, b.keep (hb M (h3 M d)), d, f, g⟩
theorem nxZ_cases (X : Nat) {p : Nat} (h : p ≤ 6) : (p = 0 ∧ nxZ X p = .nilFunc) ∨ (p ≠ 0 ∧ ∃ f, nxZ X p = fnz f X) := by
  have : p = 0 ∨ p = 1 ∨ p = 2 ∨ p = 3 ∨ p = 4 ∨ p = 5 ∨ p = 6 := by omega
  rcases this with rfl | rfl | rfl | rfl | rfl | rfl | rfl
  · exact .inl ⟨rfl, rfl⟩
  all_goals exact .inr ⟨by simp, _, rfl⟩
theorem ZKM.nx (h : ZKM w X O Dp c N i m) : (decide (m.pc = 0) = true ∧ w.cell? ⟨X, 7, none⟩ = some .nilFunc) ∨ (decide (m.pc = 0) = false ∧ ∃ f, w.cell? ⟨X, 7, none⟩ = some (fnz f X)) := by
  obtain ⟨h1, h2, h3, h4, hp, cp, ap, h5, h6, h7⟩ := h
  have c7 := h5.c7
  rcases nxZ_cases X hp with ⟨a, b⟩ | ⟨a, f, b⟩
  · exact .inl ⟨by simpa using a, by rw [c7]; exact congrArg some b⟩
  · exact .inr ⟨by simpa using a, f, by rw [c7]; exact congrArg some b⟩
theorem ZKM.event (h : ZKM w X O Dp c N i m) : Calls Tryz.prog 237 #[ptr X] w fun a w' => a = .returned (evV m.ek m.ea m.eb) ∧ Below w.heap.size w w' := by
  obtain ⟨h1, h2, h3, h4, hp, cp, ap, h5, h6, h7⟩ := h
  exact event_any h5
end
def zcost (m : Zm) (cc : Int) : Int := if m.pc = 0 then cc else cc + 1
def ZBehind (w : World) (S D : Nat) (c : Cfg) (N : Nat) (i : Int) (X : Nat) (O Dp : Nat → Prop) (L : List Int) (cc : Int) (m : Zm) (w' : World) : Prop :=
  (∃ O' D', ZKM w' X O' D' c N i m ∧ (∀ k, O' k → O k ∨ w.heap.size ≤ k) ∧ (∀ k, D' k → Dp k ∨ w.heap.size ≤ k)) ∧ St w' S D L cc ∧ UF (fun k => k = S ∨ k = D ∨ O k) w w'
section
variable {w w1 w' : World} {X S D N : Nat} {c : Cfg} {O Dp : Nat → Prop} {m m' : Zm} {L L' : List Int} {cc cc' t i : Int}
theorem ZBehind.of (h : ZKM w X O Dp c N i m) {z' : Zc} {cp ap : Option Addr} (hz : Zs w1 w' X S D N c z' L' cc') (u : UF (fun k => k = X) w w1) (e : z' = zOf i m' (nxZ X m'.pc) cp ap) (hp : m'.pc ≤ 6) (n3 : m'.pc ≠ 3) (n5 : m'.pc ≠ 5) : ZBehind w S D c N i X O Dp L' cc' m' w' := by
  obtain ⟨h1, h2, h3, h4, _⟩ := id h
  subst e
  have s1 := u.size; have s2 := hz.u.size
  refine ⟨⟨O, Dp, ⟨h1, h2, h3, fun k hk => by have := h4 k hk; omega, hp, cp, ap, hz.mem, fun e => absurd e n3, fun e => absurd e n5⟩, fun k hk => .inl hk, fun k hk => .inl hk⟩, hz.st, ?_⟩
  exact (u.trans hz.u (H := fun k => k = S ∨ k = D ∨ O k) (fun k e => by subst e; exact .inr (.inr h2)) (fun k _ e => by rcases e with e | e | e; exact .inr (.inr (e ▸ h2)); exact .inl e; exact .inr (.inl e)))
theorem ZBehind.add (h : ZKM w X O Dp c N i m) {z' : Zc} {cp : Option Addr} {X2 : Nat} {O2 D2 : Nat → Prop} (hz : Zs w1 w' X S D N c z' L' cc') (u : UF (fun k => k = S ∨ k = D ∨ O k) w w1) (e : z' = zOf i m' (nxZ X m'.pc) cp (some ⟨X2, 0, none⟩)) (p3 : m'.pc = 3)
    (ha : AKM w' X2 O2 D2 c N m'.d) (hd : ∀ k, D2 k → w1.heap.size ≤ k) : ZBehind w S D c N i X O Dp L' cc' m' w' := by
  obtain ⟨h1, h2, h3, h4, _⟩ := id h
  subst e
  have hX := h.lt
  have s1 := u.size; have s2 := hz.u.size
  refine ⟨⟨fun k => O k ∨ O2 k, fun k => Dp k ∨ D2 k, ⟨h1, .inl h2, fun k hk => hk.imp (h3 k) (ha.ins.2.1 k), fun k hk => ?_, by omega, cp, _, hz.mem, fun _ => ⟨X2, O2, D2, rfl, ha, fun k hk => .inr hk, fun k hk => .inr hk, fun hk => ?_⟩, fun e => by omega⟩, fun k hk => ?_, fun k hk => ?_⟩, hz.st, ?_⟩
  · rcases hk with hk | hk
    · have := h4 k hk; omega
    · exact ha.ins.2.2 k hk
  · have := hd X hk; omega
  · rcases hk with hk | hk
    · exact .inl hk
    · have := hd k (ha.ins.2.1 k hk); exact .inr (by omega)
  · rcases hk with hk | hk
    · exact .inl hk
    · have := hd k hk; exact .inr (by omega)
  · exact u.trans hz.u (fun _ x => x) (fun k _ e => by rcases e with e | e | e; exact .inr (.inr (e ▸ h2)); exact .inl e; exact .inr (.inl e))
theorem ZBehind.claim (h : ZKM w X O Dp c N i m) {z' : Zc} {ap : Option Addr} {M : Nat} (hz : Zs w1 w' X S D N c z' L' cc') (u : UF (fun k => k = X) w w1) (e : z' = zOf i m' (nxZ X m'.pc) (some ⟨M, 0, none⟩) ap) (p5 : m'.pc = 5)
    (ha : CM w' M 1 m'.c) (hd : w1.heap.size ≤ M) (hN : N < w1.heap.size) : ZBehind w S D c N i X O Dp L' cc' m' w' := by
  obtain ⟨h1, h2, h3, h4, _⟩ := id h
  subst e
  have hX := h.lt
  have s1 := u.size; have s2 := hz.u.size
  refine ⟨⟨fun k => O k ∨ k = M, fun k => Dp k ∨ k = M, ⟨h1, .inl h2, fun k hk => hk.imp (h3 k) id, fun k hk => ?_, by omega, _, ap, hz.mem, fun e => by omega, fun _ => ⟨M, rfl, ha, .inr rfl, by omega, by omega⟩⟩, fun k hk => ?_, fun k hk => ?_⟩, hz.st, ?_⟩
  · rcases hk with hk | rfl
    · have := h4 k hk; omega
    · exact ha.lt
  · rcases hk with hk | rfl
    · exact .inl hk
    · exact .inr (by omega)
  · rcases hk with hk | rfl
    · exact .inl hk
    · exact .inr (by omega)
  · exact (u.trans hz.u (H := fun k => k = S ∨ k = D ∨ O k) (fun k e => by subst e; exact .inr (.inr h2)) (fun k _ e => by rcases e with e | e | e; exact .inr (.inr (e ▸ h2)); exact .inl e; exact .inr (.inl e)))
theorem nx_rest (X : Nat) (a b : Int) : (if a < b then fnz 178 X else fnz 179 X) = nxZ X (if a < b then 4 else 6) := by split <;> rfl
set_option maxHeartbeats 4000000 in
theorem step_zk (hc : OkC c) (h : ZKM w X O Dp c N i m) (hs : St w S D L cc) (hm : Lay.IsMap w N c) (a1 : ¬ Dp S) (a2 : ¬ Dp D) (a3 : ¬ O N) (a4 : N ≠ S) (a5 : N ≠ D)
    (wm : ZW c t m) (ww : WW L) (i0 : 0 ≤ i) (i1 : i < c.mr) (h0 : 0 ≤ cc) (h1 : cc ≤ 900000000) (ht : t ≤ 900000000) :
    Calls Tryz.prog 238 #[ptr X, ptr S] w fun e w' => e = .returned (.bool (decide ((zstp (zgOf c) (gOf c) (aNew (eOf c i)) L m).2.pc = 0))) ∧
      ZBehind w S D c N i X O Dp (zstp (zgOf c) (gOf c) (aNew (eOf c i)) L m).1 (zcost m cc) (zstp (zgOf c) (gOf c) (aNew (eOf c i)) L m).2 w' := by
  obtain ⟨g1, g2, g3, g4, g5, cp, ap, h5, h6, h7⟩ := id h
  have hX := h.lt
  have dX : Dp X := g3 X g2
  have nS : X ≠ S := fun e => a1 (e ▸ dX)
  have nD : X ≠ D := fun e => a2 (e ▸ dX)
  obtain ⟨m0, hm0⟩ : ∃ m0 : Zm, m0 = { m with ek := 0, ea := 0, eb := 0 } := ⟨_, rfl⟩
  have zs : ∀ {w1}, Zb w1 X (some ⟨N, 0, none⟩) { zOf i m (nxZ X m.pc) cp ap with ek := 0, ea := 0, eb := 0 } → UF (fun k => k = X) w w1 → Zs w1 w1 X S D N c (zOf i m0 (nxZ X m.pc) cp ap) L cc := fun {w1} hz u => by
    subst hm0
    exact ⟨hz, St_same hs (u.block S hs.ltS (Ne.symm nS)) (u.block D hs.row.lt (Ne.symm nD)), IsMap_same hm u.size (u.block N hm.1 (Ne.symm g1)), hc, ⟨nS, nD, Ne.symm g1, a4, a5⟩, .refl _ _⟩
  have hp : m.pc = 0 ∨ m.pc = 1 ∨ m.pc = 2 ∨ m.pc = 3 ∨ m.pc = 4 ∨ m.pc = 5 ∨ m.pc = 6 := by omega
  have fin : ∀ (f : Nat) (L' : List Int) (cc' : Int) (m' : Zm), nxZ X m.pc = fnz f X → (∀ a w, (callFunc f a).run Tryz.prog w = .ok (.enter f a) w) →
      (∀ w1, Zs w1 w1 X S D N c (zOf i m0 (nxZ X m.pc) cp ap) L cc → UF (fun k => k = X) w w1 → Calls Tryz.prog f #[ptr X, ptr S] w1 fun e w' => e = .returned (.tuple #[]) ∧ ZBehind w S D c N i X O Dp L' cc' m' w') →
      Calls Tryz.prog 238 #[ptr X, ptr S] w fun e w' => e = .returned (.bool (decide (m'.pc = 0))) ∧ ZBehind w S D c N i X O Dp L' cc' m' w' := fun f L' cc' m' hf hen hN => by
    refine zstep_raw h5 hf hen (decide (m'.pc = 0)) _ (fun w1 hz u => hN w1 (zs hz u) u) ?_
    rintro w' ⟨⟨O', D', hk, _⟩, _⟩
    exact hk.nx
  rcases hp with p | p | p | p | p | p | p
  · -- finished
    have e : zstp (zgOf c) (gOf c) (aNew (eOf c i)) L m = (L, m0) := by rw [hm0]; simp [zstp, p]
    rw [e]
    refine (zstep_off (ptr S) h5 (by show nxZ X m.pc = _; rw [p]; rfl)).mono ?_
    rintro e w' ⟨rfl, hz, u⟩
    have ec : zcost m cc = cc := by unfold zcost; rw [if_pos p]
    rw [ec]
    refine ⟨by rw [hm0]; simp [p], .of h (zs hz u) u (by rw [hm0]) (by rw [hm0]; simp [p]) (by rw [hm0]; simp [p]) (by rw [hm0]; simp [p])⟩
  all_goals
    have ec : zcost m cc = cc + 1 := by unfold zcost; rw [if_neg (by omega)]
    rw [ec]
  · -- the head
    have nb := nZ_bd (c := c) ww m.v
    have sb := Lay.slots_bd (kindV c m.v)
    have e : zstp (zgOf c) (gOf c) (aNew (eOf c i)) L m = (L, zhead (zgOf c) L m0) := by rw [hm0]; simp [zstp, p]
    rw [e]
    refine fin 142 _ _ _ (by rw [p]; rfl) (fun a w => by simp [go_sem]) fun w1 hz u => ?_
    have k := seeHeaderZ hz h0 (by omega) (by subst hm0; exact wm.v) (by subst hm0; exact wm.fr) (by subst hm0; exact nb.1) (by subst hm0; exact Int.le_trans nb.2 (by decide)) (by subst hm0; exact sb.1) (by subst hm0; exact Int.le_trans sb.2 (by decide))
    refine k.mono ?_
    rintro e w' ⟨rfl, hk⟩
    have en : zn (zgOf c) L m0.v = nZ c L m0.v := zn_is hc L m0.v
    refine ⟨rfl, .of (cp := cp) (ap := ap) h hk u ?_ ?_ ?_ ?_⟩
    · unfold zhead zOf
      rw [en]
      have e2 : (zgOf c).chunk = c.ch := rfl
      rw [e2]
      show Zc.mk _ _ _ _ (frZ (nZ c L m0.v) m0.fr) (toZ (nZ c L m0.v) m0.fr c.ch) (if toZ (nZ c L m0.v) m0.fr c.ch < nZ c L m0.v then fnz 162 X else if frZ (nZ c L m0.v) m0.fr < toZ (nZ c L m0.v) m0.fr c.ch then fnz 178 X else fnz 179 X) _ _ _ _ _ _ = _
      congr 1
      show _ = nxZ X (if toZ (nZ c L m0.v) m0.fr c.ch < nZ c L m0.v then 2 else if frZ (nZ c L m0.v) m0.fr < toZ (nZ c L m0.v) m0.fr c.ch then 4 else 6)
      (repeat' split) <;> rfl
    all_goals (unfold zhead; simp only; repeat' split)
    all_goals omega
  · -- the count
    have e : zstp (zgOf c) (gOf c) (aNew (eOf c i)) L m = (adc L 1 1, zgive (aNew (eOf c i)) { m0 with ek := 2, ea := m.v, eb := m.to } m.v m.to) := by rw [hm0]; simp only [zstp, p]; rfl
    have ep : pairZ m.v m.to = m.v * 4294967296 + m.to := by
      have a := wm.v; have b := wm.tt
      unfold pairZ; rw [Int.emod_eq_of_lt a.1 (by omega), Int.emod_eq_of_lt b.1 (by omega)]
    rw [e]
    refine fin 162 _ _ _ (by rw [p]; rfl) (fun a w => by simp [go_sem]) fun w1 hz u => ?_
    refine (countFurtherZ hz h0 (by omega) i0 i1 (by subst hm0; exact wm.v) (by subst hm0; exact ⟨wm.tt.1, Int.le_trans wm.tt.2 (by decide)⟩)).mono ?_
    rintro e w' ⟨rfl, X2, O2, D2, ha, hd, hk⟩
    rw [adv_eq] at hk
    refine ⟨rfl, .add (X2 := X2) (O2 := O2) (cp := cp) h hk (u.mono fun k _ e => .inr (.inr (e ▸ g2))) ?_ rfl ?_ hd⟩
    · subst hm0; rfl
    · show AKM w' X2 O2 D2 c N (aNew (eOf c i) (pairZ m.v m.to))
      rw [ep]; subst hm0; exact ha
  · -- a task is put somewhere
    obtain ⟨X2, O2, D2, rfl, hak, sO, sD, nDX⟩ := h6 p
    obtain ⟨hd0, haw⟩ := wm.d p
    have dX2 : ∀ k, O2 k → Dp k := fun k hk => sD k (hak.ins.2.1 k hk)
    have O2X : ¬ O2 X := fun e => nDX (hak.ins.2.1 _ e)
    have ea : acost m.d cc = cc + 1 := by unfold acost; rw [if_neg hd0]
    have e1 : (zstp (zgOf c) (gOf c) (aNew (eOf c i)) L m).1 = (astp (gOf c) L m.d).1 := by simp only [zstp, p]; rfl
    have e2 : (zstp (zgOf c) (gOf c) (aNew (eOf c i)) L m).2 = if (astp (gOf c) L m.d).2.pc = 0 then zrest { m0 with d := (astp (gOf c) L m.d).2 } else { m0 with d := (astp (gOf c) L m.d).2 } := by rw [hm0]; simp only [zstp, p]; rfl
    rw [e1, e2]
    have hstp : ∀ w1, Zs w1 w1 X S D N c (zOf i m0 (nxZ X m.pc) cp (some ⟨X2, 0, none⟩)) L cc → UF (fun k => k = X) w w1 → Calls Tryz.prog 32 #[ptr X2, ptr S] w1 fun e w' => e = .returned (.bool (decide ((astp (gOf c) L m.d).2.pc = 0))) ∧ ABehind w1 S D c N X2 O2 D2 (astp (gOf c) L m.d).1 (cc + 1) (astp (gOf c) L m.d).2 w' := fun w1 hz u => by
      have k := step_ak hc (hak.keep u.size fun k hk => u.block k (hak.ins.2.2 k hk) (fun e => nDX (e ▸ hk))) hz.st hz.mp (fun e => a1 (sD _ e)) (fun e => a2 (sD _ e)) (fun e => a3 (sO _ e)) a4 a5 haw ww h0 h1 ht
      rw [ea] at k; exact k
    generalize astp (gOf c) L m.d = y at hstp ⊢
    obtain ⟨L', d'⟩ := y
    dsimp only at hstp ⊢
    have uf1 : ∀ {w1 w2}, UF (fun k => k = X) w w1 → UF (fun k => k = S ∨ k = D ∨ O2 k) w1 w2 → UF (fun k => k = S ∨ k = D ∨ O k) w w2 := fun u u2 => u.trans u2 (fun k e => by subst e; exact .inr (.inr g2)) (fun k _ e => e.imp id (Or.imp id (sO k)))
    by_cases hq : d'.pc = 0
    · rw [if_pos hq]
      rw [show decide (d'.pc = 0) = true by simpa using hq] at hstp
      refine fin 190 _ _ _ (by rw [p]; rfl) (fun a w => by simp [go_sem]) fun w1 hz u => ?_
      have hX1 := hz.mem.lt
      refine (putOn_end (c := c) (D := D) (L := L') (cc := cc + 1) hz.mem rfl _ (hstp w1 hz u) ?_).mono ?_
      · rintro w2 ⟨_, hst, u2⟩
        exact ⟨hz.mem.same (u2.block X hX1 (fun e => by rcases e with e | e | e; exact nS e; exact nD e; exact O2X e)), hst, IsMap_same hz.mp u2.size (u2.block N hz.mp.1 (fun e => by rcases e with e | e | e; exact a4 e; exact a5 e; exact a3 (sO _ e))), hc, hz.n, .refl _ _⟩
      · rintro e w' ⟨rfl, w2, ⟨_, hst, u2⟩, hk⟩
        have s1 := u.size; have s2 := u2.size; have s3 := hk.u.size
        refine ⟨rfl, ⟨O, Dp, ⟨g1, g2, g3, fun k hk => by have := g4 k hk; omega, ?_, cp, some ⟨X2, 0, none⟩, ?_, fun e => ?_, fun e => ?_⟩, fun k hk => .inl hk, fun k hk => .inl hk⟩, hk.st, ?_⟩
        · show (if m0.at' < m0.to then 4 else 6) ≤ 6; split <;> omega
        · have hm := hk.mem
          have e : (if m0.at' < m0.to then fnz 178 X else fnz 179 X) = nxZ X (if m0.at' < m0.to then 4 else 6) := nx_rest X _ _
          have hm2 : Zb w' X (some ⟨N, 0, none⟩) { zOf i m0 (nxZ X m.pc) cp (some ⟨X2, 0, none⟩) with nx := if m0.at' < m0.to then fnz 178 X else fnz 179 X } := hm
          rw [e] at hm2; exact hm2
        · have e : (if m0.at' < m0.to then 4 else 6) = 3 := e
          split at e <;> omega
        · have e : (if m0.at' < m0.to then 4 else 6) = 5 := e
          split at e <;> omega
        · exact (uf1 u u2).trans hk.u (fun _ x => x) (fun k _ e => by rcases e with e | e | e; exact .inr (.inr (e ▸ g2)); exact .inl e; exact .inr (.inl e))
    · rw [if_neg hq]
      rw [show decide (d'.pc = 0) = false by simpa using hq] at hstp
      refine fin 190 _ _ _ (by rw [p]; rfl) (fun a w => by simp [go_sem]) fun w1 hz u => ?_
      have hX1 := hz.mem.lt
      refine (putOn_on hz.mem rfl _ (hstp w1 hz u)).mono ?_
      rintro e w' ⟨rfl, ⟨O', D', hk, ho, hd⟩, hst, u2⟩
      have s1 := u.size; have s2 := u2.size
      refine ⟨rfl, ⟨fun k => O k ∨ O' k, fun k => Dp k ∨ D' k, ⟨g1, .inl g2, fun k h => h.imp (g3 k) (hk.ins.2.1 k), fun k h => ?_, by rw [hm0]; exact g5, cp, _, ?_, fun _ => ⟨X2, O', D', rfl, hk, fun k h => .inr h, fun k h => .inr h, fun h => ?_⟩, fun e => ?_⟩, fun k h => ?_, fun k h => ?_⟩, hst, uf1 u u2⟩
      · rcases h with h | h
        · have := g4 k h; omega
        · exact hk.ins.2.2 k h
      · have := hz.mem.same (u2.block X hX1 (fun e => by rcases e with e | e | e; exact nS e; exact nD e; exact O2X e))
        rw [hm0] at this ⊢; exact this
      · rcases hd X h with h | h
        · exact nDX h
        · omega
      · rw [hm0] at e; simp only at e; omega
      · rcases h with h | h
        · exact .inl h
        · exact (ho k h).imp (sO k) (fun h => by omega)
      · rcases h with h | h
        · exact .inl h
        · exact (hd k h).imp (sD k) (fun h => by omega)
  · -- a slot
    have hlt := wm.lt p; have ha := wm.a; have htt := wm.tt
    have nb := nodes60 hc
    have ldx : ldv L (plcc c 18 m.v m.at') = ldc L ((zgOf c).sl m.v m.at') := ldv_cl _ _
    by_cases hx : 1 ≤ ldc L ((zgOf c).sl m.v m.at') ∧ ldc L ((zgOf c).sl m.v m.at') ≤ (zgOf c).nn
    · have e : zstp (zgOf c) (gOf c) (aNew (eOf c i)) L m = (L, { m0 with ek := 3, ea := m.v, eb := m.at', at' := m.at' + 1, w := ldc L ((zgOf c).sl m.v m.at'), c := cNew ((zgOf c).ma (ldc L ((zgOf c).sl m.v m.at'))) m.cy, pc := 5 }) := by
        have : zstp (zgOf c) (gOf c) (aNew (eOf c i)) L m = (L, if 1 ≤ ldc L ((zgOf c).sl m.v m.at') ∧ ldc L ((zgOf c).sl m.v m.at') ≤ (zgOf c).nn then { m0 with ek := 3, ea := m.v, eb := m.at', at' := m.at' + 1, w := ldc L ((zgOf c).sl m.v m.at'), c := cNew ((zgOf c).ma (ldc L ((zgOf c).sl m.v m.at'))) m.cy, pc := 5 }
          else zrest { m0 with ek := 3, ea := m.v, eb := m.at', at' := m.at' + 1 }) := by rw [hm0]; simp only [zstp, p]; rfl
        rw [this, if_pos hx]
      rw [e]
      refine fin 178 _ _ _ (by rw [p]; rfl) (fun a w => by simp [go_sem]) fun w1 hz u => ?_
      refine (seeSlotYesZ hz h0 (by omega) (by subst hm0; exact wm.v) (by subst hm0; exact ha) nb (by subst hm0; rw [zg_nn hc] at hx; rw [← ldx] at hx; exact hx)).mono ?_
      rintro e w' ⟨rfl, M, hcm, hM, hk⟩
      subst hm0
      refine ⟨rfl, .claim (ap := ap) (M := M) h hk u ?_ rfl ?_ hM hz.mp.1⟩
      · show Zc.mk _ _ _ _ _ _ _ (ldv L (plcc c 18 m.v m.at')) _ _ _ _ _ = _
        rw [ldx]; rfl
      · have := hcm
        have e2 : cNew (plcc c 16 (ldv L (plcc c 18 m.v m.at')) 0) m.cy = cNew ((zgOf c).ma (ldc L ((zgOf c).sl m.v m.at'))) m.cy := by rw [ldx]; rfl
        show CM w' M 1 (cNew ((zgOf c).ma (ldc L ((zgOf c).sl m.v m.at'))) m.cy)
        rw [← e2]; exact hcm
    · have e : zstp (zgOf c) (gOf c) (aNew (eOf c i)) L m = (L, zrest { m0 with ek := 3, ea := m.v, eb := m.at', at' := m.at' + 1 }) := by
        have : zstp (zgOf c) (gOf c) (aNew (eOf c i)) L m = (L, if 1 ≤ ldc L ((zgOf c).sl m.v m.at') ∧ ldc L ((zgOf c).sl m.v m.at') ≤ (zgOf c).nn then { m0 with ek := 3, ea := m.v, eb := m.at', at' := m.at' + 1, w := ldc L ((zgOf c).sl m.v m.at'), c := cNew ((zgOf c).ma (ldc L ((zgOf c).sl m.v m.at'))) m.cy, pc := 5 }
          else zrest { m0 with ek := 3, ea := m.v, eb := m.at', at' := m.at' + 1 }) := by rw [hm0]; simp only [zstp, p]; rfl
        rw [this, if_neg hx]
      rw [e]
      refine fin 178 _ _ _ (by rw [p]; rfl) (fun a w => by simp [go_sem]) fun w1 hz u => ?_
      refine (seeSlotNoZ hz h0 (by omega) (by subst hm0; exact wm.v) (by subst hm0; exact ha) nb (by subst hm0; rw [zg_nn hc] at hx; rw [← ldx] at hx; exact (show ldv L (plcc c 18 m.v m.at') < 1 ∨ nodesN c < ldv L (plcc c 18 m.v m.at') by omega))).mono ?_
      rintro e w' ⟨rfl, hk⟩
      subst hm0
      refine ⟨rfl, .of (cp := cp) (ap := ap) h hk u ?_ ?_ ?_ ?_⟩
      · show Zc.mk _ _ _ _ _ _ (if m.at' + 1 < m.to then fnz 178 X else fnz 179 X) _ _ _ _ _ _ = _
        rw [nx_rest]; rfl
      all_goals (unfold zrest; simp only; split)
      all_goals omega
  · -- a node is marked
    obtain ⟨M, rfl, hcm, oM, nMX, nMN⟩ := h7 p
    obtain ⟨hc0, hc4, hcy⟩ := wm.c5 p
    have dM : Dp M := g3 M oM
    have mS : M ≠ S := fun e => a1 (e ▸ dM)
    have mD : M ≠ D := fun e => a2 (e ▸ dM)
    have ea : ccost m.c cc = cc + 1 := by unfold ccost; rw [if_neg hc0]
    have e1 : (zstp (zgOf c) (gOf c) (aNew (eOf c i)) L m).1 = (cstp 1 L m.c).1 := by simp only [zstp, p]; rfl
    have e2 : (zstp (zgOf c) (gOf c) (aNew (eOf c i)) L m).2 = if (cstp 1 L m.c).2.pc ≠ 0 then { m0 with c := (cstp 1 L m.c).2 } else if (cstp 1 L m.c).2.won = true then zgive (aNew (eOf c i)) { zrest { m0 with c := (cstp 1 L m.c).2 } with ek := 1, ea := m.w } m.w 0 else zrest { m0 with c := (cstp 1 L m.c).2 } := by rw [hm0]; simp only [zstp, p]; rfl
    rw [e1, e2]
    have hstp : ∀ w1, Zs w1 w1 X S D N c (zOf i m0 (nxZ X m.pc) (some ⟨M, 0, none⟩) ap) L cc → UF (fun k => k = X) w w1 → Calls Tryz.prog 200 #[ptr M, ptr S] w1 fun e w' => e = .returned (.bool (decide ((cstp 1 L m.c).2.pc = 0))) ∧ Bhd w1 M S D 1 (cstp 1 L m.c).1 (cc + 1) (cstp 1 L m.c).2 w' := fun w1 hz u => by
      have k := cstep_any w1 (hcm.keep (u.block M hcm.lt nMX)) hz.st ⟨mS, mD⟩ h0 (by omega)
      rw [ea] at k; exact k
    generalize cstp 1 L m.c = y at hstp ⊢
    obtain ⟨L', c'⟩ := y
    dsimp only at hstp ⊢
    have zs2 : ∀ {w1 w2}, Zs w1 w1 X S D N c (zOf i m0 (nxZ X m.pc) (some ⟨M, 0, none⟩) ap) L cc → Bhd w1 M S D 1 L' (cc + 1) c' w2 → Zs w2 w2 X S D N c (zOf i m0 (nxZ X m.pc) (some ⟨M, 0, none⟩) ap) L' (cc + 1) := fun {w1 w2} hz hb =>
      ⟨hz.mem.same (hb.2.2.block X hz.mem.lt (fun e => by rcases e with e | e | e; exact nMX e.symm; exact nS e; exact nD e)), hb.2.1, IsMap_same hz.mp hb.2.2.size (hb.2.2.block N hz.mp.1 (fun e => by rcases e with e | e | e; exact nMN e.symm; exact a4 e; exact a5 e)), hc, hz.n, .refl _ _⟩
    have uf1 : ∀ {w1 w2}, UF (fun k => k = X) w w1 → UF (fun k => k = M ∨ k = S ∨ k = D) w1 w2 → UF (fun k => k = S ∨ k = D ∨ O k) w w2 := fun u u2 => u.trans u2 (fun k e => by subst e; exact .inr (.inr g2)) (fun k _ e => by rcases e with e | e | e; exact .inr (.inr (e ▸ oM)); exact .inl e; exact .inr (.inl e))
    by_cases hq : c'.pc = 0
    · rw [if_neg (by simpa using hq)]
      rw [show decide (c'.pc = 0) = true by simpa using hq] at hstp
      by_cases hw : c'.won = true
      · rw [if_pos hw]
        have ep : pairZ m.w 0 = m.w * 4294967296 := by
          have a := wm.w
          unfold pairZ; rw [Int.emod_eq_of_lt a.1 (by omega)]; omega
        refine fin 192 _ _ _ (by rw [p]; rfl) (fun a w => by simp [go_sem]) fun w1 hz u => ?_
        refine (mark_won (c := c) (D := D) (L := L') (cc := cc + 1) hz.mem rfl (by subst hm0; exact ⟨wm.w.1, Int.le_trans wm.w.2 (by decide)⟩) i0 i1 _ (hstp w1 hz u) (fun w2 hb => ⟨zs2 hz hb, by have := hb.1.1.c5; rw [hw] at this; exact this⟩)).mono ?_
        rintro e w' ⟨rfl, w2, hb, X2, O2, D2, ha, hd, hk⟩
        subst hm0
        refine ⟨rfl, .add (X2 := X2) (O2 := O2) (cp := some ⟨M, 0, none⟩) h hk (uf1 u hb.2.2) rfl rfl ?_ hd⟩
        show AKM w' X2 O2 D2 c N (aNew (eOf c i) (pairZ m.w 0))
        rw [ep]; exact ha
      · rw [if_neg hw]
        refine fin 192 _ _ _ (by rw [p]; rfl) (fun a w => by simp [go_sem]) fun w1 hz u => ?_
        refine (mark_lost (c := c) (D := D) (L := L') (cc := cc + 1) hz.mem rfl _ (hstp w1 hz u) (fun w2 hb => ⟨zs2 hz hb, by have := hb.1.1.c5; rw [show c'.won = false by simpa using hw] at this; exact this⟩)).mono ?_
        rintro e w' ⟨rfl, w2, hb, hk⟩
        subst hm0
        have s1 := u.size; have s2 := hb.2.2.size; have s3 := hk.u.size
        refine ⟨rfl, ⟨O, Dp, ⟨g1, g2, g3, fun k hk => by have := g4 k hk; omega, ?_, some ⟨M, 0, none⟩, ap, ?_, fun e => ?_, fun e => ?_⟩, fun k hk => .inl hk, fun k hk => .inl hk⟩, hk.st, ?_⟩
        · show (if m.at' < m.to then 4 else 6) ≤ 6; split <;> omega
        · have e : (if m.at' < m.to then fnz 178 X else fnz 179 X) = nxZ X (if m.at' < m.to then 4 else 6) := nx_rest X _ _
          have hm2 : Zb w' X (some ⟨N, 0, none⟩) ⟨i, m.v, m.fr, m.cy, m.at', m.to, (if m.at' < m.to then fnz 178 X else fnz 179 X), m.w, some ⟨M, 0, none⟩, ap, 0, 0, 0⟩ := hk.mem
          rw [e] at hm2; exact hm2
        · have e : (if m.at' < m.to then 4 else 6) = 3 := e
          split at e <;> omega
        · have e : (if m.at' < m.to then 4 else 6) = 5 := e
          split at e <;> omega
        · exact (uf1 u hb.2.2).trans hk.u (fun _ x => x) (fun k _ e => by rcases e with e | e | e; exact .inr (.inr (e ▸ g2)); exact .inl e; exact .inr (.inl e))
    · rw [if_pos (by simpa using hq)]
      rw [show decide (c'.pc = 0) = false by simpa using hq] at hstp
      refine fin 192 _ _ _ (by rw [p]; rfl) (fun a w => by simp [go_sem]) fun w1 hz u => ?_
      refine (mark_on hz.mem rfl _ (hstp w1 hz u)).mono ?_
      rintro e w' ⟨rfl, hb⟩
      have s1 := u.size; have s2 := hb.2.2.size
      subst hm0
      exact ⟨rfl, ⟨O, Dp, ⟨g1, g2, g3, fun k hk => by have := g4 k hk; omega, g5, some ⟨M, 0, none⟩, ap, (zs2 hz hb).mem, fun e => by simp only at e; omega, fun _ => ⟨M, rfl, hb.1, oM, nMX, nMN⟩⟩, fun k hk => .inl hk, fun k hk => .inl hk⟩, hb.2.1, uf1 u hb.2.2⟩
  · -- the last one
    have e : zstp (zgOf c) (gOf c) (aNew (eOf c i)) L m = (adc L 1 18446744073709551615, { m0 with ek := 4, ea := m.v, eb := m.fr, pc := 0 }) := by rw [hm0]; simp only [zstp, p]; rfl
    rw [e]
    refine fin 179 _ _ _ (by rw [p]; rfl) (fun a w => by simp [go_sem]) fun w1 hz u => ?_
    refine (countBackZ hz h0 (by omega) (by subst hm0; exact wm.v) (by subst hm0; exact wm.fr)).mono ?_
    rintro e w' ⟨rfl, hk⟩
    rw [adv_eq] at hk
    subst hm0
    exact ⟨rfl, .of (cp := cp) (ap := ap) h hk u rfl (by simp) (by simp) (by simp)⟩
end
end Go.Proofs.YthoiaffeenhfgaaGreat
