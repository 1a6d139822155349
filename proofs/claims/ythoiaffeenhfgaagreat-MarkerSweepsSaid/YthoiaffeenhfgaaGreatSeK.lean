
import Derived.Test.YthoiaffeenhfgaaGreatSeO
import Derived.Test.YthoiaffeenhfgaaGreatJ22
import Derived.Test.YthoiaffeenhfgaaGreatJ26
import Derived.Test.YthoiaffeenhfgaaGreatJ24
namespace Go.Proofs.YthoiaffeenhfgaaGreat
open Go.RowKit
set_option linter.unusedVariables false
set_option linter.unusedSimpArgs false
set_option maxRecDepth 100000
open Lay (plcc plc shOf packN nodesN OkC Cfg Norm firstV Rep lenL things)
def SePt (w : World) (X : Nat) (O Dp : Nat → Prop) (c : Cfg) (N : Nat) (m : Km) (nx dv pv : Value) : Prop :=
  (m.pc = 0 ∧ nx = .nilFunc) ∨ (m.pc = 2 ∧ nx = fnv 140 X) ∨
  ((m.pc = 1 ∧ nx = fnv 109 X ∨ m.pc = 6 ∧ nx = fnv 189 X) ∧ m.d.pc ≠ 0 ∧ ∃ M, dv = ptr M ∧ Dg.MM w M m.d ∧ O M ∧ M ≠ X ∧ M ≠ N) ∨
  ((m.pc = 3 ∧ nx = fnv 160 X ∧ m.p.pc ≠ 0 ∨ m.pc = 4 ∧ nx = fnv 158 X ∧ m.p.pc ≠ 0 ∨ m.pc = 5 ∧ nx = fnv 174 X) ∧ ∃ X2 O2 D2, pv = ptr X2 ∧ PKM w X2 O2 D2 c N m.p ∧ (∀ k, O2 k → O k) ∧ (∀ k, D2 k → Dp k) ∧ ¬ D2 X)
def SEM (w : World) (X : Nat) (O Dp : Nat → Prop) (c : Cfg) (N : Nat) (m : Km) : Prop :=
  X ≠ N ∧ O X ∧ (∀ k, O k → Dp k) ∧ (∀ k, Dp k → k < w.heap.size) ∧ ∃ nx dv pv, Kb w X N m.i m.draw m.bag.p m.bag.t m.bag.n nx dv pv m.task m.found ∧ SePt w X O Dp c N m nx dv pv
section
variable {w w' : World} {X N : Nat} {O Dp : Nat → Prop} {c : Cfg} {m : Km}
theorem SePt.keep {nx dv pv : Value} (h : SePt w X O Dp c N m nx dv pv) (hs : w.heap.size ≤ w'.heap.size) (hO : ∀ k, O k → Dp k) (hb : ∀ k, Dp k → w'.heap[k]? = w.heap[k]?) : SePt w' X O Dp c N m nx dv pv := by
  rcases h with h | h | ⟨a, b, M, e, hm, oM, n1, n2⟩ | ⟨a, X2, O2, D2, e, hp, f, g, i⟩
  · exact .inl h
  · exact .inr (.inl h)
  · exact .inr (.inr (.inl ⟨a, b, M, e, dmm_same hm (hb M (hO M oM)), oM, n1, n2⟩))
  · exact .inr (.inr (.inr ⟨a, X2, O2, D2, e, hp.keep hs (fun k hk => hb k (g k hk)), f, g, i⟩))
theorem SEM.ins (h : SEM w X O Dp c N m) : O X ∧ (∀ k, O k → Dp k) ∧ ∀ k, Dp k → k < w.heap.size := ⟨h.2.1, h.2.2.1, h.2.2.2.1⟩
theorem SEM.lt (h : SEM w X O Dp c N m) : X < w.heap.size := h.ins.2.2 X (h.ins.2.1 X h.ins.1)
theorem SEM.keep (h : SEM w X O Dp c N m) (hs : w.heap.size ≤ w'.heap.size) (hb : ∀ k, Dp k → w'.heap[k]? = w.heap[k]?) : SEM w' X O Dp c N m := by
  obtain ⟨h1, h2, h3, h4, nx, dv, pv, h5, h6⟩ := h
  exact ⟨h1, h2, h3, fun k hk => Nat.lt_of_lt_of_le (h4 k hk) hs, nx, dv, pv, h5.same (hb X (h3 X h2)), h6.keep hs h3 hb⟩
theorem SEM.nx (h : SEM w X O Dp c N m) : (m.pc = 0 ∧ w.cell? ⟨X, 6, none⟩ = some .nilFunc) ∨ (m.pc ≠ 0 ∧ ∃ f, w.cell? ⟨X, 6, none⟩ = some (fnv f X)) := by
  obtain ⟨h1, h2, h3, h4, nx, dv, pv, h5, h6⟩ := h
  rcases h6 with ⟨a, rfl⟩ | ⟨a, rfl⟩ | ⟨⟨a, rfl⟩ | ⟨a, rfl⟩, _⟩ | ⟨⟨a, rfl, _⟩ | ⟨a, rfl, _⟩ | ⟨a, rfl⟩, _⟩
  · exact .inl ⟨a, h5.c6⟩
  all_goals exact .inr ⟨by omega, _, h5.c6⟩
end
def kcost (m : Km) (cc : Int) : Int := if m.pc = 0 then cc else cc + 1
def SBehind (w : World) (S D : Nat) (c : Cfg) (N X : Nat) (O Dp : Nat → Prop) (L : List Int) (cc : Int) (m : Km) (w' : World) : Prop :=
  (∃ O' D', SEM w' X O' D' c N m ∧ (∀ k, O' k → O k ∨ w.heap.size ≤ k) ∧ (∀ k, D' k → Dp k ∨ w.heap.size ≤ k)) ∧ St w' S D L cc ∧ UF (fun k => k = S ∨ k = D ∨ O k) w w'
section
variable {w w1 w' : World} {X S D N : Nat} {c : Cfg} {O Dp : Nat → Prop} {m : Km} {L : List Int} {cc t : Int}
theorem SBehind.nx (h : SBehind w S D c N X O Dp L cc m w') : (decide (m.pc = 0) = true ∧ w'.cell? ⟨X, 6, none⟩ = some .nilFunc) ∨ (decide (m.pc = 0) = false ∧ ∃ f', w'.cell? ⟨X, 6, none⟩ = some (fnv f' X)) := by
  obtain ⟨⟨O', D', hk, _⟩, _⟩ := h
  rcases hk.nx with ⟨a, b⟩ | ⟨a, b⟩
  · exact .inl ⟨by simpa using a, b⟩
  · exact .inr ⟨by simpa using a, b⟩
theorem Bec.sb (h : Bec w1 X N c m w') (hX : O X) (hO : ∀ k, O k → Dp k) (hD : ∀ k, Dp k → k < w.heap.size) (hXN : X ≠ N) (hNl : N < w.heap.size) (n1 : X ≠ S) (n2 : X ≠ D) (st : St w1 S D L cc) (u : UF (fun k => k = S ∨ k = D ∨ O k) w w1) : SBehind w S D c N X O Dp L cc m w' := by
  obtain ⟨nx, dv, pv, hk, hu, h⟩ := h
  have s1 := u.size
  have s2 := hu.size
  have st' : St w' S D L cc := St_same st (hu.block S st.ltS (Ne.symm n1)) (hu.block D st.row.lt (Ne.symm n2))
  have u' : UF (fun k => k = S ∨ k = D ∨ O k) w w' := u.trans hu (fun _ x => x) (fun b _ e => by subst e; exact .inr (.inr hX))
  have hXl : X < w.heap.size := hD X (hO X hX)
  rcases h with ⟨a, b⟩ | ⟨a, b⟩ | ⟨a, b, X2, O2, D2, e, hp, ho, hd⟩ | ⟨a, b, b2, M, e, hm, hl⟩
  · exact ⟨⟨O, Dp, ⟨hXN, hX, hO, fun k hk => by have := hD k hk; omega, nx, dv, pv, hk, .inl ⟨a, b⟩⟩, fun k hk => .inl hk, fun k hk => .inl hk⟩, st', u'⟩
  · exact ⟨⟨O, Dp, ⟨hXN, hX, hO, fun k hk => by have := hD k hk; omega, nx, dv, pv, hk, .inr (.inl ⟨a, b⟩)⟩, fun k hk => .inl hk, fun k hk => .inl hk⟩, st', u'⟩
  · refine ⟨⟨fun k => O k ∨ O2 k, fun k => Dp k ∨ D2 k, ⟨hXN, .inl hX, fun k h => h.imp (hO k) (hp.ins.2.1 k), fun k h => ?_, nx, dv, pv, hk, .inr (.inr (.inr ⟨?_, X2, O2, D2, e, hp, fun k h => .inr h, fun k h => .inr h, fun h => ?_⟩))⟩, fun k h => ?_, fun k h => ?_⟩, st', u'⟩
    · rcases h with h | h
      · have := hD k h; omega
      · exact hp.ins.2.2 k h
    · rcases a with ⟨a1, a2⟩ | ⟨a1, a2⟩
      · exact .inl ⟨a1, a2, b⟩
      · exact .inr (.inl ⟨a1, a2, b⟩)
    · have := hd X h; omega
    · rcases h with h | h
      · exact .inl h
      · have := ho k h; exact .inr (by omega)
    · rcases h with h | h
      · exact .inl h
      · have := hd k h; exact .inr (by omega)
  · refine ⟨⟨fun k => O k ∨ k = M, fun k => Dp k ∨ k = M, ⟨hXN, .inl hX, fun k h => h.imp (hO k) id, fun k h => ?_, nx, dv, pv, hk, .inr (.inr (.inl ⟨.inr ⟨a, b⟩, b2, M, e, hm, .inr rfl, by omega, by omega⟩))⟩, fun k h => ?_, fun k h => ?_⟩, st', u'⟩
    · rcases h with h | h
      · have := hD k h; omega
      · subst h; exact hm.lt
    · rcases h with h | h
      · exact .inl h
      · exact .inr (by omega)
    · rcases h with h | h
      · exact .inl h
      · exact .inr (by omega)
theorem sb_fin {w2 : World} {nx dv pv : Value} {m' : Km} (u2 : UF (fun b => b = X) w1 w2) (hk : Kb w2 X N m'.i m'.draw m'.bag.p m'.bag.t m'.bag.n nx dv pv m'.task m'.found) (hp : m'.pc = 0) (hn : nx = .nilFunc) (hX : O X) (hO : ∀ k, O k → Dp k) (hD : ∀ k, Dp k → k < w.heap.size) (hXN : X ≠ N) (hNl : N < w.heap.size) (n1 : X ≠ S) (n2 : X ≠ D) (st : St w1 S D L cc) (u : UF (fun k => k = S ∨ k = D ∨ O k) w w1) : SBehind w S D c N X O Dp L cc m' w2 :=
  Bec.sb (w1 := w1) (m := m') ⟨nx, dv, pv, hk, u2, .inl ⟨hp, hn⟩⟩ hX hO hD hXN hNl n1 n2 st u
theorem kstp_own (hp : m.pc = 1 ∨ m.pc = 6) (n : Nat) (g : Pg) (ev : Int → Dg.En) (all : Int) (L : List Int) : kstp n g ev all L m = ((Dg.stp L m.d).1, kown n g m (Dg.stp L m.d).2) := by unfold kstp; rw [if_pos hp]
theorem kstp_pak (hp : m.pc = 3 ∨ m.pc = 4) (n : Nat) (g : Pg) (ev : Int → Dg.En) (all : Int) (L : List Int) : kstp n g ev all L m = ((pstp g L m.p).1, kpak g ev all m (pstp g L m.p).2) := by unfold kstp; rw [if_neg (by omega), if_neg (by omega), if_pos hp]
set_option maxHeartbeats 2000000 in
theorem step_dq (hc : OkC c) (h : SEM w X O Dp c N m) (hp : m.pc = 1 ∨ m.pc = 6) (hs : St w S D L cc) (hm : Lay.IsMap w N c) (a1 : ¬ Dp S) (a2 : ¬ Dp D) (a3 : ¬ O N) (a4 : N ≠ S) (a5 : N ≠ D)
    (wm : KW c t m) (h0 : 0 ≤ cc) (h1 : cc ≤ 900000000) :
    Calls Tryz.prog 231 #[ptr X, ptr S] w fun e w' => e = .returned (.bool (decide ((kown (pkn c) (gOf c) m (Dg.stp L m.d).2).pc = 0))) ∧ SBehind w S D c N X O Dp (Dg.stp L m.d).1 (cc + 1) (kown (pkn c) (gOf c) m (Dg.stp L m.d).2) w' := by
  obtain ⟨g1, g2, g3, g4, nx, dv, pv, h5, h6⟩ := id h
  have hX := h.lt
  have dX : Dp X := g3 X g2
  have nS : X ≠ S := fun e => a1 (e ▸ dX)
  have nD : X ≠ D := fun e => a2 (e ▸ dX)
  have hNl : N < w.heap.size := hm.1
  rcases h6 with ⟨a, _⟩ | ⟨a, _⟩ | ⟨hx, hd, M, rfl, hmm, oM, nMX, nMN⟩ | ⟨a, _⟩
  · omega
  · omega
  · have dM : Dp M := g3 M oM
    have mS : M ≠ S := fun e => a1 (e ▸ dM)
    have mD : M ≠ D := fun e => a2 (e ▸ dM)
    have dw := wm.d hp
    have ws : Dg.Wf m.d := ⟨dw.ok, dw.b.1, dw.t⟩
    have hstp := Dg.step_any w (hmm.mi hs mS mD) ws h0 (by omega)
    have ec : Dg.cst m.d cc = cc + 1 := by unfold Dg.cst; rw [if_neg hd]
    rw [ec] at hstp
    generalize Dg.stp L m.d = z at hstp ⊢
    obtain ⟨L', d'⟩ := z
    dsimp only at hstp ⊢
    have hk1 : ∀ w1, Dg.Mi w w1 M S D d' L' (cc + 1) → Kb w1 X N m.i m.draw m.bag.p m.bag.t m.bag.n nx (ptr M) pv m.task m.found := fun w1 hk => h5.same (hk.u.block X hX (Ne.symm nMX) nS nD)
    have uf1 : ∀ w1, Dg.Mi w w1 M S D d' L' (cc + 1) → UF (fun k => k = S ∨ k = D ∨ O k) w w1 := fun w1 hk => (UF.of_u3 hk.u).mono fun b _ e => by
      rcases e with rfl | rfl | rfl
      · exact .inr (.inr oM)
      · exact .inl rfl
      · exact .inr (.inl rfl)
    obtain ⟨Q', hQ'⟩ : ∃ Q' : World → Prop, Q' = fun w2 => ∃ w1, Dg.Mi w w1 M S D d' L' (cc + 1) ∧ Below w1.heap.size w1 w2 := ⟨_, rfl⟩
    have HF : decide (d'.pc = 0) = false → ∀ w1, Dg.Mi w w1 M S D d' L' (cc + 1) → SBehind w S D c N X O Dp L' (cc + 1) (kown (pkn c) (gOf c) m d') w1 := fun e w1 hk => by
      have e0 : d'.pc ≠ 0 := by simpa using e
      have ek : kown (pkn c) (gOf c) m d' = { m with d := d' } := by unfold kown; rw [if_neg e0]
      rw [ek]
      have s1 := hk.u.size
      exact ⟨⟨O, Dp, ⟨g1, g2, g3, fun k hk => by have := g4 k hk; omega, nx, ptr M, pv, hk1 w1 hk, .inr (.inr (.inl ⟨hx, e0, M, rfl, hk.mm, oM, nMX, nMN⟩))⟩, fun k hk => .inl hk, fun k hk => .inl hk⟩, hk.st, uf1 w1 hk⟩
    have HR : decide (d'.pc = 0) = true → ∀ w1, Dg.Mi w w1 M S D d' L' (cc + 1) → Calls Tryz.prog 118 #[ptr M] w1 fun a w' => a = .returned (.tuple #[.int .i64 (Dg.rOf d'), .int .u64 (Dg.xOf d')]) ∧ Q' w' := fun e w1 hk =>
      (Dg.res_any w1 hk.mm).mono fun a w2 ⟨x, y⟩ => ⟨x, by rw [hQ']; exact ⟨w1, hk, y⟩⟩
    have HT : decide (d'.pc = 0) = true → Dg.rOf d' = 1 → ∀ w2, Q' w2 → Calls Tryz.prog 122 #[ptr X, .int .u64 (Dg.xOf d')] w2 fun e w' => e = .returned (.tuple #[]) ∧ SBehind w S D c N X O Dp L' (cc + 1) (kown (pkn c) (gOf c) m d') w' := fun e hr w2 hq => by
      rw [hQ'] at hq
      obtain ⟨w1, hk, hb⟩ := hq
      have e0 : d'.pc = 0 := by simpa using e
      have eo : d'.out = 1 := by unfold Dg.rOf at hr; rwa [if_pos e0] at hr
      have ex : Dg.xOf d' = d'.w := by unfold Dg.xOf; rw [if_pos e0]
      have ek : kown (pkn c) (gOf c) m d' = kfin { m with d := d' } d'.w := by unfold kown; rw [if_pos e0, if_pos eo]
      rw [ek, ex]
      refine (kfin_any ((hk1 w1 hk).step hb) d'.w).mono ?_
      rintro e w3 ⟨rfl, hkb, hu⟩
      exact ⟨rfl, sb_fin (w1 := w2) (m' := kfin { m with d := d' } d'.w) hu hkb rfl rfl g2 g3 g4 g1 hNl nS nD (hk.st.below hb) ((uf1 w1 hk).trans (UF.of_below hb) (fun _ x => x) (fun _ _ x => x))⟩
    have hen : ∀ f, f = 109 ∨ f = 189 → ∀ (a : Array Value) (w : World), (callFunc f a).run Tryz.prog w = .ok (.enter f a) w := fun f hf a w => by rcases hf with rfl | rfl <;> simp [go_sem]
    rcases hx with ⟨p1, rfl⟩ | ⟨p6, rfl⟩
    · refine kstep_raw w X S 109 h5.c6 (hen 109 (.inl rfl)) _ _ (pop_raw w X M S (decide (d'.pc = 0)) (Dg.rOf d') (Dg.xOf d') _ Q' _ h5.c7 hstp (fun w1 hk => (hk1 w1 hk).c7) HF HR HT fun e hr w2 hq => ?_) fun w' hb => hb.nx
      rw [hQ'] at hq
      obtain ⟨w1, hk, hb⟩ := hq
      have e0 : d'.pc = 0 := by simpa using e
      have eo : d'.out ≠ 1 := by unfold Dg.rOf at hr; rwa [if_pos e0] at hr
      have ek : kown (pkn c) (gOf c) m d' = kbag (pkn c) (gOf c) { m with d := d' } := by unfold kown; rw [if_pos e0, if_neg eo, if_pos p1]
      rw [ek]
      have u2 := (uf1 w1 hk).trans (UF.of_below (F := fun k => k = S ∨ k = D ∨ O k) hb) (fun _ x => x) (fun _ _ x => x)
      refine (useBag_any (m := { m with d := d' }) hc ((hk1 w1 hk).step hb) (IsMap_same hm u2.size (u2.block N hNl (fun e => by rcases e with e | e | e; exact a4 e; exact a5 e; exact a3 e))) g1 wm.bp).mono ?_
      rintro e w3 ⟨rfl, hbec⟩
      exact ⟨rfl, hbec.sb g2 g3 g4 g1 hNl nS nD (hk.st.below hb) u2⟩
    · refine kstep_raw w X S 189 h5.c6 (hen 189 (.inr rfl)) _ _ (steal_raw w X M S (decide (d'.pc = 0)) (Dg.rOf d') (Dg.xOf d') _ Q' _ h5.c7 hstp (fun w1 hk => (hk1 w1 hk).c7) HF HR HT fun e hr w2 hq => ?_) fun w' hb => hb.nx
      rw [hQ'] at hq
      obtain ⟨w1, hk, hb⟩ := hq
      have e0 : d'.pc = 0 := by simpa using e
      have eo : d'.out ≠ 1 := by unfold Dg.rOf at hr; rwa [if_pos e0] at hr
      have ek : kown (pkn c) (gOf c) m d' = { m with d := d', pc := 0 } := by unfold kown; rw [if_pos e0, if_neg eo, if_neg (by omega)]
      rw [ek]
      have u2 := (uf1 w1 hk).trans (UF.of_below (F := fun k => k = S ∨ k = D ∨ O k) hb) (fun _ x => x) (fun _ _ x => x)
      refine (giveUp_any ((hk1 w1 hk).step hb)).mono ?_
      rintro e w3 ⟨rfl, hkb, hu⟩
      exact ⟨rfl, sb_fin (w1 := w2) (m' := { m with d := d', pc := 0 }) hu hkb rfl rfl g2 g3 g4 g1 hNl nS nD (hk.st.below hb) u2⟩
  · omega
set_option maxHeartbeats 2000000 in
theorem step_pak (hc : OkC c) (h : SEM w X O Dp c N m) (hp : m.pc = 3 ∨ m.pc = 4) (hs : St w S D L cc) (hm : Lay.IsMap w N c) (a1 : ¬ Dp S) (a2 : ¬ Dp D) (a3 : ¬ O N) (a4 : N ≠ S) (a5 : N ≠ D)
    (wm : KW c t m) (ww : WW L) (h0 : 0 ≤ cc) (h1 : cc ≤ 900000000) (ht : t ≤ 900000000) :
    Calls Tryz.prog 231 #[ptr X, ptr S] w fun e w' => e = .returned (.bool (decide ((kpak (gOf c) (eOf c) c.mr m (pstp (gOf c) L m.p).2).pc = 0))) ∧ SBehind w S D c N X O Dp (pstp (gOf c) L m.p).1 (cc + 1) (kpak (gOf c) (eOf c) c.mr m (pstp (gOf c) L m.p).2) w' := by
  obtain ⟨g1, g2, g3, g4, nx, dv, pv, h5, h6⟩ := id h
  have hX := h.lt
  have dX : Dp X := g3 X g2
  have nS : X ≠ S := fun e => a1 (e ▸ dX)
  have nD : X ≠ D := fun e => a2 (e ▸ dX)
  have hNl : N < w.heap.size := hm.1
  rcases h6 with ⟨a, _⟩ | ⟨a, _⟩ | ⟨a, _⟩ | ⟨hx, X2, O2, D2, rfl, hpk, sO, sD, nDX⟩
  · omega
  · omega
  · omega
  · have pw := wm.p (by omega)
    have hpp : m.p.pc ≠ 0 := by
      rcases hx with ⟨_, _, x⟩ | ⟨_, _, x⟩ | ⟨x, _⟩
      · exact x
      · exact x
      · omega
    have hstp := step_pk hc hpk hs hm (fun e => a1 (sD _ e)) (fun e => a2 (sD _ e)) (fun e => a3 (sO _ e)) a4 a5 pw ww h0 h1 ht
    have pw' := (pw.step ww).1
    have ec : pcost m.p cc = cc + 1 := by unfold pcost; rw [if_neg hpp]
    rw [ec] at hstp
    generalize pstp (gOf c) L m.p = z at hstp pw' ⊢
    obtain ⟨L', p'⟩ := z
    dsimp only at hstp pw' ⊢
    have O2X : ¬ O2 X := fun e => nDX (hpk.ins.2.1 _ e)
    obtain ⟨Q, hQ⟩ : ∃ Q : World → Prop, Q = fun w' => (∃ O' D', PKM w' X2 O' D' c N p' ∧ (∀ k, O' k → O2 k ∨ w.heap.size ≤ k) ∧ (∀ k, D' k → D2 k ∨ w.heap.size ≤ k)) ∧ St w' S D L' (cc + 1) ∧ UF (fun k => k = S ∨ k = D ∨ O2 k) w w' := ⟨_, rfl⟩
    have hstp' : Calls Tryz.prog 60 #[ptr X2, ptr S] w fun e w' => e = .returned (.bool (decide (p'.pc = 0))) ∧ Q w' := by rw [hQ]; exact hstp
    have hk1 : ∀ w1, Q w1 → Kb w1 X N m.i m.draw m.bag.p m.bag.t m.bag.n nx dv (ptr X2) m.task m.found := fun w1 hq => by
      rw [hQ] at hq
      exact h5.same (hq.2.2.block X hX (by rintro (e | e | e); exact nS e; exact nD e; exact O2X e))
    have uf1 : ∀ w1, Q w1 → UF (fun k => k = S ∨ k = D ∨ O k) w w1 := fun w1 hq => by
      rw [hQ] at hq
      exact hq.2.2.mono fun b _ e => by
        rcases e with e | e | e
        · exact .inl e
        · exact .inr (.inl e)
        · exact .inr (.inr (sO b e))
    have hm1 : ∀ w1, Q w1 → Lay.IsMap w1 N c := fun w1 hq => IsMap_same hm (uf1 w1 hq).size ((uf1 w1 hq).block N hNl (fun e => by rcases e with e | e | e; exact a4 e; exact a5 e; exact a3 e))
    have st1 : ∀ w1, Q w1 → St w1 S D L' (cc + 1) := fun w1 hq => by rw [hQ] at hq; exact hq.2.1
    /- the same machine with its packet's as it is now -/
    have on : ∀ (w1 : World) (y : Value) (pc' : Nat), Q w1 → Kb (w1.setCell ⟨X, 6, none⟩ y) X N m.i m.draw m.bag.p m.bag.t m.bag.n y dv (ptr X2) m.task m.found := fun w1 y pc' hq => (hk1 w1 hq).p6 y
    have HF : decide (p'.pc = 0) = false → ∀ w1, Q w1 → SBehind w S D c N X O Dp L' (cc + 1) (kpak (gOf c) (eOf c) c.mr m p') w1 := fun e w1 hq => by
      have e0 : p'.pc ≠ 0 := by simpa using e
      have ek : kpak (gOf c) (eOf c) c.mr m p' = { m with p := p' } := by unfold kpak; rw [if_neg e0]
      rw [ek]
      have u1 := uf1 w1 hq
      have s1 := u1.size
      have k1 := hk1 w1 hq
      have t1 := st1 w1 hq
      rw [hQ] at hq
      obtain ⟨⟨O', D', hk, ho, hd⟩, _, _⟩ := hq
      refine ⟨⟨fun k => O k ∨ O' k, fun k => Dp k ∨ D' k, ⟨g1, .inl g2, fun k h => h.imp (g3 k) (hk.ins.2.1 k), fun k h => ?_, nx, dv, ptr X2, k1, .inr (.inr (.inr ⟨?_, X2, O', D', rfl, hk, fun k h => .inr h, fun k h => .inr h, fun h => ?_⟩))⟩, fun k h => ?_, fun k h => ?_⟩, t1, u1⟩
      · rcases h with h | h
        · have := g4 k h; omega
        · exact hk.ins.2.2 k h
      · rcases hx with ⟨x, y, _⟩ | ⟨x, y, _⟩ | ⟨x, _⟩
        · exact .inl ⟨x, y, e0⟩
        · exact .inr (.inl ⟨x, y, e0⟩)
        · omega
      · rcases hd X h with h | h
        · exact nDX h
        · omega
      · rcases h with h | h
        · exact .inl h
        · exact (ho k h).imp (sO k) id
      · rcases h with h | h
        · exact .inl h
        · exact (hd k h).imp (sD k) id
    have hen : ∀ f, f = 160 ∨ f = 158 → ∀ (a : Array Value) (w : World), (callFunc f a).run Tryz.prog w = .ok (.enter f a) w := fun f hf a w => by rcases hf with rfl | rfl <;> simp [go_sem]
    rcases hx with ⟨p3, rfl, _⟩ | ⟨p4, rfl, _⟩ | ⟨x, _⟩
    · refine kstep_raw w X S 160 h5.c6 (hen 160 (.inl rfl)) _ _ (putBack_raw w X X2 S (decide (p'.pc = 0)) Q _ h5.c8 hstp' HF fun e w1 hq => ?_) fun w' hb => hb.nx
      have e0 : p'.pc = 0 := by simpa using e
      have ek : kpak (gOf c) (eOf c) c.mr m p' = kask (gOf c) { m with p := p' } := by unfold kpak; rw [if_pos e0, if_pos p3]
      rw [ek]
      refine (askPool_any (m := { m with p := p' }) hc (hk1 w1 hq) (hm1 w1 hq)).mono ?_
      rintro e w3 ⟨rfl, hbec⟩
      exact ⟨rfl, hbec.sb g2 g3 g4 g1 hNl nS nD (st1 w1 hq) (uf1 w1 hq)⟩
    · refine kstep_raw w X S 158 h5.c6 (hen 158 (.inr rfl)) _ _ (take_raw w X X2 S (decide (p'.pc = 0)) (pPacket p') Q _ h5.c8 hstp' (fun w1 hq => ⟨(hk1 w1 hq).c8, (hk1 w1 hq).f 6, _, (hk1 w1 hq).c6⟩) HF (fun e w1 hq => ?_) (fun e hz w1 hq => ?_) fun e hz w1 hq => ?_) fun w' hb => hb.nx
      · rw [hQ] at hq
        obtain ⟨⟨O', D', hk, ho, hd⟩, _, _⟩ := hq
        exact packet_pk hk pw'
      · have e0 : p'.pc = 0 := by simpa using e
        have ep : p'.p = 0 := by unfold pPacket at hz; rwa [if_neg (by omega)] at hz
        have ek : kpak (gOf c) (eOf c) c.mr m p' = kvict (eOf c) c.mr { m with p := p' } := by unfold kpak; rw [if_pos e0, if_neg (by omega), if_pos ep]
        rw [ek]
        refine (chooseVictim_any (m := { m with p := p' }) hc (hk1 w1 hq) (hm1 w1 hq) g1 wm.dr).mono ?_
        rintro e w3 ⟨rfl, hbec⟩
        exact ⟨rfl, hbec.sb g2 g3 g4 g1 hNl nS nD (st1 w1 hq) (uf1 w1 hq)⟩
      · have e0 : p'.pc = 0 := by simpa using e
        have ep : p'.p ≠ 0 := by unfold pPacket at hz; rwa [if_neg (by omega)] at hz
        have ek : kpak (gOf c) (eOf c) c.mr m p' = { m with p := p', pc := 5 } := by unfold kpak; rw [if_pos e0, if_neg (by omega), if_neg ep]
        rw [ek]
        have u1 := uf1 w1 hq
        have u2 : UF (fun k => k = X) w1 (w1.setCell ⟨X, 6, none⟩ (fnv 174 X)) := UF.set w1 X 6 _
        have s1 := u1.size
        have s2 := u2.size
        have k1 := on w1 (fnv 174 X) 5 hq
        have t1 := st1 w1 hq
        rw [hQ] at hq
        obtain ⟨⟨O', D', hk, ho, hd⟩, _, _⟩ := hq
        have nD' : ¬ D' X := fun h => by
          rcases hd X h with h | h
          · exact nDX h
          · omega
        refine ⟨⟨fun k => O k ∨ O' k, fun k => Dp k ∨ D' k, ⟨g1, .inl g2, fun k h => h.imp (g3 k) (hk.ins.2.1 k), fun k h => ?_, fnv 174 X, dv, ptr X2, k1, .inr (.inr (.inr ⟨.inr (.inr ⟨rfl, rfl⟩), X2, O', D', rfl, pk_far hk nD', fun k h => .inr h, fun k h => .inr h, nD'⟩))⟩, fun k h => ?_, fun k h => ?_⟩, St_same t1 (u2.block S t1.ltS (Ne.symm nS)) (u2.block D t1.row.lt (Ne.symm nD)), u1.trans u2 (fun _ x => x) (fun b _ e => by subst e; exact .inr (.inr g2))⟩
        · rcases h with h | h
          · have := g4 k h; omega
          · have := hk.ins.2.2 k h; omega
        · rcases h with h | h
          · exact .inl h
          · exact (ho k h).imp (sO k) id
        · rcases h with h | h
          · exact .inl h
          · exact (hd k h).imp (sD k) id
    · omega
theorem step_se (hc : OkC c) (h : SEM w X O Dp c N m) (hs : St w S D L cc) (hm : Lay.IsMap w N c) (a1 : ¬ Dp S) (a2 : ¬ Dp D) (a3 : ¬ O N) (a4 : N ≠ S) (a5 : N ≠ D)
    (wm : KW c t m) (ww : WW L) (h0 : 0 ≤ cc) (h1 : cc ≤ 900000000) (ht : t ≤ 900000000) :
    Calls Tryz.prog 231 #[ptr X, ptr S] w fun e w' => e = .returned (.bool (decide ((kstp (pkn c) (gOf c) (eOf c) c.mr L m).2.pc = 0))) ∧ SBehind w S D c N X O Dp (kstp (pkn c) (gOf c) (eOf c) c.mr L m).1 (kcost m cc) (kstp (pkn c) (gOf c) (eOf c) c.mr L m).2 w' := by
  have hpc := wm.pc
  by_cases p0 : m.pc = 0
  · rw [kstp_done p0]
    rcases h.nx with ⟨_, c6⟩ | ⟨a, _⟩
    · refine (kstep_off w X (ptr S) c6).mono ?_
      rintro e w' ⟨rfl, rfl⟩
      refine ⟨by simp [p0], ⟨O, Dp, h, fun k hk => .inl hk, fun k hk => .inl hk⟩, ?_, .refl _ _⟩
      unfold kcost; rw [if_pos p0]; exact hs
    · exact absurd p0 a
  · have ek : kcost m cc = cc + 1 := by unfold kcost; rw [if_neg p0]
    rw [ek]
    by_cases p1 : m.pc = 1 ∨ m.pc = 6
    · rw [kstp_own p1]; exact step_dq hc h p1 hs hm a1 a2 a3 a4 a5 wm h0 h1
    · by_cases p3 : m.pc = 3 ∨ m.pc = 4
      · rw [kstp_pak p3]; exact step_pak hc h p3 hs hm a1 a2 a3 a4 a5 wm ww h0 h1 ht
      · obtain ⟨g1, g2, g3, g4, nx, dv, pv, h5, h6⟩ := id h
        have hX := h.lt
        have dX : Dp X := g3 X g2
        have nS : X ≠ S := fun e => a1 (e ▸ dX)
        have nD : X ≠ D := fun e => a2 (e ▸ dX)
        have hNl : N < w.heap.size := hm.1
        have bt := wm.bt p0
        by_cases p2 : m.pc = 2
        · have es : kstp (pkn c) (gOf c) (eOf c) c.mr L m = (L, kfin { m with bag := ⟨m.bag.p, m.bag.t + 1, m.bag.n⟩ } (ldq L (plcc c 13 m.bag.p m.bag.t))) := by unfold kstp; rw [if_neg p1, if_pos p2]; rfl
          rw [es]
          rcases h6 with ⟨a, _⟩ | ⟨_, rfl⟩ | ⟨a, _⟩ | ⟨a, _⟩
          · omega
          · refine kstep_raw w X S 140 h5.c6 (fun a w => by simp [go_sem]) _ _ ((readTask_any hc h5 hm hs nS nD h0 h1 wm.bp ⟨bt.1, bt.2.1⟩).mono ?_) fun w' hb => hb.nx
            rintro e w' ⟨rfl, hk, st, u⟩
            have u' : UF (fun k => k = S ∨ k = D ∨ O k) w w' := u.mono fun b _ e => by
              rcases e with e | e | e
              · exact .inl e
              · exact .inr (.inl e)
              · exact .inr (.inr (e ▸ g2))
            exact ⟨rfl, sb_fin (m' := kfin { m with bag := ⟨m.bag.p, m.bag.t + 1, m.bag.n⟩ } (ldq L (plcc c 13 m.bag.p m.bag.t))) (.refl _ _) hk rfl rfl g2 g3 g4 g1 hNl nS nD st u'⟩
          · omega
          · omega
        · have p5 : m.pc = 5 := by omega
          have es : kstp (pkn c) (gOf c) (eOf c) c.mr L m = (L, kbag (pkn c) (gOf c) { m with bag := ⟨m.p.p, 0, k4 (ldq L (plcc c 11 m.p.p 0))⟩ }) := by unfold kstp; rw [if_neg p1, if_neg p2, if_neg p3, if_pos p5]; rfl
          rw [es]
          have pw := wm.p (.inr (.inr p5))
          rcases h6 with ⟨a, _⟩ | ⟨a, _⟩ | ⟨a, _⟩ | ⟨hx, X2, O2, D2, rfl, hpk, sO, sD, nDX⟩
          · omega
          · omega
          · omega
          · obtain rfl : nx = fnv 174 X := by
              rcases hx with ⟨x, _⟩ | ⟨x, _⟩ | ⟨_, x⟩
              · omega
              · omega
              · exact x
            have hpp : pPacket m.p = m.p.p := by unfold pPacket; rw [if_neg (by rw [wm.p5 p5]; omega)]
            refine kstep_raw w X S 174 h5.c6 (fun a w => by simp [go_sem]) _ _ ((fillBag_any (p := m.p.p) hc h5 rfl (fun w1 hb => hpp ▸ packet_pk (hpk.keep hb.size fun k hk => hb.block k (hpk.ins.2.2 k hk)) pw) hm hs nS nD g1 a4 a5 h0 h1 (Lay.wf_i64 (by have := pw.p; omega) (by have := pw.p; omega)) ww).mono ?_) fun w' hb => hb.nx
            rintro e w' ⟨rfl, w2, st, u, hbec⟩
            exact ⟨rfl, hbec.sb g2 g3 g4 g1 hNl nS nD st (u.mono fun b _ e => by
              rcases e with e | e
              · exact .inl e
              · exact .inr (.inl e))⟩
end
end Go.Proofs.YthoiaffeenhfgaaGreat
