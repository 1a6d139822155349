/-  -/
import Derived.Test.YthoiaffeenhfgaaGreatScK
import Derived.Test.YthoiaffeenhfgaaGreatJ23
import Derived.Test.YthoiaffeenhfgaaGreatMkO
import Derived.Test.YthoiaffeenhfgaaGreatJ26
import Derived.Test.YthoiaffeenhfgaaGreatSeK
namespace Go.Proofs.YthoiaffeenhfgaaGreat
open Go.RowKit
set_option linter.unusedVariables false
set_option linter.unusedSimpArgs false
set_option maxRecDepth 100000
open Lay (plcc plc nodesN OkC Cfg slotsOf kindV)
section
variable {B S D N : Nat} {c : Cfg} {w0 w w' : World} {L : List Int} {k t i : Int} {X lo : Nat} {m : Zm}
theorem zkm_new {w : World} {X N : Nat} {c : Cfg} {i v fr cy : Int} (h : Zb w X (some ⟨N, 0, none⟩) (zc0 i v fr cy (fnz 142 X))) (hn : X ≠ N) (c0 : Cm) (d0 : Am) : ZKM w X (fun k => k = X) (fun k => k = X) c N i (zNew v fr cy c0 d0) :=
  ⟨hn, rfl, fun k h => h, fun k e => by subst e; exact h.lt, by simp [zNew], none, none, h, fun e => by simp [zNew] at e, fun e => by simp [zNew] at e⟩
end
end Go.Proofs.YthoiaffeenhfgaaGreat

namespace Go.Proofs.YthoiaffeenhfgaaGreat
open Go.RowKit
set_option linter.unusedVariables false
set_option linter.unusedSimpArgs false
set_option maxRecDepth 100000
open Lay (plcc plc nodesN OkC Cfg kindV)
abbrev mzOf (m : Mk) (nx ot th : Value) (sk : Option Addr) : Mz := ⟨m.i, (m.dg : Int), nx, ot, th, sk, m.tk, m.hs, m.bag.p, m.bag.t, m.bag.n, m.ek, m.ea, m.eb⟩
def MkPt (w : World) (X : Nat) (O Dp : Nat → Prop) (c : Cfg) (N : Nat) (m : Mk) (nx ot th : Value) (sk : Option Addr) : Prop :=
  (m.dg = 0 ∧ nx = fnv 79 X) ∨ (m.dg = 2 ∧ nx = fnv 113 X) ∨
  (nx = fnv 110 X ∧ ∃ Y O2 D2, (∀ k, O2 k → O k) ∧ (∀ k, D2 k → Dp k) ∧ ¬ D2 X ∧
    ((m.dg = 1 ∧ ot = .iface 89 (.agg #[ptr Y]) ∧ th = fnv 99 X ∧ sk = some ⟨Y, 0, none⟩ ∧ SEM w Y O2 D2 c N m.se) ∨
     (m.dg = 3 ∧ ot = .iface 148 (ptr Y) ∧ th = fnv 56 X ∧ ZKM w Y O2 D2 c N m.i m.zm) ∨
     (m.dg = 4 ∧ ot = .iface 129 (ptr Y) ∧ th = fnv 56 X ∧ WKM w Y O2 D2 N m.sw)))
def MKM (w : World) (X : Nat) (O Dp : Nat → Prop) (c : Cfg) (N : Nat) (m : Mk) : Prop :=
  X ≠ N ∧ O X ∧ (∀ k, O k → Dp k) ∧ (∀ k, Dp k → k < w.heap.size) ∧ ∃ nx ot th sk, Mb w X (some ⟨N, 0, none⟩) (mzOf m nx ot th sk) ∧ MkPt w X O Dp c N m nx ot th sk
section
variable {w w' : World} {X N : Nat} {O Dp : Nat → Prop} {c : Cfg} {m : Mk}
theorem MKM.ins (h : MKM w X O Dp c N m) : O X ∧ (∀ k, O k → Dp k) ∧ ∀ k, Dp k → k < w.heap.size := ⟨h.2.1, h.2.2.1, h.2.2.2.1⟩
theorem MKM.lt (h : MKM w X O Dp c N m) : X < w.heap.size := h.ins.2.2 X (h.ins.2.1 X h.ins.1)
theorem MkPt.keep {nx ot th : Value} {sk : Option Addr} (h : MkPt w X O Dp c N m nx ot th sk) (hs : w.heap.size ≤ w'.heap.size) (hb : ∀ k, Dp k → w'.heap[k]? = w.heap[k]?) : MkPt w' X O Dp c N m nx ot th sk := by
  rcases h with h | h | ⟨e, Y, O2, D2, f, g, x, ⟨a, b, d, e1, h⟩ | ⟨a, b, d, h⟩ | ⟨a, b, d, h⟩⟩
  · exact .inl h
  · exact .inr (.inl h)
  · exact .inr (.inr ⟨e, Y, O2, D2, f, g, x, .inl ⟨a, b, d, e1, h.keep hs fun k hk => hb k (g k hk)⟩⟩)
  · exact .inr (.inr ⟨e, Y, O2, D2, f, g, x, .inr (.inl ⟨a, b, d, h.keep hs fun k hk => hb k (g k hk)⟩)⟩)
  · exact .inr (.inr ⟨e, Y, O2, D2, f, g, x, .inr (.inr ⟨a, b, d, h.keep hs fun k hk => hb k (g k hk)⟩)⟩)
theorem MKM.keep (h : MKM w X O Dp c N m) (hs : w.heap.size ≤ w'.heap.size) (hb : ∀ k, Dp k → w'.heap[k]? = w.heap[k]?) : MKM w' X O Dp c N m := by
  obtain ⟨h1, h2, h3, h4, nx, ot, th, sk, h5, h6⟩ := h
  exact ⟨h1, h2, h3, fun k hk => Nat.lt_of_lt_of_le (h4 k hk) hs, nx, ot, th, sk, h5.same (hb X (h3 X h2)), h6.keep hs hb⟩
theorem MKM.below (h : MKM w X O Dp c N m) (hb : Below w.heap.size w w') : MKM w' X O Dp c N m := h.keep hb.size fun k hk => hb.block k (h.ins.2.2 k hk)
theorem MKM.event (h : MKM w X O Dp c N m) : Calls Tryz.prog 16 #[ptr X] w fun a w' => a = .returned (evV m.ek m.ea m.eb) ∧ Below w.heap.size w w' := by
  obtain ⟨h1, h2, h3, h4, nx, ot, th, sk, h5, h6⟩ := h
  exact eventM_any h5
theorem MKM.bag (h : MKM w X O Dp c N m) : Calls Tryz.prog 17 #[ptr X] w fun a w' => a = .returned (bgV m.bag.p m.bag.t m.bag.n) ∧ Below w.heap.size w w' := by
  obtain ⟨h1, h2, h3, h4, nx, ot, th, sk, h5, h6⟩ := h
  exact bagM_any h5
theorem MKM.doing (h : MKM w X O Dp c N m) : Calls Tryz.prog 15 #[ptr X] w fun a w' => a = .returned (.int .i64 m.dg) ∧ w = w' := by
  obtain ⟨h1, h2, h3, h4, nx, ot, th, sk, h5, h6⟩ := h
  exact doingM_any h5
theorem MKM.task (h : MKM w X O Dp c N m) : Calls Tryz.prog 14 #[ptr X] w fun a w' => a = .returned (.tuple #[.int .u64 m.tk, .bool m.hs]) ∧ Below w.heap.size w w' := by
  obtain ⟨h1, h2, h3, h4, nx, ot, th, sk, h5, h6⟩ := h
  exact taskM_any h5
end
def MBehind (w : World) (S D : Nat) (c : Cfg) (N X : Nat) (O Dp : Nat → Prop) (L : List Int) (cc : Int) (m : Mk) (w' : World) : Prop :=
  (∃ O' D', MKM w' X O' D' c N m ∧ (∀ k, O' k → O k ∨ w.heap.size ≤ k) ∧ (∀ k, D' k → Dp k ∨ w.heap.size ≤ k)) ∧ St w' S D L cc ∧ UF (fun k => k = S ∨ k = D ∨ O k) w w'
section
variable {w w1 w' : World} {X S D N Y : Nat} {c : Cfg} {O Dp : Nat → Prop} {m m' : Mk} {L L' : List Int} {cc cc' t : Int}
theorem MBehind.lone (h : MKM w X O Dp c N m) {nx ot th : Value} {sk : Option Addr} (hz : Ms w1 w' X S D N c (mzOf m' nx ot th sk) L' cc') (u : UF (fun k => k = S ∨ k = D ∨ O k) w w1) (hp : (m'.dg = 0 ∧ nx = fnv 79 X) ∨ (m'.dg = 2 ∧ nx = fnv 113 X)) : MBehind w S D c N X O Dp L' cc' m' w' := by
  obtain ⟨h1, h2, h3, h4, _⟩ := h
  have s1 := u.size
  have s2 := hz.u.size
  refine ⟨⟨O, Dp, ⟨h1, h2, h3, fun k hk => by have := h4 k hk; omega, nx, ot, th, sk, hz.mem, ?_⟩, fun k hk => .inl hk, fun k hk => .inl hk⟩, hz.st, u.trans hz.u (fun _ x => x) (fun b _ e => ?_)⟩
  · rcases hp with hp | hp
    · exact .inl hp
    · exact .inr (.inl hp)
  · rcases e with e | e | e
    · exact .inr (.inr (e ▸ h2))
    · exact .inl e
    · exact .inr (.inl e)
theorem MBehind.with (h : MKM w X O Dp c N m) {nx ot th : Value} {sk : Option Addr} (hz : Ms w1 w' X S D N c (mzOf m' nx ot th sk) L' cc') (u : UF (fun k => k = S ∨ k = D ∨ O k) w w1) (hn : nx = fnv 110 X) {O2 D2 : Nat → Prop} (ho : ∀ k, O2 k → D2 k) (hO : ∀ k, O2 k → O k ∨ w.heap.size ≤ k) (hD : ∀ k, D2 k → (Dp k ∨ w.heap.size ≤ k) ∧ k < w'.heap.size) (hX : ¬ D2 X)
    (hp : (m'.dg = 1 ∧ ot = .iface 89 (.agg #[ptr Y]) ∧ th = fnv 99 X ∧ sk = some ⟨Y, 0, none⟩ ∧ SEM w' Y O2 D2 c N m'.se) ∨
     (m'.dg = 3 ∧ ot = .iface 148 (ptr Y) ∧ th = fnv 56 X ∧ ZKM w' Y O2 D2 c N m'.i m'.zm) ∨
     (m'.dg = 4 ∧ ot = .iface 129 (ptr Y) ∧ th = fnv 56 X ∧ WKM w' Y O2 D2 N m'.sw)) : MBehind w S D c N X O Dp L' cc' m' w' := by
  obtain ⟨h1, h2, h3, h4, _⟩ := h
  have s1 := u.size
  have s2 := hz.u.size
  refine ⟨⟨fun k => O k ∨ O2 k, fun k => Dp k ∨ D2 k, ⟨h1, .inl h2, fun k h => h.imp (h3 k) (ho k), fun k hk => ?_, nx, ot, th, sk, hz.mem, .inr (.inr ⟨hn, Y, O2, D2, fun k h => .inr h, fun k h => .inr h, hX, hp⟩)⟩, fun k hk => ?_, fun k hk => ?_⟩, hz.st, u.trans hz.u (fun _ x => x) (fun b _ e => ?_)⟩
  · rcases hk with hk | hk
    · have := h4 k hk; omega
    · exact (hD k hk).2
  · rcases hk with hk | hk
    · exact .inl hk
    · exact hO k hk
  · rcases hk with hk | hk
    · exact .inl hk
    · exact (hD k hk).1
  · rcases e with e | e | e
    · exact .inr (.inr (e ▸ h2))
    · exact .inl e
    · exact .inr (.inl e)
set_option maxHeartbeats 4000000 in
theorem step_mk (hc : OkC c) (h : MKM w X O Dp c N m) (hs : St w S D L cc) (hm : Lay.IsMap w N c) (a1 : ¬ Dp S) (a2 : ¬ Dp D) (a3 : ¬ O N) (a4 : N ≠ S) (a5 : N ≠ D)
    (wm : MW c t m) (ww : WW L) (h0 : 0 ≤ cc) (h1 : cc ≤ 900000000) (ht : t ≤ 900000000) (dr : Int) :
    Calls Tryz.prog 13 #[ptr X, ptr S, .int .i64 dr] w fun e w' => e = .returned (.tuple #[]) ∧ MBehind w S D c N X O Dp (mstp c L dr m).1 (cc + 1) (mstp c L dr m).2 w' := by
  obtain ⟨g1, g2, g3, g4, nx, ot, th, sk, h5, h6⟩ := id h
  have hX := h.lt
  have dX : Dp X := g3 X g2
  have nS : X ≠ S := fun e => a1 (e ▸ dX)
  have nD : X ≠ D := fun e => a2 (e ▸ dX)
  have uX : ∀ {w1}, UF (fun k => k = X) w w1 → UF (fun k => k = S ∨ k = D ∨ O k) w w1 := fun u => u.mono fun b _ e => .inr (.inr (e ▸ g2))
  have zs : ∀ {w1}, Mb w1 X (some ⟨N, 0, none⟩) { mzOf m nx ot th sk with ek := 0, ea := 0, eb := 0 } → UF (fun k => k = X) w w1 → Ms w1 w1 X S D N c (mzOf (mq m) nx ot th sk) L cc := fun {w1} hz u =>
    ⟨hz, St_same hs (u.block S hs.ltS (Ne.symm nS)) (u.block D hs.row.lt (Ne.symm nD)), IsMap_same hm u.size (u.block N hm.1 (Ne.symm g1)), hc, ⟨nS, nD, Ne.symm g1, a4, a5⟩, .refl _ _⟩
  have ltN : N < w.heap.size := hm.1
  have ltS := hs.ltS
  have ltD := hs.row.lt
  rcases h6 with ⟨d0, rfl⟩ | ⟨d2, rfl⟩ | ⟨rfl, Y, O2, D2, f, g, x, ⟨d1, rfl, rfl, rfl, hse⟩ | ⟨d3, rfl, rfl, hz⟩ | ⟨d4, rfl, rfl, hw⟩⟩
  · -- looks
    have e : mstp c L dr m = (L, mlook c L dr m) := by simp [mstp, d0]
    rw [e]
    refine mstep_raw h5 (.inl rfl) rfl dr _ fun w1 hz u => ?_
    have Z := zs hz u
    have su := u.size
    unfold mlook
    by_cases hp : Mks L
    · rw [if_pos hp]
      refine (look_seek Z ww h0 (by omega) hp wm.i.1 wm.i.2 dr).mono ?_
      rintro e w' ⟨rfl, Y, M, hY, hM, hne, hkb, hmm, hms⟩
      refine ⟨rfl, .with (Y := Y) (O2 := fun k => k = Y ∨ k = M) (D2 := fun k => k = Y ∨ k = M) h hms (uX u) rfl (fun k h => h) (fun k hk => ?_) (fun k hk => ?_) (fun hk => ?_) (.inl ⟨rfl, rfl, rfl, rfl, ?_⟩)⟩
      · rcases hk with rfl | rfl
        · exact .inr (by omega)
        · exact .inr (by omega)
      · rcases hk with rfl | rfl
        · exact ⟨.inr (by omega), hkb.lt⟩
        · exact ⟨.inr (by omega), hmm.lt⟩
      · rcases hk with hk | hk <;> omega
      · exact ⟨by omega, .inl rfl, fun k h => h, fun k h => (by rcases h with rfl | rfl; exact hkb.lt; exact hmm.lt), _, _, _, hkb, .inr (.inr (.inl ⟨.inl ⟨rfl, rfl⟩, by simp [kNew, Dg.mPop], M, rfl, hmm, .inr rfl, hne, by omega⟩))⟩
    · rw [if_neg hp]
      by_cases h5' : ldq L 0 % 8 = 5
      · rw [if_pos h5']
        refine (look_sweep Z ww h0 (by omega) h5' dr).mono ?_
        rintro e w' ⟨rfl, Y, hY, hsb, hms⟩
        refine ⟨rfl, .with (Y := Y) (O2 := fun k => k = Y) (D2 := fun k => k = Y) h hms (uX u) rfl (fun k h => h) (fun k hk => .inr (by omega)) (fun k hk => ⟨.inr (by omega), by subst hk; exact hsb.lt⟩) (fun hk => by omega) (.inr (.inr ⟨rfl, rfl, rfl, wkm_new hsb (by omega)⟩))⟩
      · rw [if_neg h5']
        have p3 : ldq L 0 % 8 ≠ 3 := fun e => hp (.inl e)
        have p4 : ldq L 0 % 8 ≠ 4 := fun e => hp (.inr e)
        refine (look_none Z ww h0 (by omega) p3 p4 h5' dr).mono ?_
        rintro e w' ⟨rfl, hms⟩
        exact ⟨rfl, .lone (m' := mq m) h hms (uX u) (.inl ⟨d0, rfl⟩)⟩
  · -- waits
    have e : mstp c L dr m = (L, mwait c L m) := by simp [mstp, d2]
    rw [e]
    refine mstep_raw h5 (.inr (.inr rfl)) rfl dr _ fun w1 hz u => ?_
    have Z := zs hz u
    have su := u.size
    unfold mwait
    by_cases hp : Mks L
    · rw [if_pos hp]
      refine (wait_scan Z ww h0 (by omega) hp wm.tk dr).mono ?_
      rintro e w' ⟨rfl, Y, hY, hzb, hms⟩
      exact ⟨rfl, .with (Y := Y) (O2 := fun k => k = Y) (D2 := fun k => k = Y) h hms (uX u) rfl (fun k h => h) (fun k hk => .inr (by omega)) (fun k hk => ⟨.inr (by omega), by subst hk; exact hzb.lt⟩) (fun hk => by omega) (.inr (.inl ⟨rfl, rfl, rfl, zkm_new hzb (by omega) _ _⟩))⟩
    · rw [if_neg hp]
      have p3 : ldq L 0 % 8 ≠ 3 := fun e => hp (.inl e)
      have p4 : ldq L 0 % 8 ≠ 4 := fun e => hp (.inr e)
      refine (wait_none Z ww h0 (by omega) p3 p4 dr).mono ?_
      rintro e w' ⟨rfl, hms⟩
      exact ⟨rfl, .lone (m' := mq m) h hms (uX u) (.inr ⟨d2, rfl⟩)⟩
  · -- seeks
    have e : mstp c L dr m = ((kstc c L m.se).1, mseek m (kstc c L m.se).2) := by simp [mstp, d1]
    rw [e]
    obtain ⟨hkw, hkp, hkf⟩ := wm.k d1
    have ec : kcost m.se cc = cc + 1 := by unfold kcost; rw [if_neg hkp]
    refine mstep_raw h5 (.inr (.inl rfl)) rfl dr _ fun w1 hz u => ?_
    have Z := zs hz u
    have su := u.size
    have hse1 : SEM w1 Y O2 D2 c N m.se := hse.keep u.size fun k hk => u.block k (g4 k (g k hk)) (fun e => x (e ▸ hk))
    have oi := hse1.ins
    have hYX : Y ≠ X := fun e => x (e ▸ oi.2.1 Y oi.1)
    have st := step_se hc hse1 Z.st Z.mp (fun e => a1 (g S e)) (fun e => a2 (g D e)) (fun e => a3 (f N e)) a4 a5 hkw ww h0 (by omega) ht
    rw [ec] at st
    have hev : ∀ w1 : World, Calls Tryz.prog 232 #[.agg #[ptr Y]] w1 fun e w' => e = .returned (evV 0 0 0) ∧ Below w1.heap.size w1 w' := fun w1 => seekerEv _ w1
    have hms : ∀ w2, SBehind w1 S D c N Y O2 D2 (kstc c L m.se).1 (cc + 1) (kstc c L m.se).2 w2 → Ms w2 w2 X S D N c (mzOf (mq m) (fnv 110 X) (.iface 89 (.agg #[ptr Y])) (fnv 99 X) (some ⟨Y, 0, none⟩)) (kstc c L m.se).1 (cc + 1) := fun w2 hb => by
      obtain ⟨_, hst, u2⟩ := hb
      exact ⟨Z.mem.same (u2.block X Z.mem.lt (fun e => by rcases e with e | e | e; exact nS e; exact nD e; exact x (oi.2.1 X e))), hst, IsMap_same Z.mp u2.size (u2.block N Z.mp.1 (fun e => by rcases e with e | e | e; exact a4 e; exact a5 e; exact a3 (f N e))), hc, Z.n, .refl _ _⟩
    have uf2 : ∀ {w2}, UF (fun k => k = S ∨ k = D ∨ O2 k) w1 w2 → UF (fun k => k = S ∨ k = D ∨ O k) w w2 := fun u2 => (uX u).trans u2 (fun _ x => x) (fun b _ e => e.imp id (Or.imp id (f b)))
    by_cases hp : (kstc c L m.se).2.pc = 0
    · rw [show decide ((kstp (pkn c) (gOf c) (eOf c) c.mr L m.se).2.pc = 0) = true from decide_eq_true hp] at st
      refine goOn_s_end Z.mem rfl (.inr rfl) rfl dr 0 0 0 _ _ st hms (fun w1 _ => hev w1) fun w2 w3 hb hk3 hu3 => ?_
      obtain ⟨⟨O', D', hs', ho', hd'⟩, hst, u2⟩ := id hb
      obtain ⟨_, _, _, _, nx', dv', pv', hkb, _⟩ := hs'
      have hkb3 := hkb.same (hu3.block Y hkb.lt hYX)
      unfold mseek
      rw [if_pos hp]
      cases hf : (kstc c L m.se).2.found with
      | true =>
        have hf' : (kstp (pkn c) (gOf c) (eOf c) c.mr L m.se).2.found = true := hf
        rw [hf'] at hkb3
        rw [if_pos rfl]
        refine (sought_yes hk3 rfl hkb3 hYX).mono ?_
        rintro e w' ⟨rfl, hms'⟩
        refine ⟨rfl, .lone (m' := { mq m with se := (kstc c L m.se).2, bag := (kstc c L m.se).2.bag, tk := (kstc c L m.se).2.task, hs := true, dg := 2 }) h hms' (uf2 u2) (.inr ⟨rfl, rfl⟩)⟩
      | false =>
        have hf' : (kstp (pkn c) (gOf c) (eOf c) c.mr L m.se).2.found = false := hf
        rw [hf'] at hkb3
        rw [if_neg (by simp)]
        refine (sought_no hk3 rfl hkb3 hYX).mono ?_
        rintro e w' ⟨rfl, hms'⟩
        refine ⟨rfl, .lone (m' := { mq m with se := (kstc c L m.se).2, bag := (kstc c L m.se).2.bag, tk := 0, hs := false, dg := 0 }) h hms' (uf2 u2) (.inl ⟨rfl, rfl⟩)⟩
    · rw [show decide ((kstp (pkn c) (gOf c) (eOf c) c.mr L m.se).2.pc = 0) = false from decide_eq_false hp] at st
      refine (goOn_s_on Z.mem rfl dr 0 0 0 _ st hms (fun w1 _ => hev w1)).mono ?_
      rintro e w3 ⟨rfl, w2, ⟨⟨O', D', hs', ho', hd'⟩, hst, u2⟩, hk3⟩
      unfold mseek
      rw [if_neg hp]
      have s2 := u2.size
      have oi' := hs'.ins
      have hX' : ¬ D' X := fun e => by rcases hd' X e with e | e; exact x e; omega
      have hs3 : SEM w3 Y O' D' c N (kstc c L m.se).2 := hs'.keep hk3.u.size fun k hk => hk3.far (oi'.2.2 k hk) (fun e => hX' (e ▸ hk)) (fun e => by rcases hd' k hk with y | y; exact a1 (g S (e ▸ y)); omega) (fun e => by rcases hd' k hk with y | y; exact a2 (g D (e ▸ y)); omega)
      exact ⟨rfl, .with (m' := { mq m with se := (kstc c L m.se).2 }) (Y := Y) h hk3 (uf2 u2) rfl oi'.2.1 (fun k hk => by rcases ho' k hk with y | y; exact .inl (f k y); exact .inr (by omega)) (fun k hk => ⟨by rcases hd' k hk with y | y; exact .inl (g k y); exact .inr (by omega), hs3.ins.2.2 k hk⟩) hX' (.inl ⟨d1, rfl, rfl, rfl, hs3⟩)⟩
  · -- scans
    have e : mstp c L dr m = ((zstc c m.i L m.zm).1, mscan m (zstc c m.i L m.zm).2) := by simp [mstp, d3]
    rw [e]
    obtain ⟨hkw, hkp⟩ := wm.z d3
    have ec : zcost m.zm cc = cc + 1 := by unfold zcost; rw [if_neg hkp]
    refine mstep_raw h5 (.inr (.inl rfl)) rfl dr _ fun w1 hz1 u => ?_
    have Z := zs hz1 u
    have su := u.size
    have hse1 : ZKM w1 Y O2 D2 c N m.i (m.zm) := hz.keep u.size fun k hk => u.block k (g4 k (g k hk)) (fun e => x (e ▸ hk))
    have oi := hse1.ins
    have hYX : Y ≠ X := fun e => x (e ▸ oi.2.1 Y oi.1)
    have st := step_zk hc hse1 Z.st Z.mp (fun e => a1 (g S e)) (fun e => a2 (g D e)) (fun e => a3 (f N e)) a4 a5 hkw ww wm.i.1 wm.i.2 h0 (by omega) ht
    rw [ec] at st
    have hms : ∀ w2, ZBehind w1 S D c N m.i Y O2 D2 (zstc c m.i L m.zm).1 (cc + 1) (zstc c m.i L m.zm).2 w2 → Ms w2 w2 X S D N c (mzOf (mq m) (fnv 110 X) (.iface 148 (ptr Y)) (fnv 56 X) sk) (zstc c m.i L m.zm).1 (cc + 1) := fun w2 hb => by
      obtain ⟨_, hst, u2⟩ := hb
      exact ⟨Z.mem.same (u2.block X Z.mem.lt (fun e => by rcases e with e | e | e; exact nS e; exact nD e; exact x (oi.2.1 X e))), hst, IsMap_same Z.mp u2.size (u2.block N Z.mp.1 (fun e => by rcases e with e | e | e; exact a4 e; exact a5 e; exact a3 (f N e))), hc, Z.n, .refl _ _⟩
    have hev : ∀ w2, ZBehind w1 S D c N m.i Y O2 D2 (zstc c m.i L m.zm).1 (cc + 1) (zstc c m.i L m.zm).2 w2 → Calls Tryz.prog 237 #[ptr Y] w2 fun e w' => e = .returned (evV (zstc c m.i L m.zm).2.ek (zstc c m.i L m.zm).2.ea (zstc c m.i L m.zm).2.eb) ∧ Below w2.heap.size w2 w' := fun w2 hb => by
      obtain ⟨⟨_, _, hs', _⟩, _⟩ := hb
      exact hs'.event
    have uf2 : ∀ {w2}, UF (fun k => k = S ∨ k = D ∨ O2 k) w1 w2 → UF (fun k => k = S ∨ k = D ∨ O k) w w2 := fun u2 => (uX u).trans u2 (fun _ x => x) (fun b _ e => e.imp id (Or.imp id (f b)))
    by_cases hp : (zstc c m.i L m.zm).2.pc = 0
    · rw [show decide ((zstp (zgOf c) (gOf c) (aNew (eOf c m.i)) L m.zm).2.pc = 0) = true from decide_eq_true hp] at st
      refine goOn_z_end Z.mem rfl (.inl rfl) rfl dr _ _ _ _ _ st hms hev fun w2 w3 hb hk3 hu3 => ?_
      obtain ⟨_, hst, u2⟩ := id hb
      unfold mscan
      rw [if_pos hp]
      refine (lookAnewM hk3).mono ?_
      rintro e w' ⟨rfl, hms'⟩
      exact ⟨rfl, .lone (m' := { m with zm := (zstc c m.i L m.zm).2, ek := (zstc c m.i L m.zm).2.ek, ea := (zstc c m.i L m.zm).2.ea, eb := (zstc c m.i L m.zm).2.eb, tk := 0, hs := false, dg := 0 }) h hms' (uf2 u2) (.inl ⟨rfl, rfl⟩)⟩
    · rw [show decide ((zstp (zgOf c) (gOf c) (aNew (eOf c m.i)) L m.zm).2.pc = 0) = false from decide_eq_false hp] at st
      refine (goOn_z_on Z.mem rfl dr _ _ _ _ st hms hev).mono ?_
      rintro e w3 ⟨rfl, w2, ⟨⟨O', D', hs', ho', hd'⟩, hst, u2⟩, hk3⟩
      unfold mscan
      rw [if_neg hp]
      have s2 := u2.size
      have oi' := hs'.ins
      have hX' : ¬ D' X := fun e => by rcases hd' X e with e | e; exact x e; omega
      have hs3 : ZKM w3 Y O' D' c N m.i (zstc c m.i L m.zm).2 := hs'.keep hk3.u.size fun k hk => hk3.far (oi'.2.2 k hk) (fun e => hX' (e ▸ hk)) (fun e => by rcases hd' k hk with y | y; exact a1 (g S (e ▸ y)); omega) (fun e => by rcases hd' k hk with y | y; exact a2 (g D (e ▸ y)); omega)
      exact ⟨rfl, .with (m' := { m with zm := (zstc c m.i L m.zm).2, ek := (zstc c m.i L m.zm).2.ek, ea := (zstc c m.i L m.zm).2.ea, eb := (zstc c m.i L m.zm).2.eb }) (Y := Y) h hk3 (uf2 u2) rfl oi'.2.1 (fun k hk => by rcases ho' k hk with y | y; exact .inl (f k y); exact .inr (by omega)) (fun k hk => ⟨by rcases hd' k hk with y | y; exact .inl (g k y); exact .inr (by omega), hs3.ins.2.2 k hk⟩) hX' (.inr (.inl ⟨d3, rfl, rfl, hs3⟩))⟩
  · -- sweeps
    have e : mstp c L dr m = ((wstp (wOf c) L m.sw).1, mswp m (wstp (wOf c) L m.sw).2) := by simp [mstp, d4]
    rw [e]
    obtain ⟨hkw, hkp⟩ := wm.w d4
    have ec : wcost m.sw cc = cc + 1 := by unfold wcost; rw [if_neg hkp]
    refine mstep_raw h5 (.inr (.inl rfl)) rfl dr _ fun w1 hz1 u => ?_
    have Z := zs hz1 u
    have su := u.size
    have hse1 : WKM w1 Y O2 D2 N (m.sw) := hw.keep u.size fun k hk => u.block k (g4 k (g k hk)) (fun e => x (e ▸ hk))
    have oi := hse1.ins
    have hYX : Y ≠ X := fun e => x (e ▸ oi.2.1 Y oi.1)
    have st := step_wk hc hse1 Z.st Z.mp (fun e => a1 (g S e)) (fun e => a2 (g D e)) (fun e => a3 (f N e)) a4 a5 hkw ww h0 (by omega) ht
    rw [ec] at st
    have hms : ∀ w2, WBehind w1 S D N Y O2 D2 (wstp (wOf c) L m.sw).1 (cc + 1) (wstp (wOf c) L m.sw).2 w2 → Ms w2 w2 X S D N c (mzOf (mq m) (fnv 110 X) (.iface 129 (ptr Y)) (fnv 56 X) sk) (wstp (wOf c) L m.sw).1 (cc + 1) := fun w2 hb => by
      obtain ⟨_, hst, u2⟩ := hb
      exact ⟨Z.mem.same (u2.block X Z.mem.lt (fun e => by rcases e with e | e | e; exact nS e; exact nD e; exact x (oi.2.1 X e))), hst, IsMap_same Z.mp u2.size (u2.block N Z.mp.1 (fun e => by rcases e with e | e | e; exact a4 e; exact a5 e; exact a3 (f N e))), hc, Z.n, .refl _ _⟩
    have hev : ∀ w2, WBehind w1 S D N Y O2 D2 (wstp (wOf c) L m.sw).1 (cc + 1) (wstp (wOf c) L m.sw).2 w2 → Calls Tryz.prog 233 #[ptr Y] w2 fun e w' => e = .returned (evV (wstp (wOf c) L m.sw).2.ek (wstp (wOf c) L m.sw).2.ea 0) ∧ Below w2.heap.size w2 w' := fun w2 hb => by
      obtain ⟨⟨_, _, hs', _⟩, _⟩ := hb
      exact hs'.event
    have uf2 : ∀ {w2}, UF (fun k => k = S ∨ k = D ∨ O2 k) w1 w2 → UF (fun k => k = S ∨ k = D ∨ O k) w w2 := fun u2 => (uX u).trans u2 (fun _ x => x) (fun b _ e => e.imp id (Or.imp id (f b)))
    by_cases hp : (wstp (wOf c) L m.sw).2.pc = 0
    · rw [show decide ((wstp (wOf c) L m.sw).2.pc = 0) = true from decide_eq_true hp] at st
      refine goOn_w_end Z.mem rfl (.inl rfl) rfl dr _ _ _ _ _ st hms hev fun w2 w3 hb hk3 hu3 => ?_
      obtain ⟨_, hst, u2⟩ := id hb
      unfold mswp
      rw [if_pos hp]
      refine (lookAnewM hk3).mono ?_
      rintro e w' ⟨rfl, hms'⟩
      exact ⟨rfl, .lone (m' := { m with sw := (wstp (wOf c) L m.sw).2, ek := (wstp (wOf c) L m.sw).2.ek, ea := (wstp (wOf c) L m.sw).2.ea, eb := 0, tk := 0, hs := false, dg := 0 }) h hms' (uf2 u2) (.inl ⟨rfl, rfl⟩)⟩
    · rw [show decide ((wstp (wOf c) L m.sw).2.pc = 0) = false from decide_eq_false hp] at st
      refine (goOn_w_on Z.mem rfl dr _ _ _ _ st hms hev).mono ?_
      rintro e w3 ⟨rfl, w2, ⟨⟨O', D', hs', ho', hd'⟩, hst, u2⟩, hk3⟩
      unfold mswp
      rw [if_neg hp]
      have s2 := u2.size
      have oi' := hs'.ins
      have hX' : ¬ D' X := fun e => by rcases hd' X e with e | e; exact x e; omega
      have hs3 : WKM w3 Y O' D' N (wstp (wOf c) L m.sw).2 := hs'.keep hk3.u.size fun k hk => hk3.far (oi'.2.2 k hk) (fun e => hX' (e ▸ hk)) (fun e => by rcases hd' k hk with y | y; exact a1 (g S (e ▸ y)); omega) (fun e => by rcases hd' k hk with y | y; exact a2 (g D (e ▸ y)); omega)
      exact ⟨rfl, .with (m' := { m with sw := (wstp (wOf c) L m.sw).2, ek := (wstp (wOf c) L m.sw).2.ek, ea := (wstp (wOf c) L m.sw).2.ea, eb := 0 }) (Y := Y) h hk3 (uf2 u2) rfl oi'.2.1 (fun k hk => by rcases ho' k hk with y | y; exact .inl (f k y); exact .inr (by omega)) (fun k hk => ⟨by rcases hd' k hk with y | y; exact .inl (g k y); exact .inr (by omega), hs3.ins.2.2 k hk⟩) hX' (.inr (.inr ⟨d4, rfl, rfl, hs3⟩))⟩
end
end Go.Proofs.YthoiaffeenhfgaaGreat
