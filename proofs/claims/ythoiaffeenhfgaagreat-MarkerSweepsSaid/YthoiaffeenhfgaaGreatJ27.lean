/-  -/
import Derived.Test.YthoiaffeenhfgaaGreatJ13
import Derived.Test.YthoiaffeenhfgaaGreatJ11
import Derived.Test.YthoiaffeenhfgaaGreatJ23
import Derived.Test.YthoiaffeenhfgaaGreatJ14
namespace Go.Proofs.YthoiaffeenhfgaaGreat
open Lay (plcc Cfg)
def eOf (c : Cfg) (i : Int) : Dg.En := ⟨plcc c 8 i 0, plcc c 9 i 0, plcc c 10 i 0, c.dq⟩
end Go.Proofs.YthoiaffeenhfgaaGreat

namespace Go.Proofs.YthoiaffeenhfgaaGreat
open Go.RowKit
set_option linter.unusedVariables false
set_option linter.unusedSimpArgs false
open Lay (plcc plc shOf packN nodesN OkC Cfg Norm firstV Rep lenL things)
theorem pw_idle (c : Cfg) (kd : Nat) (hk : kd = 1 ∨ kd = 2 ∨ kd = 3) : PW c 0 ⟨kd, 0, [], 0, 0, mnone⟩ :=
  ⟨hk, by simp, fun _ => .inl rfl, fun e => by simp at e, fun e => by simp at e, ⟨by simp, by simp⟩, by simp, by simp, ⟨by simp, by simp, fun e => by simp at e⟩, fun e => by simp at e, by omega⟩
theorem pw_put (c : Cfg) (ts : List Int) (h : ∀ z ∈ ts, 0 ≤ z ∧ z ≤ 18446744073709551615) : PW c 0 (pPut (gOf c) ts) := by
  unfold pPut
  split
  · exact pw_idle c 1 (.inl rfl)
  · rename_i hne
    have hl : (ts.take 4).length ≤ 4 := by simp; omega
    have hne' : ts.take 4 ≠ [] := by
      intro e
      cases ts with
      | nil => exact hne rfl
      | cons a l => simp at e
    have hp := List.length_pos_iff.2 hne'
    exact ⟨.inl rfl, by simp, fun e => absurd rfl e, fun _ => ⟨wm_pop _, rfl, rfl, by simp [mPop]⟩, fun e => by simp at e, ⟨by simp, by simp⟩, fun z hz => h z (List.mem_of_mem_take hz), hl, ⟨by simp, by simp, fun _ => by simp only; omega⟩, fun _ => ⟨hne', fun _ => rfl⟩, by omega⟩
theorem pw_take (c : Cfg) : PW c 0 (pTake (gOf c)) :=
  ⟨.inr (.inl rfl), by simp [pTake], fun _ => .inr rfl, fun e => by simp [pTake] at e, fun _ => ⟨wm_pop _, rfl, by simp [pTake, mPop]⟩, ⟨by simp [pTake], by simp [pTake]⟩, by simp [pTake], by simp [pTake], ⟨by simp [pTake], by simp [pTake], fun e => by simp [pTake] at e⟩, fun e => by simp [pTake] at e, by omega⟩
theorem pw_back (c : Cfg) (n : Nat) (p : Int) : PW c 0 (pBack n (gOf c) p) := by
  unfold pBack
  split
  · exact pw_idle c 3 (.inr (.inr rfl))
  · exact ⟨.inr (.inr rfl), by simp, fun _ => .inr rfl, fun e => by simp at e, fun _ => ⟨wm_push _ _, rfl, by simp [mPush]⟩, ⟨by simp, by simp⟩, by simp, by simp, ⟨by simp, by simp, fun e => by simp at e⟩, fun e => by simp at e, by omega⟩
section
variable {B S D N : Nat} {c : Cfg} {w0 w w' : World} {L : List Int} {k t : Int}
theorem PO.start {a : Ending} {L : List Int} (hb : Below B w0 w) (hB : B ≤ w0.heap.size) (hm : Lay.IsMap w N c) (hok : OkC c) (ww : WW L) (h : SomeNew w L a w') : ∃ S D, a = .returned (ptr S) ∧ PO B S D N c w0 w' L 0 ∧ Below w.heap.size w w' := by
  obtain ⟨S, D, rfl, hS, hD, hs, hb'⟩ := h
  have hN := hm.1
  have hBw := Nat.le_trans hB hb.size
  exact ⟨S, D, rfl, ⟨⟨0, by omega, by omega, hs⟩, hm.below hb', hok, ⟨by omega, by omega⟩, ⟨by omega, by omega, hB⟩, ww, below_step hb hBw hb'⟩, hb'⟩
theorem put_po (h : PO B S D N c w0 w L k) (at' v : Int) (hv : 0 ≤ v ∧ v ≤ 18446744073709551615) (hk : k ≤ 900000000) :
    Calls Tryz.prog 23 #[ptr S, .int .i64 at', .int .u64 v] w fun a w' => a = .returned (.tuple #[]) ∧ PO B S D N c w0 w' (ptq L at' v) (k + 1) ∧ UF (fun b => b = S ∨ b = D) w w' := by
  obtain ⟨cc, h0, h1, hs⟩ := h.st
  have hl := h.lt
  have hB := h.lo
  refine (put_any at' v w hs h0 (by omega)).mono ?_
  rintro a w1 ⟨rfl, l⟩
  rw [ptv_eq] at l
  have u := UF.of_upd l.2
  exact ⟨rfl, ⟨⟨cc + 1, by omega, by omega, l.1⟩, IsMap_same h.mp u.size (u.block N hl.2.2 (by have := h.ns; omega)), h.ok, h.ns, h.lo, h.ww.put _ hv, below_uf h.bel h.lo.2.2 u (fun b hb => by omega)⟩, u⟩
theorem load_po (h : PO B S D N c w0 w L k) (at' : Int) (hk : k ≤ 900000000) :
    Calls Tryz.prog 25 #[ptr S, .int .i64 at'] w fun a w' => a = .returned (.int .u64 (ldq L at')) ∧ PO B S D N c w0 w' L (k + 1) ∧ UF (fun b => b = S ∨ b = D) w w' := by
  obtain ⟨cc, h0, h1, hs⟩ := h.st
  have hl := h.lt
  have hB := h.lo
  refine (load_any at' w hs h0 (by omega)).mono ?_
  rintro a w1 ⟨rfl, l⟩
  have u := UF.of_upd l.2
  exact ⟨by rw [ldv_eq], ⟨⟨cc + 1, by omega, by omega, l.1⟩, IsMap_same h.mp u.size (u.block N hl.2.2 (by have := h.ns; omega)), h.ok, h.ns, h.lo, h.ww, below_uf h.bel h.lo.2.2 u (fun b hb => by omega)⟩, u⟩
theorem all_po (h : PO B S D N c w0 w L k) (hl : L.length ≤ 1000000) :
    Calls Tryz.prog 33 #[ptr S] w fun a w' => a = .returned (.slice (some ⟨w.heap.size, 0, none⟩) L.length L.length) ∧ Reads .u64 w' (some ⟨w.heap.size, 0, none⟩) L ∧ PO B S D N c w0 w' L k ∧ Below w.heap.size w w' := by
  obtain ⟨cc, h0, h1, hs⟩ := h.st
  refine (all_any w hs hl).mono ?_
  rintro a w1 ⟨rfl, hr, hb⟩
  exact ⟨rfl, hr.reads, h.step hb, hb⟩
end
end Go.Proofs.YthoiaffeenhfgaaGreat

namespace Go.Proofs.YthoiaffeenhfgaaGreat
open Go.RowKit
set_option linter.unusedVariables false
set_option linter.unusedSimpArgs false
set_option maxRecDepth 100000
open Lay (plcc plc shOf packN nodesN OkC Cfg Norm firstV Rep lenL things)
structure DW (d : Dg.Mc) : Prop where
  kd : d.kind = 1
  pc : d.pc ≤ 4
  ok : Dg.EnOk d.e
  b : 0 ≤ d.b ∧ d.b ≤ 18446744073709551615
  w : 0 ≤ d.w ∧ d.w ≤ 18446744073709551615
  t : 0 ≤ d.t
theorem u64w_rng (a : Int) : 0 ≤ Dg.u64w a ∧ Dg.u64w a ≤ 18446744073709551615 := by unfold Dg.u64w; omega
theorem DW.push {e : Dg.En} {x : Int} (ok : Dg.EnOk e) (hx : 0 ≤ x ∧ x ≤ 18446744073709551615) : DW (Dg.mPush e x) := ⟨rfl, by simp [Dg.mPush], ok, by simp [Dg.mPush], hx, by simp [Dg.mPush]⟩
theorem DW.step {d : Dg.Mc} {L : List Int} (h : DW d) (ww : WW L) : DW (Dg.stp L d).2 ∧ WW (Dg.stp L d).1 := by
  obtain ⟨kd, pc, e, b, t, x, won, out⟩ := d
  obtain ⟨h1, h2, h3, h4, h5, h6⟩ := h
  dsimp only at h1 h2 h3 h4 h5 h6
  subst h1
  have hp : pc = 0 ∨ pc = 1 ∨ pc = 2 ∨ pc = 3 ∨ pc = 4 := by omega
  rcases hp with rfl | rfl | rfl | rfl | rfl
  · have es : Dg.stp L ⟨1, 0, e, b, t, x, won, out⟩ = (L, ⟨1, 0, e, b, t, x, won, out⟩) := by simp [Dg.stp]
    rw [es]; exact ⟨⟨rfl, by simp, h3, h4, h5, h6⟩, ww⟩
  · have es : Dg.stp L ⟨1, 1, e, b, t, x, won, out⟩ = (L, ⟨1, 2, e, ldq L e.bot, t, x, won, out⟩) := by simp [Dg.stp, Dg.pushS]
    rw [es]; exact ⟨⟨rfl, by simp, h3, ww.ldq _, h5, h6⟩, ww⟩
  · by_cases hc : Dg.roomOf e ≤ Dg.ahead b (ldq L e.top)
    · have es : Dg.stp L ⟨1, 2, e, b, t, x, won, out⟩ = (L, ⟨1, 0, e, b, t, 0, won, 2⟩) := by simp [Dg.stp, Dg.pushS, hc, Dg.fin]
      rw [es]; exact ⟨⟨rfl, by simp, h3, h4, by simp, h6⟩, ww⟩
    · have es : Dg.stp L ⟨1, 2, e, b, t, x, won, out⟩ = (L, ⟨1, 3, e, b, ldq L e.top, x, won, out⟩) := by simp [Dg.stp, Dg.pushS, hc]
      rw [es]; exact ⟨⟨rfl, by simp, h3, h4, h5, (ww.ldq _).1⟩, ww⟩
  · have es : Dg.stp L ⟨1, 3, e, b, t, x, won, out⟩ = (ptq L (Dg.entOf e b) x, ⟨1, 4, e, b, t, x, won, out⟩) := by simp [Dg.stp, Dg.pushS]
    rw [es]; exact ⟨⟨rfl, by simp, h3, h4, h5, h6⟩, ww.put _ h5⟩
  · have es : Dg.stp L ⟨1, 4, e, b, t, x, won, out⟩ = (ptq L e.bot (Dg.u64w (b + 1)), ⟨1, 0, e, b, t, 0, won, 1⟩) := by simp [Dg.stp, Dg.pushS, Dg.fin]
    rw [es]; exact ⟨⟨rfl, by simp, h3, h4, by simp, h6⟩, ww.put _ (u64w_rng _)⟩
structure AW (c : Cfg) (t : Int) (m : Am) : Prop where
  pc : m.pc ≤ 2
  d : m.pc = 1 → DW m.d
  tk : 0 ≤ m.task ∧ m.task ≤ 18446744073709551615
  p : m.pc = 2 → PW c t m.p
  t0 : 0 ≤ t
theorem AW.new {c : Cfg} {e : Dg.En} {x : Int} (ok : Dg.EnOk e) (hx : 0 ≤ x ∧ x ≤ 18446744073709551615) : AW c 0 (aNew e x) := ⟨by simp [aNew], fun _ => DW.push ok hx, hx, fun e => by simp [aNew] at e, by omega⟩
theorem AW.mono {c : Cfg} {t u : Int} {m : Am} (h : AW c t m) (k : t ≤ u) : AW c u m := ⟨h.pc, h.d, h.tk, fun e => (h.p e).mono k, by have := h.t0; omega⟩
theorem AW.step {c : Cfg} {t : Int} {m : Am} {L : List Int} (h : AW c t m) (ww : WW L) : AW c (t + 1) (astp (gOf c) L m).2 ∧ WW (astp (gOf c) L m).1 := by
  have t0 := h.t0
  unfold astp
  by_cases p1 : m.pc = 1
  · rw [if_pos p1]
    obtain ⟨k1, k2⟩ := (h.d p1).step ww
    refine ⟨?_, k2⟩
    by_cases e1 : (Dg.stp L m.d).2.pc = 0
    · rw [if_pos e1]
      by_cases e2 : (Dg.stp L m.d).2.out = 2
      · rw [if_pos e2]
        exact ⟨by simp, fun e => by simp at e, h.tk, fun _ => (pw_put c [m.task] (by simpa using h.tk)).mono (by omega), by omega⟩
      · rw [if_neg e2]
        exact ⟨by simp, fun e => by simp at e, h.tk, fun e => by simp at e, by omega⟩
    · rw [if_neg e1]
      exact ⟨h.pc, fun _ => k1, h.tk, fun e => by simp only at e; omega, by omega⟩
  · rw [if_neg p1]
    by_cases p2 : m.pc = 2
    · rw [if_pos p2]
      obtain ⟨k1, k2⟩ := (h.p p2).step ww
      refine ⟨?_, k2⟩
      by_cases e1 : (pstp (gOf c) L m.p).2.pc = 0
      · rw [if_pos e1]
        exact ⟨by simp, fun e => by simp at e, h.tk, fun e => by simp at e, by omega⟩
      · rw [if_neg e1]
        exact ⟨h.pc, fun e => absurd e p1, h.tk, fun _ => k1, by omega⟩
    · rw [if_neg p2]
      exact ⟨h.mono (by omega), ww⟩
end Go.Proofs.YthoiaffeenhfgaaGreat

namespace Go.Proofs.YthoiaffeenhfgaaGreat
open Go.RowKit
set_option linter.unusedVariables false
open Lay (plcc plc shOf packN nodesN OkC Cfg Norm firstV Rep lenL)
theorem top_is {c : Cfg} (hc : OkC c) {i : Int} (h0 : 0 ≤ i) (h1 : i < c.mr) : plcc c 8 i 0 = Lay.at3 c + i * (2 + c.dq) := by
  rw [← Lay.plc_top hc i, Lay.wordL, if_pos (by omega)]; simp
theorem dq_rng {c : Cfg} (hc : OkC c) : 1 ≤ c.dq ∧ c.dq ≤ 8 ∧ 1 ≤ c.mr := by
  obtain ⟨a0, a1, b0, b1, c0, c1, d0, d1, e0, e1, s0, k0, k1, u0, u1, q0, q1, h0, h1, f0, f1, r0, r1, w0, w1⟩ := hc
  exact ⟨by omega, by omega, by omega⟩
theorem mk_pos {c : Cfg} (hc : OkC c) {i : Int} (h0 : 0 ≤ i) : 0 ≤ Lay.at3 c + i * (2 + c.dq) := by
  have := (Lay.bds hc).t3
  have := dq_rng hc
  have := Int.mul_nonneg h0 (by omega : 0 ≤ 2 + c.dq)
  omega
theorem n9 (i : Int) : Norm ⟨9, i, 0⟩ := nrm 9 i 0 (by omega) (by omega) (fun h => by omega) (fun _ _ _ => rfl)
theorem n10 (i j : Int) : Norm ⟨10, i, j⟩ := nrm 10 i j (by omega) (by omega) (fun h => by omega) (fun h _ _ => absurd rfl h)
theorem eok_of {c : Cfg} (hc : OkC c) (i : Int) : Dg.EnOk (eOf c i) := by
  have hd := dq_rng hc
  have h1 := Lay.plc_lo (shOf c) ⟨10, i, 0⟩
  have h2 := (Lay.bds hc).t55'
  have h3 := Lay.lenL_eq hc
  refine ⟨?_, ?_, ?_⟩
  · show -1000000000 ≤ plcc c 10 i 0
    have : plcc c 10 i 0 = plc (shOf c) ⟨10, i, 0⟩ := rfl
    omega
  · show plcc c 10 i 0 ≤ 1000000000
    by_cases h : 0 ≤ plcc c 10 i 0
    · have ll : plcc c 10 i 0 < lenL (shOf c) := Lay.plc_lt (s := shOf c) (n10 i 0) h
      omega
    · omega
  · show c.dq ≤ 1000000000; omega
end Go.Proofs.YthoiaffeenhfgaaGreat

namespace Go.Proofs.YthoiaffeenhfgaaGreat
open Go.RowKit
set_option linter.unusedVariables false
set_option linter.unusedSimpArgs false
set_option maxRecDepth 100000
open Lay (plcc plc nodesN OkC Cfg kindV partsC)
def wcost (m : Wn) (cc : Int) : Int := if m.pc = 0 then cc else cc + 1
def WBehind (w : World) (S D : Nat) (N X : Nat) (O Dp : Nat → Prop) (L : List Int) (cc : Int) (m : Wn) (w' : World) : Prop :=
  (∃ O' D', WKM w' X O' D' N m ∧ (∀ k, O' k → O k ∨ w.heap.size ≤ k) ∧ (∀ k, D' k → Dp k ∨ w.heap.size ≤ k)) ∧ St w' S D L cc ∧ UF (fun k => k = S ∨ k = D ∨ O k) w w'
section
variable {w w1 w' : World} {X S D N : Nat} {c : Cfg} {O Dp : Nat → Prop} {m m' : Wn} {L L' : List Int} {cc cc' t : Int}
theorem WBehind.of (h : WKM w X O Dp N m) {z' : Swc} {pp : Option Addr} (hz : Ss w1 w' X S D N c z' L' cc') (u : UF (fun k => k = S ∨ k = D ∨ O k) w w1) (e : z' = swOf m' (nxW X m'.pc) pp) (hp : m'.pc ≤ 7) (n6 : m'.pc ≠ 6) : WBehind w S D N X O Dp L' cc' m' w' := by
  obtain ⟨h1, h2, h3, h4, _⟩ := id h
  subst e
  have s1 := u.size; have s2 := hz.u.size
  refine ⟨⟨O, Dp, ⟨h1, h2, h3, fun k hk => by have := h4 k hk; omega, hp, pp, hz.mem, fun e => absurd e n6⟩, fun k hk => .inl hk, fun k hk => .inl hk⟩, hz.st, ?_⟩
  exact u.trans hz.u (fun _ x => x) (fun k _ e => by rcases e with e | e | e; exact .inr (.inr (e ▸ h2)); exact .inl e; exact .inr (.inl e))
theorem WBehind.push (h : WKM w X O Dp N m) {z' : Swc} {M : Nat} (hz : Ss w1 w' X S D N c z' L' cc') (u : UF (fun k => k = X) w w1) (e : z' = swOf m' (nxW X m'.pc) (some ⟨M, 0, none⟩)) (p6 : m'.pc = 6)
    (ha : MM w' M (lvN N) m'.x) (hd : w1.heap.size ≤ M) (hN : N < w1.heap.size) : WBehind w S D N X O Dp L' cc' m' w' := by
  obtain ⟨h1, h2, h3, h4, _⟩ := id h
  subst e
  have hX := h.lt
  have s1 := u.size; have s2 := hz.u.size
  refine ⟨⟨fun k => O k ∨ k = M, fun k => Dp k ∨ k = M, ⟨h1, .inl h2, fun k hk => hk.imp (h3 k) id, fun k hk => ?_, by omega, _, hz.mem, fun _ => ⟨M, rfl, ha, .inr rfl, by omega, by omega⟩⟩, fun k hk => ?_, fun k hk => ?_⟩, hz.st, ?_⟩
  · rcases hk with hk | rfl
    · have := h4 k hk; omega
    · exact ha.lt
  · rcases hk with hk | rfl
    · exact .inl hk
    · exact .inr (by omega)
  · rcases hk with hk | rfl
    · exact .inl hk
    · exact .inr (by omega)
  · exact (u.trans hz.u (H := fun k => k = S ∨ k = D ∨ O k) (fun k e => by subst e; exact .inr (.inr h2)) (fun k _ e => by rcases e with e | e | e; exact .inr (.inr (e ▸ h2)); exact .inl e; exact .inr (.inl e)))
theorem nx_go (X : Nat) (v la : Int) : nxS X v la = nxW X (if v ≤ la then 3 else 7) := by unfold nxS; split <;> rfl
theorem adv_is (L : List Int) (a : Int) : adv L a 1 = ptq L a ((ldq L a + 1) % 18446744073709551616) := by
  unfold adv; rw [ptv_eq, ldv_eq, IntKind.wrap_u64]
theorem hk_is {c : Cfg} (hc : OkC c) {v : Int} (h1 : 1 ≤ v) (h2 : v ≤ nodesN c) : (wOf c).hk ((wOf c).cl v) = skN c (kindV c v) := by
  have := (node_kind hc h1 h2).1
  show (⟨plcc c 7 (((kindV c v).toNat : Nat) : Int) 0, nxtL c⟩ : Sk) = _
  rw [show (((kindV c v).toNat : Nat) : Int) = kindV c v by omega]
set_option maxHeartbeats 4000000 in
theorem step_wk (hc : OkC c) (h : WKM w X O Dp N m) (hs : St w S D L cc) (hm : Lay.IsMap w N c) (a1 : ¬ Dp S) (a2 : ¬ Dp D) (a3 : ¬ O N) (a4 : N ≠ S) (a5 : N ≠ D)
    (wm : WKW c t m) (ww : WW L) (h0 : 0 ≤ cc) (h1 : cc ≤ 900000000) (ht : t ≤ 900000000) :
    Calls Tryz.prog 234 #[ptr X, ptr S] w fun e w' => e = .returned (.bool (decide ((wstp (wOf c) L m).2.pc = 0))) ∧
      WBehind w S D N X O Dp (wstp (wOf c) L m).1 (wcost m cc) (wstp (wOf c) L m).2 w' := by
  obtain ⟨g1, g2, g3, g4, g5, pp, h5, h6⟩ := id h
  have hX := h.lt
  have hn1 := (Lay.bds hc).n1
  have dX : Dp X := g3 X g2
  have nS : X ≠ S := fun e => a1 (e ▸ dX)
  have nD : X ≠ D := fun e => a2 (e ▸ dX)
  obtain ⟨m0, hm0⟩ : ∃ m0 : Wn, m0 = wq m := ⟨_, rfl⟩
  have zs : ∀ {w1}, Sb w1 X (some ⟨N, 0, none⟩) { swOf m (nxW X m.pc) pp with ek := 0, ea := 0 } → UF (fun k => k = X) w w1 → Ss w1 w1 X S D N c (swOf m0 (nxW X m.pc) pp) L cc := fun {w1} hz u => by
    subst hm0
    exact ⟨hz, St_same hs (u.block S hs.ltS (Ne.symm nS)) (u.block D hs.row.lt (Ne.symm nD)), IsMap_same hm u.size (u.block N hm.1 (Ne.symm g1)), hc, ⟨nS, nD, Ne.symm g1, a4, a5⟩, .refl _ _⟩
  have hp : m.pc = 0 ∨ m.pc = 1 ∨ m.pc = 2 ∨ m.pc = 3 ∨ m.pc = 4 ∨ m.pc = 5 ∨ m.pc = 6 ∨ m.pc = 7 := by omega
  have fin : ∀ (f : Nat) (L' : List Int) (cc' : Int) (m' : Wn), nxW X m.pc = fns f X → (∀ a w, (callFunc f a).run Tryz.prog w = .ok (.enter f a) w) →
      (∀ w1, Ss w1 w1 X S D N c (swOf m0 (nxW X m.pc) pp) L cc → UF (fun k => k = X) w w1 → Calls Tryz.prog f #[ptr X, ptr S] w1 fun e w' => e = .returned (.tuple #[]) ∧ WBehind w S D N X O Dp L' cc' m' w') →
      Calls Tryz.prog 234 #[ptr X, ptr S] w fun e w' => e = .returned (.bool (decide (m'.pc = 0))) ∧ WBehind w S D N X O Dp L' cc' m' w' := fun f L' cc' m' hf hen hN => by
    refine sstep_raw h5 hf hen (decide (m'.pc = 0)) _ (fun w1 hz u => hN w1 (zs hz u) u) ?_
    rintro w' ⟨⟨O', D', hk, _⟩, _⟩
    exact hk.nx
  have uo : ∀ {w1}, UF (fun k => k = X) w w1 → UF (fun k => k = S ∨ k = D ∨ O k) w w1 := fun u => u.mono fun k _ e => by subst e; exact .inr (.inr g2)
  have ec : m.pc ≠ 0 → wcost m cc = cc + 1 := fun e => by unfold wcost; rw [if_neg e]
  rcases hp with p | p | p | p | p | p | p | p
  · have e : wstp (wOf c) L m = (L, m0) := by rw [hm0]; simp [wstp, p]
    rw [e]
    refine (sstep_off (ptr S) h5 (by show nxW X m.pc = _; rw [p]; rfl)).mono ?_
    rintro e w' ⟨rfl, hz, u⟩
    have hz' := zs hz u
    refine ⟨by subst hm0; simp [wq, p], ?_⟩
    have : wcost m cc = cc := by unfold wcost; rw [if_pos p]
    rw [this]
    exact .of h hz' (uo u) (by subst hm0; rfl) (by subst hm0; exact g5) (by subst hm0; show m.pc ≠ 6; omega)
  · rw [ec (by omega)]
    have e : wstp (wOf c) L m = (L, { wq m with w := ldq L 2, pc := if hiw (ldq L 2) = m.cy % 4294967296 ∧ low (ldq L 2) < partsC c then 2 else 0 }) := by
      rw [← parts_is hc, ← sweep2 c]
      unfold wstp; rw [if_pos p]; rfl
    rw [e]
    refine fin 114 _ _ _ (by rw [p]; rfl) (fun a w => by simp [go_sem]) fun w1 hz u => ?_
    refine (seeSweepS hz h0 (by omega) ww (by subst hm0; exact wm.cy)).mono ?_
    rintro e w' ⟨rfl, hk⟩
    subst hm0
    refine ⟨rfl, .of (pp := pp) h hk (uo u) ?_ ?_ ?_⟩
    · show Swc.mk _ (if hiw (ldq L 2) = m.cy % 4294967296 ∧ low (ldq L 2) < partsC c then fns 128 X else .nilFunc) _ _ _ _ _ _ _ = swOf _ (nxW X (if hiw (ldq L 2) = m.cy % 4294967296 ∧ low (ldq L 2) < partsC c then 2 else 0)) pp
      split <;> rfl
    · show (if _ then 2 else 0) ≤ 7; split <;> omega
    · show (if _ then 2 else 0) ≠ 6; split <;> omega
  · rw [ec (by omega)]
    by_cases hx : (0 ≤ (2 : Int) ∧ (2 : Int) < L.length) ∧ L.getD (2 : Int).toNat 0 = m.w
    · have e : wstp (wOf c) L m = (ptq L 2 (m.w + 1), wgo { wq m with part := low m.w, last := wmin ((low m.w + 1) * c.sw) (nodesN c) } (low m.w * c.sw + 1)) := by
        have hs2 : (wOf c).sw = 2 := sweep2 c
        unfold wstp; rw [if_neg (by omega), if_pos p, hs2, if_pos hx]; rfl
      rw [e]
      refine fin 128 _ _ _ (by rw [p]; rfl) (fun a w => by simp [go_sem]) fun w1 hz u => ?_
      refine (takePartS hz h0 (by omega) (by subst hm0; exact wm.w) (by subst hm0; exact wm.p2 p) (by subst hm0; exact (swB_iff ..).2 hx)).mono ?_
      rintro e w' ⟨rfl, hk⟩
      subst hm0
      refine ⟨rfl, .of (pp := pp) h hk (uo u) ?_ ?_ ?_⟩
      · rw [nx_go]; rfl
      · show (if _ then 3 else 7) ≤ 7; split <;> omega
      · show (if _ then 3 else 7) ≠ 6; split <;> omega
    · have e : wstp (wOf c) L m = (L, { wq m with pc := 0 }) := by
        have hs2 : (wOf c).sw = 2 := sweep2 c
        unfold wstp; rw [if_neg (by omega), if_pos p, hs2, if_neg hx]
      rw [e]
      refine fin 128 _ _ _ (by rw [p]; rfl) (fun a w => by simp [go_sem]) fun w1 hz u => ?_
      have hb : swB L 2 m.w = false := by
        cases hb : swB L 2 m.w with
        | false => rfl
        | true => exact absurd ((swB_iff ..).1 hb) hx
      refine (takePartNoS hz h0 (by omega) (by subst hm0; exact wm.w) (by subst hm0; exact wm.p2 p) (by subst hm0; exact hb)).mono ?_
      rintro e w' ⟨rfl, hk⟩
      subst hm0
      exact ⟨rfl, .of (pp := pp) h hk (uo u) rfl (by simp) (by simp)⟩
  · rw [ec (by omega)]
    have hv := wm.v (by omega) (by omega)
    have hl := wm.la
    have e : wstp (wOf c) L m = (L, if ldq L (plcc c 15 m.v 0) = 1 then { wq m with pc := 4 } else wgo (wq m) (m.v + 1)) := by
      simp [wstp, p]; rfl
    rw [e]
    refine fin 164 _ _ _ (by rw [p]; rfl) (fun a w => by simp [go_sem]) fun w1 hz u => ?_
    refine (seeStateS hz h0 (by omega) (by subst hm0; show 0 ≤ m.v; omega) (by subst hm0; show m.v ≤ 1000000; omega)).mono ?_
    rintro e w' ⟨rfl, hk⟩
    subst hm0
    refine ⟨rfl, .of (pp := pp) h hk (uo u) ?_ ?_ ?_⟩
    · show (if ldq L (plcc c 15 m.v 0) = 1 then _ else _) = _
      by_cases hx : ldq L (plcc c 15 m.v 0) = 1
      · simp only [if_pos hx]; rfl
      · simp only [if_neg hx]; rw [nx_go]; rfl
    · by_cases hx : ldq L (plcc c 15 m.v 0) = 1
      · simp only [if_pos hx]; omega
      · simp only [if_neg hx]; show (if _ then 3 else 7) ≤ 7; split <;> omega
    · by_cases hx : ldq L (plcc c 15 m.v 0) = 1
      · simp only [if_pos hx]; omega
      · simp only [if_neg hx]; show (if _ then 3 else 7) ≠ 6; split <;> omega
  · rw [ec (by omega)]
    have hv := wm.v (by omega) (by omega)
    have hl := wm.la
    have e : wstp (wOf c) L m = (L, if ldq L (plcc c 16 m.v 0) < m.cy then { wq m with pc := 5 } else wgo (wq m) (m.v + 1)) := by
      simp [wstp, p]; rfl
    rw [e]
    refine fin 181 _ _ _ (by rw [p]; rfl) (fun a w => by simp [go_sem]) fun w1 hz u => ?_
    refine (seeMarkS hz h0 (by omega) (by subst hm0; show 0 ≤ m.v; omega) (by subst hm0; show m.v ≤ 1000000; omega)).mono ?_
    rintro e w' ⟨rfl, hk⟩
    subst hm0
    refine ⟨rfl, .of (pp := pp) h hk (uo u) ?_ ?_ ?_⟩
    · show (if ldq L (plcc c 16 m.v 0) < m.cy then _ else _) = _
      by_cases hx : ldq L (plcc c 16 m.v 0) < m.cy
      · simp only [if_pos hx]; rfl
      · simp only [if_neg hx]; rw [nx_go]; rfl
    · by_cases hx : ldq L (plcc c 16 m.v 0) < m.cy
      · simp only [if_pos hx]; omega
      · simp only [if_neg hx]; show (if _ then 3 else 7) ≤ 7; split <;> omega
    · by_cases hx : ldq L (plcc c 16 m.v 0) < m.cy
      · simp only [if_pos hx]; omega
      · simp only [if_neg hx]; show (if _ then 3 else 7) ≠ 6; split <;> omega
  · rw [ec (by omega)]
    have hv := wm.v (by omega) (by omega)
    have hl := wm.la
    have e : wstp (wOf c) L m = (ptq L (plcc c 15 m.v 0) 0, { m with ek := 5, ea := m.v, x := mPush (skN c (kindV c m.v)) m.v, pc := 6 }) := by
      rw [← hk_is hc hv.1 (by omega)]
      simp [wstp, p]; rfl
    rw [e]
    have hkd := node_kind hc hv.1 (show m.v ≤ nodesN c by omega)
    refine fin 193 _ _ _ (by rw [p]; rfl) (fun a w => by simp [go_sem]) fun w1 hz u => ?_
    refine (freeNodeS hz h0 (by omega) (by subst hm0; show 0 ≤ m.v; omega) (by subst hm0; show m.v ≤ 1000000; omega) (by subst hm0; show -10 ≤ kindV c m.v ∧ kindV c m.v ≤ 10; omega)).mono ?_
    rintro e w' ⟨rfl, M, hmm, hM, hk⟩
    subst hm0
    exact ⟨rfl, .push (M := M) h hk u rfl rfl hmm hM hz.mp.1⟩
  · rw [ec (by omega)]
    have hv := wm.v (by omega) (by omega)
    have hl := wm.la
    obtain ⟨M, rfl, hmm, oM, nMX, nMN⟩ := h6 p
    obtain ⟨hx1, hx2, hx3⟩ := wm.x p
    have dM : Dp M := g3 M oM
    have mS : M ≠ S := fun e => a1 (e ▸ dM)
    have mD : M ≠ D := fun e => a2 (e ▸ dM)
    have e1 : (wstp (wOf c) L m).1 = (sstp L m.x).1 := by simp [wstp, p]
    have e2 : (wstp (wOf c) L m).2 = if (sstp L m.x).2.pc = 0 then wgo { m0 with x := (sstp L m.x).2 } (m.v + 1) else { m0 with x := (sstp L m.x).2 } := by rw [hm0]; simp [wstp, p]
    rw [e1, e2]
    have hstp : ∀ w1, Ss w1 w1 X S D N c (swOf m0 (nxW X m.pc) (some ⟨M, 0, none⟩)) L cc → UF (fun k => k = X) w w1 → Calls Tryz.prog 209 #[ptr M, ptr S] w1 fun e w' => e = .returned (.bool (decide ((sstp L m.x).2.pc = 0))) ∧ Mi w1 w' M S D (lvN N) N (sstp L m.x).2 (sstp L m.x).1 (cc + 1) := fun w1 hz u => by
      have hmm' : MM w1 M (lvN N) m.x := (u.block M hmm.lt nMX).trans hmm
      have k := step_any w1 (hmm'.mi hz.st (by rw [hx3]; exact lk_n hc hz.mp) mS mD ⟨Ne.symm nMN, a4, a5⟩) hx1 ww h0 (by omega) (by omega)
      have ecs : cst m.x cc = cc + 1 := by unfold cst; rw [if_neg hx2]
      rw [ecs] at k; exact k
    generalize sstp L m.x = y at hstp ⊢
    obtain ⟨L', x'⟩ := y
    dsimp only at hstp ⊢
    have zs2 : ∀ {w1 w2}, Ss w1 w1 X S D N c (swOf m0 (nxW X m.pc) (some ⟨M, 0, none⟩)) L cc → Mi w1 w2 M S D (lvN N) N x' L' (cc + 1) → Ss w2 w2 X S D N c (swOf m0 (nxW X m.pc) (some ⟨M, 0, none⟩)) L' (cc + 1) := fun {w1 w2} hz hb =>
      ⟨hz.mem.same (hb.u'.block X hz.mem.lt (Ne.symm nMX) nS nD), hb.st', IsMap_same hz.mp hb.u'.size (hb.u'.block N hz.mp.1 (Ne.symm nMN) a4 a5), hc, hz.n, .refl _ _⟩
    have uf1 : ∀ {w1 w2}, UF (fun k => k = X) w w1 → Mi w1 w2 M S D (lvN N) N x' L' (cc + 1) → UF (fun k => k = S ∨ k = D ∨ O k) w w2 := fun u hb => u.trans (UF.of_u3 hb.u') (fun k e => by subst e; exact .inr (.inr g2)) (fun k _ e => by rcases e with e | e | e; exact .inr (.inr (e ▸ oM)); exact .inl e; exact .inr (.inl e))
    by_cases hq : x'.pc = 0
    · rw [if_pos hq]
      rw [show decide (x'.pc = 0) = true by simpa using hq] at hstp
      refine fin 203 _ _ _ (by rw [p]; rfl) (fun a w => by simp [go_sem]) fun w1 hz u => ?_
      refine (push_end (c := c) (D := D) (L := L') (cc := cc + 1) hz.mem rfl (by subst hm0; show 0 ≤ m.v; omega) (by subst hm0; show m.v ≤ 1000000; omega) _ (hstp w1 hz u) (fun w2 hb => zs2 hz hb)).mono ?_
      rintro e w' ⟨rfl, w2, hb, hk⟩
      subst hm0
      refine ⟨rfl, .of (pp := some ⟨M, 0, none⟩) h hk (uf1 u hb) ?_ ?_ ?_⟩
      · rw [nx_go]; rfl
      · show (if _ then 3 else 7) ≤ 7; split <;> omega
      · show (if _ then 3 else 7) ≠ 6; split <;> omega
    · rw [if_neg hq]
      rw [show decide (x'.pc = 0) = false by simpa using hq] at hstp
      refine fin 203 _ _ _ (by rw [p]; rfl) (fun a w => by simp [go_sem]) fun w1 hz u => ?_
      refine (push_on hz.mem rfl _ (hstp w1 hz u)).mono ?_
      rintro e w' ⟨rfl, hb⟩
      have s1 := u.size; have s2 := hb.u'.size
      subst hm0
      exact ⟨rfl, ⟨O, Dp, ⟨g1, g2, g3, fun k hk => by have := g4 k hk; omega, g5, some ⟨M, 0, none⟩, (zs2 hz hb).mem, fun _ => ⟨M, rfl, hb.mm, oM, nMX, nMN⟩⟩, fun k hk => .inl hk, fun k hk => .inl hk⟩, hb.st', uf1 u hb⟩
  · rw [ec (by omega)]
    have e : wstp (wOf c) L m = (adv L 3 1, { m with ek := 6, ea := m.part, pc := 0 }) := by
      rw [adv_is, ← done3 c]
      simp [wstp, p]; rfl
    rw [e]
    refine fin 165 _ _ _ (by rw [p]; rfl) (fun a w => by simp [go_sem]) fun w1 hz u => ?_
    refine (countPartS hz h0 (by omega)).mono ?_
    rintro e w' ⟨rfl, hk⟩
    subst hm0
    exact ⟨rfl, .of (pp := pp) h hk (uo u) rfl (by simp) (by simp)⟩
end
section
variable {B S D N : Nat} {c : Cfg} {w0 w w' : World} {L : List Int} {k t : Int} {X lo : Nat} {m : Wn}
theorem wkm_new {w : World} {X N : Nat} {cy : Int} (h : Sb w X (some ⟨N, 0, none⟩) (sc0 cy (fns 114 X))) (hn : X ≠ N) : WKM w X (fun k => k = X) (fun k => k = X) N (wNew cy) :=
  ⟨hn, rfl, fun k h => h, fun k e => by subst e; exact h.lt, by simp [wNew], none, h, fun e => by simp [wNew] at e⟩
theorem wkw_new {c : Cfg} (hc : OkC c) {cy : Int} (h : 0 ≤ cy ∧ cy ≤ 18446744073709551615) : WKW c 0 (wNew cy) :=
  ⟨h, by simp [wNew], by simp [wNew], fun e => by simp [wNew] at e, fun e => by simp [wNew] at e, (show (0 : Int) ≤ nodesN c by have := (Lay.bds hc).n0; omega), fun e => by simp [wNew] at e, by omega⟩
end
end Go.Proofs.YthoiaffeenhfgaaGreat

namespace Go.Proofs.YthoiaffeenhfgaaGreat
open Go.RowKit
set_option linter.unusedVariables false
set_option linter.unusedSimpArgs false
set_option maxRecDepth 100000
open Lay (plcc plc shOf nodesN OkC Cfg Norm firstV Rep lenL things)
section
variable {B S D N : Nat} {c : Cfg} {w0 w w' : World} {L : List Int} {k t : Int} {X lo : Nat} {m : Wn}
theorem PO.los (h : PO B S D N c w0 w L k) {w1 : World} (hb : w.heap.size ≤ w1.heap.size) : S < w.heap.size ∧ D < w.heap.size ∧ N < w.heap.size ∧ B ≤ w.heap.size ∧ w.heap.size ≤ w1.heap.size :=
  ⟨h.lt.1, h.lt.2.1, h.lt.2.2, Nat.le_trans h.lo.2.2 h.bel.size, hb⟩
end
section
variable {B S D N : Nat} {c : Cfg} {w0 w1 w w' : World} {L : List Int} {k t : Int} {X lo : Nat} {m : Wn}
end
theorem rep_list {c : Cfg} {L : List Int} (h : Rep (shOf c) L (firstV c)) (hn : ∀ t ∈ things (shOf c), Norm t) : L = (things (shOf c)).map (firstV c) := by
  obtain ⟨hl, hr⟩ := h
  apply List.ext_getElem
  · rw [List.length_map, Lay.things_len]; exact hl
  · intro i h1 h2
    have hi : i < (things (shOf c)).length := by rw [Lay.things_len, ← hl]; exact h1
    have e3 := Lay.seg_all (shOf c) i hi
    have e4 : Lay.gt (things (shOf c)) i = (things (shOf c))[i] := by simp [Lay.gt, List.getD, List.getElem?_eq_getElem hi]
    rw [e4] at e3
    have := hr _ (hn _ (List.getElem_mem hi)) (by rw [e3]; omega)
    rw [e3] at this
    simp only [List.getElem_map]
    rw [← this]
    simp [List.getD, List.getElem?_eq_getElem h1]
end Go.Proofs.YthoiaffeenhfgaaGreat
